/- The fixed answer of the laws of layer 3. -/
import Derived.Test.YtkbflhllojpgkaaMatB
namespace Go.Proofs.Ytkbflhllojpgkaa
open Go.ChangeShapes Go.WideShapes Go.ChangeAt Go.RowKit

/-- Rows that a literal has just laid. -/
theorem rep_lit {α : Type} {A : Shape α} {w : World} {F : Nat → Prop} (css : List (List Value)) (xs : List α) (e : TypeId) (h : A.all w F css xs) (hm : xs.length ≤ maxLen) :
    (sliceS A).rep (w.alloc (.cells css.flatten.toArray e)) everywhere [.slice (some ⟨w.heap.size, 0, none⟩) xs.length xs.length] xs := by
  refine ⟨_, _, css, rfl, Nat.le_refl _, hm, Shape.all_mono (Shape.all_keep h fun b _ hlt => Below.heap_alloc w _ b hlt) (fun _ _ _ => trivial), .inr ⟨w.heap.size, 0, rfl, trivial, by simp, fun j v hv => ?_⟩⟩
  rw [cell_of_row _ w.heap.size (0 + j) css.flatten.toArray e (0, 0) (heap_alloc_new w _)]
  simpa using hv
theorem row_lit (w : World) (l : List Int) (e : TypeId) (hm : l.length ≤ maxLen) : rowS.rep (w.alloc (.cells (l.map (Value.int .i64)).toArray e)) everywhere [.slice (some ⟨w.heap.size, 0, none⟩) l.length l.length] l := by
  have h := rep_lit (l.map fun x => [Value.int .i64 x]) l e (ints_all .i64 w everywhere l) hm
  rw [ints_flat] at h
  exact h
theorem rep_none {α : Type} (A : Shape α) (w : World) (F : Nat → Prop) : (sliceS A).rep w F [.slice none 0 0] [] := ⟨none, 0, [], rfl, Nat.le_refl _, Nat.zero_le _, Shape.all_nil, .inl rfl⟩

theorem bel_alloc {w w' : World} (h : Below w.heap.size w w') (o : Obj) : Below w.heap.size w (w'.alloc o) := h.alloc h.size o
theorem new_bel (w : World) (o : Obj) : Below w.heap.size w (w.alloc o) := (Below.refl _ _).alloc (Nat.le_refl _) o

theorem mawake (w : World) : Calls Try.prog 9 #[] w fun e w' => e = .returned (.bool true) ∧ Below w.heap.size w w' := by
  let w1 := w.alloc (.cells #[.int .i64 65536, .int .i64 0] 3)
  let w2 := w1.alloc (.cells #[.int .i64 0, .int .i64 65536] 3)
  let w3 := w2.alloc (.cells #[.slice (some ⟨w.heap.size, 0, none⟩) 2 2, .slice (some ⟨w.heap.size + 1, 0, none⟩) 2 2] 23)
  let w4 := w3.alloc (.cells #[.int .i64 7, .int .i64 (-9)] 3)
  have r1 : rowS.rep w1 everywhere [.slice (some ⟨w.heap.size, 0, none⟩) 2 2] [65536, 0] := row_lit w [65536, 0] 3 (by decide)
  have r2 : rowS.rep w2 everywhere [.slice (some ⟨w.heap.size + 1, 0, none⟩) 2 2] [0, 65536] := by
    have h := row_lit w1 [0, 65536] 3 (by decide)
    have e : w1.heap.size = w.heap.size + 1 := by simp [w1]
    rw [e] at h; exact h
  have r1' : rowS.rep w2 everywhere [.slice (some ⟨w.heap.size, 0, none⟩) 2 2] [65536, 0] := Shape.below r1 (new_bel _ _)
  have hm : matS.rep w3 everywhere [.slice (some ⟨w.heap.size + 2, 0, none⟩) 2 2] [[65536, 0], [0, 65536]] := by
    have h := rep_lit [[.slice (some ⟨w.heap.size, 0, none⟩) 2 2], [.slice (some ⟨w.heap.size + 1, 0, none⟩) 2 2]] [[65536, 0], [0, 65536]] 23 (Shape.all_append (Shape.all_one r1') (Shape.all_one r2)) (by decide)
    have e : w2.heap.size = w.heap.size + 2 := by simp [w2, w1]
    rw [e] at h; exact h
  have hm4 : matS.rep w4 everywhere [.slice (some ⟨w.heap.size + 2, 0, none⟩) 2 2] [[65536, 0], [0, 65536]] := Shape.below hm (new_bel _ _)
  have hv : rowS.rep w4 everywhere [.slice (some ⟨w.heap.size + 3, 0, none⟩) 2 2] [7, -9] := by
    have h := row_lit w3 [7, -9] 3 (by decide)
    have e : w3.heap.size = w.heap.size + 3 := by simp [w3, w2, w1]
    rw [e] at h; exact h
  have hB : Below w.heap.size w w4 := bel_alloc (bel_alloc (bel_alloc (new_bel _ _) _) _) _
  have hm4' := hm4
  have hv4 := Row.of_rep hv
  have hB4 := hB
  clear r1 r2 r1' hm hm4 hv hB
  simp only [w4, w3, w2, w1] at hm4' hv4 hB4
  clear w4 w3 w2 w1
  go_enter Try.func9, Try.ntmps9
  go_wp2_with fail
  refine (mapply _ _ 2 _ 2 _ _ _ _ _ hm4' hv4 (by omega) (by omega)).mono ?_
  rintro e w5 ⟨hg, hb5⟩
  rcases hg with ⟨_, a', c', rfl, hrep⟩ | ⟨hno, _⟩
  case inr => exact absurd (by intro l hl; simp at hl; rcases hl with rfl | rfl <;> rfl) hno
  have hrow := Row.of_rep hrep
  rw [show Mx.app [[65536, 0], [0, 65536]] [7, -9] = [7, -9] from by decide] at hrow
  obtain ⟨_, h0 | ⟨b, off, rfl, hc⟩⟩ := hrow
  · omega
  have hc0 : w5.cell? ⟨b, off, none⟩ = some (.int .i64 7) := hc 0 (by omega)
  have hc1 : w5.cell? ⟨b, off + 1, none⟩ = some (.int .i64 (-9)) := hc 1 (by omega)
  have hB5 := bel_then hB4 hb5
  have q1 : rowS.rep (w5.alloc (.cells #[.int .i64 1, .int .i64 2] 3)) everywhere [.slice (some ⟨w5.heap.size, 0, none⟩) 2 2] [1, 2] := row_lit w5 [1, 2] 3 (by decide)
  have q2 : matS.rep ((w5.alloc (.cells #[.int .i64 1, .int .i64 2] 3)).alloc (.cells #[.slice (some ⟨w5.heap.size, 0, none⟩) 2 2] 23)) everywhere [.slice (some ⟨w5.heap.size + 1, 0, none⟩) 1 1] [[1, 2]] := by
    have h := rep_lit [[.slice (some ⟨w5.heap.size, 0, none⟩) 2 2]] [[1, 2]] 23 (Shape.all_one q1) (by decide)
    have e : (w5.alloc (.cells #[.int .i64 1, .int .i64 2] 3)).heap.size = w5.heap.size + 1 := by simp
    rw [e] at h; exact h
  have hB7 : Below w.heap.size w ((w5.alloc (.cells #[.int .i64 1, .int .i64 2] 3)).alloc (.cells #[.slice (some ⟨w5.heap.size, 0, none⟩) 2 2] 23)) := bel_alloc (bel_alloc hB5 _) _
  clear hm4' hv4 hB4 hb5 hrep hc hB5 q1
  go_wp2_with fail
  refine (right _ 1 _ [[1, 2]] everywhere 1 2 _ q2 (by omega) (by intro l hl; simp at hl; subst hl; simp)).mono ?_
  rintro e w8 ⟨hs, rfl⟩
  obtain rfl := hs.is ⟨rfl, by intro l hl; simp at hl; subst hl; exact ⟨rfl, by intro n hn; simp at hn; rcases hn with rfl | rfl <;> rfl⟩⟩
  clear q2 hs
  go_wp2_with fail
  refine (right none 0 0 [] everywhere 1 0 _ (rep_none _ _ _) (by omega) (by simp)).mono ?_
  rintro e w9 ⟨hs, rfl⟩
  obtain rfl := hs.not (fun h => by have := h.1; simp at this)
  go_wp2
  go_ret
  exact ⟨rfl, hB7⟩

end Go.Proofs.Ytkbflhllojpgkaa
