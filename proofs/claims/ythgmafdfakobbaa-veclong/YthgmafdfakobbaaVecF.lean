/- The fixed answer of the laws of layer 2. -/
import Derived.Test.YthgmafdfakobbaaVecE
namespace Go.Proofs.Ythgmafdfakobbaa
open Go.ChangeShapes Go.WideShapes Go.ChangeAt Go.RowKit

theorem bel_then {w w1 w2 : World} (h : Below w.heap.size w w1) (k : Below w1.heap.size w1 w2) : Below w.heap.size w w2 := h.trans (k.mono h.size)

/-- A row that a literal has just laid. -/
theorem Row.lit (w : World) (cs : Array Value) (l : List Int) (hc : cs.toList = l.map (Value.int .i64)) : Row .i64 (w.alloc (.cells cs 3)) (some ⟨w.heap.size, 0, none⟩) l.length l :=
  Row.of_block (heap_alloc_new w _) hc

theorem vawake (w : World) : Calls Try.prog 8 #[] w fun e w' => e = .returned (.bool true) ∧ Below w.heap.size w w' := by
  have hA : Row .i64 (w.alloc (.cells #[.int .i64 65536, .int .i64 131072] 3)) (some ⟨w.heap.size, 0, none⟩) 2 [65536, 131072] := Row.lit w _ _ rfl
  have h1 : Below w.heap.size w (w.alloc (.cells #[.int .i64 65536, .int .i64 131072] 3)) := (Below.refl _ _).alloc (Nat.le_refl _) _
  have h2 : Below w.heap.size w ((w.alloc (.cells #[.int .i64 65536, .int .i64 131072] 3)).alloc (.cells #[.int .i64 196608, .int .i64 65536] 3)) := h1.alloc (by simp) _
  have hA2 : Row .i64 ((w.alloc (.cells #[.int .i64 65536, .int .i64 131072] 3)).alloc (.cells #[.int .i64 196608, .int .i64 65536] 3)) (some ⟨w.heap.size, 0, none⟩) 2 [65536, 131072] := hA.keep ((Below.refl _ _).alloc (Nat.le_refl _) _)
  have hB2 : Row .i64 ((w.alloc (.cells #[.int .i64 65536, .int .i64 131072] 3)).alloc (.cells #[.int .i64 196608, .int .i64 65536] 3)) (some ⟨w.heap.size + 1, 0, none⟩) 2 [196608, 65536] := by
    have h := Row.lit (w.alloc (.cells #[.int .i64 65536, .int .i64 131072] 3)) #[.int .i64 196608, .int .i64 65536] [196608, 65536] rfl
    simpa using h
  have e1 : Vx.dot [65536, 131072] [196608, 65536] = 327680 := by decide
  go_enter Try.func8, Try.ntmps8
  go_wp2_with fail
  refine (vdot _ _ 2 _ _ _ _ _ hA2 hB2 (by omega)).mono ?_
  rintro e w1 ⟨rfl, hb1⟩
  rw [e1]
  clear e1 hA hA2 hB2 h1
  have h3 := h2.trans (hb1.mono h2.size)
  clear hb1 h2
  go_wp2_with fail
  refine (vadd_no _ _ 1 0 _ _ _ (by omega)).mono ?_
  rintro e w2 ⟨rfl, hb2⟩
  have h4 := (h3.alloc h3.size (.cells #[.int .i64 1] 3)).trans (hb2.mono (by have := h3.size; simp; omega))
  clear hb2
  go_wp2
  go_ret
  exact ⟨rfl, h4⟩

end Go.Proofs.Ythgmafdfakobbaa
