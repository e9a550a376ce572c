/- Slices that the call owns, within structs in variables (no program in sight): what is written into a variable leaves the slices whose elements lead elsewhere; a piece of one element. -/
import Derived.Test.YtmechoeoaadfeaaMdlX
namespace Go.Proofs.Ytmechoeoaadfeaa
open Go.ChangeShapes Go.WideShapes Go.ChangeAt Go.RowKit

section
variable {α : Type} {A : Shape α} {P : Nat → Prop} {w w' : World} {base : Nat} {e : TypeId} {xs : List α}
/-- It stays where another block alone is written. -/
theorem Own.aside {v : Value} (h : Own (inS A P) w base e v xs) {M : Nat} (hg : w.grownBy w' (some M)) (hP : ∀ b, P b → b ≠ M) (hv : v.ownBlock ≠ some M) : Own (inS A P) w' base e v xs := by
  obtain ⟨css, h1, h2⟩ := h
  refine ⟨css, h1.kept hg ?_, h2.1, fun j c x hc hx => A.keep (h2.2 j c x hc hx) fun b hb hlt => hg.block b hlt (fun h => hP b hb.2 (Option.some.inj h))⟩
  cases hb : v.ownBlock with
  | none => exact .inl rfl
  | some b => exact .inr (fun c => hv (by rw [hb, c]))
/-- Where it lies. -/
theorem Own.among {a : Option Addr} {n c : Nat} {Q : Nat → Prop} (h : Own (inS A P) w base e (.slice a n c) xs) (h1 : ∀ b, P b → Q b) (h2 : ∀ b, base ≤ b → b < w.heap.size → Value.ownBlock (.slice a n c) = some b → Q b) : (sliceS A).rep w Q [.slice a n c] xs := by
  obtain ⟨css, ⟨hl, k1⟩, k2⟩ := h
  have k3 : A.all w Q css xs := ⟨k2.1, fun j c x hc hx => A.mono (k2.2 j c x hc hx) fun b hb _ => h1 b hb.2⟩
  rcases k1 with ⟨he, h0⟩ | ⟨g, cap, cur, he, hb, hg, hnc, hcm, hcs, htake⟩
  · cases he
    have hx := List.eq_nil_of_length_eq_zero h0
    subst hx
    exact rep_none _ _ _
  · cases he
    have hgl : g < w.heap.size := (Array.getElem?_eq_some_iff.1 hg).1
    refine ⟨some ⟨g, 0, none⟩, c, css, rfl, hnc, hcm, k3, .inr ⟨g, 0, rfl, h2 g hb hgl rfl, hgl, fun j u hu => ?_⟩⟩
    rw [cell_of_row w g (0 + j) cur e (0, 0) hg]
    have hj := (List.getElem?_eq_some_iff.1 hu).1
    rw [← htake, List.getElem?_take] at hu
    split at hu
    · simpa using hu
    · cases hu
theorem Own.plain {a : Option Addr} {n c : Nat} (h : Own (inS A P) w base e (.slice a n c) xs) : (sliceS A).rep w everywhere [.slice a n c] xs := h.among (fun _ _ => trivial) (fun _ _ _ _ => trivial)
/-- One element that 'append(v, x)' appends: in a block of its own. -/
theorem Own.esrc {v : Value} {F : Nat → Prop} {cs : List Value} {x : α} (h : Own A w base e v xs) (hx : A.rep w F cs x) (hF : ∀ b, F b → some b ≠ v.ownBlock) :
    (sliceS A).rep (w.alloc (.cells cs.toArray e)) (fun b => (F b ∧ b < w.heap.size) ∨ b = w.heap.size) [.slice (some ⟨w.heap.size, 0, none⟩) 1 1] [x] ∧ ∀ b, ((F b ∧ b < w.heap.size) ∨ b = w.heap.size) → some b ≠ v.ownBlock := by
  refine ⟨rep_one hx, fun b hb h' => ?_⟩
  rcases hb with hf | rfl
  · exact hF b hf.1 h'
  · have := (h.lt _ h'.symm).2; omega
end
theorem Box.set1 {u : World} {b : Nat} {t : TypeId} {p0 p1 : Value} (h : Box u b t #[p0, p1]) (v : Value) : Box (u.setCell ⟨b, 1, none⟩ v) b t #[p0, v] := by
  have := h.set 1 v
  simp only [List.setIfInBounds_toArray, List.set_cons_zero, List.set_cons_succ] at this
  exact this
theorem Box.set1of3 {u : World} {b : Nat} {t : TypeId} {p0 p1 p2 : Value} (h : Box u b t #[p0, p1, p2]) (v : Value) : Box (u.setCell ⟨b, 1, none⟩ v) b t #[p0, v, p2] := by
  have := h.set 1 v
  simp only [List.setIfInBounds_toArray, List.set_cons_zero, List.set_cons_succ] at this
  exact this

/-- 's[t:t+1]' -/
theorem rep_piece {w : World} {F : Nat → Prop} {a : Option Addr} {n c : Nat} {m : List (List Int)} (h : matS.rep w F [.slice a n c] m) {t : Nat} (ht : t < n) :
    matS.rep w F [.slice (if c = t then a else a.map (·.add (t * 1))) 1 (c - t)] [m.getD t []] := by
  have hl := (sliceS_len h).1
  have h1 := rep_drop h (k := t) (by omega)
  have h2 := rep_take h1 (k := 1) (by omega)
  have e : (m.drop t).take 1 = [m.getD t []] := by
    rw [get_of (by omega), List.drop_eq_getElem_cons (by omega)]
    rfl
  rw [e] at h2
  exact h2

/-- What 'make([]int, n)' lays. -/
theorem row_made (w : World) (n : Nat) (hn : n ≤ 100000) : rowS.rep (w.alloc (.cells (madeCells #[.int .i64 0] n) 3)) (w.heap.size ≤ ·) [.slice (some ⟨w.heap.size, 0, none⟩) n n] (List.replicate n 0) :=
  (Row.made (e := 3) w n).rep (Nat.le_refl _) (by unfold maxLen; omega) (fun b off h => by injection h with h; injection h with h1 h2 h3; subst h1; exact Nat.le_refl _)

namespace Md
theorem still_all {dim : Int} {ls : List Ly} {ts : List (List Int)} (h : Right dim ls) (ht : TRight dim ts) : Right dim (ls.map stillL) ∧ forward (ls.map stillL) ts = ts := by
  obtain ⟨n, rfl⟩ : ∃ n : Nat, dim = n := ⟨dim.toNat, by have := h.1; omega⟩
  refine ⟨⟨h.1, h.2.1, by rw [List.length_map]; exact h.2.2.1, by rw [List.length_map]; exact h.2.2.2.1, fun l hl => ?_⟩, still_forward h.2.2.2.2 ht⟩
  obtain ⟨x, hx, rfl⟩ := List.mem_map.1 hl
  exact stillL_right (h.2.2.2.2 x hx)
theorem wides_take (ls : List Ly) {k : Nat} (h : k < ls.length) {l : Ly} (hE : ls.getD k ly0 = l) : (ls.map wideL).take k ++ [wideL l] = (ls.map wideL).take (k + 1) := by
  rw [List.take_succ_eq_append_getElem (by rw [List.length_map]; exact h), List.getElem_map, ← hE, get_of h]
theorem wides_right {dim : Int} {ls : List Ly} (h : Right dim ls) : Right dim (ls.map wideL) :=
  ⟨h.1, h.2.1, by rw [List.length_map]; exact h.2.2.1, by rw [List.length_map]; exact h.2.2.2.1, fun l hl => by obtain ⟨x, hx, rfl⟩ := List.mem_map.1 hl; exact wideL_right (h.2.2.2.2 x hx)⟩
theorem stills_take (ls : List Ly) {k : Nat} (h : k < ls.length) {l : Ly} (hE : ls.getD k ly0 = l) : (ls.map stillL).take k ++ [stillL l] = (ls.map stillL).take (k + 1) := by
  rw [List.take_succ_eq_append_getElem (by rw [List.length_map]; exact h), List.getElem_map, ← hE, get_of h]
theorem stillX_take (xs : List Xp) {k : Nat} (h : k < xs.length) {x : Xp} (hE : xs.getD k xp0 = x) : (xs.map stillX).take k ++ [stillX x] = (xs.map stillX).take (k + 1) := by
  rw [List.take_succ_eq_append_getElem (by rw [List.length_map]; exact h), List.getElem_map, ← hE, get_of h]
end Md

end Go.Proofs.Ytmechoeoaadfeaa
