/- How many parts each expert has, counted along the parts (no program in sight). -/
import Derived.Test.YtmechoeoaadfeaaMdlX
namespace Go.Proofs.Ytmechoeoaadfeaa.Md
open Go.Proofs.Ytmechoeoaadfeaa

def counts (n : Nat) (ps : List Pt) : List Int := (List.range n).map fun (e : Nat) => (many ps (e : Int) : Int)
theorem counts_zero (n : Nat) (ps : List Pt) : counts n (ps.take 0) = List.replicate n 0 := by
  unfold counts
  rw [List.take_zero]
  apply List.ext_getElem
  · simp
  · intro i h1 h2; simp [many]
theorem counts_len (n : Nat) (ps : List Pt) : (counts n ps).length = n := by simp [counts]
theorem counts_at {n : Nat} (ps : List Pt) {x : Nat} (h : x < n) : (counts n ps).getD x 0 = (many ps (x : Int) : Int) := by
  unfold counts
  rw [List.getD_eq_getElem?_getD, List.getElem?_map, List.getElem?_range h]
  rfl
theorem counts_next {n : Nat} {ps : List Pt} {k x : Nat} {t r s : Int} (h : k < ps.length) (hE : ps.getD k pt0 = pt t r x s) {y : Int} (hy : (many (ps.take k) (x : Int) : Int) = y) : (counts n (ps.take k)).set x (y + 1) = counts n (ps.take (k + 1)) := by
  apply List.ext_getElem
  · rw [List.length_set, counts_len, counts_len]
  · intro i h1 h2
    rw [counts_len] at h2
    have hm := many_next h (i : Int)
    rw [hE] at hm
    have e2 : (counts n (ps.take (k + 1)))[i]'(by rw [counts_len]; exact h2) = (many (ps.take (k + 1)) (i : Int) : Int) := by simp [counts]
    rw [e2, List.getElem_set, hm]
    by_cases c : x = i
    · subst c
      rw [if_pos rfl, if_pos (show (pt t r (x : Int) s).2.2.1 = (x : Int) from rfl), ← hy]
      omega
    · rw [if_neg c, if_neg (show ¬ (pt t r (x : Int) s).2.2.1 = (i : Int) from fun h => c (by have h7 : (x : Int) = (i : Int) := h; omega))]
      simp [counts]
theorem parts_rise (l : Ly) (ts : List (List Int)) {i j : Nat} (h : i < j) (hj : j < (parts l ts).length) : at2 ((parts l ts).getD i pt0) < at2 ((parts l ts).getD j pt0) := by
  have h1 := List.pairwise_iff_getElem.1 (rises l ts (ts.length * 2)) i j (by show i < (parts l ts).length; omega) hj h
  rw [get_of (by omega), get_of hj]
  exact h1
theorem many_le (ps : List Pt) (e : Int) : many ps e ≤ ps.length := List.length_filter_le ..

end Go.Proofs.Ytmechoeoaadfeaa.Md
