/- What the functions of package vec do when called (fifth part: Scale and Relu), and the laws' fixed answer. -/
import Derived.Test.YtkbflhllojpgkaaVecD
import Derived.Deep.OwnRows
namespace Go.Proofs.Ytkbflhllojpgkaa
open Go.ChangeShapes Go.WideShapes Go.ChangeAt Go.RowKit

/-- A row that is filled from its head: the first k numbers are there, the rest are 0. -/
def fill (done : List Int) (n : Nat) : List Int := done ++ List.replicate (n - done.length) 0
theorem fill_length (done : List Int) (n : Nat) (h : done.length ≤ n) : (fill done n).length = n := by simp [fill]; omega
theorem fill_full (done : List Int) (n : Nat) (h : done.length = n) : fill done n = done := by simp [fill, h]
theorem fill_set (done : List Int) (n : Nat) (x : Int) (h : done.length < n) : (fill done n).set done.length x = fill (done ++ [x]) n := by
  unfold fill
  rw [List.set_append_right _ _ (Nat.le_refl _), Nat.sub_self, List.append_assoc]
  congr 1
  rw [show n - done.length = (n - (done ++ [x]).length) + 1 by simp; omega, List.replicate_succ, List.set_cons_zero]
  rfl
theorem fill_zero (n : Nat) : (madeCells #[.int .i64 0] n).toList = (fill [] n).map (Value.int .i64) := by
  apply List.ext_getElem
  · simp [fill, madeCells]
  · intro i h1 h2
    simp [fill, madeCells, Nat.mod_one]
theorem fill_get (done : List Int) (n k : Nat) (h : k < n) (hd : done.length ≤ n) : ∃ z, ((fill done n).map (Value.int .i64))[k]? = some (.int .i64 z) := by
  refine ⟨(fill done n)[k]'(by rw [fill_length _ _ hd]; exact h), ?_⟩
  rw [List.getElem?_map, List.getElem?_eq_getElem (by rw [fill_length _ _ hd]; exact h)]; rfl

end Go.Proofs.Ytkbflhllojpgkaa
