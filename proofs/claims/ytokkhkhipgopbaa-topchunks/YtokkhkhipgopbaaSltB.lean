/- What the document's ahead and Slot do when called, and the fixed answer of the laws of layer 14. -/
import Derived.Test.YtokkhkhipgopbaaSltA
namespace Go.Proofs.Ytokkhkhipgopbaa
open Go.ChangeShapes Go.WideShapes Go.ChangeAt Go.RowKit Go.Maps

theorem Sl.cut_yes {l : List Int} {x : Int} {p P m : Nat} (hm : Sl.cnt l x (min p P) = m) (h : p < P) (hp : p < l.length) (e : l.getD p 0 = x) : Sl.cnt l x (min (p + 1) P) = m + 1 := by
  rw [Nat.min_eq_left (by omega)] at hm ⊢
  rw [Sl.cnt_yes hp e, hm]
theorem Sl.cut_no {l : List Int} {x : Int} {p P m : Nat} (hm : Sl.cnt l x (min p P) = m) (hp : p < l.length) (h : ¬ (p < P ∧ l.getD p 0 = x)) : Sl.cnt l x (min (p + 1) P) = m := by
  by_cases hlt : p < P
  · rw [Nat.min_eq_left (by omega)] at hm ⊢
    rw [Sl.cnt_no hp (fun e => h ⟨hlt, e⟩)]
    exact hm
  · rw [Nat.min_eq_right (by omega)] at hm ⊢
    exact hm

theorem fits4 : ∀ x ∈ ([0, 1, 0, 1] : List Int), (Lit.int .i64 x).wf = true := by decide
theorem slots4 : Sl.slots [0, 1, 0, 1] 2 1 = [0, 0, -1, -1] := by decide

end Go.Proofs.Ytokkhkhipgopbaa
