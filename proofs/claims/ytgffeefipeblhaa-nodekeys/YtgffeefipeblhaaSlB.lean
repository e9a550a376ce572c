/- What slices.Contains and slices.Delete of numbers, and slices.Clone of rows do when called. -/
import Derived.Test.YtgffeefipeblhaaSlicesA
import Derived.Test.YtgffeefipeblhaaJa
import Derived.Shelf.Slices.Turned
import Derived.Shelf.Slices.Cells
namespace Go.Proofs.Ytgffeefipeblhaa
open Go.ChangeShapes Go.WideShapes Go.ChangeAt Go.RowKit

def renContains : Go.Shelf.Ren := ⟨fun | 107 => 39 | 108 => 51 | n => n, fun | 28 => 29 | 3 => 3 | 4 => 4 | 0 => 0 | n => n, fun | n => n⟩
theorem laysContains : Go.Proofs.Lays.n107 Try.prog renContains :=
  { mixed := by kernel_rfl
    f107 := Try.func39.trans (congrArg some (by kernel_rfl))
    f108 := Try.func51.trans (congrArg some (by kernel_rfl))
    t0 := Try.underlying0
    a0 := Try.isAgg0
    z0 := Try.sizeOf0
    v0 := Try.zeroValue0
    t3 := Try.underlying3
    a3 := Try.isAgg3
    z3 := Try.sizeOf3
    v3 := Try.zeroValue3
    t4 := Try.underlying4
    a4 := Try.isAgg4
    z4 := Try.sizeOf4
    v4 := Try.zeroValue4
    t28 := Try.underlying29
    a28 := Try.isAgg29
    z28 := Try.sizeOf29
    v28 := Try.zeroValue29 }

theorem contains (a : Option Addr) (n c : Nat) (l : List Int) (x : Int) (w : World) (h : Row .i64 w a n l) (hn : n ≤ 100000) :
    Calls Try.prog 39 #[.slice a n c, .int .i64 x] w fun e w' => e = .returned (.bool (l.contains x)) ∧ w' = w := by
  have hl := h.len
  rcases h.2 with h0 | ⟨b, off, rfl, hc⟩
  · subst h0
    have hnil := List.eq_nil_of_length_eq_zero hl
    subst hnil
    exact Any.slices_Contains_int_empty laysContains a c x w
  · have ht : l.take n = l := List.take_of_length_le (by omega)
    have := Any.slices_Contains_int laysContains b off n c l x w (by omega) (by omega) (fun j hj => hc j (by omega))
    rw [ht] at this
    exact this

/-- All but the one at i. -/
def delAt (l : List Int) (i : Nat) : List Int := l.take i ++ l.drop (i + 1)
theorem delAt_len (l : List Int) (i : Nat) (h : i < l.length) : (delAt l i).length = l.length - 1 := by
  unfold delAt
  simp only [List.length_append, List.length_take, List.length_drop]
  omega
end Go.Proofs.Ytgffeefipeblhaa
