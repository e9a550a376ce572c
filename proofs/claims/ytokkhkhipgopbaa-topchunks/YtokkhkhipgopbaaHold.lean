/- What the functions of package fix, the document's answers for layer 1, and the laws' fixed answer do when called: the integer functions of Fx, the world as it was, for every int. -/
import Derived.Test.YtokkhkhipgopbaaBase
import Derived.Test.YtokkhkhipgopbaaFx
namespace Go.Proofs.Ytokkhkhipgopbaa
open Go.ChangeShapes Go.WideShapes Go.ChangeAt Go.RowKit

set_option maxRecDepth 100000 in
theorem hold (n : Int) (w : World) : Calls Try.prog 57 #[.int .i64 n] w fun e w' => e = .returned (.int .i64 (Fx.hold n)) ∧ w' = w := by
  by_cases h1 : 2147483647 < n
  · go_enter Try.func57, Try.ntmps57
    go_wp2
    go_ret
    exact ⟨ret_int (Fx.hold_big h1).symm, rfl⟩
  · by_cases h2 : n < -2147483647
    · go_enter Try.func57, Try.ntmps57
      go_wp2
      go_ret
      exact ⟨ret_int (Fx.hold_small h2).symm, rfl⟩
    · go_enter Try.func57, Try.ntmps57
      go_wp2
      go_ret
      exact ⟨ret_int (Fx.hold_id (by omega) (by omega)).symm, rfl⟩
set_option maxRecDepth 100000 in
theorem fadd (a b : Int) (w : World) : Calls Try.prog 51 #[.int .i64 a, .int .i64 b] w fun e w' => e = .returned (.int .i64 (Fx.add a b)) ∧ w' = w := by
  have := Fx.hold_lo a; have := Fx.hold_hi a; have := Fx.hold_lo b; have := Fx.hold_hi b
  go_enter Try.func51, Try.ntmps51
  go_wp2_with (go_at_call 57; refine (hold _ _).mono ?_; rintro e w' ⟨rfl, rfl⟩)
  go_ret
  exact ⟨rfl, rfl⟩
set_option maxRecDepth 100000 in
theorem fmul (a b : Int) (w : World) : Calls Try.prog 54 #[.int .i64 a, .int .i64 b] w fun e w' => e = .returned (.int .i64 (Fx.mul a b)) ∧ w' = w := by
  have := (Fx.prod_bd a b).1; have := (Fx.prod_bd a b).2
  go_enter Try.func54, Try.ntmps54
  go_wp2_with (go_at_call 57; refine (hold _ _).mono ?_; rintro e w' ⟨rfl, rfl⟩)
  go_ret
  exact ⟨rfl, rfl⟩
end Go.Proofs.Ytokkhkhipgopbaa
