/- What the functions of package fix, the document's answers for layer 1, and the laws' fixed answer do when called: the integer functions of Fx, the world as it was, for every int. -/
import Derived.Test.YtgbcneiciefkkaaBase
import Derived.Test.YtgbcneiciefkkaaFx
namespace Go.Proofs.Ytgbcneiciefkkaa
open Go.ChangeShapes Go.WideShapes Go.ChangeAt Go.RowKit

theorem hold (n : Int) (w : World) : Calls Try.prog 45 #[.int .i64 n] w fun e w' => e = .returned (.int .i64 (Fx.hold n)) ∧ w' = w := by
  by_cases h1 : 2147483647 < n
  · go_enter Try.func45, Try.ntmps45
    go_wp2
    go_ret
    exact ⟨ret_int (Fx.hold_big h1).symm, rfl⟩
  · by_cases h2 : n < -2147483647
    · go_enter Try.func45, Try.ntmps45
      go_wp2
      go_ret
      exact ⟨ret_int (Fx.hold_small h2).symm, rfl⟩
    · go_enter Try.func45, Try.ntmps45
      go_wp2
      go_ret
      exact ⟨ret_int (Fx.hold_id (by omega) (by omega)).symm, rfl⟩
end Go.Proofs.Ytgbcneiciefkkaa
