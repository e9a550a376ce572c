/- What the functions of package vec and the document's answers for layer 2 do when called (first part: those that only read, and the closures). -/
import Derived.Test.YtpaelmgahpjkfaaHold
import Derived.Test.YtpaelmgahpjkfaaVx
namespace Go.Proofs.Ytpaelmgahpjkfaa
open Go.ChangeShapes Go.WideShapes Go.ChangeAt Go.RowKit

theorem dot1 (x y s : Int) (P : Nat) (w : World) (hc : w.cell? ⟨P, 0, none⟩ = some (.int .i64 s)) (hf : w.frozen? ⟨P, 0, none⟩ = false) :
    Calls Try.prog 25 #[.int .i64 x, .int .i64 y, .pointer (some ⟨P, 0, none⟩)] w fun e w' =>
      e = .returned (.tuple #[]) ∧ w' = (w.setCell ⟨P, 0, none⟩ (.int .i64 (Fx.add s (Fx.mul x y)))).drew := by
  go_enter Try.func25, Try.ntmps25
  go_wp2
  go_region_with (first | (go_at_call 27; refine (fmul _ _ _).mono ?_; rintro e w' ⟨rfl, rfl⟩) | (go_at_call 26; refine (fadd _ _ _).mono ?_; rintro e w' ⟨rfl, rfl⟩))
  all_goals go_end0
  all_goals exact ⟨rfl, rfl⟩

end Go.Proofs.Ytpaelmgahpjkfaa
