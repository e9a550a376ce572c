/- What the functions of package fix, the document's answers for layer 1, and the laws' fixed answer do when called: the integer functions of Fx, the world as it was, for every int. -/
import Derived.Test.YtfidgcanolegfaaGreatBase
import Derived.Test.YtfidgcanolegfaaGreatFx
namespace Go.Proofs.YtfidgcanolegfaaGreat
open Go.ChangeShapes Go.WideShapes Go.ChangeAt Go.RowKit

set_option maxRecDepth 100000 in
theorem hold (n : Int) (w : World) : Calls Tryz.prog 141 #[.int .i64 n] w fun e w' => e = .returned (.int .i64 (Fx.hold n)) ∧ w' = w := by
  by_cases h1 : 2147483647 < n
  · go_enter Tryz.func141, Tryz.ntmps141
    go_wp2
    go_ret
    exact ⟨ret_int (Fx.hold_big h1).symm, rfl⟩
  · by_cases h2 : n < -2147483647
    · go_enter Tryz.func141, Tryz.ntmps141
      go_wp2
      go_ret
      exact ⟨ret_int (Fx.hold_small h2).symm, rfl⟩
    · go_enter Tryz.func141, Tryz.ntmps141
      go_wp2
      go_ret
      exact ⟨ret_int (Fx.hold_id (by omega) (by omega)).symm, rfl⟩
set_option maxRecDepth 100000 in
theorem rhold (n : Int) (w : World) : Calls Tryz.prog 85 #[.int .i64 n] w fun e w' => e = .returned (.int .i64 (Fx.hold n)) ∧ w' = w := by
  by_cases h1 : 2147483647 < n
  · go_enter Tryz.func85, Tryz.ntmps85
    go_wp2
    go_ret
    exact ⟨ret_int (Fx.hold_big h1).symm, rfl⟩
  · by_cases h2 : n < -2147483647
    · go_enter Tryz.func85, Tryz.ntmps85
      go_wp2
      go_ret
      exact ⟨ret_int (Fx.hold_small h2).symm, rfl⟩
    · go_enter Tryz.func85, Tryz.ntmps85
      go_wp2
      go_ret
      exact ⟨ret_int (Fx.hold_id (by omega) (by omega)).symm, rfl⟩
set_option maxRecDepth 100000 in
theorem fadd (a b : Int) (w : World) : Calls Tryz.prog 146 #[.int .i64 a, .int .i64 b] w fun e w' => e = .returned (.int .i64 (Fx.add a b)) ∧ w' = w := by
  have := Fx.hold_lo a; have := Fx.hold_hi a; have := Fx.hold_lo b; have := Fx.hold_hi b
  go_enter Tryz.func146, Tryz.ntmps146
  go_wp2_with (go_at_call 141; refine (hold _ _).mono ?_; rintro e w' ⟨rfl, rfl⟩)
  go_ret
  exact ⟨rfl, rfl⟩
set_option maxRecDepth 100000 in
theorem fmul (a b : Int) (w : World) : Calls Tryz.prog 149 #[.int .i64 a, .int .i64 b] w fun e w' => e = .returned (.int .i64 (Fx.mul a b)) ∧ w' = w := by
  have := (Fx.prod_bd a b).1; have := (Fx.prod_bd a b).2
  go_enter Tryz.func149, Tryz.ntmps149
  go_wp2_with (go_at_call 141; refine (hold _ _).mono ?_; rintro e w' ⟨rfl, rfl⟩)
  go_ret
  exact ⟨rfl, rfl⟩
set_option maxRecDepth 100000 in
theorem rmul (a b : Int) (w : World) : Calls Tryz.prog 86 #[.int .i64 a, .int .i64 b] w fun e w' => e = .returned (.int .i64 (Fx.mul a b)) ∧ w' = w := by
  have a1 := Fx.hold_lo a; have a2 := Fx.hold_hi a; have b1 := Fx.hold_lo b; have b2 := Fx.hold_hi b
  by_cases hx : Fx.hold a < 0
  · by_cases hy : Fx.hold b < 0
    · have p := Fx.abs_prod (-Fx.hold a) (-Fx.hold b) (by omega) (by omega) (by omega) (by omega)
      obtain ⟨p1, p2⟩ := p
      obtain ⟨q1, q2⟩ := Fx.tdiv_bd p1 p2
      go_enter Tryz.func86, Tryz.ntmps86
      go_wp2_with (go_at_call 85; refine (rhold _ _).mono ?_; rintro e w' ⟨rfl, rfl⟩)
      go_ret
      exact ⟨ret_int (Fx.mul_nn a b), rfl⟩
    · have p := Fx.abs_prod (-Fx.hold a) (Fx.hold b) (by omega) (by omega) (by omega) (by omega)
      obtain ⟨p1, p2⟩ := p
      obtain ⟨q1, q2⟩ := Fx.tdiv_bd p1 p2
      go_enter Tryz.func86, Tryz.ntmps86
      go_wp2_with (go_at_call 85; refine (rhold _ _).mono ?_; rintro e w' ⟨rfl, rfl⟩)
      go_ret
      exact ⟨ret_int (Fx.mul_np a b), rfl⟩
  · by_cases hy : Fx.hold b < 0
    · have p := Fx.abs_prod (Fx.hold a) (-Fx.hold b) (by omega) (by omega) (by omega) (by omega)
      obtain ⟨p1, p2⟩ := p
      obtain ⟨q1, q2⟩ := Fx.tdiv_bd p1 p2
      go_enter Tryz.func86, Tryz.ntmps86
      go_wp2_with (go_at_call 85; refine (rhold _ _).mono ?_; rintro e w' ⟨rfl, rfl⟩)
      go_ret
      exact ⟨ret_int (Fx.mul_pn a b), rfl⟩
    · have p := Fx.abs_prod (Fx.hold a) (Fx.hold b) (by omega) (by omega) (by omega) (by omega)
      obtain ⟨p1, p2⟩ := p
      obtain ⟨q1, q2⟩ := Fx.tdiv_bd p1 p2
      go_enter Tryz.func86, Tryz.ntmps86
      go_wp2_with (go_at_call 85; refine (rhold _ _).mono ?_; rintro e w' ⟨rfl, rfl⟩)
      go_ret
      exact ⟨rfl, rfl⟩
end Go.Proofs.YtfidgcanolegfaaGreat
