/- What the functions of package fix, the document's answers for layer 1, and the laws' fixed answer do when called: the integer functions of Fx, the world as it was, for every int. -/
import Derived.Test.YtpohbbjacbhgoaaRows
import Derived.WalkKit
import Derived.ProofKit
import Derived.OpenShut
import Derived.Test.YtpohbbjacbhgoaaFx
namespace Go.Proofs.Ytpohbbjacbhgoaa
open Go.ChangeShapes Go.WideShapes Go.ChangeAt Go.RowKit

theorem ret_int {k : IntKind} {a b : Int} (h : a = b) : Ending.returned (.int k a) = .returned (.int k b) := by rw [h]

theorem hold10 (n : Int) (w : World) : Calls Try.prog 10 #[.int .i64 n] w fun e w' => e = .returned (.int .i64 (Fx.hold n)) ∧ w' = w := by
  by_cases h1 : 2147483647 < n
  · go_enter Try.func10, Try.ntmps10
    go_wp2
    go_ret
    exact ⟨ret_int (Fx.hold_big h1).symm, rfl⟩
  · by_cases h2 : n < -2147483647
    · go_enter Try.func10, Try.ntmps10
      go_wp2
      go_ret
      exact ⟨ret_int (Fx.hold_small h2).symm, rfl⟩
    · go_enter Try.func10, Try.ntmps10
      go_wp2
      go_ret
      exact ⟨ret_int (Fx.hold_id (by omega) (by omega)).symm, rfl⟩
theorem hold9 (n : Int) (w : World) : Calls Try.prog 9 #[.int .i64 n] w fun e w' => e = .returned (.int .i64 (Fx.hold n)) ∧ w' = w := by
  by_cases h1 : 2147483647 < n
  · go_enter Try.func9, Try.ntmps9
    go_wp2
    go_ret
    exact ⟨ret_int (Fx.hold_big h1).symm, rfl⟩
  · by_cases h2 : n < -2147483647
    · go_enter Try.func9, Try.ntmps9
      go_wp2
      go_ret
      exact ⟨ret_int (Fx.hold_small h2).symm, rfl⟩
    · go_enter Try.func9, Try.ntmps9
      go_wp2
      go_ret
      exact ⟨ret_int (Fx.hold_id (by omega) (by omega)).symm, rfl⟩

theorem add11 (a b : Int) (w : World) : Calls Try.prog 11 #[.int .i64 a, .int .i64 b] w fun e w' => e = .returned (.int .i64 (Fx.add a b)) ∧ w' = w := by
  have := Fx.hold_lo a; have := Fx.hold_hi a; have := Fx.hold_lo b; have := Fx.hold_hi b
  go_enter Try.func11, Try.ntmps11
  go_wp2_with (go_at_call 10; refine (hold10 _ _).mono ?_; rintro e w' ⟨rfl, rfl⟩)
  go_ret
  exact ⟨rfl, rfl⟩
theorem sub12 (a b : Int) (w : World) : Calls Try.prog 12 #[.int .i64 a, .int .i64 b] w fun e w' => e = .returned (.int .i64 (Fx.sub a b)) ∧ w' = w := by
  have := Fx.hold_lo a; have := Fx.hold_hi a; have := Fx.hold_lo b; have := Fx.hold_hi b
  go_enter Try.func12, Try.ntmps12
  go_wp2_with (go_at_call 10; refine (hold10 _ _).mono ?_; rintro e w' ⟨rfl, rfl⟩)
  go_ret
  exact ⟨rfl, rfl⟩
theorem mul13 (a b : Int) (w : World) : Calls Try.prog 13 #[.int .i64 a, .int .i64 b] w fun e w' => e = .returned (.int .i64 (Fx.mul a b)) ∧ w' = w := by
  have := (Fx.prod_bd a b).1; have := (Fx.prod_bd a b).2
  go_enter Try.func13, Try.ntmps13
  go_wp2_with (go_at_call 10; refine (hold10 _ _).mono ?_; rintro e w' ⟨rfl, rfl⟩)
  go_ret
  exact ⟨rfl, rfl⟩
theorem mul14 (a b : Int) (w : World) : Calls Try.prog 14 #[.int .i64 a, .int .i64 b] w fun e w' => e = .returned (.int .i64 (Fx.mul a b)) ∧ w' = w := by
  have a1 := Fx.hold_lo a; have a2 := Fx.hold_hi a; have b1 := Fx.hold_lo b; have b2 := Fx.hold_hi b
  by_cases hx : Fx.hold a < 0
  · by_cases hy : Fx.hold b < 0
    · have p := Fx.abs_prod (-Fx.hold a) (-Fx.hold b) (by omega) (by omega) (by omega) (by omega)
      obtain ⟨p1, p2⟩ := p
      obtain ⟨q1, q2⟩ := Fx.tdiv_bd p1 p2
      go_enter Try.func14, Try.ntmps14
      go_wp2_with (go_at_call 9; refine (hold9 _ _).mono ?_; rintro e w' ⟨rfl, rfl⟩)
      go_ret
      exact ⟨ret_int (Fx.mul_nn a b), rfl⟩
    · have p := Fx.abs_prod (-Fx.hold a) (Fx.hold b) (by omega) (by omega) (by omega) (by omega)
      obtain ⟨p1, p2⟩ := p
      obtain ⟨q1, q2⟩ := Fx.tdiv_bd p1 p2
      go_enter Try.func14, Try.ntmps14
      go_wp2_with (go_at_call 9; refine (hold9 _ _).mono ?_; rintro e w' ⟨rfl, rfl⟩)
      go_ret
      exact ⟨ret_int (Fx.mul_np a b), rfl⟩
  · by_cases hy : Fx.hold b < 0
    · have p := Fx.abs_prod (Fx.hold a) (-Fx.hold b) (by omega) (by omega) (by omega) (by omega)
      obtain ⟨p1, p2⟩ := p
      obtain ⟨q1, q2⟩ := Fx.tdiv_bd p1 p2
      go_enter Try.func14, Try.ntmps14
      go_wp2_with (go_at_call 9; refine (hold9 _ _).mono ?_; rintro e w' ⟨rfl, rfl⟩)
      go_ret
      exact ⟨ret_int (Fx.mul_pn a b), rfl⟩
    · have p := Fx.abs_prod (Fx.hold a) (Fx.hold b) (by omega) (by omega) (by omega) (by omega)
      obtain ⟨p1, p2⟩ := p
      obtain ⟨q1, q2⟩ := Fx.tdiv_bd p1 p2
      go_enter Try.func14, Try.ntmps14
      go_wp2_with (go_at_call 9; refine (hold9 _ _).mono ?_; rintro e w' ⟨rfl, rfl⟩)
      go_ret
      exact ⟨rfl, rfl⟩
theorem awake15 (w : World) : Calls Try.prog 15 #[] w fun e w' => e = .returned (.bool true) ∧ w' = w := by
  have e1 : (Fx.mul 196608 32768 == 98304) = true := by decide
  have e2 : (Fx.add 2147483647 5 == 2147483647) = true := by decide
  have e3 : (Fx.sub (-2147483647) 5 == -2147483647) = true := by decide
  go_enter Try.func15, Try.ntmps15
  go_wp2_with (first | (go_at_call 13; refine (mul13 _ _ _).mono ?_; rintro e w' ⟨rfl, rfl⟩) | (go_at_call 11; refine (add11 _ _ _).mono ?_; rintro e w' ⟨rfl, rfl⟩) | (go_at_call 12; refine (sub12 _ _ _).mono ?_; rintro e w' ⟨rfl, rfl⟩))
  go_ret
  exact ⟨rfl, rfl⟩
end Go.Proofs.Ytpohbbjacbhgoaa
