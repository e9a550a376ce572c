/- Laws on rows of numbers as lists (no program in sight) that the statements of layer 2 rest on: noughts, One, and rows put together. -/
import Derived.Test.YtpfhjdlmjehfnaaVx
namespace Go.Proofs.Ytpfhjdlmjehfnaa.Vx
open Go.Proofs.Ytpfhjdlmjehfnaa

theorem dotFrom_zeros (s : Int) (a : List Int) (h1 : -2147483647 ≤ s) (h2 : s ≤ 2147483647) : dotFrom s a (List.replicate a.length 0) = s := by
  induction a generalizing s with
  | nil => rfl
  | cons x a ih =>
    show dotFrom (Fx.add s (Fx.mul x 0)) a (List.replicate a.length 0) = s
    have e : Fx.add s (Fx.mul x 0) = s := by
      rw [Fx.mul_zero]; unfold Fx.add
      rw [show Fx.hold 0 = 0 from rfl, Int.add_zero, Fx.hold_hold, Fx.hold_id h1 h2]
    rw [e]; exact ih s h1 h2
theorem dot_zeros (a : List Int) : dot a (List.replicate a.length 0) = 0 := dotFrom_zeros 0 a (by omega) (by omega)
theorem rel_lo (n : Int) : 0 ≤ rel n := by unfold rel; split <;> omega
theorem rel_hi (n : Int) : rel n ≤ 2147483647 := by unfold rel; have := Fx.hold_hi n; split <;> omega
theorem hold_rel (n : Int) : Fx.hold (rel n) = rel n := Fx.hold_id (by have := rel_lo n; omega) (rel_hi n)
theorem rel_rel (n : Int) : rel (rel n) = rel n := by
  have h := rel_lo n
  show (if Fx.hold (rel n) < 0 then 0 else Fx.hold (rel n)) = rel n
  rw [hold_rel, if_neg (by omega)]
theorem relu_relu (a : List Int) : relu (relu a) = relu a := by
  simp [relu, rel_rel]
theorem add_relu_zeros (a : List Int) : add (relu a) (List.replicate a.length 0) = relu a := by
  induction a with
  | nil => rfl
  | cons x a ih =>
    show Fx.add (rel x) 0 :: add (relu a) (List.replicate a.length 0) = rel x :: relu a
    have e : Fx.add (rel x) 0 = rel x := by
      unfold Fx.add
      rw [show Fx.hold 0 = 0 from rfl, Int.add_zero, Fx.hold_hold, hold_rel]
    rw [e, ih]

theorem dotFrom_unit (s : Int) (a : List Int) (i : Nat) (h1 : -2147483647 ≤ s) (h2 : s ≤ 2147483647) (hi : i < a.length) :
    dotFrom s a ((List.replicate a.length 0).set i 65536) = Fx.add s (Fx.mul (a.getD i 0) 65536) := by
  induction a generalizing s i with
  | nil => simp at hi
  | cons x a ih =>
    cases i with
    | zero =>
      show dotFrom (Fx.add s (Fx.mul x 65536)) a (List.replicate a.length 0) = Fx.add s (Fx.mul x 65536)
      exact dotFrom_zeros _ a (Fx.add_lo _ _) (Fx.add_hi _ _)
    | succ i =>
      show dotFrom (Fx.add s (Fx.mul x 0)) a ((List.replicate a.length 0).set i 65536) = Fx.add s (Fx.mul (a.getD i 0) 65536)
      have e : Fx.add s (Fx.mul x 0) = s := by
        rw [Fx.mul_zero]; unfold Fx.add
        rw [show Fx.hold 0 = 0 from rfl, Int.add_zero, Fx.hold_hold, Fx.hold_id h1 h2]
      rw [e]; exact ih s i h1 h2 (by simpa using hi)
theorem dot_unit (a : List Int) (i : Nat) (hi : i < a.length) : dot a ((List.replicate a.length 0).set i 65536) = Fx.hold (a.getD i 0) := by
  unfold dot
  rw [dotFrom_unit 0 a i (by omega) (by omega) hi, Fx.mul_one]
  unfold Fx.add
  rw [show Fx.hold 0 = 0 from rfl, Int.zero_add, Fx.hold_hold, Fx.hold_hold]
theorem scale_at (a : List Int) (c : Int) (i : Nat) (hi : i < a.length) : (scale a c).getD i 0 = Fx.mul (a.getD i 0) c := by
  rw [List.getD_eq_getElem?_getD, List.getD_eq_getElem?_getD]
  simp [scale, List.getElem?_eq_getElem hi]

end Go.Proofs.Ytpfhjdlmjehfnaa.Vx
