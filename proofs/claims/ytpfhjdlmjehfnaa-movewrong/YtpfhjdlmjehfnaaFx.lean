/- Plain arithmetic of numbers with 16 bits behind the point (no program in sight): what Hold, Add, Sub and Mul are as functions on integers, their bounds, and the laws that the statements of layer 1 rest on. -/
namespace Go.Proofs.Ytpfhjdlmjehfnaa.Fx

def hold (n : Int) : Int := if 2147483647 < n then 2147483647 else if n < -2147483647 then -2147483647 else n
def add (a b : Int) : Int := hold (hold a + hold b)
def sub (a b : Int) : Int := hold (hold a - hold b)
def mul (a b : Int) : Int := hold ((hold a * hold b).tdiv 65536)

theorem hold_lo (n : Int) : -2147483647 ≤ hold n := by unfold hold; split <;> (try split) <;> omega
theorem hold_hi (n : Int) : hold n ≤ 2147483647 := by unfold hold; split <;> (try split) <;> omega
theorem hold_id {n : Int} (h1 : -2147483647 ≤ n) (h2 : n ≤ 2147483647) : hold n = n := by unfold hold; split <;> (try split) <;> omega
theorem hold_big {n : Int} (h : 2147483647 < n) : hold n = 2147483647 := by unfold hold; rw [if_pos h]
theorem hold_small {n : Int} (h : n < -2147483647) : hold n = -2147483647 := by unfold hold; rw [if_neg (by omega), if_pos h]
theorem hold_hold (n : Int) : hold (hold n) = hold n := hold_id (hold_lo n) (hold_hi n)
theorem hold_neg (n : Int) : hold (-n) = -hold n := by unfold hold; split <;> split <;> (try split) <;> (try split) <;> omega
theorem hold_mono {a b : Int} (h : a ≤ b) : hold a ≤ hold b := by unfold hold; split <;> split <;> (try split) <;> (try split) <;> omega

theorem add_lo (a b : Int) : -2147483647 ≤ add a b := hold_lo _
theorem add_hi (a b : Int) : add a b ≤ 2147483647 := hold_hi _
theorem sub_lo (a b : Int) : -2147483647 ≤ sub a b := hold_lo _
theorem sub_hi (a b : Int) : sub a b ≤ 2147483647 := hold_hi _
theorem mul_lo (a b : Int) : -2147483647 ≤ mul a b := hold_lo _
theorem mul_hi (a b : Int) : mul a b ≤ 2147483647 := hold_hi _

theorem abs_prod (x y : Int) (hx1 : -2147483647 ≤ x) (hx2 : x ≤ 2147483647) (hy1 : -2147483647 ≤ y) (hy2 : y ≤ 2147483647) :
    -4611686014132420609 ≤ x * y ∧ x * y ≤ 4611686014132420609 := by
  have hx : x.natAbs ≤ 2147483647 := by omega
  have hy : y.natAbs ≤ 2147483647 := by omega
  have h : (x * y).natAbs ≤ 2147483647 * 2147483647 := by rw [Int.natAbs_mul]; exact Nat.mul_le_mul hx hy
  omega
theorem prod_bd (a b : Int) : -4611686014132420609 ≤ hold a * hold b ∧ hold a * hold b ≤ 4611686014132420609 :=
  abs_prod _ _ (hold_lo a) (hold_hi a) (hold_lo b) (hold_hi b)

theorem tdiv_bd {x : Int} (h1 : -4611686014132420609 ≤ x) (h2 : x ≤ 4611686014132420609) : -4611686014132420609 ≤ x.tdiv 65536 ∧ x.tdiv 65536 ≤ 4611686014132420609 := by
  by_cases h : 0 ≤ x
  · rw [Int.tdiv_eq_ediv_of_nonneg h]; omega
  · have e : x = -(-x) := by omega
    rw [e, Int.neg_tdiv, Int.tdiv_eq_ediv_of_nonneg (by omega)]; omega
theorem mul_nn (a b : Int) : hold ((-hold a * -hold b).tdiv 65536) = mul a b := by
  unfold mul; rw [Int.neg_mul_neg]
theorem mul_np (a b : Int) : hold (-(-hold a * hold b).tdiv 65536) = mul a b := by
  unfold mul; rw [Int.neg_mul, Int.neg_tdiv, Int.neg_neg]
theorem mul_pn (a b : Int) : hold (-(hold a * -hold b).tdiv 65536) = mul a b := by
  unfold mul; rw [Int.mul_neg, Int.neg_tdiv, Int.neg_neg]

theorem add_comm (a b : Int) : add a b = add b a := by unfold add; rw [Int.add_comm]
theorem mul_comm (a b : Int) : mul a b = mul b a := by unfold mul; rw [Int.mul_comm]
theorem mul_one (a : Int) : mul a 65536 = hold a := by
  unfold mul
  rw [show hold 65536 = 65536 from rfl, Int.mul_tdiv_cancel _ (by omega), hold_hold]
theorem mul_neg (a b : Int) : mul (-hold a) b = -mul a b := by
  unfold mul
  rw [hold_neg, hold_hold, Int.neg_mul, Int.neg_tdiv, hold_neg]
theorem sub_add (a b : Int) : sub a b = add (hold a) (-hold b) := by
  unfold sub add
  rw [hold_hold, hold_neg, hold_hold, Int.sub_eq_add_neg]
theorem add_held (a b : Int) : add (hold a) b = add a b := by unfold add; rw [hold_hold]
theorem mul_held (a b : Int) : mul a (hold b) = mul a b := by unfold mul; rw [hold_hold]

theorem add_mono {a b : Int} (c : Int) (h : a ≤ b) : add a c ≤ add b c := by
  unfold add; exact hold_mono (by have := hold_mono h; omega)
theorem sub_anti {a b : Int} (c : Int) (h : a ≤ b) : sub c b ≤ sub c a := by
  unfold sub; exact hold_mono (by have := hold_mono h; omega)
theorem tdiv_mono {x y : Int} (h : x ≤ y) : x.tdiv 65536 ≤ y.tdiv 65536 := by
  by_cases hx : 0 ≤ x
  · rw [Int.tdiv_eq_ediv_of_nonneg hx, Int.tdiv_eq_ediv_of_nonneg (by omega)]; omega
  · have ex : x = -(-x) := by omega
    rw [ex, Int.neg_tdiv, Int.tdiv_eq_ediv_of_nonneg (by omega)]
    by_cases hy : 0 ≤ y
    · rw [Int.tdiv_eq_ediv_of_nonneg hy]; omega
    · have ey : y = -(-y) := by omega
      rw [ey, Int.neg_tdiv, Int.tdiv_eq_ediv_of_nonneg (by omega)]; omega
theorem mul_mono {a b : Int} (k : Int) (h : a ≤ b) (hk : 0 ≤ hold k) : mul a k ≤ mul b k := by
  unfold mul; exact hold_mono (tdiv_mono (Int.mul_le_mul_of_nonneg_right (hold_mono h) hk))
theorem mul_self (a : Int) : 0 ≤ mul a a := by
  have h0 : hold 0 ≤ hold ((hold a * hold a).tdiv 65536) := by
    refine hold_mono ?_
    have hp : 0 ≤ hold a * hold a := by
      by_cases h : 0 ≤ hold a
      · exact Int.mul_nonneg h h
      · rw [← Int.neg_mul_neg]; exact Int.mul_nonneg (by omega) (by omega)
    rw [Int.tdiv_eq_ediv_of_nonneg hp]; omega
  exact h0
theorem tdiv_half (x : Int) : (x * 32768).tdiv 65536 = x.tdiv 2 := by
  by_cases h : 0 ≤ x
  · rw [Int.tdiv_eq_ediv_of_nonneg (by omega), Int.tdiv_eq_ediv_of_nonneg h]; omega
  · have e : x = -(-x) := by omega
    rw [e, Int.neg_mul, Int.neg_tdiv, Int.neg_tdiv, Int.tdiv_eq_ediv_of_nonneg (by omega), Int.tdiv_eq_ediv_of_nonneg (by omega)]; omega
theorem quarter_pos {x : Int} (h : 0 ≤ x) : (x * 16384).tdiv 65536 = (x.tdiv 2).tdiv 2 := by
  rw [Int.tdiv_eq_ediv_of_nonneg (a := x * 16384) (by omega), Int.tdiv_eq_ediv_of_nonneg h, Int.tdiv_eq_ediv_of_nonneg (by omega)]; omega
theorem tdiv_quarter (x : Int) : (x * 16384).tdiv 65536 = (x.tdiv 2).tdiv 2 := by
  by_cases h : 0 ≤ x
  · exact quarter_pos h
  · have q := quarter_pos (x := -x) (by omega)
    rw [Int.neg_mul, Int.neg_tdiv, Int.neg_tdiv, Int.neg_tdiv] at q
    omega
theorem half_bd {x : Int} (h1 : -2147483647 ≤ x) (h2 : x ≤ 2147483647) : -2147483647 ≤ x.tdiv 2 ∧ x.tdiv 2 ≤ 2147483647 := by
  by_cases h : 0 ≤ x
  · rw [Int.tdiv_eq_ediv_of_nonneg h]; omega
  · have e : x = -(-x) := by omega
    rw [e, Int.neg_tdiv, Int.tdiv_eq_ediv_of_nonneg (by omega)]; omega
theorem mul_half (a : Int) : mul a 32768 = (hold a).tdiv 2 := by
  unfold mul
  rw [show hold 32768 = 32768 from rfl, tdiv_half]
  have h := half_bd (hold_lo a) (hold_hi a)
  exact hold_id h.1 h.2
theorem mul_halves (a : Int) : mul (mul a 32768) 32768 = mul a 16384 := by
  have h := half_bd (hold_lo a) (hold_hi a)
  have g := half_bd h.1 h.2
  rw [mul_half, mul_half, hold_id h.1 h.2]
  unfold mul
  rw [show hold 16384 = 16384 from rfl, tdiv_quarter]
  exact (hold_id g.1 g.2).symm
theorem mul_two (a : Int) : mul a 131072 = add a a := by
  unfold mul add
  rw [show hold 131072 = 131072 from rfl, show hold a * 131072 = (hold a + hold a) * 65536 by omega, Int.mul_tdiv_cancel _ (by omega)]
theorem mul_zero (a : Int) : mul a 0 = 0 := by
  unfold mul
  rw [show hold 0 = 0 from rfl, Int.mul_zero]; rfl

theorem quarter_bd {x : Int} (h1 : -2147483648 ≤ x) (h2 : x ≤ 2147483647) : -536870912 ≤ x.tdiv 4 ∧ x.tdiv 4 ≤ 536870911 := by
  by_cases h : 0 ≤ x
  · rw [Int.tdiv_eq_ediv_of_nonneg h]; omega
  · have e : x = -(-x) := by omega
    rw [e, Int.neg_tdiv, Int.tdiv_eq_ediv_of_nonneg (by omega)]; omega
theorem back1 {x y : Int} (x1 : -536870912 ≤ x) (x2 : x ≤ 536870911) (y1 : -536870912 ≤ y) (y2 : y ≤ 536870911) : sub (add x y) y = x := by
  unfold sub add
  rw [hold_id (n := x) (by omega) (by omega), hold_id (n := y) (by omega) (by omega), hold_id (n := x + y) (by omega) (by omega), hold_id (n := x + y) (by omega) (by omega), hold_id (by omega) (by omega)]
  omega
theorem back2 {x y : Int} (x1 : -536870912 ≤ x) (x2 : x ≤ 536870911) (y1 : -536870912 ≤ y) (y2 : y ≤ 536870911) : add (sub x y) y = x := by
  unfold sub add
  rw [hold_id (n := x) (by omega) (by omega), hold_id (n := y) (by omega) (by omega), hold_id (n := x - y) (by omega) (by omega), hold_id (n := x - y) (by omega) (by omega), hold_id (by omega) (by omega)]
  omega
theorem half_of {x : Int} (h0 : 0 ≤ x) (h : x ≤ 536870911) : 2 * mul x 32768 ≤ x ∧ x - 1 ≤ 2 * mul x 32768 := by
  rw [mul_half, hold_id (by omega) (by omega), Int.tdiv_eq_ediv_of_nonneg h0]; omega

end Go.Proofs.Ytpfhjdlmjehfnaa.Fx
