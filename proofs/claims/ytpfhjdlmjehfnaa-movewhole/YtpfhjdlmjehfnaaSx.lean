/- Two shares of One, as plain integers (no program in sight): what a number counts, its share, and what follows of it. -/
namespace Go.Proofs.Ytpfhjdlmjehfnaa.Sx

def part (n : Int) : Int := if n < 0 then 1 else if 2147483647 < n then 2147483648 else n + 1
def share (a b : Int) : Int := part a * 65536 / (part a + part b)

theorem part_neg {n : Int} (h : n < 0) : part n = 1 := by unfold part; rw [if_pos h]
theorem part_big {n : Int} (h : 2147483647 < n) : part n = 2147483648 := by unfold part; rw [if_neg (by omega), if_pos h]
theorem part_mid {n : Int} (h : 0 ≤ n) (g : n ≤ 2147483647) : part n = n + 1 := by unfold part; rw [if_neg (by omega), if_neg (by omega)]
theorem part_lo (n : Int) : 1 ≤ part n := by unfold part; split <;> (try split) <;> omega
theorem part_hi (n : Int) : part n ≤ 2147483648 := by unfold part; split <;> (try split) <;> omega
theorem part_mono {a b : Int} (h : a ≤ b) : part a ≤ part b := by unfold part; split <;> split <;> (try split) <;> (try split) <;> omega

/-- Of what is below 0 the share is that of 0. -/
theorem part_low {n : Int} (h : n < 0) : part n = part 0 := by rw [part_neg h]; rfl

theorem share_tdiv (a b : Int) : (part a * 65536).tdiv (part a + part b) = share a b := by
  have := part_lo a
  exact Int.tdiv_eq_ediv_of_nonneg (by omega)

/-- As often as it is told x + y is in x times One, and once more it is not. -/
theorem share_le (a b : Int) : share a b * (part a + part b) ≤ part a * 65536 :=
  Int.ediv_mul_le _ (by have := part_lo a; have := part_lo b; omega)
theorem share_lt (a b : Int) : part a * 65536 < (share a b + 1) * (part a + part b) :=
  Int.lt_ediv_add_one_mul_self _ (by have := part_lo a; have := part_lo b; omega)
theorem le_share {a b q : Int} (h : q * (part a + part b) ≤ part a * 65536) : q ≤ share a b :=
  Int.le_ediv_of_mul_le (by have := part_lo a; have := part_lo b; omega) h
theorem share_lo (a b : Int) : 0 ≤ share a b := le_share (by have := part_lo a; omega)
theorem share_hi (a b : Int) : share a b ≤ 65536 := by
  have hs := part_lo a; have ht := part_lo b
  refine Int.le_of_lt_add_one (Int.lt_of_mul_lt_mul_right (a := part a + part b) ?_ (by omega))
  have := share_le a b
  omega

/-- The quotient, told by what is left. -/
theorem share_eq {a b q left : Int} (h : q * (part a + part b) + left = part a * 65536) (h0 : 0 ≤ left) (h1 : left < part a + part b) : q = share a b := by
  have hs := part_lo a; have ht := part_lo b
  refine Int.le_antisymm (le_share (by omega)) (Int.le_of_lt_add_one (Int.lt_of_mul_lt_mul_right (a := part a + part b) ?_ (by omega)))
  have := share_le a b
  rw [Int.add_mul]
  omega

theorem share_half {a b : Int} (h : part b ≤ part a) : 32768 ≤ share a b := le_share (by omega)
theorem share_even {a b : Int} (h : part a = part b) : share a b = 32768 := by
  refine (share_eq (left := 0) (by omega) (by omega) ?_).symm
  have := part_lo a; have := part_lo b; omega

theorem share_more {a c : Int} (b : Int) (h : part a ≤ part c) : share a b ≤ share c b := by
  have hs := part_lo a; have ht := part_lo b
  refine le_share ?_
  have h1 := share_le a b
  have h2 := Int.mul_le_mul_of_nonneg_right (share_hi a b) (show 0 ≤ part c - part a by omega)
  have e : share a b * (part c + part b) = share a b * (part a + part b) + share a b * (part c - part a) := by rw [← Int.mul_add]; congr 1; omega
  rw [e]
  omega

theorem share_both (a b : Int) : share a b + share b a ≤ 65536 ∧ 65535 ≤ share a b + share b a := by
  have hs := part_lo a; have ht := part_lo b
  have h1 := share_le a b; have h2 := share_le b a
  have h3 := share_lt a b; have h4 := share_lt b a
  rw [Int.add_comm (part b) (part a)] at h2 h4
  constructor
  · refine Int.le_of_lt_add_one (Int.lt_of_mul_lt_mul_right (a := part a + part b) ?_ (by omega))
    rw [Int.add_mul]
    omega
  · have : 65536 < share a b + 1 + (share b a + 1) := by
      refine Int.lt_of_mul_lt_mul_right (a := part a + part b) ?_ (by omega)
      rw [Int.add_mul (share a b + 1)]
      omega
    omega

theorem share_ten {k : Int} (h : 9 ≤ k) (g : k ≤ 67108872) : 11 * share (10 * k) k ≤ 655360 ∧ 589824 ≤ 11 * share (10 * k) k := by
  have h1 := share_le (10 * k) k
  have h3 := share_lt (10 * k) k
  rw [part_mid (n := 10 * k) (by omega) (by omega), part_mid (n := k) (by omega) (by omega)] at h1 h3
  generalize share (10 * k) k = s at *
  constructor
  · refine Int.le_of_lt_add_one (Int.lt_of_mul_lt_mul_right (a := 10 * k + 1 + (k + 1)) ?_ (by omega))
    rw [Int.mul_assoc]
    omega
  · refine Int.not_lt.mp fun hc => ?_
    have h5 := Int.mul_le_mul_of_nonneg_right (show 11 * (s + 1) ≤ 589834 by omega) (show 0 ≤ 10 * k + 1 + (k + 1) by omega)
    rw [Int.mul_assoc] at h5
    omega

theorem share_same {a b u v : Int} (hu : part u = part a) (hv : part v = part b) : share u v = share a b := by unfold share; rw [hu, hv]

/-- What the stage's theorem asks of one pair: M and m the greater and the less one, u and v both where what is below 0 is 0. -/
theorem fair {a b M m u v : Int} (hm : part m ≤ part M) (hu : part u = part a) (hv : part v = part b) :
    65536 - share M m ≤ share M m ∧ (share a b == share u v) = true ∧ (65536 - share a b == 65536 - share u v) = true ∧ (share M m + (65536 - share M m) == 65536) = true := by
  have h1 := share_half hm
  rw [share_same hu hv]
  refine ⟨by omega, by simp, by simp, by simp; omega⟩

theorem step_no {x s q l : Int} {k : Nat} (h : q * s + l = x * 2 ^ k) : 2 * q * s + 2 * l = x * 2 ^ (k + 1) := by
  rw [Int.pow_succ, ← Int.mul_assoc x, ← h, Int.mul_assoc]; omega
theorem step_yes {x s q l : Int} {k : Nat} (h : q * s + l = x * 2 ^ k) : (2 * q + 1) * s + (2 * l - s) = x * 2 ^ (k + 1) := by
  rw [← step_no h, Int.add_mul]; omega
theorem pow_hi {k : Nat} (h : k ≤ 16) : (2 : Int) ^ k ≤ 65536 := by
  have g : (2 : Nat) ^ k ≤ 2 ^ 16 := Nat.pow_le_pow_right (by omega) h
  have e : ((2 ^ k : Nat) : Int) = (2 : Int) ^ k := Int.natCast_pow 2 k
  rw [← e]
  have g2 : (2 : Nat) ^ k ≤ 65536 := g
  exact Int.ofNat_le.mpr g2

end Go.Proofs.Ytpfhjdlmjehfnaa.Sx
