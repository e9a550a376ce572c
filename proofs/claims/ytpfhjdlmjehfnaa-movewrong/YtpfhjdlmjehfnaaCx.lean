/- The check sum on natural numbers and lists of bytes: one shift, eight, a byte, a list; that none of them makes one of two; what is laid over by a loop over the bits (no program in sight). -/
namespace Go.Proofs.Ytpfhjdlmjehfnaa.Cx

theorem xor_cancel (a b : Nat) : a ^^^ b ^^^ b = a := by rw [Nat.xor_assoc, Nat.xor_self, Nat.xor_zero]
theorem xor_zero_eq {a b : Nat} (h : a ^^^ b = 0) : a = b := by
  have := congrArg (· ^^^ b) h
  simpa [xor_cancel] using this
theorem xor_inj {a b c : Nat} (h : a ^^^ c = b ^^^ c) : a = b := by
  have := congrArg (· ^^^ c) h
  simpa [xor_cancel] using this
theorem xor_inj_left {a b c : Nat} (h : c ^^^ a = c ^^^ b) : a = b := by
  rw [Nat.xor_comm c a, Nat.xor_comm c b] at h; exact xor_inj h
theorem xor_lt {a b : Nat} (ha : a < 4294967296) (hb : b < 4294967296) : a ^^^ b < 4294967296 := Nat.xor_lt_two_pow (n := 32) ha hb
theorem xor_four (a b c d : Nat) : (a ^^^ b) ^^^ (c ^^^ d) = (a ^^^ c) ^^^ (b ^^^ d) := by
  rw [Nat.xor_assoc, Nat.xor_assoc, ← Nat.xor_assoc b c d, Nat.xor_comm b c, Nat.xor_assoc c b d]

/-- One shift; if a 1 fell out, EDB88320 is laid over. -/
def step (c : Nat) : Nat := if c % 2 = 1 then (c / 2) ^^^ 3988292384 else c / 2
def steps : Nat → Nat → Nat
  | 0, c => c
  | k + 1, c => step (steps k c)

theorem step_odd {c : Nat} (h : c % 2 = 1) : step c = (c / 2) ^^^ 3988292384 := by unfold step; rw [if_pos h]
theorem step_even {c : Nat} (h : ¬ c % 2 = 1) : step c = c / 2 := by unfold step; rw [if_neg h]
theorem step_lt {c : Nat} (h : c < 4294967296) : step c < 4294967296 := by
  unfold step; split
  · exact xor_lt (by omega) (by omega)
  · omega
theorem steps_lt {c : Nat} (h : c < 4294967296) : ∀ k, steps k c < 4294967296
  | 0 => h
  | k + 1 => step_lt (steps_lt h k)
theorem step_xor (a b : Nat) : step (a ^^^ b) = step a ^^^ step b := by
  unfold step
  simp only [Nat.xor_mod_two_eq_one, Nat.xor_div_two]
  by_cases ha : a % 2 = 1 <;> by_cases hb : b % 2 = 1
  · simp only [ha, hb, iff_self, not_true, if_true, if_false]
    rw [xor_four, Nat.xor_self, Nat.xor_zero]
  · simp only [ha, hb, iff_false, not_true, not_false_iff, if_true, if_false]
    rw [Nat.xor_assoc, Nat.xor_comm (b / 2), ← Nat.xor_assoc]
  · simp only [ha, hb, false_iff, not_true, not_false_iff, if_true, if_false]
    rw [Nat.xor_assoc]
  · simp only [ha, hb, iff_self, not_true, if_false]
theorem steps_xor (a b : Nat) : ∀ k, steps k (a ^^^ b) = steps k a ^^^ steps k b
  | 0 => rfl
  | k + 1 => by show step _ = step _ ^^^ step _; rw [steps_xor a b k, step_xor]
theorem step_zero {c : Nat} (h : c < 4294967296) (h0 : step c = 0) : c = 0 := by
  unfold step at h0
  split at h0
  · have := xor_zero_eq h0; omega
  · omega
theorem steps_zero {c : Nat} (h : c < 4294967296) : ∀ k, steps k c = 0 → c = 0
  | 0, h0 => h0
  | k + 1, h0 => steps_zero h k (step_zero (steps_lt h k) h0)
theorem steps_of_zero : ∀ k, steps k 0 = 0
  | 0 => rfl
  | k + 1 => by show step _ = 0; rw [steps_of_zero k]; rfl
theorem steps_inj {a b : Nat} (ha : a < 4294967296) (hb : b < 4294967296) {k : Nat} (h : steps k a = steps k b) : a = b := by
  have e := steps_xor a b k
  rw [h, Nat.xor_self] at e
  exact xor_zero_eq (steps_zero (xor_lt ha hb) k e)

/-- One byte. -/
def byte (c b : Nat) : Nat := steps 8 (c ^^^ b)
theorem byte_lt {c b : Nat} (hc : c < 4294967296) (hb : b < 256) : byte c b < 4294967296 := steps_lt (xor_lt hc (by omega)) 8
theorem byte_inj {c d b : Nat} (hc : c < 4294967296) (hd : d < 4294967296) (hb : b < 256) (h : byte c b = byte d b) : c = d :=
  xor_inj (steps_inj (xor_lt hc (by omega)) (xor_lt hd (by omega)) h)
theorem byte_told {c a b : Nat} (hc : c < 4294967296) (ha : a < 256) (hb : b < 256) (h : byte c a = byte c b) : a = b :=
  xor_inj_left (steps_inj (xor_lt hc (by omega)) (xor_lt hc (by omega)) h)

/-- Bytes, one behind the other. -/
def run (c : Nat) (l : List UInt8) : Nat := l.foldl (fun c b => byte c b.toNat) c
theorem run_nil (c : Nat) : run c [] = c := rfl
theorem run_cons (c : Nat) (b : UInt8) (l : List UInt8) : run c (b :: l) = run (byte c b.toNat) l := by unfold run; rw [List.foldl_cons]
theorem run_append (c : Nat) (l m : List UInt8) : run c (l ++ m) = run (run c l) m := by unfold run; rw [List.foldl_append]
theorem run_lt {c : Nat} (h : c < 4294967296) (l : List UInt8) : run c l < 4294967296 := by
  induction l generalizing c with
  | nil => rw [run_nil]; exact h
  | cons b l ih => rw [run_cons]; exact ih (byte_lt h b.toNat_lt)
theorem run_inj {c d : Nat} (hc : c < 4294967296) (hd : d < 4294967296) (l : List UInt8) (h : run c l = run d l) : c = d := by
  induction l generalizing c d with
  | nil => rw [run_nil, run_nil] at h; exact h
  | cons b l ih =>
    rw [run_cons, run_cons] at h
    exact byte_inj hc hd b.toNat_lt (ih (byte_lt hc b.toNat_lt) (byte_lt hd b.toNat_lt) h)

/-- The sum of bytes. -/
def sum (l : List UInt8) : Nat := run 4294967295 l ^^^ 4294967295
theorem sum_lt (l : List UInt8) : sum l < 4294967296 := xor_lt (run_lt (by omega) l) (by omega)
theorem sum_run {l m : List UInt8} (h : sum l = sum m) : run 4294967295 l = run 4294967295 m := xor_inj h

/-- Texts that differ in one byte have unlike sums. -/
theorem sum_one {p q : List UInt8} {a b : UInt8} (h : sum (p ++ a :: q) = sum (p ++ b :: q)) : a = b := by
  have h1 := sum_run h
  rw [run_append, run_append, run_cons, run_cons] at h1
  have hp : run 4294967295 p < 4294967296 := run_lt (by omega) p
  have h2 := byte_told hp a.toNat_lt b.toNat_lt (run_inj (byte_lt hp a.toNat_lt) (byte_lt hp b.toNat_lt) q h1)
  exact UInt8.toNat_inj.1 h2
theorem sum_last (l : List UInt8) (a b : UInt8) : sum (l ++ [a]) = sum (l ++ [b]) ↔ a = b := ⟨fun h => sum_one h, fun h => by rw [h]⟩
theorem sum_set {l : List UInt8} {j : Nat} (hj : j < l.length) {b : UInt8} (hb : l[j] ≠ b) : sum (l.set j b) ≠ sum l := by
  intro h
  have e : l = l.take j ++ l[j] :: l.drop (j + 1) := by rw [List.getElem_cons_drop, List.take_append_drop]
  rw [List.set_eq_take_append_cons_drop, if_pos hj] at h
  have h2 : sum (l.take j ++ b :: l.drop (j + 1)) = sum (l.take j ++ l[j] :: l.drop (j + 1)) := by rw [← e]; exact h
  exact hb (sum_one h2).symm

/-- Eight shifts of a byte that is not 0 reach beyond a byte. -/
theorem eight_far : ∀ a, a < 256 → a ≠ 0 → 256 ≤ steps 8 a := by decide +kernel

/-- Texts that differ in two bytes side by side, or one, have unlike sums. -/
theorem sum_two {p q : List UInt8} {x y a b : UInt8} (h : sum (p ++ (x ^^^ a) :: (y ^^^ b) :: q) = sum (p ++ x :: y :: q)) : a = 0 ∧ b = 0 := by
  have h1 := sum_run h
  rw [run_append, run_append, run_cons, run_cons, run_cons, run_cons] at h1
  have hp : run 4294967295 p < 4294967296 := run_lt (by omega) p
  have h2 := run_inj (byte_lt (byte_lt hp (x ^^^ a).toNat_lt) (y ^^^ b).toNat_lt) (byte_lt (byte_lt hp x.toNat_lt) y.toNat_lt) q h1
  generalize run 4294967295 p = c at *
  have b1 := byte_lt hp (x ^^^ a).toNat_lt
  have b2 := byte_lt hp x.toNat_lt
  have hx := x.toNat_lt
  have hy := y.toNat_lt
  have ha := a.toNat_lt
  have hb := b.toNat_lt
  have hyb := (y ^^^ b).toNat_lt
  have h3 : byte c (x ^^^ a).toNat ^^^ (y ^^^ b).toNat = byte c x.toNat ^^^ y.toNat := steps_inj (xor_lt b1 (by omega)) (xor_lt b2 (by omega)) h2
  rw [UInt8.toNat_xor, UInt8.toNat_xor] at h3
  unfold byte at h3
  rw [← Nat.xor_assoc c x.toNat a.toNat, steps_xor, xor_four] at h3
  have h4 : steps 8 a.toNat ^^^ b.toNat = 0 := xor_inj_left (c := steps 8 (c ^^^ x.toNat) ^^^ y.toNat) (by rw [h3, Nat.xor_zero])
  have h5 : steps 8 a.toNat = b.toNat := xor_zero_eq h4
  by_cases h0 : a.toNat = 0
  · rw [h0, steps_of_zero] at h5
    exact ⟨UInt8.toNat_inj.1 h0, UInt8.toNat_inj.1 h5.symm⟩
  · have := eight_far a.toNat ha h0
    omega
theorem sum_set2 {l : List UInt8} {j : Nat} (hj : j + 1 < l.length) {a b : UInt8} (h : ¬ (a = 0 ∧ b = 0)) : sum ((l.set j (l[j] ^^^ a)).set (j + 1) (l[j + 1] ^^^ b)) ≠ sum l := by
  intro hs
  have e1 : ∀ u v : UInt8, (l.set j u).set (j + 1) v = l.take j ++ u :: v :: l.drop (j + 2) := by
    intro u v
    apply List.ext_getElem?
    intro i
    simp only [List.getElem?_set, List.length_set]
    by_cases h1 : j + 1 = i
    · subst h1
      rw [if_pos rfl, if_pos (by omega), List.getElem?_append_right (by simp; omega)]
      simp [List.length_take]
      rw [show j + 1 - min j l.length = 1 by omega]; rfl
    · rw [if_neg h1]
      by_cases h2 : j = i
      · subst h2
        rw [if_pos rfl, if_pos (by omega), List.getElem?_append_right (by simp; omega)]
        simp [List.length_take]
        rw [show j - min j l.length = 0 by omega]; rfl
      · rw [if_neg h2]
        by_cases h3 : i < j
        · rw [List.getElem?_append_left (by simp; omega), List.getElem?_take, if_pos h3]
        · rw [List.getElem?_append_right (by simp; omega), List.length_take]
          obtain ⟨k, hk⟩ : ∃ k, i = j + 2 + k := ⟨i - (j + 2), by omega⟩
          rw [show i - min j l.length = k + 1 + 1 by omega, List.getElem?_cons_succ, List.getElem?_cons_succ, List.getElem?_drop, hk]
  have e2 : l = l.take j ++ l[j] :: l[j + 1] :: l.drop (j + 2) := by
    rw [← e1]
    apply List.ext_getElem?
    intro i
    simp only [List.getElem?_set, List.length_set]
    by_cases h1 : j + 1 = i
    · subst h1; rw [if_pos rfl, if_pos (by omega), List.getElem?_eq_getElem (by omega)]
    · rw [if_neg h1]
      by_cases h2 : j = i
      · subst h2; rw [if_pos rfl, if_pos (by omega), List.getElem?_eq_getElem (by omega)]
      · rw [if_neg h2]
  rw [e1] at hs
  have hs2 : sum (l.take j ++ (l[j] ^^^ a) :: (l[j + 1] ^^^ b) :: l.drop (j + 2)) = sum (l.take j ++ l[j] :: l[j + 1] :: l.drop (j + 2)) := by rw [← e2]; exact hs
  exact h (sum_two hs2)

/-! ### The loop over the bits -/
theorem bits_xor (a b : Nat) : a ^^^ b = 2 * (a / 2 ^^^ b / 2) + if a % 2 = b % 2 then 0 else 1 := by
  have h1 : (a ^^^ b) / 2 = a / 2 ^^^ b / 2 := Nat.xor_div_two
  have h2 := @Nat.xor_mod_two_eq_one a b
  rw [← h1]
  split
  · have : ¬ (a ^^^ b) % 2 = 1 := by rw [h2]; omega
    omega
  · have : (a ^^^ b) % 2 = 1 := by rw [h2]; omega
    omega
theorem over_like {out bit a b r : Nat} (h : out + bit * (a ^^^ b) = r) (he : a % 2 = b % 2) : out + 2 * bit * (a / 2 ^^^ b / 2) = r := by
  rw [bits_xor a b, if_pos he, Nat.add_zero] at h
  rw [← h, Nat.mul_comm 2 bit, Nat.mul_assoc]
theorem over_unlike {out bit a b r : Nat} (h : out + bit * (a ^^^ b) = r) (he : ¬ a % 2 = b % 2) : out + bit + 2 * bit * (a / 2 ^^^ b / 2) = r := by
  rw [bits_xor a b, if_neg he, Nat.mul_add, Nat.mul_one] at h
  rw [← h, Nat.mul_comm 2 bit, Nat.mul_assoc, Nat.add_assoc, Nat.add_comm bit]
theorem over_half {a bit n : Nat} (h : a * bit < n) : a / 2 * (2 * bit) < n := by
  refine Nat.lt_of_le_of_lt ?_ h
  rw [← Nat.mul_assoc]
  exact Nat.mul_le_mul_right _ (Nat.div_mul_le_self a 2)
theorem over_bit {a bit n : Nat} (h : a * bit < n) (ha : 0 < a) : bit < n := Nat.lt_of_le_of_lt (Nat.le_mul_of_pos_left bit ha) h

end Go.Proofs.Ytpfhjdlmjehfnaa.Cx
