/- 2 texts as one, in their order: Cx, Wx. -/

/- The check sum on natural numbers and lists of bytes: one shift, eight, a byte, a list; that none of them makes one of two; what is laid over by a loop over the bits (no program in sight). -/
namespace Go.Proofs.YtokfcjgfpchffaaGreatDoor.Cx

theorem xor_cancel (a b : Nat) : a ^^^ b ^^^ b = a := by rw [Nat.xor_assoc, Nat.xor_self, Nat.xor_zero]
theorem xor_zero_eq {a b : Nat} (h : a ^^^ b = 0) : a = b := by
  have := congrArg (· ^^^ b) h
  simpa [xor_cancel] using this
theorem xor_inj {a b c : Nat} (h : a ^^^ c = b ^^^ c) : a = b := by
  have := congrArg (· ^^^ c) h
  simpa [xor_cancel] using this
theorem xor_inj_left {a b c : Nat} (h : c ^^^ a = c ^^^ b) : a = b := by
  rw [Nat.xor_comm c a, Nat.xor_comm c b] at h; exact xor_inj h
theorem xor_lt {a b : Nat} (ha : a < 4294967296) (hb : b < 4294967296) : a ^^^ b < 4294967296 := Nat.xor_lt_two_pow (n := 32) ha hb
theorem xor_four (a b c d : Nat) : (a ^^^ b) ^^^ (c ^^^ d) = (a ^^^ c) ^^^ (b ^^^ d) := by
  rw [Nat.xor_assoc, Nat.xor_assoc, ← Nat.xor_assoc b c d, Nat.xor_comm b c, Nat.xor_assoc c b d]

/-- One shift; if a 1 fell out, EDB88320 is laid over. -/
def step (c : Nat) : Nat := if c % 2 = 1 then (c / 2) ^^^ 3988292384 else c / 2
def steps : Nat → Nat → Nat
  | 0, c => c
  | k + 1, c => step (steps k c)

theorem step_odd {c : Nat} (h : c % 2 = 1) : step c = (c / 2) ^^^ 3988292384 := by unfold step; rw [if_pos h]
theorem step_even {c : Nat} (h : ¬ c % 2 = 1) : step c = c / 2 := by unfold step; rw [if_neg h]
theorem step_lt {c : Nat} (h : c < 4294967296) : step c < 4294967296 := by
  unfold step; split
  · exact xor_lt (by omega) (by omega)
  · omega
theorem steps_lt {c : Nat} (h : c < 4294967296) : ∀ k, steps k c < 4294967296
  | 0 => h
  | k + 1 => step_lt (steps_lt h k)
theorem step_xor (a b : Nat) : step (a ^^^ b) = step a ^^^ step b := by
  unfold step
  simp only [Nat.xor_mod_two_eq_one, Nat.xor_div_two]
  by_cases ha : a % 2 = 1 <;> by_cases hb : b % 2 = 1
  · simp only [ha, hb, iff_self, not_true, if_true, if_false]
    rw [xor_four, Nat.xor_self, Nat.xor_zero]
  · simp only [ha, hb, iff_false, not_true, not_false_iff, if_true, if_false]
    rw [Nat.xor_assoc, Nat.xor_comm (b / 2), ← Nat.xor_assoc]
  · simp only [ha, hb, false_iff, not_true, not_false_iff, if_true, if_false]
    rw [Nat.xor_assoc]
  · simp only [ha, hb, iff_self, not_true, if_false]
theorem steps_xor (a b : Nat) : ∀ k, steps k (a ^^^ b) = steps k a ^^^ steps k b
  | 0 => rfl
  | k + 1 => by show step _ = step _ ^^^ step _; rw [steps_xor a b k, step_xor]
theorem step_zero {c : Nat} (h : c < 4294967296) (h0 : step c = 0) : c = 0 := by
  unfold step at h0
  split at h0
  · have := xor_zero_eq h0; omega
  · omega
theorem steps_zero {c : Nat} (h : c < 4294967296) : ∀ k, steps k c = 0 → c = 0
  | 0, h0 => h0
  | k + 1, h0 => steps_zero h k (step_zero (steps_lt h k) h0)
theorem steps_inj {a b : Nat} (ha : a < 4294967296) (hb : b < 4294967296) {k : Nat} (h : steps k a = steps k b) : a = b := by
  have e := steps_xor a b k
  rw [h, Nat.xor_self] at e
  exact xor_zero_eq (steps_zero (xor_lt ha hb) k e)

/-- One byte. -/
def byte (c b : Nat) : Nat := steps 8 (c ^^^ b)
theorem byte_lt {c b : Nat} (hc : c < 4294967296) (hb : b < 256) : byte c b < 4294967296 := steps_lt (xor_lt hc (by omega)) 8
theorem byte_inj {c d b : Nat} (hc : c < 4294967296) (hd : d < 4294967296) (hb : b < 256) (h : byte c b = byte d b) : c = d :=
  xor_inj (steps_inj (xor_lt hc (by omega)) (xor_lt hd (by omega)) h)
theorem byte_told {c a b : Nat} (hc : c < 4294967296) (ha : a < 256) (hb : b < 256) (h : byte c a = byte c b) : a = b :=
  xor_inj_left (steps_inj (xor_lt hc (by omega)) (xor_lt hc (by omega)) h)

/-- Bytes, one behind the other. -/
def run (c : Nat) (l : List UInt8) : Nat := l.foldl (fun c b => byte c b.toNat) c
theorem run_nil (c : Nat) : run c [] = c := rfl
theorem run_cons (c : Nat) (b : UInt8) (l : List UInt8) : run c (b :: l) = run (byte c b.toNat) l := by unfold run; rw [List.foldl_cons]
theorem run_append (c : Nat) (l m : List UInt8) : run c (l ++ m) = run (run c l) m := by unfold run; rw [List.foldl_append]
theorem run_lt {c : Nat} (h : c < 4294967296) (l : List UInt8) : run c l < 4294967296 := by
  induction l generalizing c with
  | nil => rw [run_nil]; exact h
  | cons b l ih => rw [run_cons]; exact ih (byte_lt h b.toNat_lt)
theorem run_inj {c d : Nat} (hc : c < 4294967296) (hd : d < 4294967296) (l : List UInt8) (h : run c l = run d l) : c = d := by
  induction l generalizing c d with
  | nil => rw [run_nil, run_nil] at h; exact h
  | cons b l ih =>
    rw [run_cons, run_cons] at h
    exact byte_inj hc hd b.toNat_lt (ih (byte_lt hc b.toNat_lt) (byte_lt hd b.toNat_lt) h)

/-- The sum of bytes. -/
def sum (l : List UInt8) : Nat := run 4294967295 l ^^^ 4294967295
theorem sum_lt (l : List UInt8) : sum l < 4294967296 := xor_lt (run_lt (by omega) l) (by omega)
theorem sum_run {l m : List UInt8} (h : sum l = sum m) : run 4294967295 l = run 4294967295 m := xor_inj h

/-- Texts that differ in one byte have unlike sums. -/
theorem sum_one {p q : List UInt8} {a b : UInt8} (h : sum (p ++ a :: q) = sum (p ++ b :: q)) : a = b := by
  have h1 := sum_run h
  rw [run_append, run_append, run_cons, run_cons] at h1
  have hp : run 4294967295 p < 4294967296 := run_lt (by omega) p
  have h2 := byte_told hp a.toNat_lt b.toNat_lt (run_inj (byte_lt hp a.toNat_lt) (byte_lt hp b.toNat_lt) q h1)
  exact UInt8.toNat_inj.1 h2
theorem sum_set {l : List UInt8} {j : Nat} (hj : j < l.length) {b : UInt8} (hb : l[j] ≠ b) : sum (l.set j b) ≠ sum l := by
  intro h
  have e : l = l.take j ++ l[j] :: l.drop (j + 1) := by rw [List.getElem_cons_drop, List.take_append_drop]
  rw [List.set_eq_take_append_cons_drop, if_pos hj] at h
  have h2 : sum (l.take j ++ b :: l.drop (j + 1)) = sum (l.take j ++ l[j] :: l.drop (j + 1)) := by rw [← e]; exact h
  exact hb (sum_one h2).symm

end Go.Proofs.YtokfcjgfpchffaaGreatDoor.Cx

/- Messages as lists of bytes: numbers in four, what is written, what is taken, and that one is the other's way back (no program in sight). -/
namespace Go.Proofs.YtokfcjgfpchffaaGreatDoor.Wx

structure Msg where
  kind : Int
  fr : Int
  to : Int
  seq : Int
  batch : Int
  layer : Int
  token : Int
  rank : Int
  expert : Int
  epoch : Int
  vec : List Int
deriving DecidableEq

def zero : Msg := ⟨0, 0, 0, 0, 0, 0, 0, 0, 0, 0, []⟩

/-- The ten numbers ahead of Vec. -/
def ten (m : Msg) : List Int := [m.kind, m.fr, m.to, m.seq, m.batch, m.layer, m.token, m.rank, m.expert, m.epoch]
def listOf (m : Msg) : List Int := ten m ++ ((m.vec.length : Int) :: m.vec)

def right (m : Msg) : Prop := 1 ≤ m.kind ∧ m.kind ≤ 4 ∧ (∀ x ∈ ten m, 0 ≤ x ∧ x ≤ 2147483647) ∧ m.vec.length ≤ 8 ∧ ∀ x ∈ m.vec, -2147483648 ≤ x ∧ x ≤ 2147483647
instance (m : Msg) : Decidable (right m) := by unfold right; infer_instance

/-- A number that is read as one below 0, and back. -/
def sg (n : Nat) : Int := if n > 2147483647 then (n : Int) - 4294967296 else n
def un (n : Int) : Nat := (n % 4294967296).toNat
theorem un_lt (n : Int) : un n < 4294967296 := by unfold un; omega
theorem un_nat {n : Nat} (h : n < 4294967296) : un (n : Int) = n := by unfold un; omega
theorem un_pos {n : Int} (h0 : 0 ≤ n) (h1 : n < 4294967296) : ((un n : Nat) : Int) = n := by unfold un; omega
theorem sg_un {n : Int} (h0 : -2147483648 ≤ n) (h1 : n ≤ 2147483647) : sg (un n) = n := by unfold un sg; split <;> omega

/-- A number in four bytes, the lowest first. -/
def four (n : Nat) : List UInt8 := [UInt8.ofNat (n % 256), UInt8.ofNat (n / 256 % 256), UInt8.ofNat (n / 65536 % 256), UInt8.ofNat (n / 16777216 % 256)]
def at4 (s : List UInt8) (i : Nat) : Nat := (s.getD i 0).toNat + 256 * (s.getD (i + 1) 0).toNat + 65536 * (s.getD (i + 2) 0).toNat + 16777216 * (s.getD (i + 3) 0).toNat
theorem at4_lt (s : List UInt8) (i : Nat) : at4 s i < 4294967296 := by
  unfold at4
  have h0 := (s.getD i 0).toNat_lt
  have h1 := (s.getD (i + 1) 0).toNat_lt
  have h2 := (s.getD (i + 2) 0).toNat_lt
  have h3 := (s.getD (i + 3) 0).toNat_lt
  omega
theorem ofNat_toNat (n : Nat) (h : n < 256) : (UInt8.ofNat n).toNat = n := by rw [UInt8.toNat_ofNat']; omega
theorem four_len (n : Nat) : (four n).length = 4 := rfl
theorem at4_four (n : Nat) (h : n < 4294967296) (r : List UInt8) : at4 (four n ++ r) 0 = n := by
  unfold at4 four
  simp only [List.cons_append, List.getD_cons_zero, List.getD_cons_succ, Nat.zero_add]
  rw [ofNat_toNat _ (by omega), ofNat_toNat _ (by omega), ofNat_toNat _ (by omega), ofNat_toNat _ (by omega)]
  omega
theorem at4_skip (p s : List UInt8) (i : Nat) : at4 (p ++ s) (p.length + i) = at4 s i := by
  unfold at4
  have e : ∀ k, (p ++ s).getD (p.length + k) 0 = s.getD k 0 := by
    intro k
    rw [List.getD_eq_getElem?_getD, List.getD_eq_getElem?_getD, List.getElem?_append_right (by omega), Nat.add_sub_cancel_left]
  rw [Nat.add_assoc p.length i 1, Nat.add_assoc p.length i 2, Nat.add_assoc p.length i 3, e, e, e, e]
/-- Numbers, one behind the other. -/
def F (l : List Nat) : List UInt8 := l.flatMap four
theorem F_nil : F [] = [] := rfl
theorem F_cons (n : Nat) (l : List Nat) : F (n :: l) = four n ++ F l := rfl
theorem F_append (l k : List Nat) : F (l ++ k) = F l ++ F k := by unfold F; rw [List.flatMap_append]
theorem F_one (n : Nat) : F [n] = four n := by rw [F_cons, F_nil, List.append_nil]
theorem F_len (l : List Nat) : (F l).length = 4 * l.length := by
  induction l with
  | nil => rfl
  | cons n l ih => rw [F_cons, List.length_append, four_len, ih, List.length_cons]; omega
def small (l : List Nat) : Prop := ∀ x ∈ l, x < 4294967296
theorem at4_F {l : List Nat} (h : small l) {i : Nat} (hi : i < l.length) : at4 (F l) (4 * i) = l.getD i 0 := by
  induction l generalizing i with
  | nil => simp at hi
  | cons n l ih =>
    rw [F_cons]
    cases i with
    | zero => rw [Nat.mul_zero, at4_four n (h n (by simp))]; rfl
    | succ i =>
      have := at4_skip (four n) (F l) (4 * i)
      rw [four_len, show 4 + 4 * i = 4 * (i + 1) by omega] at this
      rw [this, ih (fun x hx => h x (by simp [hx])) (by simpa using hi), List.getD_cons_succ]
/-- The numbers of a message, each below 2^32. -/
def words (m : Msg) : List Nat := (listOf m).map un
theorem words_len (m : Msg) : (words m).length = 11 + m.vec.length := by unfold words listOf ten; simp; omega
theorem words_small (m : Msg) : small (words m) := by
  intro x hx
  obtain ⟨y, _, rfl⟩ := List.mem_map.1 hx
  exact un_lt y
def body (m : Msg) : List UInt8 := F (words m)
theorem body_len (m : Msg) : (body m).length = 44 + 4 * m.vec.length := by unfold body; rw [F_len, words_len]; omega
/-- What is written. -/
def put (m : Msg) : List UInt8 := four ((body m).length + 4) ++ (body m ++ four (Cx.sum (body m)))
theorem put_F (m : Msg) : put m = F (((body m).length + 4) :: (words m ++ [Cx.sum (body m)])) := by rw [F_cons, F_append, F_one]; rfl
theorem put_len (m : Msg) : (put m).length = 52 + 4 * m.vec.length := by unfold put; simp [four_len, body_len]; omega

def vecOf (s : List UInt8) : List Int := (List.range ((s.length - 52) / 4)).map fun i => sg (at4 s (48 + 4 * i))
def msgOf (s : List UInt8) : Msg := ⟨at4 s 4, at4 s 8, at4 s 12, at4 s 16, at4 s 20, at4 s 24, at4 s 28, at4 s 32, at4 s 36, at4 s 40, vecOf s⟩
/-- Are there as many bytes as there should be? -/
def formed (s : List UInt8) : Prop := 52 ≤ s.length ∧ at4 s 0 = s.length - 4 ∧ s.length % 4 = 0
instance (s : List UInt8) : Decidable (formed s) := by unfold formed; infer_instance
def inner (s : List UInt8) : List UInt8 := (s.drop 4).take (s.length - 8)
def summed (s : List UInt8) : Prop := at4 s (s.length - 4) = Cx.sum (inner s)
instance (s : List UInt8) : Decidable (summed s) := by unfold summed; infer_instance
def told (s : List UInt8) : Prop := at4 s 44 = (vecOf s).length ∧ right (msgOf s)
instance (s : List UInt8) : Decidable (told s) := by unfold told; infer_instance
/-- What is taken. -/
def take (s : List UInt8) : Msg × Int := if ¬ formed s then (zero, 2) else if ¬ summed s then (zero, 9) else if ¬ told s then (zero, 2) else (msgOf s, 0)
theorem take_unformed {s : List UInt8} (h : ¬ formed s) : take s = (zero, 2) := by unfold take; rw [if_pos h]
theorem take_unsummed {s : List UInt8} (h : formed s) (h2 : ¬ summed s) : take s = (zero, 9) := by unfold take; rw [if_neg (by simpa using h), if_pos h2]
theorem take_untold {s : List UInt8} (h : formed s) (h2 : summed s) (h3 : ¬ told s) : take s = (zero, 2) := by unfold take; rw [if_neg (by simpa using h), if_neg (by simpa using h2), if_pos h3]
theorem take_ok {s : List UInt8} (h : formed s) (h2 : summed s) (h3 : told s) : take s = (msgOf s, 0) := by unfold take; rw [if_neg (by simpa using h), if_neg (by simpa using h2), if_neg (by simpa using h3)]
section
variable {w0 w1 w2 w3 w4 w5 w6 w7 w8 w9 w10 w11 c : Nat} {vs : List Nat}
/-- Thirteen numbers or more. -/
def row (w0 w1 w2 w3 w4 w5 w6 w7 w8 w9 w10 w11 : Nat) (vs : List Nat) (c : Nat) : List Nat := w0 :: ([w1, w2, w3, w4, w5, w6, w7, w8, w9, w10, w11] ++ vs ++ [c])
theorem row_len : (row w0 w1 w2 w3 w4 w5 w6 w7 w8 w9 w10 w11 vs c).length = 13 + vs.length := by unfold row; simp; omega
theorem row_F_len : (F (row w0 w1 w2 w3 w4 w5 w6 w7 w8 w9 w10 w11 vs c)).length = 52 + 4 * vs.length := by rw [F_len, row_len]; omega
theorem row_inner : inner (F (row w0 w1 w2 w3 w4 w5 w6 w7 w8 w9 w10 w11 vs c)) = F ([w1, w2, w3, w4, w5, w6, w7, w8, w9, w10, w11] ++ vs) := by
  have hlen := row_F_len (w0 := w0) (w1 := w1) (w2 := w2) (w3 := w3) (w4 := w4) (w5 := w5) (w6 := w6) (w7 := w7) (w8 := w8) (w9 := w9) (w10 := w10) (w11 := w11) (vs := vs) (c := c)
  unfold inner
  rw [hlen]
  unfold row
  rw [F_cons, F_append, List.drop_left' (four_len w0), List.take_left' (by rw [F_len]; simp; omega)]
theorem row_at (h : small (row w0 w1 w2 w3 w4 w5 w6 w7 w8 w9 w10 w11 vs c)) {i : Nat} (hi : i < 13 + vs.length) : at4 (F (row w0 w1 w2 w3 w4 w5 w6 w7 w8 w9 w10 w11 vs c)) (4 * i) = (row w0 w1 w2 w3 w4 w5 w6 w7 w8 w9 w10 w11 vs c).getD i 0 := at4_F h (by rw [row_len]; exact hi)
theorem row_last (h : small (row w0 w1 w2 w3 w4 w5 w6 w7 w8 w9 w10 w11 vs c)) : at4 (F (row w0 w1 w2 w3 w4 w5 w6 w7 w8 w9 w10 w11 vs c)) ((F (row w0 w1 w2 w3 w4 w5 w6 w7 w8 w9 w10 w11 vs c)).length - 4) = c := by
  rw [row_F_len, show 52 + 4 * vs.length - 4 = 4 * (12 + vs.length) by omega, row_at h (by omega)]
  unfold row
  rw [List.getD_eq_getElem?_getD, show 12 + vs.length = (11 + vs.length) + 1 by omega, List.getElem?_cons_succ]
  have e : ([w1, w2, w3, w4, w5, w6, w7, w8, w9, w10, w11] ++ vs).length = 11 + vs.length := by simp; omega
  rw [List.getElem?_append_right (by rw [e]; exact Nat.le_refl _), e, Nat.sub_self]; rfl
theorem row_vec (h : small (row w0 w1 w2 w3 w4 w5 w6 w7 w8 w9 w10 w11 vs c)) : vecOf (F (row w0 w1 w2 w3 w4 w5 w6 w7 w8 w9 w10 w11 vs c)) = vs.map sg := by
  unfold vecOf
  rw [row_F_len, show (52 + 4 * vs.length - 52) / 4 = vs.length by omega]
  apply List.ext_getElem (by simp)
  intro i h1 h2
  have hi : i < vs.length := by simpa using h2
  rw [List.getElem_map, List.getElem_map, List.getElem_range, show 48 + 4 * i = 4 * (12 + i) by omega, row_at h (by omega)]
  unfold row
  rw [List.getD_eq_getElem?_getD, show 12 + i = (11 + i) + 1 by omega, List.getElem?_cons_succ, List.getElem?_append_left (by simp <;> omega), List.getElem?_append_right (by simp <;> omega)]
  simp [hi]
theorem row_msg (h : small (row w0 w1 w2 w3 w4 w5 w6 w7 w8 w9 w10 w11 vs c)) : msgOf (F (row w0 w1 w2 w3 w4 w5 w6 w7 w8 w9 w10 w11 vs c)) = ⟨w1, w2, w3, w4, w5, w6, w7, w8, w9, w10, vs.map sg⟩ := by
  have e : ∀ i, i < 13 → at4 (F (row w0 w1 w2 w3 w4 w5 w6 w7 w8 w9 w10 w11 vs c)) (4 * i) = (row w0 w1 w2 w3 w4 w5 w6 w7 w8 w9 w10 w11 vs c).getD i 0 := fun i hi => row_at h (by omega)
  unfold msgOf
  rw [row_vec h, e 1 (by omega), e 2 (by omega), e 3 (by omega), e 4 (by omega), e 5 (by omega), e 6 (by omega), e 7 (by omega), e 8 (by omega), e 9 (by omega), e 10 (by omega)]
  rfl
theorem row_first (h : small (row w0 w1 w2 w3 w4 w5 w6 w7 w8 w9 w10 w11 vs c)) : at4 (F (row w0 w1 w2 w3 w4 w5 w6 w7 w8 w9 w10 w11 vs c)) 0 = w0 := row_at h (i := 0) (by omega)
theorem row_count (h : small (row w0 w1 w2 w3 w4 w5 w6 w7 w8 w9 w10 w11 vs c)) : at4 (F (row w0 w1 w2 w3 w4 w5 w6 w7 w8 w9 w10 w11 vs c)) 44 = w11 := row_at h (i := 11) (by omega)
end

theorem map_sg_un {l : List Int} (h : ∀ x ∈ l, -2147483648 ≤ x ∧ x ≤ 2147483647) : (l.map un).map sg = l := by
  rw [List.map_map]
  conv => rhs; rw [← List.map_id l]
  exact List.map_congr_left fun x hx => sg_un (h x hx).1 (h x hx).2

theorem put_row (m : Msg) : put m = F (row ((body m).length + 4) (un m.kind) (un m.fr) (un m.to) (un m.seq) (un m.batch) (un m.layer) (un m.token) (un m.rank) (un m.expert) (un m.epoch) (un (m.vec.length : Int)) (m.vec.map un) (Cx.sum (body m))) := by
  rw [put_F]
  congr 1

theorem put_small (m : Msg) (h : m.vec.length ≤ 8) : small (row ((body m).length + 4) (un m.kind) (un m.fr) (un m.to) (un m.seq) (un m.batch) (un m.layer) (un m.token) (un m.rank) (un m.expert) (un m.epoch) (un (m.vec.length : Int)) (m.vec.map un) (Cx.sum (body m))) := by
  have hb := body_len m
  have hs := Cx.sum_lt (body m)
  have hw := words_small m
  intro x hx
  unfold row at hx
  simp only [List.mem_cons, List.mem_append, List.mem_map, List.not_mem_nil, or_false] at hx
  rcases hx with rfl | ((rfl | rfl | rfl | rfl | rfl | rfl | rfl | rfl | rfl | rfl | rfl) | ⟨y, _, rfl⟩) | rfl
  all_goals first | omega | exact un_lt _

/-- What is written is taken back. -/
theorem take_put {m : Msg} (h : right m) : take (put m) = (m, 0) := by
  obtain ⟨h1, h2, h3, h4, h5⟩ := h
  have hsm := put_small m h4
  have hb := body_len m
  have hlen := put_len m
  have t : ∀ x ∈ ten m, ((un x : Nat) : Int) = x := fun x hx => un_pos (h3 x hx).1 (by have := (h3 x hx).2; omega)
  simp only [ten, List.mem_cons, List.not_mem_nil, or_false, forall_eq_or_imp, forall_eq] at t
  obtain ⟨t0, t1, t2, t3, t4, t5, t6, t7, t8, t9⟩ := t
  have hv := map_sg_un h5
  have hm : msgOf (put m) = m := by
    rw [put_row, row_msg hsm, hv, t0, t1, t2, t3, t4, t5, t6, t7, t8, t9]
  have hf : formed (put m) := ⟨by omega, by
    have := row_first hsm
    rw [← put_row] at this
    rw [this, hlen, hb]; omega, by rw [hlen]; omega⟩
  have hs : summed (put m) := by
    unfold summed
    have e1 := row_last hsm
    have e2 : inner (put m) = body m := by
      rw [put_row, row_inner]
      unfold body words listOf ten
      simp
    rw [← put_row] at e1
    rw [e1, e2]
  have ht : told (put m) := by
    refine ⟨?_, ?_⟩
    · have e1 := row_count hsm
      have e2 := row_vec hsm
      rw [← put_row] at e1 e2
      rw [e1, e2, hv, un_nat (by omega)]
    · rw [hm]; exact ⟨h1, h2, h3, h4, h5⟩
  rw [take_ok hf hs ht, hm]

/-- Each number stands at its place. -/
theorem put_at {m : Msg} (h : m.vec.length ≤ 8) {i : Nat} (hi : i < 11 + m.vec.length) : at4 (put m) (4 + 4 * i) = un ((listOf m).getD i 0) := by
  have hs : small (((body m).length + 4) :: (words m ++ [Cx.sum (body m)])) := by
    intro x hx
    have hb := body_len m
    have := Cx.sum_lt (body m)
    rcases List.mem_cons.1 hx with rfl | hx
    · omega
    · rcases List.mem_append.1 hx with hx | hx
      · exact words_small m x hx
      · rw [List.mem_singleton] at hx; omega
  rw [put_F, show 4 + 4 * i = 4 * (i + 1) by omega, at4_F hs (by simp [words_len]; omega), List.getD_cons_succ, List.getD_eq_getElem?_getD, List.getElem?_append_left (by rw [words_len]; exact hi)]
  unfold words
  have hl : (listOf m).length = 11 + m.vec.length := by unfold listOf ten; simp; omega
  rw [List.getElem?_map, List.getD_eq_getElem?_getD, List.getElem?_eq_getElem (by omega)]
  rfl

end Go.Proofs.YtokfcjgfpchffaaGreatDoor.Wx
