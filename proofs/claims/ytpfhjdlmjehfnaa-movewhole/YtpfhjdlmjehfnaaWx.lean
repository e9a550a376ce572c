/- Messages as lists of bytes: numbers in four, what is written, what is taken, and that one is the other's way back (no program in sight). -/
import Derived.Test.YtpfhjdlmjehfnaaCx
namespace Go.Proofs.Ytpfhjdlmjehfnaa.Wx

structure Msg where
  kind : Int
  fr : Int
  to : Int
  seq : Int
  batch : Int
  layer : Int
  token : Int
  rank : Int
  expert : Int
  epoch : Int
  vec : List Int
deriving DecidableEq

def zero : Msg := ⟨0, 0, 0, 0, 0, 0, 0, 0, 0, 0, []⟩

/-- The ten numbers ahead of Vec. -/
def ten (m : Msg) : List Int := [m.kind, m.fr, m.to, m.seq, m.batch, m.layer, m.token, m.rank, m.expert, m.epoch]
def listOf (m : Msg) : List Int := ten m ++ ((m.vec.length : Int) :: m.vec)

def right (m : Msg) : Prop := 1 ≤ m.kind ∧ m.kind ≤ 4 ∧ (∀ x ∈ ten m, 0 ≤ x ∧ x ≤ 2147483647) ∧ m.vec.length ≤ 8 ∧ ∀ x ∈ m.vec, -2147483648 ≤ x ∧ x ≤ 2147483647
instance (m : Msg) : Decidable (right m) := by unfold right; infer_instance

/-- A number that is read as one below 0, and back. -/
def sg (n : Nat) : Int := if n > 2147483647 then (n : Int) - 4294967296 else n
def un (n : Int) : Nat := (n % 4294967296).toNat
theorem un_lt (n : Int) : un n < 4294967296 := by unfold un; omega
theorem un_nat {n : Nat} (h : n < 4294967296) : un (n : Int) = n := by unfold un; omega
theorem un_pos {n : Int} (h0 : 0 ≤ n) (h1 : n < 4294967296) : ((un n : Nat) : Int) = n := by unfold un; omega
theorem un_neg {n : Int} (h0 : n < 0) (h1 : -4294967296 ≤ n) : ((un n : Nat) : Int) = n + 4294967296 := by unfold un; omega
theorem un_sg {n : Nat} (h : n < 4294967296) : un (sg n) = n := by unfold un sg; split <;> omega
theorem sg_un {n : Int} (h0 : -2147483648 ≤ n) (h1 : n ≤ 2147483647) : sg (un n) = n := by unfold un sg; split <;> omega

/-- A number in four bytes, the lowest first. -/
def four (n : Nat) : List UInt8 := [UInt8.ofNat (n % 256), UInt8.ofNat (n / 256 % 256), UInt8.ofNat (n / 65536 % 256), UInt8.ofNat (n / 16777216 % 256)]
def at4 (s : List UInt8) (i : Nat) : Nat := (s.getD i 0).toNat + 256 * (s.getD (i + 1) 0).toNat + 65536 * (s.getD (i + 2) 0).toNat + 16777216 * (s.getD (i + 3) 0).toNat
theorem at4_lt (s : List UInt8) (i : Nat) : at4 s i < 4294967296 := by
  unfold at4
  have h0 := (s.getD i 0).toNat_lt
  have h1 := (s.getD (i + 1) 0).toNat_lt
  have h2 := (s.getD (i + 2) 0).toNat_lt
  have h3 := (s.getD (i + 3) 0).toNat_lt
  omega
theorem ofNat_toNat (n : Nat) (h : n < 256) : (UInt8.ofNat n).toNat = n := by rw [UInt8.toNat_ofNat']; omega
theorem four_len (n : Nat) : (four n).length = 4 := rfl
theorem at4_four (n : Nat) (h : n < 4294967296) (r : List UInt8) : at4 (four n ++ r) 0 = n := by
  unfold at4 four
  simp only [List.cons_append, List.getD_cons_zero, List.getD_cons_succ, Nat.zero_add]
  rw [ofNat_toNat _ (by omega), ofNat_toNat _ (by omega), ofNat_toNat _ (by omega), ofNat_toNat _ (by omega)]
  omega
theorem four_at4 (a b c d : UInt8) : four (a.toNat + 256 * b.toNat + 65536 * c.toNat + 16777216 * d.toNat) = [a, b, c, d] := by
  have ha := a.toNat_lt
  have hb := b.toNat_lt
  have hc := c.toNat_lt
  have hd := d.toNat_lt
  unfold four
  rw [show (a.toNat + 256 * b.toNat + 65536 * c.toNat + 16777216 * d.toNat) % 256 = a.toNat by omega, show (a.toNat + 256 * b.toNat + 65536 * c.toNat + 16777216 * d.toNat) / 256 % 256 = b.toNat by omega,
    show (a.toNat + 256 * b.toNat + 65536 * c.toNat + 16777216 * d.toNat) / 65536 % 256 = c.toNat by omega, show (a.toNat + 256 * b.toNat + 65536 * c.toNat + 16777216 * d.toNat) / 16777216 % 256 = d.toNat by omega,
    UInt8.ofNat_toNat, UInt8.ofNat_toNat, UInt8.ofNat_toNat, UInt8.ofNat_toNat]
theorem at4_skip (p s : List UInt8) (i : Nat) : at4 (p ++ s) (p.length + i) = at4 s i := by
  unfold at4
  have e : ∀ k, (p ++ s).getD (p.length + k) 0 = s.getD k 0 := by
    intro k
    rw [List.getD_eq_getElem?_getD, List.getD_eq_getElem?_getD, List.getElem?_append_right (by omega), Nat.add_sub_cancel_left]
  rw [Nat.add_assoc p.length i 1, Nat.add_assoc p.length i 2, Nat.add_assoc p.length i 3, e, e, e, e]
theorem at4_ahead (p s : List UInt8) (i : Nat) (h : i + 4 ≤ p.length) : at4 (p ++ s) i = at4 p i := by
  unfold at4
  have e : ∀ k, k < p.length → (p ++ s).getD k 0 = p.getD k 0 := by
    intro k hk
    rw [List.getD_eq_getElem?_getD, List.getD_eq_getElem?_getD, List.getElem?_append_left hk]
  rw [e _ (by omega), e _ (by omega), e _ (by omega), e _ (by omega)]

/-- Numbers, one behind the other. -/
def F (l : List Nat) : List UInt8 := l.flatMap four
theorem F_nil : F [] = [] := rfl
theorem F_cons (n : Nat) (l : List Nat) : F (n :: l) = four n ++ F l := rfl
theorem F_append (l k : List Nat) : F (l ++ k) = F l ++ F k := by unfold F; rw [List.flatMap_append]
theorem F_one (n : Nat) : F [n] = four n := by rw [F_cons, F_nil, List.append_nil]
theorem F_len (l : List Nat) : (F l).length = 4 * l.length := by
  induction l with
  | nil => rfl
  | cons n l ih => rw [F_cons, List.length_append, four_len, ih, List.length_cons]; omega
def small (l : List Nat) : Prop := ∀ x ∈ l, x < 4294967296
theorem at4_F {l : List Nat} (h : small l) {i : Nat} (hi : i < l.length) : at4 (F l) (4 * i) = l.getD i 0 := by
  induction l generalizing i with
  | nil => simp at hi
  | cons n l ih =>
    rw [F_cons]
    cases i with
    | zero => rw [Nat.mul_zero, at4_four n (h n (by simp))]; rfl
    | succ i =>
      have := at4_skip (four n) (F l) (4 * i)
      rw [four_len, show 4 + 4 * i = 4 * (i + 1) by omega] at this
      rw [this, ih (fun x hx => h x (by simp [hx])) (by simpa using hi), List.getD_cons_succ]
theorem nil_of {s : List UInt8} (h : s.length = 4 * 0) : s = F [] := List.eq_nil_of_length_eq_zero h
theorem ex_F : ∀ (n : Nat) (s : List UInt8), s.length = 4 * n → ∃ l, s = F l ∧ small l ∧ l.length = n
  | 0, s, h => ⟨[], nil_of h, by intro x hx; simp at hx, rfl⟩
  | n + 1, a :: b :: c :: d :: s, h => by
    obtain ⟨l, rfl, hl, hn⟩ := ex_F n s (by simp at h; omega)
    refine ⟨(a.toNat + 256 * b.toNat + 65536 * c.toNat + 16777216 * d.toNat) :: l, ?_, ?_, by rw [List.length_cons, hn]⟩
    · rw [F_cons, four_at4]; rfl
    · intro x hx
      rcases List.mem_cons.1 hx with rfl | hx
      · have ha := a.toNat_lt
        have hb := b.toNat_lt
        have hc := c.toNat_lt
        have hd := d.toNat_lt
        omega
      · exact hl x hx
  | n + 1, [], h => by simp at h
  | n + 1, [_], h => by simp at h; omega
  | n + 1, [_, _], h => by simp at h; omega
  | n + 1, [_, _, _], h => by simp at h; omega
theorem F_inj {l k : List Nat} (hl : small l) (hk : small k) (h : F l = F k) : l = k := by
  have hlen : l.length = k.length := by have := congrArg List.length h; rw [F_len, F_len] at this; omega
  apply List.ext_getElem hlen
  intro i h1 h2
  have e1 := at4_F hl h1
  have e2 := at4_F hk h2
  rw [h, e2] at e1
  rw [List.getD_eq_getElem?_getD, List.getD_eq_getElem?_getD, List.getElem?_eq_getElem h1, List.getElem?_eq_getElem h2] at e1
  exact e1.symm

/-- The numbers of a message, each below 2^32. -/
def words (m : Msg) : List Nat := (listOf m).map un
theorem words_len (m : Msg) : (words m).length = 11 + m.vec.length := by unfold words listOf ten; simp; omega
theorem words_small (m : Msg) : small (words m) := by
  intro x hx
  obtain ⟨y, _, rfl⟩ := List.mem_map.1 hx
  exact un_lt y
def body (m : Msg) : List UInt8 := F (words m)
theorem body_len (m : Msg) : (body m).length = 44 + 4 * m.vec.length := by unfold body; rw [F_len, words_len]; omega
/-- What is written. -/
def put (m : Msg) : List UInt8 := four ((body m).length + 4) ++ (body m ++ four (Cx.sum (body m)))
theorem put_F (m : Msg) : put m = F (((body m).length + 4) :: (words m ++ [Cx.sum (body m)])) := by rw [F_cons, F_append, F_one]; rfl
theorem put_len (m : Msg) : (put m).length = 52 + 4 * m.vec.length := by unfold put; simp [four_len, body_len]; omega

def vecOf (s : List UInt8) : List Int := (List.range ((s.length - 52) / 4)).map fun i => sg (at4 s (48 + 4 * i))
def msgOf (s : List UInt8) : Msg := ⟨at4 s 4, at4 s 8, at4 s 12, at4 s 16, at4 s 20, at4 s 24, at4 s 28, at4 s 32, at4 s 36, at4 s 40, vecOf s⟩
/-- Are there as many bytes as there should be? -/
def formed (s : List UInt8) : Prop := 52 ≤ s.length ∧ at4 s 0 = s.length - 4 ∧ s.length % 4 = 0
instance (s : List UInt8) : Decidable (formed s) := by unfold formed; infer_instance
def inner (s : List UInt8) : List UInt8 := (s.drop 4).take (s.length - 8)
def summed (s : List UInt8) : Prop := at4 s (s.length - 4) = Cx.sum (inner s)
instance (s : List UInt8) : Decidable (summed s) := by unfold summed; infer_instance
def told (s : List UInt8) : Prop := at4 s 44 = (vecOf s).length ∧ right (msgOf s)
instance (s : List UInt8) : Decidable (told s) := by unfold told; infer_instance
/-- What is taken. -/
def take (s : List UInt8) : Msg × Int := if ¬ formed s then (zero, 2) else if ¬ summed s then (zero, 9) else if ¬ told s then (zero, 2) else (msgOf s, 0)
theorem take_unformed {s : List UInt8} (h : ¬ formed s) : take s = (zero, 2) := by unfold take; rw [if_pos h]
theorem take_unsummed {s : List UInt8} (h : formed s) (h2 : ¬ summed s) : take s = (zero, 9) := by unfold take; rw [if_neg (by simpa using h), if_pos h2]
theorem take_untold {s : List UInt8} (h : formed s) (h2 : summed s) (h3 : ¬ told s) : take s = (zero, 2) := by unfold take; rw [if_neg (by simpa using h), if_neg (by simpa using h2), if_pos h3]
theorem take_ok {s : List UInt8} (h : formed s) (h2 : summed s) (h3 : told s) : take s = (msgOf s, 0) := by unfold take; rw [if_neg (by simpa using h), if_neg (by simpa using h2), if_neg (by simpa using h3)]
theorem take_err {s : List UInt8} (h : (take s).2 ≠ 0) : (take s).1 = zero := by
  unfold take at h ⊢
  split
  · rfl
  · split
    · rfl
    · split
      · rfl
      · rename_i h1 h2 h3; rw [if_neg h1, if_neg h2, if_neg h3] at h; exact absurd rfl h

/-! ### A row of numbers, taken -/
section
variable {w0 w1 w2 w3 w4 w5 w6 w7 w8 w9 w10 w11 c : Nat} {vs : List Nat}
/-- Thirteen numbers or more. -/
def row (w0 w1 w2 w3 w4 w5 w6 w7 w8 w9 w10 w11 : Nat) (vs : List Nat) (c : Nat) : List Nat := w0 :: ([w1, w2, w3, w4, w5, w6, w7, w8, w9, w10, w11] ++ vs ++ [c])
theorem row_len : (row w0 w1 w2 w3 w4 w5 w6 w7 w8 w9 w10 w11 vs c).length = 13 + vs.length := by unfold row; simp; omega
theorem row_F_len : (F (row w0 w1 w2 w3 w4 w5 w6 w7 w8 w9 w10 w11 vs c)).length = 52 + 4 * vs.length := by rw [F_len, row_len]; omega
theorem row_inner : inner (F (row w0 w1 w2 w3 w4 w5 w6 w7 w8 w9 w10 w11 vs c)) = F ([w1, w2, w3, w4, w5, w6, w7, w8, w9, w10, w11] ++ vs) := by
  have hlen := row_F_len (w0 := w0) (w1 := w1) (w2 := w2) (w3 := w3) (w4 := w4) (w5 := w5) (w6 := w6) (w7 := w7) (w8 := w8) (w9 := w9) (w10 := w10) (w11 := w11) (vs := vs) (c := c)
  unfold inner
  rw [hlen]
  unfold row
  rw [F_cons, F_append, List.drop_left' (four_len w0), List.take_left' (by rw [F_len]; simp; omega)]
theorem row_at (h : small (row w0 w1 w2 w3 w4 w5 w6 w7 w8 w9 w10 w11 vs c)) {i : Nat} (hi : i < 13 + vs.length) : at4 (F (row w0 w1 w2 w3 w4 w5 w6 w7 w8 w9 w10 w11 vs c)) (4 * i) = (row w0 w1 w2 w3 w4 w5 w6 w7 w8 w9 w10 w11 vs c).getD i 0 := at4_F h (by rw [row_len]; exact hi)
theorem row_last (h : small (row w0 w1 w2 w3 w4 w5 w6 w7 w8 w9 w10 w11 vs c)) : at4 (F (row w0 w1 w2 w3 w4 w5 w6 w7 w8 w9 w10 w11 vs c)) ((F (row w0 w1 w2 w3 w4 w5 w6 w7 w8 w9 w10 w11 vs c)).length - 4) = c := by
  rw [row_F_len, show 52 + 4 * vs.length - 4 = 4 * (12 + vs.length) by omega, row_at h (by omega)]
  unfold row
  rw [List.getD_eq_getElem?_getD, show 12 + vs.length = (11 + vs.length) + 1 by omega, List.getElem?_cons_succ]
  have e : ([w1, w2, w3, w4, w5, w6, w7, w8, w9, w10, w11] ++ vs).length = 11 + vs.length := by simp; omega
  rw [List.getElem?_append_right (by rw [e]; exact Nat.le_refl _), e, Nat.sub_self]; rfl
theorem row_vec (h : small (row w0 w1 w2 w3 w4 w5 w6 w7 w8 w9 w10 w11 vs c)) : vecOf (F (row w0 w1 w2 w3 w4 w5 w6 w7 w8 w9 w10 w11 vs c)) = vs.map sg := by
  unfold vecOf
  rw [row_F_len, show (52 + 4 * vs.length - 52) / 4 = vs.length by omega]
  apply List.ext_getElem (by simp)
  intro i h1 h2
  have hi : i < vs.length := by simpa using h2
  rw [List.getElem_map, List.getElem_map, List.getElem_range, show 48 + 4 * i = 4 * (12 + i) by omega, row_at h (by omega)]
  unfold row
  rw [List.getD_eq_getElem?_getD, show 12 + i = (11 + i) + 1 by omega, List.getElem?_cons_succ, List.getElem?_append_left (by simp <;> omega), List.getElem?_append_right (by simp <;> omega)]
  simp [hi]
theorem row_msg (h : small (row w0 w1 w2 w3 w4 w5 w6 w7 w8 w9 w10 w11 vs c)) : msgOf (F (row w0 w1 w2 w3 w4 w5 w6 w7 w8 w9 w10 w11 vs c)) = ⟨w1, w2, w3, w4, w5, w6, w7, w8, w9, w10, vs.map sg⟩ := by
  have e : ∀ i, i < 13 → at4 (F (row w0 w1 w2 w3 w4 w5 w6 w7 w8 w9 w10 w11 vs c)) (4 * i) = (row w0 w1 w2 w3 w4 w5 w6 w7 w8 w9 w10 w11 vs c).getD i 0 := fun i hi => row_at h (by omega)
  unfold msgOf
  rw [row_vec h, e 1 (by omega), e 2 (by omega), e 3 (by omega), e 4 (by omega), e 5 (by omega), e 6 (by omega), e 7 (by omega), e 8 (by omega), e 9 (by omega), e 10 (by omega)]
  rfl
theorem row_first (h : small (row w0 w1 w2 w3 w4 w5 w6 w7 w8 w9 w10 w11 vs c)) : at4 (F (row w0 w1 w2 w3 w4 w5 w6 w7 w8 w9 w10 w11 vs c)) 0 = w0 := row_at h (i := 0) (by omega)
theorem row_count (h : small (row w0 w1 w2 w3 w4 w5 w6 w7 w8 w9 w10 w11 vs c)) : at4 (F (row w0 w1 w2 w3 w4 w5 w6 w7 w8 w9 w10 w11 vs c)) 44 = w11 := row_at h (i := 11) (by omega)
end

theorem uncons {l : List Nat} {n : Nat} (h : n + 1 ≤ l.length) : ∃ a r, l = a :: r ∧ n ≤ r.length := by
  cases l with
  | nil => simp at h
  | cons a r => exact ⟨a, r, rfl, by simpa using h⟩
/-- Bytes that are formed are such a row. -/
theorem row_of {s : List UInt8} (h : formed s) : ∃ w0 w1 w2 w3 w4 w5 w6 w7 w8 w9 w10 w11 vs c, s = F (row w0 w1 w2 w3 w4 w5 w6 w7 w8 w9 w10 w11 vs c) ∧ small (row w0 w1 w2 w3 w4 w5 w6 w7 w8 w9 w10 w11 vs c) := by
  obtain ⟨h1, _, h3⟩ := h
  obtain ⟨l, rfl, hl, hn⟩ := ex_F (s.length / 4) s (by omega)
  rw [F_len] at h1
  have h13 : 12 + 1 ≤ l.length := by omega
  obtain ⟨w0, l0, rfl, g0⟩ := uncons h13
  obtain ⟨w1, l1, rfl, g1⟩ := uncons (n := 11) g0
  obtain ⟨w2, l2, rfl, g2⟩ := uncons (n := 10) g1
  obtain ⟨w3, l3, rfl, g3⟩ := uncons (n := 9) g2
  obtain ⟨w4, l4, rfl, g4⟩ := uncons (n := 8) g3
  obtain ⟨w5, l5, rfl, g5⟩ := uncons (n := 7) g4
  obtain ⟨w6, l6, rfl, g6⟩ := uncons (n := 6) g5
  obtain ⟨w7, l7, rfl, g7⟩ := uncons (n := 5) g6
  obtain ⟨w8, l8, rfl, g8⟩ := uncons (n := 4) g7
  obtain ⟨w9, l9, rfl, g9⟩ := uncons (n := 3) g8
  obtain ⟨w10, l10, rfl, g10⟩ := uncons (n := 2) g9
  obtain ⟨w11, l11, rfl, g11⟩ := uncons (n := 1) g10
  obtain ⟨x, t, rfl, g12⟩ := uncons (n := 0) g11
  · refine ⟨w0, w1, w2, w3, w4, w5, w6, w7, w8, w9, w10, w11, (x :: t).dropLast, (x :: t).getLast (by simp), ?_⟩
    have e : row w0 w1 w2 w3 w4 w5 w6 w7 w8 w9 w10 w11 ((x :: t).dropLast) ((x :: t).getLast (by simp)) = w0 :: w1 :: w2 :: w3 :: w4 :: w5 :: w6 :: w7 :: w8 :: w9 :: w10 :: w11 :: x :: t := by
      unfold row
      rw [List.append_assoc, List.dropLast_concat_getLast]; rfl
    rw [e]
    exact ⟨rfl, hl⟩

theorem map_un_sg {vs : List Nat} (h : small vs) : (vs.map sg).map un = vs := by
  rw [List.map_map]
  conv => rhs; rw [← List.map_id vs]
  exact List.map_congr_left fun x hx => un_sg (h x hx)
theorem map_sg_un {l : List Int} (h : ∀ x ∈ l, -2147483648 ≤ x ∧ x ≤ 2147483647) : (l.map un).map sg = l := by
  rw [List.map_map]
  conv => rhs; rw [← List.map_id l]
  exact List.map_congr_left fun x hx => sg_un (h x hx).1 (h x hx).2

theorem put_row (m : Msg) : put m = F (row ((body m).length + 4) (un m.kind) (un m.fr) (un m.to) (un m.seq) (un m.batch) (un m.layer) (un m.token) (un m.rank) (un m.expert) (un m.epoch) (un (m.vec.length : Int)) (m.vec.map un) (Cx.sum (body m))) := by
  rw [put_F]
  congr 1

theorem put_small (m : Msg) (h : m.vec.length ≤ 8) : small (row ((body m).length + 4) (un m.kind) (un m.fr) (un m.to) (un m.seq) (un m.batch) (un m.layer) (un m.token) (un m.rank) (un m.expert) (un m.epoch) (un (m.vec.length : Int)) (m.vec.map un) (Cx.sum (body m))) := by
  have hb := body_len m
  have hs := Cx.sum_lt (body m)
  have hw := words_small m
  intro x hx
  unfold row at hx
  simp only [List.mem_cons, List.mem_append, List.mem_map, List.not_mem_nil, or_false] at hx
  rcases hx with rfl | ((rfl | rfl | rfl | rfl | rfl | rfl | rfl | rfl | rfl | rfl | rfl) | ⟨y, _, rfl⟩) | rfl
  all_goals first | omega | exact un_lt _

/-- What is written is taken back. -/
theorem take_put {m : Msg} (h : right m) : take (put m) = (m, 0) := by
  obtain ⟨h1, h2, h3, h4, h5⟩ := h
  have hsm := put_small m h4
  have hb := body_len m
  have hlen := put_len m
  have t : ∀ x ∈ ten m, ((un x : Nat) : Int) = x := fun x hx => un_pos (h3 x hx).1 (by have := (h3 x hx).2; omega)
  simp only [ten, List.mem_cons, List.not_mem_nil, or_false, forall_eq_or_imp, forall_eq] at t
  obtain ⟨t0, t1, t2, t3, t4, t5, t6, t7, t8, t9⟩ := t
  have hv := map_sg_un h5
  have hm : msgOf (put m) = m := by
    rw [put_row, row_msg hsm, hv, t0, t1, t2, t3, t4, t5, t6, t7, t8, t9]
  have hf : formed (put m) := ⟨by omega, by
    have := row_first hsm
    rw [← put_row] at this
    rw [this, hlen, hb]; omega, by rw [hlen]; omega⟩
  have hs : summed (put m) := by
    unfold summed
    have e1 := row_last hsm
    have e2 : inner (put m) = body m := by
      rw [put_row, row_inner]
      unfold body words listOf ten
      simp
    rw [← put_row] at e1
    rw [e1, e2]
  have ht : told (put m) := by
    refine ⟨?_, ?_⟩
    · have e1 := row_count hsm
      have e2 := row_vec hsm
      rw [← put_row] at e1 e2
      rw [e1, e2, hv, un_nat (by omega)]
    · rw [hm]; exact ⟨h1, h2, h3, h4, h5⟩
  rw [take_ok hf hs ht, hm]

/-- What is taken is written so. -/
theorem put_take {s : List UInt8} (h : (take s).2 = 0) : right (take s).1 ∧ put (take s).1 = s := by
  by_cases hf : formed s
  · by_cases hs : summed s
    · by_cases ht : told s
      · rw [take_ok hf hs ht]
        refine ⟨ht.2, ?_⟩
        have hlen := hf.2.1
        obtain ⟨w0, w1, w2, w3, w4, w5, w6, w7, w8, w9, w10, w11, vs, c, rfl, hsm⟩ := row_of hf
        have e0 := row_first hsm
        have ec := row_last hsm
        have e11 := row_count hsm
        have ev := row_vec hsm
        have hl := row_F_len (w0 := w0) (w1 := w1) (w2 := w2) (w3 := w3) (w4 := w4) (w5 := w5) (w6 := w6) (w7 := w7) (w8 := w8) (w9 := w9) (w10 := w10) (w11 := w11) (vs := vs) (c := c)
        have hc : c = Cx.sum (inner (F (row w0 w1 w2 w3 w4 w5 w6 w7 w8 w9 w10 w11 vs c))) := ec.symm.trans hs
        rw [row_inner] at hc
        have hn := ht.1
        rw [e11, ev, List.length_map] at hn
        rw [row_msg hsm]
        have hv : small vs := fun x hx => hsm x (by unfold row; simp [hx])
        have hw : words ⟨w1, w2, w3, w4, w5, w6, w7, w8, w9, w10, vs.map sg⟩ = [w1, w2, w3, w4, w5, w6, w7, w8, w9, w10, w11] ++ vs := by
          have k : ∀ x ∈ [w1, w2, w3, w4, w5, w6, w7, w8, w9, w10, w11], un ((x : Nat) : Int) = x := fun x hx => un_nat (hsm x (by unfold row; exact List.mem_cons_of_mem _ (List.mem_append_left _ (List.mem_append_left _ hx))))
          simp only [List.mem_cons, List.not_mem_nil, or_false, forall_eq_or_imp, forall_eq] at k
          obtain ⟨k1, k2, k3, k4, k5, k6, k7, k8, k9, k10, k11⟩ := k
          unfold words listOf ten
          simp only [List.map_append, List.map_cons, List.map_nil, List.length_map, map_un_sg hv, ← hn, k1, k2, k3, k4, k5, k6, k7, k8, k9, k10, k11]
          rfl
        have hb : body ⟨w1, w2, w3, w4, w5, w6, w7, w8, w9, w10, vs.map sg⟩ = F ([w1, w2, w3, w4, w5, w6, w7, w8, w9, w10, w11] ++ vs) := by unfold body; rw [hw]
        rw [put_F, hw, hb, ← hc]
        have hw0 : w0 = (F ([w1, w2, w3, w4, w5, w6, w7, w8, w9, w10, w11] ++ vs)).length + 4 := by
          rw [← e0, hlen, hl, F_len]; simp; omega
        rw [← hw0]
        rfl
      · rw [take_untold hf hs ht] at h; simp at h
    · rw [take_unsummed hf hs] at h; simp at h
  · rw [take_unformed hf] at h; simp at h

/-- Unlike messages have unlike bytes. -/
theorem put_inj {a b : Msg} (ha : right a) (hb : right b) (h : put a = put b) : a = b := by
  have h1 := take_put ha
  rw [h, take_put hb] at h1
  exact (Prod.mk.inj h1).1.symm

/-- No beginning of a message's bytes is one. -/
theorem take_cut {m : Msg} (h : right m) {k : Nat} (hk : k < (put m).length) : take ((put m).take k) = (zero, 2) := by
  apply take_unformed
  rintro ⟨h1, h2, _⟩
  have hsm := put_small m h.2.2.2.1
  have hl : ((put m).take k).length = k := by rw [List.length_take]; omega
  rw [hl] at h1 h2
  have e : at4 ((put m).take k) 0 = at4 (put m) 0 := by
    conv => rhs; rw [← List.take_append_drop k (put m)]
    rw [at4_ahead _ _ _ (by omega)]
  have e0 := row_first hsm
  rw [← put_row] at e0
  rw [e, e0, body_len] at h2
  rw [put_len] at hk
  omega
/-- Nor what has more behind. -/
theorem take_more {m : Msg} (h : right m) {r : List UInt8} (hr : r ≠ []) : take (put m ++ r) = (zero, 2) := by
  apply take_unformed
  rintro ⟨h1, h2, _⟩
  have hsm := put_small m h.2.2.2.1
  have e : at4 (put m ++ r) 0 = at4 (put m) 0 := at4_ahead _ _ _ (by rw [put_len]; omega)
  have e0 := row_first hsm
  rw [← put_row] at e0
  rw [e, e0, body_len, List.length_append, put_len] at h2
  have : 0 < r.length := List.length_pos_iff.2 hr
  omega

theorem at4_inj {s t : List UInt8} {i : Nat} (h : at4 s i = at4 t i) : s.getD i 0 = t.getD i 0 ∧ s.getD (i + 1) 0 = t.getD (i + 1) 0 ∧ s.getD (i + 2) 0 = t.getD (i + 2) 0 ∧ s.getD (i + 3) 0 = t.getD (i + 3) 0 := by
  unfold at4 at h
  have a0 := (s.getD i 0).toNat_lt
  have a1 := (s.getD (i + 1) 0).toNat_lt
  have a2 := (s.getD (i + 2) 0).toNat_lt
  have a3 := (s.getD (i + 3) 0).toNat_lt
  have b0 := (t.getD i 0).toNat_lt
  have b1 := (t.getD (i + 1) 0).toNat_lt
  have b2 := (t.getD (i + 2) 0).toNat_lt
  have b3 := (t.getD (i + 3) 0).toNat_lt
  exact ⟨UInt8.toNat_inj.1 (by omega), UInt8.toNat_inj.1 (by omega), UInt8.toNat_inj.1 (by omega), UInt8.toNat_inj.1 (by omega)⟩

theorem getD_set (s : List UInt8) (j : Nat) (v : UInt8) (hj : j < s.length) (i : Nat) : (s.set j v).getD i 0 = if j = i then v else s.getD i 0 := by
  rw [List.getD_eq_getElem?_getD, List.getElem?_set]
  by_cases h : j = i
  · subst h; simp [hj]
  · rw [if_neg h, if_neg h, List.getD_eq_getElem?_getD]

/-- With one byte turned it is refused. -/
theorem take_turned {s : List UInt8} (hf : formed s) (hs : summed s) {j : Nat} (hj : j < s.length) {v : UInt8} (hv : s[j] ≠ v) : (take (s.set j v)).2 ≠ 0 := by
  have hd : s.getD j 0 ≠ v := by rw [List.getD_eq_getElem?_getD, List.getElem?_eq_getElem hj]; exact hv
  have hl : (s.set j v).length = s.length := List.length_set
  have h52 := hf.1
  by_cases hf2 : formed (s.set j v)
  · by_cases hs2 : summed (s.set j v)
    · exfalso
      have g0 := hf2.2.1
      rw [hl, ← hf.2.1] at g0
      unfold summed at hs hs2
      rw [hl] at hs2
      have out : ∀ i, i ≤ j → j < i + 4 → at4 (s.set j v) i ≠ at4 s i := by
        intro i h1 h2 he
        obtain ⟨q0, q1, q2, q3⟩ := at4_inj he
        rw [getD_set _ _ _ hj] at q0 q1 q2 q3
        have : j = i ∨ j = i + 1 ∨ j = i + 2 ∨ j = i + 3 := by omega
        rcases this with e | e | e | e
        · rw [if_pos e, ← e] at q0; exact hd q0.symm
        · rw [if_pos e, ← e] at q1; exact hd q1.symm
        · rw [if_pos e, ← e] at q2; exact hd q2.symm
        · rw [if_pos e, ← e] at q3; exact hd q3.symm
      have same : ∀ i, (j < i ∨ i + 4 ≤ j) → at4 (s.set j v) i = at4 s i := by
        intro i h
        unfold at4
        rw [getD_set _ _ _ hj, getD_set _ _ _ hj, getD_set _ _ _ hj, getD_set _ _ _ hj, if_neg (by omega), if_neg (by omega), if_neg (by omega), if_neg (by omega)]
      by_cases h4 : j < 4
      · exact out 0 (by omega) (by omega) g0
      · by_cases hlast : j < s.length - 4
        · have hin : inner (s.set j v) = (inner s).set (j - 4) v := by
            unfold inner
            rw [hl]
            apply List.ext_getElem?
            intro i
            rw [List.getElem?_set, List.length_take, List.length_drop, List.getElem?_take, List.getElem?_take, List.getElem?_drop, List.getElem?_drop, List.getElem?_set]
            by_cases hi : i < s.length - 8
            · rw [if_pos hi, if_pos hi]
              by_cases e : j = 4 + i
              · subst e; rw [if_pos rfl, if_pos hj, if_pos (by omega), if_pos (by omega)]
              · rw [if_neg e, if_neg (by omega)]
            · rw [if_neg hi, if_neg hi, if_neg (by omega)]
          have hil : j - 4 < (inner s).length := by unfold inner; rw [List.length_take, List.length_drop]; omega
          have hget : (inner s)[j - 4] = s[j] := by
            have e1 : (inner s)[j - 4]? = some s[j] := by
              unfold inner
              rw [List.getElem?_take, if_pos (by omega), List.getElem?_drop, show 4 + (j - 4) = j by omega, List.getElem?_eq_getElem hj]
            rw [List.getElem?_eq_getElem hil] at e1
            exact Option.some.inj e1
          rw [same (s.length - 4) (by omega), hs, hin] at hs2
          exact Cx.sum_set hil (by rw [hget]; exact hv) hs2.symm
        · have hin : inner (s.set j v) = inner s := by
            unfold inner
            rw [hl]
            apply List.ext_getElem?
            intro i
            rw [List.getElem?_take, List.getElem?_take, List.getElem?_drop, List.getElem?_drop, List.getElem?_set]
            by_cases hi : i < s.length - 8
            · rw [if_pos hi, if_pos hi, if_neg (by omega)]
            · rw [if_neg hi, if_neg hi]
          rw [hin, ← hs] at hs2
          exact out (s.length - 4) (by omega) (by omega) hs2
    · rw [take_unsummed hf2 hs2]; simp
  · rw [take_unformed hf2]; simp

theorem put_formed {m : Msg} (h : right m) : formed (put m) ∧ summed (put m) ∧ told (put m) := by
  have h1 := take_put h
  by_cases hf : formed (put m)
  · by_cases hs : summed (put m)
    · by_cases ht : told (put m)
      · exact ⟨hf, hs, ht⟩
      · rw [take_untold hf hs ht] at h1; simp at h1
    · rw [take_unsummed hf hs] at h1; simp at h1
  · rw [take_unformed hf] at h1; simp at h1
theorem put_turned {m : Msg} (h : right m) {j : Nat} (hj : j < (put m).length) {v : UInt8} (hv : (put m)[j] ≠ v) : (take ((put m).set j v)).2 ≠ 0 ∧ (take ((put m).set j v)).1 = zero := by
  obtain ⟨hf, hs, _⟩ := put_formed h
  have := take_turned hf hs hj hv
  exact ⟨this, take_err this⟩

/-- Each number stands at its place. -/
theorem put_at {m : Msg} (h : m.vec.length ≤ 8) {i : Nat} (hi : i < 11 + m.vec.length) : at4 (put m) (4 + 4 * i) = un ((listOf m).getD i 0) := by
  have hs : small (((body m).length + 4) :: (words m ++ [Cx.sum (body m)])) := by
    intro x hx
    have hb := body_len m
    have := Cx.sum_lt (body m)
    rcases List.mem_cons.1 hx with rfl | hx
    · omega
    · rcases List.mem_append.1 hx with hx | hx
      · exact words_small m x hx
      · rw [List.mem_singleton] at hx; omega
  rw [put_F, show 4 + 4 * i = 4 * (i + 1) by omega, at4_F hs (by simp [words_len]; omega), List.getD_cons_succ, List.getD_eq_getElem?_getD, List.getElem?_append_left (by rw [words_len]; exact hi)]
  unfold words
  have hl : (listOf m).length = 11 + m.vec.length := by unfold listOf ten; simp; omega
  rw [List.getElem?_map, List.getD_eq_getElem?_getD, List.getElem?_eq_getElem (by omega)]
  rfl

end Go.Proofs.Ytpfhjdlmjehfnaa.Wx
