/- Experts as lists of bytes, and texts in pieces (no program in sight): what is exported, what is imported, and that one is the other's way back; what is cut and joined. -/
import Derived.Test.YtpfhjdlmjehfnaaWx
import Derived.Test.YtpfhjdlmjehfnaaMd
namespace Go.Proofs.Ytpfhjdlmjehfnaa.Ck
open Go.Proofs.Ytpfhjdlmjehfnaa Go.Proofs.Ytpfhjdlmjehfnaa.Wx

/-! ### Rows out of one row -/
def grid (l : List Int) (rows cols : Nat) : List (List Int) := (List.range rows).map fun i => (List.range cols).map fun k => l.getD (i * cols + k) 0
theorem grid_len (l : List Int) (rows cols : Nat) : (grid l rows cols).length = rows := by simp [grid]
theorem grid_rows {l : List Int} {rows cols : Nat} {r : List Int} (h : r ∈ grid l rows cols) : r.length = cols := by
  obtain ⟨i, _, rfl⟩ := List.mem_map.1 h
  simp
theorem flat_length {m : List (List Int)} {c : Nat} (h : ∀ r ∈ m, r.length = c) : m.flatten.length = m.length * c := by
  induction m with
  | nil => simp
  | cons r m ih =>
    have h1 := h r (by simp)
    have h2 := ih fun s hs => h s (by simp [hs])
    rw [List.flatten_cons, List.length_append, h1, h2, List.length_cons, Nat.add_mul, Nat.one_mul]
    omega
theorem flat_at {m : List (List Int)} {c : Nat} (h : ∀ r ∈ m, r.length = c) {i k : Nat} (hi : i < m.length) (hk : k < c) : m.flatten.getD (i * c + k) 0 = (m.getD i []).getD k 0 := by
  induction m generalizing i with
  | nil => simp at hi
  | cons r m ih =>
    have h1 := h r (by simp)
    rw [List.flatten_cons]
    cases i with
    | zero =>
      rw [Nat.zero_mul, Nat.zero_add, List.getD_eq_getElem?_getD, List.getElem?_append_left (by omega), List.getD_cons_zero, List.getD_eq_getElem?_getD]
    | succ i =>
      have h2 := ih (fun s hs => h s (by simp [hs])) (i := i) (by simpa using hi)
      rw [List.getD_cons_succ, ← h2, List.getD_eq_getElem?_getD, List.getElem?_append_right (by rw [Nat.add_mul]; omega), List.getD_eq_getElem?_getD]
      rw [show (i + 1) * c + k - r.length = i * c + k by rw [Nat.add_mul, Nat.one_mul, h1]; omega]
theorem grid_flat {m : List (List Int)} {c : Nat} (h : ∀ r ∈ m, r.length = c) : grid m.flatten m.length c = m := by
  apply List.ext_getElem (by rw [grid_len])
  intro i h1 h2
  have hr : (m[i]).length = c := h _ (List.getElem_mem h2)
  have e : (grid m.flatten m.length c)[i] = (List.range c).map fun k => m.flatten.getD (i * c + k) 0 := by simp [grid]
  rw [e]
  apply List.ext_getElem (by simp [hr])
  intro k k1 k2
  have hk : k < c := by simpa using k1
  have e2 : ((List.range c).map fun k => m.flatten.getD (i * c + k) 0)[k] = m.flatten.getD (i * c + k) 0 := by simp
  rw [e2, flat_at h h2 hk, List.getD_eq_getElem?_getD, List.getD_eq_getElem?_getD, List.getElem?_eq_getElem h2]
  show (m[i][k]?).getD 0 = _
  rw [List.getElem?_eq_getElem k2]
  rfl
theorem flat_grid {l : List Int} {rows cols : Nat} (h : l.length = rows * cols) : (grid l rows cols).flatten = l := by
  have hr : ∀ r ∈ grid l rows cols, r.length = cols := fun r hr => grid_rows hr
  have hl : (grid l rows cols).flatten.length = l.length := by rw [flat_length hr, grid_len, h]
  apply List.ext_getElem hl
  intro j h1 h2
  have hc : 0 < cols := by
    rcases Nat.eq_zero_or_pos cols with h0 | h0
    · rw [h0, Nat.mul_zero] at h; omega
    · exact h0
  have hd : j / cols < rows := Nat.div_lt_of_lt_mul (by rw [Nat.mul_comm, ← h]; exact h2)
  have hm : j % cols < cols := Nat.mod_lt _ hc
  have e : j / cols * cols + j % cols = j := by rw [Nat.mul_comm]; exact Nat.div_add_mod j cols
  have h3 := flat_at hr (i := j / cols) (k := j % cols) (by rw [grid_len]; exact hd) hm
  rw [e] at h3
  have e1 : (grid l rows cols).getD (j / cols) [] = (List.range cols).map fun k => l.getD (j / cols * cols + k) 0 := by
    unfold grid
    rw [List.getD_eq_getElem?_getD, List.getElem?_map, List.getElem?_range hd]
    rfl
  have e2 : ((List.range cols).map fun k => l.getD (j / cols * cols + k) 0).getD (j % cols) 0 = l.getD (j / cols * cols + j % cols) 0 := by
    rw [List.getD_eq_getElem?_getD, List.getElem?_map, List.getElem?_range hm]
    rfl
  rw [e1, e2, e, List.getD_eq_getElem?_getD, List.getD_eq_getElem?_getD, List.getElem?_eq_getElem h1, List.getElem?_eq_getElem h2] at h3
  exact h3

/-! ### Export -/
def wds (mi mo : List (List Int)) (dim : Int) : List Nat := un (mi.length : Int) :: un dim :: (mi.flatten ++ mo.flatten).map un
def body (mi mo : List (List Int)) (dim : Int) : List UInt8 := F (wds mi mo dim)
def exp (mi mo : List (List Int)) (dim : Int) : List UInt8 := body mi mo dim ++ four (Cx.sum (body mi mo dim))
theorem exp_F (mi mo : List (List Int)) (dim : Int) : exp mi mo dim = F (wds mi mo dim ++ [Cx.sum (body mi mo dim)]) := by rw [F_append, F_one]; rfl
theorem wds_small (mi mo : List (List Int)) (dim : Int) : small (wds mi mo dim) := by
  intro x hx
  unfold wds at hx
  rcases List.mem_cons.1 hx with rfl | hx
  · exact un_lt _
  rcases List.mem_cons.1 hx with rfl | hx
  · exact un_lt _
  · obtain ⟨y, _, rfl⟩ := List.mem_map.1 hx
    exact un_lt _
theorem exp_small (mi mo : List (List Int)) (dim : Int) : small (wds mi mo dim ++ [Cx.sum (body mi mo dim)]) := by
  intro x hx
  rcases List.mem_append.1 hx with hx | hx
  · exact wds_small _ _ _ x hx
  · rw [List.mem_singleton.1 hx]; exact Cx.sum_lt _
section
variable {mi mo : List (List Int)} {dim : Int}
theorem right_in (h : Ex.Right mi mo dim) : ∀ r ∈ mi, r.length = dim.toNat := fun r hr => by have := (h.2.2.1.2 r hr).1; omega
theorem right_out (h : Ex.Right mi mo dim) : ∀ r ∈ mo, r.length = mi.length := fun r hr => by have := (h.2.2.2.2 r hr).1; omega
theorem right_outs (h : Ex.Right mi mo dim) : mo.length = dim.toNat := by have := h.2.2.2.1; omega
theorem in_len (h : Ex.Right mi mo dim) : mi.flatten.length = mi.length * dim.toNat := flat_length (right_in h)
theorem out_len (h : Ex.Right mi mo dim) : mo.flatten.length = mi.length * dim.toNat := by rw [flat_length (right_out h), right_outs h, Nat.mul_comm]
theorem wds_len (h : Ex.Right mi mo dim) : (wds mi mo dim).length = 2 + 2 * (mi.length * dim.toNat) := by
  unfold wds
  rw [List.length_cons, List.length_cons, List.length_map, List.length_append, in_len h, out_len h]
  omega
theorem body_len (h : Ex.Right mi mo dim) : (body mi mo dim).length = 8 + 8 * (mi.length * dim.toNat) := by unfold body; rw [F_len, wds_len h]; omega
theorem exp_len (h : Ex.Right mi mo dim) : (exp mi mo dim).length = 12 + 8 * (mi.length * dim.toNat) := by unfold exp; rw [List.length_append, body_len h, four_len]; omega
theorem right_held (h : Ex.Right mi mo dim) : ∀ x ∈ mi.flatten ++ mo.flatten, -2147483648 ≤ x ∧ x ≤ 2147483647 := by
  intro x hx
  have key : Fx.hold x = x := by
    rcases List.mem_append.1 hx with hx | hx
    · obtain ⟨r, hr, hx⟩ := List.mem_flatten.1 hx
      exact (h.2.2.1.2 r hr).2 x hx
    · obtain ⟨r, hr, hx⟩ := List.mem_flatten.1 hx
      exact (h.2.2.2.2 r hr).2 x hx
  have := (Mx.hold_iff x).1 key
  omega
end

/-! ### Import -/
/-- Rows out of the bytes from p on. -/
def rowsOf (s : List UInt8) (p rows cols : Nat) : List (List Int) := (List.range rows).map fun i => (List.range cols).map fun k => sg (at4 s (p + 4 * (i * cols + k)))
def hOf (s : List UInt8) : Int := sg (at4 s 0)
def dOf (s : List UInt8) : Int := sg (at4 s 4)
def area (s : List UInt8) : Nat := (hOf s).toNat * (dOf s).toNat
def ins (s : List UInt8) : List (List Int) := rowsOf s 8 (hOf s).toNat (dOf s).toNat
def outs (s : List UInt8) : List (List Int) := rowsOf s (8 + 4 * area s) (dOf s).toNat (hOf s).toNat
def formed (s : List UInt8) : Prop := 12 ≤ s.length ∧ s.length % 4 = 0
def summed (s : List UInt8) : Prop := at4 s (s.length - 4) = Cx.sum (s.take (s.length - 4))
def sized (s : List UInt8) : Prop := 1 ≤ hOf s ∧ hOf s ≤ 8 ∧ 1 ≤ dOf s ∧ dOf s ≤ 8 ∧ s.length = 12 + 8 * area s
def told (s : List UInt8) : Prop := sized s ∧ Ex.Right (ins s) (outs s) (dOf s)
open Classical in
noncomputable def imp (s : List UInt8) : Xp × Int × Int := if ¬ formed s then (xp0, 0, 2) else if ¬ summed s then (xp0, 0, 9) else if ¬ told s then (xp0, 0, 2) else ((ins s, outs s, ()), dOf s, 0)
theorem imp_unformed {s : List UInt8} (h : ¬ formed s) : imp s = (xp0, 0, 2) := by unfold imp; rw [if_pos h]
theorem imp_unsummed {s : List UInt8} (h : formed s) (h2 : ¬ summed s) : imp s = (xp0, 0, 9) := by unfold imp; rw [if_neg (by simpa using h), if_pos h2]
theorem imp_untold {s : List UInt8} (h : formed s) (h2 : summed s) (h3 : ¬ told s) : imp s = (xp0, 0, 2) := by unfold imp; rw [if_neg (by simpa using h), if_neg (by simpa using h2), if_pos h3]
theorem imp_ok {s : List UInt8} (h : formed s) (h2 : summed s) (h3 : told s) : imp s = ((ins s, outs s, ()), dOf s, 0) := by unfold imp; rw [if_neg (by simpa using h), if_neg (by simpa using h2), if_neg (by simpa using h3)]
theorem rowsOf_len (s : List UInt8) (p rows cols : Nat) : (rowsOf s p rows cols).length = rows := by simp [rowsOf]
theorem rowsOf_rows {s : List UInt8} {p rows cols : Nat} {r : List Int} (h : r ∈ rowsOf s p rows cols) : r.length = cols := by
  obtain ⟨i, _, rfl⟩ := List.mem_map.1 h
  simp

/-- Out of numbers that stand one behind the other. -/
theorem rowsOf_F {l : List Nat} (hl : small l) {q rows cols : Nat} (h : q + rows * cols ≤ l.length) : rowsOf (F l) (4 * q) rows cols = grid ((l.drop q).map sg) rows cols := by
  unfold rowsOf grid
  apply List.ext_getElem (by simp)
  intro i h1 h2
  have hi : i < rows := by simpa using h1
  simp only [List.getElem_map, List.getElem_range]
  apply List.ext_getElem (by simp)
  intro k k1 k2
  have hk : k < cols := by simpa using k1
  simp only [List.getElem_map, List.getElem_range]
  have hlt : i * cols + k < rows * cols := by
    have := Nat.mul_le_mul_right cols (show i + 1 ≤ rows from hi)
    rw [Nat.add_mul, Nat.one_mul] at this
    omega
  rw [show 4 * q + 4 * (i * cols + k) = 4 * (q + (i * cols + k)) by omega, at4_F hl (by omega)]
  rw [List.getD_eq_getElem?_getD, List.getD_eq_getElem?_getD, List.getElem?_map, List.getElem?_drop, List.getElem?_eq_getElem (by omega)]
  rfl
theorem last_F {l : List Nat} {c : Nat} (h : small (l ++ [c])) : at4 (F (l ++ [c])) ((F (l ++ [c])).length - 4) = c := by
  rw [F_len, List.length_append, List.length_singleton, show 4 * (l.length + 1) - 4 = 4 * l.length by omega, at4_F h (by simp)]
  rw [List.getD_eq_getElem?_getD, List.getElem?_append_right (Nat.le_refl _), Nat.sub_self]
  rfl
theorem ahead_F (l : List Nat) (c : Nat) : (F (l ++ [c])).take ((F (l ++ [c])).length - 4) = F l := by
  rw [F_append, F_one, List.length_append, four_len, Nat.add_sub_cancel, List.take_left]

section
variable {mi mo : List (List Int)} {dim : Int}
theorem exp_h (h : Ex.Right mi mo dim) : hOf (exp mi mo dim) = mi.length := by
  unfold hOf
  rw [exp_F]
  have := at4_F (exp_small mi mo dim) (i := 0) (by rw [List.length_append, wds_len h]; omega)
  rw [Nat.mul_zero] at this
  rw [this]
  show sg (un (mi.length : Int)) = _
  exact sg_un (by omega) (by have := h.2.1; omega)
theorem exp_d (h : Ex.Right mi mo dim) : dOf (exp mi mo dim) = dim := by
  unfold dOf
  rw [exp_F]
  have := at4_F (exp_small mi mo dim) (i := 1) (by rw [List.length_append, wds_len h]; omega)
  rw [Nat.mul_one] at this
  rw [this]
  show sg (un dim) = _
  exact sg_un (by have := h.1; omega) (by have := h.1; omega)
theorem exp_area (h : Ex.Right mi mo dim) : area (exp mi mo dim) = mi.length * dim.toNat := by unfold area; rw [exp_h h, exp_d h]; rfl
theorem exp_drop (h : Ex.Right mi mo dim) : ((wds mi mo dim ++ [Cx.sum (body mi mo dim)]).drop 2).map sg = mi.flatten ++ mo.flatten ++ [sg (Cx.sum (body mi mo dim))] := by
  show (((mi.flatten ++ mo.flatten).map un) ++ [Cx.sum (body mi mo dim)]).map sg = _
  rw [List.map_append, map_sg_un (right_held h)]
  rfl
theorem grid_ahead {l r : List Int} {rows cols : Nat} (h : l.length = rows * cols) : grid (l ++ r) rows cols = grid l rows cols := by
  unfold grid
  apply List.map_congr_left
  intro i hi
  apply List.map_congr_left
  intro k hk
  have hi := List.mem_range.1 hi
  have hk := List.mem_range.1 hk
  have := Nat.mul_le_mul_right cols (show i + 1 ≤ rows from hi)
  rw [Nat.add_mul, Nat.one_mul] at this
  rw [List.getD_eq_getElem?_getD, List.getElem?_append_left (by omega), List.getD_eq_getElem?_getD]
theorem exp_ins (h : Ex.Right mi mo dim) : ins (exp mi mo dim) = mi := by
  unfold ins
  rw [exp_h h, exp_d h, exp_F, show (8 : Nat) = 4 * 2 from rfl]
  have e : ((mi.length : Int)).toNat = mi.length := rfl
  rw [e, rowsOf_F (exp_small mi mo dim) (by rw [List.length_append, wds_len h]; omega), exp_drop h, List.append_assoc, grid_ahead (in_len h)]
  exact grid_flat (right_in h)
theorem exp_outs (h : Ex.Right mi mo dim) : outs (exp mi mo dim) = mo := by
  unfold outs
  rw [exp_area h, exp_h h, exp_d h, exp_F, show 8 + 4 * (mi.length * dim.toNat) = 4 * (2 + mi.length * dim.toNat) by omega]
  have e : ((mi.length : Int)).toNat = mi.length := rfl
  have hc : dim.toNat * mi.length = mi.length * dim.toNat := Nat.mul_comm _ _
  rw [e, rowsOf_F (exp_small mi mo dim) (by rw [List.length_append, wds_len h, hc]; omega), ← List.drop_drop, List.map_drop, exp_drop h]
  rw [List.append_assoc, ← in_len h, List.drop_left, grid_ahead (by rw [out_len h, hc]), ← right_outs h]
  exact grid_flat (right_out h)
theorem exp_formed (h : Ex.Right mi mo dim) : formed (exp mi mo dim) := ⟨by rw [exp_len h]; omega, by rw [exp_len h]; omega⟩
theorem exp_summed (mi mo : List (List Int)) (dim : Int) : summed (exp mi mo dim) := by
  unfold summed
  rw [exp_F, last_F (exp_small mi mo dim), ahead_F]
  rfl
theorem exp_told (h : Ex.Right mi mo dim) : told (exp mi mo dim) := by
  refine ⟨⟨?_, ?_, ?_, ?_, ?_⟩, ?_⟩
  · rw [exp_h h]; have := h.2.1; omega
  · rw [exp_h h]; have := h.2.1; omega
  · rw [exp_d h]; exact h.1.1
  · rw [exp_d h]; exact h.1.2
  · rw [exp_len h, exp_area h]
  · rw [exp_ins h, exp_outs h, exp_d h]; exact h
/-- What is exported is imported. -/
theorem imp_exp (h : Ex.Right mi mo dim) : imp (exp mi mo dim) = ((mi, mo, ()), dim, 0) := by rw [imp_ok (exp_formed h) (exp_summed _ _ _) (exp_told h), exp_ins h, exp_outs h, exp_d h]
theorem exp_inj {mi' mo' : List (List Int)} {dim' : Int} (h : Ex.Right mi mo dim) (h' : Ex.Right mi' mo' dim') (e : exp mi mo dim = exp mi' mo' dim') : mi = mi' ∧ mo = mo' ∧ dim = dim' := by
  refine ⟨?_, ?_, ?_⟩
  · rw [← exp_ins h, e, exp_ins h']
  · rw [← exp_outs h, e, exp_outs h']
  · rw [← exp_d h, e, exp_d h']
end

/-- What is imported is exported as the same bytes. -/
theorem exp_imp {s : List UInt8} (hf : formed s) (hs : summed s) (ht : told s) : exp (ins s) (outs s) (dOf s) = s := by
  obtain ⟨⟨h1, h2, d1, d2, hlen⟩, hR⟩ := ht
  obtain ⟨l, rfl, hl, hn⟩ := ex_F (3 + 2 * area s) s (by omega)
  have hA : area (F l) = (hOf (F l)).toNat * (dOf (F l)).toNat := rfl
  generalize hH : hOf (F l) = H at *
  generalize hDD : dOf (F l) = D at *
  generalize hAA : area (F l) = A at *
  have hAp : A = H.toNat * D.toNat := hA
  -- the numbers: two ahead, two times A, the sum
  obtain ⟨a, b, r, c, rfl⟩ : ∃ a b r c, l = a :: b :: (r ++ [c]) := by
    match l, hn with
    | a :: b :: t, hn =>
      have hne : t ≠ [] := fun e => by rw [e] at hn; simp at hn; omega
      exact ⟨a, b, t.dropLast, t.getLast hne, by rw [List.dropLast_concat_getLast]⟩
    | [_], hn => simp at hn; omega
    | [], hn => simp at hn; omega
  have hr : r.length = 2 * A := by simp at hn; omega
  have ea : sg a = H := by
    rw [← hH]
    unfold hOf
    have := at4_F hl (i := 0) (by simp)
    rw [Nat.mul_zero] at this
    rw [this]
    rfl
  have eb : sg b = D := by
    rw [← hDD]
    unfold dOf
    have := at4_F hl (i := 1) (by simp)
    rw [Nat.mul_one] at this
    rw [this]
    rfl
  have hac : a :: b :: (r ++ [c]) = (a :: b :: r) ++ [c] := rfl
  have hsm : small (a :: b :: r) := fun x hx => hl x (by rw [hac]; exact List.mem_append_left _ hx)
  have hrs : small r := fun x hx => hsm x (by simp [hx])
  have hi : ins (F (a :: b :: (r ++ [c]))) = grid ((r.map sg).take A) H.toNat D.toNat := by
    unfold ins
    rw [hH, hDD, show (8 : Nat) = 4 * 2 from rfl, rowsOf_F hl (by simp; omega)]
    show grid ((r ++ [c]).map sg) _ _ = _
    have e : (r ++ [c]).map sg = (r.map sg).take A ++ ((r.map sg).drop A ++ [sg c]) := by rw [← List.append_assoc, List.take_append_drop, List.map_append]; rfl
    rw [e, grid_ahead (by rw [List.length_take, List.length_map]; omega)]
  have ho : outs (F (a :: b :: (r ++ [c]))) = grid ((r.map sg).drop A) D.toNat H.toNat := by
    unfold outs
    have hc : D.toNat * H.toNat = A := by rw [hAp]; exact Nat.mul_comm _ _
    rw [hH, hDD, hAA, show 8 + 4 * A = 4 * (2 + A) by omega, rowsOf_F hl (by rw [hc]; simp; omega)]
    have e : ((a :: b :: (r ++ [c])).drop (2 + A)).map sg = (r.map sg).drop A ++ [sg c] := by
      rw [← List.drop_drop]
      show ((r ++ [c]).drop A).map sg = _
      rw [List.drop_append_of_le_length (by omega), List.map_append, List.map_drop]
      rfl
    rw [e, grid_ahead (by rw [List.length_drop, List.length_map, hc]; omega)]
  have hw : wds (ins (F (a :: b :: (r ++ [c])))) (outs (F (a :: b :: (r ++ [c])))) D = a :: b :: r := by
    unfold wds
    have hc : D.toNat * H.toNat = A := by rw [hAp]; exact Nat.mul_comm _ _
    rw [hi, ho, grid_len, flat_grid (by rw [List.length_take, List.length_map]; omega), flat_grid (by rw [List.length_drop, List.length_map, hc]; omega), List.take_append_drop, map_un_sg hrs]
    have e1 : ((H.toNat : Nat) : Int) = H := by omega
    rw [e1, ← ea, ← eb, un_sg (hl a (by simp)), un_sg (hl b (by simp))]
  have hb : body (ins (F (a :: b :: (r ++ [c])))) (outs (F (a :: b :: (r ++ [c])))) D = F (a :: b :: r) := by unfold body; rw [hw]
  rw [exp_F, hw, hb]
  unfold summed at hs
  rw [hac, last_F (by rw [← hac]; exact hl), ahead_F] at hs
  rw [← hs]
  rfl

/-- With one byte turned the sum tells. -/
theorem turned {s : List UInt8} (hf : formed s) (hs : summed s) {j : Nat} (hj : j < s.length) {v : UInt8} (hv : s[j] ≠ v) : formed (s.set j v) ∧ ¬ summed (s.set j v) := by
  have hl : (s.set j v).length = s.length := List.length_set
  have hd : s.getD j 0 ≠ v := by rw [List.getD_eq_getElem?_getD, List.getElem?_eq_getElem hj]; exact hv
  refine ⟨by unfold formed; rw [hl]; exact hf, fun h2 => ?_⟩
  have h12 := hf.1
  unfold summed at hs h2
  rw [hl] at h2
  by_cases hin : j < s.length - 4
  · have e : (s.set j v).take (s.length - 4) = (s.take (s.length - 4)).set j v := by rw [List.take_set]
    have e2 : at4 (s.set j v) (s.length - 4) = at4 s (s.length - 4) := by
      unfold at4
      rw [getD_set _ _ _ hj, getD_set _ _ _ hj, getD_set _ _ _ hj, getD_set _ _ _ hj, if_neg (by omega), if_neg (by omega), if_neg (by omega), if_neg (by omega)]
    rw [e, e2, hs] at h2
    have hj2 : j < (s.take (s.length - 4)).length := by rw [List.length_take]; omega
    exact Cx.sum_set hj2 (by rw [List.getElem_take]; exact hv) h2.symm
  · have e : (s.set j v).take (s.length - 4) = s.take (s.length - 4) := by
      rw [List.take_set, List.set_eq_of_length_le (by rw [List.length_take]; omega)]
    rw [e, ← hs] at h2
    obtain ⟨q0, q1, q2, q3⟩ := at4_inj h2
    rw [getD_set _ _ _ hj] at q0 q1 q2 q3
    have : j = s.length - 4 ∨ j = s.length - 4 + 1 ∨ j = s.length - 4 + 2 ∨ j = s.length - 4 + 3 := by omega
    rcases this with e | e | e | e
    · rw [if_pos e, ← e] at q0; exact hd q0.symm
    · rw [if_pos e, ← e] at q1; exact hd q1.symm
    · rw [if_pos e, ← e] at q2; exact hd q2.symm
    · rw [if_pos e, ← e] at q3; exact hd q3.symm
theorem imp_turned {s : List UInt8} (hf : formed s) (hs : summed s) {j : Nat} (hj : j < s.length) {v : UInt8} (hv : s[j] ≠ v) : imp (s.set j v) = (xp0, 0, 9) := by
  obtain ⟨h1, h2⟩ := turned hf hs hj hv
  exact imp_unsummed h1 h2

/-! ### Cut and Join -/
/-- How many pieces. -/
def num (n size : Nat) : Nat := (n + size - 1) / size
def piece (s : List UInt8) (size i : Nat) : List UInt8 := (s.drop (i * size)).take size
def cutTo (s : List UInt8) (size k : Nat) : List (List UInt8) := (List.range k).map (piece s size)
def cut (s : List UInt8) (size : Nat) : List (List UInt8) := cutTo s size (num s.length size)
section
variable {s : List UInt8} {size : Nat}
theorem cutTo_len (s : List UInt8) (size k : Nat) : (cutTo s size k).length = k := by simp [cutTo]
theorem cutTo_succ (s : List UInt8) (size k : Nat) : cutTo s size (k + 1) = cutTo s size k ++ [piece s size k] := by simp [cutTo, List.range_succ]
theorem cut_len (s : List UInt8) (size : Nat) : (cut s size).length = num s.length size := cutTo_len _ _ _
theorem cut_at {i : Nat} (h : i < num s.length size) : (cut s size).getD i [] = piece s size i := by
  unfold cut cutTo
  rw [List.getD_eq_getElem?_getD, List.getElem?_map, List.getElem?_range h]
  rfl
theorem num_lt (h : 0 < size) {n i : Nat} : i < num n size ↔ i * size < n := by
  unfold num
  constructor
  · intro hi
    have h1 : i + 1 ≤ (n + size - 1) / size := hi
    rw [Nat.le_div_iff_mul_le h, Nat.add_mul, Nat.one_mul] at h1
    omega
  · intro hi
    show i + 1 ≤ (n + size - 1) / size
    rw [Nat.le_div_iff_mul_le h, Nat.add_mul, Nat.one_mul]
    omega
theorem num_le (h : 0 < size) (n : Nat) : n ≤ num n size * size := by
  rcases Nat.lt_or_ge (num n size * size) n with h1 | h1
  · exact absurd ((num_lt h).2 h1) (Nat.lt_irrefl _)
  · exact h1
theorem piece_len (s : List UInt8) (size i : Nat) : (piece s size i).length = min size (s.length - i * size) := by unfold piece; rw [List.length_take, List.length_drop]
theorem piece_full {i : Nat} (h : (i + 1) * size ≤ s.length) : (piece s size i).length = size := by rw [piece_len]; rw [Nat.add_mul, Nat.one_mul] at h; omega
theorem piece_some (h : 0 < size) {i : Nat} (hi : i < num s.length size) : piece s size i ≠ [] := by
  intro e
  have h1 := piece_len s size i
  rw [e] at h1
  have := (num_lt h).1 hi
  simp at h1
  omega
theorem piece_ahead (h : 0 < size) {i : Nat} (hi : i + 1 < num s.length size) : (piece s size i).length = size := piece_full (Nat.le_of_lt ((num_lt h).1 hi))
/-- Joined they are the text. -/
theorem join_to (s : List UInt8) (size k : Nat) : (cutTo s size k).flatten = s.take (k * size) := by
  induction k with
  | zero => simp [cutTo]
  | succ k ih =>
    rw [cutTo_succ, List.flatten_append, ih, List.flatten_singleton, Nat.add_mul, Nat.one_mul]
    unfold piece
    rw [← List.take_add]
theorem join_cut (h : 0 < size) (s : List UInt8) : (cut s size).flatten = s := by
  unfold cut
  rw [join_to, List.take_of_length_le (num_le h _)]
theorem cut_nil (size : Nat) (h : 0 < size) : cut [] size = [] := by
  have : num 0 size = 0 := by unfold num; exact Nat.div_eq_of_lt (by omega)
  unfold cut
  rw [show ([] : List UInt8).length = 0 from rfl, this]
  rfl
/-- Pieces of pieces. -/
theorem piece_piece {a m : Nat} (s : List UInt8) (i j : Nat) (hj : j < m) : piece (piece s (a * m) i) a j = piece s a (i * m + j) := by
  unfold piece
  rw [List.drop_take, List.drop_drop, List.take_take]
  have h1 : i * (a * m) + j * a = (i * m + j) * a := by rw [Nat.add_mul, Nat.mul_assoc, Nat.mul_comm m a]
  have h2 : min a (a * m - j * a) = a := by
    have h3 : (j + 1) * a ≤ m * a := Nat.mul_le_mul_right a hj
    rw [Nat.add_mul, Nat.one_mul] at h3
    rw [Nat.mul_comm a m]
    omega
  rw [h1, h2]
theorem num_eq (h : 0 < size) {n N : Nat} (hN : ∀ i, i < N ↔ i * size < n) : num n size = N := by
  rcases Nat.lt_trichotomy (num n size) N with h1 | h1 | h1
  · exact absurd ((num_lt h).2 ((hN _).1 h1)) (Nat.lt_irrefl _)
  · exact h1
  · exact absurd ((hN _).2 ((num_lt h).1 h1)) (Nat.lt_irrefl _)
theorem num_piece {a m : Nat} (ha : 0 < a) (n i : Nat) : num (min (a * m) (n - i * (a * m))) a = min m (num n a - i * m) := by
  refine num_eq ha fun j => ?_
  have e : (i * m + j) * a = i * (a * m) + j * a := by rw [Nat.add_mul, Nat.mul_assoc, Nat.mul_comm m a]
  have h1 : j < m ↔ j * a < a * m := by rw [Nat.mul_comm a m]; exact (Nat.mul_lt_mul_right ha).symm
  have h2 : i * m + j < num n a ↔ (i * m + j) * a < n := num_lt ha
  rw [e] at h2
  constructor
  · intro h
    have h3 := h1.1 (by omega)
    have h4 := h2.1 (by omega)
    omega
  · intro h
    have h3 := h1.2 (by omega)
    have h4 := h2.2 (by omega)
    omega
theorem cut_piece {a m : Nat} (ha : 0 < a) (s : List UInt8) (i : Nat) : cut (piece s (a * m) i) a = (List.range (min m (num s.length a - i * m))).map fun j => piece s a (i * m + j) := by
  unfold cut cutTo
  rw [piece_len, num_piece ha]
  apply List.map_congr_left
  intro j hj
  exact piece_piece s i j (by have := List.mem_range.1 hj; omega)
theorem cutTo_add (s : List UInt8) (size p c : Nat) : cutTo s size p ++ (List.range c).map (fun j => piece s size (p + j)) = cutTo s size (p + c) := by
  induction c with
  | zero => simp
  | succ c ih => rw [List.range_succ, List.map_append, ← List.append_assoc, ih, ← Nat.add_assoc, cutTo_succ]; rfl
/-- The first k pieces, cut again. -/
theorem cut_next {a m : Nat} (ha : 0 < a) (hm : 0 < m) (s : List UInt8) {k : Nat} (hk : k < num s.length (a * m)) : cutTo s a (min (k * m) (num s.length a)) ++ cut (piece s (a * m) k) a = cutTo s a (min ((k + 1) * m) (num s.length a)) := by
  have h1 := (num_lt (Nat.mul_pos ha hm)).1 hk
  have h2 : k * m < num s.length a := (num_lt ha).2 (by rw [Nat.mul_assoc, Nat.mul_comm m a]; exact h1)
  rw [Nat.min_eq_left (Nat.le_of_lt h2), cut_piece ha, cutTo_add]
  congr 1
  rw [Nat.add_mul, Nat.one_mul]
  omega
theorem cut_twice {a m : Nat} (ha : 0 < a) (hm : 0 < m) (s : List UInt8) : cutTo s a (min (num s.length (a * m) * m) (num s.length a)) = cut s a := by
  have h1 := num_le (Nat.mul_pos ha hm) s.length
  have h2 : num s.length a ≤ num s.length (a * m) * m := by
    rcases Nat.lt_or_ge (num s.length (a * m) * m) (num s.length a) with h | h
    · have := (num_lt ha).1 h
      rw [Nat.mul_assoc, Nat.mul_comm m a] at this
      omega
    · exact h
  rw [Nat.min_eq_right h2]
  rfl
theorem cutTo_flat (s : List UInt8) (size k : Nat) : (cutTo s size k).flatten = s.take (k * size) := join_to s size k
end

end Go.Proofs.Ytpfhjdlmjehfnaa.Ck
