/- What the document's Import of layer 16 does when called (written by wip/tools/mk-chkm.py). -/
import Derived.Test.YtgbcneiciefkkaaChkL
namespace Go.Proofs.Ytgbcneiciefkkaa
open Go.ChangeShapes Go.WideShapes Go.ChangeAt Go.RowKit

theorem four_is {n : Nat} (hn : n < 4294967296) {r : List UInt8} (hr : r.length = 4) : Wx.at4 r 0 = n ↔ Wx.four n = r := by
  have h4 : Wx.at4 (Wx.four n) 0 = n := by have := Wx.at4_four n hn []; rwa [List.append_nil] at this
  constructor
  · intro h
    obtain ⟨q0, q1, q2, q3⟩ := Wx.at4_inj (h4.trans h.symm)
    have hf := Wx.four_len n
    apply List.ext_getElem (by rw [hf, hr])
    intro i h1 h2
    have hi : i < 4 := by omega
    have key : (Wx.four n).getD i 0 = r.getD i 0 := by
      rcases (by omega : i = 0 ∨ i = 1 ∨ i = 2 ∨ i = 3) with rfl | rfl | rfl | rfl
      · exact q0
      · exact q1
      · exact q2
      · exact q3
    rwa [List.getD_eq_getElem?_getD, List.getD_eq_getElem?_getD, List.getElem?_eq_getElem h1, List.getElem?_eq_getElem h2] at key
  · intro h
    rw [← h, h4]
theorem summed_is {l : List UInt8} (hf : Ck.formed l) : Ck.summed l ↔ Wx.four (Cx.sum (l.take (l.length - 4))) = l.drop (l.length - 4) := by
  have h12 := hf.1
  rw [← four_is (Cx.sum_lt _) (by rw [List.length_drop]; omega)]
  have h2 := Wx.at4_skip (l.take (l.length - 4)) (l.drop (l.length - 4)) 0
  rw [List.take_append_drop, List.length_take, Nat.min_eq_left (by omega), Nat.add_zero] at h2
  rw [← h2]
  rfl
theorem rowsOf_step (l : List UInt8) (p q r i : Nat) (h : i < q) : (Ck.rowsOf l p q r).take i ++ [(List.range r).map fun k => Wx.sg (Wx.at4 l (p + 4 * (i * r + k)))] = (Ck.rowsOf l p q r).take (i + 1) := by
  rw [Mx.take_row _ i (by rw [Ck.rowsOf_len]; exact h), rowsOf_row _ _ _ _ _ h]

/-- A number's place, and the number. -/
structure AtIn (s : ByteArray) (i : Nat) (x : Int) : Prop where
  four : Four s (i : Int) i
  eq : x = Wx.sg (Wx.at4 s.data.toList i)
theorem atIn (s : ByteArray) (i : Nat) (x : Int) (h : AtIn s i x) (w : World) : Calls Try.prog 31 #[.string s, .int .i64 (i : Int)] w fun e w' => e = .returned (.int .i64 x) ∧ Below w.heap.size w w' := by
  rw [h.eq]
  exact krat s i i h.four w

theorem Box.put0 {u : World} {b : Nat} {t : TypeId} {p0 p1 : Value} (h : Box u b t #[p0, p1]) (v : Value) : Box (u.setCell ⟨b, 0, none⟩ v) b t #[v, p1] := by
  have := h.set 0 v
  simp only [List.setIfInBounds_toArray, List.set_cons_zero] at this
  exact this
theorem Box.put1 {u : World} {b : Nat} {t : TypeId} {p0 p1 : Value} (h : Box u b t #[p0, p1]) (v : Value) : Box (u.setCell ⟨b, 1, none⟩ v) b t #[p0, v] := by
  have := h.set 1 v
  simp only [List.setIfInBounds_toArray, List.set_cons_zero, List.set_cons_succ] at this
  exact this
theorem Own.among1 {w : World} {B base : Nat} {e : TypeId} {a : Option Addr} {n c : Nat} {xs : List (List Int)} (h : Own (inS rowS (B ≤ ·)) w base e (.slice a n c) xs) (hB : B ≤ base := by omega) : matS.rep w (B ≤ ·) [.slice a n c] xs := h.among (fun _ h9 => h9) (fun _ h1 _ _ => Nat.le_trans hB h1)

section
variable (s : ByteArray) (hs : s.size ≤ 100000) (w : World)
theorem krimport_unformed (h : ¬ Ck.formed s.data.toList) : Calls Try.prog 18 #[.string s] w fun e w' => e = .returned (.tuple #[.agg #[.slice none 0 0, .slice none 0 0], .int .i64 0, .int .i64 2]) ∧ Below w.heap.size w w' := by
  have hl := list_size s
  unfold Ck.formed at h
  rw [hl] at h
  have tm : ((s.size : Nat) : Int).tmod 4 = ((s.size % 4 : Nat) : Int) := by rw [Int.tmod_eq_emod_of_nonneg (by omega)]; rfl
  have kb := Box.new w 24 #[.slice none 0 0, .slice none 0 0]
  have hend := new_bel w (.cells #[.slice none 0 0, .slice none 0 0] 24)
  by_cases h1 : s.size < 12
  · have q1 : (s.size : Int) < 12 := by omega
    clear h hl
    go_enter Try.func18, Try.ntmps18
    go_wp2
    refine ret_three Try.underlying24 Try.infoExpert rfl rfl rfl rfl rfl kb rfl ?_
    exact ⟨rfl, hend⟩
  · have q1 : ¬ (s.size : Int) < 12 := by omega
    have q2 : (((s.size % 4 : Nat) : Int) != 0) = true := by rw [bne_iff_ne]; omega
    clear h hl
    go_enter Try.func18, Try.ntmps18
    go_wp2
    refine ret_three Try.underlying24 Try.infoExpert rfl rfl rfl rfl rfl kb rfl ?_
    exact ⟨rfl, hend⟩

set_option maxHeartbeats 2000000 in
set_option maxRecDepth 100000 in
include hs in
theorem krimport_unsummed (h : Ck.formed s.data.toList) (h2 : ¬ Ck.summed s.data.toList) : Calls Try.prog 18 #[.string s] w fun e w' => e = .returned (.tuple #[.agg #[.slice none 0 0, .slice none 0 0], .int .i64 0, .int .i64 9]) ∧ Below w.heap.size w w' := by
  obtain ⟨S, E, hF⟩ := formed_there s h
  have hl := list_size s
  have tm : ((s.size : Nat) : Int).tmod 4 = ((s.size % 4 : Nat) : Int) := by rw [Int.tmod_eq_emod_of_nonneg (by omega)]; rfl
  have hE : s.size = E + 4 := hF.size
  have hEE : (s.size : Int) - 4 = (E : Int) := by omega
  have hE5 : E ≤ 100000 := by omega
  have q1 : ¬ (s.size : Int) < 12 := by have := hF.few; omega
  have q2 : (((s.size % 4 : Nat) : Int) != 0) = false := by rw [hF.four]; rfl
  have hcut := hF.cut
  obtain ⟨R, hcut2, hRl, hRs⟩ := cut_from s (j := E) (by omega)
  have hSU := summed_is h
  rw [← hF.list, hl, show s.size - 4 = E by omega, ← hRl] at hSU
  have HC : Hid (∀ w, Calls Try.prog 26 #[.string S] w fun e w' => e = .returned (.int .i64 (crc S : Nat)) ∧ w' = w) := fun w => rsum S (by rw [hF.long]; unfold maxLen; omega) w
  have hcl := crc_lt S
  obtain ⟨Q, hQ⟩ : ∃ Q : ByteArray, Q = ⟨(Wx.four (Wx.un (crc S : Nat))).toArray⟩ := ⟨_, rfl⟩
  have hfi : FourIn (crc S : Nat) Q := ⟨by omega, by omega, hQ⟩
  have hQR : Ck.summed s.data.toList ↔ Q = R := by
    rw [hSU, hQ, Wx.un_nat hcl]
    constructor
    · intro h9
      rw [text_is (s := R) h9.symm]
      rfl
    · intro h9
      have h8 := congrArg (fun t : ByteArray => t.data.toList) h9
      have h7 : Wx.four (crc S) = R.data.toList := by simpa using h8
      exact h7
  have q3 : (Q.toList == R.toList) = false := text_ne fun e => h2 (hQR.2 e)
  clear h h2 hF hl hs hE hSU hQR hQ hRl hRs
  generalize crc S = x at *
  have kb := Box.new w 24 #[.slice none 0 0, .slice none 0 0]
  have hB := new_bel w (.cells #[.slice none 0 0, .slice none 0 0] 24)
  have HF : Hid (∀ (n : Int) (t : ByteArray) (_ : FourIn n t) (w : World), Calls Try.prog 24 #[.int .i64 n] w fun e w' => e = .returned (.string t) ∧ Below w.heap.size w w') := fourIn
  go_enter Try.func18, Try.ntmps18
  go_wp2
  generalize w.alloc (.cells #[.slice none 0 0, .slice none 0 0] 24) = W at *
  have hne9 : Nonempty (Later W) := Later.there W
  refine region_later (by kernel_rfl) (by kernel_rfl) ?_
  repeat (go_big_quiet_step (first
    | (go_at_call 26; exact Later.same (HC.out _))
    | (go_at_call 24; exact Later.call (HF.out _ _ (by assumption) _))))
  refine wpQuiet_nil ?_
  intro x9
  obtain ⟨W9, hb9⟩ := x9
  have kb9 := kb.keep hb9
  have hB9 := bel_then hB hb9
  clear hne9 HF HC hB kb
  have c0 := kb9.cell 0 rfl
  have c1 := kb9.cell 1 rfl
  have f0 := kb9.free 0
  have f1 := kb9.free 1
  have hend := bel_all2 hB9 (b := w.heap.size) (Nat.le_refl _) (.slice none 0 0) (.slice none 0 0)
  go_wp2
  refine ret_three Try.underlying24 Try.infoExpert rfl rfl rfl rfl rfl (kb9.all2 _ _) rfl ?_
  exact ⟨rfl, hend⟩

set_option maxHeartbeats 4000000 in
set_option maxRecDepth 100000 in
include hs in
theorem krimport_unsized (h : Ck.formed s.data.toList) (h2 : Ck.summed s.data.toList) (h3 : ¬ Ck.sized s.data.toList) : Calls Try.prog 18 #[.string s] w fun e w' => e = .returned (.tuple #[.agg #[.slice none 0 0, .slice none 0 0], .int .i64 0, .int .i64 2]) ∧ Below w.heap.size w w' := by
  obtain ⟨S, E, hF⟩ := formed_there s h
  have hl := list_size s
  have tm : ((s.size : Nat) : Int).tmod 4 = ((s.size % 4 : Nat) : Int) := by rw [Int.tmod_eq_emod_of_nonneg (by omega)]; rfl
  have hE : s.size = E + 4 := hF.size
  have hEE : (s.size : Int) - 4 = (E : Int) := by omega
  have hE5 : E ≤ 100000 := by omega
  have q1 : ¬ (s.size : Int) < 12 := by have := hF.few; omega
  have q2 : (((s.size % 4 : Nat) : Int) != 0) = false := by rw [hF.four]; rfl
  have hcut := hF.cut
  obtain ⟨R, hcut2, hRl, hRs⟩ := cut_from s (j := E) (by omega)
  have hSU := summed_is h
  rw [← hF.list, hl, show s.size - 4 = E by omega, ← hRl] at hSU
  have HC : Hid (∀ w, Calls Try.prog 26 #[.string S] w fun e w' => e = .returned (.int .i64 (crc S : Nat)) ∧ w' = w) := fun w => rsum S (by rw [hF.long]; unfold maxLen; omega) w
  have hcl := crc_lt S
  obtain ⟨Q, hQ⟩ : ∃ Q : ByteArray, Q = ⟨(Wx.four (Wx.un (crc S : Nat))).toArray⟩ := ⟨_, rfl⟩
  have hfi : FourIn (crc S : Nat) Q := ⟨by omega, by omega, hQ⟩
  have hQR : Ck.summed s.data.toList ↔ Q = R := by
    rw [hSU, hQ, Wx.un_nat hcl]
    constructor
    · intro h9
      rw [text_is (s := R) h9.symm]
      rfl
    · intro h9
      have h8 := congrArg (fun t : ByteArray => t.data.toList) h9
      have h7 : Wx.four (crc S) = R.data.toList := by simpa using h8
      exact h7
  have q3 : (Q.toList == R.toList) = true := text_eq (hQR.1 h2)
  obtain ⟨h0, hh⟩ : ∃ h0, Ck.hOf s.data.toList = h0 := ⟨_, rfl⟩
  obtain ⟨d0, hd⟩ : ∃ d0, Ck.dOf s.data.toList = d0 := ⟨_, rfl⟩
  unfold Ck.sized Ck.area at h3
  rw [hh, hd, hl] at h3
  have HA1 : Hid (∀ w, Calls Try.prog 31 #[.string s, .int .i64 0] w fun e w' => e = .returned (.int .i64 h0) ∧ Below w.heap.size w w') := fun w => atIn s 0 h0 ⟨⟨rfl, by omega, by unfold maxLen; omega⟩, hh.symm⟩ w
  have HA2 : Hid (∀ w, Calls Try.prog 31 #[.string s, .int .i64 4] w fun e w' => e = .returned (.int .i64 d0) ∧ Below w.heap.size w w') := fun w => atIn s 4 d0 ⟨⟨rfl, by omega, by unfold maxLen; omega⟩, hd.symm⟩ w
  clear h h2 hF hl hs hSU hQR hQ hRl hRs hh hd hE
  generalize crc S = x at *
  have kb := Box.new w 24 #[.slice none 0 0, .slice none 0 0]
  have hB := new_bel w (.cells #[.slice none 0 0, .slice none 0 0] 24)
  have HF : Hid (∀ (n : Int) (t : ByteArray) (_ : FourIn n t) (w : World), Calls Try.prog 24 #[.int .i64 n] w fun e w' => e = .returned (.string t) ∧ Below w.heap.size w w') := fourIn
  go_enter Try.func18, Try.ntmps18
  go_wp2
  generalize w.alloc (.cells #[.slice none 0 0, .slice none 0 0] 24) = W at *
  have hne9 : Nonempty (Later W) := Later.there W
  refine region_later (by kernel_rfl) (by kernel_rfl) ?_
  repeat (go_big_quiet_step (first
    | (go_at_call 26; exact Later.same (HC.out _))
    | (go_at_call 24; exact Later.call (HF.out _ _ (by assumption) _))))
  refine wpQuiet_nil ?_
  intro x9
  obtain ⟨W9, hb9⟩ := x9
  have kb9 := kb.keep hb9
  have hB9 := bel_then hB hb9
  clear hne9 HF HC hB kb
  go_wp2_with fail
  refine (HA1.out _).mono ?_
  rintro e u1 ⟨rfl, hb1⟩
  go_wp2_with fail
  refine (HA2.out _).mono ?_
  rintro e u3 ⟨rfl, hb3⟩
  have kb3 := (kb9.keep hb1).keep hb3
  have hB3 := bel_then (bel_then hB9 hb1) hb3
  clear HA1 HA2 kb9 hB9 hb1 hb3
  have c0 := kb3.cell 0 rfl
  have c1 := kb3.cell 1 rfl
  have f0 := kb3.free 0
  have f1 := kb3.free 1
  have hend := bel_all2 hB3 (b := w.heap.size) (Nat.le_refl _) (.slice none 0 0) (.slice none 0 0)
  by_cases t1 : h0 < 1
  · clear h3
    go_wp2
    refine ret_three Try.underlying24 Try.infoExpert rfl rfl rfl rfl rfl (kb3.all2 _ _) rfl ?_
    exact ⟨rfl, hend⟩
  by_cases t2 : 8 < h0
  · clear h3
    go_wp2
    refine ret_three Try.underlying24 Try.infoExpert rfl rfl rfl rfl rfl (kb3.all2 _ _) rfl ?_
    exact ⟨rfl, hend⟩
  by_cases t3 : d0 < 1
  · clear h3
    go_wp2
    refine ret_three Try.underlying24 Try.infoExpert rfl rfl rfl rfl rfl (kb3.all2 _ _) rfl ?_
    exact ⟨rfl, hend⟩
  by_cases t4 : 8 < d0
  · clear h3
    go_wp2
    refine ret_three Try.underlying24 Try.infoExpert rfl rfl rfl rfl rfl (kb3.all2 _ _) rfl ?_
    exact ⟨rfl, hend⟩
  have hA : h0.toNat * d0.toNat ≤ 64 := Nat.mul_le_mul (show h0.toNat ≤ 8 by omega) (show d0.toNat ≤ 8 by omega)
  have ed : 8 * h0 * d0 = 8 * ((h0.toNat * d0.toNat : Nat) : Int) := by
    rw [Int.mul_assoc, Int.natCast_mul, show ((h0.toNat : Nat) : Int) = h0 by omega, show ((d0.toNat : Nat) : Int) = d0 by omega]
  have h5 : s.size ≠ 12 + 8 * (h0.toNat * d0.toNat) := fun e => h3 ⟨by omega, by omega, by omega, by omega, e⟩
  generalize h0.toNat * d0.toNat = A at *
  have q5 : ((s.size : Int) != 12 + 8 * (A : Int)) = true := by rw [bne_iff_ne]; omega
  clear h3 h5
  go_wp2
  refine ret_three Try.underlying24 Try.infoExpert rfl rfl rfl rfl rfl (kb3.all2 _ _) rfl ?_
  exact ⟨rfl, hend⟩

set_option maxHeartbeats 16000000 in
set_option maxRecDepth 100000 in
include hs in
theorem krimport_sized (h : Ck.formed s.data.toList) (h2 : Ck.summed s.data.toList) (H D P0 : Nat) (hh : Ck.hOf s.data.toList = (H : Int)) (hd : Ck.dOf s.data.toList = (D : Int)) (hH : 1 ≤ H ∧ H ≤ 8) (hD : 1 ≤ D ∧ D ≤ 8) (hz : s.size = 12 + 8 * (H * D)) (hP0 : 8 + 4 * (H * D) = P0)
    (MI MO : List (List Int)) (hMI : Ck.rowsOf s.data.toList 8 H D = MI) (hMO : Ck.rowsOf s.data.toList P0 D H = MO) (mi mo : List (List Int)) (dim er : Int) (hyes : Ex.Right MI MO (D : Int) → mi = MI ∧ mo = MO ∧ dim = (D : Int) ∧ er = 0) (hno : ¬ Ex.Right MI MO (D : Int) → mi = [] ∧ mo = [] ∧ dim = 0 ∧ er = 2) :
    Calls Try.prog 18 #[.string s] w fun e w' => Below w.heap.size w w' ∧ ∃ ai ni ci ao no co, e = .returned (.tuple #[.agg #[.slice ai ni ci, .slice ao no co], .int .i64 dim, .int .i64 er]) ∧ Exp w' ai ni ci ao no co mi mo := by
  obtain ⟨i0, hi0, hi1, hi2, hi3⟩ := info_parts Try.infoRow
  obtain ⟨j0, hj0, hj1, hj2, hj3⟩ := info_parts Try.infoInt
  have HYES : Hid (Ex.Right MI MO (D : Int) → MI = mi ∧ MO = mo ∧ (D : Int) = dim ∧ 0 = er) := fun h9 => by obtain ⟨k1, k2, k3, k4⟩ := hyes h9; exact ⟨k1.symm, k2.symm, k3.symm, k4.symm⟩
  have HNO : Hid (¬ Ex.Right MI MO (D : Int) → [] = mi ∧ [] = mo ∧ 0 = dim ∧ 2 = er) := fun h9 => by obtain ⟨k1, k2, k3, k4⟩ := hno h9; exact ⟨k1.symm, k2.symm, k3.symm, k4.symm⟩
  have HL1 : Hid (MI.length = H) := by show _ = _; rw [← hMI, Ck.rowsOf_len]
  have HL2 : Hid (MO.length = D) := by show _ = _; rw [← hMO, Ck.rowsOf_len]
  have HZ1 : Hid (Ex.Sized MI) := by rw [← hMI]; exact rowsOf_sized _ _ hH.2 hD.2
  have HZ2 : Hid (Ex.Sized MO) := by rw [← hMO]; exact rowsOf_sized _ _ hD.2 hH.2
  have HT1 : Hid (∀ i, i < H → MI.take i ++ [(List.range D).map fun k => Wx.sg (Wx.at4 s.data.toList (8 + 4 * (i * D + k)))] = MI.take (i + 1)) := fun i hi => by rw [← hMI]; exact rowsOf_step _ _ _ _ _ hi
  have HT2 : Hid (∀ i, i < D → MO.take i ++ [(List.range H).map fun k => Wx.sg (Wx.at4 s.data.toList (P0 + 4 * (i * H + k)))] = MO.take (i + 1)) := fun i hi => by rw [← hMO]; exact rowsOf_step _ _ _ _ _ hi
  have HSZ1 : Hid (12 + 4 * (H * D) ≤ s.size) := by show _ ≤ _; omega
  have HSZ2 : Hid (P0 + 4 * (D * H) + 4 ≤ s.size) := by show _ ≤ _; have : D * H = H * D := Nat.mul_comm _ _; omega
  have HPZ : Hid (8 + 4 * (H * D) = P0) := hP0
  have hA : H * D ≤ 64 := Nat.mul_le_mul hH.2 hD.2
  have ed : 8 * (H : Int) * (D : Int) = 8 * ((H * D : Nat) : Int) := by rw [Int.mul_assoc, Int.natCast_mul]
  obtain ⟨S, E, hF⟩ := formed_there s h
  have hl := list_size s
  have tm : ((s.size : Nat) : Int).tmod 4 = ((s.size % 4 : Nat) : Int) := by rw [Int.tmod_eq_emod_of_nonneg (by omega)]; rfl
  have hE : s.size = E + 4 := hF.size
  have hEE : (s.size : Int) - 4 = (E : Int) := by omega
  have hE5 : E ≤ 100000 := by omega
  have q1 : ¬ (s.size : Int) < 12 := by have := hF.few; omega
  have q2 : (((s.size % 4 : Nat) : Int) != 0) = false := by rw [hF.four]; rfl
  have hcut := hF.cut
  obtain ⟨R, hcut2, hRl, hRs⟩ := cut_from s (j := E) (by omega)
  have hSU := summed_is h
  rw [← hF.list, hl, show s.size - 4 = E by omega, ← hRl] at hSU
  have HC : Hid (∀ w, Calls Try.prog 26 #[.string S] w fun e w' => e = .returned (.int .i64 (crc S : Nat)) ∧ w' = w) := fun w => rsum S (by rw [hF.long]; unfold maxLen; omega) w
  have hcl := crc_lt S
  obtain ⟨Q, hQ⟩ : ∃ Q : ByteArray, Q = ⟨(Wx.four (Wx.un (crc S : Nat))).toArray⟩ := ⟨_, rfl⟩
  have hfi : FourIn (crc S : Nat) Q := ⟨by omega, by omega, hQ⟩
  have hQR : Ck.summed s.data.toList ↔ Q = R := by
    rw [hSU, hQ, Wx.un_nat hcl]
    constructor
    · intro h9
      rw [text_is (s := R) h9.symm]
      rfl
    · intro h9
      have h8 := congrArg (fun t : ByteArray => t.data.toList) h9
      have h7 : Wx.four (crc S) = R.data.toList := by simpa using h8
      exact h7
  have q3 : (Q.toList == R.toList) = true := text_eq (hQR.1 h2)
  obtain ⟨h0, hh0⟩ : ∃ h0 : Int, h0 = (H : Int) := ⟨_, rfl⟩
  obtain ⟨d0, hd0⟩ : ∃ d0 : Int, d0 = (D : Int) := ⟨_, rfl⟩
  rw [← hh0] at hh
  rw [← hd0] at hd
  have HA1 : Hid (∀ w, Calls Try.prog 31 #[.string s, .int .i64 0] w fun e w' => e = .returned (.int .i64 h0) ∧ Below w.heap.size w w') := fun w => atIn s 0 h0 ⟨⟨rfl, by omega, by unfold maxLen; omega⟩, hh.symm⟩ w
  have HA2 : Hid (∀ w, Calls Try.prog 31 #[.string s, .int .i64 4] w fun e w' => e = .returned (.int .i64 d0) ∧ Below w.heap.size w w') := fun w => atIn s 4 d0 ⟨⟨rfl, by omega, by unfold maxLen; omega⟩, hd.symm⟩ w
  subst hh0
  subst hd0
  obtain ⟨hH1, hH2⟩ := hH
  obtain ⟨hD1, hD2⟩ := hD
  have q5 : ((s.size : Int) != 12 + 8 * ((H * D : Nat) : Int)) = false := by rw [bne_eq_false_iff_eq]; omega
  have t1 : ¬ (H : Int) < 1 := by omega
  have t2 : ¬ (8 : Int) < (H : Int) := by omega
  have t3 : ¬ (D : Int) < 1 := by omega
  have t4 : ¬ (8 : Int) < (D : Int) := by omega
  have hs5 : s.size ≤ 100000 := hs
  clear h h2 hF hl hSU hQR hQ hRl hRs hh hd hE hMI hMO hyes hno hP0 hz hs
  obtain ⟨A, HAA⟩ : ∃ A, Hid (H * D = A) := ⟨_, rfl⟩
  rw [HAA.out] at ed q5 hA
  generalize crc S = x at *
  have kb := Box.new w 24 #[.slice none 0 0, .slice none 0 0]
  have hB := new_bel w (.cells #[.slice none 0 0, .slice none 0 0] 24)
  have HF : Hid (∀ (n : Int) (t : ByteArray) (_ : FourIn n t) (w : World), Calls Try.prog 24 #[.int .i64 n] w fun e w' => e = .returned (.string t) ∧ Below w.heap.size w w') := fourIn
  go_enter Try.func18, Try.ntmps18
  go_wp2
  generalize w.alloc (.cells #[.slice none 0 0, .slice none 0 0] 24) = W at *
  have hne9 : Nonempty (Later W) := Later.there W
  refine region_later (by kernel_rfl) (by kernel_rfl) ?_
  repeat (go_big_quiet_step (first
    | (go_at_call 26; exact Later.same (HC.out _))
    | (go_at_call 24; exact Later.call (HF.out _ _ (by assumption) _))))
  refine wpQuiet_nil ?_
  intro x9
  obtain ⟨W9, hb9⟩ := x9
  have kb9 := kb.keep hb9
  have hB9 := bel_then hB hb9
  clear hne9 HF HC hB kb
  go_wp2_with fail
  refine (HA1.out _).mono ?_
  rintro e u1 ⟨rfl, hb1⟩
  go_wp2_with fail
  refine (HA2.out _).mono ?_
  rintro e u3 ⟨rfl, hb3⟩
  have kb3 := (kb9.keep hb1).keep hb3
  have hB3 := bel_then (bel_then hB9 hb1) hb3
  clear HA1 HA2 kb9 hB9 hb1 hb3
  have hV3 := kb3.lt
  have kx0 := Box.new u3 24 #[.slice none 0 0, .slice none 0 0]
  go_wp2
  go_loopw [9, 10] (fun pv iv wr => ∃ (i pl : Nat) (ap : Option Addr) (cp : Nat), i ≤ H ∧ iv = .int .i64 i ∧ pv = .int .i64 pl ∧ Hid (pl = 8 + 4 * (i * D)) ∧ Box wr u3.heap.size 24 #[.slice ap i cp, .slice none 0 0] ∧ Own (inS rowS (u3.heap.size + 1 ≤ ·)) wr (u3.heap.size + 1) 49 (.slice ap i cp) (MI.take i) ∧ Below u3.heap.size u3 wr) (fun _ iv _ => H - (intOf iv).toNat)
  case atStart => exact ⟨0, 8, none, 0, Nat.zero_le _, rfl, rfl, by show 8 = _; rw [Nat.zero_mul], kx0, Own.nil _ _ _ _, (Below.refl _ _).alloc (Nat.le_refl _) _⟩
  case round =>
    obtain ⟨i, pl, ap, cp, hi, rfl, rfl, HPL, kx, hown, hbel⟩ := hrel
    by_cases hlt : i < H
    · have hli : (i : Int) < (H : Int) := by omega
      obtain ⟨W0, hW0⟩ : ∃ W0, W0 = wr := ⟨_, rfl⟩
      subst hW0
      have HML : Hid ((MI.take i).length = i) := by show _ = _; rw [List.length_take, HL1.out]; omega
      have HST : Hid _ := HT1.out i hlt
      have HPB : Hid (∀ k, k < D → 8 + 4 * (i * D + k) + 3 < s.size) := fun k hk => by
        have h9 := in_area hlt hk
        have h8 := HSZ1.out
        omega
      obtain ⟨f, Hf⟩ : ∃ f : Nat → Int, Hid (∀ k, f k = Wx.sg (Wx.at4 s.data.toList (8 + 4 * (i * D + k)))) := ⟨_, fun _ => rfl⟩
      have HFE : Hid (((List.range D).map fun k => Wx.sg (Wx.at4 s.data.toList (8 + 4 * (i * D + k)))) = (List.range D).map f) := List.map_congr_left fun k _ => (Hf.out k).symm
      have hXlt := kx.lt
      go_wp2
      go_loopw [9, 11, 12] (fun pv lv kv wr => ∃ (k pl2 : Nat) (al : Option Addr) (cl : Nat), k ≤ D ∧ kv = .int .i64 k ∧ pv = .int .i64 pl2 ∧ lv = .slice al k cl ∧ Hid (pl2 = 8 + 4 * (i * D + k)) ∧ Own (intS .i64) wr W0.heap.size 3 (.slice al k cl) ((List.range k).map f) ∧ Below W0.heap.size W0 wr) (fun _ _ kv _ => D - (intOf kv).toNat)
      case atStart => exact ⟨0, pl, none, 0, Nat.zero_le _, rfl, rfl, rfl, by show pl = _; rw [HPL.out, Nat.add_zero], Own.nil _ _ _ _, Below.refl _ _⟩
      case round =>
        obtain ⟨k, pl2, al, cl, hk, rfl, rfl, rfl, HP2, hown2, hbel2⟩ := hrel
        by_cases hlt2 : k < D
        · have hli2 : (k : Int) < (D : Int) := by omega
          have hat : AtIn s pl2 (f k) := ⟨⟨rfl, by rw [HP2.out]; exact HPB.out k hlt2, by unfold maxLen; omega⟩, by rw [HP2.out]; exact Hf.out k⟩
          have hp5 : pl2 ≤ 100000 := by have h9 := HPB.out k hlt2; rw [← HP2.out] at h9; omega
          have HAT : Hid (∀ w, Calls Try.prog 31 #[.string s, .int .i64 (pl2 : Int)] w fun e w' => e = .returned (.int .i64 (f k)) ∧ Below w.heap.size w w') := fun w => atIn s pl2 (f k) hat w
          have HSN : Hid _ := range_snoc f k
          have HLN : Hid (((List.range k).map f).length = k) := by show _ = _; simp
          clear hat
          go_wp2_with fail
          refine (HAT.out _).mono ?_
          rintro e u4 ⟨rfl, hb4⟩
          have hown4 := hown2.keep hb4
          obtain ⟨hsrc, hoff⟩ := Own.esrc (F := fun _ => False) (cs := [.int .i64 (f k)]) (x := f k) hown4 rfl (fun _ h => h.elim)
          have hown5 := hown4.keep (new_bel u4 (.cells #[.int .i64 (f k)] 3))
          have hB5 := bel_then (bel_then hbel2 hb4) (new_bel u4 (.cells #[.int .i64 (f k)] 3))
          have hs5 : W0.heap.size ≤ (u4.alloc (.cells #[.int .i64 (f k)] 3)).heap.size := hB5.size
          have hk5 : ((List.range k).map f).length + 1 = k + 1 := by rw [HLN.out]
          have hk6 : ((List.range k).map f).length + 1 ≤ 100000 := by rw [HLN.out]; omega
          have hcat := HSN.out.symm
          clear hown2 hown4 HAT HSN
          generalize (List.range k).map f = L at *
          obtain ⟨L2, HL2⟩ : ∃ L2, Hid ((List.range (k + 1)).map f = L2) := ⟨_, rfl⟩
          rw [HL2.out] at hcat
          go_wp2_with (at_builtin; refine wpList_appK (intS .i64) (by simp [Region.wanted]) (.tmp 79) (.tmp 83) 49 rfl W0.heap.size 3 j0 (.int .i64 0) 8 Try.underlying49 hj0 hj1 hj2 hj3 rfl Nat.one_pos (by omega) (by rfl) hown5 (by rfl) hsrc hoff hk6 hs5 (k + 1) hk5 L2 hcat ?_; intro a7 c7 u7 ho7 hg7 hb7 hat7)
          go_roundw
          case rel => exact ⟨k + 1, pl2 + 4, a7, c7, by omega, by go_num, by go_num, rfl, by show pl2 + 4 = _; rw [HP2.out]; omega, by rw [HL2.out]; exact ho7, hB5.trans hb7⟩
          case measure => simp [intOf]; omega
        · have hkn : k = D := by omega
          subst hkn
          have hli2 : ¬ (k : Int) < (k : Int) := by omega
          have kx2 := kx.keep hbel2
          have hownA := hown.keep hbel2
          have hrow := Own.high hown2
          obtain ⟨hsrc, hoff⟩ := Own.esrc (A := inS rowS (u3.heap.size + 1 ≤ ·)) (F := (W0.heap.size ≤ ·)) (cs := [.slice al k cl]) hownA (inS_of hrow fun b (hb : W0.heap.size ≤ b) => show u3.heap.size + 1 ≤ b by omega) (fun b (hb : W0.heap.size ≤ b) h' => by have := (hown.lt b h'.symm).2; omega)
          have hnb := new_bel wr (.cells #[.slice al k cl] 49)
          have hown5 := hownA.keep hnb
          have kx5 := kx2.keep hnb
          have x0 := kx5.cell 0 rfl
          have y0 := kx2.cell 0 rfl
          have hB5 := bel_then hbel2 hnb
          have hB6 : Below u3.heap.size u3 (wr.alloc (.cells #[.slice al k cl] 49)) := hbel.trans (hB5.mono (by omega))
          have hs5 : (u3.heap.size + 1) ≤ (wr.alloc (.cells #[.slice al k cl] 49)).heap.size := by have := hB5.size; omega
          have hk5 : (MI.take i).length + 1 = i + 1 := by rw [HML.out]
          have hk6 : (MI.take i).length + 1 ≤ 100000 := by rw [HML.out]; omega
          have hcat : MI.take i ++ [(List.range k).map f] = MI.take (i + 1) := by rw [← HFE.out]; exact HST.out
          have HP9 : Hid (pl2 = 8 + 4 * ((i + 1) * k)) := by show _ = _; rw [HP2.out, Nat.add_mul, Nat.one_mul]
          have hmx : ∀ a7 c7, Value.ownBlock (.slice a7 (i + 1) c7) = Value.ownBlock (.slice ap i cp) ∨ Value.ownBlock (.slice a7 (i + 1) c7) = some (wr.alloc (.cells #[.slice al k cl] 49)).heap.size → Value.ownBlock (.slice a7 (i + 1) c7) ≠ some u3.heap.size := fun a7 c7 h9 e9 => by
            rcases h9 with h9 | h9
            · have := (hown.lt u3.heap.size (h9.symm.trans e9)).1
              omega
            · have h8 := Option.some.inj (h9.symm.trans e9)
              have := hB5.size
              omega
          have HMX : Hid _ := hmx
          clear hrow hown2 hownA kx2 hmx
          generalize (List.range k).map f = L at *
          generalize MI.take i = MA at *
          obtain ⟨MB, HMB⟩ : ∃ MB, Hid (MI.take (i + 1) = MB) := ⟨_, rfl⟩
          rw [HMB.out] at hcat
          go_wp2_with (at_builtin; refine wpList_appK (inS rowS (u3.heap.size + 1 ≤ ·)) (by simp [Region.wanted]) (.tmp 88) (.tmp 90) 22 rfl (u3.heap.size + 1) 49 i0 (.slice none 0 0) 24 Try.underlying22 hi0 hi1 hi2 hi3 rfl Nat.one_pos (by omega) (by rfl) hown5 (by rfl) hsrc hoff hk6 hs5 (i + 1) hk5 MB hcat ?_; intro a7 c7 u7 ho7 hg7 hb7 hat7; have kx7 := kx5.grown hg7 (fun e9 => absurd ((hown5.lt _ e9.symm).1) (by omega)); have w1 := kx7.cell 0 rfl; have g1 := kx7.free 0)
          go_roundw
          case rel => exact ⟨i + 1, pl2, a7, c7, by omega, by go_num, rfl, HP9.out, (Box.put0 kx7 _), by rw [HMB.out]; exact ho7.aside (grown_set _ _ _ _) (fun b (hb9 : u3.heap.size + 1 ≤ b) => by omega) (HMX.out a7 c7 hat7), bel_put (hB6.trans (hb7.mono (by omega))) (Nat.le_refl _) _⟩
          case measure => simp [intOf]; omega
    · have hin : i = H := by omega
      subst hin
      have hli : ¬ (i : Int) < (i : Int) := by omega
      have HA1 : Hid (MI.take i = MI) := List.take_of_length_le (by rw [HL1.out]; omega)
      rw [HA1.out] at hown
      obtain ⟨N, hN⟩ : ∃ N, N = wr.heap.size := ⟨_, rfl⟩
      have hXN := kx.lt
      have hNN : N ≤ wr.heap.size := Nat.le_of_eq hN
      have hInN : matS.rep wr (fun b => u3.heap.size + 1 ≤ b ∧ b < N) [.slice ap i cp] MI := matS.mono hown.among1 fun b (hb9 : u3.heap.size + 1 ≤ b) hlt9 => ⟨hb9, by omega⟩
      have HP0 : Hid (pl = P0) := by show _ = _; rw [HPL.out]; exact HPZ.out
      have kxN := kx
      have hbelN := hbel
      have hNX : u3.heap.size + 1 ≤ N := by omega
      clear hown kx hbel HPL hN hXN HT1 HL1 HSZ1
      obtain ⟨ai, hai⟩ : ∃ ai, ai = ap := ⟨_, rfl⟩
      obtain ⟨ci, hci⟩ : ∃ ci, ci = cp := ⟨_, rfl⟩
      obtain ⟨H, hHi⟩ : ∃ H, H = i := ⟨_, rfl⟩
      subst hai
      subst hci
      subst hHi
      go_wp2
      go_loopw [9, 13] (fun pv iv wr => ∃ (i pl : Nat) (ap : Option Addr) (cp : Nat), i ≤ D ∧ iv = .int .i64 i ∧ pv = .int .i64 pl ∧ Hid (pl = P0 + 4 * (i * H)) ∧ Box wr u3.heap.size 24 #[.slice ai H ci, .slice ap i cp] ∧ Own (inS rowS (u3.heap.size + 1 ≤ ·)) wr N 49 (.slice ap i cp) (MO.take i) ∧ N ≤ wr.heap.size ∧ matS.rep wr (fun b => u3.heap.size + 1 ≤ b ∧ b < N) [.slice ai H ci] MI ∧ Below u3.heap.size u3 wr) (fun _ iv _ => D - (intOf iv).toNat)
      case atStart => exact ⟨0, pl, none, 0, Nat.zero_le _, rfl, rfl, by show pl = _; rw [HP0.out, Nat.zero_mul, Nat.mul_zero, Nat.add_zero], kxN, Own.nil _ _ _ _, hNN, hInN, hbelN⟩
      case round =>
        obtain ⟨i, pl, ap, cp, hi, rfl, rfl, HPL, kx, hown, hNW, hIn, hbel⟩ := hrel
        by_cases hlt : i < D
        · have hli : (i : Int) < (D : Int) := by omega
          obtain ⟨W0, hW0⟩ : ∃ W0, W0 = wr := ⟨_, rfl⟩
          subst hW0
          have HML : Hid ((MO.take i).length = i) := by show _ = _; rw [List.length_take, HL2.out]; omega
          have HST : Hid _ := HT2.out i hlt
          have HPB : Hid (∀ k, k < H → P0 + 4 * (i * H + k) + 3 < s.size) := fun k hk => by
            have h9 := in_area hlt hk
            have h8 := HSZ2.out
            omega
          obtain ⟨f, Hf⟩ : ∃ f : Nat → Int, Hid (∀ k, f k = Wx.sg (Wx.at4 s.data.toList (P0 + 4 * (i * H + k)))) := ⟨_, fun _ => rfl⟩
          have HFE : Hid (((List.range H).map fun k => Wx.sg (Wx.at4 s.data.toList (P0 + 4 * (i * H + k)))) = (List.range H).map f) := List.map_congr_left fun k _ => (Hf.out k).symm
          have hXlt := kx.lt
          go_wp2
          go_loopw [9, 14, 15] (fun pv lv kv wr => ∃ (k pl2 : Nat) (al : Option Addr) (cl : Nat), k ≤ H ∧ kv = .int .i64 k ∧ pv = .int .i64 pl2 ∧ lv = .slice al k cl ∧ Hid (pl2 = P0 + 4 * (i * H + k)) ∧ Own (intS .i64) wr W0.heap.size 3 (.slice al k cl) ((List.range k).map f) ∧ Below W0.heap.size W0 wr) (fun _ _ kv _ => H - (intOf kv).toNat)
          case atStart => exact ⟨0, pl, none, 0, Nat.zero_le _, rfl, rfl, rfl, by show pl = _; rw [HPL.out, Nat.add_zero], Own.nil _ _ _ _, Below.refl _ _⟩
          case round =>
            obtain ⟨k, pl2, al, cl, hk, rfl, rfl, rfl, HP2, hown2, hbel2⟩ := hrel
            by_cases hlt2 : k < H
            · have hli2 : (k : Int) < (H : Int) := by omega
              have hat : AtIn s pl2 (f k) := ⟨⟨rfl, by rw [HP2.out]; exact HPB.out k hlt2, by unfold maxLen; omega⟩, by rw [HP2.out]; exact Hf.out k⟩
              have hp5 : pl2 ≤ 100000 := by have h9 := HPB.out k hlt2; rw [← HP2.out] at h9; omega
              have HAT : Hid (∀ w, Calls Try.prog 31 #[.string s, .int .i64 (pl2 : Int)] w fun e w' => e = .returned (.int .i64 (f k)) ∧ Below w.heap.size w w') := fun w => atIn s pl2 (f k) hat w
              have HSN : Hid _ := range_snoc f k
              have HLN : Hid (((List.range k).map f).length = k) := by show _ = _; simp
              clear hat
              go_wp2_with fail
              refine (HAT.out _).mono ?_
              rintro e u4 ⟨rfl, hb4⟩
              have hown4 := hown2.keep hb4
              obtain ⟨hsrc, hoff⟩ := Own.esrc (F := fun _ => False) (cs := [.int .i64 (f k)]) (x := f k) hown4 rfl (fun _ h => h.elim)
              have hown5 := hown4.keep (new_bel u4 (.cells #[.int .i64 (f k)] 3))
              have hB5 := bel_then (bel_then hbel2 hb4) (new_bel u4 (.cells #[.int .i64 (f k)] 3))
              have hs5 : W0.heap.size ≤ (u4.alloc (.cells #[.int .i64 (f k)] 3)).heap.size := hB5.size
              have hk5 : ((List.range k).map f).length + 1 = k + 1 := by rw [HLN.out]
              have hk6 : ((List.range k).map f).length + 1 ≤ 100000 := by rw [HLN.out]; omega
              have hcat := HSN.out.symm
              clear hown2 hown4 HAT HSN
              generalize (List.range k).map f = L at *
              obtain ⟨L2, HL2⟩ : ∃ L2, Hid ((List.range (k + 1)).map f = L2) := ⟨_, rfl⟩
              rw [HL2.out] at hcat
              go_wp2_with (at_builtin; refine wpList_appK (intS .i64) (by simp [Region.wanted]) (.tmp 103) (.tmp 107) 49 rfl W0.heap.size 3 j0 (.int .i64 0) 8 Try.underlying49 hj0 hj1 hj2 hj3 rfl Nat.one_pos (by omega) (by rfl) hown5 (by rfl) hsrc hoff hk6 hs5 (k + 1) hk5 L2 hcat ?_; intro a7 c7 u7 ho7 hg7 hb7 hat7)
              go_roundw
              case rel => exact ⟨k + 1, pl2 + 4, a7, c7, by omega, by go_num, by go_num, rfl, by show pl2 + 4 = _; rw [HP2.out]; omega, by rw [HL2.out]; exact ho7, hB5.trans hb7⟩
              case measure => simp [intOf]; omega
            · have hkn : k = H := by omega
              subst hkn
              have hli2 : ¬ (k : Int) < (k : Int) := by omega
              have kx2 := kx.keep hbel2
              have hownA := hown.keep hbel2
              have hrow := Own.high hown2
              obtain ⟨hsrc, hoff⟩ := Own.esrc (A := inS rowS (u3.heap.size + 1 ≤ ·)) (F := (W0.heap.size ≤ ·)) (cs := [.slice al k cl]) hownA (inS_of hrow fun b (hb : W0.heap.size ≤ b) => show u3.heap.size + 1 ≤ b by omega) (fun b (hb : W0.heap.size ≤ b) h' => by have := (hown.lt b h'.symm).2; omega)
              have hnb := new_bel wr (.cells #[.slice al k cl] 49)
              have hown5 := hownA.keep hnb
              have kx5 := kx2.keep hnb
              have x1 := kx5.cell 1 rfl
              have y1 := kx2.cell 1 rfl
              have hB5 := bel_then hbel2 hnb
              have hB6 : Below u3.heap.size u3 (wr.alloc (.cells #[.slice al k cl] 49)) := hbel.trans (hB5.mono (by omega))
              have hs5 : N ≤ (wr.alloc (.cells #[.slice al k cl] 49)).heap.size := by have := hB5.size; omega
              have hk5 : (MO.take i).length + 1 = i + 1 := by rw [HML.out]
              have hk6 : (MO.take i).length + 1 ≤ 100000 := by rw [HML.out]; omega
              have hcat : MO.take i ++ [(List.range k).map f] = MO.take (i + 1) := by rw [← HFE.out]; exact HST.out
              have HP9 : Hid (pl2 = P0 + 4 * ((i + 1) * k)) := by show _ = _; rw [HP2.out, Nat.add_mul, Nat.one_mul]
              have hmx : ∀ a7 c7, Value.ownBlock (.slice a7 (i + 1) c7) = Value.ownBlock (.slice ap i cp) ∨ Value.ownBlock (.slice a7 (i + 1) c7) = some (wr.alloc (.cells #[.slice al k cl] 49)).heap.size → Value.ownBlock (.slice a7 (i + 1) c7) ≠ some u3.heap.size := fun a7 c7 h9 e9 => by
                rcases h9 with h9 | h9
                · have := (hown.lt u3.heap.size (h9.symm.trans e9)).1
                  omega
                · have h8 := Option.some.inj (h9.symm.trans e9)
                  have := hB5.size
                  omega
              have HMX : Hid _ := hmx
              have hIn5 := Shape.below (Shape.below hIn hbel2) hnb
              clear hrow hown2 hownA kx2 hmx hIn
              generalize (List.range k).map f = L at *
              generalize MO.take i = MA at *
              obtain ⟨MB, HMB⟩ : ∃ MB, Hid (MO.take (i + 1) = MB) := ⟨_, rfl⟩
              rw [HMB.out] at hcat
              go_wp2_with (at_builtin; refine wpList_appK (inS rowS (u3.heap.size + 1 ≤ ·)) (by simp [Region.wanted]) (.tmp 112) (.tmp 114) 22 rfl N 49 i0 (.slice none 0 0) 24 Try.underlying22 hi0 hi1 hi2 hi3 rfl Nat.one_pos (by omega) (by rfl) hown5 (by rfl) hsrc hoff hk6 hs5 (i + 1) hk5 MB hcat ?_; intro a7 c7 u7 ho7 hg7 hb7 hat7; have kx7 := kx5.grown hg7 (fun e9 => absurd ((hown5.lt _ e9.symm).1) (by omega)); have w1 := kx7.cell 1 rfl; have g1 := kx7.free 1; have hIn7 := matS.keep hIn5 (fun b hb9 _ => hb7.block b hb9.2))
              go_roundw
              case rel => exact ⟨i + 1, pl2, a7, c7, by omega, by go_num, rfl, HP9.out, (Box.put1 kx7 _), by rw [HMB.out]; exact ho7.aside (grown_set _ _ _ _) (fun b (hb9 : u3.heap.size + 1 ≤ b) => by omega) (HMX.out a7 c7 hat7), Nat.le_trans hs5 (Nat.le_trans hb7.size (bel_put (Below.refl u3.heap.size u7) (Nat.le_refl _) _).size), matS.keep hIn7 (fun b hb9 _ => Below.heap_setCell _ _ _ b (by have := hb9.1; show b ≠ u3.heap.size; omega)), bel_put (hB6.trans (hb7.mono (by omega))) (Nat.le_refl _) _⟩
              case measure => simp [intOf]; omega
        · have hin : i = D := by omega
          subst hin
          have hli : ¬ (i : Int) < (i : Int) := by omega
          have HA2 : Hid (MO.take i = MO) := List.take_of_length_le (by rw [HL2.out]; omega)
          rw [HA2.out] at hown
          have hXE : Exp wr ai H ci ap i cp MI MO := ⟨Shape.any hIn, Shape.any hown.among1⟩
          have kb9 := kb3.below hbel hV3
          have hB9 := hB3.trans (hbel.mono (by omega))
          have x0 := kx.cell 0 rfl
          have x1 := kx.cell 1 rfl
          have hIn2 := hIn
          have hOut2 := hown.among1
          clear hIn hown
          go_wp2_with fail
          refine (rxright ai H ci ap i cp MI MO (i : Int) wr hXE HZ1.out HZ2.out).mono ?_
          rintro e u8 ⟨hs8, hb8⟩
          have kb8 := kb9.keep hb8
          have kx8 := kx.keep hb8
          have hB8 := bel_then hB9 hb8
          have c0 := kb8.cell 0 rfl
          have c1 := kb8.cell 1 rfl
          have f0 := kb8.free 0
          have f1 := kb8.free 1
          have y0 := kx8.cell 0 rfl
          have y1 := kx8.cell 1 rfl
          by_cases hR : Ex.Right MI MO (i : Int)
          · rw [hs8.is hR]
            obtain ⟨rfl, rfl, rfl, rfl⟩ := HYES.out hR
            have hend := bel_all2 hB8 (b := w.heap.size) (Nat.le_refl _) (.slice ai H ci) (.slice ap i cp)
            have HX9 : Hid (Exp ((u8.setCell ⟨w.heap.size, 0, none⟩ (.slice ai H ci)).setCell ⟨w.heap.size, 1, none⟩ (.slice ap i cp)) ai H ci ap i cp MI MO) :=
              ⟨Shape.any (Shape.all2 (Shape.below hIn2 hb8) (fun k (hk : u3.heap.size + 1 ≤ k ∧ k < N) _ => by have := hk.1; omega) _ _), Shape.any (Shape.all2 (Shape.below hOut2 hb8) (fun k (hk : u3.heap.size + 1 ≤ k) _ => by omega) _ _)⟩
            clear hR hs8 x0 x1 hIn2 hOut2 hXE
            go_wp2
            refine ret_three Try.underlying24 Try.infoExpert rfl rfl rfl rfl rfl (kb8.all2 _ _) rfl ?_
            exact ⟨hend, ai, H, ci, ap, i, cp, rfl, HX9.out⟩
          · rw [hs8.not hR]
            obtain ⟨rfl, rfl, rfl, rfl⟩ := HNO.out hR
            have hend := bel_all2 hB8 (b := w.heap.size) (Nat.le_refl _) (.slice none 0 0) (.slice none 0 0)
            clear hR hs8 x0 x1 hIn2 hOut2 hXE y0 y1
            go_wp2
            refine ret_three Try.underlying24 Try.infoExpert rfl rfl rfl rfl rfl (kb8.all2 _ _) rfl ?_
            exact ⟨hend, none, 0, 0, none, 0, 0, rfl, ⟨rep_none _ _ _, rep_none _ _ _⟩⟩

include hs in
/-- What the document's Import answers. -/
theorem krimport (mi mo : List (List Int)) (dim er : Int) (ht : Ck.imp s.data.toList = ((mi, mo, ()), dim, er)) : Calls Try.prog 18 #[.string s] w fun e w' => Below w.heap.size w w' ∧ ∃ ai ni ci ao no co, e = .returned (.tuple #[.agg #[.slice ai ni ci, .slice ao no co], .int .i64 dim, .int .i64 er]) ∧ Exp w' ai ni ci ao no co mi mo := by
  by_cases h1 : Ck.formed s.data.toList
  · by_cases h2 : Ck.summed s.data.toList
    · by_cases h3 : Ck.sized s.data.toList
      · have hz := h3
        obtain ⟨z1, z2, z3, z4, z5⟩ := hz
        rw [list_size] at z5
        have eA : Ck.area s.data.toList = (Ck.hOf s.data.toList).toNat * (Ck.dOf s.data.toList).toNat := rfl
        refine krimport_sized s hs w h1 h2 (Ck.hOf s.data.toList).toNat (Ck.dOf s.data.toList).toNat (8 + 4 * Ck.area s.data.toList) (by omega) (by omega) (by omega) (by omega) z5 (by rw [eA]) (Ck.ins s.data.toList) (Ck.outs s.data.toList) rfl rfl mi mo dim er ?_ ?_
        · intro hR
          rw [show (((Ck.dOf s.data.toList).toNat : Nat) : Int) = Ck.dOf s.data.toList by omega] at hR ⊢
          rw [Ck.imp_ok h1 h2 ⟨h3, hR⟩] at ht
          cases ht
          exact ⟨rfl, rfl, rfl, rfl⟩
        · intro hR
          rw [show (((Ck.dOf s.data.toList).toNat : Nat) : Int) = Ck.dOf s.data.toList by omega] at hR
          rw [Ck.imp_untold h1 h2 fun h9 => hR h9.2] at ht
          cases ht
          exact ⟨rfl, rfl, rfl, rfl⟩
      · rw [Ck.imp_untold h1 h2 fun h9 => h3 h9.1] at ht
        cases ht
        exact (krimport_unsized s hs w h1 h2 h3).mono (by rintro e w' ⟨rfl, hb⟩; exact ⟨hb, none, 0, 0, none, 0, 0, rfl, ⟨rep_none _ _ _, rep_none _ _ _⟩⟩)
    · rw [Ck.imp_unsummed h1 h2] at ht
      cases ht
      exact (krimport_unsummed s hs w h1 h2).mono (by rintro e w' ⟨rfl, hb⟩; exact ⟨hb, none, 0, 0, none, 0, 0, rfl, ⟨rep_none _ _ _, rep_none _ _ _⟩⟩)
  · rw [Ck.imp_unformed h1] at ht
    cases ht
    exact (krimport_unformed s w h1).mono (by rintro e w' ⟨rfl, hb⟩; exact ⟨hb, none, 0, 0, none, 0, 0, rfl, ⟨rep_none _ _ _, rep_none _ _ _⟩⟩)
end

end Go.Proofs.Ytgbcneiciefkkaa
