/- What the document's Export of layer 16 does when called; rows and experts that are the same, or not. -/
import Derived.Test.YtgbcneiciefkkaaChkC
namespace Go.Proofs.Ytgbcneiciefkkaa
open Go.ChangeShapes Go.WideShapes Go.ChangeAt Go.RowKit

/-- A number, and its four bytes. -/
structure FourIn (n : Int) (t : ByteArray) : Prop where
  lo : -2147483648 ≤ n
  hi : n < 4294967296
  eq : t = ⟨(Wx.four (Wx.un n)).toArray⟩
theorem fourIn (n : Int) (t : ByteArray) (h : FourIn n t) (w : World) : Calls Try.prog 24 #[.int .i64 n] w fun e w' => e = .returned (.string t) ∧ Below w.heap.size w w' := by
  rw [h.eq]
  exact krfour n h.lo h.hi w
/-- Rows, and their bytes. -/
structure AllIn (w : World) (a : Option Addr) (n c : Nat) (t : ByteArray) : Prop where
  it : ∃ m, matS.rep w everywhere [.slice a n c] m ∧ n ≤ 8 ∧ (∀ r ∈ m, r.length ≤ 8) ∧ (∀ r ∈ m, ∀ x ∈ r, -2147483648 ≤ x ∧ x ≤ 2147483647) ∧ t = ⟨(Wx.F (m.flatten.map Wx.un)).toArray⟩
theorem allIn (w : World) (a : Option Addr) (n c : Nat) (t : ByteArray) (h : AllIn w a n c t) (x : Later w) : Calls Try.prog 25 #[.slice a n c] x.u fun e w' => e = .returned (.string t) ∧ Below x.u.heap.size x.u w' := by
  obtain ⟨m, h1, h2, h3, h4, rfl⟩ := h.it
  exact krall a n c m x.u (Shape.below h1 x.h) h2 h3 h4

theorem krexport (ai : Option Addr) (ni ci : Nat) (ao : Option Addr) (no co : Nat) (mi mo : List (List Int)) (dim : Int) (w : World) (h : Exp w ai ni ci ao no co mi mo) (hp : Ex.Right mi mo dim) :
    Calls Try.prog 14 #[.agg #[.slice ai ni ci, .slice ao no co], .int .i64 dim] w fun e w' => e = .returned (.string ⟨(Ck.exp mi mo dim).toArray⟩) ∧ Below w.heap.size w w' := by
  have hli := (sliceS_len h.i).1
  have hlo := (sliceS_len h.o).1
  have hB := new_bel w (.cells #[.slice ai ni ci, .slice ao no co] 24)
  have hX := Box.new w 24 #[.slice ai ni ci, .slice ao no co]
  have r8 : ∀ r ∈ mi, r.length ≤ 8 := fun r hr => by have := Ck.right_in hp r hr; have := hp.1; omega
  have s8 : ∀ r ∈ mo, r.length ≤ 8 := fun r hr => by have := Ck.right_out hp r hr; have := hp.2.1; omega
  have rh : ∀ r ∈ mi, ∀ x ∈ r, -2147483648 ≤ x ∧ x ≤ 2147483647 := fun r hr x hx => Ck.right_held hp x (List.mem_append_left _ (List.mem_flatten.2 ⟨r, hr, hx⟩))
  have sh : ∀ r ∈ mo, ∀ x ∈ r, -2147483648 ≤ x ∧ x ≤ 2147483647 := fun r hr x hx => Ck.right_held hp x (List.mem_append_right _ (List.mem_flatten.2 ⟨r, hr, hx⟩))
  have hni : ni ≤ 8 := by have := hp.2.1; omega
  have hno : no ≤ 8 := by have := hp.1; have := Ck.right_outs hp; omega
  have HBody : Hid _ := body_is mi mo dim
  have HExp : Hid _ := exp_is mi mo dim
  rw [hli] at HBody
  have z1 := bsize (Wx.four (Wx.un (ni : Int)))
  have z2 := bsize (Wx.four (Wx.un dim))
  have z3 := bsize (Wx.F (mi.flatten.map Wx.un))
  have z4 := bsize (Wx.F (mo.flatten.map Wx.un))
  have l3 : (Wx.F (mi.flatten.map Wx.un)).length ≤ 256 := by rw [Wx.F_len, List.length_map]; have := flat_le r8; omega
  have l4 : (Wx.F (mo.flatten.map Wx.un)).length ≤ 256 := by rw [Wx.F_len, List.length_map]; have := flat_le s8; omega
  have c1 := bcat (Wx.four (Wx.un (ni : Int))) (Wx.four (Wx.un dim))
  have c2 := bcat (Wx.four (Wx.un (ni : Int)) ++ Wx.four (Wx.un dim)) (Wx.F (mi.flatten.map Wx.un))
  have c3 := bcat (Wx.four (Wx.un (ni : Int)) ++ Wx.four (Wx.un dim) ++ Wx.F (mi.flatten.map Wx.un)) (Wx.F (mo.flatten.map Wx.un))
  have y1 := bsize (Wx.four (Wx.un (ni : Int)) ++ Wx.four (Wx.un dim))
  have y2 := bsize (Wx.four (Wx.un (ni : Int)) ++ Wx.four (Wx.un dim) ++ Wx.F (mi.flatten.map Wx.un))
  have y3 := bsize (Ck.body mi mo dim)
  have l5 : (Ck.body mi mo dim).length ≤ 600 := by rw [HBody.out, List.length_append, List.length_append, List.length_append, Wx.four_len, Wx.four_len]; omega
  rw [← HBody.out] at c3
  rw [List.length_append, Wx.four_len, Wx.four_len] at y1
  rw [List.length_append, List.length_append, Wx.four_len, Wx.four_len] at y2
  rw [Wx.four_len] at z1 z2
  have f1 : FourIn (ni : Int) ⟨(Wx.four (Wx.un (ni : Int))).toArray⟩ := ⟨by omega, by omega, rfl⟩
  have f2 : FourIn dim ⟨(Wx.four (Wx.un dim)).toArray⟩ := ⟨by have := hp.1; omega, by have := hp.1; omega, rfl⟩
  have g1 : AllIn (w.alloc (.cells #[.slice ai ni ci, .slice ao no co] 24)) ai ni ci ⟨(Wx.F (mi.flatten.map Wx.un)).toArray⟩ := ⟨mi, (h.below hB).i, hni, r8, rh, rfl⟩
  have g2 : AllIn (w.alloc (.cells #[.slice ai ni ci, .slice ao no co] 24)) ao no co ⟨(Wx.F (mo.flatten.map Wx.un)).toArray⟩ := ⟨mo, (h.below hB).o, hno, s8, sh, rfl⟩
  have HCS : Hid (∀ w, Calls Try.prog 26 #[.string ⟨(Ck.body mi mo dim).toArray⟩] w fun e w' => e = .returned (.int .i64 (Cx.sum (Ck.body mi mo dim) : Nat)) ∧ w' = w) := fun w => rsum _ (by rw [y3]; unfold maxLen; omega) w
  have hy := Cx.sum_lt (Ck.body mi mo dim)
  have c4 := bcat (Ck.body mi mo dim) (Wx.four (Wx.un (Cx.sum (Ck.body mi mo dim) : Nat)))
  rw [← HExp.out] at c4
  have z5 := bsize (Wx.four (Wx.un (Cx.sum (Ck.body mi mo dim) : Nat)))
  rw [Wx.four_len] at z5
  have f3 : FourIn (Cx.sum (Ck.body mi mo dim) : Nat) ⟨(Wx.four (Wx.un (Cx.sum (Ck.body mi mo dim) : Nat))).toArray⟩ := ⟨by omega, by omega, rfl⟩
  clear HBody HExp h hp r8 s8 rh sh hli hlo
  generalize (⟨(Ck.exp mi mo dim).toArray⟩ : ByteArray) = TE at *
  generalize (⟨(Wx.four (Wx.un (Cx.sum (Ck.body mi mo dim) : Nat))).toArray⟩ : ByteArray) = T5 at *
  generalize (Cx.sum (Ck.body mi mo dim) : Nat) = y at *
  generalize (Ck.body mi mo dim).length = lb at *
  generalize (⟨(Ck.body mi mo dim).toArray⟩ : ByteArray) = TB at *
  generalize (Wx.F (mi.flatten.map Wx.un)).length = q3 at *
  generalize (Wx.F (mo.flatten.map Wx.un)).length = q4 at *
  generalize (⟨(Wx.four (Wx.un (ni : Int)) ++ Wx.four (Wx.un dim) ++ Wx.F (mi.flatten.map Wx.un)).toArray⟩ : ByteArray) = T7 at *
  generalize (⟨(Wx.four (Wx.un (ni : Int)) ++ Wx.four (Wx.un dim)).toArray⟩ : ByteArray) = T6 at *
  generalize (⟨(Wx.four (Wx.un (ni : Int))).toArray⟩ : ByteArray) = T1 at *
  generalize (⟨(Wx.four (Wx.un dim)).toArray⟩ : ByteArray) = T2 at *
  generalize (⟨(Wx.F (mi.flatten.map Wx.un)).toArray⟩ : ByteArray) = T3 at *
  generalize (⟨(Wx.F (mo.flatten.map Wx.un)).toArray⟩ : ByteArray) = T4 at *
  have k1 : ¬ (9223372036854775807 < T1.size + T2.size) := by omega
  have k2 : ¬ (9223372036854775807 < T6.size + T3.size) := by omega
  have k3 : ¬ (9223372036854775807 < T7.size + T4.size) := by omega
  have k4 : ¬ (9223372036854775807 < TB.size + T5.size) := by omega
  clear z1 z2 z3 z4 z5 y1 y2 y3 l3 l4 l5
  have HF : Hid (∀ (n : Int) (t : ByteArray) (_ : FourIn n t) (w : World), Calls Try.prog 24 #[.int .i64 n] w fun e w' => e = .returned (.string t) ∧ Below w.heap.size w w') := fourIn
  have HA : Hid (∀ (w : World) (a : Option Addr) (n c : Nat) (t : ByteArray) (_ : AllIn w a n c t) (x : Later w), Calls Try.prog 25 #[.slice a n c] x.u fun e w' => e = .returned (.string t) ∧ Below x.u.heap.size x.u w') := allIn
  have d0 : ∀ x9 : Later (w.alloc (.cells #[.slice ai ni ci, .slice ao no co] 24)), x9.u.cell? ⟨w.heap.size, 0, none⟩ = some (.slice ai ni ci) := fun x9 => x9.cell (hX.cell 0 rfl)
  have d1 : ∀ x9 : Later (w.alloc (.cells #[.slice ai ni ci, .slice ao no co] 24)), x9.u.cell? ⟨w.heap.size, 1, none⟩ = some (.slice ao no co) := fun x9 => x9.cell (hX.cell 1 rfl)
  have hne9 : Nonempty (Later (w.alloc (.cells #[.slice ai ni ci, .slice ao no co] 24))) := Later.there _
  clear hX
  go_enter Try.func14, Try.ntmps14
  go_wp2
  refine region_later (by kernel_rfl) (by kernel_rfl) ?_
  repeat (go_big_quiet_step (first
    | (go_at_call 24; exact Later.call (HF.out _ _ (by assumption) _))
    | (go_at_call 25; exact Later.call (HA.out _ _ _ _ _ (by assumption) _))))
  refine wpQuiet_nil ?_
  intro x9
  obtain ⟨W9, hb9⟩ := x9
  have hB9 := bel_then hB hb9
  clear d0 d1 hne9 g1 g2
  go_wp2_with (go_at_call 26; refine by_same (HCS.out _) ?_)
  refine (HF.out _ _ f3 _).mono ?_
  rintro e u3 ⟨rfl, hb3⟩
  have hB3 := bel_then hB9 hb3
  go_wp2
  go_ret
  exact ⟨rfl, hB3⟩

/-! ### The same? -/
theorem getD_ext {l k : List Int} (hn : l.length = k.length) (h : ∀ i, i < l.length → l.getD i 0 = k.getD i 0) : l = k := by
  apply List.ext_getElem hn
  intro i h1 h2
  have := h i h1
  rwa [List.getD_eq_getElem?_getD, List.getD_eq_getElem?_getD, List.getElem?_eq_getElem h1, List.getElem?_eq_getElem h2] at this
theorem vsays (a b : Option Addr) (n m ca cb : Nat) (l k : List Int) (w : World) (ha : Row .i64 w a n l) (hb : Row .i64 w b m k) (hn : n ≤ 100000) (hm : m ≤ 100000) :
    Calls Try.prog 40 #[.slice a n ca, .slice b m cb] w fun e w' => Says e (l = k) ∧ Below w.heap.size w w' := by
  have HL : Hid (l.length = n) := ha.len
  have HK : Hid (k.length = m) := hb.len
  by_cases h0 : n = m
  · subst h0
    have e0 : ((n : Int) != (n : Int)) = false := by simp
    go_enter Try.func40, Try.ntmps40
    go_wp2
    go_loopw [5] (fun i wr => ∃ j : Nat, j ≤ n ∧ i = .int .i64 j ∧ Hid (∀ q, q < j → l.getD q 0 = k.getD q 0) ∧ Below w.heap.size w wr) (fun i _ => n - (intOf i).toNat)
    case atStart => exact ⟨0, Nat.zero_le _, rfl, fun q hq => absurd hq (Nat.not_lt_zero _), Below.refl _ _⟩
    case round =>
      obtain ⟨j, hj, rfl, HQ, hbel⟩ := hrel
      by_cases hlt : j < n
      · obtain ⟨b1, o1, rfl, hb1, hc1⟩ := ha.at hlt
        obtain ⟨b2, o2, rfl, hb2, hc2⟩ := hb.at hlt
        have hd1 : wr.cell? ⟨b1, o1 + j, none⟩ = some (.int .i64 (l.getD j 0)) := (hbel.cell (by exact hb1)).trans hc1
        have hd2 : wr.cell? ⟨b2, o2 + j, none⟩ = some (.int .i64 (k.getD j 0)) := (hbel.cell (by exact hb2)).trans hc2
        have hli : (j : Int) < (n : Int) := by omega
        have HN : Hid (l.getD j 0 = k.getD j 0 → ∀ q, q < j + 1 → l.getD q 0 = k.getD q 0) := fun h q hq => by
          rcases Nat.lt_succ_iff_lt_or_eq.1 hq with h1 | rfl
          · exact HQ.out q h1
          · exact h
        have HD : Hid (l.getD j 0 ≠ k.getD j 0 → l ≠ k) := fun h e => h (by rw [e])
        clear hc1 hc2
        generalize l.getD j 0 = x at *
        generalize k.getD j 0 = y at *
        by_cases hxy : x = y
        · have hne : (x != y) = false := by simp [hxy]
          have HXY : Hid (x = y) := hxy
          clear hxy
          go_wp2
          go_quiet (fail)
          go_wp2
          go_roundw
          case rel => exact ⟨j + 1, by omega, by go_num, HN.out HXY.out, bel_drewN hbel _⟩
          case measure => simp [intOf]; omega
        · have hne : (x != y) = true := by simp [hxy]
          have HXY : Hid (x ≠ y) := hxy
          clear hxy
          go_wp2
          go_quiet (fail)
          go_wp2
          go_ret
          exact ⟨Says.no (HD.out HXY.out), bel_drewN hbel _⟩
      · have hli : ¬ (j : Int) < (n : Int) := by omega
        go_wp2
        go_ret
        exact ⟨Says.yes (getD_ext (by rw [HL.out, HK.out]) fun i hi => HQ.out i (by have := HL.out; omega)), hbel⟩
  · have e0 : ((n : Int) != (m : Int)) = true := by simp; omega
    go_enter Try.func40, Try.ntmps40
    go_wp2
    go_ret
    exact ⟨Says.no fun h => h0 (by rw [← HL.out, ← HK.out, h]), Below.refl _ _⟩

theorem rows_ext {l k : List (List Int)} (hn : l.length = k.length) (h : ∀ i, i < l.length → l.getD i [] = k.getD i []) : l = k := by
  apply List.ext_getElem hn
  intro i h1 h2
  have := h i h1
  rwa [List.getD_eq_getElem?_getD, List.getD_eq_getElem?_getD, List.getElem?_eq_getElem h1, List.getElem?_eq_getElem h2] at this
theorem msays (a b : Option Addr) (n m ca cb : Nat) (l k : List (List Int)) (w : World) (ha : matS.rep w everywhere [.slice a n ca] l) (hb : matS.rep w everywhere [.slice b m cb] k) (hz : Ex.Sized l) (hy : Ex.Sized k) :
    Calls Try.prog 30 #[.slice a n ca, .slice b m cb] w fun e w' => Says e (l = k) ∧ Below w.heap.size w w' := by
  have hl := (sliceS_len ha).1
  have hk := (sliceS_len hb).1
  have hn : n ≤ 100000 := by have := hz.1; omega
  have HL : Hid (l.length = n) := hl
  have HK : Hid (k.length = m) := hk
  have HA : Hid (matS.rep w everywhere [.slice a n ca] l) := ha
  have HB : Hid (matS.rep w everywhere [.slice b m cb] k) := hb
  have HZ : Hid (Ex.Sized l) := hz
  have HY : Hid (Ex.Sized k) := hy
  clear ha hb hz hy hl hk
  by_cases h0 : n = m
  · subst h0
    have e0 : ((n : Int) != (n : Int)) = false := by simp
    go_enter Try.func30, Try.ntmps30
    go_wp2
    go_loopw [5] (fun i wr => ∃ j : Nat, j ≤ n ∧ i = .int .i64 j ∧ Hid (∀ q, q < j → l.getD q [] = k.getD q []) ∧ Below w.heap.size w wr) (fun i _ => n - (intOf i).toNat)
    case atStart => exact ⟨0, Nat.zero_le _, rfl, fun q hq => absurd hq (Nat.not_lt_zero _), Below.refl _ _⟩
    case round =>
      obtain ⟨j, hj, rfl, HQ, hbel⟩ := hrel
      by_cases hlt : j < n
      · obtain ⟨b1, o1, A1, C1, rfl, _, c1, r1⟩ := mat_at (Shape.below HA.out hbel) hlt
        obtain ⟨b2, o2, A2, C2, rfl, _, c2, r2⟩ := mat_at (Shape.below HB.out hbel) hlt
        have hli : (j : Int) < (n : Int) := by omega
        have hk0 : (0 : Int) ≤ (j : Int) := by omega
        have hsz := HZ.out.2 _ (Mx.getD_mem l j (by have := HL.out; omega))
        have hsy := HY.out.2 _ (Mx.getD_mem k j (by have := HK.out; omega))
        have R1 := Row.of_rep r1
        have R2 := Row.of_rep r2
        have HN : Hid (l.getD j [] = k.getD j [] → ∀ q, q < j + 1 → l.getD q [] = k.getD q []) := fun h q hq => by
          rcases Nat.lt_succ_iff_lt_or_eq.1 hq with h1 | rfl
          · exact HQ.out q h1
          · exact h
        have HD : Hid (l.getD j [] ≠ k.getD j [] → l ≠ k) := fun h e => h (by rw [e])
        generalize l.getD j [] = x at *
        generalize k.getD j [] = y at *
        have d1 : ∀ x9 : Later wr, x9.u.cell? ⟨b1, o1 + j, none⟩ = some (.slice A1 x.length C1) := fun x9 => x9.cell c1
        have d2 : ∀ x9 : Later wr, x9.u.cell? ⟨b2, o2 + j, none⟩ = some (.slice A2 y.length C2) := fun x9 => x9.cell c2
        have HC : Hid (∀ x9 : Later wr, Calls Try.prog 40 #[.slice A1 x.length C1, .slice A2 y.length C2] x9.u fun e w' => e = .returned (.bool (tell (x = y))) ∧ Below x9.u.heap.size x9.u w') := fun x9 =>
          (vsays A1 A2 x.length y.length C1 C2 x y x9.u (R1.keep x9.h) (R2.keep x9.h) hsz hsy).mono fun _ _ ⟨hs, hb'⟩ => ⟨hs.form, hb'⟩
        have hne9 : Nonempty (Later wr) := Later.there wr
        clear c1 c2 r1 r2 R1 R2
        generalize x.length = nx at *
        generalize y.length = ny at *
        by_cases hxy : x = y
        · rw [tell_yes hxy] at HC
          have HXY : Hid (x = y) := hxy
          clear hxy
          go_wp2
          refine region_later (by kernel_rfl) (by kernel_rfl) ?_
          repeat (go_big_quiet_step ((go_at_call 40; exact Later.call (HC.out _))))
          refine wpQuiet_nil ?_
          intro x9
          obtain ⟨W9, hb9⟩ := x9
          have hB9 := bel_then hbel hb9
          clear d1 d2 HC hne9
          go_wp2
          go_roundw
          case rel => exact ⟨j + 1, by omega, by go_num, HN.out HXY.out, hB9⟩
          case measure => simp [intOf]; omega
        · rw [tell_no hxy] at HC
          have HXY : Hid (x ≠ y) := hxy
          clear hxy
          go_wp2
          refine region_later (by kernel_rfl) (by kernel_rfl) ?_
          repeat (go_big_quiet_step ((go_at_call 40; exact Later.call (HC.out _))))
          refine wpQuiet_nil ?_
          intro x9
          obtain ⟨W9, hb9⟩ := x9
          have hB9 := bel_then hbel hb9
          clear d1 d2 HC hne9
          go_wp2
          go_ret
          exact ⟨Says.no (HD.out HXY.out), hB9⟩
      · have hli : ¬ (j : Int) < (n : Int) := by omega
        go_wp2
        go_ret
        exact ⟨Says.yes (rows_ext (by rw [HL.out, HK.out]) fun i hi => HQ.out i (by have := HL.out; omega)), hbel⟩
  · have e0 : ((n : Int) != (m : Int)) = true := by simp; omega
    go_enter Try.func30, Try.ntmps30
    go_wp2
    go_ret
    exact ⟨Says.no fun h => h0 (by rw [← HL.out, ← HK.out, h]), Below.refl _ _⟩

/-- Two experts: are they the same? -/
theorem ksame (ai : Option Addr) (ni ci : Nat) (ao : Option Addr) (no co : Nat) (mi mo : List (List Int)) (bi : Option Addr) (pi di : Nat) (bo : Option Addr) (po d_o : Nat) (ki ko : List (List Int)) (w : World) (h : Exp w ai ni ci ao no co mi mo) (h2 : Exp w bi pi di bo po d_o ki ko)
    (z1 : Ex.Sized mi) (z2 : Ex.Sized mo) (z3 : Ex.Sized ki) (z4 : Ex.Sized ko) (b : Bool) (hbb : b = true ↔ mi = ki ∧ mo = ko) :
    Calls Try.prog 17 #[.agg #[.slice ai ni ci, .slice ao no co], .agg #[.slice bi pi di, .slice bo po d_o]] w fun e w' => e = .returned (.bool b) ∧ Below w.heap.size w w' := by
  have hB : Below w.heap.size w ((w.alloc (.cells #[.slice ai ni ci, .slice ao no co] 24)).alloc (.cells #[.slice bi pi di, .slice bo po d_o] 24)) := bel_alloc (new_bel w _) _
  have hX := (Box.new w 24 #[.slice ai ni ci, .slice ao no co]).keep (new_bel _ (.cells #[.slice bi pi di, .slice bo po d_o] 24))
  have hY := Box.new (w.alloc (.cells #[.slice ai ni ci, .slice ao no co] 24)) 24 #[.slice bi pi di, .slice bo po d_o]
  have k1 := h.below hB
  have k2 := h2.below hB
  have eW : ((w.alloc (.cells #[.slice ai ni ci, .slice ao no co] 24))).heap.size = w.heap.size + 1 := by simp
  rw [eW] at hY
  have HC1 : Hid (Calls _ _ _ _ _) := msays ai bi ni pi ci di mi ki _ k1.i k2.i z1 z3
  have HC2 : Hid (∀ u, Below ((w.alloc (.cells #[.slice ai ni ci, .slice ao no co] 24)).alloc (.cells #[.slice bi pi di, .slice bo po d_o] 24)).heap.size ((w.alloc (.cells #[.slice ai ni ci, .slice ao no co] 24)).alloc (.cells #[.slice bi pi di, .slice bo po d_o] 24)) u → Calls Try.prog 30 #[.slice ao no co, .slice bo po d_o] u fun e w' => Says e (mo = ko) ∧ Below u.heap.size u w') := fun u hu =>
    msays ao bo no po co d_o mo ko u (k1.below hu).o (k2.below hu).o z2 z4
  have HBB : Hid (b = true ↔ mi = ki ∧ mo = ko) := hbb
  have c0 := hX.cell 0 rfl
  have e0 := hY.cell 0 rfl
  clear h h2 k1 k2 z1 z2 z3 z4 hbb eW
  go_enter Try.func17, Try.ntmps17
  go_wp2_with fail
  refine HC1.out.mono ?_
  rintro e u ⟨hs, hb⟩
  have hB2 := bel_then hB hb
  have c1 := (hX.keep hb).cell 1 rfl
  have e1 := (hY.keep hb).cell 1 rfl
  have HC := HC2.out u hb
  have HC3 : Hid (Calls _ _ _ _ _) := HC
  clear HC HC1 HC2 c0 e0 hX hY
  by_cases hp : mi = ki
  · rw [hs.is hp]
    have HP : Hid (mi = ki) := hp
    clear hp hs
    go_wp2_with fail
    refine HC3.out.mono ?_
    rintro e u2 ⟨hs2, hb2⟩
    have hB3 := bel_then hB2 hb2
    have ht : tell (mo = ko) = b := by
      cases hq : b with
      | true => exact tell_yes (HBB.out.1 hq).2
      | false => exact tell_no fun h => by have := HBB.out.2 ⟨HP.out, h⟩; rw [hq] at this; cases this
    rw [hs2.form, ht]
    go_wp2
    go_ret
    cases b <;> exact ⟨rfl, hB3⟩
  · rw [hs.not hp]
    have hb0 : b = false := by
      cases hq : b with
      | true => exact absurd (HBB.out.1 hq).1 hp
      | false => rfl
    subst hb0
    clear hp hs HBB
    go_wp2
    go_ret
    exact ⟨rfl, hB2⟩

end Go.Proofs.Ytgbcneiciefkkaa
