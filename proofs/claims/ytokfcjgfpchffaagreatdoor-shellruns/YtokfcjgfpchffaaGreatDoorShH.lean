/- ShellRuns, with letters. -/
import Derived.Test.YtokfcjgfpchffaaGreatDoorShG
namespace Go.Proofs.YtokfcjgfpchffaaGreatDoor
open Go.ChangeShapes Go.WideShapes Go.ChangeAt Go.RowKit


theorem Sh.pieces_le (c : UInt8) : ∀ (l : List UInt8), ∀ p ∈ Sh.pieces c l, p.length ≤ l.length := by
  intro l
  induction l with
  | nil => intro p hp; simp [Sh.pieces] at hp; rw [hp]; exact Nat.le_refl _
  | cons x l ih =>
    intro p hp
    unfold Sh.pieces at hp
    split at hp
    · rcases List.mem_cons.1 hp with h | h
      · rw [h]; exact Nat.zero_le _
      · have := ih p h; simp; omega
    · split at hp
      · have h := List.mem_singleton.1 hp
        rw [h]; simp
      · rename_i q qs hq
        rcases List.mem_cons.1 hp with h | h
        · have := ih q (by rw [hq]; exact List.mem_cons_self)
          rw [h]; simp; exact this
        · have := ih p (by rw [hq]; exact List.mem_cons_of_mem _ h)
          simp; omega
theorem tell_short {s : Ft.St} (hA : Alive 1 Sc.msS Sc.tS s) (l : List UInt8) : (Sc.tell s l).2.length ≤ 49 := by
  rw [Sc.tell_play]
  have h := play_fine hA (Sc.words l)
  exact text_fine h.1 h.2.1 h.2.2
theorem run_at (s : Ft.St) (L : List (List UInt8)) {j : Nat} (h : j < L.length) : Sc.run s (L.drop j) = (Sc.tell s (L.getD j [])).2 ++ 10 :: Sc.run (Sc.tell s (L.getD j [])).1 (L.drop (j + 1)) := by
  rw [List.drop_eq_getElem_cons h, List.getD_eq_getElem?_getD, List.getElem?_eq_getElem h]
  rfl
theorem texts_at (L : List (List UInt8)) {j : Nat} (h : j < L.length) : (Sh.texts L).getD j noText = ⟨(L.getD j []).toArray⟩ := by
  unfold Sh.texts
  rw [List.getD_eq_getElem?_getD, List.getElem?_map, List.getElem?_eq_getElem h, List.getD_eq_getElem?_getD, List.getElem?_eq_getElem h]
  rfl
set_option maxRecDepth 100000 in
set_option maxHeartbeats 8000000 in
theorem lruns (a : ByteArray) (w : World) (hE : Env w) : Calls Tryz.prog 3 #[.string a] w fun e w' => e = .returned (.bool true) ∧ Below w.heap.size w w' := by
  have HAW : Hid (∀ u, Below w.heap.size w u → Calls Tryz.prog 10 #[] u _) := fun u hu => lawake u (hE.keep hu)
  have HE := hid hE
  clear hE
  by_cases hs : SmallT a
  · have HSM : Hid (Calls _ _ _ _ _) := lsmall_yes a hs w
    have HA2 : Hid (a.size ≤ 2000) := hs.1
    clear hs
    by_cases h0 : a.size = 0
    · have q0 : (a.toList == ([] : List UInt8)) = true := str_none h0
      have HRN : Hid (∀ u, Below w.heap.size w u → Calls _ _ _ u _) := fun u hu => prun a (by omega) u (HE.out.keep hu)
      have hn : a.data.toList = [] := List.eq_nil_of_length_eq_zero (by rw [list_size]; exact h0)
      have hrep : Sc.report a.data.toList = [] := by rw [hn]; rfl
      rw [hrep] at HRN
      obtain ⟨Z, hZ⟩ : ∃ Z : ByteArray, (⟨([] : List UInt8).toArray⟩ : ByteArray) = Z := ⟨_, rfl⟩
      rw [hZ] at HRN
      have qz : (Z.toList == ([] : List UInt8)) = true := by rw [← hZ, ByteArray.toList_eq]; rfl
      clear hn hrep hZ h0
      go_enter Tryz.func3, Tryz.ntmps3
      go_wp2_with fail
      refine HSM.out.mono ?_
      rintro e u1 ⟨rfl, hb1⟩
      have HB1 := hid hb1
      clear hb1
      go_wp2_with fail
      refine (HRN.out u1 HB1.out).mono ?_
      rintro e u2 ⟨rfl, hb2⟩
      have HB2 := hid (bel_then HB1.out hb2)
      clear hb2
      go_wp2_with fail
      refine (HAW.out u2 HB2.out).mono ?_
      rintro e uz ⟨rfl, hbz⟩
      go_wp2
      go_ret
      exact ⟨rfl, bel_then (HB2.out) hbz⟩
    · have q0 : (a.toList == ([] : List UInt8)) = false := str_some h0
      obtain ⟨t, ht⟩ : ∃ t, a.data.toList = t := ⟨_, rfl⟩
      have HAT := hid ht
      have htn : t ≠ [] := fun h => h0 (by rw [← list_size, ht, h]; rfl)
      obtain ⟨k, hk⟩ : ∃ k, (Sh.pieces 10 t).length = k + 1 := ⟨(Sh.pieces 10 t).length - 1, by have := List.length_pos_iff.2 (Sh.pieces_ne 10 t); omega⟩
      have hk9 : k ≤ 2000 := by
        have h1 := Sh.pieces_len 10 t
        have h2 : t.length = a.size := by rw [← ht]; exact list_size a
        have h3 := HA2.out
        omega
      have HSP : Hid (∀ u, Calls Tryz.prog 11 #[.string a, .int .u8 10] u _) := fun u => rsplit a 10 (by have h9 := HA2.out; omega) (k + 1) (by rw [ht]; exact hk) u
      rw [ht] at HSP
      have HPL := hid (And.intro hk htn)
      have HPS : Hid (∀ p ∈ Sh.pieces 10 t, p.length ≤ 2000) := fun p hp => by
        have h1 := Sh.pieces_le 10 t p hp
        have h2 : t.length = a.size := by rw [← ht]; exact list_size a
        have h3 := HA2.out
        show _ ≤ _
        omega
      have HK9 : Hid (k + 1 ≤ 3000) := by show _ ≤ _; omega
      clear ht htn hk h0
      go_enter Tryz.func3, Tryz.ntmps3
      go_wp2_with fail
      refine HSM.out.mono ?_
      rintro e u0 ⟨rfl, hb0⟩
      have HB0 := hid hb0
      clear hb0
      go_wp2_with fail
      refine (HSP.out u0).mono ?_
      rintro e u1 ⟨hb1, a1, c1, rfl, ho1⟩
      have HB1 := hid (bel_then HB0.out hb1)
      have hr1 := Shape.any ho1.texts_high
      have HR1 := hid hr1
      obtain ⟨b1, o1, rfl, hbb, hc1⟩ := (Texts.of_rep hr1).at (j := k) (by omega)
      rw [texts_at _ (by rw [HPL.out.1]; omega)] at hc1
      obtain ⟨x, hx⟩ : ∃ x : ByteArray, (⟨((Sh.pieces 10 t).getD k []).toArray⟩ : ByteArray) = x := ⟨_, rfl⟩
      have hxd : x.data.toList = (Sh.pieces 10 t).getD k [] := by rw [← hx]
      rw [hx] at hc1
      have hlast : (Sh.pieces 10 t).getLast? = some ((Sh.pieces 10 t).getD k []) := by
        rw [List.getLast?_eq_getElem?, List.getD_eq_getElem?_getD, HPL.out.1]
        show (Sh.pieces 10 t)[k]? = _
        rw [List.getElem?_eq_getElem (by rw [HPL.out.1]; omega)]
        rfl
      have hz0 : (0 : Int) ≤ (k : Int) := by omega
      have hkk : (k : Int) < (((k + 1 : Nat)) : Int) := by omega
      clear hb1 ho1 hr1 HSM HSP hx
      by_cases hxe : (Sh.pieces 10 t).getD k [] = []
      · have qx : (x.toList == ([] : List UInt8)) = true := word_yes (hxd.trans hxe)
        have hL : Sc.lines t = (Sh.pieces 10 t).dropLast := by
          unfold Sc.lines
          rw [if_neg HPL.out.2, if_pos (by rw [hlast, hxe])]
        obtain ⟨L, hLL⟩ : ∃ L, L = Sc.lines t := ⟨_, rfl⟩
        have HLL : Hid (L.length = k ∧ [] ++ Sc.run Sc.begun (L.drop 0) = Sc.report t) := ⟨by rw [hLL, hL, List.length_dropLast, HPL.out.1]; omega, by rw [hLL]; rfl⟩
        have hrt := rep_take HR1.out (k := k) (by omega)
        have htk : (Sh.texts (Sh.pieces 10 t)).take k = Sh.texts L := by
          rw [hLL, hL, List.dropLast_eq_take, HPL.out.1]
          unfold Sh.texts
          rw [List.map_take]
          rfl
        rw [htk] at hrt
        have HTX := hid (Texts.of_rep hrt)
        have HLS : Hid (∀ p ∈ L, p.length ≤ 2000) := fun p hp => HPS.out p (by rw [hLL, hL] at hp; exact List.dropLast_subset _ hp)
        obtain ⟨i0, hi, hz, hz1, hz2⟩ := info_parts Tryz.infoText
        have hu := Tryz.underlying24
        have hcut : ∀ u : World, (Instr.slice 24 (.slice (some ⟨b1, o1, none⟩) (k + 1) c1) none (some (.int .i64 (k : Int))) none).run Tryz.prog u = .ok (.slice (some ⟨b1, o1, none⟩) k c1) u := fun u => by
          have hc2 := (sliceS_len HR1.out).2
          rw [run_slice_h u 24 _ (k + 1) c1 hu .i64 k (by omega) (by omega)]
          simp [sizeOf, typeInfo, go_sem, hi, hz1]
        clear hL hlast hxe hxd hrt htk hLL hi hz hz1 hz2
        have HFR : Hid (Calls _ _ _ _ _) := sfresh u1
        go_wp2_with fail
        refine HFR.out.mono ?_
        rintro e u2 ⟨hb2, p, V2, rfl, hV2, hat2⟩
        have HB2 := hid hb2
        have HV2 := hid hV2
        have HAT2 := hid hat2
        clear hb2 hV2 hat2 HFR
        go_wp2
        go_loopw [3, 33] (fun v i wr => ∃ (j : Nat) (T : List UInt8) (s : Ft.St) (V : Nat → Prop), j ≤ k ∧ v = .string ⟨T.toArray⟩ ∧ i = .int .i64 j ∧ Hid (T ++ Sc.run s (L.drop j) = Sc.report t ∧ Alive 1 Sc.msS Sc.tS s ∧ T.length ≤ 50 * j ∧ Mv V2 V u2 wr ∧ FlAt (fun _ => False) V wr p 1 Sc.msS s (Ft.qs Sc.msS s))) (fun _ i _ => k - (intOf i).toNat)
        case atStart => exact ⟨0, [], Sc.begun, V2, by omega, rfl, rfl, HLL.out.2, Sc.begun_alive, by simp, Mv.refl _ _, HAT2.out⟩
        case round =>
          clear HAT2
          obtain ⟨j, T, s, V, hj, rfl, rfl, HI⟩ := hrel
          have HBU := hid (HI.out.2.2.2.1.below HV2.out HB2.out.size HB2.out)
          have HBW := hid (bel_then HB1.out HBU.out)
          by_cases hlt : j < k
          · have hjl : j < L.length := by rw [HLL.out.1]; exact hlt
            obtain ⟨b9, o9, hbe, hb9, hc9⟩ := (HTX.out.keep HBU.out).at hlt
            simp only [Option.some.injEq, Addr.mk.injEq] at hbe
            obtain ⟨rfl, rfl, _⟩ := hbe
            rw [texts_at L hjl] at hc9
            have hli : (j : Int) < ((k : Nat) : Int) := by omega
            have hz0 : (0 : Int) ≤ (j : Int) := by omega
            have hrun := run_at s L hjl
            have hsz : (L.getD j []).length ≤ 2000 := HLS.out _ (by rw [List.getD_eq_getElem?_getD, List.getElem?_eq_getElem hjl]; exact List.getElem_mem hjl)
            obtain ⟨x, hx⟩ : ∃ x, L.getD j [] = x := ⟨_, rfl⟩
            rw [hx] at hc9 hrun hsz
            have hsh := tell_short HI.out.2.1 x
            have hal := Sc.tell_alive HI.out.2.1 x
            have HTL : Hid (Calls _ _ _ _ _) := ltell HI.out.2.2.2.2 HI.out.2.1 ⟨x.toArray⟩ (by rw [bsize]; omega)
            rw [show (⟨x.toArray⟩ : ByteArray).data.toList = x from rfl] at HTL
            obtain ⟨pl, hpl⟩ : ∃ pl, Sc.tell s x = pl := ⟨_, rfl⟩
            rw [hpl] at hrun hsh hal HTL
            obtain ⟨s2, y⟩ := pl
            have HF := hid (And.intro hrun (And.intro hsh hal))
            have hTl : T.length ≤ 50 * 3000 := by have h9 := HI.out.2.2.1; have h8 := HK9.out; omega
            obtain ⟨Y, hY⟩ : ∃ Y : ByteArray, (⟨y.toArray⟩ : ByteArray) = Y := ⟨_, rfl⟩
            obtain ⟨X, hX⟩ : ∃ X : ByteArray, (⟨T.toArray⟩ : ByteArray) = X := ⟨_, rfl⟩
            obtain ⟨Y2, hY2⟩ : ∃ Y2 : ByteArray, Y ++ (⟨#[10]⟩ : ByteArray) = Y2 := ⟨_, rfl⟩
            obtain ⟨R, hR⟩ : ∃ R : ByteArray, X ++ Y2 = R := ⟨_, rfl⟩
            have e1 : Y2 = ⟨(y ++ [10]).toArray⟩ := by rw [← hY2, ← hY]; exact bcat y [10]
            have HR : Hid (R = ⟨(T ++ (y ++ [10])).toArray⟩) := by show _ = _; rw [← hR, ← hX, e1]; exact bcat _ _
            have z1 : Y.size ≤ 49 := by rw [← hY, bsize]; exact hsh
            have z2 : Y2.size ≤ 50 := by rw [e1, bsize, List.length_append]; show y.length + 1 ≤ _; have h9 : y.length ≤ 49 := hsh; omega
            have z3 : X.size ≤ 150000 := by rw [← hX, bsize]; exact hTl
            have s1 : ¬ (9223372036854775807 < Y.size + 1) := by omega
            have s2' : ¬ (9223372036854775807 < X.size + Y2.size) := by omega
            rw [show ((s2, y) : Ft.St × List UInt8).2 = y from rfl, hY] at HTL
            rw [hX]
            clear hY hX e1 z1 z2 z3 hrun hsh hal hpl hsz hx hTl
            go_wp2_with fail
            refine HTL.out.mono ?_
            rintro e u5 ⟨rfl, hm5⟩
            have HM5 := hid hm5
            clear hm5 HTL
            go_wp2
            go_roundw
            case rel =>
              obtain ⟨V5, hv5, hat5⟩ := HM5.out
              refine ⟨j + 1, T ++ (y ++ [10]), s2, V5, by omega, by rw [HR.out], by go_num, ?_, HF.out.2.2, ?_, HI.out.2.2.2.1.trans hv5, hat5⟩
              · rw [← HI.out.1, HF.out.1]
                simp
              · have h1 := HI.out.2.2.1
                have h2 : y.length ≤ 49 := HF.out.2.1
                simp only [List.length_append, List.length_cons, List.length_nil]
                omega
            case measure => first | (simp [intOf]; done) | (simp [intOf]; omega)
          · have hjn : k = j := by omega
            subst hjn
            have hli : ¬ ((k : Nat) : Int) < ((k : Nat) : Int) := by omega
            have hT : T = Sc.report t := by
              have h9 := HI.out.1
              rw [List.drop_of_length_le (by rw [HLL.out.1]; exact Nat.le_refl _)] at h9
              rw [← h9]
              exact (List.append_nil T).symm
            rw [hT]
            have HRN : Hid (Calls _ _ _ _ _) := prun a (by have h9 := HA2.out; omega) wr (HE.out.keep HBW.out)
            rw [HAT.out] at HRN
            obtain ⟨Z, hZ⟩ : ∃ Z : ByteArray, (⟨(Sc.report t).toArray⟩ : ByteArray) = Z := ⟨_, rfl⟩
            rw [hZ] at HRN ⊢
            have qz : (Z.toList == Z.toList) = true := beq_self_eq_true _
            clear hT hZ
            go_wp2_with fail
            refine HRN.out.mono ?_
            rintro e u6 ⟨rfl, hb6⟩
            have HB6 := hid (bel_then HBW.out hb6)
            clear hb6
            go_wp2_with fail
            refine (HAW.out u6 HB6.out).mono ?_
            rintro e uz ⟨rfl, hbz⟩
            go_wp2
            go_ret
            exact ⟨rfl, bel_then (HB6.out) hbz⟩
      · have qx : (x.toList == ([] : List UInt8)) = false := word_no (by rw [hxd]; exact hxe)
        have hL : Sc.lines t = Sh.pieces 10 t := by
          unfold Sc.lines
          rw [if_neg HPL.out.2, if_neg (by rw [hlast]; intro h9; exact hxe (Option.some.inj h9))]
        obtain ⟨L, hLL⟩ : ∃ L, L = Sc.lines t := ⟨_, rfl⟩
        have HLL : Hid (L.length = k + 1 ∧ [] ++ Sc.run Sc.begun (L.drop 0) = Sc.report t) := ⟨by rw [hLL, hL, HPL.out.1], by rw [hLL]; rfl⟩
        have hrt := HR1.out
        rw [← hL, ← hLL] at hrt
        have HTX := hid (Texts.of_rep hrt)
        have HLS : Hid (∀ p ∈ L, p.length ≤ 2000) := fun p hp => HPS.out p (by rw [hLL, hL] at hp; exact hp)
        clear hL hlast hxe hxd hrt hLL
        have HFR : Hid (Calls _ _ _ _ _) := sfresh u1
        go_wp2_with fail
        refine HFR.out.mono ?_
        rintro e u2 ⟨hb2, p, V2, rfl, hV2, hat2⟩
        have HB2 := hid hb2
        have HV2 := hid hV2
        have HAT2 := hid hat2
        clear hb2 hV2 hat2 HFR
        go_wp2
        go_loopw [3, 33] (fun v i wr => ∃ (j : Nat) (T : List UInt8) (s : Ft.St) (V : Nat → Prop), j ≤ (k + 1) ∧ v = .string ⟨T.toArray⟩ ∧ i = .int .i64 j ∧ Hid (T ++ Sc.run s (L.drop j) = Sc.report t ∧ Alive 1 Sc.msS Sc.tS s ∧ T.length ≤ 50 * j ∧ Mv V2 V u2 wr ∧ FlAt (fun _ => False) V wr p 1 Sc.msS s (Ft.qs Sc.msS s))) (fun _ i _ => (k + 1) - (intOf i).toNat)
        case atStart => exact ⟨0, [], Sc.begun, V2, by omega, rfl, rfl, HLL.out.2, Sc.begun_alive, by simp, Mv.refl _ _, HAT2.out⟩
        case round =>
          clear HAT2
          obtain ⟨j, T, s, V, hj, rfl, rfl, HI⟩ := hrel
          have HBU := hid (HI.out.2.2.2.1.below HV2.out HB2.out.size HB2.out)
          have HBW := hid (bel_then HB1.out HBU.out)
          by_cases hlt : j < (k + 1)
          · have hjl : j < L.length := by rw [HLL.out.1]; exact hlt
            obtain ⟨b9, o9, hbe, hb9, hc9⟩ := (HTX.out.keep HBU.out).at hlt
            simp only [Option.some.injEq, Addr.mk.injEq] at hbe
            obtain ⟨rfl, rfl, _⟩ := hbe
            rw [texts_at L hjl] at hc9
            have hli : (j : Int) < (((k + 1) : Nat) : Int) := by omega
            have hz0 : (0 : Int) ≤ (j : Int) := by omega
            have hrun := run_at s L hjl
            have hsz : (L.getD j []).length ≤ 2000 := HLS.out _ (by rw [List.getD_eq_getElem?_getD, List.getElem?_eq_getElem hjl]; exact List.getElem_mem hjl)
            obtain ⟨x, hx⟩ : ∃ x, L.getD j [] = x := ⟨_, rfl⟩
            rw [hx] at hc9 hrun hsz
            have hsh := tell_short HI.out.2.1 x
            have hal := Sc.tell_alive HI.out.2.1 x
            have HTL : Hid (Calls _ _ _ _ _) := ltell HI.out.2.2.2.2 HI.out.2.1 ⟨x.toArray⟩ (by rw [bsize]; omega)
            rw [show (⟨x.toArray⟩ : ByteArray).data.toList = x from rfl] at HTL
            obtain ⟨pl, hpl⟩ : ∃ pl, Sc.tell s x = pl := ⟨_, rfl⟩
            rw [hpl] at hrun hsh hal HTL
            obtain ⟨s2, y⟩ := pl
            have HF := hid (And.intro hrun (And.intro hsh hal))
            have hTl : T.length ≤ 50 * 3000 := by have h9 := HI.out.2.2.1; have h8 := HK9.out; omega
            obtain ⟨Y, hY⟩ : ∃ Y : ByteArray, (⟨y.toArray⟩ : ByteArray) = Y := ⟨_, rfl⟩
            obtain ⟨X, hX⟩ : ∃ X : ByteArray, (⟨T.toArray⟩ : ByteArray) = X := ⟨_, rfl⟩
            obtain ⟨Y2, hY2⟩ : ∃ Y2 : ByteArray, Y ++ (⟨#[10]⟩ : ByteArray) = Y2 := ⟨_, rfl⟩
            obtain ⟨R, hR⟩ : ∃ R : ByteArray, X ++ Y2 = R := ⟨_, rfl⟩
            have e1 : Y2 = ⟨(y ++ [10]).toArray⟩ := by rw [← hY2, ← hY]; exact bcat y [10]
            have HR : Hid (R = ⟨(T ++ (y ++ [10])).toArray⟩) := by show _ = _; rw [← hR, ← hX, e1]; exact bcat _ _
            have z1 : Y.size ≤ 49 := by rw [← hY, bsize]; exact hsh
            have z2 : Y2.size ≤ 50 := by rw [e1, bsize, List.length_append]; show y.length + 1 ≤ _; have h9 : y.length ≤ 49 := hsh; omega
            have z3 : X.size ≤ 150000 := by rw [← hX, bsize]; exact hTl
            have s1 : ¬ (9223372036854775807 < Y.size + 1) := by omega
            have s2' : ¬ (9223372036854775807 < X.size + Y2.size) := by omega
            rw [show ((s2, y) : Ft.St × List UInt8).2 = y from rfl, hY] at HTL
            rw [hX]
            clear hY hX e1 z1 z2 z3 hrun hsh hal hpl hsz hx hTl
            go_wp2_with fail
            refine HTL.out.mono ?_
            rintro e u5 ⟨rfl, hm5⟩
            have HM5 := hid hm5
            clear hm5 HTL
            go_wp2
            go_roundw
            case rel =>
              obtain ⟨V5, hv5, hat5⟩ := HM5.out
              refine ⟨j + 1, T ++ (y ++ [10]), s2, V5, by omega, by rw [HR.out], by go_num, ?_, HF.out.2.2, ?_, HI.out.2.2.2.1.trans hv5, hat5⟩
              · rw [← HI.out.1, HF.out.1]
                simp
              · have h1 := HI.out.2.2.1
                have h2 : y.length ≤ 49 := HF.out.2.1
                simp only [List.length_append, List.length_cons, List.length_nil]
                omega
            case measure => first | (simp [intOf]; done) | (simp [intOf]; omega)
          · have hjn : (k + 1) = j := by omega
            subst hjn
            have hli : ¬ (((k + 1) : Nat) : Int) < (((k + 1) : Nat) : Int) := by omega
            have hT : T = Sc.report t := by
              have h9 := HI.out.1
              rw [List.drop_of_length_le (by rw [HLL.out.1]; exact Nat.le_refl _)] at h9
              rw [← h9]
              exact (List.append_nil T).symm
            rw [hT]
            have HRN : Hid (Calls _ _ _ _ _) := prun a (by have h9 := HA2.out; omega) wr (HE.out.keep HBW.out)
            rw [HAT.out] at HRN
            obtain ⟨Z, hZ⟩ : ∃ Z : ByteArray, (⟨(Sc.report t).toArray⟩ : ByteArray) = Z := ⟨_, rfl⟩
            rw [hZ] at HRN ⊢
            have qz : (Z.toList == Z.toList) = true := beq_self_eq_true _
            clear hT hZ
            go_wp2_with fail
            refine HRN.out.mono ?_
            rintro e u6 ⟨rfl, hb6⟩
            have HB6 := hid (bel_then HBW.out hb6)
            clear hb6
            go_wp2_with fail
            refine (HAW.out u6 HB6.out).mono ?_
            rintro e uz ⟨rfl, hbz⟩
            go_wp2
            go_ret
            exact ⟨rfl, bel_then (HB6.out) hbz⟩
  · have HSM : Hid (Calls _ _ _ _ _) := lsmall_no a hs w
    clear hs
    go_enter Tryz.func3, Tryz.ntmps3
    go_wp2_with fail
    refine HSM.out.mono ?_
    rintro e u1 ⟨rfl, hb1⟩
    have HB1 := hid hb1
    clear hb1
    go_wp2_with fail
    refine (HAW.out u1 HB1.out).mono ?_
    rintro e uz ⟨rfl, hbz⟩
    go_wp2
    go_ret
    exact ⟨rfl, bel_then (HB1.out) hbz⟩

end Go.Proofs.YtokfcjgfpchffaaGreatDoor
