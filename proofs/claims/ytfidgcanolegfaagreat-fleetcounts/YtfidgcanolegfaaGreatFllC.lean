/- FleetCounts, with letters. -/
import Derived.Test.YtfidgcanolegfaaGreatFllA
import Derived.Test.YtfidgcanolegfaaGreatMdlH
namespace Go.Proofs.YtfidgcanolegfaaGreat
open Go.ChangeShapes Go.WideShapes Go.ChangeAt Go.RowKit



theorem tot_le {dim : Int} {ms : List Ly} {T : List (List Int)} (hR : Md.Right dim ms) (hT : Md.TRight dim T) (L : Nat) : Ft.tot ms T L ≤ 32 * L := by
  induction L with
  | zero => exact Nat.le_refl _
  | succ L ih =>
    rw [Ft.tot_succ]
    have := Ft.parts_few (l := ms.getD L ly0) (ts := Ft.tl ms T L) (Ft.tl_right hR hT L).2.1
    omega
set_option maxRecDepth 100000 in
theorem one_slice {w : World} {F : Nat → Prop} {a : Option Addr} {n c : Nat} {ms : List Ly} (h : lysS.rep w F [.slice a n c] ms) {k : Nat} (hk : k < n) :
    ∃ D, (∀ w : World, (Instr.slice 22 (.slice a n c) (some (.int .i64 (k : Int))) (some (.int .i64 ((k : Int) + 1))) none).run Tryz.prog w = .ok (.slice D 1 (c - k)) w) ∧ lysS.rep w F [.slice D 1 (c - k)] [ms.getD k ly0] := by
  obtain ⟨i0, hi, hz0, hz1, hz2⟩ := info_parts Tryz.infoLy3
  obtain ⟨hl, hc1, hc2⟩ := sliceS_len h
  have h2 := rep_take (rep_drop h (k := k) (by omega)) (k := 1) (by omega)
  have e : (ms.drop k).take 1 = [ms.getD k ly0] := by
    rw [List.drop_eq_getElem_cons (by omega), List.take_succ_cons, List.take_zero, List.getD_eq_getElem?_getD, List.getElem?_eq_getElem (by omega)]
    rfl
  rw [e] at h2
  refine ⟨_, fun w => ?_, h2⟩
  rw [run_slice_lh w 22 a n c Tryz.underlying22 .i64 .i64 (k : Int) ((k : Int) + 1) (by omega) (by omega) (by omega)]
  simp [sizeOf, typeInfo, go_sem, hi, hz1, show ((k : Int) + 1).toNat = k + 1 by omega, consS, sliceS, intS, noneS]
set_option maxRecDepth 100000 in
set_option maxHeartbeats 4000000 in
theorem flcounts (dim : Int) (a : Option Addr) (n c : Nat) (ms : List Ly) (ep : Int) (pa : Option Addr) (pn pc : Nat) (h : List (List Int)) (b : Option Addr) (m d : Nat) (T : List (List Int)) (w : World) (hm : lysS.rep w everywhere [.slice a n c] ms) (hp : matS.rep w everywhere [.slice pa pn pc] h) (ht : matS.rep w everywhere [.slice b m d] T) :
    Calls Tryz.prog 9 #[.agg #[.int .i64 dim, .slice a n c], .agg #[.int .i64 ep, .slice pa pn pc], .slice b m d] w fun e w' => e = .returned (.bool true) ∧ Below w.heap.size w w' := by
  have hB := bel_two w (.cells #[.int .i64 dim, .slice a n c] 24) (.cells #[.int .i64 ep, .slice pa pn pc] 27)
  have km := (Box.new w 24 #[.int .i64 dim, .slice a n c]).keep (new_bel _ (.cells #[.int .i64 ep, .slice pa pn pc] 27))
  have kp := Box.new (w.alloc (.cells #[.int .i64 dim, .slice a n c] 24)) 27 #[.int .i64 ep, .slice pa pn pc]
  have e1 : (w.alloc (.cells #[.int .i64 dim, .slice a n c] 24)).heap.size = w.heap.size + 1 := by simp
  rw [e1] at kp
  have hm1 := Shape.below hm hB
  have hp1 := Shape.below hp hB
  have ht1 := Shape.below ht hB
  have HS1 : Hid (Calls _ _ _ _ _) := msmall a n c ms dim _ hm1
  have HAW : Hid (∀ u, Calls Tryz.prog 13 #[] u fun e w' => e = .returned (.bool true) ∧ Below u.heap.size u w') := fawake
  have hlm := (sliceS_len hm).1
  clear hm hp ht e1
  go_enter Tryz.func9, Tryz.ntmps9
  go_upto_region 1 with fail
  generalize (w.alloc (.cells #[.int .i64 dim, .slice a n c] 24)).alloc (.cells #[.int .i64 ep, .slice pa pn pc] 27) = W at *
  have HR := hid (And.intro hm1 (And.intro hp1 ht1))
  have HK := hid (And.intro km kp)
  have m0 := km.cell 0 rfl
  have m1 := km.cell 1 rfl
  clear hm1 hp1 ht1 km kp
  go_wp2_with fail
  refine HS1.out.mono ?_
  rintro e u1 ⟨hs1, hb1⟩
  have hB1 := bel_then hB hb1
  by_cases d1 : Md.Small ms
  case neg =>
    rw [hs1.not d1]
    clear d1 hs1 m0 m1
    go_wp2_with (go_at_call 13; refine (HAW.out _).mono ?_; rintro e u9 ⟨rfl, hb9⟩)
    go_ret
    exact ⟨rfl, bel_then hB1 hb9⟩
  rw [hs1.is d1]
  have D1 := hid d1
  have HS2 : Hid (Calls _ _ _ _ _) := small pa pn pc h _ u1 (Shape.below HR.out.2.1 hb1)
  have p1 := (HK.out.2.keep hb1).cell 1 rfl
  have HB1 := hid hb1
  clear hs1 d1 m0 m1 hb1
  go_wp2_with fail
  refine HS2.out.mono ?_
  rintro e u1' ⟨hs2, hu9⟩
  replace hu9 := hu9.symm
  subst hu9
  by_cases d2 : Mx.Small h
  case neg =>
    rw [hs2.not d2]
    clear d2 hs2 p1
    go_wp2_with (go_at_call 13; refine (HAW.out _).mono ?_; rintro e u9 ⟨rfl, hb9⟩)
    go_ret
    exact ⟨rfl, bel_then hB1 hb9⟩
  rw [hs2.is d2]
  have D2 := hid d2
  have HS3 : Hid (Calls _ _ _ _ _) := small b m d T _ u1 (Shape.below HR.out.2.2 HB1.out)
  clear hs2 d2 p1
  go_wp2_with fail
  refine HS3.out.mono ?_
  rintro e u1' ⟨hs3, hu9⟩
  replace hu9 := hu9.symm
  subst hu9
  by_cases d3 : Mx.Small T
  case neg =>
    rw [hs3.not d3]
    clear d3 hs3
    go_wp2_with (go_at_call 13; refine (HAW.out _).mono ?_; rintro e u9 ⟨rfl, hb9⟩)
    go_ret
    exact ⟨rfl, bel_then hB1 hb9⟩
  rw [hs3.is d3]
  have HSM := hid (And.intro D1.out (And.intro D2.out d3))
  have HNI : Hid (NewIn (· < u1.heap.size) u1 a n c ms pa pn pc h b m d T) := ⟨Shape.low (Shape.below HR.out.1 HB1.out), Shape.low (Shape.below HR.out.2.1 HB1.out), Shape.low (Shape.below HR.out.2.2 HB1.out), fun _ hb => hb, by have h9 : ms.length ≤ 5 := D1.out.1; omega, fun l hl => Md.small_lsized (D1.out.2 l hl), Ex.small_sized D2.out, Ex.small_sized d3⟩
  have HK1 := hid (And.intro (HK.out.1.keep HB1.out) (HK.out.2.keep HB1.out))
  have HBA := hid hB1
  clear hs3 d3 HS1 HS2 HS3 D1 D2 HR HK HB1 hB hB1 hlm
  obtain ⟨bm, hbm⟩ : ∃ bm : Bool, bm = true ↔ May dim ms ep h T := by
    rcases Classical.em (May dim ms ep h T) with h9 | h9
    · exact ⟨true, fun _ => h9, fun _ => rfl⟩
    · exact ⟨false, fun e => (by cases e), fun h8 => absurd h8 h9⟩
  have HBM := hid hbm
  have HCM : Hid (Calls _ _ _ _ _) := rmay dim a n c ms ep pa pn pc h b m d T u1 HNI.out bm hbm
  have m0 := HK1.out.1.cell 0 rfl
  have m1 := HK1.out.1.cell 1 rfl
  have p0 := HK1.out.2.cell 0 rfl
  have p1 := HK1.out.2.cell 1 rfl
  clear hbm
  go_wp2_with fail
  refine HCM.out.mono ?_
  rintro e u2 ⟨rfl, hb2⟩
  have hB2 := bel_then HBA.out hb2
  clear m0 m1 p0 p1
  cases bm with
  | false =>
    go_wp2_with (go_at_call 13; refine (HAW.out _).mono ?_; rintro e u9 ⟨rfl, hb9⟩)
    go_ret
    exact ⟨rfl, bel_then hB2 hb9⟩
  | true =>
  have HMAY : Hid (May dim ms ep h T) := HBM.out.1 rfl
  have HNI2 := hid (HNI.out.keep hb2)
  have HNE : Hid (∀ (O : Nat → Prop) (u : World), Below u2.heap.size u2 u → (∀ b, O b → b < u.heap.size ∧ u2.heap.size ≤ b) → Calls Tryz.prog 14 #[.agg #[.int .i64 dim, .slice a n c], .agg #[.int .i64 ep, .slice pa pn pc], .slice b m d] u fun e w' => Below u.heap.size u w' ∧ ∃ p V, e = .returned (.tuple #[.pointer (some ⟨p, 0, none⟩), .int .i64 0]) ∧ (∀ b, V b → u.heap.size ≤ b) ∧ FlAt O V w' p dim ms (Ft.start ms ep h T) (Ft.qs ms (Ft.start ms ep h T))) := fun O u hu ho => fnew (I := (· < u2.heap.size)) dim a n c ms ep pa pn pc h b m d T u ⟨Shape.below (lysS.mono HNI2.out.mm (fun b hb hlt => hlt)) hu, Shape.below (matS.mono HNI2.out.pp (fun b hb hlt => hlt)) hu, Shape.below (matS.mono HNI2.out.tt (fun b hb hlt => hlt)) hu, fun b hb => Nat.lt_of_lt_of_le hb hu.size, HNI2.out.mn, HNI2.out.mz, HNI2.out.ps, HNI2.out.ts⟩ (fun b hb => ⟨(ho b hb).1, fun h9 => by have := (ho b hb).2; omega⟩) HMAY.out
  have HK2 := hid (And.intro (HK1.out.1.keep hb2) (HK1.out.2.keep hb2))
  have HBB2 := hid hB2
  have HALS := hid (Alive.start HMAY.out)
  have HU12 := hid hb2.size
  clear hb2 hB2 HK1 HNI HCM HBM HBA
  have m0 := HK2.out.1.cell 0 rfl
  have m1 := HK2.out.1.cell 1 rfl
  have p0 := HK2.out.2.cell 0 rfl
  have p1 := HK2.out.2.cell 1 rfl
  have HN1 : Hid (Calls _ _ _ _ _) := HNE.out (fun _ => False) u2 (Below.refl _ _) (fun b hb => hb.elim)
  go_wp2_with fail
  refine HN1.out.mono ?_
  rintro e u3 ⟨hb3, p, V, rfl, hV, hat⟩
  have HB3 := hid (bel_then HBB2.out hb3)
  have HV3 : Hid (∀ b, V b → w.heap.size ≤ b) := fun b hb => Nat.le_trans HBB2.out.size (hV b hb)
  have HVU : Hid (∀ b, V b → u1.heap.size ≤ b) := fun b hb => Nat.le_trans HU12.out (hV b hb)
  have HAT3 := hid hat
  have HK3 := hid (And.intro (HK2.out.1.keep hb3) (HK2.out.2.keep hb3))
  have HNI3 := hid (HNI2.out.keep hb3)
  clear hb3 hV hat m0 m1 p0 p1 HN1 HK2 HNI2 HNE HBB2
  have hlm := (sliceS_len HNI3.out.mm).1
  have hlT := (sliceS_len HNI3.out.tt).1
  have hn4 : n ≤ 4 := by rw [← hlm]; exact HMAY.out.1.2.2.2.1
  have HLM := hid (And.intro hlm hlT)
  have HTOT : Hid (∀ k, k ≤ n → Ft.tot ms T k ≤ 128) := fun k hk => by have := tot_le HMAY.out.1 HMAY.out.2.1 k; omega
  have HCNT : Hid ((Ft.run dim ms (2 * Ft.tot ms T n) (Ft.start ms ep h T)).lay = n ∧ Ft.worked (Ft.run dim ms (2 * Ft.tot ms T n) (Ft.start ms ep h T)) = Ft.tot ms T n ∧ (Ft.run dim ms (2 * Ft.tot ms T n) (Ft.start ms ep h T)).bag = [] ∧ ∀ j, j < 2 * Ft.tot ms T n → (Ft.run dim ms j (Ft.start ms ep h T)).bag ≠ []) := by
    have h9 := Ft.counts HMAY.out.1 HMAY.out.2.1 HMAY.out.2.2.1 HMAY.out.2.2.2 n (by omega)
    exact ⟨h9.1, h9.2.1, h9.2.2.2.1 hlm.symm, h9.2.2.2.2⟩
  have HVL := hid HAT3.out.there.2.1
  have m1 := HK3.out.1.cell 1 rfl
  clear hlm hlT
  go_wp2
  go_loopw [9, 10, 50] (fun v9 v10 i wr => ∃ (k : Nat) (nb : Option Addr) (nc : Nat), k ≤ n ∧ v9 = .int .i64 (Ft.tot ms T k : Nat) ∧ v10 = .slice nb m nc ∧ i = .int .i64 k ∧ matS.rep wr (fun b => b < u1.heap.size ∨ u3.heap.size ≤ b) [.slice nb m nc] (Ft.tl ms T k) ∧ Below u3.heap.size u3 wr) (fun _ _ i _ => n - (intOf i).toNat)
  case atStart => exact ⟨0, b, d, Nat.zero_le _, rfl, rfl, rfl, matS.mono HNI3.out.tt (fun b hb _ => .inl hb), Below.refl _ _⟩
  case round =>
    clear m1
    obtain ⟨k, nb, nc, hk, rfl, rfl, rfl, hnow, hbel⟩ := hrel
    have HNOW := hid hnow
    have HBEL := hid hbel
    by_cases hlt : k < n
    · have hni := HNI3.out.keep hbel
      obtain ⟨b1, o1, ag, ng, cg, ax, nx, cx, g, xs, cap, rfl, hb1, hE, hrg, hrx, c0, c1, c2⟩ := ly_there hni.mm hlt
      obtain ⟨D, hD, hrD⟩ := one_slice hni.mm hlt
      have hli : (k : Int) < (n : Int) := by omega
      have hk0 : (0 : Int) ≤ (k : Int) := by omega
      have hkl : k < ms.length := by have := HLM.out.1; omega
      have hLR : Md.LRight (g, xs, cap, ()) dim := by rw [← hE]; exact Ft.ly_right HMAY.out.1 hkl
      have hTR := Ft.tl_right HMAY.out.1 HMAY.out.2.1 k
      have HP : Hid (Calls _ _ _ _ _) := rmparts ag ng cg ax nx cx g xs cap dim nb m nc (Ft.tl ms T k) wr (Shape.any hrg) (Shape.any hrx) (Shape.any hnow) hLR HMAY.out.1.2.1 hTR
      have HTS : Hid (Ft.tot ms T (k + 1) = Ft.tot ms T k + (Md.parts (g, xs, cap, ()) (Ft.tl ms T k)).length) := by show _ = _; rw [Ft.tot_succ, hE]
      have HNX : Hid (Ft.tl ms T (k + 1) = Md.forward [(g, xs, cap, ())] (Ft.tl ms T k)) := by show _ = _; rw [Ft.tl_next hkl, hE]; rfl
      have HRX : Hid (Md.Right dim [(g, xs, cap, ())]) := ⟨HMAY.out.1.1, HMAY.out.1.2.1, by simp, by simp, fun l hl => by rw [List.mem_singleton.1 hl]; exact hLR⟩
      rw [hE] at hrD
      have HTR := hid hTR
      have HRD := hid hrD
      have km := HK3.out.1.keep hbel
      have HKM := hid km
      have m1 := km.cell 1 rfl
      have htk : Ft.tot ms T k ≤ 128 := HTOT.out k (by omega)
      have HTK2 := hid (HTOT.out (k + 1) (by omega))
      have hw1 : IntKind.i64.wrap ((k : Int) + 1) = (k : Int) + 1 := by rw [IntKind.wrap_i64]; omega
      clear hnow hbel hni hrg hrx hE hLR hTR hrD km
      generalize Ft.tot ms T k = tk at *
      go_wp2_with fail
      refine HP.out.mono ?_
      rintro e u5 ⟨hb5, pa, pl, pc, rfl, hps⟩
      have hpl := (sliceS_len hps).1
      have HTS2 : Hid (Ft.tot ms T (k + 1) = tk + pl) := by show _ = _; rw [HTS.out, hpl]
      have hpl9 : tk + pl ≤ 128 := by rw [← HTS2.out]; exact HTK2.out
      have hDr : Below u5.heap.size u5 u5.drew := (Below.refl _ u5).drew
      have hB5 := bel_then HBEL.out hb5
      have hb5D := bel_then hb5 hDr
      have HF : Hid (Calls _ _ _ _ _) := rmforwardP (P := fun b => b < u1.heap.size ∨ u3.heap.size ≤ b) D 1 (c - k) [(g, xs, cap, ())] dim nb m nc (Ft.tl ms T k) u5.drew (Shape.any (Shape.below HRD.out hb5D)) (Shape.below HNOW.out hb5D) HRX.out HTR.out
      have HSS : Hid (∀ u, Below u5.heap.size u5 u → u.cell? ⟨w.heap.size, 0, none⟩ = some (.int .i64 dim) ∧ u.cell? ⟨w.heap.size, 1, none⟩ = some (.slice (some ⟨b1, o1, none⟩) n c)) := fun u hu => ⟨((HKM.out.keep hb5).keep hu).cell 0 rfl, ((HKM.out.keep hb5).keep hu).cell 1 rfl⟩
      have HB5 := hid hB5
      obtain ⟨i1, i2⟩ := HSS.out u5 (Below.refl _ _)
      clear hps hpl hB5 hb5 hb5D m1 c0 c1 c2 HP
      go_wp2
      go_region_held3 (fun u => u.cell? ⟨w.heap.size, 0, none⟩ = some (.int .i64 dim) ∧ u.cell? ⟨w.heap.size, 1, none⟩ = some (.slice (some ⟨b1, o1, none⟩) n c))
        (first
          | exact HSS.out _ hd6
          | exact HSS.out _ hDr
          | exact HSS.out _ (Below.refl _ _)
          | go_keep)
        (first
          | (go_at_call 21; refine HF.out.mono ?_; rintro e u6 ⟨hb6, nb', nc', rfl, hr6⟩; have hd6 := bel_then hDr hb6))
      all_goals
        have hr7 : matS.rep u6 (fun b => b < u1.heap.size ∨ u3.heap.size ≤ b) [.slice nb' m nc'] (Ft.tl ms T (k + 1)) := by
          rw [HNX.out]
          exact matS.mono hr6 fun b hb _ => hb.elim id (fun h => .inr (by have h9 : u5.heap.size ≤ b := h; have := HB5.out.size; omega))
        have HE := hid (And.intro hr7 (bel_then HB5.out hd6))
        clear hr7 hr6 hb6 hd6 hDr i1 i2 HSS HF hD
        go_wp2
        go_roundw
        case rel => exact ⟨k + 1, nb', nc', by omega, by rw [HTS2.out]; simp, rfl, by go_num, HE.out.1, HE.out.2⟩
        case measure => simp [intOf]; omega
    · have hkn : k = n := by omega
      subst hkn
      have hli : ¬ (k : Int) < (k : Int) := by omega
      have HTL : Hid (Ft.tl ms T k = Md.forward ms T) := by show _ = _; rw [← HLM.out.1, Ft.tl_all]
      obtain ⟨P, hP⟩ : ∃ P, Ft.tot ms T k = P := ⟨_, rfl⟩
      have hP128 : P ≤ 128 := by rw [← hP]; exact HTOT.out k (Nat.le_refl _)
      have hcnt := HCNT.out
      rw [hP] at hcnt
      have HC := hid hcnt
      have HAT4 := hid (HAT3.out.keep hbel)
      have HB4 := hid (bel_then HB3.out hbel)
      have hmul : ∀ F : Nat, F = 2 * P → ((F : Int) == 2 * (P : Int)) = true := fun F hF => by rw [beq_iff_eq]; omega
      have HMUL := hid hmul
      rw [hP]
      clear hnow hbel hP hcnt HCNT HTOT hmul
      generalize hs0 : Ft.start ms ep h T = s0 at *
      clear hs0
      obtain ⟨W0, hW0⟩ : ∃ W0, W0 = wr := ⟨_, rfl⟩
      subst hW0
      go_wp2
      go_loopw [12] (fun v wr => ∃ (j : Nat) (V' : Nat → Prop), j ≤ 2 * P ∧ v = .int .i64 j ∧ Mv V V' W0 wr ∧ FlAt (fun _ => False) V' wr p dim ms (Ft.run dim ms j s0) (Ft.qs ms (Ft.run dim ms j s0))) (fun v _ => 2 * P + 1 - (intOf v).toNat)
      case atStart => exact ⟨0, V, Nat.zero_le _, rfl, Mv.refl _ _, HAT4.out⟩
      case round =>
        clear HAT4
        obtain ⟨j, V', hj, rfl, hmv, hat⟩ := hrel
        have hj1000 : (j : Int) < 1000 := by omega
        by_cases hjt : j < 2 * P
        · have HD : Hid (Calls _ _ _ _ _) := fdeliver0 hat (HALS.out.run j) (HC.out.2.2.2 j hjt)
          have HMV := hid hmv
          clear hmv hat
          go_wp2_with (go_at_call 24; refine HD.out.mono ?_; rintro e u5 ⟨rfl, V5, hm5, hat5⟩)
          have HE := hid (And.intro (HMV.out.trans hm5) hat5)
          clear hm5 hat5 HD
          go_roundw
          case rel => exact ⟨j + 1, V5, by omega, by go_num, HE.out.1, HE.out.2⟩
          case measure => simp [intOf]; omega
        · have hj2 : j = 2 * P := by omega
          subst hj2
          have HAL := hid (HALS.out.run (2 * P))
          have HD : Hid (Calls _ _ _ _ _) := fdeliver0_no hat HAL.out HC.out.2.2.1
          have hmu := HMUL.out (2 * P) rfl
          have hBw : Below w.heap.size w wr := hmv.below HV3.out HB4.out.size HB4.out
          have hnw : matS.rep wr (fun b => b < u1.heap.size ∨ u3.heap.size ≤ b) [.slice nb m nc] (Ft.tl ms T k) := Shape.keep _ HNOW.out fun b hb hlt => hmv.block b hlt (fun hv => by have := HVL.out b hv; have := HVU.out b hv; rcases hb with hb | hb <;> omega)
          have HNW := hid (Shape.any hnw)
          have HAT := hid hat
          have HBw := hid hBw
          have hlay : (Ft.run dim ms (2 * P) s0).lay = ms.length := by rw [HC.out.1, HLM.out.1]
          have htk : (Ft.run dim ms (2 * P) s0).toks = Md.forward ms T := HAL.out.i.done (by omega)
          have hwk := HC.out.2.1
          have htl : (Ft.run dim ms (2 * P) s0).toks.length = m := by rw [htk, ← HTL.out]; exact (sliceS_len hnw).1
          generalize Ft.run dim ms (2 * P) s0 = s2 at *
          have HS2 := hid (And.intro hlay (And.intro htk (And.intro hwk htl)))
          generalize hF : 2 * P = F at *
          clear hnw hBw hmv hat HMUL hlay htk hwk htl
          go_wp2_with fail
          refine HD.out.mono ?_
          rintro e u5 ⟨rfl, hb5⟩
          have HDN : Hid (Calls _ _ _ _ _) := fdone_yes (HAT.out.keep hb5) HS2.out.1 HAL.out.short m HS2.out.2.2.2
          have HB5 := hid (bel_then HBw.out hb5)
          have HAT5 := hid (HAT.out.keep hb5)
          have HN5 := hid (Shape.below HNW.out hb5)
          clear hb5 HD HAT HBw HNW
          go_wp2_with fail
          refine HDN.out.mono ?_
          rintro e u6 ⟨hb6, ra, rc, rfl, hr6⟩
          rw [HS2.out.2.1, ← HTL.out] at hr6
          have HSA : Hid (Calls _ _ _ _ _) := msame ra nb m rc nc (Ft.tl ms T k) u6 hr6 (Shape.below HN5.out hb6) (Pl.Short.sized (Md.tright_short (Ft.tl_right HMAY.out.1 HMAY.out.2.1 k) HMAY.out.1.2.1))
          have HAT6 := hid (HAT5.out.keep hb6)
          have HB6 := hid (bel_then HB5.out hb6)
          clear hb6 hr6 HDN HAT5 HB5 HN5
          go_wp2_with fail
          refine HSA.out.mono ?_
          rintro e u7 ⟨rfl, hb7⟩
          have hat7 := HAT6.out.keep hb7
          have hwk := fworked hat7 HAL.out.i.len HAL.out.worked
          rw [HS2.out.2.2.1] at hwk
          have HW : Hid (Calls _ _ _ _ _) := hwk
          have HB7 := hid (bel_then HB6.out hb7)
          clear hb7 hat7 hwk HSA HAT6 HB6
          go_wp2_with fail
          refine HW.out.mono ?_
          rintro e u8 ⟨rfl, hb8⟩
          have hb9 := bel_then HB7.out hb8
          clear HW HB7 hb8
          go_wp2_with fail
          refine (HAW.out _).mono ?_
          rintro e u9 ⟨rfl, hb10⟩
          go_wp2
          go_ret
          exact ⟨rfl, bel_then hb9 hb10⟩

end Go.Proofs.YtfidgcanolegfaaGreat
