/- TopMaps, with letters: two fleets of one model and of unlike maps end with the same. -/
import Derived.Test.YtfidgcanolegfaaGreatJz
import Derived.Test.YtfidgcanolegfaaGreatMdlA
import Derived.Test.YtfidgcanolegfaaGreatTpA
namespace Go.Proofs.YtfidgcanolegfaaGreat
open Go.ChangeShapes Go.WideShapes Go.ChangeAt Go.RowKit



theorem trun_stay {dim : Int} {ms : List Ly} {s : Ft.St} {j : Nat} (h : (Ft.run dim ms j s).bag = []) (i : Nat) : Ft.run dim ms (j + i) s = Ft.run dim ms j s := by
  induction i with
  | zero => rfl
  | succ i ih =>
    show Ft.deliver dim ms (Ft.run dim ms (j + i) s) 0 = _
    rw [ih]
    unfold Ft.deliver
    rw [if_neg (by rw [h]; exact Nat.lt_irrefl 0)]
theorem trun_few {dim : Int} {ms : List Ly} {T : List (List Int)} {s : Ft.St} (H : Alive dim ms T s) {j : Nat} (hj : (Ft.run dim ms j s).bag ≠ []) : j < 657 := by
  rcases Nat.lt_or_ge j 657 with h | h
  · exact h
  · exact absurd (Ft.run_ends H.i H.m H.t h) hj
theorem trun_done {dim : Int} {ms : List Ly} {ep : Int} {h T : List (List Int)} (H : May dim ms ep h T) {j : Nat} (hb : (Ft.run dim ms j (Ft.start ms ep h T)).bag = []) : (Ft.run dim ms j (Ft.start ms ep h T)).lay = ms.length := by
  have h9 := Ft.counts H.1 H.2.1 H.2.2.1 H.2.2.2 ms.length (Nat.le_refl _)
  have h8 := h9.2.2.2.1 rfl
  rcases Nat.le_total j (2 * Ft.tot ms T ms.length) with hl | hl
  · have h7 := trun_stay hb (2 * Ft.tot ms T ms.length - j)
    rw [show j + (2 * Ft.tot ms T ms.length - j) = 2 * Ft.tot ms T ms.length by omega] at h7
    rw [← h7]
    exact h9.1
  · have h7 := trun_stay h8 (j - 2 * Ft.tot ms T ms.length)
    rw [show 2 * Ft.tot ms T ms.length + (j - 2 * Ft.tot ms T ms.length) = j by omega] at h7
    rw [h7]
    exact h9.1
theorem tright_forward_len (ms : List Ly) (T : List (List Int)) : (Md.forward ms T).length = T.length := by
  induction ms generalizing T with
  | nil => rfl
  | cons l ms ih =>
    show (Md.forward ms (Md.step l T)).length = _
    rw [ih]
    unfold Md.step
    exact Md.stepTo_len _ _ _

set_option maxRecDepth 100000 in
set_option maxHeartbeats 4000000 in
theorem tends {I : Nat → Prop} (dim : Int) (a : Option Addr) (n c : Nat) (ms : List Ly) (ep : Int) (pa : Option Addr) (pn pc : Nat) (h : List (List Int)) (b : Option Addr) (m d : Nat) (T : List (List Int)) (w : World) (H : NewIn I w a n c ms pa pn pc h b m d T) (HY : May dim ms ep h T) :
    Calls Tryz.prog 33 #[.agg #[.int .i64 dim, .slice a n c], .agg #[.int .i64 ep, .slice pa pn pc], .slice b m d] w fun e w' => Below w.heap.size w w' ∧ ∃ a' c', e = .returned (.tuple #[.slice a' m c', .bool true]) ∧ matS.rep w' everywhere [.slice a' m c'] (Md.forward ms T) := by
  have hB := bel_two w (.cells #[.int .i64 dim, .slice a n c] 24) (.cells #[.int .i64 ep, .slice pa pn pc] 27)
  have km := (Box.new w 24 #[.int .i64 dim, .slice a n c]).keep (new_bel _ (.cells #[.int .i64 ep, .slice pa pn pc] 27))
  have kp := Box.new (w.alloc (.cells #[.int .i64 dim, .slice a n c] 24)) 27 #[.int .i64 ep, .slice pa pn pc]
  have e1 : (w.alloc (.cells #[.int .i64 dim, .slice a n c] 24)).heap.size = w.heap.size + 1 := by simp
  rw [e1] at kp
  have H1 := H.keep hB
  have HLT := hid (sliceS_len H.tt).1
  have HN1 : Hid (Calls _ _ _ _ _) := fnew (I := I) (O := (fun _ => False)) dim a n c ms ep pa pn pc h b m d T _ H1 (fun b hb => hb.elim) HY
  have HA0 := hid (Alive.start HY)
  have HRD : Hid (∀ j, (Ft.run dim ms j (Ft.start ms ep h T)).bag = [] → (Ft.run dim ms j (Ft.start ms ep h T)).lay = ms.length) := fun j hj => trun_done HY hj
  clear e1 H H1 HY
  go_enter Tryz.func33, Tryz.ntmps33
  go_upto_region 1 with fail
  generalize (w.alloc (.cells #[.int .i64 dim, .slice a n c] 24)).alloc (.cells #[.int .i64 ep, .slice pa pn pc] 27) = W at *
  have m0 := km.cell 0 rfl
  have m1 := km.cell 1 rfl
  have p0 := kp.cell 0 rfl
  have p1 := kp.cell 1 rfl
  go_wp2_with fail
  refine HN1.out.mono ?_
  rintro e u1 ⟨hb1, p, V, rfl, hV, hat⟩
  have HB1 := hid (bel_then hB hb1)
  have HV1 : Hid (∀ b, V b → w.heap.size ≤ b) := fun b hb => Nat.le_trans hB.size (hV b hb)
  have HAT1 := hid hat
  clear m0 m1 p0 p1 km kp hB hb1 hV hat HN1
  generalize hs0 : Ft.start ms ep h T = s0 at *
  clear hs0
  go_wp2
  go_loopw [23] (fun v wr => ∃ (j : Nat) (V3 : Nat → Prop), j ≤ 657 ∧ v = .int .i64 j ∧ Mv V V3 u1 wr ∧ FlAt (fun _ => False) V3 wr p dim ms (Ft.run dim ms j s0) (Ft.qs ms (Ft.run dim ms j s0))) (fun v _ => 658 - (intOf v).toNat)
  case atStart => exact ⟨0, V, Nat.zero_le _, rfl, Mv.refl _ _, HAT1.out⟩
  case round =>
    clear HAT1
    obtain ⟨j, V3, hj, rfl, hmv, hat⟩ := hrel
    have HMV3 := hid hmv
    have HAL3 := hid (HA0.out.run j)
    have hj2 : (j : Int) < 2000 := by omega
    by_cases hbe : (Ft.run dim ms j s0).bag = []
    · have HD : Hid (Calls _ _ _ _ _) := fdeliver0_no hat HAL3.out hbe
      have hlay := HRD.out j hbe
      have htk : (Ft.run dim ms j s0).toks = Md.forward ms T := HAL3.out.i.done (by omega)
      have htl : (Ft.run dim ms j s0).toks.length = m := by rw [htk]; exact (tright_forward_len ms T).trans HLT.out
      have hBw : Below w.heap.size w wr := hmv.below HV1.out HB1.out.size HB1.out
      generalize Ft.run dim ms j s0 = s3 at *
      have HS3 := hid (And.intro hlay (And.intro htk htl))
      have HAT3 := hid hat
      have HBW := hid hBw
      clear hmv hat hbe hlay htk htl hBw
      go_wp2_with fail
      refine HD.out.mono ?_
      rintro e u5 ⟨rfl, hb5⟩
      have HDN : Hid (Calls _ _ _ _ _) := fdone_yes (HAT3.out.keep hb5) HS3.out.1 HAL3.out.short m HS3.out.2.2
      have HB5 := hid (bel_then HBW.out hb5)
      clear hb5 HD HAT3 HBW
      go_wp2_with fail
      refine HDN.out.mono ?_
      rintro e u6 ⟨hb6, ra, rc, rfl, hr6⟩
      rw [HS3.out.2.1] at hr6
      go_wp2
      go_ret2
      exact ⟨bel_then HB5.out hb6, ra, rc, rfl, hr6⟩
    · have HD : Hid (Calls _ _ _ _ _) := fdeliver0 hat HAL3.out hbe
      have hj3 := trun_few HA0.out hbe
      clear hmv hat hbe
      go_wp2_with (go_at_call 24; refine HD.out.mono ?_; rintro e u5 ⟨rfl, V5, hm5, hat5⟩)
      have HE := hid (And.intro (HMV3.out.trans hm5) hat5)
      clear hm5 hat5 HD
      go_roundw
      case rel => exact ⟨j + 1, V5, by omega, by go_num, HE.out.1, HE.out.2⟩
      case measure => simp [intOf]; omega

set_option maxRecDepth 100000 in
set_option maxHeartbeats 4000000 in
theorem ttopmaps (dim : Int) (a : Option Addr) (n c : Nat) (ms : List Ly) (ep : Int) (pa : Option Addr) (pn pc : Nat) (h : List (List Int)) (eq' : Int) (qa : Option Addr) (qn qc : Nat) (g : List (List Int)) (b : Option Addr) (m d : Nat) (T : List (List Int)) (w : World) (hm : lysS.rep w everywhere [.slice a n c] ms) (hp : matS.rep w everywhere [.slice pa pn pc] h) (hq : matS.rep w everywhere [.slice qa qn qc] g) (ht : matS.rep w everywhere [.slice b m d] T) :
    Calls Tryz.prog 10 #[.agg #[.int .i64 dim, .slice a n c], .agg #[.int .i64 ep, .slice pa pn pc], .agg #[.int .i64 eq', .slice qa qn qc], .slice b m d] w fun e w' => e = .returned (.bool true) ∧ Below w.heap.size w w' := by
  have HAW : Hid (∀ u, Calls Tryz.prog 32 #[] u fun e w' => e = .returned (.bool true) ∧ Below u.heap.size u w') := fun u => tlives u
  obtain ⟨W, hW⟩ : ∃ W, W = ((w.alloc (.cells #[.int .i64 dim, .slice a n c] 24)).alloc (.cells #[.int .i64 ep, .slice pa pn pc] 27)).alloc (.cells #[.int .i64 eq', .slice qa qn qc] 27) := ⟨_, rfl⟩
  have hB : Below w.heap.size w W := by rw [hW]; exact bel_alloc (bel_two _ _ _) _
  have k1 : Box W w.heap.size 24 #[.int .i64 dim, .slice a n c] := by
    rw [hW]
    exact ((Box.new w 24 #[.int .i64 dim, .slice a n c]).keep (new_bel _ (.cells #[.int .i64 ep, .slice pa pn pc] 27))).keep (new_bel _ _)
  have k2 : Box W (w.heap.size + 1) 27 #[.int .i64 ep, .slice pa pn pc] := by
    rw [hW]
    have k := (Box.new (w.alloc (.cells #[.int .i64 dim, .slice a n c] 24)) 27 #[.int .i64 ep, .slice pa pn pc]).keep (new_bel _ (.cells #[.int .i64 eq', .slice qa qn qc] 27))
    rw [show (w.alloc (.cells #[.int .i64 dim, .slice a n c] 24)).heap.size = w.heap.size + 1 by simp] at k
    exact k
  have k3 : Box W (w.heap.size + 1 + 1) 27 #[.int .i64 eq', .slice qa qn qc] := by
    rw [hW]
    have k := Box.new ((w.alloc (.cells #[.int .i64 dim, .slice a n c] 24)).alloc (.cells #[.int .i64 ep, .slice pa pn pc] 27)) 27 #[.int .i64 eq', .slice qa qn qc]
    rw [show ((w.alloc (.cells #[.int .i64 dim, .slice a n c] 24)).alloc (.cells #[.int .i64 ep, .slice pa pn pc] 27)).heap.size = w.heap.size + 1 + 1 by simp] at k
    exact k
  have HW : Hid (W = _) := hW
  have hm1 := Shape.below hm hB
  have HR := hid (And.intro hm1 (And.intro (Shape.below hp hB) (And.intro (Shape.below hq hB) (Shape.below ht hB))))
  have HS1 : Hid (Calls _ _ _ _ _) := msmall a n c ms dim _ hm1
  have HK := hid (And.intro k1 (And.intro k2 k3))
  clear hm hp hq ht hm1 hW k1 k2 k3
  go_enter Tryz.func10, Tryz.ntmps10
  go_upto_region 1 with fail
  rw [← HW.out]
  clear HW
  have m0 := HK.out.1.cell 0 rfl
  have m1 := HK.out.1.cell 1 rfl
  go_wp2_with fail
  refine HS1.out.mono ?_
  rintro e u1 ⟨hs1, hb1⟩
  have HB1 := hid hb1
  have HBA := hid (bel_then hB hb1)
  clear hB hb1
  by_cases d1 : Md.Small ms
  case neg =>
    rw [hs1.not d1]
    clear d1 hs1 m0 m1 HS1
    go_wp2_with (go_at_call 32; refine (HAW.out _).mono ?_; rintro e u9 ⟨rfl, hb9⟩)
    go_ret
    exact ⟨rfl, bel_then HBA.out hb9⟩
  rw [hs1.is d1]
  have D1 := hid d1
  clear d1 hs1 m0 m1 HS1
  have HK1 := hid (And.intro (HK.out.1.keep HB1.out) (And.intro (HK.out.2.1.keep HB1.out) (HK.out.2.2.keep HB1.out)))
  have p1 := HK1.out.2.1.cell 1 rfl
  have HSx : Hid (Calls _ _ _ _ _) := small pa pn pc h _ u1 (Shape.below HR.out.2.1 HB1.out)
  go_wp2_with fail
  refine HSx.out.mono ?_
  rintro e u1' ⟨hs2, hu9⟩
  replace hu9 := hu9.symm
  subst hu9
  by_cases d2 : Mx.Small h
  case neg =>
    rw [hs2.not d2]
    clear d2 hs2 p1 HSx
    go_wp2_with (go_at_call 32; refine (HAW.out _).mono ?_; rintro e u9 ⟨rfl, hb9⟩)
    go_ret
    exact ⟨rfl, bel_then HBA.out hb9⟩
  rw [hs2.is d2]
  have D2 := hid d2
  clear hs2 d2 p1 HSx
  have q1 := HK1.out.2.2.cell 1 rfl
  have HSx : Hid (Calls _ _ _ _ _) := small qa qn qc g _ u1 (Shape.below HR.out.2.2.1 HB1.out)
  go_wp2_with fail
  refine HSx.out.mono ?_
  rintro e u1' ⟨hs2, hu9⟩
  replace hu9 := hu9.symm
  subst hu9
  by_cases d2 : Mx.Small g
  case neg =>
    rw [hs2.not d2]
    clear d2 hs2 q1 HSx
    go_wp2_with (go_at_call 32; refine (HAW.out _).mono ?_; rintro e u9 ⟨rfl, hb9⟩)
    go_ret
    exact ⟨rfl, bel_then HBA.out hb9⟩
  rw [hs2.is d2]
  have D3 := hid d2
  clear hs2 d2 q1 HSx
  have HSx : Hid (Calls _ _ _ _ _) := small b m d T _ u1 (Shape.below HR.out.2.2.2 HB1.out)
  go_wp2_with fail
  refine HSx.out.mono ?_
  rintro e u1' ⟨hs2, hu9⟩
  replace hu9 := hu9.symm
  subst hu9
  by_cases d2 : Mx.Small T
  case neg =>
    rw [hs2.not d2]
    clear d2 hs2  HSx
    go_wp2_with (go_at_call 32; refine (HAW.out _).mono ?_; rintro e u9 ⟨rfl, hb9⟩)
    go_ret
    exact ⟨rfl, bel_then HBA.out hb9⟩
  rw [hs2.is d2]
  have D4 := hid d2
  clear hs2 d2  HSx
  have HNI : Hid (NewIn (· < u1.heap.size) u1 a n c ms pa pn pc h b m d T) := ⟨Shape.low (Shape.below HR.out.1 HB1.out), Shape.low (Shape.below HR.out.2.1 HB1.out), Shape.low (Shape.below HR.out.2.2.2 HB1.out), fun _ hb => hb, by have h9 : ms.length ≤ 5 := D1.out.1; have h8 := (sliceS_len HR.out.1).1; omega, fun l hl => Md.small_lsized (D1.out.2 l hl), Ex.small_sized D2.out, Ex.small_sized D4.out⟩
  have HNJ : Hid (NewIn (· < u1.heap.size) u1 a n c ms qa qn qc g b m d T) := ⟨Shape.low (Shape.below HR.out.1 HB1.out), Shape.low (Shape.below HR.out.2.2.1 HB1.out), Shape.low (Shape.below HR.out.2.2.2 HB1.out), fun _ hb => hb, by have h9 : ms.length ≤ 5 := D1.out.1; have h8 := (sliceS_len HR.out.1).1; omega, fun l hl => Md.small_lsized (D1.out.2 l hl), Ex.small_sized D3.out, Ex.small_sized D4.out⟩
  clear HR HK HB1 D1 D2 D3 D4
  obtain ⟨bm, hbm⟩ : ∃ bm : Bool, bm = true ↔ May dim ms ep h T := by
    rcases Classical.em (May dim ms ep h T) with h9 | h9
    · exact ⟨true, fun _ => h9, fun _ => rfl⟩
    · exact ⟨false, fun e => (by cases e), fun h8 => absurd h8 h9⟩
  obtain ⟨bq, hbq⟩ : ∃ bm : Bool, bm = true ↔ May dim ms eq' g T := by
    rcases Classical.em (May dim ms eq' g T) with h9 | h9
    · exact ⟨true, fun _ => h9, fun _ => rfl⟩
    · exact ⟨false, fun e => (by cases e), fun h8 => absurd h8 h9⟩
  have HBM := hid (And.intro hbm hbq)
  have HCM : Hid (Calls _ _ _ _ _) := rmay dim a n c ms ep pa pn pc h b m d T u1 HNI.out bm hbm
  have m0 := HK1.out.1.cell 0 rfl
  have m1 := HK1.out.1.cell 1 rfl
  have p0 := HK1.out.2.1.cell 0 rfl
  have p1 := HK1.out.2.1.cell 1 rfl
  clear hbm hbq
  go_wp2_with fail
  refine HCM.out.mono ?_
  rintro e u2 ⟨rfl, hb2⟩
  have HBA2 := hid (bel_then HBA.out hb2)
  have HK2 := hid (And.intro (HK1.out.1.keep hb2) (And.intro (HK1.out.2.1.keep hb2) (HK1.out.2.2.keep hb2)))
  have HNI2 := hid (HNI.out.keep hb2)
  have HNJ2 := hid (HNJ.out.keep hb2)
  clear m0 m1 p0 p1 hb2 HK1 HNI HNJ HBA HCM
  cases bm with
  | false =>
    go_wp2_with (go_at_call 32; refine (HAW.out _).mono ?_; rintro e u9 ⟨rfl, hb9⟩)
    go_ret
    exact ⟨rfl, bel_then HBA2.out hb9⟩
  | true =>
  have HCM : Hid (Calls _ _ _ _ _) := rmay dim a n c ms eq' qa qn qc g b m d T u2 HNJ2.out bq HBM.out.2
  have m0 := HK2.out.1.cell 0 rfl
  have m1 := HK2.out.1.cell 1 rfl
  have q0 := HK2.out.2.2.cell 0 rfl
  have q1 := HK2.out.2.2.cell 1 rfl
  go_wp2_with fail
  refine HCM.out.mono ?_
  rintro e u3 ⟨rfl, hb3⟩
  have HBA3 := hid (bel_then HBA2.out hb3)
  have HK3 := hid (And.intro (HK2.out.1.keep hb3) (And.intro (HK2.out.2.1.keep hb3) (HK2.out.2.2.keep hb3)))
  have HNI3 := hid (HNI2.out.keep hb3)
  have HNJ3 := hid (HNJ2.out.keep hb3)
  clear m0 m1 q0 q1 hb3 HK2 HNI2 HNJ2 HBA2 HCM
  cases bq with
  | false =>
    go_wp2_with (go_at_call 32; refine (HAW.out _).mono ?_; rintro e u9 ⟨rfl, hb9⟩)
    go_ret
    exact ⟨rfl, bel_then HBA3.out hb9⟩
  | true =>
  have HE1 : Hid (Calls _ _ _ _ _) := tends dim a n c ms ep pa pn pc h b m d T u3 HNI3.out (HBM.out.1.1 (by first | rfl | trivial))
  have HMY := hid (HBM.out.1.1 (by first | rfl | trivial))
  have m0 := HK3.out.1.cell 0 rfl
  have m1 := HK3.out.1.cell 1 rfl
  have p0 := HK3.out.2.1.cell 0 rfl
  have p1 := HK3.out.2.1.cell 1 rfl
  go_wp2_with fail
  refine HE1.out.mono ?_
  rintro e u4 ⟨hb4, xa, xc, rfl, hr4⟩
  have HE2 : Hid (Calls _ _ _ _ _) := tends dim a n c ms eq' qa qn qc g b m d T u4 (HNJ3.out.keep hb4) (HBM.out.2.1 (by first | rfl | trivial))
  have HBA4 := hid (bel_then HBA3.out hb4)
  have hk1 := HK3.out.1.keep hb4
  have hk3 := HK3.out.2.2.keep hb4
  have HR4 := hid hr4
  clear m0 m1 p0 p1 hb4 hr4 HE1 HNI3 HNJ3 HBM HBA3 HK3
  have m0 := hk1.cell 0 rfl
  have m1 := hk1.cell 1 rfl
  have q0 := hk3.cell 0 rfl
  have q1 := hk3.cell 1 rfl
  go_wp2_with fail
  refine HE2.out.mono ?_
  rintro e u5 ⟨hb5, ya, yc, rfl, hr5⟩
  have HSA : Hid (Calls _ _ _ _ _) := msame xa ya m xc yc (Md.forward ms T) u5 (Shape.below HR4.out hb5) hr5 (Pl.Short.sized (Md.tright_short (Md.forward_right (fun l hl => HMY.out.1.2.2.2.2 l hl) HMY.out.2.1) HMY.out.1.2.1))
  have HBA5 := hid (bel_then HBA4.out hb5)
  clear m0 m1 q0 q1 hb5 hr5 hk1 hk3 HE2 HR4 HBA4
  go_wp2_with fail
  refine HSA.out.mono ?_
  rintro e u6 ⟨rfl, hb6⟩
  have hB6 := bel_then HBA5.out hb6
  clear HSA hb6
  go_wp2_with fail
  refine (HAW.out _).mono ?_
  rintro e u7 ⟨rfl, hb7⟩
  go_wp2
  go_ret
  exact ⟨rfl, bel_then hB6 hb7⟩

end Go.Proofs.YtfidgcanolegfaaGreat
