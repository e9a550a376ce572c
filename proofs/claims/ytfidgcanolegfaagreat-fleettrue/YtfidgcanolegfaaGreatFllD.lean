/- FleetTrue, with letters. -/
import Derived.Test.YtfidgcanolegfaaGreatFllA
import Derived.Test.YtfidgcanolegfaaGreatFltO
import Derived.Test.YtfidgcanolegfaaGreatMdlH
namespace Go.Proofs.YtfidgcanolegfaaGreat
open Go.ChangeShapes Go.WideShapes Go.ChangeAt Go.RowKit



/-! ### Acts -/
abbrev actS : Shape (Int × Int × Int × Unit) := consS (intS .u8) (consS (intS .u8) (consS (intS .u8) noneS))
theorem u8_is {x : Int} (h : (Lit.int .u8 x).wf = true) : ∃ k : Nat, x = (k : Int) ∧ k ≤ 255 := by
  have h9 : 0 ≤ x ∧ x ≤ 255 := bounds_u8 h
  exact ⟨x.toNat, by omega, by omega⟩
theorem act_at {w : World} {F : Nat → Prop} {a : Option Addr} {n c : Nat} {l : List (Int × Int × Int × Unit)} (h : (sliceS actS).rep w F [.slice a n c] l) (hf : ∀ x ∈ l, (Lit.int .u8 x.1).wf = true ∧ (Lit.int .u8 x.2.1).wf = true ∧ (Lit.int .u8 x.2.2.1).wf = true ∧ True) {j : Nat} (hj : j < n) :
    ∃ b off, ∃ k q r : Nat, a = some ⟨b, off, none⟩ ∧ b < w.heap.size ∧ k ≤ 255 ∧ q ≤ 255 ∧ r ≤ 255 ∧ w.cell? ⟨b, off + j * 3, none⟩ = some (.int .u8 (k : Int)) ∧ w.cell? ⟨b, off + j * 3 + 1, none⟩ = some (.int .u8 (q : Int)) ∧ w.cell? ⟨b, off + j * 3 + 2, none⟩ = some (.int .u8 (r : Int)) := by
  have hl := (sliceS_len h).1
  obtain ⟨b, off, cs, ha, _, hb, hc, hr⟩ := sliceS_at h (by show 0 < 3; omega) (j := j) (by omega)
  obtain ⟨f1, f2, f3, _⟩ := hf _ (List.getElem_mem (by omega : j < l.length))
  obtain ⟨d1, rfl, h1⟩ := consS_int hr
  obtain ⟨d2, rfl, h2⟩ := consS_int h1
  obtain ⟨d3, rfl, h3⟩ := consS_int h2
  obtain ⟨k, e1, k1⟩ := u8_is f1
  obtain ⟨q, e2, k2⟩ := u8_is f2
  obtain ⟨r, e3, k3⟩ := u8_is f3
  have c0 := hc 0 _ rfl
  have c1 := hc 1 _ rfl
  have c2 := hc 2 _ rfl
  rw [e1] at c0
  rw [e2] at c1
  rw [e3] at c2
  exact ⟨b, off, k, q, r, ha, hb, k1, k2, k3, c0, c1, c2⟩

set_option maxRecDepth 100000 in
set_option maxHeartbeats 4000000 in
theorem fltrue (dim : Int) (a : Option Addr) (n c : Nat) (ms : List Ly) (ep : Int) (pa : Option Addr) (pn pc : Nat) (h : List (List Int)) (b : Option Addr) (m d : Nat) (T : List (List Int)) (aa : Option Addr) (an ac : Nat) (al : List (Int × Int × Int × Unit)) (w : World) (hm : lysS.rep w everywhere [.slice a n c] ms) (hp : matS.rep w everywhere [.slice pa pn pc] h) (ht : matS.rep w everywhere [.slice b m d] T) (hacts : (sliceS actS).rep w everywhere [.slice aa an ac] al) (hfit : ∀ x ∈ al, (Lit.int .u8 x.1).wf = true ∧ (Lit.int .u8 x.2.1).wf = true ∧ (Lit.int .u8 x.2.2.1).wf = true ∧ True) :
    Calls Tryz.prog 4 #[.agg #[.int .i64 dim, .slice a n c], .agg #[.int .i64 ep, .slice pa pn pc], .slice b m d, .slice aa an ac] w fun e w' => e = .returned (.bool true) ∧ Below w.heap.size w w' := by
  have HACT := hid (And.intro (Shape.low hacts) hfit)
  clear hacts hfit
  have hB := bel_two w (.cells #[.int .i64 dim, .slice a n c] 24) (.cells #[.int .i64 ep, .slice pa pn pc] 27)
  have km := (Box.new w 24 #[.int .i64 dim, .slice a n c]).keep (new_bel _ (.cells #[.int .i64 ep, .slice pa pn pc] 27))
  have kp := Box.new (w.alloc (.cells #[.int .i64 dim, .slice a n c] 24)) 27 #[.int .i64 ep, .slice pa pn pc]
  have e1 : (w.alloc (.cells #[.int .i64 dim, .slice a n c] 24)).heap.size = w.heap.size + 1 := by simp
  rw [e1] at kp
  have hm1 := Shape.below hm hB
  have hp1 := Shape.below hp hB
  have ht1 := Shape.below ht hB
  have HS1 : Hid (Calls _ _ _ _ _) := msmall a n c ms dim _ hm1
  have HAW : Hid (∀ u, Calls Tryz.prog 13 #[] u fun e w' => e = .returned (.bool true) ∧ Below u.heap.size u w') := fawake
  have hlm := (sliceS_len hm).1
  clear hm hp ht e1
  go_enter Tryz.func4, Tryz.ntmps4
  go_upto_region 1 with fail
  generalize (w.alloc (.cells #[.int .i64 dim, .slice a n c] 24)).alloc (.cells #[.int .i64 ep, .slice pa pn pc] 27) = W at *
  have HR := hid (And.intro hm1 (And.intro hp1 ht1))
  have HK := hid (And.intro km kp)
  have m0 := km.cell 0 rfl
  have m1 := km.cell 1 rfl
  clear hm1 hp1 ht1 km kp
  go_wp2_with fail
  refine HS1.out.mono ?_
  rintro e u1 ⟨hs1, hb1⟩
  have hB1 := bel_then hB hb1
  by_cases d1 : Md.Small ms
  case neg =>
    rw [hs1.not d1]
    clear d1 hs1 m0 m1
    go_wp2_with (go_at_call 13; refine (HAW.out _).mono ?_; rintro e u9 ⟨rfl, hb9⟩)
    go_ret
    exact ⟨rfl, bel_then hB1 hb9⟩
  rw [hs1.is d1]
  have D1 := hid d1
  have HS2 : Hid (Calls _ _ _ _ _) := small pa pn pc h _ u1 (Shape.below HR.out.2.1 hb1)
  have p1 := (HK.out.2.keep hb1).cell 1 rfl
  have HB1 := hid hb1
  clear hs1 d1 m0 m1 hb1
  go_wp2_with fail
  refine HS2.out.mono ?_
  rintro e u1' ⟨hs2, hu9⟩
  replace hu9 := hu9.symm
  subst hu9
  by_cases d2 : Mx.Small h
  case neg =>
    rw [hs2.not d2]
    clear d2 hs2 p1
    go_wp2_with (go_at_call 13; refine (HAW.out _).mono ?_; rintro e u9 ⟨rfl, hb9⟩)
    go_ret
    exact ⟨rfl, bel_then hB1 hb9⟩
  rw [hs2.is d2]
  have D2 := hid d2
  have HS3 : Hid (Calls _ _ _ _ _) := small b m d T _ u1 (Shape.below HR.out.2.2 HB1.out)
  clear hs2 d2 p1
  go_wp2_with fail
  refine HS3.out.mono ?_
  rintro e u1' ⟨hs3, hu9⟩
  replace hu9 := hu9.symm
  subst hu9
  by_cases d3 : Mx.Small T
  case neg =>
    rw [hs3.not d3]
    clear d3 hs3
    go_wp2_with (go_at_call 13; refine (HAW.out _).mono ?_; rintro e u9 ⟨rfl, hb9⟩)
    go_ret
    exact ⟨rfl, bel_then hB1 hb9⟩
  rw [hs3.is d3]
  have HSM := hid (And.intro D1.out (And.intro D2.out d3))
  have HNI : Hid (NewIn (· < u1.heap.size) u1 a n c ms pa pn pc h b m d T) := ⟨Shape.low (Shape.below HR.out.1 HB1.out), Shape.low (Shape.below HR.out.2.1 HB1.out), Shape.low (Shape.below HR.out.2.2 HB1.out), fun _ hb => hb, by have h9 : ms.length ≤ 5 := D1.out.1; omega, fun l hl => Md.small_lsized (D1.out.2 l hl), Ex.small_sized D2.out, Ex.small_sized d3⟩
  have HK1 := hid (And.intro (HK.out.1.keep HB1.out) (HK.out.2.keep HB1.out))
  have HBA := hid hB1
  clear hs3 d3 HS1 HS2 HS3 D1 D2 HR HK HB1 hB hB1 hlm
  obtain ⟨bm, hbm⟩ : ∃ bm : Bool, bm = true ↔ May dim ms ep h T := by
    rcases Classical.em (May dim ms ep h T) with h9 | h9
    · exact ⟨true, fun _ => h9, fun _ => rfl⟩
    · exact ⟨false, fun e => (by cases e), fun h8 => absurd h8 h9⟩
  have HBM := hid hbm
  have HCM : Hid (Calls _ _ _ _ _) := rmay dim a n c ms ep pa pn pc h b m d T u1 HNI.out bm hbm
  have m0 := HK1.out.1.cell 0 rfl
  have m1 := HK1.out.1.cell 1 rfl
  have p0 := HK1.out.2.cell 0 rfl
  have p1 := HK1.out.2.cell 1 rfl
  clear hbm
  go_wp2_with fail
  refine HCM.out.mono ?_
  rintro e u2 ⟨rfl, hb2⟩
  have hB2 := bel_then HBA.out hb2
  clear m0 m1 p0 p1
  cases bm with
  | false =>
    go_wp2_with (go_at_call 13; refine (HAW.out _).mono ?_; rintro e u9 ⟨rfl, hb9⟩)
    go_ret
    exact ⟨rfl, bel_then hB2 hb9⟩
  | true =>
  have HMAY : Hid (May dim ms ep h T) := HBM.out.1 rfl
  have HNI2 := hid (HNI.out.keep hb2)
  have HNE : Hid (∀ (O : Nat → Prop) (u : World), Below u2.heap.size u2 u → (∀ b, O b → b < u.heap.size ∧ u2.heap.size ≤ b) → Calls Tryz.prog 14 #[.agg #[.int .i64 dim, .slice a n c], .agg #[.int .i64 ep, .slice pa pn pc], .slice b m d] u fun e w' => Below u.heap.size u w' ∧ ∃ p V, e = .returned (.tuple #[.pointer (some ⟨p, 0, none⟩), .int .i64 0]) ∧ (∀ b, V b → u.heap.size ≤ b) ∧ FlAt O V w' p dim ms (Ft.start ms ep h T) (Ft.qs ms (Ft.start ms ep h T))) := fun O u hu ho => fnew (I := (· < u2.heap.size)) dim a n c ms ep pa pn pc h b m d T u ⟨Shape.below (lysS.mono HNI2.out.mm (fun b hb hlt => hlt)) hu, Shape.below (matS.mono HNI2.out.pp (fun b hb hlt => hlt)) hu, Shape.below (matS.mono HNI2.out.tt (fun b hb hlt => hlt)) hu, fun b hb => Nat.lt_of_lt_of_le hb hu.size, HNI2.out.mn, HNI2.out.mz, HNI2.out.ps, HNI2.out.ts⟩ (fun b hb => ⟨(ho b hb).1, fun h9 => by have := (ho b hb).2; omega⟩) HMAY.out
  have HK2 := hid (And.intro (HK1.out.1.keep hb2) (HK1.out.2.keep hb2))
  have HBB2 := hid hB2
  have HALS := hid (Alive.start HMAY.out)
  have HU12 := hid hb2.size
  clear hb2 hB2 HK1 HNI HCM HBM HBA
  have m0 := HK2.out.1.cell 0 rfl
  have m1 := HK2.out.1.cell 1 rfl
  have p0 := HK2.out.2.cell 0 rfl
  have p1 := HK2.out.2.cell 1 rfl
  have HN1 : Hid (Calls _ _ _ _ _) := HNE.out (fun _ => False) u2 (Below.refl _ _) (fun b hb => hb.elim)
  go_wp2_with fail
  refine HN1.out.mono ?_
  rintro e u3 ⟨hb3, p, V, rfl, hV, hat⟩
  have HB3 := hid (bel_then HBB2.out hb3)
  have HV3 : Hid (∀ b, V b → w.heap.size ≤ b) := fun b hb => Nat.le_trans HBB2.out.size (hV b hb)
  have HVU : Hid (∀ b, V b → u1.heap.size ≤ b) := fun b hb => Nat.le_trans HU12.out (hV b hb)
  have HAT3 := hid hat
  have HK3 := hid (And.intro (HK2.out.1.keep hb3) (HK2.out.2.keep hb3))
  have HNI3 := hid (HNI2.out.keep hb3)
  clear hb3 hV hat m0 m1 p0 p1 HN1 HK2 HNI2 HNE HBB2
  have HVL := hid HAT3.out.there.2.1
  have hlT := (sliceS_len HNI3.out.tt).1
  have HFW : Hid (Calls _ _ _ _ _) := rmforwardP (P := fun b => b < u1.heap.size) a n c ms dim b m d T u3 (Shape.any HNI3.out.mm) HNI3.out.tt HMAY.out.1 HMAY.out.2.1
  have HLT := hid hlT
  have m0 := HK3.out.1.cell 0 rfl
  have m1 := HK3.out.1.cell 1 rfl
  clear hlT
  go_wp2_with fail
  refine HFW.out.mono ?_
  rintro e u4 ⟨hb4, wa, wc', rfl, hw4⟩
  have HWANT := hid hw4
  have HAT4 := hid (HAT3.out.keep hb4)
  have HB4 := hid (bel_then HB3.out hb4)
  have HS34 := hid hb4.size
  clear m0 m1 hw4 hb4 HAT3 HB3 HFW HK3 HNI3
  generalize hs0 : Ft.start ms ep h T = s0 at *
  clear hs0
  go_wp2
  go_loopw [12] (fun v wr => ∃ (i : Nat) (V' : Nat → Prop) (s : Ft.St), i ≤ an ∧ v = .int .i64 i ∧ Mv V V' u4 wr ∧ FlAt (fun _ => False) V' wr p dim ms s (Ft.qs ms s) ∧ Alive dim ms T s) (fun v _ => an - (intOf v).toNat)
  case atStart => exact ⟨0, V, s0, Nat.zero_le _, rfl, Mv.refl _ _, HAT4.out, HALS.out⟩
  case round =>
    clear HAT4
    obtain ⟨i, V', s, hi, rfl, hmv, hat, hal⟩ := hrel
    have hBw : Below w.heap.size w wr := hmv.below HV3.out HB4.out.size HB4.out
    have HBw := hid hBw
    have HMV := hid hmv
    have HAT := hid hat
    have HAL := hid hal
    clear hBw hmv hat hal
    by_cases hlt : i < an
    · have hli : (i : Int) < (an : Int) := by omega
      by_cases h2 : i < 200
      · have hl2 : (i : Int) < 200 := by omega
        obtain ⟨b9, o9, k, q, r, rfl, hb9, hk, hq, hr, c0, c1, c2⟩ := act_at (Shape.now HACT.out.1 HBw.out) HACT.out.2 hlt
        obtain ⟨s', hs'⟩ := acts_there dim ms k q r s
        have HC : Hid (Calls _ _ _ _ _) := fdo HAT.out HAL.out k q r hk hq hr s' hs'
        have HAL2 := hid (HAL.out.acts hs')
        have hi0 : (0 : Int) ≤ (i : Int) := by omega
        clear hs' hk hq hr
        go_wp2_with fail
        refine HC.out.mono ?_
        rintro e u5 ⟨rfl, V5, hm5, hat5⟩
        have HM5 := hid (HMV.out.trans hm5)
        have HAT5 := hid hat5
        clear hm5 hat5 HC HAT HMV c0 c1 c2
        obtain ⟨kb, hkb⟩ : ∃ kb, s'.bag.length = kb := ⟨_, rfl⟩
        have hkb200 : ¬ (200 : Int) < (kb : Int) := by have := HAL2.out.i.few; omega
        have HKB := hid hkb
        clear hkb
        by_cases hdn : s'.lay = ms.length
        · have htk : s'.toks = Md.forward ms T := HAL2.out.i.done (by omega)
          have htl : s'.toks.length = m := by rw [htk]; exact (sliceS_len HWANT.out).1
          have HDN : Hid (Calls _ _ _ _ _) := fdone_yes HAT5.out hdn HAL2.out.short m htl
          have HTK := hid htk
          have hwn : matS.rep u5 (fun b => b < u1.heap.size ∨ u3.heap.size ≤ b) [.slice wa m wc'] (Md.forward ms T) := Shape.keep _ HWANT.out fun b hb hlt => HM5.out.block b hlt (fun hv => by have := HVL.out b hv; have := HVU.out b hv; rcases hb with hb | hb <;> omega)
          have HWN := hid (Shape.any hwn)
          clear htk htl hwn hdn
          go_wp2_with fail
          refine HDN.out.mono ?_
          rintro e u6 ⟨hb6, ra, rc, rfl, hr6⟩
          rw [HTK.out] at hr6
          have HSA : Hid (Calls _ _ _ _ _) := msame ra wa m rc wc' (Md.forward ms T) u6 hr6 (Shape.below HWN.out hb6) (Pl.Short.sized (Md.tright_short (Md.forward_right (fun l hl => HMAY.out.1.2.2.2.2 l hl) HMAY.out.2.1) HMAY.out.1.2.1))
          have HM6 := hid (HM5.out.bel hb6)
          have HAT6 := hid (HAT5.out.keep hb6)
          clear hb6 hr6 HDN HWN HAT5 HM5
          go_wp2_with fail
          refine HSA.out.mono ?_
          rintro e u7 ⟨rfl, hb7⟩
          have HBG : Hid (Calls _ _ _ _ _) := fbag (HAT6.out.keep hb7) HAL2.out.i.few kb HKB.out
          have HM7 := hid (HM6.out.bel hb7)
          have HAT7 := hid (HAT6.out.keep hb7)
          clear hb7 HSA HAT6 HM6
          go_wp2_with fail
          refine HBG.out.mono ?_
          rintro e u8 ⟨hb8, ga, gc, rfl, _⟩
          have HE := hid (And.intro (HM7.out.bel hb8) (HAT7.out.keep hb8))
          clear hb8 HBG HAT7 HM7
          go_wp2
          go_roundw
          case rel => exact ⟨i + 1, V5, s', by omega, by go_num, HE.out.1, HE.out.2, HAL2.out⟩
          case measure => simp [intOf]; omega
        · have HDN : Hid (Calls _ _ _ _ _) := fdone_no HAT5.out hdn
          clear hdn
          go_wp2_with fail
          refine HDN.out.mono ?_
          rintro e u6 ⟨rfl, hb6⟩
          have HBG : Hid (Calls _ _ _ _ _) := fbag (HAT5.out.keep hb6) HAL2.out.i.few kb HKB.out
          have HM7 := hid (HM5.out.bel hb6)
          have HAT7 := hid (HAT5.out.keep hb6)
          clear hb6 HDN HAT5 HM5
          go_wp2_with fail
          refine HBG.out.mono ?_
          rintro e u8 ⟨hb8, ga, gc, rfl, _⟩
          have HE := hid (And.intro (HM7.out.bel hb8) (HAT7.out.keep hb8))
          clear hb8 HBG HAT7 HM7
          go_wp2
          go_roundw
          case rel => exact ⟨i + 1, V5, s', by omega, by go_num, HE.out.1, HE.out.2, HAL2.out⟩
          case measure => simp [intOf]; omega
      · have hl2 : ¬ (i : Int) < 200 := by omega
        have hbf := HBw.out
        go_wp2_with (go_at_call 13; refine (HAW.out _).mono ?_; rintro e u9 ⟨rfl, hb9⟩)
        go_ret
        exact ⟨rfl, bel_then hbf hb9⟩
    · have hli : ¬ (i : Int) < (an : Int) := by omega
      have hbf := HBw.out
      go_wp2_with (go_at_call 13; refine (HAW.out _).mono ?_; rintro e u9 ⟨rfl, hb9⟩)
      go_ret
      exact ⟨rfl, bel_then hbf hb9⟩

end Go.Proofs.YtfidgcanolegfaaGreat
