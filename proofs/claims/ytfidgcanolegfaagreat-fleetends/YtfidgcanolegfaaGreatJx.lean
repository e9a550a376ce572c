/- 3 texts as one, in their order: FllD, FllE, FllF. -/
import Derived.Test.YtfidgcanolegfaaGreatFllA
import Derived.Test.YtfidgcanolegfaaGreatFltO
import Derived.Test.YtfidgcanolegfaaGreatMdlH

/- FleetTrue, with letters. -/
namespace Go.Proofs.YtfidgcanolegfaaGreat
open Go.ChangeShapes Go.WideShapes Go.ChangeAt Go.RowKit



/-! ### Acts -/
abbrev actS : Shape (Int × Int × Int × Unit) := consS (intS .u8) (consS (intS .u8) (consS (intS .u8) noneS))
theorem u8_is {x : Int} (h : (Lit.int .u8 x).wf = true) : ∃ k : Nat, x = (k : Int) ∧ k ≤ 255 := by
  have h9 : 0 ≤ x ∧ x ≤ 255 := bounds_u8 h
  exact ⟨x.toNat, by omega, by omega⟩
theorem act_at {w : World} {F : Nat → Prop} {a : Option Addr} {n c : Nat} {l : List (Int × Int × Int × Unit)} (h : (sliceS actS).rep w F [.slice a n c] l) (hf : ∀ x ∈ l, (Lit.int .u8 x.1).wf = true ∧ (Lit.int .u8 x.2.1).wf = true ∧ (Lit.int .u8 x.2.2.1).wf = true ∧ True) {j : Nat} (hj : j < n) :
    ∃ b off, ∃ k q r : Nat, a = some ⟨b, off, none⟩ ∧ b < w.heap.size ∧ k ≤ 255 ∧ q ≤ 255 ∧ r ≤ 255 ∧ w.cell? ⟨b, off + j * 3, none⟩ = some (.int .u8 (k : Int)) ∧ w.cell? ⟨b, off + j * 3 + 1, none⟩ = some (.int .u8 (q : Int)) ∧ w.cell? ⟨b, off + j * 3 + 2, none⟩ = some (.int .u8 (r : Int)) := by
  have hl := (sliceS_len h).1
  obtain ⟨b, off, cs, ha, _, hb, hc, hr⟩ := sliceS_at h (by show 0 < 3; omega) (j := j) (by omega)
  obtain ⟨f1, f2, f3, _⟩ := hf _ (List.getElem_mem (by omega : j < l.length))
  obtain ⟨d1, rfl, h1⟩ := consS_int hr
  obtain ⟨d2, rfl, h2⟩ := consS_int h1
  obtain ⟨d3, rfl, h3⟩ := consS_int h2
  obtain ⟨k, e1, k1⟩ := u8_is f1
  obtain ⟨q, e2, k2⟩ := u8_is f2
  obtain ⟨r, e3, k3⟩ := u8_is f3
  have c0 := hc 0 _ rfl
  have c1 := hc 1 _ rfl
  have c2 := hc 2 _ rfl
  rw [e1] at c0
  rw [e2] at c1
  rw [e3] at c2
  exact ⟨b, off, k, q, r, ha, hb, k1, k2, k3, c0, c1, c2⟩

set_option maxRecDepth 100000 in
set_option maxHeartbeats 4000000 in
theorem fltrue (dim : Int) (a : Option Addr) (n c : Nat) (ms : List Ly) (ep : Int) (pa : Option Addr) (pn pc : Nat) (h : List (List Int)) (b : Option Addr) (m d : Nat) (T : List (List Int)) (aa : Option Addr) (an ac : Nat) (al : List (Int × Int × Int × Unit)) (w : World) (hm : lysS.rep w everywhere [.slice a n c] ms) (hp : matS.rep w everywhere [.slice pa pn pc] h) (ht : matS.rep w everywhere [.slice b m d] T) (hacts : (sliceS actS).rep w everywhere [.slice aa an ac] al) (hfit : ∀ x ∈ al, (Lit.int .u8 x.1).wf = true ∧ (Lit.int .u8 x.2.1).wf = true ∧ (Lit.int .u8 x.2.2.1).wf = true ∧ True) :
    Calls Tryz.prog 4 #[.agg #[.int .i64 dim, .slice a n c], .agg #[.int .i64 ep, .slice pa pn pc], .slice b m d, .slice aa an ac] w fun e w' => e = .returned (.bool true) ∧ Below w.heap.size w w' := by
  have HACT := hid (And.intro (Shape.low hacts) hfit)
  clear hacts hfit
  have hB := bel_two w (.cells #[.int .i64 dim, .slice a n c] 24) (.cells #[.int .i64 ep, .slice pa pn pc] 27)
  have km := (Box.new w 24 #[.int .i64 dim, .slice a n c]).keep (new_bel _ (.cells #[.int .i64 ep, .slice pa pn pc] 27))
  have kp := Box.new (w.alloc (.cells #[.int .i64 dim, .slice a n c] 24)) 27 #[.int .i64 ep, .slice pa pn pc]
  have e1 : (w.alloc (.cells #[.int .i64 dim, .slice a n c] 24)).heap.size = w.heap.size + 1 := by simp
  rw [e1] at kp
  have hm1 := Shape.below hm hB
  have hp1 := Shape.below hp hB
  have ht1 := Shape.below ht hB
  have HS1 : Hid (Calls _ _ _ _ _) := msmall a n c ms dim _ hm1
  have HAW : Hid (∀ u, Calls Tryz.prog 13 #[] u fun e w' => e = .returned (.bool true) ∧ Below u.heap.size u w') := fawake
  have hlm := (sliceS_len hm).1
  clear hm hp ht e1
  go_enter Tryz.func4, Tryz.ntmps4
  go_upto_region 1 with fail
  generalize (w.alloc (.cells #[.int .i64 dim, .slice a n c] 24)).alloc (.cells #[.int .i64 ep, .slice pa pn pc] 27) = W at *
  have HR := hid (And.intro hm1 (And.intro hp1 ht1))
  have HK := hid (And.intro km kp)
  have m0 := km.cell 0 rfl
  have m1 := km.cell 1 rfl
  clear hm1 hp1 ht1 km kp
  go_wp2_with fail
  refine HS1.out.mono ?_
  rintro e u1 ⟨hs1, hb1⟩
  have hB1 := bel_then hB hb1
  by_cases d1 : Md.Small ms
  case neg =>
    rw [hs1.not d1]
    clear d1 hs1 m0 m1
    go_wp2_with (go_at_call 13; refine (HAW.out _).mono ?_; rintro e u9 ⟨rfl, hb9⟩)
    go_ret
    exact ⟨rfl, bel_then hB1 hb9⟩
  rw [hs1.is d1]
  have D1 := hid d1
  have HS2 : Hid (Calls _ _ _ _ _) := small pa pn pc h _ u1 (Shape.below HR.out.2.1 hb1)
  have p1 := (HK.out.2.keep hb1).cell 1 rfl
  have HB1 := hid hb1
  clear hs1 d1 m0 m1 hb1
  go_wp2_with fail
  refine HS2.out.mono ?_
  rintro e u1' ⟨hs2, hu9⟩
  replace hu9 := hu9.symm
  subst hu9
  by_cases d2 : Mx.Small h
  case neg =>
    rw [hs2.not d2]
    clear d2 hs2 p1
    go_wp2_with (go_at_call 13; refine (HAW.out _).mono ?_; rintro e u9 ⟨rfl, hb9⟩)
    go_ret
    exact ⟨rfl, bel_then hB1 hb9⟩
  rw [hs2.is d2]
  have D2 := hid d2
  have HS3 : Hid (Calls _ _ _ _ _) := small b m d T _ u1 (Shape.below HR.out.2.2 HB1.out)
  clear hs2 d2 p1
  go_wp2_with fail
  refine HS3.out.mono ?_
  rintro e u1' ⟨hs3, hu9⟩
  replace hu9 := hu9.symm
  subst hu9
  by_cases d3 : Mx.Small T
  case neg =>
    rw [hs3.not d3]
    clear d3 hs3
    go_wp2_with (go_at_call 13; refine (HAW.out _).mono ?_; rintro e u9 ⟨rfl, hb9⟩)
    go_ret
    exact ⟨rfl, bel_then hB1 hb9⟩
  rw [hs3.is d3]
  have HSM := hid (And.intro D1.out (And.intro D2.out d3))
  have HNI : Hid (NewIn (· < u1.heap.size) u1 a n c ms pa pn pc h b m d T) := ⟨Shape.low (Shape.below HR.out.1 HB1.out), Shape.low (Shape.below HR.out.2.1 HB1.out), Shape.low (Shape.below HR.out.2.2 HB1.out), fun _ hb => hb, by have h9 : ms.length ≤ 5 := D1.out.1; omega, fun l hl => Md.small_lsized (D1.out.2 l hl), Ex.small_sized D2.out, Ex.small_sized d3⟩
  have HK1 := hid (And.intro (HK.out.1.keep HB1.out) (HK.out.2.keep HB1.out))
  have HBA := hid hB1
  clear hs3 d3 HS1 HS2 HS3 D1 D2 HR HK HB1 hB hB1 hlm
  obtain ⟨bm, hbm⟩ : ∃ bm : Bool, bm = true ↔ May dim ms ep h T := by
    rcases Classical.em (May dim ms ep h T) with h9 | h9
    · exact ⟨true, fun _ => h9, fun _ => rfl⟩
    · exact ⟨false, fun e => (by cases e), fun h8 => absurd h8 h9⟩
  have HBM := hid hbm
  have HCM : Hid (Calls _ _ _ _ _) := rmay dim a n c ms ep pa pn pc h b m d T u1 HNI.out bm hbm
  have m0 := HK1.out.1.cell 0 rfl
  have m1 := HK1.out.1.cell 1 rfl
  have p0 := HK1.out.2.cell 0 rfl
  have p1 := HK1.out.2.cell 1 rfl
  clear hbm
  go_wp2_with fail
  refine HCM.out.mono ?_
  rintro e u2 ⟨rfl, hb2⟩
  have hB2 := bel_then HBA.out hb2
  clear m0 m1 p0 p1
  cases bm with
  | false =>
    go_wp2_with (go_at_call 13; refine (HAW.out _).mono ?_; rintro e u9 ⟨rfl, hb9⟩)
    go_ret
    exact ⟨rfl, bel_then hB2 hb9⟩
  | true =>
  have HMAY : Hid (May dim ms ep h T) := HBM.out.1 rfl
  have HNI2 := hid (HNI.out.keep hb2)
  have HNE : Hid (∀ (O : Nat → Prop) (u : World), Below u2.heap.size u2 u → (∀ b, O b → b < u.heap.size ∧ u2.heap.size ≤ b) → Calls Tryz.prog 14 #[.agg #[.int .i64 dim, .slice a n c], .agg #[.int .i64 ep, .slice pa pn pc], .slice b m d] u fun e w' => Below u.heap.size u w' ∧ ∃ p V, e = .returned (.tuple #[.pointer (some ⟨p, 0, none⟩), .int .i64 0]) ∧ (∀ b, V b → u.heap.size ≤ b) ∧ FlAt O V w' p dim ms (Ft.start ms ep h T) (Ft.qs ms (Ft.start ms ep h T))) := fun O u hu ho => fnew (I := (· < u2.heap.size)) dim a n c ms ep pa pn pc h b m d T u ⟨Shape.below (lysS.mono HNI2.out.mm (fun b hb hlt => hlt)) hu, Shape.below (matS.mono HNI2.out.pp (fun b hb hlt => hlt)) hu, Shape.below (matS.mono HNI2.out.tt (fun b hb hlt => hlt)) hu, fun b hb => Nat.lt_of_lt_of_le hb hu.size, HNI2.out.mn, HNI2.out.mz, HNI2.out.ps, HNI2.out.ts⟩ (fun b hb => ⟨(ho b hb).1, fun h9 => by have := (ho b hb).2; omega⟩) HMAY.out
  have HK2 := hid (And.intro (HK1.out.1.keep hb2) (HK1.out.2.keep hb2))
  have HBB2 := hid hB2
  have HALS := hid (Alive.start HMAY.out)
  have HU12 := hid hb2.size
  clear hb2 hB2 HK1 HNI HCM HBM HBA
  have m0 := HK2.out.1.cell 0 rfl
  have m1 := HK2.out.1.cell 1 rfl
  have p0 := HK2.out.2.cell 0 rfl
  have p1 := HK2.out.2.cell 1 rfl
  have HN1 : Hid (Calls _ _ _ _ _) := HNE.out (fun _ => False) u2 (Below.refl _ _) (fun b hb => hb.elim)
  go_wp2_with fail
  refine HN1.out.mono ?_
  rintro e u3 ⟨hb3, p, V, rfl, hV, hat⟩
  have HB3 := hid (bel_then HBB2.out hb3)
  have HV3 : Hid (∀ b, V b → w.heap.size ≤ b) := fun b hb => Nat.le_trans HBB2.out.size (hV b hb)
  have HVU : Hid (∀ b, V b → u1.heap.size ≤ b) := fun b hb => Nat.le_trans HU12.out (hV b hb)
  have HAT3 := hid hat
  have HK3 := hid (And.intro (HK2.out.1.keep hb3) (HK2.out.2.keep hb3))
  have HNI3 := hid (HNI2.out.keep hb3)
  clear hb3 hV hat m0 m1 p0 p1 HN1 HK2 HNI2 HNE HBB2
  have HVL := hid HAT3.out.there.2.1
  have hlT := (sliceS_len HNI3.out.tt).1
  have HFW : Hid (Calls _ _ _ _ _) := rmforwardP (P := fun b => b < u1.heap.size) a n c ms dim b m d T u3 (Shape.any HNI3.out.mm) HNI3.out.tt HMAY.out.1 HMAY.out.2.1
  have HLT := hid hlT
  have m0 := HK3.out.1.cell 0 rfl
  have m1 := HK3.out.1.cell 1 rfl
  clear hlT
  go_wp2_with fail
  refine HFW.out.mono ?_
  rintro e u4 ⟨hb4, wa, wc', rfl, hw4⟩
  have HWANT := hid hw4
  have HAT4 := hid (HAT3.out.keep hb4)
  have HB4 := hid (bel_then HB3.out hb4)
  have HS34 := hid hb4.size
  clear m0 m1 hw4 hb4 HAT3 HB3 HFW HK3 HNI3
  generalize hs0 : Ft.start ms ep h T = s0 at *
  clear hs0
  go_wp2
  go_loopw [12] (fun v wr => ∃ (i : Nat) (V' : Nat → Prop) (s : Ft.St), i ≤ an ∧ v = .int .i64 i ∧ Mv V V' u4 wr ∧ FlAt (fun _ => False) V' wr p dim ms s (Ft.qs ms s) ∧ Alive dim ms T s) (fun v _ => an - (intOf v).toNat)
  case atStart => exact ⟨0, V, s0, Nat.zero_le _, rfl, Mv.refl _ _, HAT4.out, HALS.out⟩
  case round =>
    clear HAT4
    obtain ⟨i, V', s, hi, rfl, hmv, hat, hal⟩ := hrel
    have hBw : Below w.heap.size w wr := hmv.below HV3.out HB4.out.size HB4.out
    have HBw := hid hBw
    have HMV := hid hmv
    have HAT := hid hat
    have HAL := hid hal
    clear hBw hmv hat hal
    by_cases hlt : i < an
    · have hli : (i : Int) < (an : Int) := by omega
      by_cases h2 : i < 200
      · have hl2 : (i : Int) < 200 := by omega
        obtain ⟨b9, o9, k, q, r, rfl, hb9, hk, hq, hr, c0, c1, c2⟩ := act_at (Shape.now HACT.out.1 HBw.out) HACT.out.2 hlt
        obtain ⟨s', hs'⟩ := acts_there dim ms k q r s
        have HC : Hid (Calls _ _ _ _ _) := fdo HAT.out HAL.out k q r hk hq hr s' hs'
        have HAL2 := hid (HAL.out.acts hs')
        have hi0 : (0 : Int) ≤ (i : Int) := by omega
        clear hs' hk hq hr
        go_wp2_with fail
        refine HC.out.mono ?_
        rintro e u5 ⟨rfl, V5, hm5, hat5⟩
        have HM5 := hid (HMV.out.trans hm5)
        have HAT5 := hid hat5
        clear hm5 hat5 HC HAT HMV c0 c1 c2
        obtain ⟨kb, hkb⟩ : ∃ kb, s'.bag.length = kb := ⟨_, rfl⟩
        have hkb200 : ¬ (200 : Int) < (kb : Int) := by have := HAL2.out.i.few; omega
        have HKB := hid hkb
        clear hkb
        by_cases hdn : s'.lay = ms.length
        · have htk : s'.toks = Md.forward ms T := HAL2.out.i.done (by omega)
          have htl : s'.toks.length = m := by rw [htk]; exact (sliceS_len HWANT.out).1
          have HDN : Hid (Calls _ _ _ _ _) := fdone_yes HAT5.out hdn HAL2.out.short m htl
          have HTK := hid htk
          have hwn : matS.rep u5 (fun b => b < u1.heap.size ∨ u3.heap.size ≤ b) [.slice wa m wc'] (Md.forward ms T) := Shape.keep _ HWANT.out fun b hb hlt => HM5.out.block b hlt (fun hv => by have := HVL.out b hv; have := HVU.out b hv; rcases hb with hb | hb <;> omega)
          have HWN := hid (Shape.any hwn)
          clear htk htl hwn hdn
          go_wp2_with fail
          refine HDN.out.mono ?_
          rintro e u6 ⟨hb6, ra, rc, rfl, hr6⟩
          rw [HTK.out] at hr6
          have HSA : Hid (Calls _ _ _ _ _) := msame ra wa m rc wc' (Md.forward ms T) u6 hr6 (Shape.below HWN.out hb6) (Pl.Short.sized (Md.tright_short (Md.forward_right (fun l hl => HMAY.out.1.2.2.2.2 l hl) HMAY.out.2.1) HMAY.out.1.2.1))
          have HM6 := hid (HM5.out.bel hb6)
          have HAT6 := hid (HAT5.out.keep hb6)
          clear hb6 hr6 HDN HWN HAT5 HM5
          go_wp2_with fail
          refine HSA.out.mono ?_
          rintro e u7 ⟨rfl, hb7⟩
          have HBG : Hid (Calls _ _ _ _ _) := fbag (HAT6.out.keep hb7) HAL2.out.i.few kb HKB.out
          have HM7 := hid (HM6.out.bel hb7)
          have HAT7 := hid (HAT6.out.keep hb7)
          clear hb7 HSA HAT6 HM6
          go_wp2_with fail
          refine HBG.out.mono ?_
          rintro e u8 ⟨hb8, ga, gc, rfl, _⟩
          have HE := hid (And.intro (HM7.out.bel hb8) (HAT7.out.keep hb8))
          clear hb8 HBG HAT7 HM7
          go_wp2
          go_roundw
          case rel => exact ⟨i + 1, V5, s', by omega, by go_num, HE.out.1, HE.out.2, HAL2.out⟩
          case measure => simp [intOf]; omega
        · have HDN : Hid (Calls _ _ _ _ _) := fdone_no HAT5.out hdn
          clear hdn
          go_wp2_with fail
          refine HDN.out.mono ?_
          rintro e u6 ⟨rfl, hb6⟩
          have HBG : Hid (Calls _ _ _ _ _) := fbag (HAT5.out.keep hb6) HAL2.out.i.few kb HKB.out
          have HM7 := hid (HM5.out.bel hb6)
          have HAT7 := hid (HAT5.out.keep hb6)
          clear hb6 HDN HAT5 HM5
          go_wp2_with fail
          refine HBG.out.mono ?_
          rintro e u8 ⟨hb8, ga, gc, rfl, _⟩
          have HE := hid (And.intro (HM7.out.bel hb8) (HAT7.out.keep hb8))
          clear hb8 HBG HAT7 HM7
          go_wp2
          go_roundw
          case rel => exact ⟨i + 1, V5, s', by omega, by go_num, HE.out.1, HE.out.2, HAL2.out⟩
          case measure => simp [intOf]; omega
      · have hl2 : ¬ (i : Int) < 200 := by omega
        have hbf := HBw.out
        go_wp2_with (go_at_call 13; refine (HAW.out _).mono ?_; rintro e u9 ⟨rfl, hb9⟩)
        go_ret
        exact ⟨rfl, bel_then hbf hb9⟩
    · have hli : ¬ (i : Int) < (an : Int) := by omega
      have hbf := HBw.out
      go_wp2_with (go_at_call 13; refine (HAW.out _).mono ?_; rintro e u9 ⟨rfl, hb9⟩)
      go_ret
      exact ⟨rfl, bel_then hbf hb9⟩

end Go.Proofs.YtfidgcanolegfaaGreat

/- FleetEnds, with letters. -/
namespace Go.Proofs.YtfidgcanolegfaaGreat
open Go.ChangeShapes Go.WideShapes Go.ChangeAt Go.RowKit



theorem Mv.box {V V' : Nat → Prop} {w w' : World} {b : Nat} {t : TypeId} {cs : Array Value} (hm : Mv V V' w w') (h : Box w b t cs) (hv : ¬ V b) : Box w' b t cs := (hm.block b h.lt hv).trans h
theorem run_stay {dim : Int} {ms : List Ly} {s : Ft.St} {j : Nat} (h : (Ft.run dim ms j s).bag = []) (i : Nat) : Ft.run dim ms (j + i) s = Ft.run dim ms j s := by
  induction i with
  | zero => rfl
  | succ i ih =>
    show Ft.deliver dim ms (Ft.run dim ms (j + i) s) 0 = _
    rw [ih]
    exact deliver_none (by rw [h]; exact Nat.le_refl _)
theorem run_few {dim : Int} {ms : List Ly} {T : List (List Int)} {s : Ft.St} (H : Alive dim ms T s) {j : Nat} (hj : (Ft.run dim ms j s).bag ≠ []) : j < 657 := by
  rcases Nat.lt_or_ge j 657 with h | h
  · exact h
  · exact absurd (Ft.run_ends H.i H.m H.t h) hj
/-- Asked once more with an empty bag, and played to its end: done. -/
theorem ends_done {dim : Int} {ms : List Ly} {T : List (List Int)} {s : Ft.St} (H : Alive dim ms T s) (hs : Ft.Settled ms s) (hb : s.bag = []) {j : Nat} (hj : j ≤ 657) (he : (Ft.run dim ms j (Ft.ask ms s)).bag = []) : (Ft.run dim ms j (Ft.ask ms s)).lay = ms.length := by
  have h9 := Ft.ask_ends H.i H.m H.t hs hb (Nat.le_refl 657)
  have h8 := run_stay he (657 - j)
  rw [show j + (657 - j) = 657 by omega] at h8
  rw [h8] at h9
  have h7 := ((H.ask).run j).i.lay
  omega

theorem Md.tright_forward_len (ms : List Ly) (T : List (List Int)) : (Md.forward ms T).length = T.length := by
  induction ms generalizing T with
  | nil => rfl
  | cons l ms ih =>
    show (Md.forward ms (Md.step l T)).length = _
    rw [ih]
    unfold Md.step
    exact Md.stepTo_len _ _ _
set_option maxRecDepth 100000 in
set_option maxHeartbeats 8000000 in
theorem flends (dim : Int) (a : Option Addr) (n c : Nat) (ms : List Ly) (ep : Int) (pa : Option Addr) (pn pc : Nat) (h : List (List Int)) (b : Option Addr) (m d : Nat) (T : List (List Int)) (aa : Option Addr) (an ac : Nat) (al : List (Int × Int × Int × Unit)) (w : World) (hm : lysS.rep w everywhere [.slice a n c] ms) (hp : matS.rep w everywhere [.slice pa pn pc] h) (ht : matS.rep w everywhere [.slice b m d] T) (hacts : (sliceS actS).rep w everywhere [.slice aa an ac] al) (hfit : ∀ x ∈ al, (Lit.int .u8 x.1).wf = true ∧ (Lit.int .u8 x.2.1).wf = true ∧ (Lit.int .u8 x.2.2.1).wf = true ∧ True) :
    Calls Tryz.prog 5 #[.agg #[.int .i64 dim, .slice a n c], .agg #[.int .i64 ep, .slice pa pn pc], .slice b m d, .slice aa an ac] w fun e w' => e = .returned (.bool true) ∧ Below w.heap.size w w' := by
  have HACT := hid (And.intro (Shape.low hacts) hfit)
  have HIN := hid (And.intro (Shape.low hm) (Shape.low ht))
  have HLM := hid (And.intro (sliceS_len hm).1 (sliceS_len ht).1)
  clear hacts hfit
  have hB := bel_two w (.cells #[.int .i64 dim, .slice a n c] 24) (.cells #[.int .i64 ep, .slice pa pn pc] 27)
  have km := (Box.new w 24 #[.int .i64 dim, .slice a n c]).keep (new_bel _ (.cells #[.int .i64 ep, .slice pa pn pc] 27))
  have kp := Box.new (w.alloc (.cells #[.int .i64 dim, .slice a n c] 24)) 27 #[.int .i64 ep, .slice pa pn pc]
  have e1 : (w.alloc (.cells #[.int .i64 dim, .slice a n c] 24)).heap.size = w.heap.size + 1 := by simp
  rw [e1] at kp
  have hm1 := Shape.below hm hB
  have hp1 := Shape.below hp hB
  have ht1 := Shape.below ht hB
  have HS1 : Hid (Calls _ _ _ _ _) := msmall a n c ms dim _ hm1
  have HAW : Hid (∀ u, Calls Tryz.prog 13 #[] u fun e w' => e = .returned (.bool true) ∧ Below u.heap.size u w') := fawake
  have hlm := (sliceS_len hm).1
  clear hm hp ht e1
  go_enter Tryz.func5, Tryz.ntmps5
  go_upto_region 1 with fail
  generalize (w.alloc (.cells #[.int .i64 dim, .slice a n c] 24)).alloc (.cells #[.int .i64 ep, .slice pa pn pc] 27) = W at *
  have HR := hid (And.intro hm1 (And.intro hp1 ht1))
  have HK := hid (And.intro km kp)
  have m0 := km.cell 0 rfl
  have m1 := km.cell 1 rfl
  clear hm1 hp1 ht1 km kp
  go_wp2_with fail
  refine HS1.out.mono ?_
  rintro e u1 ⟨hs1, hb1⟩
  have hB1 := bel_then hB hb1
  by_cases d1 : Md.Small ms
  case neg =>
    rw [hs1.not d1]
    clear d1 hs1 m0 m1
    go_wp2_with (go_at_call 13; refine (HAW.out _).mono ?_; rintro e u9 ⟨rfl, hb9⟩)
    go_ret
    exact ⟨rfl, bel_then hB1 hb9⟩
  rw [hs1.is d1]
  have D1 := hid d1
  have HS2 : Hid (Calls _ _ _ _ _) := small pa pn pc h _ u1 (Shape.below HR.out.2.1 hb1)
  have p1 := (HK.out.2.keep hb1).cell 1 rfl
  have HB1 := hid hb1
  clear hs1 d1 m0 m1 hb1
  go_wp2_with fail
  refine HS2.out.mono ?_
  rintro e u1' ⟨hs2, hu9⟩
  replace hu9 := hu9.symm
  subst hu9
  by_cases d2 : Mx.Small h
  case neg =>
    rw [hs2.not d2]
    clear d2 hs2 p1
    go_wp2_with (go_at_call 13; refine (HAW.out _).mono ?_; rintro e u9 ⟨rfl, hb9⟩)
    go_ret
    exact ⟨rfl, bel_then hB1 hb9⟩
  rw [hs2.is d2]
  have D2 := hid d2
  have HS3 : Hid (Calls _ _ _ _ _) := small b m d T _ u1 (Shape.below HR.out.2.2 HB1.out)
  clear hs2 d2 p1
  go_wp2_with fail
  refine HS3.out.mono ?_
  rintro e u1' ⟨hs3, hu9⟩
  replace hu9 := hu9.symm
  subst hu9
  by_cases d3 : Mx.Small T
  case neg =>
    rw [hs3.not d3]
    clear d3 hs3
    go_wp2_with (go_at_call 13; refine (HAW.out _).mono ?_; rintro e u9 ⟨rfl, hb9⟩)
    go_ret
    exact ⟨rfl, bel_then hB1 hb9⟩
  rw [hs3.is d3]
  have HSM := hid (And.intro D1.out (And.intro D2.out d3))
  have HNI : Hid (NewIn (· < u1.heap.size) u1 a n c ms pa pn pc h b m d T) := ⟨Shape.low (Shape.below HR.out.1 HB1.out), Shape.low (Shape.below HR.out.2.1 HB1.out), Shape.low (Shape.below HR.out.2.2 HB1.out), fun _ hb => hb, by have h9 : ms.length ≤ 5 := D1.out.1; omega, fun l hl => Md.small_lsized (D1.out.2 l hl), Ex.small_sized D2.out, Ex.small_sized d3⟩
  have HK1 := hid (And.intro (HK.out.1.keep HB1.out) (HK.out.2.keep HB1.out))
  have HBA := hid hB1
  clear hs3 d3 HS1 HS2 HS3 D1 D2 HR HK HB1 hB hB1 hlm
  obtain ⟨bm, hbm⟩ : ∃ bm : Bool, bm = true ↔ May dim ms ep h T := by
    rcases Classical.em (May dim ms ep h T) with h9 | h9
    · exact ⟨true, fun _ => h9, fun _ => rfl⟩
    · exact ⟨false, fun e => (by cases e), fun h8 => absurd h8 h9⟩
  have HBM := hid hbm
  have HCM : Hid (Calls _ _ _ _ _) := rmay dim a n c ms ep pa pn pc h b m d T u1 HNI.out bm hbm
  have m0 := HK1.out.1.cell 0 rfl
  have m1 := HK1.out.1.cell 1 rfl
  have p0 := HK1.out.2.cell 0 rfl
  have p1 := HK1.out.2.cell 1 rfl
  clear hbm
  go_wp2_with fail
  refine HCM.out.mono ?_
  rintro e u2 ⟨rfl, hb2⟩
  have hB2 := bel_then HBA.out hb2
  clear m0 m1 p0 p1
  cases bm with
  | false =>
    go_wp2_with (go_at_call 13; refine (HAW.out _).mono ?_; rintro e u9 ⟨rfl, hb9⟩)
    go_ret
    exact ⟨rfl, bel_then hB2 hb9⟩
  | true =>
  have HMAY : Hid (May dim ms ep h T) := HBM.out.1 rfl
  have HNI2 := hid (HNI.out.keep hb2)
  have HNE : Hid (∀ (O : Nat → Prop) (u : World), Below u2.heap.size u2 u → (∀ b, O b → b < u.heap.size ∧ u2.heap.size ≤ b) → Calls Tryz.prog 14 #[.agg #[.int .i64 dim, .slice a n c], .agg #[.int .i64 ep, .slice pa pn pc], .slice b m d] u fun e w' => Below u.heap.size u w' ∧ ∃ p V, e = .returned (.tuple #[.pointer (some ⟨p, 0, none⟩), .int .i64 0]) ∧ (∀ b, V b → u.heap.size ≤ b) ∧ FlAt O V w' p dim ms (Ft.start ms ep h T) (Ft.qs ms (Ft.start ms ep h T))) := fun O u hu ho => fnew (I := (· < u2.heap.size)) dim a n c ms ep pa pn pc h b m d T u ⟨Shape.below (lysS.mono HNI2.out.mm (fun b hb hlt => hlt)) hu, Shape.below (matS.mono HNI2.out.pp (fun b hb hlt => hlt)) hu, Shape.below (matS.mono HNI2.out.tt (fun b hb hlt => hlt)) hu, fun b hb => Nat.lt_of_lt_of_le hb hu.size, HNI2.out.mn, HNI2.out.mz, HNI2.out.ps, HNI2.out.ts⟩ (fun b hb => ⟨(ho b hb).1, fun h9 => by have := (ho b hb).2; omega⟩) HMAY.out
  have HK2 := hid (And.intro (HK1.out.1.keep hb2) (HK1.out.2.keep hb2))
  have HBB2 := hid hB2
  have HALS := hid (Alive.start HMAY.out)
  have HKU : Hid (w.heap.size + 1 < u1.heap.size) := HK1.out.2.lt
  have HU12 := hid hb2.size
  clear hb2 hB2 HK1 HNI HCM HBM HBA
  have m0 := HK2.out.1.cell 0 rfl
  have m1 := HK2.out.1.cell 1 rfl
  have p0 := HK2.out.2.cell 0 rfl
  have p1 := HK2.out.2.cell 1 rfl
  have HN1 : Hid (Calls _ _ _ _ _) := HNE.out (fun _ => False) u2 (Below.refl _ _) (fun b hb => hb.elim)
  go_wp2_with fail
  refine HN1.out.mono ?_
  rintro e u3 ⟨hb3, p, V, rfl, hV, hat⟩
  have HB3 := hid (bel_then HBB2.out hb3)
  have HV3 : Hid (∀ b, V b → w.heap.size ≤ b) := fun b hb => Nat.le_trans HBB2.out.size (hV b hb)
  have HS23 := hid hb3.size
  have HVU : Hid (∀ b, V b → u1.heap.size ≤ b) := fun b hb => Nat.le_trans HU12.out (hV b hb)
  have HAT3 := hid hat
  have HK3 := hid (And.intro (HK2.out.1.keep hb3) (HK2.out.2.keep hb3))
  have HNI3 := hid (HNI2.out.keep hb3)
  clear hb3 hV hat m0 m1 p0 p1 HN1 HK2 HNI2 HNE HBB2
  have HVL := hid HAT3.out.there.2.1
  have HU13 : Hid (u1.heap.size ≤ u3.heap.size) := Nat.le_trans HU12.out HS23.out
  have HK3U : Hid (w.heap.size + 1 < u1.heap.size) := HKU.out
  have HSET0 := hid (Ft.start_settled HMAY.out.1 HMAY.out.2.1 ep h)
  have hn4 : n ≤ 4 := by have := HMAY.out.1.2.2.2.1; have := HLM.out.1; omega
  generalize hs0 : Ft.start ms ep h T = s0 at *
  clear hs0 HNI3
  go_wp2
  go_loopw [11] (fun v wr => ∃ (i : Nat) (V' : Nat → Prop) (s : Ft.St), i ≤ an ∧ v = .int .i64 i ∧ Mv V V' u3 wr ∧ FlAt (fun _ => False) V' wr p dim ms s (Ft.qs ms s) ∧ Alive dim ms T s ∧ Ft.Settled ms s) (fun v _ => an - (intOf v).toNat)
  case atStart => exact ⟨0, V, s0, Nat.zero_le _, rfl, Mv.refl _ _, HAT3.out, HALS.out, HSET0.out⟩
  case round =>
    clear HAT3
    obtain ⟨i, V', s, hi, rfl, hmv, hat, hal, hst⟩ := hrel
    have hBw : Below w.heap.size w wr := hmv.below HV3.out HB3.out.size HB3.out
    have HB1W := hid hBw
    have HMV := hid hmv
    have HAT := hid hat
    have HAL := hid hal
    have HST := hid hst
    clear hBw hmv hat hal hst
    by_cases hlt : i < an
    · have hli : (i : Int) < (an : Int) := by omega
      by_cases h2 : i < 200
      · have hl2 : (i : Int) < 200 := by omega
        obtain ⟨b9, o9, k, q, r, rfl, hb9, hk, hq, hr, c0, c1, c2⟩ := act_at (Shape.now HACT.out.1 HB1W.out) HACT.out.2 hlt
        obtain ⟨s', hs'⟩ := acts_there dim ms k q r s
        have HC : Hid (Calls _ _ _ _ _) := fdo HAT.out HAL.out k q r hk hq hr s' hs'
        have HAL2 := hid (HAL.out.acts hs')
        have HST2 := hid (settled_acts HAL.out HST.out hs')
        have hi0 : (0 : Int) ≤ (i : Int) := by omega
        clear hs' hk hq hr
        go_wp2_with (go_at_call 22; refine HC.out.mono ?_; rintro e u5 ⟨rfl, V5, hm5, hat5⟩)
        have HE := hid (And.intro (HMV.out.trans hm5) hat5)
        clear hm5 hat5 HC HAT HMV c0 c1 c2
        go_roundw
        case rel => exact ⟨i + 1, V5, s', by omega, by go_num, HE.out.1, HE.out.2, HAL2.out, HST2.out⟩
        case measure => simp [intOf]; omega
      · have hl2 : ¬ (i : Int) < 200 := by omega
        have HAL1 := hid HAL.out
        have HST1 := hid HST.out
        have hm1 : Box wr w.heap.size 24 #[.int .i64 dim, .slice a n c] := HMV.out.box HK3.out.1 (fun hv => by have := HVU.out _ hv; have := HK3U.out; omega)
        have HKM := hid hm1
        have HVU1 : Hid (∀ b, V' b → u1.heap.size ≤ b) := HMV.out.base HVU.out HU13.out
        have HV1 : Hid (∀ b, V' b → w.heap.size ≤ b) := HMV.out.base HV3.out HB3.out.size
        obtain ⟨W1, hW1⟩ : ∃ W1, W1 = wr := ⟨_, rfl⟩
        subst hW1
        have m1 := hm1.cell 1 rfl
        clear hm1 HMV HAL HST
        go_wp2
        go_loopw [69] (fun v wr => ∃ (r : Nat) (V2 : Nat → Prop) (s2 : Ft.St), r ≤ n + 1 ∧ v = .int .i64 r ∧ Mv V' V2 W1 wr ∧ FlAt (fun _ => False) V2 wr p dim ms s2 (Ft.qs ms s2) ∧ Alive dim ms T s2 ∧ Ft.Settled ms s2 ∧ (0 < r → ∃ s1, s1.bag = [] ∧ Alive dim ms T s1 ∧ Ft.Settled ms s1 ∧ s2 = Ft.ask ms s1)) (fun v _ => n + 1 - (intOf v).toNat)
        case atStart => exact ⟨0, V', s, Nat.zero_le _, rfl, Mv.refl _ _, HAT.out, HAL1.out, HST1.out, fun h => absurd h (Nat.lt_irrefl 0)⟩
        case round =>
          clear m1 HAT HAL1 HST1
          obtain ⟨r, V2, s2, hr, rfl, hmv, hat, hal, hst, hlast⟩ := hrel
          have HMV2 := hid hmv
          have HAT2 := hid hat
          have HAL2 := hid hal
          have HST2 := hid hst
          have HLAST := hid hlast
          clear hmv hat hal hst hlast
          obtain ⟨W2, hW2⟩ : ∃ W2, W2 = wr := ⟨_, rfl⟩
          subst hW2
          by_cases hlt : r < n + 1
          · have hli : (r : Int) < (n : Int) + 1 := by omega
            clear HLAST
            go_wp2
            go_loopw [71] (fun v wr => ∃ (j : Nat) (V3 : Nat → Prop), j ≤ 657 ∧ v = .int .i64 j ∧ Mv V2 V3 W2 wr ∧ FlAt (fun _ => False) V3 wr p dim ms (Ft.run dim ms j s2) (Ft.qs ms (Ft.run dim ms j s2))) (fun v _ => 658 - (intOf v).toNat)
            case atStart => exact ⟨0, V2, Nat.zero_le _, rfl, Mv.refl _ _, HAT2.out⟩
            case round =>
              clear HAT2
              obtain ⟨j, V3, hj, rfl, hmv, hat⟩ := hrel
              have HMV3 := hid hmv
              have HAL3 := hid (HAL2.out.run j)
              have hj2 : (j : Int) < 2000 := by omega
              by_cases hbe : (Ft.run dim ms j s2).bag = []
              · have HD : Hid (Calls _ _ _ _ _) := fdeliver0_no hat HAL3.out hbe
                have HAT3' := hid hat
                have HBE := hid hbe
                have HST3 := hid (Ft.run_settled HAL2.out.i HAL2.out.m HAL2.out.t HST2.out j)
                clear hmv hat hbe
                go_wp2_with fail
                refine HD.out.mono ?_
                rintro e u5 ⟨rfl, hb5⟩
                have HAK : Hid (Calls _ _ _ _ _) := faskM (HAT3'.out.keep hb5) HAL3.out.i HAL3.out.m HAL3.out.t
                have HM5 := hid ((HMV2.out.trans HMV3.out).bel hb5)
                clear hb5 HD HAT3'
                go_wp2_with (go_at_call 25; refine HAK.out.mono ?_; rintro e u6 ⟨rfl, hm6, hat6⟩)
                have hat7 : FlAt (fun _ => False) V3 u6 p dim ms (Ft.ask ms (Ft.run dim ms j s2)) (Ft.qs ms (Ft.ask ms (Ft.run dim ms j s2))) := by rw [qs_ask]; exact hat6
                have HE := hid (And.intro (HM5.out.trans hm6) hat7)
                clear hm6 hat6 hat7
                go_roundw
                case rel => exact ⟨r + 1, V3, _, by omega, by go_num, HE.out.1, HE.out.2, HAL3.out.ask, Ft.ask_settled HST3.out, fun _ => ⟨_, HBE.out, HAL3.out, HST3.out, rfl⟩⟩
                case measure => simp [intOf]; omega
              · have HD : Hid (Calls _ _ _ _ _) := fdeliver0 hat HAL3.out hbe
                have hj3 := run_few HAL2.out hbe
                clear hmv hat hbe
                go_wp2_with (go_at_call 24; refine HD.out.mono ?_; rintro e u5 ⟨rfl, V5, hm5, hat5⟩)
                have HE := hid (And.intro (HMV3.out.trans hm5) hat5)
                clear hm5 hat5 HD
                go_roundw
                case rel => exact ⟨j + 1, V5, by omega, by go_num, HE.out.1, HE.out.2⟩
                case measure => simp [intOf]; omega
          · have hrn : r = n + 1 := by omega
            have hli : ¬ (r : Int) < (n : Int) + 1 := by omega
            obtain ⟨s1, hs1b, hs1a, hs1s, hs2⟩ := HLAST.out (by omega)
            subst hs2
            have HS1 := hid (And.intro hs1b (And.intro hs1a hs1s))
            clear hs1b hs1a hs1s HLAST hrn
            go_wp2
            go_loopw [80] (fun v wr => ∃ (j : Nat) (V3 : Nat → Prop), j ≤ 657 ∧ v = .int .i64 j ∧ Mv V2 V3 W2 wr ∧ FlAt (fun _ => False) V3 wr p dim ms (Ft.run dim ms j (Ft.ask ms s1)) (Ft.qs ms (Ft.run dim ms j (Ft.ask ms s1)))) (fun v _ => 658 - (intOf v).toNat)
            case atStart => exact ⟨0, V2, Nat.zero_le _, rfl, Mv.refl _ _, HAT2.out⟩
            case round =>
              clear HAT2
              obtain ⟨j, V3, hj, rfl, hmv, hat⟩ := hrel
              have HMV3 := hid hmv
              have HAL3 := hid (HAL2.out.run j)
              have hj2 : (j : Int) < 2000 := by omega
              by_cases hbe : (Ft.run dim ms j (Ft.ask ms s1)).bag = []
              · have HD : Hid (Calls _ _ _ _ _) := fdeliver0_no hat HAL3.out hbe
                have hlay := ends_done HS1.out.2.1 HS1.out.2.2 HS1.out.1 hj hbe
                have htk : (Ft.run dim ms j (Ft.ask ms s1)).toks = Md.forward ms T := HAL3.out.i.done (by omega)
                have hwf := Ft.worked_few HAL3.out.i HAL3.out.m HAL3.out.t HAL3.out.n
                have htl : (Ft.run dim ms j (Ft.ask ms s1)).toks.length = m := by rw [htk]; exact (Md.tright_forward_len ms T).trans HLM.out.2
                have hmm := HMV2.out.trans HMV3.out
                have hkm := hmm.box HKM.out (fun hv => by have := HVU1.out _ hv; have := HK3U.out; omega)
                have hBw : Below w.heap.size w wr := hmm.below HV1.out HB1W.out.size HB1W.out
                generalize Ft.run dim ms j (Ft.ask ms s1) = s3 at *
                obtain ⟨wk, hwk⟩ : ∃ wk, Ft.worked s3 = wk := ⟨_, rfl⟩
                rw [hwk] at hwf
                have HS3 := hid (And.intro hlay (And.intro htk (And.intro hwk (And.intro htl hwf))))
                have HKM3 := hid hkm
                have HAT3' := hid hat
                have HBW := hid hBw
                clear hmv hat hbe hlay htk hwf htl hmm hkm hBw hwk HKM
                go_wp2_with fail
                refine HD.out.mono ?_
                rintro e u5 ⟨rfl, hb5⟩
                have HDN : Hid (Calls _ _ _ _ _) := fdone_yes (HAT3'.out.keep hb5) HS3.out.1 HAL3.out.short m HS3.out.2.2.2.1
                have HB5 := hid (bel_then HBW.out hb5)
                have HAT5 := hid (HAT3'.out.keep hb5)
                have HK5 := hid (HKM3.out.keep hb5)
                clear hb5 HD HAT3' HBW HKM3
                go_wp2_with fail
                refine HDN.out.mono ?_
                rintro e u6 ⟨hb6, ra, rc, rfl, hr6⟩
                rw [HS3.out.2.1] at hr6
                have HAT6 := hid (HAT5.out.keep hb6)
                have HK6 := hid (HK5.out.keep hb6)
                have HB6 := hid (bel_then HB5.out hb6)
                have HR6 := hid hr6
                have hD : Below u6.heap.size u6 u6.drew := (Below.refl _ u6).drew
                have HNI6 : Hid (lysS.rep u6 everywhere [.slice a n c] ms ∧ matS.rep u6 everywhere [.slice b m d] T) := ⟨Shape.any (Shape.now HIN.out.1 HB6.out), Shape.any (Shape.now HIN.out.2 HB6.out)⟩
                have HFW : Hid (Calls _ _ _ _ _) := rmforward a n c ms dim b m d T u6.drew (Shape.below HNI6.out.1 hD) (Shape.below HNI6.out.2 hD) HMAY.out.1 HMAY.out.2.1
                have HSAM : Hid (∀ u wa wc', Below u6.heap.size u6 u → matS.rep u everywhere [.slice wa m wc'] (Md.forward ms T) → Calls Tryz.prog 23 #[.slice ra m rc, .slice wa m wc'] u fun e w' => e = .returned (.bool true) ∧ Below u.heap.size u w') := fun u wa wc' hu hw => msame ra wa m rc wc' (Md.forward ms T) u (Shape.below HR6.out hu) hw (Pl.Short.sized (Md.tright_short (Md.forward_right (fun l hl => HMAY.out.1.2.2.2.2 l hl) HMAY.out.2.1) HMAY.out.1.2.1))
                have HWKD : Hid (∀ u, Below u6.heap.size u6 u → Calls Tryz.prog 20 #[.pointer (some ⟨p, 0, none⟩)] u fun e w' => e = .returned (.int .i64 (wk : Int)) ∧ Below u.heap.size u w') := fun u hu => by
                  have h9 := fworked (HAT6.out.keep hu) HAL3.out.i.len HAL3.out.worked
                  rw [HS3.out.2.2.1] at h9
                  exact h9
                have HSS : Hid (∀ u, Below u6.heap.size u6 u → u.cell? ⟨w.heap.size, 0, none⟩ = some (.int .i64 dim) ∧ u.cell? ⟨w.heap.size, 1, none⟩ = some (.slice a n c)) := fun u hu => ⟨(HK6.out.keep hu).cell 0 rfl, (HK6.out.keep hu).cell 1 rfl⟩
                have hmn : m * n ≤ 16 * 4 := Nat.mul_le_mul (by have := HMAY.out.2.1.2.1; have := HLM.out.2; omega) (by have := HMAY.out.1.2.2.2.1; have := HLM.out.1; omega)
                have hmn2 : (m : Int) * (n : Int) = ((m * n : Nat) : Int) := (Int.natCast_mul m n).symm
                have hm8 : (8 : Int) * (m : Int) * (n : Int) = 8 * ((m * n : Nat) : Int) := by rw [Int.mul_assoc, hmn2]
                have hwk2 : wk ≤ 8 * (m * n) := by
                  have h9 := HS3.out.2.2.2.2
                  rw [HLM.out.1, HLM.out.2] at h9
                  have h8 : n * m = m * n := Nat.mul_comm n m
                  omega
                have hm16 : m ≤ 16 := by have := HMAY.out.2.1.2.1; have := HLM.out.2; omega
                have hw1 : IntKind.i64.wrap (8 * (m : Int)) = 8 * (m : Int) := by rw [IntKind.wrap_i64]; omega
                have hw2 : IntKind.i64.wrap (8 * (m : Int) * (n : Int)) = 8 * (m : Int) * (n : Int) := by rw [hm8, IntKind.wrap_i64]; omega
                have hle : (wk : Int) ≤ 8 * (m : Int) * (n : Int) := by rw [hm8]; omega
                obtain ⟨i1, i2⟩ := HSS.out u6 (Below.refl _ _)
                clear hb6 hr6 HDN HAT5 HB5 HK5 hmn hmn2 hm8 hwk2 hm16 hj hlt
                go_wp2
                go_region_held3 (fun u => u.cell? ⟨w.heap.size, 0, none⟩ = some (.int .i64 dim) ∧ u.cell? ⟨w.heap.size, 1, none⟩ = some (.slice a n c))
                  (first
                    | exact HSS.out _ hd10
                    | exact HSS.out _ hd9
                    | exact HSS.out _ hd8
                    | exact HSS.out _ hd7
                    | exact HSS.out _ hD
                    | exact HSS.out _ (Below.refl _ _)
                    | go_keep)
                  (first
                    | (go_at_call 13; refine (HAW.out _).mono ?_; rintro e u10 ⟨rfl, hb10⟩; have hd10 := bel_then hd9 hb10)
                    | (go_at_call 20; refine (HWKD.out _ hd8).mono ?_; rintro e u9 ⟨rfl, hb9⟩; have hd9 := bel_then hd8 hb9)
                    | (go_at_call 23; refine (HSAM.out _ _ _ hd7 hr7).mono ?_; rintro e u8 ⟨rfl, hb8⟩; have hd8 := bel_then hd7 hb8)
                    | (go_at_call 21; refine HFW.out.mono ?_; rintro e u7 ⟨hb7, wa, wc', rfl, hr7⟩; have hd7 := bel_then hD hb7))
                all_goals
                  have hfin := bel_then HB6.out hd10
                  clear hd10 hd9 hd8 hd7 hr7 i1 i2
                  go_wp2
                  go_ret
                  exact ⟨rfl, hfin⟩
              · have HD : Hid (Calls _ _ _ _ _) := fdeliver0 hat HAL3.out hbe
                have hj3 := run_few HAL2.out hbe
                clear hmv hat hbe
                go_wp2_with (go_at_call 24; refine HD.out.mono ?_; rintro e u5 ⟨rfl, V5, hm5, hat5⟩)
                have HE := hid (And.intro (HMV3.out.trans hm5) hat5)
                clear hm5 hat5 HD
                go_roundw
                case rel => exact ⟨j + 1, V5, by omega, by go_num, HE.out.1, HE.out.2⟩
                case measure => simp [intOf]; omega
    · have hli : ¬ (i : Int) < (an : Int) := by omega
      have HAL1 := hid HAL.out
      have HST1 := hid HST.out
      have hm1 : Box wr w.heap.size 24 #[.int .i64 dim, .slice a n c] := HMV.out.box HK3.out.1 (fun hv => by have := HVU.out _ hv; have := HK3U.out; omega)
      have HKM := hid hm1
      have HVU1 : Hid (∀ b, V' b → u1.heap.size ≤ b) := HMV.out.base HVU.out HU13.out
      have HV1 : Hid (∀ b, V' b → w.heap.size ≤ b) := HMV.out.base HV3.out HB3.out.size
      obtain ⟨W1, hW1⟩ : ∃ W1, W1 = wr := ⟨_, rfl⟩
      subst hW1
      have m1 := hm1.cell 1 rfl
      clear hm1 HMV HAL HST
      go_wp2
      go_loopw [69] (fun v wr => ∃ (r : Nat) (V2 : Nat → Prop) (s2 : Ft.St), r ≤ n + 1 ∧ v = .int .i64 r ∧ Mv V' V2 W1 wr ∧ FlAt (fun _ => False) V2 wr p dim ms s2 (Ft.qs ms s2) ∧ Alive dim ms T s2 ∧ Ft.Settled ms s2 ∧ (0 < r → ∃ s1, s1.bag = [] ∧ Alive dim ms T s1 ∧ Ft.Settled ms s1 ∧ s2 = Ft.ask ms s1)) (fun v _ => n + 1 - (intOf v).toNat)
      case atStart => exact ⟨0, V', s, Nat.zero_le _, rfl, Mv.refl _ _, HAT.out, HAL1.out, HST1.out, fun h => absurd h (Nat.lt_irrefl 0)⟩
      case round =>
        clear m1 HAT HAL1 HST1
        obtain ⟨r, V2, s2, hr, rfl, hmv, hat, hal, hst, hlast⟩ := hrel
        have HMV2 := hid hmv
        have HAT2 := hid hat
        have HAL2 := hid hal
        have HST2 := hid hst
        have HLAST := hid hlast
        clear hmv hat hal hst hlast
        obtain ⟨W2, hW2⟩ : ∃ W2, W2 = wr := ⟨_, rfl⟩
        subst hW2
        by_cases hlt : r < n + 1
        · have hli : (r : Int) < (n : Int) + 1 := by omega
          clear HLAST
          go_wp2
          go_loopw [71] (fun v wr => ∃ (j : Nat) (V3 : Nat → Prop), j ≤ 657 ∧ v = .int .i64 j ∧ Mv V2 V3 W2 wr ∧ FlAt (fun _ => False) V3 wr p dim ms (Ft.run dim ms j s2) (Ft.qs ms (Ft.run dim ms j s2))) (fun v _ => 658 - (intOf v).toNat)
          case atStart => exact ⟨0, V2, Nat.zero_le _, rfl, Mv.refl _ _, HAT2.out⟩
          case round =>
            clear HAT2
            obtain ⟨j, V3, hj, rfl, hmv, hat⟩ := hrel
            have HMV3 := hid hmv
            have HAL3 := hid (HAL2.out.run j)
            have hj2 : (j : Int) < 2000 := by omega
            by_cases hbe : (Ft.run dim ms j s2).bag = []
            · have HD : Hid (Calls _ _ _ _ _) := fdeliver0_no hat HAL3.out hbe
              have HAT3' := hid hat
              have HBE := hid hbe
              have HST3 := hid (Ft.run_settled HAL2.out.i HAL2.out.m HAL2.out.t HST2.out j)
              clear hmv hat hbe
              go_wp2_with fail
              refine HD.out.mono ?_
              rintro e u5 ⟨rfl, hb5⟩
              have HAK : Hid (Calls _ _ _ _ _) := faskM (HAT3'.out.keep hb5) HAL3.out.i HAL3.out.m HAL3.out.t
              have HM5 := hid ((HMV2.out.trans HMV3.out).bel hb5)
              clear hb5 HD HAT3'
              go_wp2_with (go_at_call 25; refine HAK.out.mono ?_; rintro e u6 ⟨rfl, hm6, hat6⟩)
              have hat7 : FlAt (fun _ => False) V3 u6 p dim ms (Ft.ask ms (Ft.run dim ms j s2)) (Ft.qs ms (Ft.ask ms (Ft.run dim ms j s2))) := by rw [qs_ask]; exact hat6
              have HE := hid (And.intro (HM5.out.trans hm6) hat7)
              clear hm6 hat6 hat7
              go_roundw
              case rel => exact ⟨r + 1, V3, _, by omega, by go_num, HE.out.1, HE.out.2, HAL3.out.ask, Ft.ask_settled HST3.out, fun _ => ⟨_, HBE.out, HAL3.out, HST3.out, rfl⟩⟩
              case measure => simp [intOf]; omega
            · have HD : Hid (Calls _ _ _ _ _) := fdeliver0 hat HAL3.out hbe
              have hj3 := run_few HAL2.out hbe
              clear hmv hat hbe
              go_wp2_with (go_at_call 24; refine HD.out.mono ?_; rintro e u5 ⟨rfl, V5, hm5, hat5⟩)
              have HE := hid (And.intro (HMV3.out.trans hm5) hat5)
              clear hm5 hat5 HD
              go_roundw
              case rel => exact ⟨j + 1, V5, by omega, by go_num, HE.out.1, HE.out.2⟩
              case measure => simp [intOf]; omega
        · have hrn : r = n + 1 := by omega
          have hli : ¬ (r : Int) < (n : Int) + 1 := by omega
          obtain ⟨s1, hs1b, hs1a, hs1s, hs2⟩ := HLAST.out (by omega)
          subst hs2
          have HS1 := hid (And.intro hs1b (And.intro hs1a hs1s))
          clear hs1b hs1a hs1s HLAST hrn
          go_wp2
          go_loopw [80] (fun v wr => ∃ (j : Nat) (V3 : Nat → Prop), j ≤ 657 ∧ v = .int .i64 j ∧ Mv V2 V3 W2 wr ∧ FlAt (fun _ => False) V3 wr p dim ms (Ft.run dim ms j (Ft.ask ms s1)) (Ft.qs ms (Ft.run dim ms j (Ft.ask ms s1)))) (fun v _ => 658 - (intOf v).toNat)
          case atStart => exact ⟨0, V2, Nat.zero_le _, rfl, Mv.refl _ _, HAT2.out⟩
          case round =>
            clear HAT2
            obtain ⟨j, V3, hj, rfl, hmv, hat⟩ := hrel
            have HMV3 := hid hmv
            have HAL3 := hid (HAL2.out.run j)
            have hj2 : (j : Int) < 2000 := by omega
            by_cases hbe : (Ft.run dim ms j (Ft.ask ms s1)).bag = []
            · have HD : Hid (Calls _ _ _ _ _) := fdeliver0_no hat HAL3.out hbe
              have hlay := ends_done HS1.out.2.1 HS1.out.2.2 HS1.out.1 hj hbe
              have htk : (Ft.run dim ms j (Ft.ask ms s1)).toks = Md.forward ms T := HAL3.out.i.done (by omega)
              have hwf := Ft.worked_few HAL3.out.i HAL3.out.m HAL3.out.t HAL3.out.n
              have htl : (Ft.run dim ms j (Ft.ask ms s1)).toks.length = m := by rw [htk]; exact (Md.tright_forward_len ms T).trans HLM.out.2
              have hmm := HMV2.out.trans HMV3.out
              have hkm := hmm.box HKM.out (fun hv => by have := HVU1.out _ hv; have := HK3U.out; omega)
              have hBw : Below w.heap.size w wr := hmm.below HV1.out HB1W.out.size HB1W.out
              generalize Ft.run dim ms j (Ft.ask ms s1) = s3 at *
              obtain ⟨wk, hwk⟩ : ∃ wk, Ft.worked s3 = wk := ⟨_, rfl⟩
              rw [hwk] at hwf
              have HS3 := hid (And.intro hlay (And.intro htk (And.intro hwk (And.intro htl hwf))))
              have HKM3 := hid hkm
              have HAT3' := hid hat
              have HBW := hid hBw
              clear hmv hat hbe hlay htk hwf htl hmm hkm hBw hwk HKM
              go_wp2_with fail
              refine HD.out.mono ?_
              rintro e u5 ⟨rfl, hb5⟩
              have HDN : Hid (Calls _ _ _ _ _) := fdone_yes (HAT3'.out.keep hb5) HS3.out.1 HAL3.out.short m HS3.out.2.2.2.1
              have HB5 := hid (bel_then HBW.out hb5)
              have HAT5 := hid (HAT3'.out.keep hb5)
              have HK5 := hid (HKM3.out.keep hb5)
              clear hb5 HD HAT3' HBW HKM3
              go_wp2_with fail
              refine HDN.out.mono ?_
              rintro e u6 ⟨hb6, ra, rc, rfl, hr6⟩
              rw [HS3.out.2.1] at hr6
              have HAT6 := hid (HAT5.out.keep hb6)
              have HK6 := hid (HK5.out.keep hb6)
              have HB6 := hid (bel_then HB5.out hb6)
              have HR6 := hid hr6
              have hD : Below u6.heap.size u6 u6.drew := (Below.refl _ u6).drew
              have HNI6 : Hid (lysS.rep u6 everywhere [.slice a n c] ms ∧ matS.rep u6 everywhere [.slice b m d] T) := ⟨Shape.any (Shape.now HIN.out.1 HB6.out), Shape.any (Shape.now HIN.out.2 HB6.out)⟩
              have HFW : Hid (Calls _ _ _ _ _) := rmforward a n c ms dim b m d T u6.drew (Shape.below HNI6.out.1 hD) (Shape.below HNI6.out.2 hD) HMAY.out.1 HMAY.out.2.1
              have HSAM : Hid (∀ u wa wc', Below u6.heap.size u6 u → matS.rep u everywhere [.slice wa m wc'] (Md.forward ms T) → Calls Tryz.prog 23 #[.slice ra m rc, .slice wa m wc'] u fun e w' => e = .returned (.bool true) ∧ Below u.heap.size u w') := fun u wa wc' hu hw => msame ra wa m rc wc' (Md.forward ms T) u (Shape.below HR6.out hu) hw (Pl.Short.sized (Md.tright_short (Md.forward_right (fun l hl => HMAY.out.1.2.2.2.2 l hl) HMAY.out.2.1) HMAY.out.1.2.1))
              have HWKD : Hid (∀ u, Below u6.heap.size u6 u → Calls Tryz.prog 20 #[.pointer (some ⟨p, 0, none⟩)] u fun e w' => e = .returned (.int .i64 (wk : Int)) ∧ Below u.heap.size u w') := fun u hu => by
                have h9 := fworked (HAT6.out.keep hu) HAL3.out.i.len HAL3.out.worked
                rw [HS3.out.2.2.1] at h9
                exact h9
              have HSS : Hid (∀ u, Below u6.heap.size u6 u → u.cell? ⟨w.heap.size, 0, none⟩ = some (.int .i64 dim) ∧ u.cell? ⟨w.heap.size, 1, none⟩ = some (.slice a n c)) := fun u hu => ⟨(HK6.out.keep hu).cell 0 rfl, (HK6.out.keep hu).cell 1 rfl⟩
              have hmn : m * n ≤ 16 * 4 := Nat.mul_le_mul (by have := HMAY.out.2.1.2.1; have := HLM.out.2; omega) (by have := HMAY.out.1.2.2.2.1; have := HLM.out.1; omega)
              have hmn2 : (m : Int) * (n : Int) = ((m * n : Nat) : Int) := (Int.natCast_mul m n).symm
              have hm8 : (8 : Int) * (m : Int) * (n : Int) = 8 * ((m * n : Nat) : Int) := by rw [Int.mul_assoc, hmn2]
              have hwk2 : wk ≤ 8 * (m * n) := by
                have h9 := HS3.out.2.2.2.2
                rw [HLM.out.1, HLM.out.2] at h9
                have h8 : n * m = m * n := Nat.mul_comm n m
                omega
              have hm16 : m ≤ 16 := by have := HMAY.out.2.1.2.1; have := HLM.out.2; omega
              have hw1 : IntKind.i64.wrap (8 * (m : Int)) = 8 * (m : Int) := by rw [IntKind.wrap_i64]; omega
              have hw2 : IntKind.i64.wrap (8 * (m : Int) * (n : Int)) = 8 * (m : Int) * (n : Int) := by rw [hm8, IntKind.wrap_i64]; omega
              have hle : (wk : Int) ≤ 8 * (m : Int) * (n : Int) := by rw [hm8]; omega
              obtain ⟨i1, i2⟩ := HSS.out u6 (Below.refl _ _)
              clear hb6 hr6 HDN HAT5 HB5 HK5 hmn hmn2 hm8 hwk2 hm16 hj hlt
              go_wp2
              go_region_held3 (fun u => u.cell? ⟨w.heap.size, 0, none⟩ = some (.int .i64 dim) ∧ u.cell? ⟨w.heap.size, 1, none⟩ = some (.slice a n c))
                (first
                  | exact HSS.out _ hd10
                  | exact HSS.out _ hd9
                  | exact HSS.out _ hd8
                  | exact HSS.out _ hd7
                  | exact HSS.out _ hD
                  | exact HSS.out _ (Below.refl _ _)
                  | go_keep)
                (first
                  | (go_at_call 13; refine (HAW.out _).mono ?_; rintro e u10 ⟨rfl, hb10⟩; have hd10 := bel_then hd9 hb10)
                  | (go_at_call 20; refine (HWKD.out _ hd8).mono ?_; rintro e u9 ⟨rfl, hb9⟩; have hd9 := bel_then hd8 hb9)
                  | (go_at_call 23; refine (HSAM.out _ _ _ hd7 hr7).mono ?_; rintro e u8 ⟨rfl, hb8⟩; have hd8 := bel_then hd7 hb8)
                  | (go_at_call 21; refine HFW.out.mono ?_; rintro e u7 ⟨hb7, wa, wc', rfl, hr7⟩; have hd7 := bel_then hD hb7))
              all_goals
                have hfin := bel_then HB6.out hd10
                clear hd10 hd9 hd8 hd7 hr7 i1 i2
                go_wp2
                go_ret
                exact ⟨rfl, hfin⟩
            · have HD : Hid (Calls _ _ _ _ _) := fdeliver0 hat HAL3.out hbe
              have hj3 := run_few HAL2.out hbe
              clear hmv hat hbe
              go_wp2_with (go_at_call 24; refine HD.out.mono ?_; rintro e u5 ⟨rfl, V5, hm5, hat5⟩)
              have HE := hid (And.intro (HMV3.out.trans hm5) hat5)
              clear hm5 hat5 HD
              go_roundw
              case rel => exact ⟨j + 1, V5, by omega, by go_num, HE.out.1, HE.out.2⟩
              case measure => simp [intOf]; omega

end Go.Proofs.YtfidgcanolegfaaGreat

/- FleetSame, with letters: two fleets. -/
namespace Go.Proofs.YtfidgcanolegfaaGreat
open Go.ChangeShapes Go.WideShapes Go.ChangeAt Go.RowKit



/-- The round's end: the frames of both are compared, then the next act. -/
theorem act_all {w : World} {F : Nat → Prop} {a : Option Addr} {n c : Nat} {l : List (Int × Int × Int × Unit)} (h : (sliceS actS).rep w F [.slice a n c] l) (hf : ∀ x ∈ l, (Lit.int .u8 x.1).wf = true ∧ (Lit.int .u8 x.2.1).wf = true ∧ (Lit.int .u8 x.2.2.1).wf = true ∧ True) {j : Nat} (hj : j < n) :
    ∃ b off, ∃ k q r : Nat, a = some ⟨b, off, none⟩ ∧ b < w.heap.size ∧ k ≤ 255 ∧ q ≤ 255 ∧ r ≤ 255 ∧ ∀ u, Below w.heap.size w u → u.cell? ⟨b, off + j * 3, none⟩ = some (.int .u8 (k : Int)) ∧ u.cell? ⟨b, off + j * 3 + 1, none⟩ = some (.int .u8 (q : Int)) ∧ u.cell? ⟨b, off + j * 3 + 2, none⟩ = some (.int .u8 (r : Int)) := by
  obtain ⟨b, off, k, q, r, ha, hb, hk, hq, hr, c0, c1, c2⟩ := act_at h hf hj
  exact ⟨b, off, k, q, r, ha, hb, hk, hq, hr, fun u hu => ⟨(hu.cell hb).trans c0, (hu.cell hb).trans c1, (hu.cell hb).trans c2⟩⟩
set_option maxRecDepth 100000 in
set_option maxHeartbeats 8000000 in
theorem flsame (dim : Int) (a : Option Addr) (n c : Nat) (ms : List Ly) (ep : Int) (pa : Option Addr) (pn pc : Nat) (h : List (List Int)) (b : Option Addr) (m d : Nat) (T : List (List Int)) (aa : Option Addr) (an ac : Nat) (al : List (Int × Int × Int × Unit)) (w : World) (hm : lysS.rep w everywhere [.slice a n c] ms) (hp : matS.rep w everywhere [.slice pa pn pc] h) (ht : matS.rep w everywhere [.slice b m d] T) (hacts : (sliceS actS).rep w everywhere [.slice aa an ac] al) (hfit : ∀ x ∈ al, (Lit.int .u8 x.1).wf = true ∧ (Lit.int .u8 x.2.1).wf = true ∧ (Lit.int .u8 x.2.2.1).wf = true ∧ True) :
    Calls Tryz.prog 7 #[.agg #[.int .i64 dim, .slice a n c], .agg #[.int .i64 ep, .slice pa pn pc], .slice b m d, .slice aa an ac] w fun e w' => e = .returned (.bool true) ∧ Below w.heap.size w w' := by
  have HACT := hid (And.intro (Shape.low hacts) hfit)
  clear hacts hfit
  have hB := bel_two w (.cells #[.int .i64 dim, .slice a n c] 24) (.cells #[.int .i64 ep, .slice pa pn pc] 27)
  have km := (Box.new w 24 #[.int .i64 dim, .slice a n c]).keep (new_bel _ (.cells #[.int .i64 ep, .slice pa pn pc] 27))
  have kp := Box.new (w.alloc (.cells #[.int .i64 dim, .slice a n c] 24)) 27 #[.int .i64 ep, .slice pa pn pc]
  have e1 : (w.alloc (.cells #[.int .i64 dim, .slice a n c] 24)).heap.size = w.heap.size + 1 := by simp
  rw [e1] at kp
  have hm1 := Shape.below hm hB
  have hp1 := Shape.below hp hB
  have ht1 := Shape.below ht hB
  have HS1 : Hid (Calls _ _ _ _ _) := msmall a n c ms dim _ hm1
  have HAW : Hid (∀ u, Calls Tryz.prog 13 #[] u fun e w' => e = .returned (.bool true) ∧ Below u.heap.size u w') := fawake
  have hlm := (sliceS_len hm).1
  clear hm hp ht e1
  go_enter Tryz.func7, Tryz.ntmps7
  go_upto_region 1 with fail
  generalize (w.alloc (.cells #[.int .i64 dim, .slice a n c] 24)).alloc (.cells #[.int .i64 ep, .slice pa pn pc] 27) = W at *
  have HR := hid (And.intro hm1 (And.intro hp1 ht1))
  have HK := hid (And.intro km kp)
  have m0 := km.cell 0 rfl
  have m1 := km.cell 1 rfl
  clear hm1 hp1 ht1 km kp
  go_wp2_with fail
  refine HS1.out.mono ?_
  rintro e u1 ⟨hs1, hb1⟩
  have hB1 := bel_then hB hb1
  by_cases d1 : Md.Small ms
  case neg =>
    rw [hs1.not d1]
    clear d1 hs1 m0 m1
    go_wp2_with (go_at_call 13; refine (HAW.out _).mono ?_; rintro e u9 ⟨rfl, hb9⟩)
    go_ret
    exact ⟨rfl, bel_then hB1 hb9⟩
  rw [hs1.is d1]
  have D1 := hid d1
  have HS2 : Hid (Calls _ _ _ _ _) := small pa pn pc h _ u1 (Shape.below HR.out.2.1 hb1)
  have p1 := (HK.out.2.keep hb1).cell 1 rfl
  have HB1 := hid hb1
  clear hs1 d1 m0 m1 hb1
  go_wp2_with fail
  refine HS2.out.mono ?_
  rintro e u1' ⟨hs2, hu9⟩
  replace hu9 := hu9.symm
  subst hu9
  by_cases d2 : Mx.Small h
  case neg =>
    rw [hs2.not d2]
    clear d2 hs2 p1
    go_wp2_with (go_at_call 13; refine (HAW.out _).mono ?_; rintro e u9 ⟨rfl, hb9⟩)
    go_ret
    exact ⟨rfl, bel_then hB1 hb9⟩
  rw [hs2.is d2]
  have D2 := hid d2
  have HS3 : Hid (Calls _ _ _ _ _) := small b m d T _ u1 (Shape.below HR.out.2.2 HB1.out)
  clear hs2 d2 p1
  go_wp2_with fail
  refine HS3.out.mono ?_
  rintro e u1' ⟨hs3, hu9⟩
  replace hu9 := hu9.symm
  subst hu9
  by_cases d3 : Mx.Small T
  case neg =>
    rw [hs3.not d3]
    clear d3 hs3
    go_wp2_with (go_at_call 13; refine (HAW.out _).mono ?_; rintro e u9 ⟨rfl, hb9⟩)
    go_ret
    exact ⟨rfl, bel_then hB1 hb9⟩
  rw [hs3.is d3]
  have HSM := hid (And.intro D1.out (And.intro D2.out d3))
  have HNI : Hid (NewIn (· < u1.heap.size) u1 a n c ms pa pn pc h b m d T) := ⟨Shape.low (Shape.below HR.out.1 HB1.out), Shape.low (Shape.below HR.out.2.1 HB1.out), Shape.low (Shape.below HR.out.2.2 HB1.out), fun _ hb => hb, by have h9 : ms.length ≤ 5 := D1.out.1; omega, fun l hl => Md.small_lsized (D1.out.2 l hl), Ex.small_sized D2.out, Ex.small_sized d3⟩
  have HK1 := hid (And.intro (HK.out.1.keep HB1.out) (HK.out.2.keep HB1.out))
  have HBA := hid hB1
  clear hs3 d3 HS1 HS2 HS3 D1 D2 HR HK HB1 hB hB1 hlm
  obtain ⟨bm, hbm⟩ : ∃ bm : Bool, bm = true ↔ May dim ms ep h T := by
    rcases Classical.em (May dim ms ep h T) with h9 | h9
    · exact ⟨true, fun _ => h9, fun _ => rfl⟩
    · exact ⟨false, fun e => (by cases e), fun h8 => absurd h8 h9⟩
  have HBM := hid hbm
  have HCM : Hid (Calls _ _ _ _ _) := rmay dim a n c ms ep pa pn pc h b m d T u1 HNI.out bm hbm
  have m0 := HK1.out.1.cell 0 rfl
  have m1 := HK1.out.1.cell 1 rfl
  have p0 := HK1.out.2.cell 0 rfl
  have p1 := HK1.out.2.cell 1 rfl
  clear hbm
  go_wp2_with fail
  refine HCM.out.mono ?_
  rintro e u2 ⟨rfl, hb2⟩
  have hB2 := bel_then HBA.out hb2
  clear m0 m1 p0 p1
  cases bm with
  | false =>
    go_wp2_with (go_at_call 13; refine (HAW.out _).mono ?_; rintro e u9 ⟨rfl, hb9⟩)
    go_ret
    exact ⟨rfl, bel_then hB2 hb9⟩
  | true =>
  have HMAY : Hid (May dim ms ep h T) := HBM.out.1 rfl
  have HNI2 := hid (HNI.out.keep hb2)
  have HNE : Hid (∀ (O : Nat → Prop) (u : World), Below u2.heap.size u2 u → (∀ b, O b → b < u.heap.size ∧ u2.heap.size ≤ b) → Calls Tryz.prog 14 #[.agg #[.int .i64 dim, .slice a n c], .agg #[.int .i64 ep, .slice pa pn pc], .slice b m d] u fun e w' => Below u.heap.size u w' ∧ ∃ p V, e = .returned (.tuple #[.pointer (some ⟨p, 0, none⟩), .int .i64 0]) ∧ (∀ b, V b → u.heap.size ≤ b) ∧ FlAt O V w' p dim ms (Ft.start ms ep h T) (Ft.qs ms (Ft.start ms ep h T))) := fun O u hu ho => fnew (I := (· < u2.heap.size)) dim a n c ms ep pa pn pc h b m d T u ⟨Shape.below (lysS.mono HNI2.out.mm (fun b hb hlt => hlt)) hu, Shape.below (matS.mono HNI2.out.pp (fun b hb hlt => hlt)) hu, Shape.below (matS.mono HNI2.out.tt (fun b hb hlt => hlt)) hu, fun b hb => Nat.lt_of_lt_of_le hb hu.size, HNI2.out.mn, HNI2.out.mz, HNI2.out.ps, HNI2.out.ts⟩ (fun b hb => ⟨(ho b hb).1, fun h9 => by have := (ho b hb).2; omega⟩) HMAY.out
  have HK2 := hid (And.intro (HK1.out.1.keep hb2) (HK1.out.2.keep hb2))
  have HBB2 := hid hB2
  have HALS := hid (Alive.start HMAY.out)
  have HKU : Hid (w.heap.size + 1 < u1.heap.size) := HK1.out.2.lt
  have HU12 := hid hb2.size
  clear hb2 hB2 HK1 HNI HCM HBM HBA
  have m0 := HK2.out.1.cell 0 rfl
  have m1 := HK2.out.1.cell 1 rfl
  have p0 := HK2.out.2.cell 0 rfl
  have p1 := HK2.out.2.cell 1 rfl
  have HN1 : Hid (Calls _ _ _ _ _) := HNE.out (fun _ => False) u2 (Below.refl _ _) (fun b hb => hb.elim)
  go_wp2_with fail
  refine HN1.out.mono ?_
  rintro e u3 ⟨hb3, p, V, rfl, hV, hat⟩
  have HB3 := hid (bel_then HBB2.out hb3)
  have hV3 : ∀ b, V b → w.heap.size ≤ b := fun b hb => Nat.le_trans HBB2.out.size (hV b hb)
  have HN2 : Hid (Calls _ _ _ _ _) := HNE.out V u3 hb3 (fun b hb => ⟨hat.there.2.1 b hb, hV b hb⟩)
  have HV3 := hid hV3
  have HAT3 := hid hat
  have HK3 := hid (And.intro (HK2.out.1.keep hb3) (HK2.out.2.keep hb3))
  clear m0 m1 p0 p1 hb3 hV hV3 hat HN1 HK2 HNI2 HNE HBB2
  have m0 := HK3.out.1.cell 0 rfl
  have m1 := HK3.out.1.cell 1 rfl
  have p0 := HK3.out.2.cell 0 rfl
  have p1 := HK3.out.2.cell 1 rfl
  go_wp2_with fail
  refine HN2.out.mono ?_
  rintro e u4 ⟨hb4, p2, V2, rfl, hV2, hat2⟩
  have HB4 := hid (bel_then HB3.out hb4)
  have HV4 : Hid (∀ b, V2 b → w.heap.size ≤ b) := fun b hb => Nat.le_trans HB3.out.size (hV2 b hb)
  have HAT4 := hid hat2
  have HAT3' := hid (HAT3.out.other (O' := V2) ⟨hb4.os, hb4.tape, hb4.output, hb4.size, fun b hb _ => hb4.block b hb, fun _ hb => hb.elim, fun b hb => .inr (hV2 b hb)⟩ hat2.there.2.1)
  clear m0 m1 p0 p1 hb4 hV2 hat2 HN2 HAT3 HB3
  generalize hs0 : Ft.start ms ep h T = s0 at *
  clear hs0 HK3
  go_wp2
  go_loopw [13] (fun v wr => ∃ (i : Nat) (V' V2' : Nat → Prop) (s : Ft.St), i ≤ an ∧ v = .int .i64 i ∧ FlAt V2' V' wr p dim ms s (Ft.qs ms s) ∧ FlAt V' V2' wr p2 dim ms s (Ft.qs ms s) ∧ Alive dim ms T s ∧ Below w.heap.size w wr ∧ (∀ b, V' b → w.heap.size ≤ b) ∧ (∀ b, V2' b → w.heap.size ≤ b)) (fun v _ => an - (intOf v).toNat)
  case atStart => exact ⟨0, V, V2, s0, Nat.zero_le _, rfl, HAT3'.out, HAT4.out, HALS.out, HB4.out, HV3.out, HV4.out⟩
  case round =>
    clear HAT3' HAT4
    obtain ⟨i, V', V2', s, hi, rfl, hat, hat2, hal, hbw, hv, hv2⟩ := hrel
    have HBw := hid hbw
    have HAT := hid (And.intro hat hat2)
    have HAL := hid hal
    have HVI := hid (And.intro hv hv2)
    clear hat hat2 hal hbw hv hv2
    by_cases hlt : i < an
    · have hli : (i : Int) < (an : Int) := by omega
      by_cases h2 : i < 100
      · have hl2 : (i : Int) < 100 := by omega
        obtain ⟨b9, o9, k, q, r, rfl, hb9, hk, hq, hr, hcl⟩ := act_all HACT.out.1 HACT.out.2 hlt
        obtain ⟨c0, c1, c2⟩ := hcl wr HBw.out
        have HCL := hid hcl
        obtain ⟨s', hs'⟩ := acts_there dim ms k q r s
        have HC : Hid (Calls _ _ _ _ _) := fdo HAT.out.1 HAL.out k q r hk hq hr s' hs'
        have HAL2 := hid (HAL.out.acts hs')
        have HSS := hid (And.intro hs' (And.intro hk (And.intro hq hr)))
        have hi0 : (0 : Int) ≤ (i : Int) := by omega
        clear hs' hk hq hr hb9 hcl
        go_wp2_with fail
        refine HC.out.mono ?_
        rintro e u5 ⟨rfl, V5, hm5, hat5⟩
        have hg5 := HAT.out.2.other hm5 hat5.there.2.1
        have HC2 : Hid (Calls _ _ _ _ _) := fdo hg5 HAL.out k q r HSS.out.2.1 HSS.out.2.2.1 HSS.out.2.2.2 s' HSS.out.1
        have HB5 := hid (hm5.below HVI.out.1 HBw.out.size HBw.out)
        have HV5 : Hid (∀ b, V5 b → w.heap.size ≤ b) := hm5.base HVI.out.1 HBw.out.size
        have HAT5 := hid hat5
        clear hm5 hat5 hg5 HC c0 c1 c2
        obtain ⟨c0, c1, c2⟩ := HCL.out u5 HB5.out
        go_wp2_with fail
        refine HC2.out.mono ?_
        rintro e u6 ⟨rfl, V6, hm6, hat6⟩
        have HF6 := hid (HAT5.out.other hm6 hat6.there.2.1)
        have HG6 := hid hat6
        have HB6 := hid (hm6.below HVI.out.2 HB5.out.size HB5.out)
        have HVV : Hid ((∀ b, V5 b → w.heap.size ≤ b) ∧ (∀ b, V6 b → w.heap.size ≤ b)) := ⟨HV5.out, hm6.base HVI.out.2 HB5.out.size⟩
        clear hm6 hat6 HC2 HAT5 HB5 HAT HBw HVI HAL HSS c0 c1 c2
        obtain ⟨kb, hkb⟩ : ∃ kb, s'.bag.length = kb := ⟨_, rfl⟩
        have HKB := hid hkb
        have hk200 : kb ≤ 200 := by rw [← hkb]; exact HAL2.out.i.few
        clear hkb
        by_cases hdn : s'.lay = ms.length
        · obtain ⟨kt, hkt⟩ : ∃ kt, s'.toks.length = kt := ⟨_, rfl⟩
          have HD1 : Hid (Calls _ _ _ _ _) := fdone_yes HF6.out hdn HAL2.out.short kt hkt
          have HDK := hid (And.intro hdn hkt)
          clear hdn hkt
          go_wp2_with fail
          refine HD1.out.mono ?_
          rintro e u7 ⟨hb7, ra, rc, rfl, hr7⟩
          have HD2 : Hid (Calls _ _ _ _ _) := fdone_yes (HG6.out.keep hb7) HDK.out.1 HAL2.out.short kt HDK.out.2
          have HF7 := hid (HF6.out.keep hb7)
          have HG7 := hid (HG6.out.keep hb7)
          have HB7 := hid (bel_then HB6.out hb7)
          have HR7 := hid hr7
          clear hb7 hr7 HD1 HF6 HG6 HB6
          go_wp2_with fail
          refine HD2.out.mono ?_
          rintro e u8 ⟨hb8, qa, qc, rfl, hr8⟩
          have HR8 := hid (And.intro (Shape.below HR7.out hb8) hr8)
          clear HD2 hr8 HR7
          have HBG : Hid (Calls _ _ _ _ _) := fbag (HF7.out.keep hb8) HAL2.out.i.few kb HKB.out
          have HF8 := hid (HF7.out.keep hb8)
          have HG8 := hid (HG7.out.keep hb8)
          have HB8 := hid (bel_then HB7.out hb8)
          clear hb8
          go_wp2_with fail
          refine HBG.out.mono ?_
          rintro e U1 ⟨hb1', xa, xc, rfl, hx1⟩
          have HBG2 : Hid (Calls _ _ _ _ _) := fbag (HG8.out.keep hb1') HAL2.out.i.few kb HKB.out
          have HF81 := hid (HF8.out.keep hb1')
          have HG81 := hid (HG8.out.keep hb1')
          have HX1 := hid hx1
          have HU81 := hid hb1'
          have HB81 := hid (bel_then HB8.out hb1')
          clear hb1' hx1 HBG HF8 HG8 HB8
          go_wp2_with fail
          refine HBG2.out.mono ?_
          rintro e U2 ⟨hb2', ya, yc, rfl, hy2⟩
          have HX2 := hid (Shape.any (Shape.below HX1.out hb2'))
          have HY2 := hid (Shape.any hy2)
          have HU82 := hid (bel_then HU81.out hb2')
          have HF82 := hid (HF81.out.keep hb2')
          have HG82 := hid (HG81.out.keep hb2')
          have HB82 := hid (bel_then HB81.out hb2')
          clear hb2' hy2 HBG2 HF81 HG81 HB81 HX1 HU81
          have HSA : Hid (Calls _ _ _ _ _) := msame ra qa kt rc qc s'.toks U2 (Shape.below HR8.out.1 HU82.out) (Shape.below HR8.out.2 HU82.out) (Pl.Short.sized HAL2.out.short)
          go_wp2_with fail
          refine HSA.out.mono ?_
          rintro e U3 ⟨rfl, hb3'⟩
          have HX3 := hid (Shape.below HX2.out hb3')
          have HY3 := hid (Shape.below HY2.out hb3')
          have HF83 := hid (HF82.out.keep hb3')
          have HG83 := hid (HG82.out.keep hb3')
          have HB83 := hid (bel_then HB82.out hb3')
          clear hb3' HSA HX2 HY2 HF82 HG82 HB82 HU82
          have HWA : Hid (Calls _ _ _ _ _) := fworked HF83.out HAL2.out.i.len HAL2.out.worked
          go_wp2_with fail
          refine HWA.out.mono ?_
          rintro e U4 ⟨rfl, hb4'⟩
          have HWB : Hid (Calls _ _ _ _ _) := fworked (HG83.out.keep hb4') HAL2.out.i.len HAL2.out.worked
          have HX4 := hid (Shape.below HX3.out hb4')
          have HY4 := hid (Shape.below HY3.out hb4')
          have HF84 := hid (HF83.out.keep hb4')
          have HG84 := hid (HG83.out.keep hb4')
          have HB84 := hid (bel_then HB83.out hb4')
          clear hb4' HWA HX3 HY3 HF83 HG83 HB83
          go_wp2_with fail
          refine HWB.out.mono ?_
          rintro e U9 ⟨rfl, hb9'⟩
          have HX := hid (Shape.below HX4.out hb9')
          have HY := hid (Shape.below HY4.out hb9')
          have HFF := hid (HF84.out.keep hb9')
          have HFG := hid (HG84.out.keep hb9')
          have HB9 := hid (bel_then HB84.out hb9')
          clear hb9' HWB HX4 HY4 HF84 HG84 HB84
          go_wp2
          go_loopw [124] (fun v wr => ∃ k : Nat, k ≤ kb ∧ v = .int .i64 k ∧ Below U9.heap.size U9 wr) (fun v _ => kb - (intOf v).toNat)
          case atStart => exact ⟨0, Nat.zero_le _, rfl, Below.refl _ _⟩
          case round =>
            obtain ⟨k9, hk9, rfl, hbel⟩ := hrel
            by_cases hlt9 : k9 < kb
            · obtain ⟨bx, ox, hex, hbx, hcx⟩ := (Texts.of_rep (Shape.below HX.out hbel)).at hlt9
              obtain ⟨by', oy, hey, hby, hcy⟩ := (Texts.of_rep (Shape.below HY.out hbel)).at hlt9
              subst hex
              subst hey
              have hli9 : (k9 : Int) < (kb : Int) := by omega
              have hk0 : (0 : Int) ≤ (k9 : Int) := by omega
              generalize (s'.bag.map enc).getD k9 noText = tx at *
              go_upto_region 20 with fail
              have cx := fun y : Later wr => y.cell hcx
              have cy := fun y : Later wr => y.cell hcy
              have HE := hid hbel
              clear hbel hcx hcy
              have : Nonempty (Later wr) := Later.there wr
              refine region_later (by kernel_rfl) (by kernel_rfl) ?_
              repeat (go_big_quiet_step (fail))
              refine wpQuiet_nil ?_
              intro y9
              obtain ⟨W9, hb9⟩ := y9
              clear cx cy
              go_wp2
              go_roundw
              case rel => exact ⟨k9 + 1, by omega, by go_num, bel_then HE.out hb9⟩
              case measure => simp [intOf]; omega
            · have hkn : k9 = kb := by omega
              have hli9 : ¬ (k9 : Int) < (kb : Int) := by omega
              have HF9 := hid (And.intro (HFF.out.keep hbel) (HFG.out.keep hbel))
              have HBF := hid (bel_then HB9.out hbel)
              clear hkn hbel HX HY HFF HFG HB9
              go_wp2
              go_roundw
              case rel => exact ⟨i + 1, V5, V6, s', by omega, by go_num, HF9.out.1, HF9.out.2, HAL2.out, HBF.out, HVV.out.1, HVV.out.2⟩
              case measure => simp [intOf]; omega
        · have HD1 : Hid (Calls _ _ _ _ _) := fdone_no HF6.out hdn
          have HDK := hid hdn
          clear hdn
          go_wp2_with fail
          refine HD1.out.mono ?_
          rintro e u7 ⟨rfl, hb7⟩
          have HD2 : Hid (Calls _ _ _ _ _) := fdone_no (HG6.out.keep hb7) HDK.out
          have HF7 := hid (HF6.out.keep hb7)
          have HG7 := hid (HG6.out.keep hb7)
          have HB7 := hid (bel_then HB6.out hb7)
          clear hb7 HD1 HF6 HG6 HB6
          go_wp2_with fail
          refine HD2.out.mono ?_
          rintro e u8 ⟨rfl, hb8⟩
          clear HD2
          have HBG : Hid (Calls _ _ _ _ _) := fbag (HF7.out.keep hb8) HAL2.out.i.few kb HKB.out
          have HF8 := hid (HF7.out.keep hb8)
          have HG8 := hid (HG7.out.keep hb8)
          have HB8 := hid (bel_then HB7.out hb8)
          clear hb8
          go_wp2_with fail
          refine HBG.out.mono ?_
          rintro e U1 ⟨hb1', xa, xc, rfl, hx1⟩
          have HBG2 : Hid (Calls _ _ _ _ _) := fbag (HG8.out.keep hb1') HAL2.out.i.few kb HKB.out
          have HF81 := hid (HF8.out.keep hb1')
          have HG81 := hid (HG8.out.keep hb1')
          have HX1 := hid hx1
          have HU81 := hid hb1'
          have HB81 := hid (bel_then HB8.out hb1')
          clear hb1' hx1 HBG HF8 HG8 HB8
          go_wp2_with fail
          refine HBG2.out.mono ?_
          rintro e U2 ⟨hb2', ya, yc, rfl, hy2⟩
          have HX2 := hid (Shape.any (Shape.below HX1.out hb2'))
          have HY2 := hid (Shape.any hy2)
          have HU82 := hid (bel_then HU81.out hb2')
          have HF82 := hid (HF81.out.keep hb2')
          have HG82 := hid (HG81.out.keep hb2')
          have HB82 := hid (bel_then HB81.out hb2')
          clear hb2' hy2 HBG2 HF81 HG81 HB81 HX1 HU81
          have HSA : Hid (Calls _ _ _ _ _) := msame none none 0 0 0 [] U2 (rep_none _ _ _) (rep_none _ _ _) ⟨by decide, fun l hl => by cases hl⟩
          go_wp2_with fail
          refine HSA.out.mono ?_
          rintro e U3 ⟨rfl, hb3'⟩
          have HX3 := hid (Shape.below HX2.out hb3')
          have HY3 := hid (Shape.below HY2.out hb3')
          have HF83 := hid (HF82.out.keep hb3')
          have HG83 := hid (HG82.out.keep hb3')
          have HB83 := hid (bel_then HB82.out hb3')
          clear hb3' HSA HX2 HY2 HF82 HG82 HB82 HU82
          have HWA : Hid (Calls _ _ _ _ _) := fworked HF83.out HAL2.out.i.len HAL2.out.worked
          go_wp2_with fail
          refine HWA.out.mono ?_
          rintro e U4 ⟨rfl, hb4'⟩
          have HWB : Hid (Calls _ _ _ _ _) := fworked (HG83.out.keep hb4') HAL2.out.i.len HAL2.out.worked
          have HX4 := hid (Shape.below HX3.out hb4')
          have HY4 := hid (Shape.below HY3.out hb4')
          have HF84 := hid (HF83.out.keep hb4')
          have HG84 := hid (HG83.out.keep hb4')
          have HB84 := hid (bel_then HB83.out hb4')
          clear hb4' HWA HX3 HY3 HF83 HG83 HB83
          go_wp2_with fail
          refine HWB.out.mono ?_
          rintro e U9 ⟨rfl, hb9'⟩
          have HX := hid (Shape.below HX4.out hb9')
          have HY := hid (Shape.below HY4.out hb9')
          have HFF := hid (HF84.out.keep hb9')
          have HFG := hid (HG84.out.keep hb9')
          have HB9 := hid (bel_then HB84.out hb9')
          clear hb9' HWB HX4 HY4 HF84 HG84 HB84
          go_wp2
          go_loopw [124] (fun v wr => ∃ k : Nat, k ≤ kb ∧ v = .int .i64 k ∧ Below U9.heap.size U9 wr) (fun v _ => kb - (intOf v).toNat)
          case atStart => exact ⟨0, Nat.zero_le _, rfl, Below.refl _ _⟩
          case round =>
            obtain ⟨k9, hk9, rfl, hbel⟩ := hrel
            by_cases hlt9 : k9 < kb
            · obtain ⟨bx, ox, hex, hbx, hcx⟩ := (Texts.of_rep (Shape.below HX.out hbel)).at hlt9
              obtain ⟨by', oy, hey, hby, hcy⟩ := (Texts.of_rep (Shape.below HY.out hbel)).at hlt9
              subst hex
              subst hey
              have hli9 : (k9 : Int) < (kb : Int) := by omega
              have hk0 : (0 : Int) ≤ (k9 : Int) := by omega
              generalize (s'.bag.map enc).getD k9 noText = tx at *
              go_upto_region 20 with fail
              have cx := fun y : Later wr => y.cell hcx
              have cy := fun y : Later wr => y.cell hcy
              have HE := hid hbel
              clear hbel hcx hcy
              have : Nonempty (Later wr) := Later.there wr
              refine region_later (by kernel_rfl) (by kernel_rfl) ?_
              repeat (go_big_quiet_step (fail))
              refine wpQuiet_nil ?_
              intro y9
              obtain ⟨W9, hb9⟩ := y9
              clear cx cy
              go_wp2
              go_roundw
              case rel => exact ⟨k9 + 1, by omega, by go_num, bel_then HE.out hb9⟩
              case measure => simp [intOf]; omega
            · have hkn : k9 = kb := by omega
              have hli9 : ¬ (k9 : Int) < (kb : Int) := by omega
              have HF9 := hid (And.intro (HFF.out.keep hbel) (HFG.out.keep hbel))
              have HBF := hid (bel_then HB9.out hbel)
              clear hkn hbel HX HY HFF HFG HB9
              go_wp2
              go_roundw
              case rel => exact ⟨i + 1, V5, V6, s', by omega, by go_num, HF9.out.1, HF9.out.2, HAL2.out, HBF.out, HVV.out.1, HVV.out.2⟩
              case measure => simp [intOf]; omega
      · have hl2 : ¬ (i : Int) < 100 := by omega
        have hbf := HBw.out
        go_wp2_with (go_at_call 13; refine (HAW.out _).mono ?_; rintro e u9 ⟨rfl, hb9⟩)
        go_ret
        exact ⟨rfl, bel_then hbf hb9⟩
    · have hli : ¬ (i : Int) < (an : Int) := by omega
      have hbf := HBw.out
      go_wp2_with (go_at_call 13; refine (HAW.out _).mono ?_; rintro e u9 ⟨rfl, hb9⟩)
      go_ret
      exact ⟨rfl, bel_then hbf hb9⟩

end Go.Proofs.YtfidgcanolegfaaGreat
