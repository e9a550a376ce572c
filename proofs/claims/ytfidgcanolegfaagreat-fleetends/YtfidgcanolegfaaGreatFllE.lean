/- FleetEnds, with letters. -/
import Derived.Test.YtfidgcanolegfaaGreatFllD
namespace Go.Proofs.YtfidgcanolegfaaGreat
open Go.ChangeShapes Go.WideShapes Go.ChangeAt Go.RowKit



theorem Mv.box {V V' : Nat → Prop} {w w' : World} {b : Nat} {t : TypeId} {cs : Array Value} (hm : Mv V V' w w') (h : Box w b t cs) (hv : ¬ V b) : Box w' b t cs := (hm.block b h.lt hv).trans h
theorem run_stay {dim : Int} {ms : List Ly} {s : Ft.St} {j : Nat} (h : (Ft.run dim ms j s).bag = []) (i : Nat) : Ft.run dim ms (j + i) s = Ft.run dim ms j s := by
  induction i with
  | zero => rfl
  | succ i ih =>
    show Ft.deliver dim ms (Ft.run dim ms (j + i) s) 0 = _
    rw [ih]
    exact deliver_none (by rw [h]; exact Nat.le_refl _)
theorem run_few {dim : Int} {ms : List Ly} {T : List (List Int)} {s : Ft.St} (H : Alive dim ms T s) {j : Nat} (hj : (Ft.run dim ms j s).bag ≠ []) : j < 657 := by
  rcases Nat.lt_or_ge j 657 with h | h
  · exact h
  · exact absurd (Ft.run_ends H.i H.m H.t h) hj
/-- Asked once more with an empty bag, and played to its end: done. -/
theorem ends_done {dim : Int} {ms : List Ly} {T : List (List Int)} {s : Ft.St} (H : Alive dim ms T s) (hs : Ft.Settled ms s) (hb : s.bag = []) {j : Nat} (hj : j ≤ 657) (he : (Ft.run dim ms j (Ft.ask ms s)).bag = []) : (Ft.run dim ms j (Ft.ask ms s)).lay = ms.length := by
  have h9 := Ft.ask_ends H.i H.m H.t hs hb (Nat.le_refl 657)
  have h8 := run_stay he (657 - j)
  rw [show j + (657 - j) = 657 by omega] at h8
  rw [h8] at h9
  have h7 := ((H.ask).run j).i.lay
  omega

theorem Md.tright_forward_len (ms : List Ly) (T : List (List Int)) : (Md.forward ms T).length = T.length := by
  induction ms generalizing T with
  | nil => rfl
  | cons l ms ih =>
    show (Md.forward ms (Md.step l T)).length = _
    rw [ih]
    unfold Md.step
    exact Md.stepTo_len _ _ _
set_option maxRecDepth 100000 in
set_option maxHeartbeats 8000000 in
theorem flends (dim : Int) (a : Option Addr) (n c : Nat) (ms : List Ly) (ep : Int) (pa : Option Addr) (pn pc : Nat) (h : List (List Int)) (b : Option Addr) (m d : Nat) (T : List (List Int)) (aa : Option Addr) (an ac : Nat) (al : List (Int × Int × Int × Unit)) (w : World) (hm : lysS.rep w everywhere [.slice a n c] ms) (hp : matS.rep w everywhere [.slice pa pn pc] h) (ht : matS.rep w everywhere [.slice b m d] T) (hacts : (sliceS actS).rep w everywhere [.slice aa an ac] al) (hfit : ∀ x ∈ al, (Lit.int .u8 x.1).wf = true ∧ (Lit.int .u8 x.2.1).wf = true ∧ (Lit.int .u8 x.2.2.1).wf = true ∧ True) :
    Calls Tryz.prog 5 #[.agg #[.int .i64 dim, .slice a n c], .agg #[.int .i64 ep, .slice pa pn pc], .slice b m d, .slice aa an ac] w fun e w' => e = .returned (.bool true) ∧ Below w.heap.size w w' := by
  have HACT := hid (And.intro (Shape.low hacts) hfit)
  have HIN := hid (And.intro (Shape.low hm) (Shape.low ht))
  have HLM := hid (And.intro (sliceS_len hm).1 (sliceS_len ht).1)
  clear hacts hfit
  have hB := bel_two w (.cells #[.int .i64 dim, .slice a n c] 24) (.cells #[.int .i64 ep, .slice pa pn pc] 27)
  have km := (Box.new w 24 #[.int .i64 dim, .slice a n c]).keep (new_bel _ (.cells #[.int .i64 ep, .slice pa pn pc] 27))
  have kp := Box.new (w.alloc (.cells #[.int .i64 dim, .slice a n c] 24)) 27 #[.int .i64 ep, .slice pa pn pc]
  have e1 : (w.alloc (.cells #[.int .i64 dim, .slice a n c] 24)).heap.size = w.heap.size + 1 := by simp
  rw [e1] at kp
  have hm1 := Shape.below hm hB
  have hp1 := Shape.below hp hB
  have ht1 := Shape.below ht hB
  have HS1 : Hid (Calls _ _ _ _ _) := msmall a n c ms dim _ hm1
  have HAW : Hid (∀ u, Calls Tryz.prog 13 #[] u fun e w' => e = .returned (.bool true) ∧ Below u.heap.size u w') := fawake
  have hlm := (sliceS_len hm).1
  clear hm hp ht e1
  go_enter Tryz.func5, Tryz.ntmps5
  go_upto_region 1 with fail
  generalize (w.alloc (.cells #[.int .i64 dim, .slice a n c] 24)).alloc (.cells #[.int .i64 ep, .slice pa pn pc] 27) = W at *
  have HR := hid (And.intro hm1 (And.intro hp1 ht1))
  have HK := hid (And.intro km kp)
  have m0 := km.cell 0 rfl
  have m1 := km.cell 1 rfl
  clear hm1 hp1 ht1 km kp
  go_wp2_with fail
  refine HS1.out.mono ?_
  rintro e u1 ⟨hs1, hb1⟩
  have hB1 := bel_then hB hb1
  by_cases d1 : Md.Small ms
  case neg =>
    rw [hs1.not d1]
    clear d1 hs1 m0 m1
    go_wp2_with (go_at_call 13; refine (HAW.out _).mono ?_; rintro e u9 ⟨rfl, hb9⟩)
    go_ret
    exact ⟨rfl, bel_then hB1 hb9⟩
  rw [hs1.is d1]
  have D1 := hid d1
  have HS2 : Hid (Calls _ _ _ _ _) := small pa pn pc h _ u1 (Shape.below HR.out.2.1 hb1)
  have p1 := (HK.out.2.keep hb1).cell 1 rfl
  have HB1 := hid hb1
  clear hs1 d1 m0 m1 hb1
  go_wp2_with fail
  refine HS2.out.mono ?_
  rintro e u1' ⟨hs2, hu9⟩
  replace hu9 := hu9.symm
  subst hu9
  by_cases d2 : Mx.Small h
  case neg =>
    rw [hs2.not d2]
    clear d2 hs2 p1
    go_wp2_with (go_at_call 13; refine (HAW.out _).mono ?_; rintro e u9 ⟨rfl, hb9⟩)
    go_ret
    exact ⟨rfl, bel_then hB1 hb9⟩
  rw [hs2.is d2]
  have D2 := hid d2
  have HS3 : Hid (Calls _ _ _ _ _) := small b m d T _ u1 (Shape.below HR.out.2.2 HB1.out)
  clear hs2 d2 p1
  go_wp2_with fail
  refine HS3.out.mono ?_
  rintro e u1' ⟨hs3, hu9⟩
  replace hu9 := hu9.symm
  subst hu9
  by_cases d3 : Mx.Small T
  case neg =>
    rw [hs3.not d3]
    clear d3 hs3
    go_wp2_with (go_at_call 13; refine (HAW.out _).mono ?_; rintro e u9 ⟨rfl, hb9⟩)
    go_ret
    exact ⟨rfl, bel_then hB1 hb9⟩
  rw [hs3.is d3]
  have HSM := hid (And.intro D1.out (And.intro D2.out d3))
  have HNI : Hid (NewIn (· < u1.heap.size) u1 a n c ms pa pn pc h b m d T) := ⟨Shape.low (Shape.below HR.out.1 HB1.out), Shape.low (Shape.below HR.out.2.1 HB1.out), Shape.low (Shape.below HR.out.2.2 HB1.out), fun _ hb => hb, by have h9 : ms.length ≤ 5 := D1.out.1; omega, fun l hl => Md.small_lsized (D1.out.2 l hl), Ex.small_sized D2.out, Ex.small_sized d3⟩
  have HK1 := hid (And.intro (HK.out.1.keep HB1.out) (HK.out.2.keep HB1.out))
  have HBA := hid hB1
  clear hs3 d3 HS1 HS2 HS3 D1 D2 HR HK HB1 hB hB1 hlm
  obtain ⟨bm, hbm⟩ : ∃ bm : Bool, bm = true ↔ May dim ms ep h T := by
    rcases Classical.em (May dim ms ep h T) with h9 | h9
    · exact ⟨true, fun _ => h9, fun _ => rfl⟩
    · exact ⟨false, fun e => (by cases e), fun h8 => absurd h8 h9⟩
  have HBM := hid hbm
  have HCM : Hid (Calls _ _ _ _ _) := rmay dim a n c ms ep pa pn pc h b m d T u1 HNI.out bm hbm
  have m0 := HK1.out.1.cell 0 rfl
  have m1 := HK1.out.1.cell 1 rfl
  have p0 := HK1.out.2.cell 0 rfl
  have p1 := HK1.out.2.cell 1 rfl
  clear hbm
  go_wp2_with fail
  refine HCM.out.mono ?_
  rintro e u2 ⟨rfl, hb2⟩
  have hB2 := bel_then HBA.out hb2
  clear m0 m1 p0 p1
  cases bm with
  | false =>
    go_wp2_with (go_at_call 13; refine (HAW.out _).mono ?_; rintro e u9 ⟨rfl, hb9⟩)
    go_ret
    exact ⟨rfl, bel_then hB2 hb9⟩
  | true =>
  have HMAY : Hid (May dim ms ep h T) := HBM.out.1 rfl
  have HNI2 := hid (HNI.out.keep hb2)
  have HNE : Hid (∀ (O : Nat → Prop) (u : World), Below u2.heap.size u2 u → (∀ b, O b → b < u.heap.size ∧ u2.heap.size ≤ b) → Calls Tryz.prog 14 #[.agg #[.int .i64 dim, .slice a n c], .agg #[.int .i64 ep, .slice pa pn pc], .slice b m d] u fun e w' => Below u.heap.size u w' ∧ ∃ p V, e = .returned (.tuple #[.pointer (some ⟨p, 0, none⟩), .int .i64 0]) ∧ (∀ b, V b → u.heap.size ≤ b) ∧ FlAt O V w' p dim ms (Ft.start ms ep h T) (Ft.qs ms (Ft.start ms ep h T))) := fun O u hu ho => fnew (I := (· < u2.heap.size)) dim a n c ms ep pa pn pc h b m d T u ⟨Shape.below (lysS.mono HNI2.out.mm (fun b hb hlt => hlt)) hu, Shape.below (matS.mono HNI2.out.pp (fun b hb hlt => hlt)) hu, Shape.below (matS.mono HNI2.out.tt (fun b hb hlt => hlt)) hu, fun b hb => Nat.lt_of_lt_of_le hb hu.size, HNI2.out.mn, HNI2.out.mz, HNI2.out.ps, HNI2.out.ts⟩ (fun b hb => ⟨(ho b hb).1, fun h9 => by have := (ho b hb).2; omega⟩) HMAY.out
  have HK2 := hid (And.intro (HK1.out.1.keep hb2) (HK1.out.2.keep hb2))
  have HBB2 := hid hB2
  have HALS := hid (Alive.start HMAY.out)
  have HKU : Hid (w.heap.size + 1 < u1.heap.size) := HK1.out.2.lt
  have HU12 := hid hb2.size
  clear hb2 hB2 HK1 HNI HCM HBM HBA
  have m0 := HK2.out.1.cell 0 rfl
  have m1 := HK2.out.1.cell 1 rfl
  have p0 := HK2.out.2.cell 0 rfl
  have p1 := HK2.out.2.cell 1 rfl
  have HN1 : Hid (Calls _ _ _ _ _) := HNE.out (fun _ => False) u2 (Below.refl _ _) (fun b hb => hb.elim)
  go_wp2_with fail
  refine HN1.out.mono ?_
  rintro e u3 ⟨hb3, p, V, rfl, hV, hat⟩
  have HB3 := hid (bel_then HBB2.out hb3)
  have HV3 : Hid (∀ b, V b → w.heap.size ≤ b) := fun b hb => Nat.le_trans HBB2.out.size (hV b hb)
  have HS23 := hid hb3.size
  have HVU : Hid (∀ b, V b → u1.heap.size ≤ b) := fun b hb => Nat.le_trans HU12.out (hV b hb)
  have HAT3 := hid hat
  have HK3 := hid (And.intro (HK2.out.1.keep hb3) (HK2.out.2.keep hb3))
  have HNI3 := hid (HNI2.out.keep hb3)
  clear hb3 hV hat m0 m1 p0 p1 HN1 HK2 HNI2 HNE HBB2
  have HVL := hid HAT3.out.there.2.1
  have HU13 : Hid (u1.heap.size ≤ u3.heap.size) := Nat.le_trans HU12.out HS23.out
  have HK3U : Hid (w.heap.size + 1 < u1.heap.size) := HKU.out
  have HSET0 := hid (Ft.start_settled HMAY.out.1 HMAY.out.2.1 ep h)
  have hn4 : n ≤ 4 := by have := HMAY.out.1.2.2.2.1; have := HLM.out.1; omega
  generalize hs0 : Ft.start ms ep h T = s0 at *
  clear hs0 HNI3
  go_wp2
  go_loopw [11] (fun v wr => ∃ (i : Nat) (V' : Nat → Prop) (s : Ft.St), i ≤ an ∧ v = .int .i64 i ∧ Mv V V' u3 wr ∧ FlAt (fun _ => False) V' wr p dim ms s (Ft.qs ms s) ∧ Alive dim ms T s ∧ Ft.Settled ms s) (fun v _ => an - (intOf v).toNat)
  case atStart => exact ⟨0, V, s0, Nat.zero_le _, rfl, Mv.refl _ _, HAT3.out, HALS.out, HSET0.out⟩
  case round =>
    clear HAT3
    obtain ⟨i, V', s, hi, rfl, hmv, hat, hal, hst⟩ := hrel
    have hBw : Below w.heap.size w wr := hmv.below HV3.out HB3.out.size HB3.out
    have HB1W := hid hBw
    have HMV := hid hmv
    have HAT := hid hat
    have HAL := hid hal
    have HST := hid hst
    clear hBw hmv hat hal hst
    by_cases hlt : i < an
    · have hli : (i : Int) < (an : Int) := by omega
      by_cases h2 : i < 200
      · have hl2 : (i : Int) < 200 := by omega
        obtain ⟨b9, o9, k, q, r, rfl, hb9, hk, hq, hr, c0, c1, c2⟩ := act_at (Shape.now HACT.out.1 HB1W.out) HACT.out.2 hlt
        obtain ⟨s', hs'⟩ := acts_there dim ms k q r s
        have HC : Hid (Calls _ _ _ _ _) := fdo HAT.out HAL.out k q r hk hq hr s' hs'
        have HAL2 := hid (HAL.out.acts hs')
        have HST2 := hid (settled_acts HAL.out HST.out hs')
        have hi0 : (0 : Int) ≤ (i : Int) := by omega
        clear hs' hk hq hr
        go_wp2_with (go_at_call 22; refine HC.out.mono ?_; rintro e u5 ⟨rfl, V5, hm5, hat5⟩)
        have HE := hid (And.intro (HMV.out.trans hm5) hat5)
        clear hm5 hat5 HC HAT HMV c0 c1 c2
        go_roundw
        case rel => exact ⟨i + 1, V5, s', by omega, by go_num, HE.out.1, HE.out.2, HAL2.out, HST2.out⟩
        case measure => simp [intOf]; omega
      · have hl2 : ¬ (i : Int) < 200 := by omega
        have HAL1 := hid HAL.out
        have HST1 := hid HST.out
        have hm1 : Box wr w.heap.size 24 #[.int .i64 dim, .slice a n c] := HMV.out.box HK3.out.1 (fun hv => by have := HVU.out _ hv; have := HK3U.out; omega)
        have HKM := hid hm1
        have HVU1 : Hid (∀ b, V' b → u1.heap.size ≤ b) := HMV.out.base HVU.out HU13.out
        have HV1 : Hid (∀ b, V' b → w.heap.size ≤ b) := HMV.out.base HV3.out HB3.out.size
        obtain ⟨W1, hW1⟩ : ∃ W1, W1 = wr := ⟨_, rfl⟩
        subst hW1
        have m1 := hm1.cell 1 rfl
        clear hm1 HMV HAL HST
        go_wp2
        go_loopw [69] (fun v wr => ∃ (r : Nat) (V2 : Nat → Prop) (s2 : Ft.St), r ≤ n + 1 ∧ v = .int .i64 r ∧ Mv V' V2 W1 wr ∧ FlAt (fun _ => False) V2 wr p dim ms s2 (Ft.qs ms s2) ∧ Alive dim ms T s2 ∧ Ft.Settled ms s2 ∧ (0 < r → ∃ s1, s1.bag = [] ∧ Alive dim ms T s1 ∧ Ft.Settled ms s1 ∧ s2 = Ft.ask ms s1)) (fun v _ => n + 1 - (intOf v).toNat)
        case atStart => exact ⟨0, V', s, Nat.zero_le _, rfl, Mv.refl _ _, HAT.out, HAL1.out, HST1.out, fun h => absurd h (Nat.lt_irrefl 0)⟩
        case round =>
          clear m1 HAT HAL1 HST1
          obtain ⟨r, V2, s2, hr, rfl, hmv, hat, hal, hst, hlast⟩ := hrel
          have HMV2 := hid hmv
          have HAT2 := hid hat
          have HAL2 := hid hal
          have HST2 := hid hst
          have HLAST := hid hlast
          clear hmv hat hal hst hlast
          obtain ⟨W2, hW2⟩ : ∃ W2, W2 = wr := ⟨_, rfl⟩
          subst hW2
          by_cases hlt : r < n + 1
          · have hli : (r : Int) < (n : Int) + 1 := by omega
            clear HLAST
            go_wp2
            go_loopw [71] (fun v wr => ∃ (j : Nat) (V3 : Nat → Prop), j ≤ 657 ∧ v = .int .i64 j ∧ Mv V2 V3 W2 wr ∧ FlAt (fun _ => False) V3 wr p dim ms (Ft.run dim ms j s2) (Ft.qs ms (Ft.run dim ms j s2))) (fun v _ => 658 - (intOf v).toNat)
            case atStart => exact ⟨0, V2, Nat.zero_le _, rfl, Mv.refl _ _, HAT2.out⟩
            case round =>
              clear HAT2
              obtain ⟨j, V3, hj, rfl, hmv, hat⟩ := hrel
              have HMV3 := hid hmv
              have HAL3 := hid (HAL2.out.run j)
              have hj2 : (j : Int) < 2000 := by omega
              by_cases hbe : (Ft.run dim ms j s2).bag = []
              · have HD : Hid (Calls _ _ _ _ _) := fdeliver0_no hat HAL3.out hbe
                have HAT3' := hid hat
                have HBE := hid hbe
                have HST3 := hid (Ft.run_settled HAL2.out.i HAL2.out.m HAL2.out.t HST2.out j)
                clear hmv hat hbe
                go_wp2_with fail
                refine HD.out.mono ?_
                rintro e u5 ⟨rfl, hb5⟩
                have HAK : Hid (Calls _ _ _ _ _) := faskM (HAT3'.out.keep hb5) HAL3.out.i HAL3.out.m HAL3.out.t
                have HM5 := hid ((HMV2.out.trans HMV3.out).bel hb5)
                clear hb5 HD HAT3'
                go_wp2_with (go_at_call 25; refine HAK.out.mono ?_; rintro e u6 ⟨rfl, hm6, hat6⟩)
                have hat7 : FlAt (fun _ => False) V3 u6 p dim ms (Ft.ask ms (Ft.run dim ms j s2)) (Ft.qs ms (Ft.ask ms (Ft.run dim ms j s2))) := by rw [qs_ask]; exact hat6
                have HE := hid (And.intro (HM5.out.trans hm6) hat7)
                clear hm6 hat6 hat7
                go_roundw
                case rel => exact ⟨r + 1, V3, _, by omega, by go_num, HE.out.1, HE.out.2, HAL3.out.ask, Ft.ask_settled HST3.out, fun _ => ⟨_, HBE.out, HAL3.out, HST3.out, rfl⟩⟩
                case measure => simp [intOf]; omega
              · have HD : Hid (Calls _ _ _ _ _) := fdeliver0 hat HAL3.out hbe
                have hj3 := run_few HAL2.out hbe
                clear hmv hat hbe
                go_wp2_with (go_at_call 24; refine HD.out.mono ?_; rintro e u5 ⟨rfl, V5, hm5, hat5⟩)
                have HE := hid (And.intro (HMV3.out.trans hm5) hat5)
                clear hm5 hat5 HD
                go_roundw
                case rel => exact ⟨j + 1, V5, by omega, by go_num, HE.out.1, HE.out.2⟩
                case measure => simp [intOf]; omega
          · have hrn : r = n + 1 := by omega
            have hli : ¬ (r : Int) < (n : Int) + 1 := by omega
            obtain ⟨s1, hs1b, hs1a, hs1s, hs2⟩ := HLAST.out (by omega)
            subst hs2
            have HS1 := hid (And.intro hs1b (And.intro hs1a hs1s))
            clear hs1b hs1a hs1s HLAST hrn
            go_wp2
            go_loopw [80] (fun v wr => ∃ (j : Nat) (V3 : Nat → Prop), j ≤ 657 ∧ v = .int .i64 j ∧ Mv V2 V3 W2 wr ∧ FlAt (fun _ => False) V3 wr p dim ms (Ft.run dim ms j (Ft.ask ms s1)) (Ft.qs ms (Ft.run dim ms j (Ft.ask ms s1)))) (fun v _ => 658 - (intOf v).toNat)
            case atStart => exact ⟨0, V2, Nat.zero_le _, rfl, Mv.refl _ _, HAT2.out⟩
            case round =>
              clear HAT2
              obtain ⟨j, V3, hj, rfl, hmv, hat⟩ := hrel
              have HMV3 := hid hmv
              have HAL3 := hid (HAL2.out.run j)
              have hj2 : (j : Int) < 2000 := by omega
              by_cases hbe : (Ft.run dim ms j (Ft.ask ms s1)).bag = []
              · have HD : Hid (Calls _ _ _ _ _) := fdeliver0_no hat HAL3.out hbe
                have hlay := ends_done HS1.out.2.1 HS1.out.2.2 HS1.out.1 hj hbe
                have htk : (Ft.run dim ms j (Ft.ask ms s1)).toks = Md.forward ms T := HAL3.out.i.done (by omega)
                have hwf := Ft.worked_few HAL3.out.i HAL3.out.m HAL3.out.t HAL3.out.n
                have htl : (Ft.run dim ms j (Ft.ask ms s1)).toks.length = m := by rw [htk]; exact (Md.tright_forward_len ms T).trans HLM.out.2
                have hmm := HMV2.out.trans HMV3.out
                have hkm := hmm.box HKM.out (fun hv => by have := HVU1.out _ hv; have := HK3U.out; omega)
                have hBw : Below w.heap.size w wr := hmm.below HV1.out HB1W.out.size HB1W.out
                generalize Ft.run dim ms j (Ft.ask ms s1) = s3 at *
                obtain ⟨wk, hwk⟩ : ∃ wk, Ft.worked s3 = wk := ⟨_, rfl⟩
                rw [hwk] at hwf
                have HS3 := hid (And.intro hlay (And.intro htk (And.intro hwk (And.intro htl hwf))))
                have HKM3 := hid hkm
                have HAT3' := hid hat
                have HBW := hid hBw
                clear hmv hat hbe hlay htk hwf htl hmm hkm hBw hwk HKM
                go_wp2_with fail
                refine HD.out.mono ?_
                rintro e u5 ⟨rfl, hb5⟩
                have HDN : Hid (Calls _ _ _ _ _) := fdone_yes (HAT3'.out.keep hb5) HS3.out.1 HAL3.out.short m HS3.out.2.2.2.1
                have HB5 := hid (bel_then HBW.out hb5)
                have HAT5 := hid (HAT3'.out.keep hb5)
                have HK5 := hid (HKM3.out.keep hb5)
                clear hb5 HD HAT3' HBW HKM3
                go_wp2_with fail
                refine HDN.out.mono ?_
                rintro e u6 ⟨hb6, ra, rc, rfl, hr6⟩
                rw [HS3.out.2.1] at hr6
                have HAT6 := hid (HAT5.out.keep hb6)
                have HK6 := hid (HK5.out.keep hb6)
                have HB6 := hid (bel_then HB5.out hb6)
                have HR6 := hid hr6
                have hD : Below u6.heap.size u6 u6.drew := (Below.refl _ u6).drew
                have HNI6 : Hid (lysS.rep u6 everywhere [.slice a n c] ms ∧ matS.rep u6 everywhere [.slice b m d] T) := ⟨Shape.any (Shape.now HIN.out.1 HB6.out), Shape.any (Shape.now HIN.out.2 HB6.out)⟩
                have HFW : Hid (Calls _ _ _ _ _) := rmforward a n c ms dim b m d T u6.drew (Shape.below HNI6.out.1 hD) (Shape.below HNI6.out.2 hD) HMAY.out.1 HMAY.out.2.1
                have HSAM : Hid (∀ u wa wc', Below u6.heap.size u6 u → matS.rep u everywhere [.slice wa m wc'] (Md.forward ms T) → Calls Tryz.prog 23 #[.slice ra m rc, .slice wa m wc'] u fun e w' => e = .returned (.bool true) ∧ Below u.heap.size u w') := fun u wa wc' hu hw => msame ra wa m rc wc' (Md.forward ms T) u (Shape.below HR6.out hu) hw (Pl.Short.sized (Md.tright_short (Md.forward_right (fun l hl => HMAY.out.1.2.2.2.2 l hl) HMAY.out.2.1) HMAY.out.1.2.1))
                have HWKD : Hid (∀ u, Below u6.heap.size u6 u → Calls Tryz.prog 20 #[.pointer (some ⟨p, 0, none⟩)] u fun e w' => e = .returned (.int .i64 (wk : Int)) ∧ Below u.heap.size u w') := fun u hu => by
                  have h9 := fworked (HAT6.out.keep hu) HAL3.out.i.len HAL3.out.worked
                  rw [HS3.out.2.2.1] at h9
                  exact h9
                have HSS : Hid (∀ u, Below u6.heap.size u6 u → u.cell? ⟨w.heap.size, 0, none⟩ = some (.int .i64 dim) ∧ u.cell? ⟨w.heap.size, 1, none⟩ = some (.slice a n c)) := fun u hu => ⟨(HK6.out.keep hu).cell 0 rfl, (HK6.out.keep hu).cell 1 rfl⟩
                have hmn : m * n ≤ 16 * 4 := Nat.mul_le_mul (by have := HMAY.out.2.1.2.1; have := HLM.out.2; omega) (by have := HMAY.out.1.2.2.2.1; have := HLM.out.1; omega)
                have hmn2 : (m : Int) * (n : Int) = ((m * n : Nat) : Int) := (Int.natCast_mul m n).symm
                have hm8 : (8 : Int) * (m : Int) * (n : Int) = 8 * ((m * n : Nat) : Int) := by rw [Int.mul_assoc, hmn2]
                have hwk2 : wk ≤ 8 * (m * n) := by
                  have h9 := HS3.out.2.2.2.2
                  rw [HLM.out.1, HLM.out.2] at h9
                  have h8 : n * m = m * n := Nat.mul_comm n m
                  omega
                have hm16 : m ≤ 16 := by have := HMAY.out.2.1.2.1; have := HLM.out.2; omega
                have hw1 : IntKind.i64.wrap (8 * (m : Int)) = 8 * (m : Int) := by rw [IntKind.wrap_i64]; omega
                have hw2 : IntKind.i64.wrap (8 * (m : Int) * (n : Int)) = 8 * (m : Int) * (n : Int) := by rw [hm8, IntKind.wrap_i64]; omega
                have hle : (wk : Int) ≤ 8 * (m : Int) * (n : Int) := by rw [hm8]; omega
                obtain ⟨i1, i2⟩ := HSS.out u6 (Below.refl _ _)
                clear hb6 hr6 HDN HAT5 HB5 HK5 hmn hmn2 hm8 hwk2 hm16 hj hlt
                go_wp2
                go_region_held3 (fun u => u.cell? ⟨w.heap.size, 0, none⟩ = some (.int .i64 dim) ∧ u.cell? ⟨w.heap.size, 1, none⟩ = some (.slice a n c))
                  (first
                    | exact HSS.out _ hd10
                    | exact HSS.out _ hd9
                    | exact HSS.out _ hd8
                    | exact HSS.out _ hd7
                    | exact HSS.out _ hD
                    | exact HSS.out _ (Below.refl _ _)
                    | go_keep)
                  (first
                    | (go_at_call 13; refine (HAW.out _).mono ?_; rintro e u10 ⟨rfl, hb10⟩; have hd10 := bel_then hd9 hb10)
                    | (go_at_call 20; refine (HWKD.out _ hd8).mono ?_; rintro e u9 ⟨rfl, hb9⟩; have hd9 := bel_then hd8 hb9)
                    | (go_at_call 23; refine (HSAM.out _ _ _ hd7 hr7).mono ?_; rintro e u8 ⟨rfl, hb8⟩; have hd8 := bel_then hd7 hb8)
                    | (go_at_call 21; refine HFW.out.mono ?_; rintro e u7 ⟨hb7, wa, wc', rfl, hr7⟩; have hd7 := bel_then hD hb7))
                all_goals
                  have hfin := bel_then HB6.out hd10
                  clear hd10 hd9 hd8 hd7 hr7 i1 i2
                  go_wp2
                  go_ret
                  exact ⟨rfl, hfin⟩
              · have HD : Hid (Calls _ _ _ _ _) := fdeliver0 hat HAL3.out hbe
                have hj3 := run_few HAL2.out hbe
                clear hmv hat hbe
                go_wp2_with (go_at_call 24; refine HD.out.mono ?_; rintro e u5 ⟨rfl, V5, hm5, hat5⟩)
                have HE := hid (And.intro (HMV3.out.trans hm5) hat5)
                clear hm5 hat5 HD
                go_roundw
                case rel => exact ⟨j + 1, V5, by omega, by go_num, HE.out.1, HE.out.2⟩
                case measure => simp [intOf]; omega
    · have hli : ¬ (i : Int) < (an : Int) := by omega
      have HAL1 := hid HAL.out
      have HST1 := hid HST.out
      have hm1 : Box wr w.heap.size 24 #[.int .i64 dim, .slice a n c] := HMV.out.box HK3.out.1 (fun hv => by have := HVU.out _ hv; have := HK3U.out; omega)
      have HKM := hid hm1
      have HVU1 : Hid (∀ b, V' b → u1.heap.size ≤ b) := HMV.out.base HVU.out HU13.out
      have HV1 : Hid (∀ b, V' b → w.heap.size ≤ b) := HMV.out.base HV3.out HB3.out.size
      obtain ⟨W1, hW1⟩ : ∃ W1, W1 = wr := ⟨_, rfl⟩
      subst hW1
      have m1 := hm1.cell 1 rfl
      clear hm1 HMV HAL HST
      go_wp2
      go_loopw [69] (fun v wr => ∃ (r : Nat) (V2 : Nat → Prop) (s2 : Ft.St), r ≤ n + 1 ∧ v = .int .i64 r ∧ Mv V' V2 W1 wr ∧ FlAt (fun _ => False) V2 wr p dim ms s2 (Ft.qs ms s2) ∧ Alive dim ms T s2 ∧ Ft.Settled ms s2 ∧ (0 < r → ∃ s1, s1.bag = [] ∧ Alive dim ms T s1 ∧ Ft.Settled ms s1 ∧ s2 = Ft.ask ms s1)) (fun v _ => n + 1 - (intOf v).toNat)
      case atStart => exact ⟨0, V', s, Nat.zero_le _, rfl, Mv.refl _ _, HAT.out, HAL1.out, HST1.out, fun h => absurd h (Nat.lt_irrefl 0)⟩
      case round =>
        clear m1 HAT HAL1 HST1
        obtain ⟨r, V2, s2, hr, rfl, hmv, hat, hal, hst, hlast⟩ := hrel
        have HMV2 := hid hmv
        have HAT2 := hid hat
        have HAL2 := hid hal
        have HST2 := hid hst
        have HLAST := hid hlast
        clear hmv hat hal hst hlast
        obtain ⟨W2, hW2⟩ : ∃ W2, W2 = wr := ⟨_, rfl⟩
        subst hW2
        by_cases hlt : r < n + 1
        · have hli : (r : Int) < (n : Int) + 1 := by omega
          clear HLAST
          go_wp2
          go_loopw [71] (fun v wr => ∃ (j : Nat) (V3 : Nat → Prop), j ≤ 657 ∧ v = .int .i64 j ∧ Mv V2 V3 W2 wr ∧ FlAt (fun _ => False) V3 wr p dim ms (Ft.run dim ms j s2) (Ft.qs ms (Ft.run dim ms j s2))) (fun v _ => 658 - (intOf v).toNat)
          case atStart => exact ⟨0, V2, Nat.zero_le _, rfl, Mv.refl _ _, HAT2.out⟩
          case round =>
            clear HAT2
            obtain ⟨j, V3, hj, rfl, hmv, hat⟩ := hrel
            have HMV3 := hid hmv
            have HAL3 := hid (HAL2.out.run j)
            have hj2 : (j : Int) < 2000 := by omega
            by_cases hbe : (Ft.run dim ms j s2).bag = []
            · have HD : Hid (Calls _ _ _ _ _) := fdeliver0_no hat HAL3.out hbe
              have HAT3' := hid hat
              have HBE := hid hbe
              have HST3 := hid (Ft.run_settled HAL2.out.i HAL2.out.m HAL2.out.t HST2.out j)
              clear hmv hat hbe
              go_wp2_with fail
              refine HD.out.mono ?_
              rintro e u5 ⟨rfl, hb5⟩
              have HAK : Hid (Calls _ _ _ _ _) := faskM (HAT3'.out.keep hb5) HAL3.out.i HAL3.out.m HAL3.out.t
              have HM5 := hid ((HMV2.out.trans HMV3.out).bel hb5)
              clear hb5 HD HAT3'
              go_wp2_with (go_at_call 25; refine HAK.out.mono ?_; rintro e u6 ⟨rfl, hm6, hat6⟩)
              have hat7 : FlAt (fun _ => False) V3 u6 p dim ms (Ft.ask ms (Ft.run dim ms j s2)) (Ft.qs ms (Ft.ask ms (Ft.run dim ms j s2))) := by rw [qs_ask]; exact hat6
              have HE := hid (And.intro (HM5.out.trans hm6) hat7)
              clear hm6 hat6 hat7
              go_roundw
              case rel => exact ⟨r + 1, V3, _, by omega, by go_num, HE.out.1, HE.out.2, HAL3.out.ask, Ft.ask_settled HST3.out, fun _ => ⟨_, HBE.out, HAL3.out, HST3.out, rfl⟩⟩
              case measure => simp [intOf]; omega
            · have HD : Hid (Calls _ _ _ _ _) := fdeliver0 hat HAL3.out hbe
              have hj3 := run_few HAL2.out hbe
              clear hmv hat hbe
              go_wp2_with (go_at_call 24; refine HD.out.mono ?_; rintro e u5 ⟨rfl, V5, hm5, hat5⟩)
              have HE := hid (And.intro (HMV3.out.trans hm5) hat5)
              clear hm5 hat5 HD
              go_roundw
              case rel => exact ⟨j + 1, V5, by omega, by go_num, HE.out.1, HE.out.2⟩
              case measure => simp [intOf]; omega
        · have hrn : r = n + 1 := by omega
          have hli : ¬ (r : Int) < (n : Int) + 1 := by omega
          obtain ⟨s1, hs1b, hs1a, hs1s, hs2⟩ := HLAST.out (by omega)
          subst hs2
          have HS1 := hid (And.intro hs1b (And.intro hs1a hs1s))
          clear hs1b hs1a hs1s HLAST hrn
          go_wp2
          go_loopw [80] (fun v wr => ∃ (j : Nat) (V3 : Nat → Prop), j ≤ 657 ∧ v = .int .i64 j ∧ Mv V2 V3 W2 wr ∧ FlAt (fun _ => False) V3 wr p dim ms (Ft.run dim ms j (Ft.ask ms s1)) (Ft.qs ms (Ft.run dim ms j (Ft.ask ms s1)))) (fun v _ => 658 - (intOf v).toNat)
          case atStart => exact ⟨0, V2, Nat.zero_le _, rfl, Mv.refl _ _, HAT2.out⟩
          case round =>
            clear HAT2
            obtain ⟨j, V3, hj, rfl, hmv, hat⟩ := hrel
            have HMV3 := hid hmv
            have HAL3 := hid (HAL2.out.run j)
            have hj2 : (j : Int) < 2000 := by omega
            by_cases hbe : (Ft.run dim ms j (Ft.ask ms s1)).bag = []
            · have HD : Hid (Calls _ _ _ _ _) := fdeliver0_no hat HAL3.out hbe
              have hlay := ends_done HS1.out.2.1 HS1.out.2.2 HS1.out.1 hj hbe
              have htk : (Ft.run dim ms j (Ft.ask ms s1)).toks = Md.forward ms T := HAL3.out.i.done (by omega)
              have hwf := Ft.worked_few HAL3.out.i HAL3.out.m HAL3.out.t HAL3.out.n
              have htl : (Ft.run dim ms j (Ft.ask ms s1)).toks.length = m := by rw [htk]; exact (Md.tright_forward_len ms T).trans HLM.out.2
              have hmm := HMV2.out.trans HMV3.out
              have hkm := hmm.box HKM.out (fun hv => by have := HVU1.out _ hv; have := HK3U.out; omega)
              have hBw : Below w.heap.size w wr := hmm.below HV1.out HB1W.out.size HB1W.out
              generalize Ft.run dim ms j (Ft.ask ms s1) = s3 at *
              obtain ⟨wk, hwk⟩ : ∃ wk, Ft.worked s3 = wk := ⟨_, rfl⟩
              rw [hwk] at hwf
              have HS3 := hid (And.intro hlay (And.intro htk (And.intro hwk (And.intro htl hwf))))
              have HKM3 := hid hkm
              have HAT3' := hid hat
              have HBW := hid hBw
              clear hmv hat hbe hlay htk hwf htl hmm hkm hBw hwk HKM
              go_wp2_with fail
              refine HD.out.mono ?_
              rintro e u5 ⟨rfl, hb5⟩
              have HDN : Hid (Calls _ _ _ _ _) := fdone_yes (HAT3'.out.keep hb5) HS3.out.1 HAL3.out.short m HS3.out.2.2.2.1
              have HB5 := hid (bel_then HBW.out hb5)
              have HAT5 := hid (HAT3'.out.keep hb5)
              have HK5 := hid (HKM3.out.keep hb5)
              clear hb5 HD HAT3' HBW HKM3
              go_wp2_with fail
              refine HDN.out.mono ?_
              rintro e u6 ⟨hb6, ra, rc, rfl, hr6⟩
              rw [HS3.out.2.1] at hr6
              have HAT6 := hid (HAT5.out.keep hb6)
              have HK6 := hid (HK5.out.keep hb6)
              have HB6 := hid (bel_then HB5.out hb6)
              have HR6 := hid hr6
              have hD : Below u6.heap.size u6 u6.drew := (Below.refl _ u6).drew
              have HNI6 : Hid (lysS.rep u6 everywhere [.slice a n c] ms ∧ matS.rep u6 everywhere [.slice b m d] T) := ⟨Shape.any (Shape.now HIN.out.1 HB6.out), Shape.any (Shape.now HIN.out.2 HB6.out)⟩
              have HFW : Hid (Calls _ _ _ _ _) := rmforward a n c ms dim b m d T u6.drew (Shape.below HNI6.out.1 hD) (Shape.below HNI6.out.2 hD) HMAY.out.1 HMAY.out.2.1
              have HSAM : Hid (∀ u wa wc', Below u6.heap.size u6 u → matS.rep u everywhere [.slice wa m wc'] (Md.forward ms T) → Calls Tryz.prog 23 #[.slice ra m rc, .slice wa m wc'] u fun e w' => e = .returned (.bool true) ∧ Below u.heap.size u w') := fun u wa wc' hu hw => msame ra wa m rc wc' (Md.forward ms T) u (Shape.below HR6.out hu) hw (Pl.Short.sized (Md.tright_short (Md.forward_right (fun l hl => HMAY.out.1.2.2.2.2 l hl) HMAY.out.2.1) HMAY.out.1.2.1))
              have HWKD : Hid (∀ u, Below u6.heap.size u6 u → Calls Tryz.prog 20 #[.pointer (some ⟨p, 0, none⟩)] u fun e w' => e = .returned (.int .i64 (wk : Int)) ∧ Below u.heap.size u w') := fun u hu => by
                have h9 := fworked (HAT6.out.keep hu) HAL3.out.i.len HAL3.out.worked
                rw [HS3.out.2.2.1] at h9
                exact h9
              have HSS : Hid (∀ u, Below u6.heap.size u6 u → u.cell? ⟨w.heap.size, 0, none⟩ = some (.int .i64 dim) ∧ u.cell? ⟨w.heap.size, 1, none⟩ = some (.slice a n c)) := fun u hu => ⟨(HK6.out.keep hu).cell 0 rfl, (HK6.out.keep hu).cell 1 rfl⟩
              have hmn : m * n ≤ 16 * 4 := Nat.mul_le_mul (by have := HMAY.out.2.1.2.1; have := HLM.out.2; omega) (by have := HMAY.out.1.2.2.2.1; have := HLM.out.1; omega)
              have hmn2 : (m : Int) * (n : Int) = ((m * n : Nat) : Int) := (Int.natCast_mul m n).symm
              have hm8 : (8 : Int) * (m : Int) * (n : Int) = 8 * ((m * n : Nat) : Int) := by rw [Int.mul_assoc, hmn2]
              have hwk2 : wk ≤ 8 * (m * n) := by
                have h9 := HS3.out.2.2.2.2
                rw [HLM.out.1, HLM.out.2] at h9
                have h8 : n * m = m * n := Nat.mul_comm n m
                omega
              have hm16 : m ≤ 16 := by have := HMAY.out.2.1.2.1; have := HLM.out.2; omega
              have hw1 : IntKind.i64.wrap (8 * (m : Int)) = 8 * (m : Int) := by rw [IntKind.wrap_i64]; omega
              have hw2 : IntKind.i64.wrap (8 * (m : Int) * (n : Int)) = 8 * (m : Int) * (n : Int) := by rw [hm8, IntKind.wrap_i64]; omega
              have hle : (wk : Int) ≤ 8 * (m : Int) * (n : Int) := by rw [hm8]; omega
              obtain ⟨i1, i2⟩ := HSS.out u6 (Below.refl _ _)
              clear hb6 hr6 HDN HAT5 HB5 HK5 hmn hmn2 hm8 hwk2 hm16 hj hlt
              go_wp2
              go_region_held3 (fun u => u.cell? ⟨w.heap.size, 0, none⟩ = some (.int .i64 dim) ∧ u.cell? ⟨w.heap.size, 1, none⟩ = some (.slice a n c))
                (first
                  | exact HSS.out _ hd10
                  | exact HSS.out _ hd9
                  | exact HSS.out _ hd8
                  | exact HSS.out _ hd7
                  | exact HSS.out _ hD
                  | exact HSS.out _ (Below.refl _ _)
                  | go_keep)
                (first
                  | (go_at_call 13; refine (HAW.out _).mono ?_; rintro e u10 ⟨rfl, hb10⟩; have hd10 := bel_then hd9 hb10)
                  | (go_at_call 20; refine (HWKD.out _ hd8).mono ?_; rintro e u9 ⟨rfl, hb9⟩; have hd9 := bel_then hd8 hb9)
                  | (go_at_call 23; refine (HSAM.out _ _ _ hd7 hr7).mono ?_; rintro e u8 ⟨rfl, hb8⟩; have hd8 := bel_then hd7 hb8)
                  | (go_at_call 21; refine HFW.out.mono ?_; rintro e u7 ⟨hb7, wa, wc', rfl, hr7⟩; have hd7 := bel_then hD hb7))
              all_goals
                have hfin := bel_then HB6.out hd10
                clear hd10 hd9 hd8 hd7 hr7 i1 i2
                go_wp2
                go_ret
                exact ⟨rfl, hfin⟩
            · have HD : Hid (Calls _ _ _ _ _) := fdeliver0 hat HAL3.out hbe
              have hj3 := run_few HAL2.out hbe
              clear hmv hat hbe
              go_wp2_with (go_at_call 24; refine HD.out.mono ?_; rintro e u5 ⟨rfl, V5, hm5, hat5⟩)
              have HE := hid (And.intro (HMV3.out.trans hm5) hat5)
              clear hm5 hat5 HD
              go_roundw
              case rel => exact ⟨j + 1, V5, by omega, by go_num, HE.out.1, HE.out.2⟩
              case measure => simp [intOf]; omega

end Go.Proofs.YtfidgcanolegfaaGreat
