/- FleetLost, with letters. -/
import Derived.Test.YtfidgcanolegfaaGreatJz
import Derived.Test.YtfidgcanolegfaaGreatJm
namespace Go.Proofs.YtfidgcanolegfaaGreat
open Go.ChangeShapes Go.WideShapes Go.ChangeAt Go.RowKit



theorem start_fresh {dim : Int} {ms : List Ly} {ep : Int} {h : List (List Int)} {T : List (List Int)} (H : May dim ms ep h T) : Ft.Fresh dim ms T (Ft.start ms ep h T) ∧ Ft.worked (Ft.start ms ep h T) = 0 ∧ (Ft.start ms ep h T).lay = 0 := by
  have h9 := Ft.counts H.1 H.2.1 H.2.2.1 H.2.2.2 0 (Nat.zero_le _)
  exact ⟨h9.2.2.1 (by have := H.1.2.2.1; omega), h9.2.1, h9.1⟩
/-- Asked again, where all is lost. -/
theorem lost_again {dim : Int} {ms : List Ly} {ep : Int} {h : List (List Int)} {T : List (List Int)} (H : May dim ms ep h T) : (Ft.ask ms { Ft.start ms ep h T with bag := [] }).bag = (Ft.start ms ep h T).bag := by
  obtain ⟨hf, _, _⟩ := start_fresh H
  have h32 := Ft.ps_few hf.inv H.1 H.2.1
  generalize hs : Ft.start ms ep h T = s at *
  unfold Ft.ask
  rw [if_pos hf.here]
  show Ft.puts [] ((Ft.left (Ft.ps ms s) s.ans).map (Ft.askOf s.e s.h s.lay s.toks)) = s.bag
  rw [hf.ans, Ft.left_none, Ft.puts_all (by simp; omega), List.nil_append, hf.bag]
theorem drop_drop (l : List Wx.Msg) (j : Nat) : (l.drop j).eraseIdx 0 = l.drop (j + 1) := by rw [List.eraseIdx_zero, List.tail_drop]
set_option maxRecDepth 100000 in
set_option maxHeartbeats 4000000 in
theorem flost (dim : Int) (a : Option Addr) (n c : Nat) (ms : List Ly) (ep : Int) (pa : Option Addr) (pn pc : Nat) (h : List (List Int)) (b : Option Addr) (m d : Nat) (T : List (List Int)) (w : World) (hm : lysS.rep w everywhere [.slice a n c] ms) (hp : matS.rep w everywhere [.slice pa pn pc] h) (ht : matS.rep w everywhere [.slice b m d] T) :
    Calls Tryz.prog 8 #[.agg #[.int .i64 dim, .slice a n c], .agg #[.int .i64 ep, .slice pa pn pc], .slice b m d] w fun e w' => e = .returned (.bool true) ∧ Below w.heap.size w w' := by
  have hB := bel_two w (.cells #[.int .i64 dim, .slice a n c] 24) (.cells #[.int .i64 ep, .slice pa pn pc] 27)
  have km := (Box.new w 24 #[.int .i64 dim, .slice a n c]).keep (new_bel _ (.cells #[.int .i64 ep, .slice pa pn pc] 27))
  have kp := Box.new (w.alloc (.cells #[.int .i64 dim, .slice a n c] 24)) 27 #[.int .i64 ep, .slice pa pn pc]
  have e1 : (w.alloc (.cells #[.int .i64 dim, .slice a n c] 24)).heap.size = w.heap.size + 1 := by simp
  rw [e1] at kp
  have hm1 := Shape.below hm hB
  have hp1 := Shape.below hp hB
  have ht1 := Shape.below ht hB
  have HS1 : Hid (Calls _ _ _ _ _) := msmall a n c ms dim _ hm1
  have HAW : Hid (∀ u, Calls Tryz.prog 13 #[] u fun e w' => e = .returned (.bool true) ∧ Below u.heap.size u w') := fawake
  have hlm := (sliceS_len hm).1
  clear hm hp ht e1
  go_enter Tryz.func8, Tryz.ntmps8
  go_upto_region 1 with fail
  generalize (w.alloc (.cells #[.int .i64 dim, .slice a n c] 24)).alloc (.cells #[.int .i64 ep, .slice pa pn pc] 27) = W at *
  have HR := hid (And.intro hm1 (And.intro hp1 ht1))
  have HK := hid (And.intro km kp)
  have m0 := km.cell 0 rfl
  have m1 := km.cell 1 rfl
  clear hm1 hp1 ht1 km kp
  go_wp2_with fail
  refine HS1.out.mono ?_
  rintro e u1 ⟨hs1, hb1⟩
  have hB1 := bel_then hB hb1
  by_cases d1 : Md.Small ms
  case neg =>
    rw [hs1.not d1]
    clear d1 hs1 m0 m1
    go_wp2_with (go_at_call 13; refine (HAW.out _).mono ?_; rintro e u9 ⟨rfl, hb9⟩)
    go_ret
    exact ⟨rfl, bel_then hB1 hb9⟩
  rw [hs1.is d1]
  have D1 := hid d1
  have HS2 : Hid (Calls _ _ _ _ _) := small pa pn pc h _ u1 (Shape.below HR.out.2.1 hb1)
  have p1 := (HK.out.2.keep hb1).cell 1 rfl
  have HB1 := hid hb1
  clear hs1 d1 m0 m1 hb1
  go_wp2_with fail
  refine HS2.out.mono ?_
  rintro e u1' ⟨hs2, hu9⟩
  replace hu9 := hu9.symm
  subst hu9
  by_cases d2 : Mx.Small h
  case neg =>
    rw [hs2.not d2]
    clear d2 hs2 p1
    go_wp2_with (go_at_call 13; refine (HAW.out _).mono ?_; rintro e u9 ⟨rfl, hb9⟩)
    go_ret
    exact ⟨rfl, bel_then hB1 hb9⟩
  rw [hs2.is d2]
  have D2 := hid d2
  have HS3 : Hid (Calls _ _ _ _ _) := small b m d T _ u1 (Shape.below HR.out.2.2 HB1.out)
  clear hs2 d2 p1
  go_wp2_with fail
  refine HS3.out.mono ?_
  rintro e u1' ⟨hs3, hu9⟩
  replace hu9 := hu9.symm
  subst hu9
  by_cases d3 : Mx.Small T
  case neg =>
    rw [hs3.not d3]
    clear d3 hs3
    go_wp2_with (go_at_call 13; refine (HAW.out _).mono ?_; rintro e u9 ⟨rfl, hb9⟩)
    go_ret
    exact ⟨rfl, bel_then hB1 hb9⟩
  rw [hs3.is d3]
  have HSM := hid (And.intro D1.out (And.intro D2.out d3))
  have HNI : Hid (NewIn (· < u1.heap.size) u1 a n c ms pa pn pc h b m d T) := ⟨Shape.low (Shape.below HR.out.1 HB1.out), Shape.low (Shape.below HR.out.2.1 HB1.out), Shape.low (Shape.below HR.out.2.2 HB1.out), fun _ hb => hb, by have h9 : ms.length ≤ 5 := D1.out.1; omega, fun l hl => Md.small_lsized (D1.out.2 l hl), Ex.small_sized D2.out, Ex.small_sized d3⟩
  have HK1 := hid (And.intro (HK.out.1.keep HB1.out) (HK.out.2.keep HB1.out))
  have HBA := hid hB1
  clear hs3 d3 HS1 HS2 HS3 D1 D2 HR HK HB1 hB hB1 hlm
  obtain ⟨bm, hbm⟩ : ∃ bm : Bool, bm = true ↔ May dim ms ep h T := by
    rcases Classical.em (May dim ms ep h T) with h9 | h9
    · exact ⟨true, fun _ => h9, fun _ => rfl⟩
    · exact ⟨false, fun e => (by cases e), fun h8 => absurd h8 h9⟩
  have HBM := hid hbm
  have HCM : Hid (Calls _ _ _ _ _) := rmay dim a n c ms ep pa pn pc h b m d T u1 HNI.out bm hbm
  have m0 := HK1.out.1.cell 0 rfl
  have m1 := HK1.out.1.cell 1 rfl
  have p0 := HK1.out.2.cell 0 rfl
  have p1 := HK1.out.2.cell 1 rfl
  clear hbm
  go_wp2_with fail
  refine HCM.out.mono ?_
  rintro e u2 ⟨rfl, hb2⟩
  have hB2 := bel_then HBA.out hb2
  clear m0 m1 p0 p1
  cases bm with
  | false =>
    go_wp2_with (go_at_call 13; refine (HAW.out _).mono ?_; rintro e u9 ⟨rfl, hb9⟩)
    go_ret
    exact ⟨rfl, bel_then hB2 hb9⟩
  | true =>
  have HMAY : Hid (May dim ms ep h T) := HBM.out.1 rfl
  have HNI2 := hid (HNI.out.keep hb2)
  have HNE : Hid (∀ (O : Nat → Prop) (u : World), Below u2.heap.size u2 u → (∀ b, O b → b < u.heap.size ∧ u2.heap.size ≤ b) → Calls Tryz.prog 14 #[.agg #[.int .i64 dim, .slice a n c], .agg #[.int .i64 ep, .slice pa pn pc], .slice b m d] u fun e w' => Below u.heap.size u w' ∧ ∃ p V, e = .returned (.tuple #[.pointer (some ⟨p, 0, none⟩), .int .i64 0]) ∧ (∀ b, V b → u.heap.size ≤ b) ∧ FlAt O V w' p dim ms (Ft.start ms ep h T) (Ft.qs ms (Ft.start ms ep h T))) := fun O u hu ho => fnew (I := (· < u2.heap.size)) dim a n c ms ep pa pn pc h b m d T u ⟨Shape.below (lysS.mono HNI2.out.mm (fun b hb hlt => hlt)) hu, Shape.below (matS.mono HNI2.out.pp (fun b hb hlt => hlt)) hu, Shape.below (matS.mono HNI2.out.tt (fun b hb hlt => hlt)) hu, fun b hb => Nat.lt_of_lt_of_le hb hu.size, HNI2.out.mn, HNI2.out.mz, HNI2.out.ps, HNI2.out.ts⟩ (fun b hb => ⟨(ho b hb).1, fun h9 => by have := (ho b hb).2; omega⟩) HMAY.out
  have HK2 := hid (And.intro (HK1.out.1.keep hb2) (HK1.out.2.keep hb2))
  have HBB2 := hid hB2
  have HALS := hid (Alive.start HMAY.out)
  clear hb2 hB2 HK1 HNI HCM HBM HBA
  have m0 := HK2.out.1.cell 0 rfl
  have m1 := HK2.out.1.cell 1 rfl
  have p0 := HK2.out.2.cell 0 rfl
  have p1 := HK2.out.2.cell 1 rfl
  have HN1 : Hid (Calls _ _ _ _ _) := HNE.out (fun _ => False) u2 (Below.refl _ _) (fun b hb => hb.elim)
  go_wp2_with fail
  refine HN1.out.mono ?_
  rintro e u3 ⟨hb3, p, V, rfl, hV, hat⟩
  have HB3 := hid (bel_then HBB2.out hb3)
  have HV3 : Hid (∀ b, V b → w.heap.size ≤ b) := fun b hb => Nat.le_trans HBB2.out.size (hV b hb)
  have HAT3 := hid hat
  have HK3 := hid (And.intro (HK2.out.1.keep hb3) (HK2.out.2.keep hb3))
  have HNI3 := hid (HNI2.out.keep hb3)
  clear hb3 hV hat m0 m1 p0 p1 HN1 HK2 HNI2 HNE HBB2
  have hfr := start_fresh HMAY.out
  have hag := lost_again HMAY.out
  generalize hs0 : Ft.start ms ep h T = s0 at *
  obtain ⟨kk, hkk⟩ : ∃ kk, s0.bag.length = kk := ⟨_, rfl⟩
  have HFR := hid (And.intro hfr (And.intro hag hkk))
  have HBG : Hid (Calls _ _ _ _ _) := fbag HAT3.out HALS.out.i.few kk hkk
  have hVlt := HAT3.out.there.2.1
  have HVL := hid hVlt
  have hk200 : kk ≤ 200 := by rw [← hkk]; exact HALS.out.i.few
  clear hfr hag hkk hs0 hVlt
  go_wp2_with fail
  refine HBG.out.mono ?_
  rintro e u4 ⟨hb4, fa, fc, rfl, hx4⟩
  have HX4 := hid hx4
  have hat4 : FlAt (fun _ => False) V u4 p dim ms { s0 with bag := s0.bag.drop 0 } (Ft.qs ms s0) := by rw [List.drop_zero]; exact HAT3.out.keep hb4
  have HAT4 := hid hat4
  have HB4 := hid (bel_then HB3.out hb4)
  clear hx4 hat4 hb4 HBG
  go_wp2
  go_loopw [50] (fun i wr => ∃ j : Nat, j ≤ kk ∧ i = .int .i64 j ∧ Mv V V u4 wr ∧ FlAt (fun _ => False) V wr p dim ms { s0 with bag := s0.bag.drop j } (Ft.qs ms s0)) (fun i _ => kk - (intOf i).toNat)
  case atStart => exact ⟨0, Nat.zero_le _, rfl, Mv.refl _ _, HAT4.out⟩
  case round =>
    clear HAT4
    obtain ⟨j, hj, rfl, hmv, hat⟩ := hrel
    have HMV := hid hmv
    have HAT := hid hat
    clear hmv hat
    by_cases hlt : j < kk
    · have hli : (j : Int) < (kk : Int) := by omega
      have hk2 := HFR.out.2.2
      have HD : Hid (Calls _ _ _ _ _) := fdrop_in HAT.out (by show (s0.bag.drop j).length ≤ 200; rw [List.length_drop]; omega) 0 (by show 0 < (s0.bag.drop j).length; rw [List.length_drop]; omega)
      clear hk2
      go_wp2_with (go_at_call 30; refine HD.out.mono ?_; rintro e u5 ⟨rfl, hm5, hat5⟩)
      have hat6 : FlAt (fun _ => False) V u5 p dim ms { s0 with bag := s0.bag.drop (j + 1) } (Ft.qs ms s0) := by rw [← drop_drop]; exact hat5
      have HE := hid (And.intro (HMV.out.trans hm5) hat6)
      clear hat5 hat6 hm5
      go_roundw
      case rel => exact ⟨j + 1, by omega, by go_num, HE.out.1, HE.out.2⟩
      case measure => simp [intOf]; omega
    · have hjk : j = kk := by omega
      have hli : ¬ (j : Int) < (kk : Int) := by omega
      have hd0 : s0.bag.drop j = [] := by rw [hjk, ← HFR.out.2.2]; exact List.drop_length
      have hat5 := HAT.out
      rw [hd0] at hat5
      have hBw : Below w.heap.size w wr := HMV.out.below HV3.out HB4.out.size HB4.out
      have hlay := HFR.out.1.2.2
      have hms := HMAY.out.1.2.2.1
      have HD1 : Hid (Calls _ _ _ _ _) := fdone_no hat5 (by show s0.lay ≠ ms.length; omega)
      have HAT5 := hid hat5
      have HBw := hid hBw
      have hx := Mv.refl V wr
      have HX5 : Hid (bagS.rep wr (u3.heap.size ≤ ·) [.slice fa kk fc] (s0.bag.map enc)) := (Shape.keep _ HX4.out fun b hb hlt => HMV.out.block b hlt (fun hv => by have h9 : u3.heap.size ≤ b := hb; have := HVL.out b hv; omega))
      have HJ := hid hjk
      clear hjk hd0 hat5 hBw hlay hms HAT HMV hx
      go_wp2_with fail
      refine HD1.out.mono ?_
      rintro e u5 ⟨rfl, hb5⟩
      have HAL1 := hid (And.intro (HAT5.out.keep hb5) (bel_then HBw.out hb5))
      have HX6 := hid (Shape.below HX5.out hb5)
      have HBG2 : Hid (Calls _ _ _ _ _) := fbag HAL1.out.1 (by show ([] : List Wx.Msg).length ≤ 200; decide) 0 rfl
      clear hb5 HD1 HAT5 HBw HX5
      go_wp2_with fail
      refine HBG2.out.mono ?_
      rintro e u6 ⟨hb6, ga, gc, rfl, _⟩
      have HAL2 := hid (And.intro (HAL1.out.1.keep hb6) (bel_then HAL1.out.2 hb6))
      have HX7 := hid (Shape.below HX6.out hb6)
      have hI0 : Ft.Inv dim ms T { s0 with bag := [] } := ⟨HALS.out.i.lay, HALS.out.i.toks, HALS.out.i.map, HALS.out.i.wide, HALS.out.i.len, HALS.out.i.led, fun m hm => (by cases hm), Nat.zero_le _, HALS.out.i.many, HALS.out.i.ans⟩
      have HASK : Hid (Calls _ _ _ _ _) := faskM HAL2.out.1 hI0 HALS.out.m HALS.out.t
      have HAL9 : Hid (Alive dim ms T (Ft.ask ms { s0 with bag := [] })) := Alive.ask ⟨HALS.out.m, HALS.out.t, hI0, HALS.out.n⟩
      clear hb6 HBG2 HX6 hI0
      go_wp2_with fail
      refine HASK.out.mono ?_
      rintro e u7 ⟨rfl, hm7, hat7⟩
      have HX8 : Hid (bagS.rep u7 everywhere [.slice fa kk fc] (s0.bag.map enc)) := Shape.any (Shape.keep _ HX7.out fun b hb hlt => hm7.block b hlt (fun hv => by have h9 : u3.heap.size ≤ b := hb; have := HVL.out b hv; omega))
      have HB7 := hid (hm7.below HV3.out HAL2.out.2.size HAL2.out.2)
      have hwk0 : Ft.worked (Ft.ask ms { s0 with bag := [] }) = 0 := by
        have h9 := (Ft.ask_ans ms { s0 with bag := [] }).2.2.2.2.2
        unfold Ft.worked
        rw [h9]
        exact HFR.out.1.2.1
      have hbl : (Ft.ask ms { s0 with bag := [] }).bag.length = kk := by rw [HFR.out.2.1]; exact HFR.out.2.2
      have hbg : (Ft.ask ms { s0 with bag := [] }).bag = s0.bag := HFR.out.2.1
      generalize Ft.ask ms { s0 with bag := [] } = s7 at *
      have HW0 := hid (And.intro hwk0 (And.intro hbl hbg))
      have HAT7 := hid hat7
      have HBG3 : Hid (Calls _ _ _ _ _) := fbag hat7 HAL9.out.i.few kk hbl
      clear hm7 hat7 hwk0 hbl hbg HX7 HASK HAL2 HAL1
      go_wp2_with fail
      refine HBG3.out.mono ?_
      rintro e u8 ⟨hb8, ga2, gc2, rfl, hx8⟩
      rw [HW0.out.2.2] at hx8
      have HXA := hid (Shape.any hx8)
      have HXB := hid (Shape.below HX8.out hb8)
      have hat8 := HAT7.out.keep hb8
      have hwk := fworked hat8 HAL9.out.i.len HAL9.out.worked
      rw [HW0.out.1] at hwk
      have HWK : Hid (Calls _ _ _ _ _) := hwk
      have HAT8 := hid hat8
      have HB8 := hid (bel_then HB7.out hb8)
      clear hx8 hat8 hwk hb8 HX8 HAT7 HBG3
      go_wp2_with fail
      refine HWK.out.mono ?_
      rintro e u9 ⟨rfl, hb9⟩
      have HDR : Hid (Calls _ _ _ _ _) := fdrop_out (HAT8.out.keep hb9) HAL9.out.i.few (kk : Int) (by rw [HW0.out.2.1]; omega)
      have HB9 := hid (bel_then HB8.out hb9)
      have HXA9 := hid (Shape.below HXA.out hb9)
      have HXB9 := hid (Shape.below HXB.out hb9)
      clear hb9 HWK HAT8 HXA HXB
      go_wp2_with fail
      refine HDR.out.mono ?_
      rintro e u10 ⟨rfl, hb10⟩
      have HX := hid (Shape.below HXA9.out hb10)
      have HY := hid (Shape.below HXB9.out hb10)
      have HB10 := hid (bel_then HB9.out hb10)
      clear hb10 HDR HXA9 HXB9
      go_wp2
      go_loopw [94] (fun i wr => ∃ k : Nat, k ≤ kk ∧ i = .int .i64 k ∧ Below u10.heap.size u10 wr) (fun i _ => kk - (intOf i).toNat)
      case atStart => exact ⟨0, Nat.zero_le _, rfl, Below.refl _ _⟩
      case round =>
        obtain ⟨k, hk, rfl, hbel⟩ := hrel
        by_cases hlt : k < kk
        · obtain ⟨bx, ox, hex, hbx, hcx⟩ := (Texts.of_rep (Shape.below HX.out hbel)).at hlt
          obtain ⟨by', oy, hey, hby, hcy⟩ := (Texts.of_rep (Shape.below HY.out hbel)).at hlt
          subst hex
          subst hey
          have hli : (k : Int) < (kk : Int) := by omega
          have hk0 : (0 : Int) ≤ (k : Int) := by omega
          generalize ((s0.bag.map enc)).getD k noText = tx at *
          go_upto_region 21 with fail
          have cx := fun y : Later wr => y.cell hcx
          have cy := fun y : Later wr => y.cell hcy
          have HE := hid hbel
          clear hbel hcx hcy
          have : Nonempty (Later wr) := Later.there wr
          refine region_later (by kernel_rfl) (by kernel_rfl) ?_
          repeat (go_big_quiet_step (fail))
          refine wpQuiet_nil ?_
          intro y9
          obtain ⟨W9, hb9⟩ := y9
          clear cx cy
          go_wp2
          go_roundw
          case rel => exact ⟨k + 1, by omega, by go_num, bel_then HE.out hb9⟩
          case measure => simp [intOf]; omega
        · have hkn : k = kk := by omega
          have hli : ¬ (k : Int) < (kk : Int) := by omega
          have hBF := bel_then HB10.out hbel
          clear hkn hbel
          go_wp2_with (go_at_call 13; refine (HAW.out _).mono ?_; rintro e u9 ⟨rfl, hb9⟩)
          go_ret
          exact ⟨rfl, bel_then hBF hb9⟩

end Go.Proofs.YtfidgcanolegfaaGreat
