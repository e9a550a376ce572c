/- FleetMaps, with letters. -/
import Derived.Test.YtfidgcanolegfaaGreatFllA
namespace Go.Proofs.YtfidgcanolegfaaGreat
open Go.ChangeShapes Go.WideShapes Go.ChangeAt Go.RowKit



set_option maxRecDepth 100000 in
set_option maxHeartbeats 4000000 in
theorem flmaps (dim : Int) (a : Option Addr) (n c : Nat) (ms : List Ly) (ep : Int) (pa : Option Addr) (pn pc : Nat) (h : List (List Int)) (b : Option Addr) (m d : Nat) (T : List (List Int)) (x y : Int) (w : World) (hm : lysS.rep w everywhere [.slice a n c] ms) (hp : matS.rep w everywhere [.slice pa pn pc] h) (ht : matS.rep w everywhere [.slice b m d] T) :
    Calls Tryz.prog 6 #[.agg #[.int .i64 dim, .slice a n c], .agg #[.int .i64 ep, .slice pa pn pc], .slice b m d, .int .i64 x, .int .i64 y] w fun e w' => e = .returned (.bool true) ∧ Below w.heap.size w w' := by
  have hB := bel_two w (.cells #[.int .i64 dim, .slice a n c] 24) (.cells #[.int .i64 ep, .slice pa pn pc] 27)
  have km := (Box.new w 24 #[.int .i64 dim, .slice a n c]).keep (new_bel _ (.cells #[.int .i64 ep, .slice pa pn pc] 27))
  have kp := Box.new (w.alloc (.cells #[.int .i64 dim, .slice a n c] 24)) 27 #[.int .i64 ep, .slice pa pn pc]
  have e1 : (w.alloc (.cells #[.int .i64 dim, .slice a n c] 24)).heap.size = w.heap.size + 1 := by simp
  rw [e1] at kp
  have hm1 := Shape.below hm hB
  have hp1 := Shape.below hp hB
  have ht1 := Shape.below ht hB
  have HS1 : Hid (Calls _ _ _ _ _) := msmall a n c ms dim _ hm1
  have HAW : Hid (∀ u, Calls Tryz.prog 13 #[] u fun e w' => e = .returned (.bool true) ∧ Below u.heap.size u w') := fawake
  have hlm := (sliceS_len hm).1
  clear hm hp ht e1
  go_enter Tryz.func6, Tryz.ntmps6
  go_upto_region 1 with fail
  generalize (w.alloc (.cells #[.int .i64 dim, .slice a n c] 24)).alloc (.cells #[.int .i64 ep, .slice pa pn pc] 27) = W at *
  have HR := hid (And.intro hm1 (And.intro hp1 ht1))
  have HK := hid (And.intro km kp)
  have m0 := km.cell 0 rfl
  have m1 := km.cell 1 rfl
  clear hm1 hp1 ht1 km kp
  go_wp2_with fail
  refine HS1.out.mono ?_
  rintro e u1 ⟨hs1, hb1⟩
  have hB1 := bel_then hB hb1
  by_cases d1 : Md.Small ms
  case neg =>
    rw [hs1.not d1]
    clear d1 hs1 m0 m1
    go_wp2_with (go_at_call 13; refine (HAW.out _).mono ?_; rintro e u9 ⟨rfl, hb9⟩)
    go_ret
    exact ⟨rfl, bel_then hB1 hb9⟩
  rw [hs1.is d1]
  have D1 := hid d1
  have HS2 : Hid (Calls _ _ _ _ _) := small pa pn pc h _ u1 (Shape.below HR.out.2.1 hb1)
  have p1 := (HK.out.2.keep hb1).cell 1 rfl
  have HB1 := hid hb1
  clear hs1 d1 m0 m1 hb1
  go_wp2_with fail
  refine HS2.out.mono ?_
  rintro e u1' ⟨hs2, hu9⟩
  replace hu9 := hu9.symm
  subst hu9
  by_cases d2 : Mx.Small h
  case neg =>
    rw [hs2.not d2]
    clear d2 hs2 p1
    go_wp2_with (go_at_call 13; refine (HAW.out _).mono ?_; rintro e u9 ⟨rfl, hb9⟩)
    go_ret
    exact ⟨rfl, bel_then hB1 hb9⟩
  rw [hs2.is d2]
  have D2 := hid d2
  have HS3 : Hid (Calls _ _ _ _ _) := small b m d T _ u1 (Shape.below HR.out.2.2 HB1.out)
  clear hs2 d2 p1
  go_wp2_with fail
  refine HS3.out.mono ?_
  rintro e u1' ⟨hs3, hu9⟩
  replace hu9 := hu9.symm
  subst hu9
  by_cases d3 : Mx.Small T
  case neg =>
    rw [hs3.not d3]
    clear d3 hs3
    go_wp2_with (go_at_call 13; refine (HAW.out _).mono ?_; rintro e u9 ⟨rfl, hb9⟩)
    go_ret
    exact ⟨rfl, bel_then hB1 hb9⟩
  rw [hs3.is d3]
  have HSM := hid (And.intro D1.out (And.intro D2.out d3))
  have HNI : Hid (NewIn (· < u1.heap.size) u1 a n c ms pa pn pc h b m d T) := ⟨Shape.low (Shape.below HR.out.1 HB1.out), Shape.low (Shape.below HR.out.2.1 HB1.out), Shape.low (Shape.below HR.out.2.2 HB1.out), fun _ hb => hb, by have h9 : ms.length ≤ 5 := D1.out.1; omega, fun l hl => Md.small_lsized (D1.out.2 l hl), Ex.small_sized D2.out, Ex.small_sized d3⟩
  have HK1 := hid (And.intro (HK.out.1.keep HB1.out) (HK.out.2.keep HB1.out))
  have HBA := hid hB1
  clear hs3 d3 HS1 HS2 HS3 D1 D2 HR HK HB1 hB hB1 hlm
  obtain ⟨bm, hbm⟩ : ∃ bm : Bool, bm = true ↔ May dim ms ep h T := by
    rcases Classical.em (May dim ms ep h T) with h9 | h9
    · exact ⟨true, fun _ => h9, fun _ => rfl⟩
    · exact ⟨false, fun e => (by cases e), fun h8 => absurd h8 h9⟩
  have HBM := hid hbm
  have HCM : Hid (Calls _ _ _ _ _) := rmay dim a n c ms ep pa pn pc h b m d T u1 HNI.out bm hbm
  have m0 := HK1.out.1.cell 0 rfl
  have m1 := HK1.out.1.cell 1 rfl
  have p0 := HK1.out.2.cell 0 rfl
  have p1 := HK1.out.2.cell 1 rfl
  clear hbm
  go_wp2_with fail
  refine HCM.out.mono ?_
  rintro e u2 ⟨rfl, hb2⟩
  have hB2 := bel_then HBA.out hb2
  clear m0 m1 p0 p1
  cases bm with
  | false =>
    go_wp2_with (go_at_call 13; refine (HAW.out _).mono ?_; rintro e u9 ⟨rfl, hb9⟩)
    go_ret
    exact ⟨rfl, bel_then hB2 hb9⟩
  | true =>
  have HMAY : Hid (May dim ms ep h T) := HBM.out.1 rfl
  have HNI2 := hid (HNI.out.keep hb2)
  have HNE : Hid (∀ (O : Nat → Prop) (u : World), Below u2.heap.size u2 u → (∀ b, O b → b < u.heap.size ∧ u2.heap.size ≤ b) → Calls Tryz.prog 14 #[.agg #[.int .i64 dim, .slice a n c], .agg #[.int .i64 ep, .slice pa pn pc], .slice b m d] u fun e w' => Below u.heap.size u w' ∧ ∃ p V, e = .returned (.tuple #[.pointer (some ⟨p, 0, none⟩), .int .i64 0]) ∧ (∀ b, V b → u.heap.size ≤ b) ∧ FlAt O V w' p dim ms (Ft.start ms ep h T) (Ft.qs ms (Ft.start ms ep h T))) := fun O u hu ho => fnew (I := (· < u2.heap.size)) dim a n c ms ep pa pn pc h b m d T u ⟨Shape.below (lysS.mono HNI2.out.mm (fun b hb hlt => hlt)) hu, Shape.below (matS.mono HNI2.out.pp (fun b hb hlt => hlt)) hu, Shape.below (matS.mono HNI2.out.tt (fun b hb hlt => hlt)) hu, fun b hb => Nat.lt_of_lt_of_le hb hu.size, HNI2.out.mn, HNI2.out.mz, HNI2.out.ps, HNI2.out.ts⟩ (fun b hb => ⟨(ho b hb).1, fun h9 => by have := (ho b hb).2; omega⟩) HMAY.out
  have HK2 := hid (And.intro (HK1.out.1.keep hb2) (HK1.out.2.keep hb2))
  have HBB2 := hid hB2
  have HALS := hid (Alive.start HMAY.out)
  clear hb2 hB2 HK1 HNI HCM HBM HBA
  have m0 := HK2.out.1.cell 0 rfl
  have m1 := HK2.out.1.cell 1 rfl
  have p0 := HK2.out.2.cell 0 rfl
  have p1 := HK2.out.2.cell 1 rfl
  have HN1 : Hid (Calls _ _ _ _ _) := HNE.out (fun _ => False) u2 (Below.refl _ _) (fun b hb => hb.elim)
  go_wp2_with fail
  refine HN1.out.mono ?_
  rintro e u3 ⟨hb3, p, V, rfl, hV, hat⟩
  have HB3 := hid (bel_then HBB2.out hb3)
  have HV3 : Hid (∀ b, V b → w.heap.size ≤ b) := fun b hb => Nat.le_trans HBB2.out.size (hV b hb)
  have HAT3 := hid hat
  have HK3 := hid (And.intro (HK2.out.1.keep hb3) (HK2.out.2.keep hb3))
  have HNI3 := hid (HNI2.out.keep hb3)
  clear hb3 hV hat m0 m1 p0 p1 HN1 HK2 HNI2 HNE HBB2
  have hsh : Pl.Short h := Pl.small_short HSM.out.2.1
  have hlay : (Ft.start ms ep h T).e = ep ∧ (Ft.start ms ep h T).h = h := by
    have h9 := Ft.ask_ans ms (Ft.at0 ms ⟨ep, h, [[], [], [], []], [], 0, T, []⟩ T 0)
    exact ⟨h9.2.2.2.1, h9.2.2.2.2.1⟩
  obtain ⟨E, M, X, hA⟩ := Pl.add_there ep h x y
  obtain ⟨E2, M2, X2, hA2⟩ := Pl.ret_there E M x y
  have hmsh : Pl.Short M := ⟨by rw [hA.len]; exact hsh.1, hA.rows (by omega) hsh.2⟩
  generalize hs0 : Ft.start ms ep h T = s0 at *
  obtain ⟨kk, hkk⟩ : ∃ kk, s0.bag.length = kk := ⟨_, rfl⟩
  have HKK := hid hkk
  have HEH := hid hlay
  have HAA := hid (And.intro hA (And.intro hA2 (And.intro hsh hmsh)))
  have HBG : Hid (Calls _ _ _ _ _) := fbag HAT3.out HALS.out.i.few kk hkk
  have HVL := hid HAT3.out.there.2.1
  have hk200 : kk ≤ 200 := by rw [← hkk]; exact HALS.out.i.few
  clear hkk hs0 hsh hlay hA hA2 hmsh
  go_wp2_with fail
  refine HBG.out.mono ?_
  rintro e u4 ⟨hb4, fa, fc, rfl, hx4⟩
  have HX4 := hid hx4
  have HAT4 := hid (HAT3.out.keep hb4)
  have HB4 := hid (bel_then HB3.out hb4)
  have HPA : Hid (Calls _ _ _ _ _) := padd_any ep pa pn pc h x y u4 (Shape.any (HNI3.out.keep hb4).pp) HAA.out.2.2.1 E X M HAA.out.1
  have kp4 := HK3.out.2.keep hb4
  have p0 := kp4.cell 0 rfl
  have p1 := kp4.cell 1 rfl
  clear hx4 hb4 HBG kp4 HAT3 HB3
  go_wp2_with fail
  refine HPA.out.mono ?_
  rintro e u5 ⟨hb5, a5, c5, rfl, hr5⟩
  have hbn := new_bel u5 (.cells #[.int .i64 E, .slice a5 pn c5] 27)
  have kq := Box.new u5 27 #[.int .i64 E, .slice a5 pn c5]
  have HPR : Hid (Calls _ _ _ _ _) := pret_any E a5 pn c5 M x y _ (Shape.below hr5 hbn) HAA.out.2.2.2 E2 X2 M2 HAA.out.2.1
  have hb5' := bel_then hb5 hbn
  have HAT5 := hid (HAT4.out.keep hb5')
  have HB5 := hid (bel_then HB4.out hb5')
  have HX5 := hid (Shape.below HX4.out hb5')
  clear hb5 hbn hr5 hb5' p0 p1 HPA HAT4 HB4 HX4
  go_upto_region 8 with fail
  generalize u5.alloc (.cells #[.int .i64 E, .slice a5 pn c5] 27) = U5 at *
  have q0 := kq.cell 0 rfl
  have q1 := kq.cell 1 rfl
  go_wp2_with fail
  refine HPR.out.mono ?_
  rintro e u6 ⟨hb6, a6, c6, rfl, _⟩
  have hbn := new_bel u6 (.cells #[.int .i64 E2, .slice a6 pn c6] 27)
  have hb6' := bel_then hb6 hbn
  have hat6 := HAT5.out.keep hb6'
  have HFA : Hid (Calls _ _ _ _ _) := fladd hat6 (Pl.right_short HALS.out.i.map) x y E X M (by rw [HEH.out.1, HEH.out.2]; exact HAA.out.1)
  have HB6 := hid (bel_then HB5.out hb6')
  have HX6 := hid (Shape.below HX5.out hb6')
  clear hb6 hbn hb6' hat6 q0 q1 kq HPR HAT5 HB5 HX5
  go_wp2_with fail
  refine HFA.out.mono ?_
  rintro e u7 ⟨rfl, hm7, hat7⟩
  have HX7 : Hid (bagS.rep u7 (u3.heap.size ≤ ·) [.slice fa kk fc] (s0.bag.map enc)) := Shape.keep _ HX6.out fun b hb hlt => hm7.block b hlt (fun hv => by have h9 : u3.heap.size ≤ b := hb; have := HVL.out b hv; omega)
  have HFR : Hid (Calls _ _ _ _ _) := flretire hat7 HAA.out.2.2.2 x y E2 X2 M2 HAA.out.2.1
  have HB7 := hid (hm7.below HV3.out HB6.out.size HB6.out)
  clear hm7 hat7 HFA HX6 HB6
  go_wp2_with fail
  refine HFR.out.mono ?_
  rintro e u8 ⟨rfl, hm8, hat8⟩
  have HX8 : Hid (bagS.rep u8 (u3.heap.size ≤ ·) [.slice fa kk fc] (s0.bag.map enc)) := Shape.keep _ HX7.out fun b hb hlt => hm8.block b hlt (fun hv => by have h9 : u3.heap.size ≤ b := hb; have := HVL.out b hv; omega)
  have HBG2 : Hid (Calls _ _ _ _ _) := fbag hat8 HALS.out.i.few kk HKK.out
  have HB8 := hid (hm8.below HV3.out HB7.out.size HB7.out)
  clear hm8 hat8 HFR HX7 HB7
  go_wp2_with fail
  refine HBG2.out.mono ?_
  rintro e u9 ⟨hb9, ga, gc, rfl, hy9⟩
  have HX := hid (Shape.any (Shape.below HX8.out hb9))
  have HY := hid (Shape.any hy9)
  have HB9 := hid (bel_then HB8.out hb9)
  clear hb9 hy9 HBG2 HX8 HB8
  go_wp2
  go_loopw [96] (fun i wr => ∃ k : Nat, k ≤ kk ∧ i = .int .i64 k ∧ Below u9.heap.size u9 wr) (fun i _ => kk - (intOf i).toNat)
  case atStart => exact ⟨0, Nat.zero_le _, rfl, Below.refl _ _⟩
  case round =>
    obtain ⟨k, hk, rfl, hbel⟩ := hrel
    by_cases hlt : k < kk
    · obtain ⟨bx, ox, hex, hbx, hcx⟩ := (Texts.of_rep (Shape.below HX.out hbel)).at hlt
      obtain ⟨by', oy, hey, hby, hcy⟩ := (Texts.of_rep (Shape.below HY.out hbel)).at hlt
      subst hex
      subst hey
      have hli : (k : Int) < (kk : Int) := by omega
      have hk0 : (0 : Int) ≤ (k : Int) := by omega
      generalize ((s0.bag.map enc)).getD k noText = tx at *
      go_upto_region 16 with fail
      have cx := fun y : Later wr => y.cell hcx
      have cy := fun y : Later wr => y.cell hcy
      have HE := hid hbel
      clear hbel hcx hcy
      have : Nonempty (Later wr) := Later.there wr
      refine region_later (by kernel_rfl) (by kernel_rfl) ?_
      repeat (go_big_quiet_step (fail))
      refine wpQuiet_nil ?_
      intro y9
      obtain ⟨W9, hb9⟩ := y9
      clear cx cy
      go_wp2
      go_roundw
      case rel => exact ⟨k + 1, by omega, by go_num, bel_then HE.out hb9⟩
      case measure => simp [intOf]; omega
    · have hkn : k = kk := by omega
      have hli : ¬ (k : Int) < (kk : Int) := by omega
      have hBF := bel_then HB9.out hbel
      clear hkn hbel
      go_wp2_with (go_at_call 13; refine (HAW.out _).mono ?_; rintro e u9 ⟨rfl, hb9⟩)
      go_ret
      exact ⟨rfl, bel_then hBF hb9⟩

end Go.Proofs.YtfidgcanolegfaaGreat
