/- FleetBegins, with letters. -/
import Derived.Test.YtfidgcanolegfaaGreatFllG
namespace Go.Proofs.YtfidgcanolegfaaGreat
open Go.ChangeShapes Go.WideShapes Go.ChangeAt Go.RowKit



theorem start_bag {dim : Int} {ms : List Ly} {ep : Int} {h T : List (List Int)} (H : May dim ms ep h T) : (Ft.start ms ep h T).bag = (Md.parts (ms.getD 0 ly0) T).map (Ft.askOf ep h 0 T) := by
  obtain ⟨hf, _, hl⟩ := start_fresh H
  have h9 := Ft.ask_ans ms (Ft.at0 ms ⟨ep, h, [[], [], [], []], [], 0, T, []⟩ T 0)
  have he : (Ft.start ms ep h T).e = ep := h9.2.2.2.1
  have hh : (Ft.start ms ep h T).h = h := h9.2.2.2.2.1
  have ht : (Ft.start ms ep h T).toks = T := h9.2.2.1
  have hb := hf.bag
  unfold Ft.ps Ft.lyAt at hb
  rw [hl, he, hh, ht] at hb
  exact hb
theorem asks_right {dim : Int} {ms : List Ly} {ep : Int} {h T : List (List Int)} (H : May dim ms ep h T) : ∀ x ∈ (Md.parts (ms.getD 0 ly0) T).map (Ft.askOf ep h 0 T), Wx.right x := by
  intro x hx
  obtain ⟨p, hp, rfl⟩ := List.mem_map.1 hx
  have h9 := (Ft.ask_good H.1 H.2.1 H.2.2.1 H.2.2.2 (L := 0) (p := p) ⟨by have := H.1.2.2.1; omega, hp⟩).1
  exact h9
set_option maxRecDepth 100000 in
set_option maxHeartbeats 8000000 in
theorem flbegins (dim : Int) (a : Option Addr) (n c : Nat) (ms : List Ly) (ep : Int) (pa : Option Addr) (pn pc : Nat) (h : List (List Int)) (b : Option Addr) (m d : Nat) (T : List (List Int)) (w : World) (hm : lysS.rep w everywhere [.slice a n c] ms) (hp : matS.rep w everywhere [.slice pa pn pc] h) (ht : matS.rep w everywhere [.slice b m d] T) :
    Calls Tryz.prog 3 #[.agg #[.int .i64 dim, .slice a n c], .agg #[.int .i64 ep, .slice pa pn pc], .slice b m d] w fun e w' => e = .returned (.bool true) ∧ Below w.heap.size w w' := by
  have hB := bel_two w (.cells #[.int .i64 dim, .slice a n c] 24) (.cells #[.int .i64 ep, .slice pa pn pc] 27)
  have km := (Box.new w 24 #[.int .i64 dim, .slice a n c]).keep (new_bel _ (.cells #[.int .i64 ep, .slice pa pn pc] 27))
  have kp := Box.new (w.alloc (.cells #[.int .i64 dim, .slice a n c] 24)) 27 #[.int .i64 ep, .slice pa pn pc]
  have e1 : (w.alloc (.cells #[.int .i64 dim, .slice a n c] 24)).heap.size = w.heap.size + 1 := by simp
  rw [e1] at kp
  have hm1 := Shape.below hm hB
  have hp1 := Shape.below hp hB
  have ht1 := Shape.below ht hB
  have HS1 : Hid (Calls _ _ _ _ _) := msmall a n c ms dim _ hm1
  have HAW : Hid (∀ u, Calls Tryz.prog 13 #[] u fun e w' => e = .returned (.bool true) ∧ Below u.heap.size u w') := fawake
  have hlm := (sliceS_len hm).1
  clear hm hp ht e1
  go_enter Tryz.func3, Tryz.ntmps3
  go_upto_region 1 with fail
  generalize (w.alloc (.cells #[.int .i64 dim, .slice a n c] 24)).alloc (.cells #[.int .i64 ep, .slice pa pn pc] 27) = W at *
  have HR := hid (And.intro hm1 (And.intro hp1 ht1))
  have HK := hid (And.intro km kp)
  have m0 := km.cell 0 rfl
  have m1 := km.cell 1 rfl
  clear hm1 hp1 ht1 km kp
  go_wp2_with fail
  refine HS1.out.mono ?_
  rintro e u1 ⟨hs1, hb1⟩
  have hB1 := bel_then hB hb1
  by_cases d1 : Md.Small ms
  case neg =>
    rw [hs1.not d1]
    clear d1 hs1 m0 m1
    go_wp2_with (go_at_call 13; refine (HAW.out _).mono ?_; rintro e u9 ⟨rfl, hb9⟩)
    go_ret
    exact ⟨rfl, bel_then hB1 hb9⟩
  rw [hs1.is d1]
  have D1 := hid d1
  have HS2 : Hid (Calls _ _ _ _ _) := small pa pn pc h _ u1 (Shape.below HR.out.2.1 hb1)
  have p1 := (HK.out.2.keep hb1).cell 1 rfl
  have HB1 := hid hb1
  clear hs1 d1 m0 m1 hb1
  go_wp2_with fail
  refine HS2.out.mono ?_
  rintro e u1' ⟨hs2, hu9⟩
  replace hu9 := hu9.symm
  subst hu9
  by_cases d2 : Mx.Small h
  case neg =>
    rw [hs2.not d2]
    clear d2 hs2 p1
    go_wp2_with (go_at_call 13; refine (HAW.out _).mono ?_; rintro e u9 ⟨rfl, hb9⟩)
    go_ret
    exact ⟨rfl, bel_then hB1 hb9⟩
  rw [hs2.is d2]
  have D2 := hid d2
  have HS3 : Hid (Calls _ _ _ _ _) := small b m d T _ u1 (Shape.below HR.out.2.2 HB1.out)
  clear hs2 d2 p1
  go_wp2_with fail
  refine HS3.out.mono ?_
  rintro e u1' ⟨hs3, hu9⟩
  replace hu9 := hu9.symm
  subst hu9
  by_cases d3 : Mx.Small T
  case neg =>
    rw [hs3.not d3]
    clear d3 hs3
    go_wp2_with (go_at_call 13; refine (HAW.out _).mono ?_; rintro e u9 ⟨rfl, hb9⟩)
    go_ret
    exact ⟨rfl, bel_then hB1 hb9⟩
  rw [hs3.is d3]
  have HSM := hid (And.intro D1.out (And.intro D2.out d3))
  have HNI : Hid (NewIn (· < u1.heap.size) u1 a n c ms pa pn pc h b m d T) := ⟨Shape.low (Shape.below HR.out.1 HB1.out), Shape.low (Shape.below HR.out.2.1 HB1.out), Shape.low (Shape.below HR.out.2.2 HB1.out), fun _ hb => hb, by have h9 : ms.length ≤ 5 := D1.out.1; omega, fun l hl => Md.small_lsized (D1.out.2 l hl), Ex.small_sized D2.out, Ex.small_sized d3⟩
  have HK1 := hid (And.intro (HK.out.1.keep HB1.out) (HK.out.2.keep HB1.out))
  have HBA := hid hB1
  clear hs3 d3 HS1 HS2 HS3 D1 D2 HR HK HB1 hB hB1 hlm
  have m0 := HK1.out.1.cell 0 rfl
  have m1 := HK1.out.1.cell 1 rfl
  have p0 := HK1.out.2.cell 0 rfl
  have p1 := HK1.out.2.cell 1 rfl
  by_cases hmay : May dim ms ep h T
  · have HMAY := hid hmay
    have HN1 : Hid (Calls _ _ _ _ _) := fnew (I := (· < u1.heap.size)) (O := (fun _ => False)) dim a n c ms ep pa pn pc h b m d T u1 HNI.out (fun b hb => hb.elim) hmay
    clear hmay
    go_wp2_with fail
    refine HN1.out.mono ?_
    rintro e u2 ⟨hb2, p, V, rfl, hV, hat⟩
    clear m0 m1 p0 p1
    have hat0 := hat.keep (new_bel u2 (.cells #[.int .i64 ep, .slice pa pn pc] 35))
    have HQ1 := hid (And.intro (HK1.out.1.keep hb2) (HK1.out.2.keep hb2))
    have p0 := HQ1.out.2.cell 0 rfl
    have p1 := HQ1.out.2.cell 1 rfl
    have hbn := new_bel u2 (.cells #[.int .i64 ep, .slice pa pn pc] 35)
    have kq := Box.new u2 35 #[.int .i64 ep, .slice pa pn pc]
    have km := HQ1.out.1.keep hbn
    have hb2n := bel_then hb2 hbn
    have HNI2 := hid (HNI.out.keep hb2n)
    have HB2 := hid (bel_then HBA.out hb2n)
    go_upto_region 5 with fail
    clear hb2 hb2n p0 p1 HQ1 HBA HN1 HNI
    generalize u2.alloc (.cells #[.int .i64 ep, .slice pa pn pc] 35) = Y at *
    have m0 := km.cell 0 rfl
    have m1 := km.cell 1 rfl
    have q0 := kq.cell 0 rfl
    have q1 := kq.cell 1 rfl
    have HCM : Hid (Calls _ _ _ _ _) := rmay (I := (· < u1.heap.size)) dim a n c ms ep pa pn pc h b m d T Y HNI2.out true ⟨fun _ => HMAY.out, fun _ => rfl⟩
    go_wp2_with fail
    refine HCM.out.mono ?_
    rintro e u3 ⟨rfl, hb3⟩
    have HAT3 := hid (hat0.keep hb3)
    have HKM3 := hid (And.intro (km.keep hb3) (kq.keep hb3))
    have HNI3 := hid (HNI2.out.keep hb3)
    have HB3 := hid (bel_then HB2.out hb3)
    have HALS := hid (Alive.start HMAY.out)
    have HST := hid (start_fresh HMAY.out).2
    have HBQ := hid (And.intro (start_bag HMAY.out) (asks_right HMAY.out))
    have HLM := hid (sliceS_len HNI3.out.mm).1
    clear m0 m1 q0 q1 hb3 hat hat0 hV km kq hbn HCM HNI2 HB2
    generalize hs0 : Ft.start ms ep h T = s0 at *
    clear hs0
    obtain ⟨kk, hkk⟩ : ∃ kk, s0.bag.length = kk := ⟨_, rfl⟩
    have HBG : Hid (∀ u, Below u3.heap.size u3 u → Calls Tryz.prog 16 #[.pointer (some ⟨p, 0, none⟩)] u fun e w' => Below u.heap.size u w' ∧ ∃ a' c', e = .returned (.slice a' kk c') ∧ bagS.rep w' (u.heap.size ≤ ·) [.slice a' kk c'] (s0.bag.map enc)) := fun u hu => fbag (HAT3.out.keep hu) HALS.out.i.few kk hkk
    have HAS : Hid (∀ u, Below u3.heap.size u3 u → Calls Tryz.prog 17 #[.agg #[.int .i64 dim, .slice a n c], .agg #[.int .i64 ep, .slice pa pn pc], .slice b m d] u fun e w' => Below u.heap.size u w' ∧ ∃ a' n' c', e = .returned (.slice a' n' c') ∧ msgsS.rep w' everywhere [.slice a' n' c'] ((Md.parts (ms.getD 0 ly0) T).map (Ft.askOf ep h 0 T))) := fun u hu => rasks dim a n c ms ep pa pn pc h b m d T u (Shape.any (HNI3.out.keep hu).mm) (Shape.any (HNI3.out.keep hu).pp) (Shape.any (HNI3.out.keep hu).tt) HMAY.out
    have HSS : Hid (∀ u, Below u3.heap.size u3 u → u.cell? ⟨w.heap.size, 0, none⟩ = some (.int .i64 dim) ∧ u.cell? ⟨w.heap.size, 1, none⟩ = some (.slice a n c) ∧ u.cell? ⟨u2.heap.size, 0, none⟩ = some (.int .i64 ep) ∧ u.cell? ⟨u2.heap.size, 1, none⟩ = some (.slice pa pn pc)) := fun u hu => ⟨(HKM3.out.1.keep hu).cell 0 rfl, (HKM3.out.1.keep hu).cell 1 rfl, (HKM3.out.2.keep hu).cell 0 rfl, (HKM3.out.2.keep hu).cell 1 rfl⟩
    have hk200 : kk ≤ 200 := by rw [← hkk]; exact HALS.out.i.few
    have HKK := hid hkk
    clear hkk
    go_upto_region 9 with fail
    have hD : Below u3.heap.size u3 u3.drew := (Below.refl _ u3).drew
    obtain ⟨i1, i2, i3, i4⟩ := HSS.out u3 (Below.refl _ _)
    go_region_held3 (fun u => u.cell? ⟨w.heap.size, 0, none⟩ = some (.int .i64 dim) ∧ u.cell? ⟨w.heap.size, 1, none⟩ = some (.slice a n c) ∧ u.cell? ⟨u2.heap.size, 0, none⟩ = some (.int .i64 ep) ∧ u.cell? ⟨u2.heap.size, 1, none⟩ = some (.slice pa pn pc))
      (first
        | exact HSS.out _ hd5
        | exact HSS.out _ hd4
        | exact HSS.out _ hD
        | exact HSS.out _ (Below.refl _ _)
        | go_keep)
      (first
        | (go_at_call 17; refine (HAS.out _ hd4).mono ?_; rintro e u5 ⟨hb5, xa, xn, xc, rfl, hx5⟩; have hd5 := bel_then hd4 hb5)
        | (go_at_call 16; refine (HBG.out _ hD).mono ?_; rintro e u4 ⟨hb4, fa, fc, rfl, hx4⟩; have hd4 := bel_then hD hb4))
    all_goals
      have hxl : xn = kk := by
        have h9 := (sliceS_len hx5).1
        rw [← HBQ.out.1, HKK.out] at h9
        exact h9.symm
      subst hxl
      rw [← HBQ.out.1] at hx5
      have HX := hid (Shape.any (Shape.below hx4 hb5))
      have HY := hid hx5
      have HAT5 := hid (HAT3.out.keep hd5)
      have HB5 := hid (bel_then HB3.out hd5)
      clear hx4 hx5 hb4 hb5 hd4 hd5 hD i1 i2 i3 i4 HBG HAS HSS HKM3 HNI3 HAT3 HB3
      have HRT : Hid (∀ x ∈ s0.bag, Wx.right x) := by show ∀ x ∈ s0.bag, Wx.right x; rw [HBQ.out.1]; exact HBQ.out.2
      go_wp2
      have HB9 := HB5
      clear HB5 HBQ
      go_loopw [71] (fun v wr => ∃ k : Nat, k ≤ xn ∧ v = .int .i64 k ∧ Below u5.heap.size u5 wr) (fun v _ => xn - (intOf v).toNat)
      case atStart => exact ⟨0, Nat.zero_le _, rfl, Below.refl _ _⟩
      case round =>
        obtain ⟨k, hk, rfl, hbel⟩ := hrel
        by_cases hlt : k < xn
        · have hkl : k < s0.bag.length := by rw [HKK.out]; exact hlt
          obtain ⟨bx, ox, hex, hbx, hcx⟩ := (Texts.of_rep (Shape.below HX.out hbel)).at hlt
          obtain ⟨by', oy, A, C, hey, hby, hry, y0, y1, y2, y3, y4, y5, y6, y7, y8, y9, y10⟩ := msg_at (Shape.below HY.out hbel) hlt
          subst hex
          subst hey
          have hRM : Wx.right (s0.bag.getD k Wx.zero) := HRT.out _ (in_of hkl Wx.zero)
          have htx : (s0.bag.map enc).getD k noText = enc (s0.bag.getD k Wx.zero) := by
            rw [List.getD_eq_getElem?_getD, List.getElem?_map, List.getElem?_eq_getElem hkl, List.getD_eq_getElem?_getD, List.getElem?_eq_getElem hkl]
            rfl
          rw [htx] at hcx
          have hli : (k : Int) < (xn : Int) := by omega
          have hk0 : (0 : Int) ≤ (k : Int) := by omega
          clear htx hkl
          generalize s0.bag.getD k Wx.zero = M at *
          obtain ⟨z0, z1, z2, z3, z4, z5, z6, z7, z8, z9, vec⟩ := M
          obtain ⟨t, ht⟩ : ∃ t, enc ⟨z0, z1, z2, z3, z4, z5, z6, z7, z8, z9, vec⟩ = t := ⟨_, rfl⟩
          have HPU : Hid (∀ u, Below wr.heap.size wr u → Calls Tryz.prog 18 #[.agg #[.int .i64 z0, .int .i64 z1, .int .i64 z2, .int .i64 z3, .int .i64 z4, .int .i64 z5, .int .i64 z6, .int .i64 z7, .int .i64 z8, .int .i64 z9, .slice A vec.length C]] u fun e w' => e = .returned (.string t) ∧ Below u.heap.size u w') := fun u hu => by
            rw [← ht]
            exact YtfidgcanolegfaaGreat.rput z0 z1 z2 z3 z4 z5 z6 z7 z8 z9 A vec.length C vec u (Shape.below hry hu) hRM
          rw [ht] at hcx
          dsimp only at y0 y1 y2 y3 y4 y5 y6 y7 y8 y9 y10
          have HSS : Hid (∀ u, Below wr.heap.size wr u → u.cell? ⟨bx, ox + k, none⟩ = some (.string t) ∧ u.cell? ⟨by', oy + k * 11, none⟩ = some (.int .i64 z0) ∧ u.cell? ⟨by', oy + k * 11 + 1, none⟩ = some (.int .i64 z1) ∧ u.cell? ⟨by', oy + k * 11 + 2, none⟩ = some (.int .i64 z2) ∧ u.cell? ⟨by', oy + k * 11 + 3, none⟩ = some (.int .i64 z3) ∧ u.cell? ⟨by', oy + k * 11 + 4, none⟩ = some (.int .i64 z4) ∧ u.cell? ⟨by', oy + k * 11 + 5, none⟩ = some (.int .i64 z5) ∧ u.cell? ⟨by', oy + k * 11 + 6, none⟩ = some (.int .i64 z6) ∧ u.cell? ⟨by', oy + k * 11 + 7, none⟩ = some (.int .i64 z7) ∧ u.cell? ⟨by', oy + k * 11 + 8, none⟩ = some (.int .i64 z8) ∧ u.cell? ⟨by', oy + k * 11 + 9, none⟩ = some (.int .i64 z9) ∧ u.cell? ⟨by', oy + k * 11 + 10, none⟩ = some (.slice A vec.length C)) := fun u hu => ⟨(hu.cell (by exact hbx)).trans hcx, (hu.cell (by exact hby)).trans y0, (hu.cell (by exact hby)).trans y1, (hu.cell (by exact hby)).trans y2, (hu.cell (by exact hby)).trans y3, (hu.cell (by exact hby)).trans y4, (hu.cell (by exact hby)).trans y5, (hu.cell (by exact hby)).trans y6, (hu.cell (by exact hby)).trans y7, (hu.cell (by exact hby)).trans y8, (hu.cell (by exact hby)).trans y9, (hu.cell (by exact hby)).trans y10⟩
          have HE := hid hbel
          have hD : Below wr.heap.size wr wr.drew := (Below.refl _ wr).drew
          clear ht hry hRM y0 y1 y2 y3 y4 y5 y6 y7 y8 y9 y10 hcx hbel
          go_upto_region 15 with fail
          obtain ⟨i0, i1, i2, i3, i4, i5, i6, i7, i8, i9, i10, i11⟩ := HSS.out wr (Below.refl _ _)
          go_region_held3 (fun u => u.cell? ⟨bx, ox + k, none⟩ = some (.string t) ∧ u.cell? ⟨by', oy + k * 11, none⟩ = some (.int .i64 z0) ∧ u.cell? ⟨by', oy + k * 11 + 1, none⟩ = some (.int .i64 z1) ∧ u.cell? ⟨by', oy + k * 11 + 2, none⟩ = some (.int .i64 z2) ∧ u.cell? ⟨by', oy + k * 11 + 3, none⟩ = some (.int .i64 z3) ∧ u.cell? ⟨by', oy + k * 11 + 4, none⟩ = some (.int .i64 z4) ∧ u.cell? ⟨by', oy + k * 11 + 5, none⟩ = some (.int .i64 z5) ∧ u.cell? ⟨by', oy + k * 11 + 6, none⟩ = some (.int .i64 z6) ∧ u.cell? ⟨by', oy + k * 11 + 7, none⟩ = some (.int .i64 z7) ∧ u.cell? ⟨by', oy + k * 11 + 8, none⟩ = some (.int .i64 z8) ∧ u.cell? ⟨by', oy + k * 11 + 9, none⟩ = some (.int .i64 z9) ∧ u.cell? ⟨by', oy + k * 11 + 10, none⟩ = some (.slice A vec.length C))
            (first
              | exact HSS.out _ hd6
              | exact HSS.out _ hD
              | exact HSS.out _ (Below.refl _ _)
              | go_keep)
            (first
              | (go_at_call 18; refine (HPU.out _ hD).mono ?_; rintro e u6 ⟨rfl, hb6⟩; have hd6 := bel_then hD hb6))
          all_goals
            have HE2 := hid (bel_then HE.out hd6)
            clear hd6 hb6 hD HSS HPU i0 i1 i2 i3 i4 i5 i6 i7 i8 i9 i10 i11
            go_wp2
            go_roundw
            case rel => exact ⟨k + 1, by omega, by go_num, HE2.out⟩
            case measure => simp [intOf]; omega
        · have hkn : k = xn := by omega
          have hli : ¬ (k : Int) < (xn : Int) := by omega
          have hat6 := HAT5.out.keep hbel
          have HDN : Hid (Calls _ _ _ _ _) := fdone_no hat6 (by have h9 := HMAY.out.1.2.2.1; have h8 := HST.out.2; omega)
          have HAT6 := hid hat6
          have HB6 := hid (bel_then HB9.out hbel)
          clear hkn hbel hat6 HX HY HAT5 HB9
          go_wp2_with fail
          refine HDN.out.mono ?_
          rintro e u6 ⟨rfl, hb6⟩
          have hwk := fworked (HAT6.out.keep hb6) HALS.out.i.len HALS.out.worked
          rw [HST.out.1] at hwk
          have HWK : Hid (Calls _ _ _ _ _) := hwk
          have HB7 := hid (bel_then HB6.out hb6)
          clear hwk hb6 HDN HAT6 HB6
          go_wp2_with fail
          refine HWK.out.mono ?_
          rintro e u7 ⟨rfl, hb7⟩
          have hb8 := bel_then HB7.out hb7
          clear hb7 HWK HB7
          go_wp2_with (go_at_call 13; refine (HAW.out _).mono ?_; rintro e u9 ⟨rfl, hb9⟩)
          go_ret
          exact ⟨rfl, bel_then hb8 hb9⟩
  · have HN1 : Hid (Calls _ _ _ _ _) := fnew_no (I := (· < u1.heap.size)) dim a n c ms ep pa pn pc h b m d T u1 HNI.out hmay
    have HMAY := hid hmay
    clear hmay
    go_wp2_with fail
    refine HN1.out.mono ?_
    rintro e u2 ⟨rfl, hb2⟩
    clear m0 m1 p0 p1
    have HQ1 := hid (And.intro (HK1.out.1.keep hb2) (HK1.out.2.keep hb2))
    have p0 := HQ1.out.2.cell 0 rfl
    have p1 := HQ1.out.2.cell 1 rfl
    have hbn := new_bel u2 (.cells #[.int .i64 ep, .slice pa pn pc] 35)
    have kq := Box.new u2 35 #[.int .i64 ep, .slice pa pn pc]
    have km := HQ1.out.1.keep hbn
    have hb2n := bel_then hb2 hbn
    have HNI2 := hid (HNI.out.keep hb2n)
    have HB2 := hid (bel_then HBA.out hb2n)
    go_upto_region 5 with fail
    clear hb2 hb2n p0 p1 HQ1 HBA HN1 HNI
    generalize u2.alloc (.cells #[.int .i64 ep, .slice pa pn pc] 35) = Y at *
    have m0 := km.cell 0 rfl
    have m1 := km.cell 1 rfl
    have q0 := kq.cell 0 rfl
    have q1 := kq.cell 1 rfl
    have HCM : Hid (Calls _ _ _ _ _) := rmay (I := (· < u1.heap.size)) dim a n c ms ep pa pn pc h b m d T Y HNI2.out false ⟨fun h9 => (by cases h9), fun h9 => absurd h9 HMAY.out⟩
    go_wp2_with fail
    refine HCM.out.mono ?_
    rintro e u3 ⟨rfl, hb3⟩
    have hb9' := bel_then HB2.out hb3
    clear m0 m1 q0 q1 km kq
    go_wp2_with (go_at_call 13; refine (HAW.out _).mono ?_; rintro e u9 ⟨rfl, hb9⟩)
    go_ret
    exact ⟨rfl, bel_then hb9' hb9⟩

end Go.Proofs.YtfidgcanolegfaaGreat
