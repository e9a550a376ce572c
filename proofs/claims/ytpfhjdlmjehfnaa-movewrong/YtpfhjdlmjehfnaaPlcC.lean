/- What Add of package place does when called. -/
import Derived.Test.YtpfhjdlmjehfnaaPlcB
namespace Go.Proofs.Ytpfhjdlmjehfnaa
open Go.ChangeShapes Go.WideShapes Go.ChangeAt Go.RowKit

set_option maxRecDepth 100000 in
set_option maxHeartbeats 2000000 in
theorem padd (P : Nat → Prop) (e : Int) (a : Option Addr) (n c : Nat) (m : List (List Int)) (x y : Int) (w : World) (h : matS.rep w P [.slice a n c] m) (hP : ∀ b, P b → b < w.heap.size) (hs : Pl.Short m) (E X : Int) (M : List (List Int)) (hA : Pl.Add e m x y E M X) :
    Calls Try.prog 24 #[.agg #[.int .i64 e, .slice a n c], .int .i64 x, .int .i64 y] w fun r w' => Below w.heap.size w w' ∧ ∃ a' c', r = .returned (.tuple #[.agg #[.int .i64 E, .slice a' n c'], .int .i64 X]) ∧ matS.rep w' (fun b => P b ∨ w.heap.size + 2 ≤ b) [.slice a' n c'] M := by
  have hl := (sliceS_len h).1
  have HL : Hid (m.length = n) := hl
  have HS : Hid (Pl.Short m) := hs
  have HP : Hid (∀ b, P b → b < w.heap.size) := hP
  have HA : Hid (Pl.Add e m x y E M X) := hA
  have HM : Hid (matS.rep w P [.slice a n c] m) := h
  have hB := bel_two w (.cells #[.int .i64 e, .slice a n c] 24) (.cells #[.int .i64 0, .slice none 0 0] 24)
  have kp := (Box.new w 24 #[.int .i64 e, .slice a n c]).keep (new_bel _ (.cells #[.int .i64 0, .slice none 0 0] 24))
  have kr := Box.new (w.alloc (.cells #[.int .i64 e, .slice a n c] 24)) 24 #[.int .i64 0, .slice none 0 0]
  have e1 : (w.alloc (.cells #[.int .i64 e, .slice a n c] 24)).heap.size = w.heap.size + 1 := by simp
  have e2 : ((w.alloc (.cells #[.int .i64 e, .slice a n c] 24)).alloc (.cells #[.int .i64 0, .slice none 0 0] 24)).heap.size = w.heap.size + 2 := by simp
  rw [e1] at kr
  obtain ⟨k, hk⟩ : ∃ k : Nat, x.toNat = k := ⟨_, rfl⟩
  have hcl := pcopied P e a n c m k _ (Shape.below h hB) (fun b hb => by have := hP b hb; rw [e2]; omega) hs
  rw [e2] at hcl
  have HC : Hid (Calls _ _ _ _ _) := hcl
  have HE2 : Hid (((w.alloc (.cells #[.int .i64 e, .slice a n c] 24)).alloc (.cells #[.int .i64 0, .slice none 0 0] 24)).heap.size = w.heap.size + 2) := e2
  have HK : Hid (x.toNat = k) := hk
  have c0 := kp.cell 0 rfl
  have c1 := kp.cell 1 rfl
  clear h hs hl hcl e1 e2 hP hA hk
  go_enter Try.func24, Try.ntmps24
  go_wp2_with fail
  generalize (w.alloc (.cells #[.int .i64 e, .slice a n c] 24)).alloc (.cells #[.int .i64 0, .slice none 0 0] 24) = W at *
  refine HC.out.mono ?_
  rintro r u1 ⟨hb1, a1, cc, rfl, hmix⟩
  have hb1' : Below W.heap.size W u1 := by rw [HE2.out]; exact hb1
  have hbN := new_bel u1 (.cells #[.int .i64 e, .slice a1 n cc] 24)
  have hU := hbN
  have kN := Box.new u1 24 #[.int .i64 e, .slice a1 n cc]
  have kp1 := (kp.keep hb1').keep hbN
  have kr1 := (kr.keep hb1').keep hbN
  have hB1 := bel_then (bel_then hB hb1') hbN
  have hN : w.heap.size + 2 ≤ u1.heap.size := by have := hb1.size; rw [HE2.out] at this; exact this
  have HX : Hid (Mixed (fun b => P b ∨ w.heap.size + 2 + 2 ≤ b) u1 (w.heap.size + 2 + 2) 3 67 a1 n cc k n m) := hmix
  clear HC c0 c1 kp kr hB hb1 hb1' hmix
  have c0 := kp1.cell 0 rfl
  have c1 := kp1.cell 1 rfl
  have n0 := kN.cell 0 rfl
  have n1 := kN.cell 1 rfl
  have HCT : Hid (Calls _ _ _ _ _) := pcan e a n c m x y (u1.alloc (.cells #[.int .i64 e, .slice a1 n cc] 24)) (Shape.any (Shape.below HM.out hB1)) HS.out.sized
  go_wp2_with fail
  generalize u1.alloc (.cells #[.int .i64 e, .slice a1 n cc] 24) = W2 at *
  refine HCT.out.mono ?_
  rintro r u2 ⟨hs2, hb2⟩
  have kp2 := kp1.keep hb2
  have kr2 := kr1.keep hb2
  have kN2 := kN.keep hb2
  have hB2 := bel_then hB1 hb2
  have hU2 := bel_then hbN hb2
  clear c0 c1 n0 n1 kp1 kr1 kN hB1 hbN hU HCT hb2
  have c0 := kp2.cell 0 rfl
  have c1 := kp2.cell 1 rfl
  have n0 := kN2.cell 0 rfl
  have n1 := kN2.cell 1 rfl
  have z0 := kr2.cell 0 rfl
  have z1 := kr2.cell 1 rfl
  have f0 := kr2.free 0
  have f1 := kr2.free 1
  have HQ : Hid (∀ b, (P b ∨ w.heap.size + 2 + 2 ≤ b) → b ≠ w.heap.size + 1 ∧ (P b ∨ w.heap.size + 2 ≤ b)) := fun b hb => by
    rcases hb with hb | hb
    · exact ⟨by have := HP.out b hb; omega, .inl hb⟩
    · exact ⟨by omega, .inr (by omega)⟩
  have HR : Hid (∀ u, Below u1.heap.size u1 u → matS.rep ((u.setCell ⟨w.heap.size + 1, 0, none⟩ (.int .i64 e)).setCell ⟨w.heap.size + 1, 1, none⟩ (.slice a1 n cc)) (fun b => P b ∨ w.heap.size + 2 ≤ b) [.slice a1 n cc] m) := fun u hu =>
    matS.mono (Shape.all2 (Shape.below (HX.out.rep fun b hb => .inr hb) hu) (fun k hk _ => (HQ.out k hk).1) _ _) fun b hb _ => (HQ.out b hb).2
  by_cases hW : Pl.Wrong e m x y
  · rw [hs2.not fun h => h hW]
    rcases HA.out with ⟨_, rfl, rfl, rfl⟩ | ⟨h9, _⟩ | ⟨h9, _⟩
    rotate_left
    · exact absurd hW h9
    · exact absurd hW h9
    clear hW hs2
    go_wp2
    refine ret_var Try.underlying24 Try.infoMap rfl rfl rfl rfl (kr2.all2 _ _) rfl ?_
    exact ⟨bel_all2 hB2 (by omega) _ _, a1, cc, rfl, HR.out _ hU2⟩
  rw [hs2.is hW]
  obtain ⟨hR, hx, hy, he⟩ := Pl.not_wrong hW
  obtain rfl : x = (k : Int) := by have := HK.out; omega
  have hkn : k < n := by have := HL.out; omega
  obtain ⟨b0, off, A, C, rfl, _, hc, hr⟩ := mat_at (Shape.below HM.out hB2) hkn
  have hRow := hR.row (i := k) (by have := HL.out; omega)
  have HRow : Hid (Pl.RowOk (m.getD k [])) := hRow
  have hq := Pl.row_len hRow
  have HD : Hid (Calls _ _ _ _ _) := search A _ C (m.getD k []) y u2 (Shape.any hr) (by omega) hRow.2.2
  obtain ⟨q, hqq⟩ : ∃ q, (m.getD k []).length = q := ⟨_, rfl⟩
  have HQQ : Hid ((m.getD k []).length = q) := hqq
  have HW : Hid (¬ Pl.Wrong e m (k : Int) y) := hW
  have he1 : e < 2147483647 := by have := hR.1; omega
  have he0 : 0 ≤ e := hR.1.1
  have hkI : (k : Int) < (n : Int) := by omega
  have hk0 : (0 : Int) ≤ (k : Int) := by omega
  have hcnt : (m.getD k []).countP (· < y) ≤ (m.getD k []).length := List.countP_le_length
  rw [hqq] at hc hq HD hcnt
  clear hr hRow hqq hR hW hs2 HK hx
  go_wp2_with fail
  refine HD.out.mono ?_
  rintro r u3 ⟨rfl, hb3⟩
  have kp3 := kp2.keep hb3
  have kr3 := kr2.keep hb3
  have kN3 := kN2.keep hb3
  have hB3 := bel_then hB2 hb3
  have hU3 := bel_then hU2 hb3
  clear c0 c1 n0 n1 z0 z1 f0 f1 kp2 kr2 kN2 hB2 hU2 HD hb3 hc
  have n0 := kN3.cell 0 rfl
  have n1 := kN3.cell 1 rfl
  have z0 := kr3.cell 0 rfl
  have z1 := kr3.cell 1 rfl
  have f0 := kr3.free 0
  have f1 := kr3.free 1
  by_cases hin : y ∈ m.getD k []
  · have ec : (m.getD k []).contains y = true := List.contains_iff_mem.2 hin
    rw [ec]
    have hH : Pl.Holds m (k : Int) y := ⟨⟨by omega, by have := HL.out; omega⟩, by rw [Int.toNat_natCast]; exact hin⟩
    rcases HA.out with ⟨h9, _⟩ | ⟨_, _, rfl, rfl, rfl⟩ | ⟨_, h9, _⟩
    · exact absurd h9 HW.out
    rotate_left
    · exact absurd hH h9
    clear hin ec hH hcnt
    go_wp2
    refine ret_var Try.underlying24 Try.infoMap rfl rfl rfl rfl (kr3.all2 _ _) rfl ?_
    exact ⟨bel_all2 hB3 (by omega) _ _, a1, cc, rfl, HR.out _ hU3⟩
  have ec : (m.getD k []).contains y = false := Bool.eq_false_iff.2 fun h9 => hin (List.contains_iff_mem.1 h9)
  rw [ec]
  have hH : ¬ Pl.Holds m (k : Int) y := fun h9 => hin (by have := h9.2; rwa [Int.toNat_natCast] at this)
  rcases HA.out with ⟨h9, _⟩ | ⟨_, h9, _⟩ | ⟨h7, h8, rfl, hMM, rfl⟩
  · exact absurd h9 HW.out
  · exact absurd h9 hH
  have HMM : Hid (m.set k (insAt (m.getD k []) ((m.getD k []).countP (· < y)) y) = M) := by
    rw [← hMM]
    unfold Pl.turn
    rw [Int.toNat_natCast, Pl.keep_add HRow.out hy.1 hy.2 hin]
    rfl
  obtain ⟨G, v, rfl, hlone⟩ := HX.out.lone hkn
  obtain ⟨va, vc, rfl, h6⟩ := hlone.own.rep
  clear h6 h7 h8
  rw [HQQ.out] at hlone
  have g0 := kN3.free 0
  -- the worlds: next.Epoch is written, the number y lies in a block of its own
  obtain ⟨V, hV⟩ : ∃ V, V = u3.setCell ⟨u1.heap.size, 0, none⟩ (.int .i64 (e + 1)) := ⟨_, rfl⟩
  have kNV : Box V u1.heap.size 24 #[.int .i64 (e + 1), .slice (some ⟨G, 0, none⟩) n cc] := by
    rw [hV]; have := kN3.set 0 (.int .i64 (e + 1)); simpa using this
  have hUV : Below u1.heap.size u1 V := by rw [hV]; exact bel_put hU3 (Nat.le_refl _) _
  have hBV : Below w.heap.size w V := by rw [hV]; exact bel_put hB3 (by omega) _
  have krV : Box V (w.heap.size + 1) 24 #[.int .i64 0, .slice none 0 0] := by rw [hV]; exact kr3.other _ (by omega)
  have hbD : Below V.heap.size V (V.alloc (.cells #[.int .i64 y] 3)).drew := (new_bel V _).drew
  have hld := hlone.keep (bel_then hUV hbD)
  have hGlt := hlone.lt
  have hvlt := hlone.own.lt
  have hnew : Box (V.alloc (.cells #[.int .i64 y] 3)).drew V.heap.size 3 #[.int .i64 y] := Box.new V _ _
  have hVs : u1.heap.size ≤ V.heap.size := hUV.size
  have hins : Hid (Calls _ _ _ _ _) := insert0 va q vc (m.getD k []) y ((m.getD k []).countP (· < y)) V.heap.size (G + 1) _ hld.own hnew (fun h9 => by have := hvlt _ h9.symm; omega) hcnt (by omega) (by have := hbD.size; omega)
  have kND := kNV.keep hbD
  have krD := krV.keep hbD
  have hBD := bel_then hBV hbD
  have HH : Hid (∀ u, Below V.heap.size V u → u.cell? ⟨u1.heap.size, 1, none⟩ = some (.slice (some ⟨G, 0, none⟩) n cc) ∧ u.cell? ⟨G, k, none⟩ = some (.slice va q vc)) := fun u hu =>
    ⟨(kNV.keep hu).cell 1 rfl, (hlone.keep (bel_then hUV hu)).cell⟩
  have h1 := HH.out V (Below.refl _ _)
  have hD0 := new_bel V (.cells #[.int .i64 y] 3)
  have HVD : Hid (Below V.heap.size V V.drew) := (Below.refl _ _).drew
  have HNG : Hid (some u1.heap.size ≠ (Value.slice va q vc).ownBlock ∧ some G ≠ (Value.slice va q vc).ownBlock ∧ some (w.heap.size + 1) ≠ (Value.slice va q vc).ownBlock ∧ w.heap.size + 2 + 2 ≤ G ∧ G < u1.heap.size) :=
    ⟨fun h9 => by have := hvlt _ h9.symm; omega, fun h9 => by have := hvlt _ h9.symm; omega, fun h9 => by have := hvlt _ h9.symm; omega, hGlt.1, hGlt.2.1⟩
  have HBS : Hid (u1.heap.size < (V.alloc (.cells #[.int .i64 y] 3)).drew.heap.size ∧ (V.alloc (.cells #[.int .i64 y] 3)).drew.heap.size = V.heap.size + 1) := ⟨by have := kND.lt; exact this, by show _ = _; simp⟩
  have HINS : Hid (Calls Try.prog 42 #[.slice va q vc, .int .i64 (((m.getD k []).countP (· < y) : Nat) : Int), .slice (some ⟨V.heap.size, 0, none⟩) 1 1] (V.alloc (.cells #[.int .i64 y] 3)).drew fun r u5 => ∃ a5 c5, r = .returned (.slice a5 (q + 1) c5) ∧ u5.cell? ⟨u1.heap.size, 1, none⟩ = some (.slice (some ⟨G, 0, none⟩) n cc) ∧ (∃ z, u5.cell? ⟨G, k, none⟩ = some z) ∧ u5.frozen? ⟨G, k, none⟩ = false ∧
      Hid (Box (u5.setCell ⟨G, k, none⟩ (.slice a5 (q + 1) c5)) u1.heap.size 24 #[.int .i64 (e + 1), .slice (some ⟨G, 0, none⟩) n cc] ∧ Box (u5.setCell ⟨G, k, none⟩ (.slice a5 (q + 1) c5)) (w.heap.size + 1) 24 #[.int .i64 0, .slice none 0 0] ∧ Below w.heap.size w (u5.setCell ⟨G, k, none⟩ (.slice a5 (q + 1) c5)) ∧ matS.rep (u5.setCell ⟨G, k, none⟩ (.slice a5 (q + 1) c5)) (fun b => P b ∨ w.heap.size + 2 + 2 ≤ b) [.slice (some ⟨G, 0, none⟩) n cc] M)) := by
    refine hins.out.mono ?_
    rintro r u5 ⟨hb5, hk5, a5, c5, rfl, hr5⟩
    have hng := HNG.out
    have kN5 : Box u5 _ _ _ := (hk5 u1.heap.size HBS.out.1 hng.1).trans kND
    have kr5 : Box u5 _ _ _ := (hk5 _ krD.lt hng.2.2.1).trans krD
    obtain ⟨hz, fz, hrep5⟩ := hld.put hk5 hr5 (fun b hb => .inr hb)
    rw [HMM.out] at hrep5
    exact ⟨a5, c5, rfl, kN5.cell 1 rfl, hz, fz, kN5.other (i := k) (b2 := G) _ (by omega), kr5.other (i := k) (b2 := G) _ (by omega), bel_put (i := k) (b := G) (hBD.trans (hb5.mono (by omega))) (by omega) _, hrep5⟩
  clear hin ec hH hMM HX HR hlone hins kND krD HMM hld HNG HBS
  generalize (m.getD k []).countP (· < y) = cnt at *
  go_wp2
  rw [← hV]
  have pg0 := (HH.out V (Below.refl _ _)).2
  have pg1 : (V.alloc (.cells #[.int .i64 y] 3)).cell? ⟨G, k, none⟩ = some (.slice va q vc) := (HH.out _ hD0).2
  have pn0 := (HH.out V (Below.refl _ _)).1
  have pn1 : (V.alloc (.cells #[.int .i64 y] 3)).cell? ⟨u1.heap.size, 1, none⟩ = some (.slice (some ⟨G, 0, none⟩) n cc) := (HH.out _ hD0).1
  have hNw : w.heap.size ≤ w.heap.size + 1 := by omega
  clear hV n0 n1 z0 z1 f0 f1 HL HS HP HE2 HM HRow HQQ HW kp3 kr3 hB3 hU3 HA kN3 g0 kNV hUV hBV krV hbD hGlt hvlt hnew hVs hBD HH h1 hD0 HVD hy he hkn hq he1 he0 hcnt hN
  go_region_with
    (first
      | (go_at_call 42; refine HINS.out.mono ?_; rintro r u5 ⟨a5, c5, rfl, n1', ⟨zz, hz⟩, fz, hfin⟩))
  all_goals
    have n0' := hfin.out.1.cell 0 rfl
    have n1'' := hfin.out.1.cell 1 rfl
    have z0' := hfin.out.2.1.cell 0 rfl
    have z1' := hfin.out.2.1.cell 1 rfl
    have f0' := hfin.out.2.1.free 0
    have f1' := hfin.out.2.1.free 1
    go_wp2
    refine ret_var Try.underlying24 Try.infoMap rfl rfl rfl rfl (hfin.out.2.1.all2 _ _) rfl ?_
    exact ⟨bel_all2 hfin.out.2.2.1 hNw _ _, _, cc, rfl, matS.mono (Shape.all2 hfin.out.2.2.2 (fun k hk _ => (HQ.out k hk).1) _ _) fun b hb _ => (HQ.out b hb).2⟩

end Go.Proofs.Ytpfhjdlmjehfnaa
