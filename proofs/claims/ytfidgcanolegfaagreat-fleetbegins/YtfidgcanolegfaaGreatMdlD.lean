/- What model's run and Combine do when called. -/
import Derived.Test.YtfidgcanolegfaaGreatMdlV
import Derived.Test.YtfidgcanolegfaaGreatClone
import Derived.Test.YtfidgcanolegfaaGreatJa
namespace Go.Proofs.YtfidgcanolegfaaGreat
open Go.ChangeShapes Go.WideShapes Go.ChangeAt Go.RowKit

set_option maxRecDepth 100000 in
set_option maxHeartbeats 4000000 in
theorem mrun (ax : Option Addr) (nx cx : Nat) (xs : List Xp) (pa : Option Addr) (pn pc : Nat) (ps : List Pt) (b : Option Addr) (m d : Nat) (ts : List (List Int)) (g : List (List Int)) (cap dim : Int) (w : World) (hx : xpsS.rep w everywhere [.slice ax nx cx] xs) (hp : ptsS.rep w everywhere [.slice pa pn pc] ps)
    (ht : matS.rep w everywhere [.slice b m d] ts) (hL : Md.LRight (g, xs, cap, ()) dim) (hd : dim ≤ 8) (hT : Md.TRight dim ts) (hps : ∀ p ∈ ps, 0 ≤ p.1 ∧ p.1 < (ts.length : Int) ∧ 0 ≤ p.2.2.1 ∧ p.2.2.1 < (xs.length : Int)) (hpn : pn ≤ 1000) :
    Calls Tryz.prog 109 #[.slice ax nx cx, .slice pa pn pc, .slice b m d] w fun e w' => Below w.heap.size w w' ∧ ∃ a' c', e = .returned (.slice a' pn c') ∧ matS.rep w' everywhere [.slice a' pn c'] (Md.answers (g, xs, cap, ()) ts ps) := by
  have hlt0 := (sliceS_len ht).1
  have hlx := (sliceS_len hx).1
  have hlp := (sliceS_len hp).1
  obtain ⟨i0, hi0, hi1, hi2, hi3⟩ := info_parts Tryz.infoRow
  have HL : Hid (ts.length = m) := hlt0
  have HLX : Hid (xs.length = nx) := hlx
  have HLP : Hid (ps.length = pn) := hlp
  have HX : Hid (xpsS.rep w everywhere [.slice ax nx cx] xs) := hx
  have HP : Hid (ptsS.rep w everywhere [.slice pa pn pc] ps) := hp
  have HT : Hid (matS.rep w everywhere [.slice b m d] ts) := ht
  have HLR : Hid (Md.LRight (g, xs, cap, ()) dim ∧ Md.TRight dim ts ∧ dim ≤ 8) := ⟨hL, hT, hd⟩
  have HPS : Hid (∀ p ∈ ps, 0 ≤ p.1 ∧ p.1 < (ts.length : Int) ∧ 0 ≤ p.2.2.1 ∧ p.2.2.1 < (xs.length : Int)) := hps
  have HAL : Hid ((Md.answers (g, xs, cap, ()) ts ps).length = pn) := by show (ps.map _).length = pn; rw [List.length_map]; exact hlp
  clear hlt0 hlx hlp hx hp ht hL hT hd hps
  go_enter Tryz.func109, Tryz.ntmps109
  go_wp2_with (at_make; refine wpList_make_full _ rfl _ _ 25 rfl w.heap.size 42 i0 (.slice none 0 0) 1 Tryz.underlying25 hi0 hi1 hi2 _ _ _ _ pn rfl rfl (by rfl) (by rfl) ?b2 ?b3 (Nat.le_refl _) ?_)
  case b2 => rw [hi3]; omega
  case b3 => unfold maxLen; omega
  intro u0 hown0 hg0
  have hb0 : Below w.heap.size w u0 := (Below.refl _ _).grown hg0 (Nat.le_refl _) (fun g hg => by cases hg)
  have HO : Hid (Own rowS u0 w.heap.size 42 (.slice (some ⟨w.heap.size, 0, none⟩) pn pn) (List.replicate pn [])) := Own.rows_made hown0
  clear hown0 hg0
  go_wp2
  go_loopw [15] (fun i wr => ∃ k : Nat, k ≤ pn ∧ i = .int .i64 k ∧ Own rowS wr w.heap.size 42 (.slice (some ⟨w.heap.size, 0, none⟩) pn pn) (fillD [] (Md.answers (g, xs, cap, ()) ts ps) k) ∧ Below w.heap.size w wr) (fun i _ => pn - (intOf i).toNat)
  case atStart => exact ⟨0, Nat.zero_le _, rfl, by rw [fillD_zero, HAL.out]; exact HO.out, hb0⟩
  case round =>
    clear HO hb0
    obtain ⟨k, hk, rfl, hown, hbel⟩ := hrel
    by_cases hlt : k < pn
    · obtain ⟨b1, o1, t, r, x, s, rfl, _, hE, c0, c1, c2, c3⟩ := pt_there (Shape.below HP.out hbel) hlt
      have hli : (k : Int) < (pn : Int) := by omega
      have hk0 : (0 : Int) ≤ (k : Int) := by omega
      have hkl : k < ps.length := by have := HLP.out; omega
      have hps9 := HPS.out _ (in_of hkl pt0)
      rw [hE] at hps9
      obtain ⟨t', rfl⟩ : ∃ t' : Nat, t = t' := ⟨t.toNat, by have : 0 ≤ t := hps9.1; omega⟩
      obtain ⟨x', rfl⟩ : ∃ x' : Nat, x = x' := ⟨x.toNat, by have : 0 ≤ x := hps9.2.2.1; omega⟩
      have htl : t' < ts.length := by have : (t' : Int) < (ts.length : Int) := hps9.2.1; omega
      have hxl : x' < xs.length := by have : (x' : Int) < (xs.length : Int) := hps9.2.2.2; omega
      have htm : t' < m := by have := HL.out; omega
      have hxm : x' < nx := by have := HLX.out; omega
      obtain ⟨b2, o2, A, C, rfl, hb2, e0, hr⟩ := mat_at HT.out htm
      obtain ⟨b3, o3, ai, ni, ci, ao, no, co, mi, mo, rfl, hb3, hEx, hi, ho, e1, e2⟩ := xp_there HX.out hxm
      have hrw := HLR.out.2.1.row htl
      have hR : Ex.Right mi mo dim := by
        have h7 := HLR.out.1.2.2.2.2.2 _ (in_of hxl xp0)
        rw [hEx] at h7
        exact h7
      have hd8 := HLR.out.2.2
      obtain ⟨v, hv⟩ : ∃ v, ts.getD t' [] = v := ⟨_, rfl⟩
      rw [hv] at e0 hr hrw
      have hvl : (v.length : Int) = dim := hrw.1
      rw [← hvl] at hR
      have HA : Hid ((Md.answers (g, xs, cap, ()) ts ps).getD k [] = Ex.run mi mo v) := by
        show _ = _
        unfold Md.answers
        rw [List.getD_eq_getElem?_getD, List.getElem?_map, List.getElem?_eq_getElem hkl]
        rw [get_of hkl] at hE
        show Md.ans (g, xs, cap, ()) (ts.getD (ps[k]).1.toNat []) (ps[k]).2.2.1 = _
        rw [hE]
        show Ex.run (xs.getD x' xp0).1 (xs.getD x' xp0).2.1 (ts.getD t' []) = _
        rw [hEx, hv]
      have HR : Hid (Ex.Right mi mo v.length) := hR
      have hSi : Ex.Sized mi := Md.right_sized hR.2.2.1 (by have := hR.2.1; omega) (by omega)
      have hSo : Ex.Sized mo := Md.right_sized hR.2.2.2 (by omega) (by have := hR.2.1; omega)
      have hbn := new_bel wr (.cells #[.int .i64 (t' : Int), .int .i64 r, .int .i64 (x' : Int), .int .i64 s] 97)
      have kb := Box.new wr 97 #[.int .i64 (t' : Int), .int .i64 r, .int .i64 (x' : Int), .int .i64 s]
      have hbelA := bel_then hbel hbn
      have hownA := hown.keep hbn
      have hsz := (hown.lt w.heap.size rfl).2
      have d0 := (hbelA.cell (by exact hb2)).trans e0
      have d1 := (hbelA.cell (by exact hb3)).trans e1
      have d2 := (hbelA.cell (by exact hb3)).trans e2
      have hvr := (Row.of_rep hr).keep hbelA
      have hXA : Exp (wr.alloc (.cells #[.int .i64 (t' : Int), .int .i64 r, .int .i64 (x' : Int), .int .i64 s] 97)) ai ni ci ao no co mi mo := ⟨Shape.below hi hbelA, Shape.below ho hbelA⟩
      have hti : (t' : Int) < (m : Int) := by omega
      have ht0 : (0 : Int) ≤ (t' : Int) := by omega
      have hxi : (x' : Int) < (nx : Int) := by omega
      have hx0 : (0 : Int) ≤ (x' : Int) := by omega
      clear hE hps9 hrw hR hEx hi ho e0 e1 e2 hr hv htl hxl hown hbel hbn
      go_upto_region 5 with fail
      clear c0 c1 c2 c3
      generalize wr.alloc (.cells #[.int .i64 (t' : Int), .int .i64 r, .int .i64 (x' : Int), .int .i64 s] 97) = W at *
      have c0 := kb.cell 0 rfl
      have c2 := kb.cell 2 rfl
      have hD : Below W.heap.size W W.drew := (Below.refl _ W).drew
      have HC : Hid (Calls _ _ _ _ _) := xrun ai ni ci ao no co mi mo A v.length C v W.drew (hXA.below hD) hSi hSo (hvr.keep hD) (by omega)
      clear hvr hXA hSi hSo
      go_region_with
        (go_at_call 139; refine HC.out.mono ?_; rintro e u1 ⟨hgv, hb3⟩; obtain ⟨a4, c4, rfl, hr4⟩ := hgv.yes HR.out; have hd3 := bel_then hD hb3; have hown3 := hownA.keep hd3; obtain ⟨⟨z0, x0⟩, f0, hst⟩ := hown3.store rfl hlt (hown3.off hr4) (fun b hb => hb); clear hgv)
      all_goals
        rw [fillD_set (by rw [HAL.out]; exact hlt) HA.out] at hst
        have HST : Hid _ := And.intro hst (bel_put (i := k) (bel_then hbelA hd3) (Nat.le_refl w.heap.size) (.slice a4 v.length c4))
        clear hst hown3 hd3 hr4 x0 f0 hownA hbelA HC
        go_wp2
        go_roundw
        case rel => exact ⟨k + 1, by omega, by go_num, HST.out.1, HST.out.2⟩
        case measure => simp [intOf]; omega
    · have hkn : k = pn := by omega
      subst hkn
      have hli : ¬ (k : Int) < (k : Int) := by omega
      have e9 : fillD [] (Md.answers (g, xs, cap, ()) ts ps) k = Md.answers (g, xs, cap, ()) ts ps := by
        have := fillD_all [] (Md.answers (g, xs, cap, ()) ts ps)
        rwa [HAL.out] at this
      rw [e9] at hown
      have hR := hown.is
      clear e9 hown
      go_wp2
      go_ret
      exact ⟨hbel, _, _, rfl, hR⟩

end Go.Proofs.YtfidgcanolegfaaGreat
