/- MoveEnds, with letters. -/
import Derived.Test.YtpfhjdlmjehfnaaMvI
import Derived.Test.YtpfhjdlmjehfnaaMvB
import Derived.Test.YtpfhjdlmjehfnaaMvE
import Derived.Test.YtpfhjdlmjehfnaaMvF
import Derived.Test.YtpfhjdlmjehfnaaSm
import Derived.Test.YtpfhjdlmjehfnaaSy
import Derived.Test.YtpfhjdlmjehfnaaPlcG
namespace Go.Proofs.Ytpfhjdlmjehfnaa
open Go.ChangeShapes Go.WideShapes Go.ChangeAt Go.RowKit



theorem Pl.Add.sized {e : Int} {m : List (List Int)} {x n E : Int} {M : List (List Int)} {X : Int} (h : Pl.Add e m x n E M X) (hz : Ex.Sized m) : Ex.Sized M := ⟨by rw [h.len]; exact hz.1, h.rows (by omega) hz.2⟩
namespace Mq
/-- What Commit answers beside what Add answers. -/
def With (p e : Int) (m : List (List Int)) (E3 : Int) (M3 : List (List Int)) (X3 P E : Int) (M : List (List Int)) (X : Int) : Prop :=
  (p ≠ 2 ∧ p = P ∧ e = E ∧ m = M ∧ 1 = X) ∨ (p = 2 ∧ X3 ≠ 0 ∧ p = P ∧ E3 = E ∧ M3 = M ∧ X3 = X) ∨ (p = 2 ∧ X3 = 0 ∧ 3 = P ∧ E3 = E ∧ M3 = M ∧ X3 = X)
theorem commit_with {p e : Int} {m : List (List Int)} {x t E3 : Int} {M3 : List (List Int)} {X3 : Int} (hA : Pl.Add e m x t E3 M3 X3) : ∃ P E M X, Commit p e m x t P E M X ∧ With p e m E3 M3 X3 P E M X := by
  by_cases h : p = 2
  · by_cases h0 : X3 = 0
    · exact ⟨3, E3, M3, X3, .inr (.inr ⟨h, hA, h0, rfl⟩), .inr (.inr ⟨h, h0, rfl, rfl, rfl, rfl⟩)⟩
    · exact ⟨p, E3, M3, X3, .inr (.inl ⟨h, hA, h0, rfl⟩), .inr (.inl ⟨h, h0, rfl, rfl, rfl, rfl⟩)⟩
  · exact ⟨p, e, m, 1, .inl ⟨h, rfl, rfl, rfl, rfl⟩, .inl ⟨h, rfl, rfl, rfl, rfl⟩⟩
end Mq
set_option maxRecDepth 100000 in
set_option maxHeartbeats 8000000 in
theorem lends (AW : ∀ u, Calls Try.prog 11 #[] u fun r w' => r = .returned (.bool true) ∧ Below u.heap.size u w') (x f t p s : Int) (ha : Option Addr) (hn hc : Nat) (ga : Option Addr) (gn gc : Nat) (H : List Bool) (G : List ByteArray) (e : Int) (a : Option Addr) (n c : Nat) (m : List (List Int)) (w : World) (hH : bitsS.rep w everywhere [.slice ha hn hc] H) (hG : bagS.rep w everywhere [.slice ga gn gc] G) (hm : matS.rep w everywhere [.slice a n c] m) :
    Calls Try.prog 5 #[.agg #[.int .i64 x, .int .i64 f, .int .i64 t, .int .i64 p, .int .i64 s, .slice ha hn hc, .slice ga gn gc], .agg #[.int .i64 e, .slice a n c]] w fun r w' => r = .returned (.bool true) ∧ Below w.heap.size w w' := by
  have HAW := hidL AW
  have hB := bel_two w (.cells #[.int .i64 x, .int .i64 f, .int .i64 t, .int .i64 p, .int .i64 s, .slice ha hn hc, .slice ga gn gc] 30) (.cells #[.int .i64 e, .slice a n c] 24)
  have kb0 := (Box.new w 30 #[.int .i64 x, .int .i64 f, .int .i64 t, .int .i64 p, .int .i64 s, .slice ha hn hc, .slice ga gn gc]).keep (new_bel _ (.cells #[.int .i64 e, .slice a n c] 24))
  have kp0 := Box.two w (.cells #[.int .i64 x, .int .i64 f, .int .i64 t, .int .i64 p, .int .i64 s, .slice ha hn hc, .slice ga gn gc] 30) 24 #[.int .i64 e, .slice a n c]
  have HHW : Hid (∀ u, Below w.heap.size w u → bitsS.rep u everywhere [.slice ha hn hc] H) := fun u hu => Shape.below hH hu
  have HGW : Hid (∀ u, Below w.heap.size w u → bagS.rep u everywhere [.slice ga gn gc] G) := fun u hu => Shape.below hG hu
  have HMA : Hid (∀ u, Below w.heap.size w u → matS.rep u everywhere [.slice a n c] m) := fun u hu => Shape.below hm hu
  have HSM : Hid (Calls _ _ _ _ _) := msmall x f t p s ha hn hc ga gn gc H G _ (Shape.below hH hB) (Shape.below hG hB)
  have HLH : Hid (H.length = hn) := (sliceS_len hH).1
  have HLG : Hid (G.length = gn) := (sliceS_len hG).1
  have HBN := hidL hB
  clear hH hG hm hB AW
  go_enter Try.func5, Try.ntmps5
  go_upto_region 1 with fail
  generalize (w.alloc (.cells #[.int .i64 x, .int .i64 f, .int .i64 t, .int .i64 p, .int .i64 s, .slice ha hn hc, .slice ga gn gc] 30)).alloc (.cells #[.int .i64 e, .slice a n c] 24) = W at *
  have c0 := kb0.cell 0 rfl; have c1 := kb0.cell 1 rfl; have c2 := kb0.cell 2 rfl; have c3 := kb0.cell 3 rfl; have c4 := kb0.cell 4 rfl; have c5 := kb0.cell 5 rfl; have c6 := kb0.cell 6 rfl
  have d0 := kp0.cell 0 rfl; have d1 := kp0.cell 1 rfl
  go_wp2_with fail
  refine HSM.out.mono ?_
  rintro r u1 ⟨⟨b, rfl, hf⟩, hb1⟩
  have HB1 := hidL (bel_then HBN.out hb1)
  have kb1 := kb0.keep hb1
  have kp1 := kp0.keep hb1
  clear HSM hb1 c0 c1 c2 c3 c4 c5 c6 d0 d1 kb0 kp0
  cases b with
  | false =>
    clear hf
    go_wp2_with (go_at_call 11; refine (HAW.out _).mono ?_; rintro r WZ ⟨rfl, hbz⟩)
    go_ret
    exact ⟨rfl, bel_then (HB1.out) hbz⟩
  | true =>
    have HS : Hid (Mq.Short H G) := (hf rfl).short
    clear hf
    have HSQ : Hid (Calls _ _ _ _ _) := small a n c m everywhere u1 (HMA.out _ HB1.out)
    have d0 := kp1.cell 0 rfl; have d1 := kp1.cell 1 rfl
    go_wp2_with fail
    refine HSQ.out.mono ?_
    rintro r W1 ⟨⟨bb, rfl, hbb⟩, h9⟩
    replace h9 := h9.symm
    subst h9
    clear HSQ
    cases bb with
    | false =>
      clear hbb
      go_wp2_with (go_at_call 11; refine (HAW.out _).mono ?_; rintro r WZ ⟨rfl, hbz⟩)
      go_ret
      exact ⟨rfl, bel_then (HB1.out) hbz⟩
    | true =>
      have HZZ := hidL (hbb.1 rfl)
      have HPS := hidL (Pl.small_brief HZZ.out)
      have HZ := hidL (Ex.small_sized HZZ.out)
      clear hbb
      obtain ⟨E3, M3, X3, hA⟩ := Pl.add_there e m x t
      have HA := hidL hA
      have hn1 : hn ≤ 1000 := by have := HS.out.1; rw [HLH.out] at this; omega
      have gn1 : gn ≤ 1000 := by have := HS.out.2.1; rw [HLG.out] at this; omega
      obtain ⟨P2, E2, hAb⟩ := Mq.abort_there p
      have HAb := hidL hAb
      obtain ⟨P, E, M, X, hC⟩ := Mq.commit_with (p := p) hA
      have HCC := hidL hC.2
      have HC1 : Hid (Calls _ _ _ _ _) := mcommit (F := everywhere) x f t p s ha hn hc ga gn gc H G e a n c m P E X M u1 (HHW.out _ HB1.out) (HGW.out _ HB1.out) (HMA.out _ HB1.out) hn1 gn1 HPS.out hC.1
      clear hA hAb hC
      have c0 := kb1.cell 0 rfl; have c1 := kb1.cell 1 rfl; have c2 := kb1.cell 2 rfl; have c3 := kb1.cell 3 rfl; have c4 := kb1.cell 4 rfl; have c5 := kb1.cell 5 rfl; have c6 := kb1.cell 6 rfl
      go_wp2_with fail
      refine HC1.out.mono ?_
      rintro r u2 ⟨hb2, ha2, hc2, ga2, gc2, a2, cc2, rfl, hH2, hG2, hm2⟩
      have hbn := bel_two u2 (.cells #[.int .i64 x, .int .i64 f, .int .i64 t, .int .i64 P, .int .i64 s, .slice ha2 hn hc2, .slice ga2 gn gc2] 30) (.cells #[.int .i64 E, .slice a2 n cc2] 24)
      have hb3 := bel_then hb2 hbn
      have kb3 := kb1.keep hb3
      have kp3 := kp1.keep hb3
      have kn3 := (Box.new u2 30 #[.int .i64 x, .int .i64 f, .int .i64 t, .int .i64 P, .int .i64 s, .slice ha2 hn hc2, .slice ga2 gn gc2]).keep (new_bel _ (.cells #[.int .i64 E, .slice a2 n cc2] 24))
      have kq3 := Box.two u2 (.cells #[.int .i64 x, .int .i64 f, .int .i64 t, .int .i64 P, .int .i64 s, .slice ha2 hn hc2, .slice ga2 gn gc2] 30) 24 #[.int .i64 E, .slice a2 n cc2]
      have hH3 := Shape.any (Shape.below hH2 hbn)
      have hG3 := Shape.any (Shape.below hG2 hbn)
      have hm3 := Shape.any (Shape.below hm2 hbn)
      have HB3 := hidL (bel_then HB1.out hb3)
      clear kb1 kp1 hH2 hG2 hm2 hbn hb2 hb3 HC1 c0 c1 c2 c3 c4 c5 c6 d0 d1
      have c0 := kb3.cell 0 rfl; have c1 := kb3.cell 1 rfl; have c2 := kb3.cell 2 rfl; have c3 := kb3.cell 3 rfl; have c4 := kb3.cell 4 rfl; have c5 := kb3.cell 5 rfl; have c6 := kb3.cell 6 rfl
      go_upto_region 4 with fail
      generalize (u2.alloc (.cells #[.int .i64 x, .int .i64 f, .int .i64 t, .int .i64 P, .int .i64 s, .slice ha2 hn hc2, .slice ga2 gn gc2] 30)).alloc (.cells #[.int .i64 E, .slice a2 n cc2] 24) = W3 at *
      generalize u2.heap.size = K2 at *
      go_wp2_with fail
      refine (mabort x f t p s ha hn hc ga gn gc H G P2 E2 W3 (HHW.out _ HB3.out) (HGW.out _ HB3.out) hn1 gn1 HAb.out).mono ?_
      rintro r u4 ⟨hb4, ha4, hc4, ga4, gc4, rfl, hH4, hG4⟩
      have hbn := new_bel u4 (.cells #[.int .i64 x, .int .i64 f, .int .i64 t, .int .i64 P2, .int .i64 s, .slice ha4 hn hc4, .slice ga4 gn gc4] 30)
      have hb5 := bel_then hb4 hbn
      have kb5 := kb3.keep hb5
      have kp5 := kp3.keep hb5
      have kn5 := kn3.keep hb5
      have kq5 := kq3.keep hb5
      have kk5 := Box.new u4 30 #[.int .i64 x, .int .i64 f, .int .i64 t, .int .i64 P2, .int .i64 s, .slice ha4 hn hc4, .slice ga4 gn gc4]
      have hH5 := Shape.below hH3 hb5
      have hG5 := Shape.below hG3 hb5
      have hm5 := Shape.below hm3 hb5
      have iH5 := Shape.any (Shape.below hH4 hbn)
      have iG5 := Shape.any (Shape.below hG4 hbn)
      have HB5 := hidL (bel_then HB3.out hb5)
      clear kb3 kp3 kn3 kq3 hH3 hG3 hm3 hH4 hG4 hb4 hbn hb5 HB3 c0 c1 c2 c3 c4 c5 c6
      have c0 := kb5.cell 0 rfl; have c1 := kb5.cell 1 rfl; have c2 := kb5.cell 2 rfl; have c3 := kb5.cell 3 rfl; have c4 := kb5.cell 4 rfl; have c5 := kb5.cell 5 rfl; have c6 := kb5.cell 6 rfl
      have d0 := kp5.cell 0 rfl; have d1 := kp5.cell 1 rfl
      go_upto_region 5 with fail
      generalize u4.alloc (.cells #[.int .i64 x, .int .i64 f, .int .i64 t, .int .i64 P2, .int .i64 s, .slice ha4 hn hc4, .slice ga4 gn gc4] 30) = W5 at *
      generalize u4.heap.size = K4 at *
      go_wp2_with fail
      refine (padd_any e a n c m x t W5 (HMA.out _ HB5.out) HPS.out E3 X3 M3 HA.out).mono ?_
      rintro r u6 ⟨hb6, a6, c6z, rfl, hm6⟩
      have hbn := new_bel u6 (.cells #[.int .i64 E3, .slice a6 n c6z] 24)
      have hb7 := bel_then hb6 hbn
      have kb7 := kb5.keep hb7
      have kp7 := kp5.keep hb7
      have kn7 := kn5.keep hb7
      have kq7 := kq5.keep hb7
      have kk7 := kk5.keep hb7
      have kw7 := Box.new u6 24 #[.int .i64 E3, .slice a6 n c6z]
      have hH7 := Shape.below hH5 hb7
      have hG7 := Shape.below hG5 hb7
      have hm7 := Shape.below hm5 hb7
      have iH7 := Shape.below iH5 hb7
      have iG7 := Shape.below iG5 hb7
      have im7 := Shape.below hm6 hbn
      have HB7 := hidL (bel_then HB5.out hb7)
      clear kb5 kp5 kn5 kq5 kk5 hH5 hG5 hm5 iH5 iG5 hm6 hbn hb6 hb7 HB5 c0 c1 c2 c3 c4 c5 c6 d0 d1
      have c0 := kb7.cell 0 rfl; have c1 := kb7.cell 1 rfl; have c2 := kb7.cell 2 rfl; have c3 := kb7.cell 3 rfl; have c4 := kb7.cell 4 rfl; have c5 := kb7.cell 5 rfl; have c6 := kb7.cell 6 rfl
      go_upto_region 6 with fail
      generalize u6.alloc (.cells #[.int .i64 E3, .slice a6 n c6z] 24) = V at *
      generalize u6.heap.size = K6 at *
      go_cut [12, 13] from 14 (fun v12 v13 wx => ∃ g1 g2, v12 = .pointer (some ⟨g1, 0, none⟩) ∧ v13 = .pointer (some ⟨g2, 0, none⟩) ∧ Box wx g1 30 #[.int .i64 x, .int .i64 f, .int .i64 t, .int .i64 p, .int .i64 s, .slice ha hn hc, .slice ga gn gc] ∧ Box wx g2 30 #[.int .i64 x, .int .i64 f, .int .i64 t, .int .i64 p, .int .i64 s, .slice ha hn hc, .slice ga gn gc] ∧ V.heap.size ≤ g1 ∧ V.heap.size ≤ g2 ∧ g1 ≠ g2 ∧ Below V.heap.size V wx)
      case first =>
        rename_i Jx Kx hRJ hMK
        have HS : Hid (∀ u, Below V.heap.size V u → u.cell? ⟨w.heap.size, 0, none⟩ = some (.int .i64 x) ∧ u.cell? ⟨w.heap.size, 1, none⟩ = some (.int .i64 f) ∧ u.cell? ⟨w.heap.size, 2, none⟩ = some (.int .i64 t) ∧ u.cell? ⟨w.heap.size, 3, none⟩ = some (.int .i64 p) ∧ u.cell? ⟨w.heap.size, 4, none⟩ = some (.int .i64 s) ∧ u.cell? ⟨w.heap.size, 5, none⟩ = some (.slice ha hn hc) ∧ u.cell? ⟨w.heap.size, 6, none⟩ = some (.slice ga gn gc)) := fun u hu => by
          have q := kb7.keep hu
          exact ⟨q.cell 0 rfl, q.cell 1 rfl, q.cell 2 rfl, q.cell 3 rfl, q.cell 4 rfl, q.cell 5 rfl, q.cell 6 rfl⟩
        have hD : Below V.heap.size V V.drew := (Below.refl _ V).drew
        go_region_held3 (fun u => u.cell? ⟨w.heap.size, 0, none⟩ = some (.int .i64 x) ∧ u.cell? ⟨w.heap.size, 1, none⟩ = some (.int .i64 f) ∧ u.cell? ⟨w.heap.size, 2, none⟩ = some (.int .i64 t) ∧ u.cell? ⟨w.heap.size, 3, none⟩ = some (.int .i64 p) ∧ u.cell? ⟨w.heap.size, 4, none⟩ = some (.int .i64 s) ∧ u.cell? ⟨w.heap.size, 5, none⟩ = some (.slice ha hn hc) ∧ u.cell? ⟨w.heap.size, 6, none⟩ = some (.slice ga gn gc))
          (first
            | exact HS.out _ (by (repeat' (first | with_reducible assumption | with_reducible exact Below.refl _ _ | with_reducible refine bel_alloc ?_ _ | with_reducible refine Below.drew ?_ | with_reducible refine bel_all7 ?_ ?_ _ _ _ _ _ _ _)); all_goals omega)
            | go_keep)
          (fail)
        all_goals
          refine hMK _ _ (Met.intro (hRJ _ _ ?_))
          (repeat apply Exists.intro)
          refine ⟨?_, rfl⟩
        all_goals
          refine ⟨_, _, rfl, rfl, ?_, ?_, ?_, ?_, ?_, ?_⟩
        · exact ((Box.new V _ _).keep (new_bel _ _)).draw
        · exact (Box.two V _ _ _).draw
        · omega
        · omega
        · omega
        · exact (bel_two V _ _).drew
        · exact (Box.two V _ _ _).draw
        · exact ((Box.new V _ _).keep (new_bel _ _)).draw
        · omega
        · omega
        · omega
        · exact (bel_two V _ _).drew
      case rest =>
        obtain ⟨g1, g2, rfl, rfl, kd, kg, hg1, hg2, hg12, hBV⟩ := hcut
        clear c0 c1 c2 c3 c4 c5 c6
        have kd2 : Box (wc.setCell ⟨g1, 3, none⟩ (.int .i64 3)) g1 30 #[.int .i64 x, .int .i64 f, .int .i64 t, .int .i64 3, .int .i64 s, .slice ha hn hc, .slice ga gn gc] := kd.set 3 _
        have kg2 := kg.other (b2 := g1) (i := 3) (.int .i64 3) (fun h => hg12 h.symm)
        have hBV2 := bel_put (i := 3) hBV hg1 (.int .i64 3)
        have kd3 := kd2.other (b2 := g2) (i := 3) (.int .i64 4) hg12
        have kg3 : Box ((wc.setCell ⟨g1, 3, none⟩ (.int .i64 3)).setCell ⟨g2, 3, none⟩ (.int .i64 4)) g2 30 #[.int .i64 x, .int .i64 f, .int .i64 t, .int .i64 4, .int .i64 s, .slice ha hn hc, .slice ga gn gc] := kg2.set 3 _
        have hBV3 := bel_put (i := 3) hBV2 hg2 (.int .i64 4)
        have c3 := kd.cell 3 rfl
        have f3 := kd.free 3
        have e3 := kg2.cell 3 rfl
        have h3 := kg2.free 3
        clear kd kg kd2 kg2 hBV hBV2
        go_upto_region 8 with fail
        obtain ⟨W8, hW8⟩ : ∃ V, V = (wc.setCell ⟨g1, 3, none⟩ (.int .i64 3)).setCell ⟨g2, 3, none⟩ (.int .i64 4) := ⟨_, rfl⟩
        rw [← hW8] at kd3 kg3 hBV3 ⊢
        clear hW8 c3 f3 e3 h3
        have kb8 := kb7.keep hBV3
        have HGL := hidL (And.intro hg1 hg2)
        clear hg1 hg2
        rcases HAb.out with ⟨rfl, rfl, rfl⟩ | ⟨hp3, rfl, rfl⟩
        · have HP2 : Hid ((3 : Int) ≠ 2) := by show _ ≠ _; omega
          have hcw : 3 = P ∧ e = E ∧ m = M ∧ 1 = X := by
            rcases HCC.out with ⟨_, h⟩ | ⟨h, _⟩ | ⟨h, _⟩
            · exact h
            · exact absurd h HP2.out
            · exact absurd h HP2.out
          obtain ⟨rfl, rfl, rfl, rfl⟩ := hcw
          have HBV9 := bel_all7 hBV3 HGL.out.2 (.int .i64 x) (.int .i64 f) (.int .i64 t) (.int .i64 3) (.int .i64 s) (.slice ha hn hc) (.slice ga gn gc)
          have kg9 := kg3.all7 (.int .i64 x) (.int .i64 f) (.int .i64 t) (.int .i64 3) (.int .i64 s) (.slice ha hn hc) (.slice ga gn gc)
          have c0 := kb8.cell 0 rfl; have c1 := kb8.cell 1 rfl; have c2 := kb8.cell 2 rfl; have c3 := kb8.cell 3 rfl; have c4 := kb8.cell 4 rfl; have c5 := kb8.cell 5 rfl; have c6 := kb8.cell 6 rfl
          have d0 := kg3.cell 0 rfl; have d1 := kg3.cell 1 rfl; have d2 := kg3.cell 2 rfl; have d3 := kg3.cell 3 rfl; have d4 := kg3.cell 4 rfl; have d5 := kg3.cell 5 rfl; have d6 := kg3.cell 6 rfl
          have f0 := kg3.free 0; have f1 := kg3.free 1; have f2 := kg3.free 2; have f3 := kg3.free 3; have f4 := kg3.free 4; have f5 := kg3.free 5; have f6 := kg3.free 6
          clear kb8
          go_upto_region 10 with fail
          obtain ⟨W9, hW9⟩ : ∃ V, V = (((((((W8.setCell ⟨g2, 0, none⟩ (.int .i64 x)).setCell ⟨g2, 1, none⟩ (.int .i64 f)).setCell ⟨g2, 2, none⟩ (.int .i64 t)).setCell ⟨g2, 3, none⟩ (.int .i64 3)).setCell ⟨g2, 4, none⟩ (.int .i64 s)).setCell ⟨g2, 5, none⟩ (.slice ha hn hc)).setCell ⟨g2, 6, none⟩ (.slice ga gn gc)) := ⟨_, rfl⟩
          rw [← hW9] at kg9 HBV9 ⊢
          clear hW9 c0 c1 c2 c3 c4 c5 c6 d0 d1 d2 d3 d4 d5 d6 f0 f1 f2 f3 f4 f5 f6 kg3 kd3 hBV3
          have d0 : ∀ x : Later W9, x.u.cell? ⟨K4, 0, none⟩ = _ := fun x => x.cell ((kk7.keep HBV9).cell 0 rfl)
          have d1 : ∀ x : Later W9, x.u.cell? ⟨K4, 1, none⟩ = _ := fun x => x.cell ((kk7.keep HBV9).cell 1 rfl)
          have d2 : ∀ x : Later W9, x.u.cell? ⟨K4, 2, none⟩ = _ := fun x => x.cell ((kk7.keep HBV9).cell 2 rfl)
          have d3 : ∀ x : Later W9, x.u.cell? ⟨K4, 3, none⟩ = _ := fun x => x.cell ((kk7.keep HBV9).cell 3 rfl)
          have d4 : ∀ x : Later W9, x.u.cell? ⟨K4, 4, none⟩ = _ := fun x => x.cell ((kk7.keep HBV9).cell 4 rfl)
          have d5 : ∀ x : Later W9, x.u.cell? ⟨K4, 5, none⟩ = _ := fun x => x.cell ((kk7.keep HBV9).cell 5 rfl)
          have d6 : ∀ x : Later W9, x.u.cell? ⟨K4, 6, none⟩ = _ := fun x => x.cell ((kk7.keep HBV9).cell 6 rfl)
          have b0 : ∀ x : Later W9, x.u.cell? ⟨g2, 0, none⟩ = _ := fun x => x.cell (kg9.cell 0 rfl)
          have b1 : ∀ x : Later W9, x.u.cell? ⟨g2, 1, none⟩ = _ := fun x => x.cell (kg9.cell 1 rfl)
          have b2 : ∀ x : Later W9, x.u.cell? ⟨g2, 2, none⟩ = _ := fun x => x.cell (kg9.cell 2 rfl)
          have b3 : ∀ x : Later W9, x.u.cell? ⟨g2, 3, none⟩ = _ := fun x => x.cell (kg9.cell 3 rfl)
          have b4 : ∀ x : Later W9, x.u.cell? ⟨g2, 4, none⟩ = _ := fun x => x.cell (kg9.cell 4 rfl)
          have b5 : ∀ x : Later W9, x.u.cell? ⟨g2, 5, none⟩ = _ := fun x => x.cell (kg9.cell 5 rfl)
          have b6 : ∀ x : Later W9, x.u.cell? ⟨g2, 6, none⟩ = _ := fun x => x.cell (kg9.cell 6 rfl)
          have HRF1 : Hid (∀ y : Later W9, Calls Try.prog 15 _ y.u _) := fun y => mref x f t 3 s ha4 hn hc4 ga4 gn gc4 y.u
          have HRF2 : Hid (∀ y : Later W9, Calls Try.prog 15 _ y.u _) := fun y => mref x f t 3 s ha hn hc ga gn gc y.u
          have HSA : Hid (∀ y : Later W9, Calls Try.prog 14 _ y.u _) := fun y => msame x f t 3 s ha4 hn hc4 ga4 gn gc4 H G ha hc ga gc y.u (Shape.below ((Shape.below iH7 HBV9)) y.h) (Shape.below ((Shape.below iG7 HBV9)) y.h) (Shape.below ((HHW.out _ (bel_then HB7.out HBV9))) y.h) (Shape.below ((HGW.out _ (bel_then HB7.out HBV9))) y.h) (by omega) (by omega)
          have m3 : ∀ x : Later W9, x.u.cell? ⟨w.heap.size, 3, none⟩ = _ := fun x => x.cell ((kb7.keep HBV9).cell 3 rfl)
          have hne9 : Nonempty (Later W9) := Later.there W9
          go_wp2
          refine region_later (by kernel_rfl) (by kernel_rfl) ?_
          repeat (go_big_quiet_step (first
            | (go_at_call 15; with_reducible exact Later.call (HRF1.out _))
            | (go_at_call 15; with_reducible exact Later.call (HRF2.out _))
            | (go_at_call 14; with_reducible exact Later.call (HSA.out _))
            | (go_at_call 25; with_reducible exact Later.call (HSY.out _))
            | (go_at_call 11; with_reducible exact Later.call (HAX.out _))))
          refine wpQuiet_nil ?_
          intro x9
          obtain ⟨W10, hb9⟩ := x9
          clear hne9 d0 d1 d2 d3 d4 d5 d6 b0 b1 b2 b3 b4 b5 b6 HRF1 HRF2 HSA m3
          have hB10 := bel_then HBV9 hb9
          have m3 := (kb7.keep hB10).cell 3 rfl
          go_upto_region 13 with fail
          clear m3
          have d0 : ∀ x : Later W10, x.u.cell? ⟨K2, 0, none⟩ = _ := fun x => x.cell ((kn7.keep hB10).cell 0 rfl)
          have d1 : ∀ x : Later W10, x.u.cell? ⟨K2, 1, none⟩ = _ := fun x => x.cell ((kn7.keep hB10).cell 1 rfl)
          have d2 : ∀ x : Later W10, x.u.cell? ⟨K2, 2, none⟩ = _ := fun x => x.cell ((kn7.keep hB10).cell 2 rfl)
          have d3 : ∀ x : Later W10, x.u.cell? ⟨K2, 3, none⟩ = _ := fun x => x.cell ((kn7.keep hB10).cell 3 rfl)
          have d4 : ∀ x : Later W10, x.u.cell? ⟨K2, 4, none⟩ = _ := fun x => x.cell ((kn7.keep hB10).cell 4 rfl)
          have d5 : ∀ x : Later W10, x.u.cell? ⟨K2, 5, none⟩ = _ := fun x => x.cell ((kn7.keep hB10).cell 5 rfl)
          have d6 : ∀ x : Later W10, x.u.cell? ⟨K2, 6, none⟩ = _ := fun x => x.cell ((kn7.keep hB10).cell 6 rfl)
          have b0 : ∀ x : Later W10, x.u.cell? ⟨w.heap.size, 0, none⟩ = _ := fun x => x.cell ((kb7.keep hB10).cell 0 rfl)
          have b1 : ∀ x : Later W10, x.u.cell? ⟨w.heap.size, 1, none⟩ = _ := fun x => x.cell ((kb7.keep hB10).cell 1 rfl)
          have b2 : ∀ x : Later W10, x.u.cell? ⟨w.heap.size, 2, none⟩ = _ := fun x => x.cell ((kb7.keep hB10).cell 2 rfl)
          have b3 : ∀ x : Later W10, x.u.cell? ⟨w.heap.size, 3, none⟩ = _ := fun x => x.cell ((kb7.keep hB10).cell 3 rfl)
          have b4 : ∀ x : Later W10, x.u.cell? ⟨w.heap.size, 4, none⟩ = _ := fun x => x.cell ((kb7.keep hB10).cell 4 rfl)
          have b5 : ∀ x : Later W10, x.u.cell? ⟨w.heap.size, 5, none⟩ = _ := fun x => x.cell ((kb7.keep hB10).cell 5 rfl)
          have b6 : ∀ x : Later W10, x.u.cell? ⟨w.heap.size, 6, none⟩ = _ := fun x => x.cell ((kb7.keep hB10).cell 6 rfl)
          have HRF1 : Hid (∀ y : Later W10, Calls Try.prog 15 _ y.u _) := fun y => mref x f t 3 s ha2 hn hc2 ga2 gn gc2 y.u
          have HRF2 : Hid (∀ y : Later W10, Calls Try.prog 15 _ y.u _) := fun y => mref x f t 3 s ha hn hc ga gn gc y.u
          have HSA : Hid (∀ y : Later W10, Calls Try.prog 14 _ y.u _) := fun y => msame x f t 3 s ha2 hn hc2 ga2 gn gc2 H G ha hc ga gc y.u (Shape.below ((Shape.below hH7 hB10)) y.h) (Shape.below ((Shape.below hG7 hB10)) y.h) (Shape.below ((HHW.out _ (bel_then HB7.out hB10))) y.h) (Shape.below ((HGW.out _ (bel_then HB7.out hB10))) y.h) (by omega) (by omega)
          have q0 : ∀ x : Later W10, x.u.cell? ⟨K2 + 1, 0, none⟩ = _ := fun x => x.cell ((kq7.keep hB10).cell 0 rfl)
          have q1 : ∀ x : Later W10, x.u.cell? ⟨K2 + 1, 1, none⟩ = _ := fun x => x.cell ((kq7.keep hB10).cell 1 rfl)
          have p0 : ∀ x : Later W10, x.u.cell? ⟨(w.heap.size+1), 0, none⟩ = _ := fun x => x.cell ((kp7.keep hB10).cell 0 rfl)
          have p1 : ∀ x : Later W10, x.u.cell? ⟨(w.heap.size+1), 1, none⟩ = _ := fun x => x.cell ((kp7.keep hB10).cell 1 rfl)
          have HSY : Hid (∀ y : Later W10, Calls Try.prog 25 _ y.u (fun r w' => r = .returned (.bool true) ∧ Below y.u.heap.size y.u w')) := fun y => (msays a2 a n n cc2 c m m y.u (Shape.below hm7 (bel_then hB10 y.h)) ((HMA.out _ (bel_then HB7.out (bel_then hB10 y.h)))) (HZ.out) (HZ.out)).mono fun _ _ ⟨h1, h2⟩ => ⟨h1.is rfl, h2⟩
          have qe : (e == e) = true := by simp
          have HAX : Hid (∀ x : Later W10, Calls Try.prog 11 #[] x.u fun r w' => r = .returned (.bool true) ∧ Below x.u.heap.size x.u w') := fun y => HAW.out y.u
          have hne9 : Nonempty (Later W10) := Later.there W10
          go_wp2
          refine region_later (by kernel_rfl) (by kernel_rfl) ?_
          repeat (go_big_quiet_step (first
            | (go_at_call 15; with_reducible exact Later.call (HRF1.out _))
            | (go_at_call 15; with_reducible exact Later.call (HRF2.out _))
            | (go_at_call 14; with_reducible exact Later.call (HSA.out _))
            | (go_at_call 25; with_reducible exact Later.call (HSY.out _))
            | (go_at_call 11; with_reducible exact Later.call (HAX.out _))))
          refine wpQuiet_nil ?_
          intro x9
          obtain ⟨W11, hb9⟩ := x9
          go_wp2
          go_ret
          exact ⟨rfl, bel_then HB7.out (bel_then hB10 hb9)⟩
        · have q3 : (p == 3) = false := by rw [beq_eq_false_iff_ne]; exact hp3
          have c3 := kb8.cell 3 rfl
          clear kb8
          go_upto_region 10 with fail
          clear c3
          have d0 : ∀ x : Later W8, x.u.cell? ⟨K4, 0, none⟩ = _ := fun x => x.cell ((kk7.keep hBV3).cell 0 rfl)
          have d1 : ∀ x : Later W8, x.u.cell? ⟨K4, 1, none⟩ = _ := fun x => x.cell ((kk7.keep hBV3).cell 1 rfl)
          have d2 : ∀ x : Later W8, x.u.cell? ⟨K4, 2, none⟩ = _ := fun x => x.cell ((kk7.keep hBV3).cell 2 rfl)
          have d3 : ∀ x : Later W8, x.u.cell? ⟨K4, 3, none⟩ = _ := fun x => x.cell ((kk7.keep hBV3).cell 3 rfl)
          have d4 : ∀ x : Later W8, x.u.cell? ⟨K4, 4, none⟩ = _ := fun x => x.cell ((kk7.keep hBV3).cell 4 rfl)
          have d5 : ∀ x : Later W8, x.u.cell? ⟨K4, 5, none⟩ = _ := fun x => x.cell ((kk7.keep hBV3).cell 5 rfl)
          have d6 : ∀ x : Later W8, x.u.cell? ⟨K4, 6, none⟩ = _ := fun x => x.cell ((kk7.keep hBV3).cell 6 rfl)
          have b0 : ∀ x : Later W8, x.u.cell? ⟨g2, 0, none⟩ = _ := fun x => x.cell (kg3.cell 0 rfl)
          have b1 : ∀ x : Later W8, x.u.cell? ⟨g2, 1, none⟩ = _ := fun x => x.cell (kg3.cell 1 rfl)
          have b2 : ∀ x : Later W8, x.u.cell? ⟨g2, 2, none⟩ = _ := fun x => x.cell (kg3.cell 2 rfl)
          have b3 : ∀ x : Later W8, x.u.cell? ⟨g2, 3, none⟩ = _ := fun x => x.cell (kg3.cell 3 rfl)
          have b4 : ∀ x : Later W8, x.u.cell? ⟨g2, 4, none⟩ = _ := fun x => x.cell (kg3.cell 4 rfl)
          have b5 : ∀ x : Later W8, x.u.cell? ⟨g2, 5, none⟩ = _ := fun x => x.cell (kg3.cell 5 rfl)
          have b6 : ∀ x : Later W8, x.u.cell? ⟨g2, 6, none⟩ = _ := fun x => x.cell (kg3.cell 6 rfl)
          have HRF1 : Hid (∀ y : Later W8, Calls Try.prog 15 _ y.u _) := fun y => mref x f t 4 s ha4 hn hc4 ga4 gn gc4 y.u
          have HRF2 : Hid (∀ y : Later W8, Calls Try.prog 15 _ y.u _) := fun y => mref x f t 4 s ha hn hc ga gn gc y.u
          have HSA : Hid (∀ y : Later W8, Calls Try.prog 14 _ y.u _) := fun y => msame x f t 4 s ha4 hn hc4 ga4 gn gc4 H G ha hc ga gc y.u (Shape.below ((Shape.below iH7 hBV3)) y.h) (Shape.below ((Shape.below iG7 hBV3)) y.h) (Shape.below ((HHW.out _ (bel_then HB7.out hBV3))) y.h) (Shape.below ((HGW.out _ (bel_then HB7.out hBV3))) y.h) (by omega) (by omega)
          have m3 : ∀ x : Later W8, x.u.cell? ⟨w.heap.size, 3, none⟩ = _ := fun x => x.cell ((kb7.keep hBV3).cell 3 rfl)
          have hne9 : Nonempty (Later W8) := Later.there W8
          go_wp2
          refine region_later (by kernel_rfl) (by kernel_rfl) ?_
          repeat (go_big_quiet_step (first
            | (go_at_call 15; with_reducible exact Later.call (HRF1.out _))
            | (go_at_call 15; with_reducible exact Later.call (HRF2.out _))
            | (go_at_call 14; with_reducible exact Later.call (HSA.out _))
            | (go_at_call 25; with_reducible exact Later.call (HSY.out _))
            | (go_at_call 11; with_reducible exact Later.call (HAX.out _))))
          refine wpQuiet_nil ?_
          intro x9
          obtain ⟨W10, hb9⟩ := x9
          clear hne9 d0 d1 d2 d3 d4 d5 d6 b0 b1 b2 b3 b4 b5 b6 HRF1 HRF2 HSA m3
          have hB10 := bel_then hBV3 hb9
          have m3 := (kb7.keep hB10).cell 3 rfl
          by_cases hp2 : p = 2
          · subst hp2
            clear hp3 q3
            rcases HCC.out with ⟨h, _⟩ | ⟨_, hx, rfl, rfl, rfl, rfl⟩ | ⟨_, hx, rfl, rfl, rfl, rfl⟩
            · exact absurd rfl h
            · have qx : (X3 != 0) = true := by rw [bne_iff_ne]; exact hx
              obtain rfl : E3 = e := HA.out.still hx
              go_upto_region 15 with fail
              clear m3 hx
              have d0 : ∀ x : Later W10, x.u.cell? ⟨K2, 0, none⟩ = _ := fun x => x.cell ((kn7.keep hB10).cell 0 rfl)
              have d1 : ∀ x : Later W10, x.u.cell? ⟨K2, 1, none⟩ = _ := fun x => x.cell ((kn7.keep hB10).cell 1 rfl)
              have d2 : ∀ x : Later W10, x.u.cell? ⟨K2, 2, none⟩ = _ := fun x => x.cell ((kn7.keep hB10).cell 2 rfl)
              have d3 : ∀ x : Later W10, x.u.cell? ⟨K2, 3, none⟩ = _ := fun x => x.cell ((kn7.keep hB10).cell 3 rfl)
              have d4 : ∀ x : Later W10, x.u.cell? ⟨K2, 4, none⟩ = _ := fun x => x.cell ((kn7.keep hB10).cell 4 rfl)
              have d5 : ∀ x : Later W10, x.u.cell? ⟨K2, 5, none⟩ = _ := fun x => x.cell ((kn7.keep hB10).cell 5 rfl)
              have d6 : ∀ x : Later W10, x.u.cell? ⟨K2, 6, none⟩ = _ := fun x => x.cell ((kn7.keep hB10).cell 6 rfl)
              have b0 : ∀ x : Later W10, x.u.cell? ⟨w.heap.size, 0, none⟩ = _ := fun x => x.cell ((kb7.keep hB10).cell 0 rfl)
              have b1 : ∀ x : Later W10, x.u.cell? ⟨w.heap.size, 1, none⟩ = _ := fun x => x.cell ((kb7.keep hB10).cell 1 rfl)
              have b2 : ∀ x : Later W10, x.u.cell? ⟨w.heap.size, 2, none⟩ = _ := fun x => x.cell ((kb7.keep hB10).cell 2 rfl)
              have b3 : ∀ x : Later W10, x.u.cell? ⟨w.heap.size, 3, none⟩ = _ := fun x => x.cell ((kb7.keep hB10).cell 3 rfl)
              have b4 : ∀ x : Later W10, x.u.cell? ⟨w.heap.size, 4, none⟩ = _ := fun x => x.cell ((kb7.keep hB10).cell 4 rfl)
              have b5 : ∀ x : Later W10, x.u.cell? ⟨w.heap.size, 5, none⟩ = _ := fun x => x.cell ((kb7.keep hB10).cell 5 rfl)
              have b6 : ∀ x : Later W10, x.u.cell? ⟨w.heap.size, 6, none⟩ = _ := fun x => x.cell ((kb7.keep hB10).cell 6 rfl)
              have HRF1 : Hid (∀ y : Later W10, Calls Try.prog 15 _ y.u _) := fun y => mref x f t 2 s ha2 hn hc2 ga2 gn gc2 y.u
              have HRF2 : Hid (∀ y : Later W10, Calls Try.prog 15 _ y.u _) := fun y => mref x f t 2 s ha hn hc ga gn gc y.u
              have HSA : Hid (∀ y : Later W10, Calls Try.prog 14 _ y.u _) := fun y => msame x f t 2 s ha2 hn hc2 ga2 gn gc2 H G ha hc ga gc y.u (Shape.below ((Shape.below hH7 hB10)) y.h) (Shape.below ((Shape.below hG7 hB10)) y.h) (Shape.below ((HHW.out _ (bel_then HB7.out hB10))) y.h) (Shape.below ((HGW.out _ (bel_then HB7.out hB10))) y.h) (by omega) (by omega)
              have q0 : ∀ x : Later W10, x.u.cell? ⟨K2 + 1, 0, none⟩ = _ := fun x => x.cell ((kq7.keep hB10).cell 0 rfl)
              have p0 : ∀ x : Later W10, x.u.cell? ⟨w.heap.size + 1, 0, none⟩ = _ := fun x => x.cell ((kp7.keep hB10).cell 0 rfl)
              have qe : (E3 == E3) = true := by simp
              have qy : (X3 == X3) = true := by simp
              have HAX : Hid (∀ x : Later W10, Calls Try.prog 11 #[] x.u fun r w' => r = .returned (.bool true) ∧ Below x.u.heap.size x.u w') := fun y => HAW.out y.u
              have hne9 : Nonempty (Later W10) := Later.there W10
              go_wp2
              refine region_later (by kernel_rfl) (by kernel_rfl) ?_
              repeat (go_big_quiet_step (first
                | (go_at_call 15; with_reducible exact Later.call (HRF1.out _))
                | (go_at_call 15; with_reducible exact Later.call (HRF2.out _))
                | (go_at_call 14; with_reducible exact Later.call (HSA.out _))
                | (go_at_call 25; with_reducible exact Later.call (HSY.out _))
                | (go_at_call 11; with_reducible exact Later.call (HAX.out _))))
              refine wpQuiet_nil ?_
              intro x9
              obtain ⟨W11, hb9⟩ := x9
              go_wp2
              go_ret
              exact ⟨rfl, bel_then HB7.out (bel_then hB10 hb9)⟩
            · subst hx
              go_upto_region 16 with fail
              clear m3
              have kd10 := kd3.keep hb9
              have d0 : ∀ x : Later W10, x.u.cell? ⟨K2, 0, none⟩ = _ := fun x => x.cell ((kn7.keep hB10).cell 0 rfl)
              have d1 : ∀ x : Later W10, x.u.cell? ⟨K2, 1, none⟩ = _ := fun x => x.cell ((kn7.keep hB10).cell 1 rfl)
              have d2 : ∀ x : Later W10, x.u.cell? ⟨K2, 2, none⟩ = _ := fun x => x.cell ((kn7.keep hB10).cell 2 rfl)
              have d3 : ∀ x : Later W10, x.u.cell? ⟨K2, 3, none⟩ = _ := fun x => x.cell ((kn7.keep hB10).cell 3 rfl)
              have d4 : ∀ x : Later W10, x.u.cell? ⟨K2, 4, none⟩ = _ := fun x => x.cell ((kn7.keep hB10).cell 4 rfl)
              have d5 : ∀ x : Later W10, x.u.cell? ⟨K2, 5, none⟩ = _ := fun x => x.cell ((kn7.keep hB10).cell 5 rfl)
              have d6 : ∀ x : Later W10, x.u.cell? ⟨K2, 6, none⟩ = _ := fun x => x.cell ((kn7.keep hB10).cell 6 rfl)
              have b0 : ∀ x : Later W10, x.u.cell? ⟨g1, 0, none⟩ = _ := fun x => x.cell (kd10.cell 0 rfl)
              have b1 : ∀ x : Later W10, x.u.cell? ⟨g1, 1, none⟩ = _ := fun x => x.cell (kd10.cell 1 rfl)
              have b2 : ∀ x : Later W10, x.u.cell? ⟨g1, 2, none⟩ = _ := fun x => x.cell (kd10.cell 2 rfl)
              have b3 : ∀ x : Later W10, x.u.cell? ⟨g1, 3, none⟩ = _ := fun x => x.cell (kd10.cell 3 rfl)
              have b4 : ∀ x : Later W10, x.u.cell? ⟨g1, 4, none⟩ = _ := fun x => x.cell (kd10.cell 4 rfl)
              have b5 : ∀ x : Later W10, x.u.cell? ⟨g1, 5, none⟩ = _ := fun x => x.cell (kd10.cell 5 rfl)
              have b6 : ∀ x : Later W10, x.u.cell? ⟨g1, 6, none⟩ = _ := fun x => x.cell (kd10.cell 6 rfl)
              have HRF1 : Hid (∀ y : Later W10, Calls Try.prog 15 _ y.u _) := fun y => mref x f t 3 s ha2 hn hc2 ga2 gn gc2 y.u
              have HRF2 : Hid (∀ y : Later W10, Calls Try.prog 15 _ y.u _) := fun y => mref x f t 3 s ha hn hc ga gn gc y.u
              have HSA : Hid (∀ y : Later W10, Calls Try.prog 14 _ y.u _) := fun y => msame x f t 3 s ha2 hn hc2 ga2 gn gc2 H G ha hc ga gc y.u (Shape.below ((Shape.below hH7 hB10)) y.h) (Shape.below ((Shape.below hG7 hB10)) y.h) (Shape.below ((HHW.out _ (bel_then HB7.out hB10))) y.h) (Shape.below ((HGW.out _ (bel_then HB7.out hB10))) y.h) (by omega) (by omega)
              have q0 : ∀ x : Later W10, x.u.cell? ⟨K2 + 1, 0, none⟩ = _ := fun x => x.cell ((kq7.keep hB10).cell 0 rfl)
              have q1 : ∀ x : Later W10, x.u.cell? ⟨K2 + 1, 1, none⟩ = _ := fun x => x.cell ((kq7.keep hB10).cell 1 rfl)
              have p0 : ∀ x : Later W10, x.u.cell? ⟨K6, 0, none⟩ = _ := fun x => x.cell ((kw7.keep hB10).cell 0 rfl)
              have p1 : ∀ x : Later W10, x.u.cell? ⟨K6, 1, none⟩ = _ := fun x => x.cell ((kw7.keep hB10).cell 1 rfl)
              have HSY : Hid (∀ y : Later W10, Calls Try.prog 25 _ y.u (fun r w' => r = .returned (.bool true) ∧ Below y.u.heap.size y.u w')) := fun y => (msays a2 a6 n n cc2 c6z M3 M3 y.u (Shape.below hm7 (bel_then hB10 y.h)) ((Shape.below im7 (bel_then hB10 y.h))) ((HA.out.sized HZ.out)) ((HA.out.sized HZ.out))).mono fun _ _ ⟨h1, h2⟩ => ⟨h1.is rfl, h2⟩
              have qe : (E3 == E3) = true := by simp
              have HAX : Hid (∀ x : Later W10, Calls Try.prog 11 #[] x.u fun r w' => r = .returned (.bool true) ∧ Below x.u.heap.size x.u w') := fun y => HAW.out y.u
              have hne9 : Nonempty (Later W10) := Later.there W10
              go_wp2
              refine region_later (by kernel_rfl) (by kernel_rfl) ?_
              repeat (go_big_quiet_step (first
                | (go_at_call 15; with_reducible exact Later.call (HRF1.out _))
                | (go_at_call 15; with_reducible exact Later.call (HRF2.out _))
                | (go_at_call 14; with_reducible exact Later.call (HSA.out _))
                | (go_at_call 25; with_reducible exact Later.call (HSY.out _))
                | (go_at_call 11; with_reducible exact Later.call (HAX.out _))))
              refine wpQuiet_nil ?_
              intro x9
              obtain ⟨W11, hb9⟩ := x9
              go_wp2
              go_ret
              exact ⟨rfl, bel_then HB7.out (bel_then hB10 hb9)⟩
          · have q2 : (p != 2) = true := by rw [bne_iff_ne]; exact hp2
            have HP2 := hidL hp2
            clear hp2 hp3
            have hcw : p = P ∧ e = E ∧ m = M ∧ 1 = X := by
              rcases HCC.out with ⟨_, h⟩ | ⟨h, _⟩ | ⟨h, _⟩
              · exact h
              · exact absurd h HP2.out
              · exact absurd h HP2.out
            obtain ⟨rfl, rfl, rfl, rfl⟩ := hcw
            go_upto_region 13 with fail
            clear m3
            have d0 : ∀ x : Later W10, x.u.cell? ⟨K2, 0, none⟩ = _ := fun x => x.cell ((kn7.keep hB10).cell 0 rfl)
            have d1 : ∀ x : Later W10, x.u.cell? ⟨K2, 1, none⟩ = _ := fun x => x.cell ((kn7.keep hB10).cell 1 rfl)
            have d2 : ∀ x : Later W10, x.u.cell? ⟨K2, 2, none⟩ = _ := fun x => x.cell ((kn7.keep hB10).cell 2 rfl)
            have d3 : ∀ x : Later W10, x.u.cell? ⟨K2, 3, none⟩ = _ := fun x => x.cell ((kn7.keep hB10).cell 3 rfl)
            have d4 : ∀ x : Later W10, x.u.cell? ⟨K2, 4, none⟩ = _ := fun x => x.cell ((kn7.keep hB10).cell 4 rfl)
            have d5 : ∀ x : Later W10, x.u.cell? ⟨K2, 5, none⟩ = _ := fun x => x.cell ((kn7.keep hB10).cell 5 rfl)
            have d6 : ∀ x : Later W10, x.u.cell? ⟨K2, 6, none⟩ = _ := fun x => x.cell ((kn7.keep hB10).cell 6 rfl)
            have b0 : ∀ x : Later W10, x.u.cell? ⟨w.heap.size, 0, none⟩ = _ := fun x => x.cell ((kb7.keep hB10).cell 0 rfl)
            have b1 : ∀ x : Later W10, x.u.cell? ⟨w.heap.size, 1, none⟩ = _ := fun x => x.cell ((kb7.keep hB10).cell 1 rfl)
            have b2 : ∀ x : Later W10, x.u.cell? ⟨w.heap.size, 2, none⟩ = _ := fun x => x.cell ((kb7.keep hB10).cell 2 rfl)
            have b3 : ∀ x : Later W10, x.u.cell? ⟨w.heap.size, 3, none⟩ = _ := fun x => x.cell ((kb7.keep hB10).cell 3 rfl)
            have b4 : ∀ x : Later W10, x.u.cell? ⟨w.heap.size, 4, none⟩ = _ := fun x => x.cell ((kb7.keep hB10).cell 4 rfl)
            have b5 : ∀ x : Later W10, x.u.cell? ⟨w.heap.size, 5, none⟩ = _ := fun x => x.cell ((kb7.keep hB10).cell 5 rfl)
            have b6 : ∀ x : Later W10, x.u.cell? ⟨w.heap.size, 6, none⟩ = _ := fun x => x.cell ((kb7.keep hB10).cell 6 rfl)
            have HRF1 : Hid (∀ y : Later W10, Calls Try.prog 15 _ y.u _) := fun y => mref x f t p s ha2 hn hc2 ga2 gn gc2 y.u
            have HRF2 : Hid (∀ y : Later W10, Calls Try.prog 15 _ y.u _) := fun y => mref x f t p s ha hn hc ga gn gc y.u
            have HSA : Hid (∀ y : Later W10, Calls Try.prog 14 _ y.u _) := fun y => msame x f t p s ha2 hn hc2 ga2 gn gc2 H G ha hc ga gc y.u (Shape.below ((Shape.below hH7 hB10)) y.h) (Shape.below ((Shape.below hG7 hB10)) y.h) (Shape.below ((HHW.out _ (bel_then HB7.out hB10))) y.h) (Shape.below ((HGW.out _ (bel_then HB7.out hB10))) y.h) (by omega) (by omega)
            have q0 : ∀ x : Later W10, x.u.cell? ⟨K2 + 1, 0, none⟩ = _ := fun x => x.cell ((kq7.keep hB10).cell 0 rfl)
            have q1 : ∀ x : Later W10, x.u.cell? ⟨K2 + 1, 1, none⟩ = _ := fun x => x.cell ((kq7.keep hB10).cell 1 rfl)
            have p0 : ∀ x : Later W10, x.u.cell? ⟨(w.heap.size+1), 0, none⟩ = _ := fun x => x.cell ((kp7.keep hB10).cell 0 rfl)
            have p1 : ∀ x : Later W10, x.u.cell? ⟨(w.heap.size+1), 1, none⟩ = _ := fun x => x.cell ((kp7.keep hB10).cell 1 rfl)
            have HSY : Hid (∀ y : Later W10, Calls Try.prog 25 _ y.u (fun r w' => r = .returned (.bool true) ∧ Below y.u.heap.size y.u w')) := fun y => (msays a2 a n n cc2 c m m y.u (Shape.below hm7 (bel_then hB10 y.h)) ((HMA.out _ (bel_then HB7.out (bel_then hB10 y.h)))) (HZ.out) (HZ.out)).mono fun _ _ ⟨h1, h2⟩ => ⟨h1.is rfl, h2⟩
            have qe : (e == e) = true := by simp
            have HAX : Hid (∀ x : Later W10, Calls Try.prog 11 #[] x.u fun r w' => r = .returned (.bool true) ∧ Below x.u.heap.size x.u w') := fun y => HAW.out y.u
            have hne9 : Nonempty (Later W10) := Later.there W10
            go_wp2
            refine region_later (by kernel_rfl) (by kernel_rfl) ?_
            repeat (go_big_quiet_step (first
              | (go_at_call 15; with_reducible exact Later.call (HRF1.out _))
              | (go_at_call 15; with_reducible exact Later.call (HRF2.out _))
              | (go_at_call 14; with_reducible exact Later.call (HSA.out _))
              | (go_at_call 25; with_reducible exact Later.call (HSY.out _))
              | (go_at_call 11; with_reducible exact Later.call (HAX.out _))))
            refine wpQuiet_nil ?_
            intro x9
            obtain ⟨W11, hb9⟩ := x9
            go_wp2
            go_ret
            exact ⟨rfl, bel_then HB7.out (bel_then hB10 hb9)⟩
end Go.Proofs.Ytpfhjdlmjehfnaa
