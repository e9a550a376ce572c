/- MovePieces, with letters. -/
import Derived.Test.YtpfhjdlmjehfnaaMvI
import Derived.Test.YtpfhjdlmjehfnaaMvC
import Derived.Test.YtpfhjdlmjehfnaaMvG
namespace Go.Proofs.Ytpfhjdlmjehfnaa
open Go.ChangeShapes Go.WideShapes Go.ChangeAt Go.RowKit



set_option maxRecDepth 100000 in
set_option maxHeartbeats 4000000 in
theorem lpieces (AW : ∀ u, Calls Try.prog 11 #[] u fun r w' => r = .returned (.bool true) ∧ Below u.heap.size u w') (x f t p s : Int) (ha : Option Addr) (hn hc : Nat) (ga : Option Addr) (gn gc : Nat) (H : List Bool) (G : List ByteArray) (i : Int) (z : ByteArray) (w : World) (hH : bitsS.rep w everywhere [.slice ha hn hc] H) (hG : bagS.rep w everywhere [.slice ga gn gc] G) (hzl : z.size ≤ maxLen) :
    Calls Try.prog 4 #[.agg #[.int .i64 x, .int .i64 f, .int .i64 t, .int .i64 p, .int .i64 s, .slice ha hn hc, .slice ga gn gc], .int .i64 i, .string z] w fun r w' => r = .returned (.bool true) ∧ Below w.heap.size w w' := by
  have HAW := hidL AW
  have hm63 : z.size ≤ 9223372036854775807 := hzl
  have hbn := new_bel w (.cells #[.int .i64 x, .int .i64 f, .int .i64 t, .int .i64 p, .int .i64 s, .slice ha hn hc, .slice ga gn gc] 30)
  have kb0 := Box.new w 30 #[.int .i64 x, .int .i64 f, .int .i64 t, .int .i64 p, .int .i64 s, .slice ha hn hc, .slice ga gn gc]
  have HHW : Hid (∀ u, Below w.heap.size w u → bitsS.rep u everywhere [.slice ha hn hc] H) := fun u hu => Shape.below hH hu
  have HGW : Hid (∀ u, Below w.heap.size w u → bagS.rep u everywhere [.slice ga gn gc] G) := fun u hu => Shape.below hG hu
  have HSM : Hid (Calls _ _ _ _ _) := msmall x f t p s ha hn hc ga gn gc H G _ (Shape.below hH hbn) (Shape.below hG hbn)
  have HBN := hidL hbn
  have HLH : Hid (H.length = hn) := (sliceS_len hH).1
  have HLG : Hid (G.length = gn) := (sliceS_len hG).1
  clear hH hG hbn AW
  go_enter Try.func4, Try.ntmps4
  go_upto_region 1 with fail
  generalize w.alloc (.cells #[.int .i64 x, .int .i64 f, .int .i64 t, .int .i64 p, .int .i64 s, .slice ha hn hc, .slice ga gn gc] 30) = W at *
  have c0 := kb0.cell 0 rfl; have c1 := kb0.cell 1 rfl; have c2 := kb0.cell 2 rfl; have c3 := kb0.cell 3 rfl; have c4 := kb0.cell 4 rfl; have c5 := kb0.cell 5 rfl; have c6 := kb0.cell 6 rfl
  by_cases h3 : 100 < z.size
  · have h3i : (100 : Int) < (z.size : Int) := by omega
    go_wp2_with fail
    refine HSM.out.mono ?_
    rintro r u1 ⟨⟨b, rfl, hf⟩, hb1⟩
    have HB1 := hidL (bel_then HBN.out hb1)
    clear hf HSM hb1
    cases b
    all_goals
      go_wp2_with (go_at_call 11; refine (HAW.out _).mono ?_; rintro r WZ ⟨rfl, hbz⟩)
      go_ret
      exact ⟨rfl, bel_then (HB1.out) hbz⟩
  have h3i : ¬ (100 : Int) < (z.size : Int) := by omega
  go_wp2_with fail
  refine HSM.out.mono ?_
  rintro r u1 ⟨⟨b, rfl, hf⟩, hb1⟩
  have HB1 := hidL (bel_then HBN.out hb1)
  have kb1 := kb0.keep hb1
  clear HSM hb1 c0 c1 c2 c3 c4 c5 c6 kb0
  cases b with
  | false =>
    clear hf
    go_wp2_with (go_at_call 11; refine (HAW.out _).mono ?_; rintro r WZ ⟨rfl, hbz⟩)
    go_ret
    exact ⟨rfl, bel_then (HB1.out) hbz⟩
  | true =>
    have HS : Hid (Mq.Short H G) := (hf rfl).short
    have hn1 : hn ≤ 100000 := by have := HS.out.1; rw [HLH.out] at this; omega
    have gn1 : gn ≤ 1000 := by have := HS.out.2.1; rw [HLG.out] at this; omega
    have hal := hidL HS.out.all
    obtain ⟨P, K9, J, E, hP⟩ := Mq.piece_there p s H G i z
    have HP := hidL hP
    obtain ⟨S, B, hT⟩ := Mq.text_there p G
    have HT := hidL hT
    have HC1 : Hid (Calls _ _ _ _ _) := mpiece x f t p s ha hn hc ga gn gc H G i z P E K9 J u1 (HHW.out _ HB1.out) (HGW.out _ HB1.out) HS.out (by omega) hP
    have c0 := kb1.cell 0 rfl; have c1 := kb1.cell 1 rfl; have c2 := kb1.cell 2 rfl; have c3 := kb1.cell 3 rfl; have c4 := kb1.cell 4 rfl; have c5 := kb1.cell 5 rfl; have c6 := kb1.cell 6 rfl
    clear hf hP hT
    go_wp2_with fail
    refine HC1.out.mono ?_
    rintro r u2 ⟨hb2, ha2, hc2, ga2, gc2, rfl, hH2, hG2⟩
    have hbn := new_bel u2 (.cells #[.int .i64 x, .int .i64 f, .int .i64 t, .int .i64 P, .int .i64 s, .slice ha2 hn hc2, .slice ga2 gn gc2] 30)
    have kb2 := (kb1.keep hb2).keep hbn
    have km2 := Box.new u2 30 #[.int .i64 x, .int .i64 f, .int .i64 t, .int .i64 P, .int .i64 s, .slice ha2 hn hc2, .slice ga2 gn gc2]
    have HB2 := hidL (bel_then (bel_then HB1.out hb2) hbn)
    have hH3 := Shape.any (Shape.below hH2 hbn)
    have hG3 := Shape.any (Shape.below hG2 hbn)
    clear hH2 hG2 hb2 hbn kb1 c0 c1 c2 c3 c4 c5 c6 HC1
    have c0 := kb2.cell 0 rfl; have c1 := kb2.cell 1 rfl; have c2 := kb2.cell 2 rfl; have c3 := kb2.cell 3 rfl; have c4 := kb2.cell 4 rfl; have c5 := kb2.cell 5 rfl; have c6 := kb2.cell 6 rfl
    go_wp2_with fail
    generalize u2.alloc (.cells #[.int .i64 x, .int .i64 f, .int .i64 t, .int .i64 P, .int .i64 s, .slice ha2 hn hc2, .slice ga2 gn gc2] 30) = W2 at *
    generalize u2.heap.size = B1 at *
    refine (mref x f t p s ha hn hc ga gn gc W2).mono ?_
    rintro r u3 ⟨rfl, hb3⟩
    have HB3 := hidL (bel_then HB2.out hb3)
    have HC3 : Hid (Calls _ _ _ _ _) := rpiece x f t p s ha hn hc ga gn gc H G i z P E K9 J u3 (HHW.out _ HB3.out) (HGW.out _ HB3.out) HS.out (by omega) HP.out
    go_wp2_with fail
    refine HC3.out.mono ?_
    rintro r u4 ⟨hb4, ia, ic, ja, jc, rfl, iH, iG⟩
    have hbn := new_bel u4 (.cells #[.int .i64 x, .int .i64 f, .int .i64 t, .int .i64 P, .int .i64 s, .slice ia hn ic, .slice ja gn jc] 34)
    have hb34 := bel_then (bel_then hb3 hb4) hbn
    have kb4 := kb2.keep hb34
    have km4 := km2.keep hb34
    have kn4 := Box.new u4 34 #[.int .i64 x, .int .i64 f, .int .i64 t, .int .i64 P, .int .i64 s, .slice ia hn ic, .slice ja gn jc]
    have HB4 := hidL (bel_then HB2.out hb34)
    have hH4 := Shape.below hH3 hb34
    have hG4 := Shape.below hG3 hb34
    have iH4 := Shape.below iH hbn
    have iG4 := Shape.below iG hbn
    clear hH3 hG3 iH iG hb3 hb4 hbn hb34 kb2 km2 c0 c1 c2 c3 c4 c5 c6 HC3 HB3
    have c0 := kb4.cell 0 rfl; have c1 := kb4.cell 1 rfl; have c2 := kb4.cell 2 rfl; have c3 := kb4.cell 3 rfl; have c4 := kb4.cell 4 rfl; have c5 := kb4.cell 5 rfl; have c6 := kb4.cell 6 rfl
    go_wp2_with fail
    generalize u4.alloc (.cells #[.int .i64 x, .int .i64 f, .int .i64 t, .int .i64 P, .int .i64 s, .slice ia hn ic, .slice ja gn jc] 34) = W4 at *
    generalize u4.heap.size = B2 at *
    refine (mtext x f t p s ha hn hc ga gn gc H G S B W4 (HHW.out _ HB4.out) (HGW.out _ HB4.out) gn1 hal.out HT.out).mono ?_
    rintro r u5 ⟨rfl, hb5⟩
    have kb5 := kb4.keep hb5
    have HGU := hidL (HGW.out _ (bel_then HB4.out hb5))
    clear kb4 c0 c1 c2 c3 c4 c5 c6
    have c3 := kb5.cell 3 rfl
    have c6 := kb5.cell 6 rfl
    clear kb5
    rcases HT.out with ⟨hp2 | hp2, hS, hB⟩ | ⟨hp2, hS, hB⟩
    · subst hp2
      subst hB
      have HJ : Hid (Calls _ _ _ _ _) := rjoin ga gn gc G S u5 HGU.out hal.out gn1 hS
      clear hS HT
      go_wp2_with fail
      refine HJ.out.mono ?_
      rintro r u6 ⟨rfl, hb6⟩
      have hb7 := bel_then hb5 hb6
      have km7 := km4.keep hb7
      have kn7 := kn4.keep hb7
      have HB7 := hidL (bel_then HB4.out hb7)
      have hH7 := Shape.below hH4 hb7
      have hG7 := Shape.below hG4 hb7
      have iH7 := Shape.below iH4 hb7
      have iG7 := Shape.below iG4 hb7
      have hne9 : Nonempty (Later u6) := Later.there u6
      have d0 : ∀ x : Later u6, x.u.cell? ⟨B1, 0, none⟩ = _ := fun x => x.cell (km7.cell 0 rfl)
      have d1 : ∀ x : Later u6, x.u.cell? ⟨B1, 1, none⟩ = _ := fun x => x.cell (km7.cell 1 rfl)
      have d2 : ∀ x : Later u6, x.u.cell? ⟨B1, 2, none⟩ = _ := fun x => x.cell (km7.cell 2 rfl)
      have d3 : ∀ x : Later u6, x.u.cell? ⟨B1, 3, none⟩ = _ := fun x => x.cell (km7.cell 3 rfl)
      have d4 : ∀ x : Later u6, x.u.cell? ⟨B1, 4, none⟩ = _ := fun x => x.cell (km7.cell 4 rfl)
      have d5 : ∀ x : Later u6, x.u.cell? ⟨B1, 5, none⟩ = _ := fun x => x.cell (km7.cell 5 rfl)
      have d6 : ∀ x : Later u6, x.u.cell? ⟨B1, 6, none⟩ = _ := fun x => x.cell (km7.cell 6 rfl)
      have e0 : ∀ x : Later u6, x.u.cell? ⟨B2, 0, none⟩ = _ := fun x => x.cell (kn7.cell 0 rfl)
      have e1 : ∀ x : Later u6, x.u.cell? ⟨B2, 1, none⟩ = _ := fun x => x.cell (kn7.cell 1 rfl)
      have e2 : ∀ x : Later u6, x.u.cell? ⟨B2, 2, none⟩ = _ := fun x => x.cell (kn7.cell 2 rfl)
      have e3 : ∀ x : Later u6, x.u.cell? ⟨B2, 3, none⟩ = _ := fun x => x.cell (kn7.cell 3 rfl)
      have e4 : ∀ x : Later u6, x.u.cell? ⟨B2, 4, none⟩ = _ := fun x => x.cell (kn7.cell 4 rfl)
      have e5 : ∀ x : Later u6, x.u.cell? ⟨B2, 5, none⟩ = _ := fun x => x.cell (kn7.cell 5 rfl)
      have e6 : ∀ x : Later u6, x.u.cell? ⟨B2, 6, none⟩ = _ := fun x => x.cell (kn7.cell 6 rfl)
      have HRF : Hid (∀ x : Later u6, Calls Try.prog 15 _ x.u _) := fun y => mref x f t P s ha2 hn hc2 ga2 gn gc2 y.u
      have HSA : Hid (∀ x : Later u6, Calls Try.prog 14 _ x.u _) := fun y => msame x f t P s ha2 hn hc2 ga2 gn gc2 K9 J ia ic ja jc y.u (Shape.below hH7 y.h) (Shape.below hG7 y.h) (Shape.below iH7 y.h) (Shape.below iG7 y.h) (by omega) (by omega)
      have HAX : Hid (∀ x : Later u6, Calls Try.prog 11 #[] x.u fun r w' => r = .returned (.bool true) ∧ Below x.u.heap.size x.u w') := fun y => HAW.out y.u
      have qe : (E == E) = true := by simp
      clear km4 kn4 km7 kn7 hH4 hG4 iH4 iG4 hH7 hG7 iH7 iG7 hb5 hb7
      go_wp2
      refine region_later (by kernel_rfl) (by kernel_rfl) ?_
      repeat (go_big_quiet_step (first
        | (go_at_call 15; with_reducible exact Later.call (HRF.out _))
        | (go_at_call 14; with_reducible exact Later.call (HSA.out _))
        | (go_at_call 11; with_reducible exact Later.call (HAX.out _))))
      refine wpQuiet_nil ?_
      intro x9
      obtain ⟨W9, hb9⟩ := x9
      go_wp2
      go_ret
      exact ⟨rfl, bel_then HB7.out hb9⟩
    · subst hp2
      subst hB
      have HJ : Hid (Calls _ _ _ _ _) := rjoin ga gn gc G S u5 HGU.out hal.out gn1 hS
      clear hS HT
      go_wp2_with fail
      refine HJ.out.mono ?_
      rintro r u6 ⟨rfl, hb6⟩
      have hb7 := bel_then hb5 hb6
      have km7 := km4.keep hb7
      have kn7 := kn4.keep hb7
      have HB7 := hidL (bel_then HB4.out hb7)
      have hH7 := Shape.below hH4 hb7
      have hG7 := Shape.below hG4 hb7
      have iH7 := Shape.below iH4 hb7
      have iG7 := Shape.below iG4 hb7
      have hne9 : Nonempty (Later u6) := Later.there u6
      have d0 : ∀ x : Later u6, x.u.cell? ⟨B1, 0, none⟩ = _ := fun x => x.cell (km7.cell 0 rfl)
      have d1 : ∀ x : Later u6, x.u.cell? ⟨B1, 1, none⟩ = _ := fun x => x.cell (km7.cell 1 rfl)
      have d2 : ∀ x : Later u6, x.u.cell? ⟨B1, 2, none⟩ = _ := fun x => x.cell (km7.cell 2 rfl)
      have d3 : ∀ x : Later u6, x.u.cell? ⟨B1, 3, none⟩ = _ := fun x => x.cell (km7.cell 3 rfl)
      have d4 : ∀ x : Later u6, x.u.cell? ⟨B1, 4, none⟩ = _ := fun x => x.cell (km7.cell 4 rfl)
      have d5 : ∀ x : Later u6, x.u.cell? ⟨B1, 5, none⟩ = _ := fun x => x.cell (km7.cell 5 rfl)
      have d6 : ∀ x : Later u6, x.u.cell? ⟨B1, 6, none⟩ = _ := fun x => x.cell (km7.cell 6 rfl)
      have e0 : ∀ x : Later u6, x.u.cell? ⟨B2, 0, none⟩ = _ := fun x => x.cell (kn7.cell 0 rfl)
      have e1 : ∀ x : Later u6, x.u.cell? ⟨B2, 1, none⟩ = _ := fun x => x.cell (kn7.cell 1 rfl)
      have e2 : ∀ x : Later u6, x.u.cell? ⟨B2, 2, none⟩ = _ := fun x => x.cell (kn7.cell 2 rfl)
      have e3 : ∀ x : Later u6, x.u.cell? ⟨B2, 3, none⟩ = _ := fun x => x.cell (kn7.cell 3 rfl)
      have e4 : ∀ x : Later u6, x.u.cell? ⟨B2, 4, none⟩ = _ := fun x => x.cell (kn7.cell 4 rfl)
      have e5 : ∀ x : Later u6, x.u.cell? ⟨B2, 5, none⟩ = _ := fun x => x.cell (kn7.cell 5 rfl)
      have e6 : ∀ x : Later u6, x.u.cell? ⟨B2, 6, none⟩ = _ := fun x => x.cell (kn7.cell 6 rfl)
      have HRF : Hid (∀ x : Later u6, Calls Try.prog 15 _ x.u _) := fun y => mref x f t P s ha2 hn hc2 ga2 gn gc2 y.u
      have HSA : Hid (∀ x : Later u6, Calls Try.prog 14 _ x.u _) := fun y => msame x f t P s ha2 hn hc2 ga2 gn gc2 K9 J ia ic ja jc y.u (Shape.below hH7 y.h) (Shape.below hG7 y.h) (Shape.below iH7 y.h) (Shape.below iG7 y.h) (by omega) (by omega)
      have HAX : Hid (∀ x : Later u6, Calls Try.prog 11 #[] x.u fun r w' => r = .returned (.bool true) ∧ Below x.u.heap.size x.u w') := fun y => HAW.out y.u
      have qe : (E == E) = true := by simp
      clear km4 kn4 km7 kn7 hH4 hG4 iH4 iG4 hH7 hG7 iH7 iG7 hb5 hb7
      go_wp2
      refine region_later (by kernel_rfl) (by kernel_rfl) ?_
      repeat (go_big_quiet_step (first
        | (go_at_call 15; with_reducible exact Later.call (HRF.out _))
        | (go_at_call 14; with_reducible exact Later.call (HSA.out _))
        | (go_at_call 11; with_reducible exact Later.call (HAX.out _))))
      refine wpQuiet_nil ?_
      intro x9
      obtain ⟨W9, hb9⟩ := x9
      go_wp2
      go_ret
      exact ⟨rfl, bel_then HB7.out hb9⟩
    · subst hB
      subst hS
      have q2 : (p == 2) = false := by rw [beq_eq_false_iff_ne]; exact fun h => hp2 (.inl h)
      have q3 : (p == 3) = false := by rw [beq_eq_false_iff_ne]; exact fun h => hp2 (.inr h)
      clear hp2 HT
      have hb7 := bel_then hb5 (Below.refl _ _)
      have km7 := km4.keep hb7
      have kn7 := kn4.keep hb7
      have HB7 := hidL (bel_then HB4.out hb7)
      have hH7 := Shape.below hH4 hb7
      have hG7 := Shape.below hG4 hb7
      have iH7 := Shape.below iH4 hb7
      have iG7 := Shape.below iG4 hb7
      have hne9 : Nonempty (Later u5) := Later.there u5
      have d0 : ∀ x : Later u5, x.u.cell? ⟨B1, 0, none⟩ = _ := fun x => x.cell (km7.cell 0 rfl)
      have d1 : ∀ x : Later u5, x.u.cell? ⟨B1, 1, none⟩ = _ := fun x => x.cell (km7.cell 1 rfl)
      have d2 : ∀ x : Later u5, x.u.cell? ⟨B1, 2, none⟩ = _ := fun x => x.cell (km7.cell 2 rfl)
      have d3 : ∀ x : Later u5, x.u.cell? ⟨B1, 3, none⟩ = _ := fun x => x.cell (km7.cell 3 rfl)
      have d4 : ∀ x : Later u5, x.u.cell? ⟨B1, 4, none⟩ = _ := fun x => x.cell (km7.cell 4 rfl)
      have d5 : ∀ x : Later u5, x.u.cell? ⟨B1, 5, none⟩ = _ := fun x => x.cell (km7.cell 5 rfl)
      have d6 : ∀ x : Later u5, x.u.cell? ⟨B1, 6, none⟩ = _ := fun x => x.cell (km7.cell 6 rfl)
      have e0 : ∀ x : Later u5, x.u.cell? ⟨B2, 0, none⟩ = _ := fun x => x.cell (kn7.cell 0 rfl)
      have e1 : ∀ x : Later u5, x.u.cell? ⟨B2, 1, none⟩ = _ := fun x => x.cell (kn7.cell 1 rfl)
      have e2 : ∀ x : Later u5, x.u.cell? ⟨B2, 2, none⟩ = _ := fun x => x.cell (kn7.cell 2 rfl)
      have e3 : ∀ x : Later u5, x.u.cell? ⟨B2, 3, none⟩ = _ := fun x => x.cell (kn7.cell 3 rfl)
      have e4 : ∀ x : Later u5, x.u.cell? ⟨B2, 4, none⟩ = _ := fun x => x.cell (kn7.cell 4 rfl)
      have e5 : ∀ x : Later u5, x.u.cell? ⟨B2, 5, none⟩ = _ := fun x => x.cell (kn7.cell 5 rfl)
      have e6 : ∀ x : Later u5, x.u.cell? ⟨B2, 6, none⟩ = _ := fun x => x.cell (kn7.cell 6 rfl)
      have HRF : Hid (∀ x : Later u5, Calls Try.prog 15 _ x.u _) := fun y => mref x f t P s ha2 hn hc2 ga2 gn gc2 y.u
      have HSA : Hid (∀ x : Later u5, Calls Try.prog 14 _ x.u _) := fun y => msame x f t P s ha2 hn hc2 ga2 gn gc2 K9 J ia ic ja jc y.u (Shape.below hH7 y.h) (Shape.below hG7 y.h) (Shape.below iH7 y.h) (Shape.below iG7 y.h) (by omega) (by omega)
      have HAX : Hid (∀ x : Later u5, Calls Try.prog 11 #[] x.u fun r w' => r = .returned (.bool true) ∧ Below x.u.heap.size x.u w') := fun y => HAW.out y.u
      have qe : (E == E) = true := by simp
      clear km4 kn4 km7 kn7 hH4 hG4 iH4 iG4 hH7 hG7 iH7 iG7 hb5 hb7
      go_wp2
      refine region_later (by kernel_rfl) (by kernel_rfl) ?_
      repeat (go_big_quiet_step (first
        | (go_at_call 15; with_reducible exact Later.call (HRF.out _))
        | (go_at_call 14; with_reducible exact Later.call (HSA.out _))
        | (go_at_call 11; with_reducible exact Later.call (HAX.out _))))
      refine wpQuiet_nil ?_
      intro x9
      obtain ⟨W9, hb9⟩ := x9
      go_wp2
      go_ret
      exact ⟨rfl, bel_then HB7.out hb9⟩

end Go.Proofs.Ytpfhjdlmjehfnaa
