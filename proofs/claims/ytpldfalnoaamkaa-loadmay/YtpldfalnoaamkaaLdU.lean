/- LoadMay, with letters. -/
import Derived.Test.YtpldfalnoaamkaaLdT
import Derived.Test.YtpldfalnoaamkaaLe
import Derived.Test.YtpldfalnoaamkaaPlcG
namespace Go.Proofs.Ytpldfalnoaamkaa
open Go.ChangeShapes Go.WideShapes Go.ChangeAt Go.RowKit


set_option maxRecDepth 100000 in
set_option maxHeartbeats 3000000 in
theorem lmay (G : LoadDoes) (b0 : Option Addr) (n0 c0 : Nat) (l : List Int) (e : Int) (a : Option Addr) (n c : Nat) (m : List (List Int)) (bd : Int) (w : World) (h0 : rowS.rep w everywhere [.slice b0 n0 c0] l) (h : matS.rep w everywhere [.slice a n c] m) :
    Calls Try.prog 5 #[.slice b0 n0 c0, .agg #[.int .i64 e, .slice a n c], .int .i64 bd] w fun r w' => r = .returned (.bool true) ∧ Below w.heap.size w w' := by
  obtain ⟨X, N, B, hHot⟩ := Ld.hot_there l e m bd
  obtain ⟨Y, K, D, hCold⟩ := Ld.cold_there l e m bd
  obtain ⟨E1, hE1⟩ : ∃ E1, e + 1 = E1 := ⟨_, rfl⟩
  have HE1 := hidL hE1
  clear hE1
  have HAW : Hid (∀ u, Calls Try.prog 11 #[] u fun r w' => r = .returned (.bool true) ∧ Below u.heap.size u w') := fun u => G.awake u
  have HN0 : Hid (l.length = n0) := (sliceS_len h0).1
  have hbn := new_bel w (.cells #[.int .i64 e, .slice a n c] 25)
  have kb0 := Box.new w 25 #[.int .i64 e, .slice a n c]
  have HRW : Hid (∀ u, Below w.heap.size w u → rowS.rep u everywhere [.slice b0 n0 c0] l) := fun u hu => Shape.below h0 hu
  have HMA : Hid (∀ u, Below w.heap.size w u → matS.rep u everywhere [.slice a n c] m) := fun u hu => Shape.below h hu
  have HSM : Hid (Calls _ _ _ _ _) := small a n c m everywhere _ (Shape.below h hbn)
  have HBN := hidL hbn
  have KB0 := hidL kb0
  have e0 := kb0.cell 0 rfl
  have e1 := kb0.cell 1 rfl
  clear h0 h hbn kb0
  by_cases g60 : 60 < (n0 : Int)
  · go_enter Try.func5, Try.ntmps5
    go_wp2_with fail
    refine (HAW.out _).mono ?_
    rintro r WZ ⟨rfl, hbz⟩
    go_wp2
    go_ret
    exact ⟨rfl, bel_then (HBN.out) hbz⟩
  go_enter Try.func5, Try.ntmps5
  go_wp2_with fail
  refine HSM.out.mono ?_
  rintro r W1 ⟨⟨bb, rfl, hbb⟩, h9⟩
  subst h9
  clear HSM
  cases bb with
  | false =>
    go_wp2_with fail
    refine (HAW.out _).mono ?_
    rintro r WZ ⟨rfl, hbz⟩
    go_wp2
    go_ret
    exact ⟨rfl, bel_then (HBN.out) hbz⟩
  | true =>
    have HZ := hidL (Ld.small_sized (hbb.1 rfl))
    have HSH := hidL (Pl.small_short (hbb.1 rfl))
    have hn0 : n0 ≤ 100000 := by omega
    clear hbb
    by_cases hep : 1073741824 < e
    · skip
      go_wp2_with fail
      refine (HAW.out _).mono ?_
      rintro r WZ ⟨rfl, hbz⟩
      go_wp2
      go_ret
      exact ⟨rfl, bel_then (HBN.out) hbz⟩
    have HR : Hid (∀ u, Below w.heap.size w u → Row .i64 u b0 n0 l) := fun u hu => by have h9 := Row.of_rep (HRW.out u hu); exact h9
    have HH1 : Hid (∀ u, Below w.heap.size w u → Calls _ _ _ u _) := fun u hu => G.hot b0 n0 c0 l e a n c m bd X N B u (HR.out u hu) hn0 (HMA.out u hu) HZ.out hHot
    have HH2 : Hid (∀ u, Below w.heap.size w u → Calls _ _ _ u _) := fun u hu => G.cold b0 n0 c0 l e a n c m bd Y K D u (HR.out u hu) hn0 (HMA.out u hu) HZ.out hCold
    clear HR HRW
    go_wp2_with fail
    refine (HH1.out _ HBN.out).mono ?_
    rintro r W1 ⟨rfl, hb1⟩
    have k1 := KB0.out.keep hb1
    have HB1 := hidL (bel_then HBN.out hb1)
    have d0 := k1.cell 0 rfl
    have d1 := k1.cell 1 rfl
    clear hb1 KB0 e0 e1 HH1
    go_wp2_with fail
    refine (HH2.out _ HB1.out).mono ?_
    rintro r W2 ⟨rfl, hb2⟩
    have k2 := k1.keep hb2
    have HB2 := hidL (bel_then HB1.out hb2)
    clear hb2 k1 d0 d1 HH2
    have d0 := k2.cell 0 rfl
    have d1 := k2.cell 1 rfl
    cases B with
    | false =>
      clear hHot
      cases D with
      | false =>
        go_wp2_with fail
        refine (HAW.out W2).mono ?_
        rintro r WZ ⟨rfl, hbz⟩
        go_wp2
        go_ret
        exact ⟨rfl, bel_then (HB2.out) hbz⟩
      | true =>
        have hfin := hCold.retires (by omega)
        have hright := Pl.ret_right hfin.1 hfin.2.2
        obtain ⟨hr1, hx1, hn1, he1⟩ := Pl.not_wrong hfin.1
        have hwt := Ld.weight_retired hx1 hn1 hfin.2.1.2
        have HTURN : Hid (∀ u, Below w.heap.size w u → Calls _ _ _ u _) := fun u hu => pret_any e a n c m Y K u (HMA.out u hu) HSH.out E1 0 (Pl.turn m Y K false) (.inr (.inr (.inr ⟨hfin.1, hfin.2.1, hfin.2.2, HE1.out, rfl, rfl⟩)))
        have HSZ : Hid (Ex.Sized (Pl.turn m Y K false)) := ⟨by have h9 := hright.2.1; omega, fun l hl => by have h9 := Pl.right_sized hright l hl; omega⟩
        obtain ⟨v, hv⟩ : ∃ v, Ld.weight m K = v := ⟨_, rfl⟩
        obtain ⟨v1, hv1⟩ : ∃ v1, Ld.weight (Pl.turn m Y K false) K = v1 := ⟨_, rfl⟩
        have HV := hidL hv
        have HV1 := hidL hv1
        rw [hv, hv1] at hwt
        have hle := Ld.weight_le m K
        rw [hv] at hle
        have h8 := hr1.2.1
        have hs : IntKind.i64.wrap ((v : Int) - 1) = (v1 : Int) := by rw [IntKind.wrap_i64]; omega
        have q1 : (((v1 : Nat) : Int) != ((v1 : Nat) : Int)) = false := by simp
        clear hfin hright hr1 hx1 hn1 he1 hv hv1 hwt hle h8
        go_wp2_with fail
        refine (HTURN.out W2 HB2.out).mono ?_
        rintro r W5 ⟨hb5, a5, c5, rfl, hm5⟩
        have HB5 := hidL (bel_then HB2.out hb5)
        have hq5 := new_bel W5 (.cells #[.int .i64 E1, .slice a5 n c5] 25)
        have kp6 := (k2.keep hb5).keep hq5
        have kq6 := Box.new W5 25 #[.int .i64 E1, .slice a5 n c5]
        have HB6 := hidL (bel_then HB5.out hq5)
        have hm6 := Shape.below hm5 hq5
        obtain ⟨W6, hW6⟩ : ∃ W6, W6 = W5.alloc (.cells #[.int .i64 E1, .slice a5 n c5] 25) := ⟨_, rfl⟩
        have HW6 := hidL hW6
        rw [← hW6] at kp6 kq6 HB6 hm6
        have hne9 : Nonempty (Later W6) := Later.there W6
        have d0 : ∀ x : Later W6, x.u.cell? ⟨w.heap.size, 0, none⟩ = _ := fun x => x.cell (kp6.cell 0 rfl)
        have d1 : ∀ x : Later W6, x.u.cell? ⟨w.heap.size, 1, none⟩ = _ := fun x => x.cell (kp6.cell 1 rfl)
        have d2 : ∀ x : Later W6, x.u.cell? ⟨W5.heap.size, 0, none⟩ = _ := fun x => x.cell (kq6.cell 0 rfl)
        have d3 : ∀ x : Later W6, x.u.cell? ⟨W5.heap.size, 1, none⟩ = _ := fun x => x.cell (kq6.cell 1 rfl)
        have HWQ : Hid (∀ x : Later W6, Calls Try.prog 16 #[.agg #[.int .i64 E1, .slice a5 n c5], .int .i64 K] x.u fun r w' => r = .returned (.int .i64 (v1 : Nat)) ∧ Below x.u.heap.size x.u w') := fun x => by
          have h9 := G.weight E1 a5 n c5 _ K x.u (Shape.below hm6 x.h) HSZ.out
          rw [HV1.out] at h9
          exact h9
        have HWP : Hid (∀ x : Later W6, Calls Try.prog 16 #[.agg #[.int .i64 e, .slice a n c], .int .i64 K] x.u fun r w' => r = .returned (.int .i64 (v : Nat)) ∧ Below x.u.heap.size x.u w') := fun x => by
          have h9 := G.weight e a n c m K x.u (HMA.out _ (bel_then HB6.out x.h)) HZ.out
          rw [HV.out] at h9
          exact h9
        clear hb5 hm5 hq5 hW6 hm6
        go_wp2
        rw [← HW6.out]
        refine region_later (by kernel_rfl) (by kernel_rfl) ?_
        repeat (go_big_quiet_step (first
          | (go_at_call 16; with_reducible exact Later.call (HWQ.out _))
          | (go_at_call 16; with_reducible exact Later.call (HWP.out _))))
        refine wpQuiet_nil ?_
        intro x9
        obtain ⟨W9, hb9⟩ := x9
        have kp9 := kp6.keep hb9
        have HB9 := hidL (bel_then HB6.out hb9)
        clear d0 d1 d2 d3 HWQ HWP kq6 kp6 HW6 hne9
        go_wp2_with fail
        refine (HAW.out W9).mono ?_
        rintro r WZ ⟨rfl, hbz⟩
        go_wp2
        go_ret
        exact ⟨rfl, bel_then (HB9.out) hbz⟩
    | true =>
      have hfin := hHot.adds (by omega)
      have hright := Pl.add_right hfin.1
      obtain ⟨hr1, hx1, hn1, he1⟩ := Pl.not_wrong hfin.1
      have hwt := Ld.weight_added hx1 hn1 (fun k => hfin.2 ⟨hx1, k⟩)
      have HTURN : Hid (∀ u, Below w.heap.size w u → Calls _ _ _ u _) := fun u hu => padd_any e a n c m X N u (HMA.out u hu) HSH.out E1 0 (Pl.turn m X N true) (.inr (.inr ⟨hfin.1, hfin.2, HE1.out, rfl, rfl⟩))
      have HSZ : Hid (Ex.Sized (Pl.turn m X N true)) := ⟨by have h9 := hright.2.1; omega, fun l hl => by have h9 := Pl.right_sized hright l hl; omega⟩
      obtain ⟨v, hv⟩ : ∃ v, Ld.weight m N = v := ⟨_, rfl⟩
      obtain ⟨v1, hv1⟩ : ∃ v1, Ld.weight (Pl.turn m X N true) N = v1 := ⟨_, rfl⟩
      have HV := hidL hv
      have HV1 := hidL hv1
      rw [hv, hv1] at hwt
      have hle := Ld.weight_le m N
      rw [hv] at hle
      have h8 := hr1.2.1
      have hs : IntKind.i64.wrap ((v : Int) + 1) = (v1 : Int) := by rw [IntKind.wrap_i64]; omega
      have q1 : (((v1 : Nat) : Int) != ((v1 : Nat) : Int)) = false := by simp
      clear hfin hright hr1 hx1 hn1 he1 hv hv1 hwt hle h8 hHot
      go_wp2_with fail
      refine (HTURN.out W2 HB2.out).mono ?_
      rintro r W5 ⟨hb5, a5, c5, rfl, hm5⟩
      have HB5 := hidL (bel_then HB2.out hb5)
      have hq5 := new_bel W5 (.cells #[.int .i64 E1, .slice a5 n c5] 25)
      have kp6 := (k2.keep hb5).keep hq5
      have kq6 := Box.new W5 25 #[.int .i64 E1, .slice a5 n c5]
      have HB6 := hidL (bel_then HB5.out hq5)
      have hm6 := Shape.below hm5 hq5
      obtain ⟨W6, hW6⟩ : ∃ W6, W6 = W5.alloc (.cells #[.int .i64 E1, .slice a5 n c5] 25) := ⟨_, rfl⟩
      have HW6 := hidL hW6
      rw [← hW6] at kp6 kq6 HB6 hm6
      have hne9 : Nonempty (Later W6) := Later.there W6
      have d0 : ∀ x : Later W6, x.u.cell? ⟨w.heap.size, 0, none⟩ = _ := fun x => x.cell (kp6.cell 0 rfl)
      have d1 : ∀ x : Later W6, x.u.cell? ⟨w.heap.size, 1, none⟩ = _ := fun x => x.cell (kp6.cell 1 rfl)
      have d2 : ∀ x : Later W6, x.u.cell? ⟨W5.heap.size, 0, none⟩ = _ := fun x => x.cell (kq6.cell 0 rfl)
      have d3 : ∀ x : Later W6, x.u.cell? ⟨W5.heap.size, 1, none⟩ = _ := fun x => x.cell (kq6.cell 1 rfl)
      have HWQ : Hid (∀ x : Later W6, Calls Try.prog 16 #[.agg #[.int .i64 E1, .slice a5 n c5], .int .i64 N] x.u fun r w' => r = .returned (.int .i64 (v1 : Nat)) ∧ Below x.u.heap.size x.u w') := fun x => by
        have h9 := G.weight E1 a5 n c5 _ N x.u (Shape.below hm6 x.h) HSZ.out
        rw [HV1.out] at h9
        exact h9
      have HWP : Hid (∀ x : Later W6, Calls Try.prog 16 #[.agg #[.int .i64 e, .slice a n c], .int .i64 N] x.u fun r w' => r = .returned (.int .i64 (v : Nat)) ∧ Below x.u.heap.size x.u w') := fun x => by
        have h9 := G.weight e a n c m N x.u (HMA.out _ (bel_then HB6.out x.h)) HZ.out
        rw [HV.out] at h9
        exact h9
      clear hb5 hm5 hq5 hW6 hm6
      go_wp2
      rw [← HW6.out]
      refine region_later (by kernel_rfl) (by kernel_rfl) ?_
      repeat (go_big_quiet_step (first
        | (go_at_call 16; with_reducible exact Later.call (HWQ.out _))
        | (go_at_call 16; with_reducible exact Later.call (HWP.out _))))
      refine wpQuiet_nil ?_
      intro x9
      obtain ⟨W9, hb9⟩ := x9
      have kp9 := kp6.keep hb9
      have HB9 := hidL (bel_then HB6.out hb9)
      clear d0 d1 d2 d3 HWQ HWP kq6 kp6 HW6 hne9
      clear HV HV1 HSZ HTURN hs
      have d0 := kp9.cell 0 rfl
      have d1 := kp9.cell 1 rfl
      cases D with
      | false =>
        go_wp2_with fail
        refine (HAW.out W9).mono ?_
        rintro r WZ ⟨rfl, hbz⟩
        go_wp2
        go_ret
        exact ⟨rfl, bel_then (HB9.out) hbz⟩
      | true =>
        have hfin := hCold.retires (by omega)
        have hright := Pl.ret_right hfin.1 hfin.2.2
        obtain ⟨hr1, hx1, hn1, he1⟩ := Pl.not_wrong hfin.1
        have hwt := Ld.weight_retired hx1 hn1 hfin.2.1.2
        have HTURN : Hid (∀ u, Below w.heap.size w u → Calls _ _ _ u _) := fun u hu => pret_any e a n c m Y K u (HMA.out u hu) HSH.out E1 0 (Pl.turn m Y K false) (.inr (.inr (.inr ⟨hfin.1, hfin.2.1, hfin.2.2, HE1.out, rfl, rfl⟩)))
        have HSZ : Hid (Ex.Sized (Pl.turn m Y K false)) := ⟨by have h9 := hright.2.1; omega, fun l hl => by have h9 := Pl.right_sized hright l hl; omega⟩
        obtain ⟨v, hv⟩ : ∃ v, Ld.weight m K = v := ⟨_, rfl⟩
        obtain ⟨v1, hv1⟩ : ∃ v1, Ld.weight (Pl.turn m Y K false) K = v1 := ⟨_, rfl⟩
        have HV := hidL hv
        have HV1 := hidL hv1
        rw [hv, hv1] at hwt
        have hle := Ld.weight_le m K
        rw [hv] at hle
        have h8 := hr1.2.1
        have hs : IntKind.i64.wrap ((v : Int) - 1) = (v1 : Int) := by rw [IntKind.wrap_i64]; omega
        have q1 : (((v1 : Nat) : Int) != ((v1 : Nat) : Int)) = false := by simp
        clear hfin hright hr1 hx1 hn1 he1 hv hv1 hwt hle h8
        go_wp2_with fail
        refine (HTURN.out W9 HB9.out).mono ?_
        rintro r W5 ⟨hb5, a5, c5, rfl, hm5⟩
        have HB5 := hidL (bel_then HB9.out hb5)
        have hq5 := new_bel W5 (.cells #[.int .i64 E1, .slice a5 n c5] 25)
        have kp6 := (kp9.keep hb5).keep hq5
        have kq6 := Box.new W5 25 #[.int .i64 E1, .slice a5 n c5]
        have HB6 := hidL (bel_then HB5.out hq5)
        have hm6 := Shape.below hm5 hq5
        obtain ⟨W6, hW6⟩ : ∃ W6, W6 = W5.alloc (.cells #[.int .i64 E1, .slice a5 n c5] 25) := ⟨_, rfl⟩
        have HW6 := hidL hW6
        rw [← hW6] at kp6 kq6 HB6 hm6
        have hne9 : Nonempty (Later W6) := Later.there W6
        have d0 : ∀ x : Later W6, x.u.cell? ⟨w.heap.size, 0, none⟩ = _ := fun x => x.cell (kp6.cell 0 rfl)
        have d1 : ∀ x : Later W6, x.u.cell? ⟨w.heap.size, 1, none⟩ = _ := fun x => x.cell (kp6.cell 1 rfl)
        have d2 : ∀ x : Later W6, x.u.cell? ⟨W5.heap.size, 0, none⟩ = _ := fun x => x.cell (kq6.cell 0 rfl)
        have d3 : ∀ x : Later W6, x.u.cell? ⟨W5.heap.size, 1, none⟩ = _ := fun x => x.cell (kq6.cell 1 rfl)
        have HWQ : Hid (∀ x : Later W6, Calls Try.prog 16 #[.agg #[.int .i64 E1, .slice a5 n c5], .int .i64 K] x.u fun r w' => r = .returned (.int .i64 (v1 : Nat)) ∧ Below x.u.heap.size x.u w') := fun x => by
          have h9 := G.weight E1 a5 n c5 _ K x.u (Shape.below hm6 x.h) HSZ.out
          rw [HV1.out] at h9
          exact h9
        have HWP : Hid (∀ x : Later W6, Calls Try.prog 16 #[.agg #[.int .i64 e, .slice a n c], .int .i64 K] x.u fun r w' => r = .returned (.int .i64 (v : Nat)) ∧ Below x.u.heap.size x.u w') := fun x => by
          have h9 := G.weight e a n c m K x.u (HMA.out _ (bel_then HB6.out x.h)) HZ.out
          rw [HV.out] at h9
          exact h9
        clear hb5 hm5 hq5 hW6 hm6
        go_wp2
        rw [← HW6.out]
        refine region_later (by kernel_rfl) (by kernel_rfl) ?_
        repeat (go_big_quiet_step (first
          | (go_at_call 16; with_reducible exact Later.call (HWQ.out _))
          | (go_at_call 16; with_reducible exact Later.call (HWP.out _))))
        refine wpQuiet_nil ?_
        intro x9
        obtain ⟨W9, hb9⟩ := x9
        have kp9 := kp6.keep hb9
        have HB9 := hidL (bel_then HB6.out hb9)
        clear d0 d1 d2 d3 HWQ HWP kq6 kp6 HW6 hne9
        go_wp2_with fail
        refine (HAW.out W9).mono ?_
        rintro r WZ ⟨rfl, hbz⟩
        go_wp2
        go_ret
        exact ⟨rfl, bel_then (HB9.out) hbz⟩

end Go.Proofs.Ytpldfalnoaamkaa
