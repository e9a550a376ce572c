/- For every link, text and number switchboardlaw10.LinkExact returns true: what is pushed on a link, and told of, is what the document says, or refused. -/
import Derived.Test.YtfdbnongpkiibaaRows
import Derived.Test.YtfdbnongpkiibaaLinkH
import Derived.WalkKit
import Derived.ProofKit
import Derived.OpenShut
import Derived.ShutString
import Derived.ChangeOld
import Derived.Below
namespace Go.Proofs.Ytfdbnongpkiibaa.linkExact
open Go.ChangeShapes Go.WideShapes Go.ChangeAt Go.RowKit
open Go.ChangeMaps (open_string shut_string)
set_option linter.unusedVariables false

theorem own : ownKnob Try.prog.godebug = none := by kernel_rfl
theorem laidOut : laidOutB Try.prog = true := by kernel_rfl

/- The walk: the call returns true, and nothing that was there is written. -/
set_option maxHeartbeats 4000000 in
set_option maxRecDepth 100000 in
theorem walk (a0_0 : Int) (a0_1 : Option Addr) (len0_1 cap0_1 : Nat) (m0_1 : List (Int × ByteArray × Unit)) (a1 : ByteArray) (a2 : Int) (w : World) (w0_0 : (Lit.int .i64 a0_0).wf = true) (w0_1 : (sliceS (consS (intS .i64) (consS strS noneS))).rep w everywhere [.slice a0_1 len0_1 cap0_1] m0_1) (f0_1 : (∀ x0 ∈ m0_1, ((Lit.int .i64 x0.1).wf = true ∧ (ByteArray.size x0.2.1 ≤ maxLen ∧ True)))) (w1 : a1.size ≤ maxLen) (w2 : (Lit.int .i64 a2).wf = true) :
    Calls Try.prog 3 #[.agg #[.int .i64 a0_0, .slice a0_1 len0_1 cap0_1], .string a1, .int .i64 a2] w fun e w' => e = .returned (.bool true) ∧ Below w.heap.size w w' := by
  clear f0_1 w0_0
  have hA := Shape.low (show frsS.rep w everywhere [.slice a0_1 len0_1 cap0_1] m0_1 from w0_1)
  have hl := (sliceS_len w0_1).1
  clear w0_1 w1 w2
  have q1 := Box.new w 24 #[.int .i64 a0_0, .slice a0_1 len0_1 cap0_1]
  have hB1 := new_bel w (.cells #[.int .i64 a0_0, .slice a0_1 len0_1 cap0_1] 24)
  have hr1 := Shape.any (Shape.now hA hB1)
  have HL : Hid (m0_1.length = len0_1) := hl
  clear hl
  by_cases hS : Lx.Short m0_1
  case neg =>
    have HS : Hid (¬ Lx.Short m0_1) := hS
    clear hS
    go_enter Try.func3, Try.ntmps3
    go_wp2_with fail
    refine (lref_no a0_0 a0_1 len0_1 cap0_1 m0_1 _ hr1 HS.out).mono ?_
    rintro e u1 ⟨hb1, ax, nx, cx, rfl⟩
    have hB2 := bel_alloc (bel_then hB1 hb1) (.cells #[.int .i64 a0_0, .slice ax nx cx] 27)
    clear q1 hb1 hB1 hr1
    go_wp2_with (go_at_call 9; refine (lawake _).mono ?_; rintro e u6 ⟨rfl, hb6⟩)
    go_ret
    exact ⟨rfl, bel_then hB2 hb6⟩
  by_cases ht : 100 < a1.size
  · have hti : (100 : Int) < (a1.size : Int) := by omega
    have HS : Hid (Lx.Short m0_1) := hS
    clear hS
    go_enter Try.func3, Try.ntmps3
    go_wp2_with fail
    refine (lref_yes a0_0 a0_1 len0_1 cap0_1 m0_1 _ hr1 HS.out).mono ?_
    rintro e u1 ⟨hb1, ax, cx, rfl, hox⟩
    have hB2 := bel_alloc (bel_then hB1 hb1) (.cells #[.int .i64 a0_0, .slice ax len0_1 cx] 27)
    clear q1 hb1 hB1 hr1 hox
    go_wp2_with (go_at_call 9; refine (lawake _).mono ?_; rintro e u6 ⟨rfl, hb6⟩)
    go_ret
    exact ⟨rfl, bel_then hB2 hb6⟩
  have hti : ¬ (100 : Int) < (a1.size : Int) := by omega
  have hn : len0_1 ≤ 1000 := by have := HL.out; have := hS.1; omega
  obtain ⟨E, N, Q, M, hP⟩ := Lx.push_there a0_0 m0_1 a1
  obtain ⟨q, hq⟩ : ∃ q, Q.length = q := ⟨_, rfl⟩
  obtain ⟨T, hT⟩ : ∃ T, Lx.told m0_1 a2 = T := ⟨_, rfl⟩
  obtain ⟨nt, hnt⟩ : ∃ nt, T.length = nt := ⟨_, rfl⟩
  have HP : Hid (Lx.Push a0_0 m0_1 a1 E N Q M) := hP
  have HSQ : Hid (Lx.Short Q) := Lx.short_push hS (by omega) hP
  have HST : Hid (Lx.Short T) := by show Lx.Short T; rw [← hT]; exact Lx.short_told _ hS
  have HQ : Hid (Q.length = q) := hq
  have HT : Hid (Lx.told m0_1 a2 = T) := hT
  have HNT : Hid (T.length = nt) := hnt
  have HS : Hid (Lx.Short m0_1) := hS
  have hq9 : q ≤ 1000 := by have := HSQ.out.1; omega
  have hnt9 : nt ≤ 1000 := by have := HST.out.1; omega
  clear hS hP hq hT hnt ht
  obtain ⟨R, hRR⟩ : ∃ R, tell (Lx.Right a0_0 m0_1) = R := ⟨_, rfl⟩
  have HR : Hid (tell (Lx.Right a0_0 m0_1) = R) := hRR
  clear hRR
  go_enter Try.func3, Try.ntmps3
  go_wp2_with fail
  refine (lref_yes a0_0 a0_1 len0_1 cap0_1 m0_1 _ hr1 HS.out).mono ?_
  rintro e u1 ⟨hb1, ax, cx, rfl, hox⟩
  have hbn := bel_then hb1 (new_bel u1 (.cells #[.int .i64 a0_0, .slice ax len0_1 cx] 27))
  have kl := q1.keep hbn
  have kx := Box.new u1 27 #[.int .i64 a0_0, .slice ax len0_1 cx]
  have ox0 := Own.low (hox.keep (new_bel u1 (.cells #[.int .i64 a0_0, .slice ax len0_1 cx] 27))) (base' := w.heap.size + 1) (by simp)
  have HXB : Hid (∀ b, Value.ownBlock (.slice ax len0_1 cx) = some b → w.heap.size < b ∧ b < u1.heap.size) := fun b hb => by
    have h1 := hox.lt b hb
    have h2 : (w.alloc (.cells #[.int .i64 a0_0, .slice a0_1 len0_1 cap0_1] 24)).heap.size = w.heap.size + 1 := by simp
    omega
  have hB := bel_then hB1 hbn
  have HGX : Hid (w.heap.size < u1.heap.size) := by show _ < _; exact (q1.keep hb1).lt
  clear q1 hb1 hB1 hr1 hox hbn
  go_upto_region 4 with fail
  generalize u1.alloc (.cells #[.int .i64 a0_0, .slice ax len0_1 cx] 27) = W1 at *
  generalize u1.heap.size = gx at *
  have l0 := kl.cell 0 rfl
  have l1 := kl.cell 1 rfl
  go_wp2_with fail
  refine (lpush a0_0 a0_1 len0_1 cap0_1 m0_1 a1 W1 (Shape.any (Shape.now hA hB)) hn E N Q M HP.out q HQ.out).mono ?_
  rintro e u2 ⟨hb2, am, cm, rfl, hrm⟩
  have hbn := bel_then hb2 (new_bel u2 (.cells #[.int .i64 N, .slice am q cm] 24))
  have kl2 := kl.keep hbn
  have kx2 := kx.keep hbn
  have ox2 := ox0.keep hbn
  have hgm : gx < u2.heap.size := by have := (kx.keep hb2).lt; exact this
  have km := Box.new u2 24 #[.int .i64 N, .slice am q cm]
  have rm := Shape.any (Shape.below hrm (new_bel u2 (.cells #[.int .i64 N, .slice am q cm] 24)))
  have hB2 := bel_then hB hbn
  clear kl kx ox0 hB hbn hb2 hrm l0 l1
  go_upto_region 5 with fail
  generalize u2.alloc (.cells #[.int .i64 N, .slice am q cm] 24) = W2 at *
  generalize u2.heap.size = gm at *
  have l0 := km.cell 0 rfl
  have l1 := km.cell 1 rfl
  go_wp2_with fail
  refine (lref_yes N am q cm Q W2 rm HSQ.out).mono ?_
  rintro e u3 ⟨hb3, ay, cy, rfl, hoy⟩
  have hbn := bel_then hb3 (new_bel u3 (.cells #[.int .i64 N, .slice ay q cy] 27))
  have kl3 := kl2.keep hbn
  have kx3 := kx2.keep hbn
  have ox3 := ox2.keep hbn
  have hgy : gm < u3.heap.size := by have := (km.keep hb3).lt; exact this
  have hW2 : gm < W2.heap.size := km.lt
  have km3 := km.keep hbn
  have ky := Box.new u3 27 #[.int .i64 N, .slice ay q cy]
  have ry := frsS.mono (F' := (gm < ·)) (Shape.below hoy.frs (new_bel u3 (.cells #[.int .i64 N, .slice ay q cy] 27))) (fun b hb _ => by have h7 : W2.heap.size ≤ b := hb; show gm < b; omega)
  have hB3 := bel_then hB2 hbn
  clear kl2 kx2 ox2 km hB2 hbn hb3 hoy l0 l1 rm hW2
  go_upto_region 6 with fail
  generalize u3.alloc (.cells #[.int .i64 N, .slice ay q cy] 27) = W3 at *
  generalize u3.heap.size = gy at *
  have l0 := kl3.cell 0 rfl
  have l1 := kl3.cell 1 rfl
  go_wp2_with fail
  refine (ltold_len a0_0 a0_1 len0_1 cap0_1 m0_1 a2 W3 (Shape.any (Shape.now hA hB3)) hn T HT.out nt HNT.out).mono ?_
  rintro e u4 ⟨hb4, at', ct, rfl, hrt⟩
  go_wp2_with fail
  refine (lref_yes a0_0 at' nt ct T u4 (Shape.any hrt) HST.out).mono ?_
  rintro e u5 ⟨hb5, az, cz, rfl, hoz⟩
  have hbn := bel_then (bel_then hb4 hb5) (new_bel u5 (.cells #[.int .i64 a0_0, .slice az nt cz] 27))
  have kl5 := kl3.keep hbn
  have kx5 := kx3.keep hbn
  have ox5 := ox3.keep hbn
  have km5 := km3.keep hbn
  have ky5 := ky.keep hbn
  have ry5 := Shape.below ry hbn
  have kt := Box.new u5 27 #[.int .i64 a0_0, .slice az nt cz]
  have rt := Shape.below hoz.is (new_bel u5 (.cells #[.int .i64 a0_0, .slice az nt cz] 27))
  have hB5 := bel_then hB3 hbn
  clear kl3 kx3 ox3 km3 ky ry hB3 hbn hb4 hb5 hrt hoz l0 l1
  go_upto_region 7 with fail
  generalize u5.alloc (.cells #[.int .i64 a0_0, .slice az nt cz] 27) = W5 at *
  generalize u5.heap.size = gt at *
  have hD : Below W5.heap.size W5 W5.drew := (Below.refl _ W5).drew
  have HB5 : Hid (Below w.heap.size w W5) := hB5
  have l0 := kl5.cell 0 rfl
  have l1 := kl5.cell 1 rfl
  have x0 := kx5.cell 0 rfl
  have x1 := kx5.cell 1 rfl
  have t0 := kt.cell 0 rfl
  have t1 := kt.cell 1 rfl
  have rx5 := ox5.is
  have eR : (R != R) = false := by simp
  have CT : Hid (Calls _ _ _ _ _) := rltold_len a0_0 ax len0_1 cx m0_1 a2 W5.drew (Shape.below rx5 hD) hn T HT.out nt HNT.out
  have CS : Hid (∀ u a' c', Below W5.heap.size W5 u → frsS.rep u everywhere [.slice a' nt c'] T → Calls Try.prog 12 #[.agg #[.int .i64 a0_0, .slice az nt cz], .agg #[.int .i64 a0_0, .slice a' nt c']] u fun e w' => e = .returned (.bool true) ∧ Below u.heap.size u w') := fun u a' c' hb hr => rlsame a0_0 az nt cz T a' c' u (Shape.below rt hb) hr hnt9
  have CL : Hid (∀ u, Below W5.heap.size W5 u → Calls Try.prog 14 #[.agg #[.int .i64 a0_0, .slice a0_1 len0_1 cap0_1]] u fun e w' => e = .returned (.bool R) ∧ Below u.heap.size u w') := fun u hb => lright_tell a0_0 a0_1 len0_1 cap0_1 m0_1 u (Shape.any (Shape.now hA (bel_then HB5.out hb))) R HR.out
  have CR : Hid (∀ u, Below W5.heap.size W5 u → Calls Try.prog 15 #[.agg #[.int .i64 a0_0, .slice ax len0_1 cx]] u fun e w' => e = .returned (.bool R) ∧ Below u.heap.size u w') := fun u hb => rlright_tell a0_0 ax len0_1 cx m0_1 u (Shape.below rx5 hb) hn R HR.out
  clear rt rx5 hB5
  go_cut [49, 50, 51, 52, 53, 54, 55, 56, 57, 58, 59, 60, 61, 62, 63, 64, 65] from 66 to 130 (fun v49 v50 v51 v52 v53 v54 v55 v56 v57 v58 v59 v60 v61 v62 v63 v64 v65 wx => v65 = .bool false ∧ Below W5.heap.size W5 wx)
  case first =>
    rename_i Jx Kx hRJ hMK
    have HH : Hid (∀ u, Below W5.heap.size W5 u → u.cell? ⟨w.heap.size, 0, none⟩ = some (.int .i64 a0_0) ∧ u.cell? ⟨w.heap.size, 1, none⟩ = some (.slice a0_1 len0_1 cap0_1) ∧ u.cell? ⟨gx, 0, none⟩ = some (.int .i64 a0_0) ∧ u.cell? ⟨gx, 1, none⟩ = some (.slice ax len0_1 cx) ∧ u.cell? ⟨gt, 0, none⟩ = some (.int .i64 a0_0) ∧ u.cell? ⟨gt, 1, none⟩ = some (.slice az nt cz)) := fun u hb => ⟨(kl5.keep hb).cell 0 rfl, (kl5.keep hb).cell 1 rfl, (kx5.keep hb).cell 0 rfl, (kx5.keep hb).cell 1 rfl, (kt.keep hb).cell 0 rfl, (kt.keep hb).cell 1 rfl⟩
    go_region_held3 (fun w' => w'.cell? ⟨w.heap.size, 0, none⟩ = some (.int .i64 a0_0) ∧ w'.cell? ⟨w.heap.size, 1, none⟩ = some (.slice a0_1 len0_1 cap0_1) ∧ w'.cell? ⟨gx, 0, none⟩ = some (.int .i64 a0_0) ∧ w'.cell? ⟨gx, 1, none⟩ = some (.slice ax len0_1 cx) ∧ w'.cell? ⟨gt, 0, none⟩ = some (.int .i64 a0_0) ∧ w'.cell? ⟨gt, 1, none⟩ = some (.slice az nt cz))
      (first
        | exact HH.out _ hd4
        | exact HH.out _ hd3
        | exact HH.out _ hd2
        | exact HH.out _ hd1
        | exact HH.out _ hD
        | exact HH.out _ (Below.refl _ _)
        | go_keep)
      (first
        | (go_at_call 13; refine CT.out.mono ?_; rintro e v1 ⟨hv1, a7, c7, rfl, hr7⟩; have hd1 := bel_then hD hv1; have t0' := (kt.keep hd1).cell 0 rfl; have t1' := (kt.keep hd1).cell 1 rfl)
        | (go_at_call 12; refine (CS.out v1 a7 c7 hd1 (Shape.any hr7)).mono ?_; rintro e v2 ⟨rfl, hv2⟩; have hd2 := bel_then hd1 hv2; have l0' := (kl5.keep hd2).cell 0 rfl; have l1' := (kl5.keep hd2).cell 1 rfl; have x0' := (kx5.keep hd2).cell 0 rfl; have x1' := (kx5.keep hd2).cell 1 rfl)
        | (go_at_call 14; refine (CL.out v2 hd2).mono ?_; rintro e v3 ⟨rfl, hv3⟩; have hd3 := bel_then hd2 hv3; have x0'' := (kx5.keep hd3).cell 0 rfl; have x1'' := (kx5.keep hd3).cell 1 rfl)
        | (go_at_call 15; refine (CR.out v3 hd3).mono ?_; rintro e v4 ⟨rfl, hv4⟩; have hd4 := bel_then hd3 hv4))
    all_goals
      refine hMK _ _ (Met.intro (hRJ _ _ ?_))
      (repeat apply Exists.intro)
      refine ⟨?_, rfl⟩
      exact ⟨rfl, hd4⟩
  case rest =>
    obtain ⟨rfl, hc5⟩ := hcut
    clear l0 l1 x0 x1 t0 t1
    have x0 := (kx5.keep hc5).cell 0 rfl
    have x1 := (kx5.keep hc5).cell 1 rfl
    go_wp2_with fail
    refine (CR.out wc hc5).mono ?_
    rintro e u6 ⟨rfl, hb6⟩
    have hc6 := bel_then hc5 hb6
    have kl7 := kl5.keep hc6
    have kx7 := kx5.keep hc6
    have ky7 := ky5.keep hc6
    have ox7 := ox5.keep hc6
    have ry7 := Shape.below ry5 hc6
    have hB7 := bel_then HB5.out hc6
    clear x0 x1 CR CL CS CT hc5 hb6 hc6 kl5 kx5 ky5 ox5 ry5 kt km5 HB5 hD
    have l0 := kl7.cell 0 rfl
    have l1 := kl7.cell 1 rfl
    have x0 := kx7.cell 0 rfl
    have x1 := kx7.cell 1 rfl
    have y0 := ky7.cell 0 rfl
    have y1 := ky7.cell 1 rfl
    have hcases := HP.out
    rcases hcases with ⟨hno, hE, hN, hQ, hM⟩ | ⟨hR, hne, hful, hE, hN, hQ, hM⟩ | ⟨hR, hne, hlt64, hE, hN, hQ, hM⟩
    · have hqn : q = len0_1 := by rw [← HQ.out, hQ, HL.out]
      have hcond : R = false ∨ (R = true ∧ (a0_0 == 2147483647) = true) := by
        by_cases hr : Lx.Right a0_0 m0_1
        · refine .inr ⟨by rw [← HR.out]; exact tell_yes hr, ?_⟩
          have : a0_0 = 2147483647 := Decidable.byContradiction fun h => hno ⟨hr, h⟩
          simpa using this
        · exact .inl (by rw [← HR.out]; exact tell_no hr)
      subst hE
      subst hN
      subst hM
      subst hqn
      subst hQ
      have CS := rlsame N ay q cy Q ax cx u6 (Shape.any ry7) ox7.is hn
      clear hno HP HSQ HQ ry7 ox7 kl7 kx7 ky7
      rcases hcond with rfl | ⟨rfl, htop⟩
      all_goals
        go_wp2_with fail
        refine CS.mono ?_
        rintro e u7 ⟨rfl, hb7⟩
        go_wp2_with (go_at_call 9; refine (lawake _).mono ?_; rintro e u9 ⟨rfl, hb9⟩)
        go_ret
        exact ⟨rfl, bel_then (bel_then hB7 hb7) hb9⟩
    · have hqn : q = len0_1 := by rw [← HQ.out, hQ, HL.out]
      have hR1 : R = true := by rw [← HR.out]; exact tell_yes hR
      have htop : (a0_0 == 2147483647) = false := by simpa using hne
      have h64 : ((len0_1 : Int) == 64) = true := by
        have h1 := hR.2.2.1
        have h2 := HL.out
        have : (len0_1 : Int) = 64 := by omega
        simpa using this
      subst hE
      subst hN
      subst hM
      subst hqn
      subst hQ
      subst hR1
      have CS := rlsame N ay q cy Q ax cx u6 (Shape.any ry7) ox7.is hn
      clear hR hne hful HP HSQ HQ ry7 ox7 kl7 kx7 ky7
      go_wp2_with fail
      refine CS.mono ?_
      rintro e u7 ⟨rfl, hb7⟩
      go_wp2_with (go_at_call 9; refine (lawake _).mono ?_; rintro e u9 ⟨rfl, hb9⟩)
      go_ret
      exact ⟨rfl, bel_then (bel_then hB7 hb7) hb9⟩
    · have hqn : q = len0_1 + 1 := by rw [← HQ.out, hQ, List.length_append, HL.out]; rfl
      have hR1 : R = true := by rw [← HR.out]; exact tell_yes hR
      have htop : (a0_0 == 2147483647) = false := by simpa using hne
      have hl64 : len0_1 < 64 := by have := HL.out; omega
      have h64 : ((len0_1 : Int) == 64) = false := by rw [beq_eq_false_iff_ne]; omega
      have ha0 : 0 ≤ a0_0 := hR.1
      have ha1 : a0_0 ≤ 2147483647 := hR.2.1
      have ee : (a0_0 == a0_0) = true := by simp
      have HQE : Hid (m0_1 ++ [fr a0_0 a1] = Q) := hQ.symm
      subst hE
      subst hN
      subst hM
      subst hqn
      subst hR1
      obtain ⟨i0, hi0, hi1, hi2, hi3⟩ := info_parts Try.infoRframe
      have hbn := new_bel u6 (.cells #[.int .i64 M, .string a1] 40)
      have ho2 := ox7.keep hbn
      have hsrc := ox7.fsrc (fr M a1)
      have hsrc1 : frsS.rep (u6.alloc (.cells #[.int .i64 M, .string a1] 40)) (fun b => False ∨ b = u6.heap.size) [.slice (some ⟨u6.heap.size, 0, none⟩) 1 1] [fr M a1] := hsrc.1
      have hsrc2 := hsrc.2
      have hsm : m0_1.length + 1 ≤ 100000 := by rw [HL.out]; omega
      have hbs : w.heap.size + 1 ≤ (u6.alloc (.cells #[.int .i64 M, .string a1] 40)).heap.size := by have := hB7.size; simp; omega
      have hgx := kx7.lt
      have hgyl := ky7.lt
      have hNx : some gx ≠ Value.ownBlock (.slice ax len0_1 cx) := fun h => by have := HXB.out gx h.symm; omega
      have hNl : some w.heap.size ≠ Value.ownBlock (.slice ax len0_1 cx) := fun h => by have := HXB.out _ h.symm; omega
      have hNy : some gy ≠ Value.ownBlock (.slice ax len0_1 cx) := fun h => by have := HXB.out _ h.symm; omega
      have HYB : Hid (∀ b, gm < b → some b ≠ Value.ownBlock (.slice ax len0_1 cx)) := fun b hb h => by have := HXB.out b h.symm; omega
      have kk1 := kl7.keep hbn
      have kk2 := kx7.keep hbn
      have kk3 := ky7.keep hbn
      have rr3 := Shape.below ry7 hbn
      have hBB := bel_then hB7 hbn
      have hGX : w.heap.size < gx := HGX.out
      clear hR hne hlt64 HP HSQ HQ hsrc ox7 kl7 kx7 ky7 ry7 hB7 hbn hQ
      go_upto_region 17 with (at_builtin; (refine wpList_app frS (by simp [Region.wanted]) (.tmp 99) (.tmp 104) 25 rfl (w.heap.size + 1) 40 i0 (.agg #[.int .i64 0, .string ByteArray.empty]) 24 Try.underlying25 hi0 hi1 hi2 hi3 rfl (Nat.succ_pos 1) (by omega) (by rfl) ho2 (by rfl) hsrc1 hsrc2 hsm hbs ?_; intro a6 c6 u8 ho6 hg6 hb8 hat6; rw [HL.out, HQE.out] at ho6; rw [HL.out]; have kb1 := kk1.grown hg6 hNl; have kb2 := kk2.grown hg6 hNx; have kb3 := kk3.grown hg6 hNy; have z1' := kb2.cell 1 rfl; have f1' := kb2.free 1))
      have hsz8 : (u6.alloc (.cells #[.int .i64 M, .string a1] 40)).heap.size = u6.heap.size + 1 := by simp
      have hox8 : ∀ b, Value.ownBlock (.slice a6 (len0_1 + 1) c6) = some b → some gx ≠ some b := fun b hb h => by
        have e1 : gx = b := Option.some.inj h
        rw [HL.out] at hat6
        rcases hat6 with h9 | h9
        · rw [hb] at h9; exact hNx (by rw [e1]; exact h9)
        · rw [hb] at h9; have := Option.some.inj h9; omega
      have ox8 := Own.fr_other ho6 (grown_set u8 gx 1 (.slice a6 (len0_1 + 1) c6)) hox8
      have kl8 := kb1.other (b2 := gx) (i := 1) (.slice a6 (len0_1 + 1) c6) (by omega)
      have kx8 := kb2.set1 (.slice a6 (len0_1 + 1) c6)
      have ky8 := kb3.other (b2 := gx) (i := 1) (.slice a6 (len0_1 + 1) c6) (by omega)
      have ry8 : frsS.rep (u8.setCell ⟨gx, 1, none⟩ (.slice a6 (len0_1 + 1) c6)) (gm < ·) [.slice ay (len0_1 + 1) cy] Q := frsS.keep rr3 fun b hF hlt => (Below.heap_setCell u8 _ _ b (by have h7 : gm < b := hF; show b ≠ gx; omega)).trans (hg6.block b hlt (HYB.out b hF))
      have hB8 := bel_put (hBB.trans (hb8.mono (by omega))) (b := gx) (i := 1) (by omega) (.slice a6 (len0_1 + 1) c6)
      clear z1' f1' kb1 kb2 kb3 ho6 hg6 hb8 hat6 rr3 hBB kk1 kk2 kk3 ho2 hsrc1 hsrc2 hbs hsz8 x0 x1 l0 l1 y0 y1
      generalize u8.setCell ⟨gx, 1, none⟩ (.slice a6 (len0_1 + 1) c6) = W8 at *
      have x0 := kx8.cell 0 rfl
      have x9 := kx8.free 0
      go_upto_region 18 with fail
      have ox9 := Own.fr_other ox8 (grown_set W8 gx 0 (.int .i64 (M + 1))) hox8
      have kl9 := kl8.other (b2 := gx) (i := 0) (.int .i64 (M + 1)) (by omega)
      have kx9 := kx8.set0 (.int .i64 (M + 1))
      have ky9 := ky8.other (b2 := gx) (i := 0) (.int .i64 (M + 1)) (by omega)
      have ry9 : frsS.rep (W8.setCell ⟨gx, 0, none⟩ (.int .i64 (M + 1))) (gm < ·) [.slice ay (len0_1 + 1) cy] Q := frsS.keep ry8 fun b hF hlt => Below.heap_setCell W8 _ _ b (by have h7 : gm < b := hF; show b ≠ gx; omega)
      have hB9 := bel_put hB8 (b := gx) (i := 0) (by omega) (.int .i64 (M + 1))
      clear x0 x9 ox8 kl8 kx8 ky8 ry8 hB8
      generalize W8.setCell ⟨gx, 0, none⟩ (.int .i64 (M + 1)) = W9 at *
      have l0 := kl9.cell 0 rfl
      have l1 := kl9.cell 1 rfl
      have x0 := kx9.cell 0 rfl
      have x1 := kx9.cell 1 rfl
      have y0 := ky9.cell 0 rfl
      have y1 := ky9.cell 1 rfl
      have CS := rlsame (M + 1) ay (len0_1 + 1) cy Q a6 c6 W9 (Shape.any ry9) ox9.is (by omega)
      clear kx9 ky9 ry9 ox9 hox8
      go_wp2_with fail
      refine CS.mono ?_
      rintro e u7 ⟨rfl, hb7⟩
      have l2 := (kl9.keep hb7).cell 0 rfl
      clear l0 l1 x0 x1 y0 y1
      go_wp2_with (go_at_call 9; refine (lawake _).mono ?_; rintro e u9 ⟨rfl, hb9⟩)
      go_ret
      exact ⟨rfl, bel_then (bel_then hB9 hb7) hb9⟩

/- From the walk to the row. -/
set_option maxRecDepth 100000 in
theorem lifted (os : Os) (started : os.Started) (H : Type) (enc : TypeId × Value → H) :
    ReturnsInHanded {} Try.checked os 3 .any (Rows.linkExactSpec.pre6 enc Try.prog Try.f3 Rows.linkExactRow.domain false) (Rows.linkExactSpec.post enc Try.prog Try.f3 false true false false) := by
  refine returnsInHanded_of_change (C := Try.checked) own started (by kernel_rfl) Try.func3
    (ChangeSpec.witness6 (enc := enc) (C := Try.checked) false ⟨#[], #[.agg #[.int .i64 0, .slice none 0 0], .string ByteArray.empty, .int .i64 0], []⟩ 8 (by kernel_rfl) (by kernel_rfl) (by kernel_rfl) (by kernel_rfl)) ?_
  intro W base args ds gs before hval0 hW hcnd _
  have hval : ∀ (j : Nat) t v, Try.f3.params[j]? = some t → args[j]? = some v → Value.okWide Try.prog W .any base t v := hval0
  have hW' := hW
  obtain ⟨p, q, hA0, hV, rfl, hfz, hnd⟩ := hW
  have hA : DataW.TrodAll enc Try.prog W 0 (fun _ => true) true Try.f3.params.toList args.toList ds p := hA0
  rw [Try.params3] at hA hval
  obtain ⟨v0, vs0, d0, ds0, p0, q0, hargs, rfl, rfl, h0, r0⟩ := trodAll_cons hA
  obtain ⟨v1, vs1, d1, ds1, p1, q1, rfl, rfl, rfl, h1, r1⟩ := trodAll_cons r0
  obtain ⟨v2, vs2, d2, ds2, p2, q2, rfl, rfl, rfl, h2, r2⟩ := trodAll_cons r1
  obtain ⟨rfl, rfl, rfl⟩ := trodAll_nil r2
  obtain rfl : args = #[v0, v1, v2] := by cases args; simp_all
  obtain ⟨rfl, rfl⟩ := trodVars_none hV
  obtain ⟨cs0, rfl⟩ := okWide_agg Try.underlying24 (hval 0 24 v0 rfl rfl)
  have k0 := h0
  have lt0 : ∀ x ∈ p0, x.block < W.heap.size := by obtain ⟨m, hm⟩ := k0; exact DataW.trod_lt m _ _ _ hm
  obtain ⟨y0, hy0, hw0⟩ : ∃ y, (consS (intS .i64) (consS (sliceS (consS (intS .i64) (consS strS noneS))) noneS)).rep W everywhere cs0 y ∧ ((Lit.int .i64 y.1).wf = true ∧ ((∀ x0 ∈ y.2.1, ((Lit.int .i64 x0.1).wf = true ∧ (ByteArray.size x0.2.1 ≤ maxLen ∧ True))) ∧ True)) := by
    obtain ⟨fuel, hf⟩ := h0
    exact (opens_struct Try.underlying24 (show Try.prog.cellsOf 24 = 2 by kernel_rfl) (opensAt_cons (A := (intS .i64)) rfl (show Try.prog.cellsOf 3 = 1 by kernel_rfl) (opens_int Try.underlying3) (opensAt_cons (A := (sliceS (consS (intS .i64) (consS strS noneS)))) rfl (show Try.prog.cellsOf 22 = 1 by kernel_rfl) (opens_slice (A := (consS (intS .i64) (consS strS noneS))) Try.underlying22 (show Try.prog.cellsOf 45 = 2 by kernel_rfl) (by exact Nat.succ_pos _) (opens_struct Try.underlying45 (show Try.prog.cellsOf 45 = 2 by kernel_rfl) (opensAt_cons (A := (intS .i64)) rfl (show Try.prog.cellsOf 3 = 1 by kernel_rfl) (opens_int Try.underlying3) (opensAt_cons (A := strS) rfl (show Try.prog.cellsOf 9 = 1 by kernel_rfl) (opens_string Try.underlying9) opensAt_nil (by rfl)) (by rfl)))) opensAt_nil (by rfl)) (by rfl))) H enc W _ _ _ fuel _ _ (by simpa [Value.cells] using hf)
  obtain ⟨a0_0, m0_1, _⟩ := y0
  obtain ⟨d0_0, rfl, hy0_0⟩ := consS_int hy0
  obtain ⟨a0_1, len0_1, cap0_1, d0_1, rfl, w0_1, hy0_1⟩ := consS_slice hy0_0
  obtain rfl := noneS_nil hy0_1
  obtain ⟨w0_0, f0_1, _⟩ := hw0
  obtain ⟨a1, rfl, rfl, rfl, w1⟩ := open_string Try.underlying9 (hval 1 9 v1 rfl rfl) h1
  obtain ⟨a2, rfl, rfl, rfl, w2⟩ := open_int Try.underlying3 (hval 2 3 v2 rfl rfl) h2
  clear hA0 hval0
  refine (walk a0_0 a0_1 len0_1 cap0_1 m0_1 a1 a2 W w0_0 w0_1 f0_1 w1 w2).mono fun e W' ⟨he, bel⟩ => ?_
  subst he
  exact ⟨_, rfl, _, _, _, [], _, [], hW', trodAll_mk1 (shut_bool Try.underlying4 _), (trodAll_cons_mk (Below.trod laidOut (by kernel_rfl) (of_decide_eq_true (by kernel_rfl)) k0 bel lt0) (trodAll_cons_mk (shut_string Try.underlying9 w1) (trodAll_cons_mk (shut_int Try.underlying3 w2) trodAll_mk0))), rfl, bel.frame _, fun h => by cases h⟩

theorem over : Rows.linkExactRow.holds Try.pinned (OpenSpec.ofChange Rows.linkExactSpec) :=
  OpenClaim.holds_of_wide 3 Try.f3 rfl rfl rfl rfl rfl rfl rfl ⟨rfl, rfl, rfl, rfl, rfl⟩ rfl rfl rfl rfl rfl (by kernel_rfl) Try.func3 (by kernel_rfl)
    (of_decide_eq_true (by kernel_rfl)) (by unfold Func.isWrapper; first | (rw [if_pos (by decide +kernel)]; kernel_rfl) | (rw [if_neg (by decide +kernel)]; exact ⟨rfl, rfl⟩))
    (fun os started H enc _ => lifted os started H enc)

end Go.Proofs.Ytfdbnongpkiibaa.linkExact

namespace Go.Proofs.Ytfdbnongpkiibaa
theorem linkExact_holds : Rows.LinkExactSaid := linkExact.over
end Go.Proofs.Ytfdbnongpkiibaa
