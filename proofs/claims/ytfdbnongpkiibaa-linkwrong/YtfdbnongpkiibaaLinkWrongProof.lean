/- For every link and text switchboardlaw10.LinkWrong returns true: on a wrong link, or a full one, nothing is pushed, and it is as it was; what nobody sent is not told of. -/
import Derived.Test.YtfdbnongpkiibaaRows
import Derived.Test.YtfdbnongpkiibaaLinkH
import Derived.WalkKit
import Derived.ProofKit
import Derived.OpenShut
import Derived.ShutString
import Derived.ChangeOld
import Derived.Below
namespace Go.Proofs.Ytfdbnongpkiibaa.linkWrong
open Go.ChangeShapes Go.WideShapes Go.ChangeAt Go.RowKit
open Go.ChangeMaps (open_string shut_string)
set_option linter.unusedVariables false

theorem own : ownKnob Try.prog.godebug = none := by kernel_rfl
theorem laidOut : laidOutB Try.prog = true := by kernel_rfl

/- The walk: the call returns true, and nothing that was there is written. -/
set_option maxHeartbeats 4000000 in
set_option maxRecDepth 100000 in
theorem walk (a0_0 : Int) (a0_1 : Option Addr) (len0_1 cap0_1 : Nat) (m0_1 : List (Int × ByteArray × Unit)) (a1 : ByteArray) (w : World) (w0_0 : (Lit.int .i64 a0_0).wf = true) (w0_1 : (sliceS (consS (intS .i64) (consS strS noneS))).rep w everywhere [.slice a0_1 len0_1 cap0_1] m0_1) (f0_1 : (∀ x0 ∈ m0_1, ((Lit.int .i64 x0.1).wf = true ∧ (ByteArray.size x0.2.1 ≤ maxLen ∧ True)))) (w1 : a1.size ≤ maxLen) :
    Calls Try.prog 5 #[.agg #[.int .i64 a0_0, .slice a0_1 len0_1 cap0_1], .string a1] w fun e w' => e = .returned (.bool true) ∧ Below w.heap.size w w' := by
  clear f0_1 w0_0
  have hA := Shape.low (show frsS.rep w everywhere [.slice a0_1 len0_1 cap0_1] m0_1 from w0_1)
  have hl := (sliceS_len w0_1).1
  clear w0_1 w1
  have q1 := Box.new w 24 #[.int .i64 a0_0, .slice a0_1 len0_1 cap0_1]
  have hB1 := new_bel w (.cells #[.int .i64 a0_0, .slice a0_1 len0_1 cap0_1] 24)
  have hr1 := Shape.any (Shape.now hA hB1)
  have HL : Hid (m0_1.length = len0_1) := hl
  clear hl
  by_cases hS : Lx.Short m0_1
  case neg =>
    have HS : Hid (¬ Lx.Short m0_1) := hS
    clear hS
    go_enter Try.func5, Try.ntmps5
    go_wp2_with fail
    refine (lref_no a0_0 a0_1 len0_1 cap0_1 m0_1 _ hr1 HS.out).mono ?_
    rintro e u1 ⟨hb1, ax, nx, cx, rfl⟩
    have hB2 := bel_alloc (bel_then hB1 hb1) (.cells #[.int .i64 a0_0, .slice ax nx cx] 27)
    clear q1 hb1 hB1 hr1
    go_wp2_with (go_at_call 9; refine (lawake _).mono ?_; rintro e u6 ⟨rfl, hb6⟩)
    go_ret
    exact ⟨rfl, bel_then hB2 hb6⟩
  by_cases ht : 100 < a1.size
  · have hti : (100 : Int) < (a1.size : Int) := by omega
    have HS : Hid (Lx.Short m0_1) := hS
    clear hS
    go_enter Try.func5, Try.ntmps5
    go_wp2_with fail
    refine (lref_yes a0_0 a0_1 len0_1 cap0_1 m0_1 _ hr1 HS.out).mono ?_
    rintro e u1 ⟨hb1, ax, cx, rfl, hox⟩
    have hB2 := bel_alloc (bel_then hB1 hb1) (.cells #[.int .i64 a0_0, .slice ax len0_1 cx] 27)
    clear q1 hb1 hB1 hr1 hox
    go_wp2_with (go_at_call 9; refine (lawake _).mono ?_; rintro e u6 ⟨rfl, hb6⟩)
    go_ret
    exact ⟨rfl, bel_then hB2 hb6⟩
  have hti : ¬ (100 : Int) < (a1.size : Int) := by omega
  have hn : len0_1 ≤ 1000 := by have := HL.out; have := hS.1; omega
  obtain ⟨E, N, Q, M, hP⟩ := Lx.push_there a0_0 m0_1 a1
  obtain ⟨q, hq⟩ : ∃ q, Q.length = q := ⟨_, rfl⟩
  obtain ⟨T, hT⟩ : ∃ T, Lx.told m0_1 (-1) = T := ⟨_, rfl⟩
  obtain ⟨nt, hnt⟩ : ∃ nt, T.length = nt := ⟨_, rfl⟩
  have HP : Hid (Lx.Push a0_0 m0_1 a1 E N Q M) := hP
  have HSQ : Hid (Lx.Short Q) := Lx.short_push hS (by omega) hP
  have HST : Hid (Lx.Short T) := by show Lx.Short T; rw [← hT]; exact Lx.short_told _ hS
  have HQ : Hid (Q.length = q) := hq
  have HT : Hid (Lx.told m0_1 (-1) = T) := hT
  have HNT : Hid (T.length = nt) := hnt
  have HS : Hid (Lx.Short m0_1) := hS
  have hq9 : q ≤ 1000 := by have := HSQ.out.1; omega
  have hnt9 : nt ≤ 1000 := by have := HST.out.1; omega
  clear hS hP hq hT hnt ht
  obtain ⟨R, hRR⟩ : ∃ R, tell (Lx.Right a0_0 m0_1) = R := ⟨_, rfl⟩
  have HR : Hid (tell (Lx.Right a0_0 m0_1) = R) := hRR
  clear hRR
  go_enter Try.func5, Try.ntmps5
  go_wp2_with fail
  refine (lref_yes a0_0 a0_1 len0_1 cap0_1 m0_1 _ hr1 HS.out).mono ?_
  rintro e u1 ⟨hb1, ax, cx, rfl, hox⟩
  have hbn := bel_then hb1 (new_bel u1 (.cells #[.int .i64 a0_0, .slice ax len0_1 cx] 27))
  have kl := q1.keep hbn
  have kx := Box.new u1 27 #[.int .i64 a0_0, .slice ax len0_1 cx]
  have rx := Shape.below hox.is (new_bel u1 (.cells #[.int .i64 a0_0, .slice ax len0_1 cx] 27))
  have hB := bel_then hB1 hbn
  clear q1 hb1 hB1 hr1 hox hbn
  go_upto_region 4 with fail
  generalize u1.alloc (.cells #[.int .i64 a0_0, .slice ax len0_1 cx] 27) = W1 at *
  generalize u1.heap.size = gx at *
  have l0 := kl.cell 0 rfl
  have l1 := kl.cell 1 rfl
  go_wp2_with fail
  refine (lpush a0_0 a0_1 len0_1 cap0_1 m0_1 a1 W1 (Shape.any (Shape.now hA hB)) hn E N Q M HP.out q HQ.out).mono ?_
  rintro e u2 ⟨hb2, am, cm, rfl, hrm⟩
  have hbn := bel_then hb2 (new_bel u2 (.cells #[.int .i64 N, .slice am q cm] 24))
  have kl2 := kl.keep hbn
  have kx2 := kx.keep hbn
  have rx2 := Shape.below rx hbn
  have km := Box.new u2 24 #[.int .i64 N, .slice am q cm]
  have rm := Shape.any (Shape.below hrm (new_bel u2 (.cells #[.int .i64 N, .slice am q cm] 24)))
  have hB2 := bel_then hB hbn
  clear kl kx rx hB hbn hb2 hrm l0 l1
  go_upto_region 5 with fail
  generalize u2.alloc (.cells #[.int .i64 N, .slice am q cm] 24) = W2 at *
  generalize u2.heap.size = gm at *
  have l0 := km.cell 0 rfl
  have l1 := km.cell 1 rfl
  go_wp2_with fail
  refine (lref_yes N am q cm Q W2 rm HSQ.out).mono ?_
  rintro e u3 ⟨hb3, ay, cy, rfl, hoy⟩
  have hbn := bel_then hb3 (new_bel u3 (.cells #[.int .i64 N, .slice ay q cy] 27))
  have kl3 := kl2.keep hbn
  have kx3 := kx2.keep hbn
  have rx3 := Shape.below rx2 hbn
  have km3 := km.keep hbn
  have ky := Box.new u3 27 #[.int .i64 N, .slice ay q cy]
  have ry := Shape.below hoy.is (new_bel u3 (.cells #[.int .i64 N, .slice ay q cy] 27))
  have hB3 := bel_then hB2 hbn
  clear kl2 kx2 rx2 km hB2 hbn hb3 hoy l0 l1 rm
  go_upto_region 6 with fail
  generalize u3.alloc (.cells #[.int .i64 N, .slice ay q cy] 27) = W3 at *
  generalize u3.heap.size = gy at *
  have l0 := kl3.cell 0 rfl
  have l1 := kl3.cell 1 rfl
  go_wp2_with fail
  refine (ltold_len a0_0 a0_1 len0_1 cap0_1 m0_1 (-1) W3 (Shape.any (Shape.now hA hB3)) hn T HT.out nt HNT.out).mono ?_
  rintro e u4 ⟨hb4, at', ct, rfl, hrt⟩
  go_wp2_with fail
  refine (lref_yes a0_0 at' nt ct T u4 (Shape.any hrt) HST.out).mono ?_
  rintro e u5 ⟨hb5, az, cz, rfl, hoz⟩
  have hbn := bel_then (bel_then hb4 hb5) (new_bel u5 (.cells #[.int .i64 a0_0, .slice az nt cz] 27))
  have kl5 := kl3.keep hbn
  have kx5 := kx3.keep hbn
  have rx5 := Shape.below rx3 hbn
  have km5 := km3.keep hbn
  have ky5 := ky.keep hbn
  have ry5 := Shape.below ry hbn
  have kt := Box.new u5 27 #[.int .i64 a0_0, .slice az nt cz]
  have rt := Shape.below hoz.is (new_bel u5 (.cells #[.int .i64 a0_0, .slice az nt cz] 27))
  have hB5 := bel_then hB3 hbn
  clear kl3 kx3 rx3 km3 ky ry hB3 hbn hb4 hb5 hrt hoz l0 l1
  go_upto_region 7 with fail
  generalize u5.alloc (.cells #[.int .i64 a0_0, .slice az nt cz] 27) = W5 at *
  generalize u5.heap.size = gt at *
  have l0 := kl5.cell 0 rfl
  have l1 := kl5.cell 1 rfl
  go_wp2_with fail
  refine (lright_tell a0_0 a0_1 len0_1 cap0_1 m0_1 W5 (Shape.any (Shape.now hA hB5)) R HR.out).mono ?_
  rintro e u6 ⟨rfl, hb6⟩
  have kl6 := kl5.keep hb6
  have kx6 := kx5.keep hb6
  have rx6 := Shape.below rx5 hb6
  have km6 := km5.keep hb6
  have ky6 := ky5.keep hb6
  have ry6 := Shape.below ry5 hb6
  have kt6 := kt.keep hb6
  have rt6 := Shape.below rt hb6
  have hB6 := bel_then hB5 hb6
  clear kl5 kx5 rx5 km5 ky5 ry5 kt rt hB5 hb6 l0 l1
  have l0 := kl6.cell 0 rfl
  have l1 := kl6.cell 1 rfl
  have n0 := km6.cell 0 rfl
  have n1 := km6.cell 1 rfl
  by_cases hok : Lx.Right a0_0 m0_1 ∧ a0_0 ≠ 2147483647 ∧ len0_1 < 64
  · obtain ⟨hR, hne, h64⟩ := hok
    have hR1 : R = true := by rw [← HR.out]; exact tell_yes hR
    have h64i : (len0_1 : Int) < 64 := by omega
    have htop : a0_0 < 2147483647 := by have := hR.2.1; omega
    have hcases := HP.out
    rcases hcases with ⟨hno, _⟩ | ⟨_, _, hful, _⟩ | ⟨_, _, _, hE, hN, hQ, hM⟩
    · exact absurd ⟨hR, hne⟩ hno
    · have := HL.out; omega
    · have hqn : q = len0_1 + 1 := by rw [← HQ.out, hQ, List.length_append, HL.out]; rfl
      have ee : (a0_0 == a0_0) = true := by simp
      have el : (((len0_1 + 1 : Nat) : Int) == (len0_1 : Int) + 1) = true := by simp
      have el2 : ((len0_1 : Int) + 1 == (len0_1 : Int) + 1) = true := by simp
      subst hE
      subst hM
      subst hqn
      subst hR1
      clear hR hne h64 hN hQ rx6 ry6 rt6 HP HSQ HQ
      go_wp2_with (go_at_call 9; refine (lawake _).mono ?_; rintro e u9 ⟨rfl, hb9⟩)
      go_ret
      exact ⟨rfl, bel_then hB6 hb9⟩
  have hbad : (E = 1 ∨ E = 8) ∧ N = a0_0 ∧ Q = m0_1 ∧ M = 0 := by
    rcases HP.out with ⟨_, hE, hN, hQ, hM⟩ | ⟨_, _, _, hE, hN, hQ, hM⟩ | ⟨hR, hne, h64, _⟩
    · exact ⟨.inl hE, hN, hQ, hM⟩
    · exact ⟨.inr hE, hN, hQ, hM⟩
    · exact absurd ⟨hR, hne, by have := HL.out; omega⟩ hok
  obtain ⟨hE, hN, hQ, hM⟩ := hbad
  have eE : (E != 0) = true := by rcases hE with rfl | rfl <;> rfl
  have hqn : q = len0_1 := by rw [← HQ.out, hQ, HL.out]
  subst hN
  subst hM
  subst hqn
  subst hQ
  have hcond : (R = false) ∨ (R = true ∧ ¬ (q : Int) < 64) ∨ (R = true ∧ (q : Int) < 64 ∧ ¬ N < 2147483647) := by
    by_cases hr : Lx.Right N Q
    · have h1 : R = true := by rw [← HR.out]; exact tell_yes hr
      by_cases h64 : q < 64
      · refine .inr (.inr ⟨h1, by omega, fun h => hok ⟨hr, by omega, h64⟩⟩)
      · exact .inr (.inl ⟨h1, by omega⟩)
    · exact .inl (by rw [← HR.out]; exact tell_no hr)
  have x0 := kx6.cell 0 rfl
  clear x0
  clear hE hok HP HSQ HQ
  rcases hcond with rfl | ⟨rfl, h64⟩ | ⟨rfl, h64, htop⟩
  all_goals
    go_wp2
    go_loopw [84] (fun v84 wx => ∃ j : Nat, j ≤ q ∧ v84 = .int .i64 j ∧ (∀ i, i < j → (Q.getD i fr0).1 ≠ -1) ∧ Below u6.heap.size u6 wx) (fun i _ => q - (intOf i).toNat)
    case atStart => exact ⟨0, Nat.zero_le _, rfl, fun i hi => by omega, Below.refl _ _⟩
    case round =>
      obtain ⟨j, hj, rfl, hno, hbj⟩ := hrel
      have HN : Hid (∀ i, i < j → (Q.getD i fr0).1 ≠ -1) := hno
      clear hno l0 l1 n0 n1
      by_cases hjq : j < q
      · have hji : (j : Int) < (q : Int) := by omega
        obtain ⟨g1, o1, rfl, _, _, c1, c2⟩ := fr_at (Shape.now hA (bel_then hB6 hbj)) hjq
        obtain ⟨x, hx⟩ : ∃ x, (Q.getD j fr0).1 = x := ⟨_, rfl⟩
        rw [hx] at c1
        have HX : Hid ((Q.getD j fr0).1 = x) := hx
        clear hx
        generalize (Q.getD j fr0).2.1 = y at *
        by_cases hx1 : x = -1
        · have ex : (x == -1) = true := by simpa using hx1
          clear hx1
          go_wp2_with (go_at_call 9; refine (lawake _).mono ?_; rintro e u9 ⟨rfl, hb9⟩)
          go_ret
          exact ⟨rfl, bel_then (bel_alloc (bel_then hB6 hbj) _) hb9⟩
        · have ex : (x == -1) = false := by simpa using hx1
          have HX1 : Hid (x ≠ -1) := hx1
          clear hx1
          go_wp2
          go_roundw
          case rel =>
            refine ⟨j + 1, by omega, by go_num, fun i hi => ?_, bel_alloc hbj _⟩
            by_cases e : i = j
            · subst e; rw [HX.out]; exact HX1.out
            · exact HN.out i (by omega)
          case measure => simp [intOf]; omega
      · have hjq' : j = q := by omega
        subst hjq'
        have hji : ¬ (j : Int) < (j : Int) := by omega
        have hTQ : T = Q := by
          rw [← HT.out, Lx.told_none]
          intro f hf
          obtain ⟨i, hi⟩ := List.getElem?_of_mem hf
          have hil : i < Q.length := (List.getElem?_eq_some_iff.1 hi).1
          have := HN.out i (by have := HL.out; omega)
          rwa [List.getD_eq_getElem?_getD, hi] at this
        have hnq : nt = j := by rw [← HNT.out, hTQ, HL.out]
        subst hTQ
        subst hnq
        have x0 := (kx6.keep hbj).cell 0 rfl
        have x1 := (kx6.keep hbj).cell 1 rfl
        have y0 := (ky6.keep hbj).cell 0 rfl
        have y1 := (ky6.keep hbj).cell 1 rfl
        go_wp2_with fail
        refine (rlsame N ax nt cx T ay cy wr (Shape.below rx6 hbj) (Shape.below ry6 hbj) hn).mono ?_
        rintro e u7 ⟨rfl, hb7⟩
        have hbk := bel_then hbj hb7
        clear x0 x1 y0 y1
        have x0 := (kx6.keep hbk).cell 0 rfl
        have x1 := (kx6.keep hbk).cell 1 rfl
        have t0 := (kt6.keep hbk).cell 0 rfl
        have t1 := (kt6.keep hbk).cell 1 rfl
        go_wp2_with fail
        refine (rlsame N ax nt cx T az cz u7 (Shape.below rx6 hbk) (Shape.below rt6 hbk) hn).mono ?_
        rintro e u8 ⟨rfl, hb8⟩
        go_wp2_with (go_at_call 9; refine (lawake _).mono ?_; rintro e u9 ⟨rfl, hb9⟩)
        go_ret
        exact ⟨rfl, bel_then (bel_then (bel_then hB6 hbk) hb8) hb9⟩

/- From the walk to the row. -/
set_option maxRecDepth 100000 in
theorem lifted (os : Os) (started : os.Started) (H : Type) (enc : TypeId × Value → H) :
    ReturnsInHanded {} Try.checked os 5 .any (Rows.linkWrongSpec.pre6 enc Try.prog Try.f5 Rows.linkWrongRow.domain false) (Rows.linkWrongSpec.post enc Try.prog Try.f5 false true false false) := by
  refine returnsInHanded_of_change (C := Try.checked) own started (by kernel_rfl) Try.func5
    (ChangeSpec.witness6 (enc := enc) (C := Try.checked) false ⟨#[], #[.agg #[.int .i64 0, .slice none 0 0], .string ByteArray.empty], []⟩ 8 (by kernel_rfl) (by kernel_rfl) (by kernel_rfl) (by kernel_rfl)) ?_
  intro W base args ds gs before hval0 hW hcnd _
  have hval : ∀ (j : Nat) t v, Try.f5.params[j]? = some t → args[j]? = some v → Value.okWide Try.prog W .any base t v := hval0
  have hW' := hW
  obtain ⟨p, q, hA0, hV, rfl, hfz, hnd⟩ := hW
  have hA : DataW.TrodAll enc Try.prog W 0 (fun _ => true) true Try.f5.params.toList args.toList ds p := hA0
  rw [Try.params5] at hA hval
  obtain ⟨v0, vs0, d0, ds0, p0, q0, hargs, rfl, rfl, h0, r0⟩ := trodAll_cons hA
  obtain ⟨v1, vs1, d1, ds1, p1, q1, rfl, rfl, rfl, h1, r1⟩ := trodAll_cons r0
  obtain ⟨rfl, rfl, rfl⟩ := trodAll_nil r1
  obtain rfl : args = #[v0, v1] := by cases args; simp_all
  obtain ⟨rfl, rfl⟩ := trodVars_none hV
  obtain ⟨cs0, rfl⟩ := okWide_agg Try.underlying24 (hval 0 24 v0 rfl rfl)
  have k0 := h0
  have lt0 : ∀ x ∈ p0, x.block < W.heap.size := by obtain ⟨m, hm⟩ := k0; exact DataW.trod_lt m _ _ _ hm
  obtain ⟨y0, hy0, hw0⟩ : ∃ y, (consS (intS .i64) (consS (sliceS (consS (intS .i64) (consS strS noneS))) noneS)).rep W everywhere cs0 y ∧ ((Lit.int .i64 y.1).wf = true ∧ ((∀ x0 ∈ y.2.1, ((Lit.int .i64 x0.1).wf = true ∧ (ByteArray.size x0.2.1 ≤ maxLen ∧ True))) ∧ True)) := by
    obtain ⟨fuel, hf⟩ := h0
    exact (opens_struct Try.underlying24 (show Try.prog.cellsOf 24 = 2 by kernel_rfl) (opensAt_cons (A := (intS .i64)) rfl (show Try.prog.cellsOf 3 = 1 by kernel_rfl) (opens_int Try.underlying3) (opensAt_cons (A := (sliceS (consS (intS .i64) (consS strS noneS)))) rfl (show Try.prog.cellsOf 22 = 1 by kernel_rfl) (opens_slice (A := (consS (intS .i64) (consS strS noneS))) Try.underlying22 (show Try.prog.cellsOf 45 = 2 by kernel_rfl) (by exact Nat.succ_pos _) (opens_struct Try.underlying45 (show Try.prog.cellsOf 45 = 2 by kernel_rfl) (opensAt_cons (A := (intS .i64)) rfl (show Try.prog.cellsOf 3 = 1 by kernel_rfl) (opens_int Try.underlying3) (opensAt_cons (A := strS) rfl (show Try.prog.cellsOf 9 = 1 by kernel_rfl) (opens_string Try.underlying9) opensAt_nil (by rfl)) (by rfl)))) opensAt_nil (by rfl)) (by rfl))) H enc W _ _ _ fuel _ _ (by simpa [Value.cells] using hf)
  obtain ⟨a0_0, m0_1, _⟩ := y0
  obtain ⟨d0_0, rfl, hy0_0⟩ := consS_int hy0
  obtain ⟨a0_1, len0_1, cap0_1, d0_1, rfl, w0_1, hy0_1⟩ := consS_slice hy0_0
  obtain rfl := noneS_nil hy0_1
  obtain ⟨w0_0, f0_1, _⟩ := hw0
  obtain ⟨a1, rfl, rfl, rfl, w1⟩ := open_string Try.underlying9 (hval 1 9 v1 rfl rfl) h1
  clear hA0 hval0
  refine (walk a0_0 a0_1 len0_1 cap0_1 m0_1 a1 W w0_0 w0_1 f0_1 w1).mono fun e W' ⟨he, bel⟩ => ?_
  subst he
  exact ⟨_, rfl, _, _, _, [], _, [], hW', trodAll_mk1 (shut_bool Try.underlying4 _), (trodAll_cons_mk (Below.trod laidOut (by kernel_rfl) (of_decide_eq_true (by kernel_rfl)) k0 bel lt0) (trodAll_cons_mk (shut_string Try.underlying9 w1) trodAll_mk0)), rfl, bel.frame _, fun h => by cases h⟩

theorem over : Rows.linkWrongRow.holds Try.pinned (OpenSpec.ofChange Rows.linkWrongSpec) :=
  OpenClaim.holds_of_wide 5 Try.f5 rfl rfl rfl rfl rfl rfl rfl ⟨rfl, rfl, rfl, rfl, rfl⟩ rfl rfl rfl rfl rfl (by kernel_rfl) Try.func5 (by kernel_rfl)
    (of_decide_eq_true (by kernel_rfl)) (by unfold Func.isWrapper; first | (rw [if_pos (by decide +kernel)]; kernel_rfl) | (rw [if_neg (by decide +kernel)]; exact ⟨rfl, rfl⟩))
    (fun os started H enc _ => lifted os started H enc)

end Go.Proofs.Ytfdbnongpkiibaa.linkWrong

namespace Go.Proofs.Ytfdbnongpkiibaa
theorem linkWrong_holds : Rows.LinkWrongSaid := linkWrong.over
end Go.Proofs.Ytfdbnongpkiibaa
