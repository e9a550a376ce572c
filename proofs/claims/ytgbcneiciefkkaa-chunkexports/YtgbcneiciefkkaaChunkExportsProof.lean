/- ChunkExports: an expert's bytes are what the document says, or refused; cut and joined they are imported to it. -/
import Derived.Test.YtgbcneiciefkkaaRows
import Derived.Test.YtgbcneiciefkkaaChkL
import Derived.WalkKit
import Derived.ProofKit
import Derived.OpenShut
import Derived.ShutString
import Derived.ChangeOld
import Derived.Below
namespace Go.Proofs.Ytgbcneiciefkkaa.chunkExports
open Go.ChangeShapes Go.WideShapes Go.ChangeAt Go.RowKit
open Go.ChangeMaps (open_string shut_string)
set_option linter.unusedVariables false

theorem own : ownKnob Try.prog.godebug = none := by kernel_rfl
theorem laidOut : laidOutB Try.prog = true := by kernel_rfl

/- The walk: the call returns true, and nothing that was there is written. -/
set_option maxHeartbeats 4000000 in
set_option maxRecDepth 100000 in
theorem walk (a0_0 : Option Addr) (len0_0 cap0_0 : Nat) (m0_0 : List (List Int)) (a0_1 : Option Addr) (len0_1 cap0_1 : Nat) (m0_1 : List (List Int)) (a1 : Int) (a2 : Int) (w : World) (w0_0 : (sliceS (sliceS (intS .i64))).rep w everywhere [.slice a0_0 len0_0 cap0_0] m0_0) (f0_0 : (∀ x0 ∈ m0_0, (∀ x1 ∈ x0, (Lit.int .i64 x1).wf = true))) (w0_1 : (sliceS (sliceS (intS .i64))).rep w everywhere [.slice a0_1 len0_1 cap0_1] m0_1) (f0_1 : (∀ x0 ∈ m0_1, (∀ x1 ∈ x0, (Lit.int .i64 x1).wf = true))) (w1 : (Lit.int .i64 a1).wf = true) (w2 : (Lit.int .i64 a2).wf = true) :
    Calls Try.prog 3 #[.agg #[.slice a0_0 len0_0 cap0_0, .slice a0_1 len0_1 cap0_1], .int .i64 a1, .int .i64 a2] w fun e w' => e = .returned (.bool true) ∧ Below w.heap.size w w' := by
  clear w1 w2
  have hX : Exp w a0_0 len0_0 cap0_0 a0_1 len0_1 cap0_1 m0_0 m0_1 := ⟨w0_0, w0_1⟩
  clear w0_0 w0_1 f0_0 f0_1
  have hB := new_bel w (.cells #[.slice a0_0 len0_0 cap0_0, .slice a0_1 len0_1 cap0_1] 24)
  have q := Box.new w 24 #[.slice a0_0 len0_0 cap0_0, .slice a0_1 len0_1 cap0_1]
  have hX0 := hX.below hB
  clear hX
  by_cases hs0 : Mx.Small m0_0
  case neg =>
    have HSN : Hid (¬ Mx.Small m0_0) := hs0
    clear hs0
    go_enter Try.func3, Try.ntmps3
    go_wp2_with fail
    refine by_says (small _ _ _ m0_0 everywhere _ hX0.i) (fun h => absurd h HSN.out) (fun _ => ?_)
    go_wp2_with fail
    refine (kawake _).mono ?_
    rintro e u6 ⟨rfl, hb6⟩
    go_wp2
    go_ret
    exact ⟨rfl, bel_then hB hb6⟩
  have HS0 : Hid (Mx.Small m0_0) := hs0
  clear hs0
  by_cases hs1 : Mx.Small m0_1
  case neg =>
    have HSN : Hid (¬ Mx.Small m0_1) := hs1
    clear hs1
    go_enter Try.func3, Try.ntmps3
    go_wp2_with fail
    refine by_says (small _ _ _ m0_0 everywhere _ hX0.i) (fun _ => ?_) (fun h => absurd HS0.out h)
    go_wp2_with fail
    refine by_says (small _ _ _ m0_1 everywhere _ hX0.o) (fun h => absurd h HSN.out) (fun _ => ?_)
    go_wp2_with fail
    refine (kawake _).mono ?_
    rintro e u6 ⟨rfl, hb6⟩
    go_wp2
    go_ret
    exact ⟨rfl, bel_then hB hb6⟩
  have HS1 : Hid (Mx.Small m0_1) := hs1
  clear hs1
  have HI : Hid (Ex.Sized m0_0) := Ex.small_sized HS0.out
  have HO : Hid (Ex.Sized m0_1) := Ex.small_sized HS1.out
  by_cases hp : Ex.Right m0_0 m0_1 a1
  · have HE : Hid (Calls _ _ _ _ _) := kexport _ _ _ _ _ _ _ _ a1 _ hX0 hp
    have HP : Hid (Ex.Right m0_0 m0_1 a1) := hp
    have hsz := exp_short hp
    have HM : Hid (Ck.imp (⟨(Ck.exp m0_0 m0_1 a1).toArray⟩ : ByteArray).data.toList = ((m0_0, m0_1, ()), a1, 0)) := by
      show _ = _
      rw [exp_list]
      exact Ck.imp_exp hp
    have HX : Hid (∀ w, Exp w a0_0 len0_0 cap0_0 a0_1 len0_1 cap0_1 m0_0 m0_1 → Calls Try.prog 14 #[.agg #[.slice a0_0 len0_0 cap0_0, .slice a0_1 len0_1 cap0_1], .int .i64 a1] w fun e w' => e = .returned (.string ⟨(Ck.exp m0_0 m0_1 a1).toArray⟩) ∧ Below w.heap.size w w') := fun w h => krexport _ _ _ _ _ _ _ _ a1 w h hp
    generalize (⟨(Ck.exp m0_0 m0_1 a1).toArray⟩ : ByteArray) = S at *
    obtain ⟨hz1, hz2⟩ := hsz
    have e5 : (S.toList == S.toList) = true := by simp
    clear hp
    by_cases s1 : 1 ≤ a2
    · by_cases s2 : a2 ≤ 64
      · obtain ⟨z, rfl⟩ : ∃ z : Nat, a2 = (z : Int) := ⟨a2.toNat, by omega⟩
        have g1 : (1 : Int) ≤ (z : Int) := by omega
        have g2 : (z : Int) ≤ 64 := by omega
        obtain ⟨n, hn⟩ : ∃ n, Ck.num S.size z = n := ⟨_, rfl⟩
        have hn6 : n ≤ 600 := by have := num_le_size (n := S.size) (z := z) (by omega); omega
        have HK : Hid (∀ w, Calls _ _ _ _ _) := kcut S z (by omega) (by omega) (by omega) n hn
        have HJ : Hid _ := joined S (z := z) (by omega)
        have HJL : Hid _ := joined_len S (z := z) (by omega)
        have ez : ((z : Int) == 0) = false := by rw [beq_eq_false_iff_ne]; omega
        have ed : ((S.size : Int) + (z : Int) - 1).tdiv (z : Int) = (n : Int) := by
          rw [show ((S.size : Int) + (z : Int) - 1) = ((S.size + z - 1 : Nat) : Int) by omega, Int.tdiv_eq_ediv_of_nonneg (by omega), ← hn]
          rfl
        have en : ((n : Int) == (n : Int)) = true := by simp
        have e1 : (a1 == a1) = true := by simp
        clear hn s1 s2
        go_enter Try.func3, Try.ntmps3
        go_wp2_with fail
        refine by_says (small _ _ _ m0_0 everywhere _ hX0.i) (fun _ => ?_) (fun h => absurd HS0.out h)
        go_wp2_with fail
        refine by_says (small _ _ _ m0_1 everywhere _ hX0.o) (fun _ => ?_) (fun h => absurd HS1.out h)
        go_wp2_with fail
        refine HE.out.mono ?_
        rintro e u1 ⟨rfl, hb1⟩
        have hB1 := bel_then hB hb1
        have hX1 := hX0.below hb1
        have q1 := q.keep hb1
        have p0 := q1.cell 0 rfl
        have p1 := q1.cell 1 rfl
        clear HE hX0 q hB
        go_wp2_with fail
        refine (rxright _ _ _ _ _ _ _ _ a1 _ hX1 HI.out HO.out).mono ?_
        rintro e u2 ⟨hs2, hb2⟩
        rw [hs2.is HP.out]
        have hB2 := bel_then hB1 hb2
        have hX2 := hX1.below hb2
        have q2 := q1.keep hb2
        clear hs2 hX1 q1 p0 p1 hB1
        have p0 := q2.cell 0 rfl
        have p1 := q2.cell 1 rfl
        go_wp2_with fail
        refine (HK.out _).mono ?_
        rintro e u3 ⟨hb3, a3, c3, rfl, ho3⟩
        have hB3 := bel_then hB2 hb3
        have hX3 := hX2.below hb3
        have q3 := q2.keep hb3
        have HJ2 : Hid (Calls _ _ _ _ _) := kjoin a3 n c3 _ everywhere u3 ho3.is (by omega) (by rw [HJL.out]; omega)
        rw [HJ.out] at HJ2
        clear HK hX2 q2 p0 p1 hB2 ho3
        go_wp2_with fail
        refine HJ2.out.mono ?_
        rintro e u4 ⟨rfl, hb4⟩
        have hB4 := bel_then hB3 hb4
        have hX4 := hX3.below hb4
        have q4 := q3.keep hb4
        clear HJ HJL HJ2 hX3 q3 hB3
        go_wp2_with fail
        refine (kimport S (by omega) _ _ _ _ _ HM.out).mono ?_
        rintro e u5 ⟨hb5, bi, ni, ci, bo, no, co, rfl, hY5⟩
        have hnb := new_bel u5 (.cells #[.slice bi ni ci, .slice bo no co] 24)
        have hB5 := bel_then (bel_then hB4 hb5) hnb
        have hX5 := (hX4.below hb5).below hnb
        have q5 := (q4.keep hb5).keep hnb
        have hY6 := hY5.below hnb
        have y5 := Box.new u5 24 #[.slice bi ni ci, .slice bo no co]
        clear hX4 q4 hB4 hY5
        go_upto_region 12 with fail
        generalize u5.alloc (.cells #[.slice bi ni ci, .slice bo no co] 24) = U at *
        have p0 := q5.cell 0 rfl
        have p1 := q5.cell 1 rfl
        go_wp2_with fail
        refine (HX.out _ hX5).mono ?_
        rintro e u7 ⟨rfl, hb7⟩
        have hB7 := bel_then hB5 hb7
        have q7 := q5.keep hb7
        have y7 := y5.keep hb7
        have hS : Hid (Calls _ _ _ _ _) := ksame a0_0 len0_0 cap0_0 a0_1 len0_1 cap0_1 m0_0 m0_1 bi ni ci bo no co m0_0 m0_1 u7 (hX5.below hb7) (hY6.below hb7) HI.out HO.out HI.out HO.out true (by simp)
        clear p0 p1 hX5 q5 hB5 hY6 y5 HX
        have p0 := q7.cell 0 rfl
        have p1 := q7.cell 1 rfl
        have p2 := y7.cell 0 rfl
        have p3 := y7.cell 1 rfl
        go_wp2_with fail
        refine hS.out.mono ?_
        rintro e u8 ⟨rfl, hb8⟩
        have hB8 := bel_then hB7 hb8
        clear p0 p1 p2 p3 q7 y7 hS hB7
        go_wp2_with fail
        refine (kawake _).mono ?_
        rintro e u6 ⟨rfl, hb6⟩
        go_wp2
        go_ret
        exact ⟨rfl, bel_then hB8 hb6⟩

      · have HK : Hid (∀ w, Calls _ _ _ _ _) := kcut_no S a2 (by omega)
        go_enter Try.func3, Try.ntmps3
        go_wp2_with fail
        refine by_says (small _ _ _ m0_0 everywhere _ hX0.i) (fun _ => ?_) (fun h => absurd HS0.out h)
        go_wp2_with fail
        refine by_says (small _ _ _ m0_1 everywhere _ hX0.o) (fun _ => ?_) (fun h => absurd HS1.out h)
        go_wp2_with fail
        refine HE.out.mono ?_
        rintro e u1 ⟨rfl, hb1⟩
        have hB1 := bel_then hB hb1
        have hX1 := hX0.below hb1
        have q1 := q.keep hb1
        have p0 := q1.cell 0 rfl
        have p1 := q1.cell 1 rfl
        clear HE hX0 q hB
        go_wp2_with fail
        refine (rxright _ _ _ _ _ _ _ _ a1 _ hX1 HI.out HO.out).mono ?_
        rintro e u2 ⟨hs2, hb2⟩
        rw [hs2.is HP.out]
        have hB2 := bel_then hB1 hb2
        have hX2 := hX1.below hb2
        have q2 := q1.keep hb2
        clear hs2 hX1 q1 p0 p1 hB1
        have p0 := q2.cell 0 rfl
        have p1 := q2.cell 1 rfl
        go_wp2_with fail
        refine (HK.out _).mono ?_
        rintro e u3 ⟨rfl, hww⟩
        obtain rfl := hww
        go_wp2_with fail
        refine (HX.out _ hX2).mono ?_
        rintro e u4 ⟨rfl, hb4⟩
        have hB4 := bel_then hB2 hb4
        clear HX hX2 q2 p0 p1 hB2
        go_wp2_with fail
        refine (kawake _).mono ?_
        rintro e u6 ⟨rfl, hb6⟩
        go_wp2
        go_ret
        exact ⟨rfl, bel_then hB4 hb6⟩

    · have HK : Hid (∀ w, Calls _ _ _ _ _) := kcut_no S a2 (by omega)
      go_enter Try.func3, Try.ntmps3
      go_wp2_with fail
      refine by_says (small _ _ _ m0_0 everywhere _ hX0.i) (fun _ => ?_) (fun h => absurd HS0.out h)
      go_wp2_with fail
      refine by_says (small _ _ _ m0_1 everywhere _ hX0.o) (fun _ => ?_) (fun h => absurd HS1.out h)
      go_wp2_with fail
      refine HE.out.mono ?_
      rintro e u1 ⟨rfl, hb1⟩
      have hB1 := bel_then hB hb1
      have hX1 := hX0.below hb1
      have q1 := q.keep hb1
      have p0 := q1.cell 0 rfl
      have p1 := q1.cell 1 rfl
      clear HE hX0 q hB
      go_wp2_with fail
      refine (rxright _ _ _ _ _ _ _ _ a1 _ hX1 HI.out HO.out).mono ?_
      rintro e u2 ⟨hs2, hb2⟩
      rw [hs2.is HP.out]
      have hB2 := bel_then hB1 hb2
      have hX2 := hX1.below hb2
      have q2 := q1.keep hb2
      clear hs2 hX1 q1 p0 p1 hB1
      have p0 := q2.cell 0 rfl
      have p1 := q2.cell 1 rfl
      go_wp2_with fail
      refine (HK.out _).mono ?_
      rintro e u3 ⟨rfl, hww⟩
      obtain rfl := hww
      go_wp2_with fail
      refine (HX.out _ hX2).mono ?_
      rintro e u4 ⟨rfl, hb4⟩
      have hB4 := bel_then hB2 hb4
      clear HX hX2 q2 p0 p1 hB2
      go_wp2_with fail
      refine (kawake _).mono ?_
      rintro e u6 ⟨rfl, hb6⟩
      go_wp2
      go_ret
      exact ⟨rfl, bel_then hB4 hb6⟩

  · have HE : Hid (Calls _ _ _ _ _) := kexport_no _ _ _ _ _ _ _ _ a1 _ hX0 HI.out HO.out hp
    have HP : Hid (¬ Ex.Right m0_0 m0_1 a1) := hp
    have hse : (noText.toList == ([] : List UInt8)) = true := text_none
    clear hp
    go_enter Try.func3, Try.ntmps3
    go_wp2_with fail
    refine by_says (small _ _ _ m0_0 everywhere _ hX0.i) (fun _ => ?_) (fun h => absurd HS0.out h)
    go_wp2_with fail
    refine by_says (small _ _ _ m0_1 everywhere _ hX0.o) (fun _ => ?_) (fun h => absurd HS1.out h)
    go_wp2_with fail
    refine HE.out.mono ?_
    rintro e u1 ⟨rfl, hb1⟩
    have hB1 := bel_then hB hb1
    have hX1 := hX0.below hb1
    have q1 := q.keep hb1
    have p0 := q1.cell 0 rfl
    have p1 := q1.cell 1 rfl
    clear HE hX0 q hB
    go_wp2_with fail
    refine (rxright _ _ _ _ _ _ _ _ a1 _ hX1 HI.out HO.out).mono ?_
    rintro e u2 ⟨hs2, hb2⟩
    rw [hs2.not HP.out]
    have hB2 := bel_then hB1 hb2
    have hX2 := hX1.below hb2
    have q2 := q1.keep hb2
    clear hs2 hX1 q1 p0 p1 hB1
    have p0 := q2.cell 0 rfl
    have p1 := q2.cell 1 rfl
    go_wp2_with fail
    refine (kawake _).mono ?_
    rintro e u6 ⟨rfl, hb6⟩
    go_wp2
    go_ret
    exact ⟨rfl, bel_then hB2 hb6⟩

/- From the walk to the row. -/
set_option maxRecDepth 100000 in
theorem lifted (os : Os) (started : os.Started) (H : Type) (enc : TypeId × Value → H) :
    ReturnsInHanded {} Try.checked os 3 .any (Rows.chunkExportsSpec.pre6 enc Try.prog Try.f3 Rows.chunkExportsRow.domain false) (Rows.chunkExportsSpec.post enc Try.prog Try.f3 false true false false) := by
  refine returnsInHanded_of_change (C := Try.checked) own started (by kernel_rfl) Try.func3
    (ChangeSpec.witness6 (enc := enc) (C := Try.checked) false ⟨#[], #[.agg #[.slice none 0 0, .slice none 0 0], .int .i64 0, .int .i64 0], []⟩ 8 (by kernel_rfl) (by kernel_rfl) (by kernel_rfl) (by kernel_rfl)) ?_
  intro W base args ds gs before hval0 hW hcnd _
  have hval : ∀ (j : Nat) t v, Try.f3.params[j]? = some t → args[j]? = some v → Value.okWide Try.prog W .any base t v := hval0
  have hW' := hW
  obtain ⟨p, q, hA0, hV, rfl, hfz, hnd⟩ := hW
  have hA : DataW.TrodAll enc Try.prog W 0 (fun _ => true) true Try.f3.params.toList args.toList ds p := hA0
  rw [Try.params3] at hA hval
  obtain ⟨v0, vs0, d0, ds0, p0, q0, hargs, rfl, rfl, h0, r0⟩ := trodAll_cons hA
  obtain ⟨v1, vs1, d1, ds1, p1, q1, rfl, rfl, rfl, h1, r1⟩ := trodAll_cons r0
  obtain ⟨v2, vs2, d2, ds2, p2, q2, rfl, rfl, rfl, h2, r2⟩ := trodAll_cons r1
  obtain ⟨rfl, rfl, rfl⟩ := trodAll_nil r2
  obtain rfl : args = #[v0, v1, v2] := by cases args; simp_all
  obtain ⟨rfl, rfl⟩ := trodVars_none hV
  obtain ⟨cs0, rfl⟩ := okWide_agg Try.underlying24 (hval 0 24 v0 rfl rfl)
  have k0 := h0
  have lt0 : ∀ x ∈ p0, x.block < W.heap.size := by obtain ⟨m, hm⟩ := k0; exact DataW.trod_lt m _ _ _ hm
  obtain ⟨y0, hy0, hw0⟩ : ∃ y, (consS (sliceS (sliceS (intS .i64))) (consS (sliceS (sliceS (intS .i64))) noneS)).rep W everywhere cs0 y ∧ ((∀ x0 ∈ y.1, (∀ x1 ∈ x0, (Lit.int .i64 x1).wf = true)) ∧ ((∀ x0 ∈ y.2.1, (∀ x1 ∈ x0, (Lit.int .i64 x1).wf = true)) ∧ True)) := by
    obtain ⟨fuel, hf⟩ := h0
    exact (opens_struct Try.underlying24 (show Try.prog.cellsOf 24 = 2 by kernel_rfl) (opensAt_cons (A := (sliceS (sliceS (intS .i64)))) rfl (show Try.prog.cellsOf 22 = 1 by kernel_rfl) (opens_slice (A := (sliceS (intS .i64))) Try.underlying22 (show Try.prog.cellsOf 49 = 1 by kernel_rfl) (by exact Nat.succ_pos _) (opens_slice (A := (intS .i64)) Try.underlying49 (show Try.prog.cellsOf 3 = 1 by kernel_rfl) (by exact Nat.succ_pos _) (opens_int Try.underlying3))) (opensAt_cons (A := (sliceS (sliceS (intS .i64)))) rfl (show Try.prog.cellsOf 22 = 1 by kernel_rfl) (opens_slice (A := (sliceS (intS .i64))) Try.underlying22 (show Try.prog.cellsOf 49 = 1 by kernel_rfl) (by exact Nat.succ_pos _) (opens_slice (A := (intS .i64)) Try.underlying49 (show Try.prog.cellsOf 3 = 1 by kernel_rfl) (by exact Nat.succ_pos _) (opens_int Try.underlying3))) opensAt_nil (by rfl)) (by rfl))) H enc W _ _ _ fuel _ _ (by simpa [Value.cells] using hf)
  obtain ⟨m0_0, m0_1, _⟩ := y0
  obtain ⟨a0_0, len0_0, cap0_0, d0_0, rfl, w0_0, hy0_0⟩ := consS_slice hy0
  obtain ⟨a0_1, len0_1, cap0_1, d0_1, rfl, w0_1, hy0_1⟩ := consS_slice hy0_0
  obtain rfl := noneS_nil hy0_1
  obtain ⟨f0_0, f0_1, _⟩ := hw0
  obtain ⟨a1, rfl, rfl, rfl, w1⟩ := open_int Try.underlying3 (hval 1 3 v1 rfl rfl) h1
  obtain ⟨a2, rfl, rfl, rfl, w2⟩ := open_int Try.underlying3 (hval 2 3 v2 rfl rfl) h2
  clear hA0 hval0
  refine (walk a0_0 len0_0 cap0_0 m0_0 a0_1 len0_1 cap0_1 m0_1 a1 a2 W w0_0 f0_0 w0_1 f0_1 w1 w2).mono fun e W' ⟨he, bel⟩ => ?_
  subst he
  exact ⟨_, rfl, _, _, _, [], _, [], hW', trodAll_mk1 (shut_bool Try.underlying4 _), (trodAll_cons_mk (Below.trod laidOut (by kernel_rfl) (of_decide_eq_true (by kernel_rfl)) k0 bel lt0) (trodAll_cons_mk (shut_int Try.underlying3 w1) (trodAll_cons_mk (shut_int Try.underlying3 w2) trodAll_mk0))), rfl, bel.frame _, fun h => by cases h⟩

theorem over : Rows.chunkExportsRow.holds Try.pinned (OpenSpec.ofChange Rows.chunkExportsSpec) :=
  OpenClaim.holds_of_wide 3 Try.f3 rfl rfl rfl rfl rfl rfl rfl ⟨rfl, rfl, rfl, rfl, rfl⟩ rfl rfl rfl rfl rfl (by kernel_rfl) Try.func3 (by kernel_rfl)
    (of_decide_eq_true (by kernel_rfl)) (by unfold Func.isWrapper; first | (rw [if_pos (by decide +kernel)]; kernel_rfl) | (rw [if_neg (by decide +kernel)]; exact ⟨rfl, rfl⟩))
    (fun os started H enc _ => lifted os started H enc)

end Go.Proofs.Ytgbcneiciefkkaa.chunkExports

namespace Go.Proofs.Ytgbcneiciefkkaa
theorem chunkExports_holds : Rows.ChunkExportsSaid := chunkExports.over
end Go.Proofs.Ytgbcneiciefkkaa
