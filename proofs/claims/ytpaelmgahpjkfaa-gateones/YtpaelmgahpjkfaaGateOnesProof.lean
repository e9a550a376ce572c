/- By one row alone its expert has all of One, by two that are the same both have half: GateOnes returns true for every row and v. No conditions. -/
import Derived.Test.YtpaelmgahpjkfaaRows
import Derived.Test.YtpaelmgahpjkfaaGateB
import Derived.WalkKit
import Derived.ProofKit
import Derived.OpenShut
import Derived.ShutString
import Derived.ChangeOld
import Derived.Below
namespace Go.Proofs.Ytpaelmgahpjkfaa.gateOnes
open Go.ChangeShapes Go.WideShapes Go.ChangeAt Go.RowKit
open Go.ChangeMaps (open_string shut_string)
set_option linter.unusedVariables false

theorem own : ownKnob Try.prog.godebug = none := by kernel_rfl
theorem laidOut : laidOutB Try.prog = true := by kernel_rfl

/- The walk: the call returns true, and nothing that was there is written. -/
set_option maxHeartbeats 4000000 in
set_option maxRecDepth 100000 in
theorem walk (a0 : Option Addr) (len0 cap0 : Nat) (m0 : List Int) (a1 : Option Addr) (len1 cap1 : Nat) (m1 : List Int) (w : World) (w0 : (sliceS (intS .i64)).rep w everywhere [.slice a0 len0 cap0] m0) (f0 : (∀ x0 ∈ m0, (Lit.int .i64 x0).wf = true)) (w1 : (sliceS (intS .i64)).rep w everywhere [.slice a1 len1 cap1] m1) (f1 : (∀ x0 ∈ m1, (Lit.int .i64 x0).wf = true)) :
    Calls Try.prog 6 #[.slice a0 len0 cap0, .slice a1 len1 cap1] w fun e w' => e = .returned (.bool true) ∧ Below w.heap.size w w' := by
  have hv := Row.of_rep w1
  have hl0 := (sliceS_len w0).1
  have hl1 := (sliceS_len w1).1
  clear w1 f0 f1
  by_cases hl : 30 < len0
  · have hi : (30 : Int) < (len0 : Int) := by omega
    go_enter Try.func6, Try.ntmps6
    go_wp2_with fail
    refine (gawake _).mono ?_
    rintro e u1 ⟨rfl, hb1⟩
    go_wp2
    go_ret
    exact ⟨rfl, hb1⟩
  have hi0 : ¬ (30 : Int) < (len0 : Int) := by omega
  by_cases hl2 : 30 < len1
  · have hi : (30 : Int) < (len1 : Int) := by omega
    go_enter Try.func6, Try.ntmps6
    go_wp2_with fail
    refine (gawake _).mono ?_
    rintro e u1 ⟨rfl, hb1⟩
    go_wp2
    go_ret
    exact ⟨rfl, hb1⟩
  have hi1 : ¬ (30 : Int) < (len1 : Int) := by omega
  have hB := new_bel w (.cells #[.slice a0 len0 cap0] 23)
  have hm0 := rows_one w0
  have hv0 := hv.keep hB
  by_cases he : len0 = len1
  case pos =>
    have HI1 : Hid (Gx.Is [m0] m1 0 (-1) 65536 0 true) := Gx.ones_one (by rw [hl0, hl1, he])
    have HI2 : Hid (Gx.Is [m0, m0] m1 0 1 32768 32768 true) := Gx.ones_two (by rw [hl0, hl1, he])
    have g1 : ((len0 : Int) != (len1 : Int)) = false := by rw [he]; simp
    have e1 := eqChoice 0 (-1) 65536 0
    have e2 := eqChoiceIn 0 (-1) 65536 0
    have e3 := eqChoice 0 1 32768 32768
    have e4 := eqChoiceIn 0 1 32768 32768
    clear hl0 hl1 he
    go_enter Try.func6, Try.ntmps6
    go_wp2_with fail
    refine (choose _ a1 1 1 len1 cap1 [m0] m1 everywhere 0 (-1) 65536 0 true _ hm0 hv0 (by omega) (by omega) HI1.out).mono ?_
    rintro e u1 ⟨rfl, hb1⟩
    have hB1 := bel_alloc (bel_then hB hb1) (.cells #[.int .i64 0, .int .i64 (-1), .int .i64 65536, .int .i64 0] 27)
    have k1 := Box.new u1 27 #[.int .i64 0, .int .i64 (-1), .int .i64 65536, .int .i64 0]
    have hr1 := Shape.below w0 hB1
    have hv1 := hv.keep hB1
    clear w0 hv hm0 hv0 hB hb1
    go_upto_region 4 with fail
    generalize u1.alloc (.cells #[.int .i64 0, .int .i64 (-1), .int .i64 65536, .int .i64 0] 27) = u2 at *
    have hm2 := rows_two hr1 hr1
    have hn2 := new_bel u2 (.cells #[.slice a0 len0 cap0, .slice a0 len0 cap0] 23)
    have k2 := k1.keep hn2
    have hv2 := hv1.keep hn2
    have hB2 := bel_then hB1 hn2
    clear hr1 hv1 hn2 k1 hB1
    go_wp2_with fail
    refine (choose _ a1 2 2 len1 cap1 [m0, m0] m1 everywhere 0 1 32768 32768 true _ hm2 hv2 (by omega) (by omega) HI2.out).mono ?_
    rintro e u3 ⟨rfl, hb3⟩
    have k3 := (k2.keep hb3).keep (new_bel u3 (.cells #[.int .i64 0, .int .i64 1, .int .i64 32768, .int .i64 32768] 27))
    have l3 := Box.new u3 27 #[.int .i64 0, .int .i64 1, .int .i64 32768, .int .i64 32768]
    have hB3 := bel_alloc (bel_then hB2 hb3) (.cells #[.int .i64 0, .int .i64 1, .int .i64 32768, .int .i64 32768] 27)
    have c0 := k3.cell 0 rfl; have c1 := k3.cell 1 rfl; have c2 := k3.cell 2 rfl; have c3 := k3.cell 3 rfl
    have d0 := l3.cell 0 rfl; have d1 := l3.cell 1 rfl; have d2 := l3.cell 2 rfl; have d3 := l3.cell 3 rfl
    clear hm2 hv2 k2 hB2 hb3 HI1 HI2
    go_wp2_with fail
    refine (gawake _).mono ?_
    rintro e u4 ⟨rfl, hb4⟩
    go_wp2
    go_ret
    exact ⟨rfl, bel_then hB3 hb4⟩
  case neg =>
    have hno := Gx.ones_no (row := m0) (v := m1) (by rw [hl0, hl1]; exact he)
    have HI1 : Hid (Gx.Is [m0] m1 0 0 0 0 false) := hno.1
    have HI2 : Hid (Gx.Is [m0, m0] m1 0 0 0 0 false) := hno.2
    have g1 : ((len0 : Int) != (len1 : Int)) = true := by rw [bne_iff_ne]; omega
    have e1 := eqChoice 0 0 0 0
    have e2 := eqChoiceIn 0 0 0 0
    clear hl0 hl1 he hno
    go_enter Try.func6, Try.ntmps6
    go_wp2_with fail
    refine (choose _ a1 1 1 len1 cap1 [m0] m1 everywhere 0 0 0 0 false _ hm0 hv0 (by omega) (by omega) HI1.out).mono ?_
    rintro e u1 ⟨rfl, hb1⟩
    have hB1 := bel_alloc (bel_then hB hb1) (.cells #[.int .i64 0, .int .i64 0, .int .i64 0, .int .i64 0] 27)
    have k1 := Box.new u1 27 #[.int .i64 0, .int .i64 0, .int .i64 0, .int .i64 0]
    have hr1 := Shape.below w0 hB1
    have hv1 := hv.keep hB1
    clear w0 hv hm0 hv0 hB hb1
    go_upto_region 4 with fail
    generalize u1.alloc (.cells #[.int .i64 0, .int .i64 0, .int .i64 0, .int .i64 0] 27) = u2 at *
    have hm2 := rows_two hr1 hr1
    have hn2 := new_bel u2 (.cells #[.slice a0 len0 cap0, .slice a0 len0 cap0] 23)
    have k2 := k1.keep hn2
    have hv2 := hv1.keep hn2
    have hB2 := bel_then hB1 hn2
    clear hr1 hv1 hn2 k1 hB1
    go_wp2_with fail
    refine (choose _ a1 2 2 len1 cap1 [m0, m0] m1 everywhere 0 0 0 0 false _ hm2 hv2 (by omega) (by omega) HI2.out).mono ?_
    rintro e u3 ⟨rfl, hb3⟩
    have k3 := (k2.keep hb3).keep (new_bel u3 (.cells #[.int .i64 0, .int .i64 0, .int .i64 0, .int .i64 0] 27))
    have l3 := Box.new u3 27 #[.int .i64 0, .int .i64 0, .int .i64 0, .int .i64 0]
    have hB3 := bel_alloc (bel_then hB2 hb3) (.cells #[.int .i64 0, .int .i64 0, .int .i64 0, .int .i64 0] 27)
    have c0 := k3.cell 0 rfl; have c1 := k3.cell 1 rfl; have c2 := k3.cell 2 rfl; have c3 := k3.cell 3 rfl
    have d0 := l3.cell 0 rfl; have d1 := l3.cell 1 rfl; have d2 := l3.cell 2 rfl; have d3 := l3.cell 3 rfl
    clear hm2 hv2 k2 hB2 hb3 HI1 HI2
    go_wp2_with fail
    refine (gawake _).mono ?_
    rintro e u4 ⟨rfl, hb4⟩
    go_wp2
    go_ret
    exact ⟨rfl, bel_then hB3 hb4⟩

/- From the walk to the row. -/
set_option maxRecDepth 100000 in
theorem lifted (os : Os) (started : os.Started) (H : Type) (enc : TypeId × Value → H) :
    ReturnsInHanded {} Try.checked os 6 .any (Rows.gateOnesSpec.pre6 enc Try.prog Try.f6 Rows.gateOnesRow.domain false) (Rows.gateOnesSpec.post enc Try.prog Try.f6 false true false false) := by
  refine returnsInHanded_of_change (C := Try.checked) own started (by kernel_rfl) Try.func6
    (ChangeSpec.witness6 (enc := enc) (C := Try.checked) false ⟨#[], #[.slice none 0 0, .slice none 0 0], []⟩ 8 (by kernel_rfl) (by kernel_rfl) (by kernel_rfl) (by kernel_rfl)) ?_
  intro W base args ds gs before hval0 hW hcnd _
  have hval : ∀ (j : Nat) t v, Try.f6.params[j]? = some t → args[j]? = some v → Value.okWide Try.prog W .any base t v := hval0
  have hW' := hW
  obtain ⟨p, q, hA0, hV, rfl, hfz, hnd⟩ := hW
  have hA : DataW.TrodAll enc Try.prog W 0 (fun _ => true) true Try.f6.params.toList args.toList ds p := hA0
  rw [Try.params6] at hA hval
  obtain ⟨v0, vs0, d0, ds0, p0, q0, hargs, rfl, rfl, h0, r0⟩ := trodAll_cons hA
  obtain ⟨v1, vs1, d1, ds1, p1, q1, rfl, rfl, rfl, h1, r1⟩ := trodAll_cons r0
  obtain ⟨rfl, rfl, rfl⟩ := trodAll_nil r1
  obtain rfl : args = #[v0, v1] := by cases args; simp_all
  obtain ⟨rfl, rfl⟩ := trodVars_none hV
  obtain ⟨a0, len0, cap0, rfl⟩ := okWide_slice Try.underlying23 (hval 0 23 v0 rfl rfl)
  have k0 := h0
  have lt0 : ∀ x ∈ p0, x.block < W.heap.size := by obtain ⟨m, hm⟩ := k0; exact DataW.trod_lt m _ _ _ hm
  obtain ⟨m0, w0, f0⟩ : ∃ y, (sliceS (intS .i64)).rep W everywhere [.slice a0 len0 cap0] y ∧ (∀ x0 ∈ y, (Lit.int .i64 x0).wf = true) := by
    obtain ⟨fuel, hf⟩ := h0
    exact (opens_slice (A := (intS .i64)) Try.underlying23 (show Try.prog.cellsOf 3 = 1 by kernel_rfl) (by exact Nat.succ_pos _) (opens_int Try.underlying3)) H enc W _ _ _ fuel _ _ hf
  obtain ⟨a1, len1, cap1, rfl⟩ := okWide_slice Try.underlying23 (hval 1 23 v1 rfl rfl)
  have k1 := h1
  have lt1 : ∀ x ∈ p1, x.block < W.heap.size := by obtain ⟨m, hm⟩ := k1; exact DataW.trod_lt m _ _ _ hm
  obtain ⟨m1, w1, f1⟩ : ∃ y, (sliceS (intS .i64)).rep W everywhere [.slice a1 len1 cap1] y ∧ (∀ x0 ∈ y, (Lit.int .i64 x0).wf = true) := by
    obtain ⟨fuel, hf⟩ := h1
    exact (opens_slice (A := (intS .i64)) Try.underlying23 (show Try.prog.cellsOf 3 = 1 by kernel_rfl) (by exact Nat.succ_pos _) (opens_int Try.underlying3)) H enc W _ _ _ fuel _ _ hf
  clear hA0 hval0
  refine (walk a0 len0 cap0 m0 a1 len1 cap1 m1 W w0 f0 w1 f1).mono fun e W' ⟨he, bel⟩ => ?_
  subst he
  exact ⟨_, rfl, _, _, _, [], _, [], hW', trodAll_mk1 (shut_bool Try.underlying4 _), (trodAll_cons_mk (Below.trod laidOut (by kernel_rfl) (of_decide_eq_true (by kernel_rfl)) k0 bel lt0) (trodAll_cons_mk (Below.trod laidOut (by kernel_rfl) (of_decide_eq_true (by kernel_rfl)) k1 bel lt1) trodAll_mk0)), rfl, bel.frame _, fun h => by cases h⟩

theorem over : Rows.gateOnesRow.holds Try.pinned (OpenSpec.ofChange Rows.gateOnesSpec) :=
  OpenClaim.holds_of_wide 6 Try.f6 rfl rfl rfl rfl rfl rfl rfl ⟨rfl, rfl, rfl, rfl, rfl⟩ rfl rfl rfl rfl rfl (by kernel_rfl) Try.func6 (by kernel_rfl)
    (of_decide_eq_true (by kernel_rfl)) (by unfold Func.isWrapper; first | (rw [if_pos (by decide +kernel)]; kernel_rfl) | (rw [if_neg (by decide +kernel)]; exact ⟨rfl, rfl⟩))
    (fun os started H enc _ => lifted os started H enc)

end Go.Proofs.Ytpaelmgahpjkfaa.gateOnes

namespace Go.Proofs.Ytpaelmgahpjkfaa
theorem gateOnes_holds : Rows.GateOnesSaid := gateOnes.over
end Go.Proofs.Ytpaelmgahpjkfaa
