/- For all five numbers switchboardlaw11.ExpertJoins returns true: two experts of one number, side by side, make what both make, added. -/
import Derived.Test.YtpdlpjpbgimmkaaRows
import Derived.Test.YtpdlpjpbgimmkaaExpB
import Derived.WalkKit
import Derived.ProofKit
import Derived.OpenShut
import Derived.ShutString
import Derived.ChangeOld
import Derived.Below
namespace Go.Proofs.Ytpdlpjpbgimmkaa.expertJoins
open Go.ChangeShapes Go.WideShapes Go.ChangeAt Go.RowKit
open Go.ChangeMaps (open_string shut_string)
set_option linter.unusedVariables false

theorem own : ownKnob Try.prog.godebug = none := by kernel_rfl
theorem laidOut : laidOutB Try.prog = true := by kernel_rfl

/- The walk: the call returns true, and nothing that was there is written. -/
set_option maxHeartbeats 4000000 in
set_option maxRecDepth 100000 in
theorem walk (a0 : Int) (a1 : Int) (a2 : Int) (a3 : Int) (a4 : Int) (w : World) (w0 : (Lit.int .i32 a0).wf = true) (w1 : (Lit.int .i32 a1).wf = true) (w2 : (Lit.int .i32 a2).wf = true) (w3 : (Lit.int .i32 a3).wf = true) (w4 : (Lit.int .i32 a4).wf = true) :
    Calls Try.prog 5 #[.int .i32 a0, .int .i32 a1, .int .i32 a2, .int .i32 a3, .int .i32 a4] w fun e w' => e = .returned (.bool true) ∧ Below w.heap.size w w' := by
  have i0 := I32.of w0
  have i1 := I32.of w1
  have i2 := I32.of w2
  have i3 := I32.of w3
  have i4 := I32.of w4
  clear w0 w1 w2 w3 w4
  have HR1 : Hid (Ex.Right [[a0.tmod 1048576]] [[a1.tmod 1048576]] 1) := Ex.right_one (tmod_held _) (tmod_held _)
  have HR2 : Hid (Ex.Right [[a2.tmod 1048576]] [[a3.tmod 1048576]] 1) := Ex.right_one (tmod_held _) (tmod_held _)
  have HR3 : Hid (Ex.Right [[a0.tmod 1048576], [a2.tmod 1048576]] [[a1.tmod 1048576, a3.tmod 1048576]] 1) := Ex.right_joined (tmod_held _) (tmod_held _) (tmod_held _) (tmod_held _)
  have HJ : Hid (Ex.run [[a0.tmod 1048576], [a2.tmod 1048576]] [[a1.tmod 1048576, a3.tmod 1048576]] [a4.tmod 1048576] = Vx.add (Ex.run [[a0.tmod 1048576]] [[a1.tmod 1048576]] [a4.tmod 1048576]) (Ex.run [[a2.tmod 1048576]] [[a3.tmod 1048576]] [a4.tmod 1048576])) := Ex.run_joined _ _ _ _ _
  go_enter Try.func5, Try.ntmps5
  go_wp2_with (go_at_call 14; refine by_same (xbelow _ (by assumption) _) ?_)
  refine (xrun _ 1 1 _ 1 1 _ _ _ 1 1 _ _ (token_one w (a0.tmod 1048576) (a1.tmod 1048576) (a4.tmod 1048576)).1 (sized_one _) (sized_one _) (token_one w (a0.tmod 1048576) (a1.tmod 1048576) (a4.tmod 1048576)).2.1 (by omega)).mono ?_
  rintro e u1 ⟨hg, hb1⟩
  obtain ⟨x1, c1, rfl, hr1⟩ := hg.yes HR1.out
  have hB1 := bel_then (token_one w (a0.tmod 1048576) (a1.tmod 1048576) (a4.tmod 1048576)).2.2 hb1
  clear hg hb1
  go_wp2_with (go_at_call 14; refine by_same (xbelow _ (by assumption) _) ?_)
  refine (xrun _ 1 1 _ 1 1 _ _ _ 1 1 _ _ (token_one u1 (a2.tmod 1048576) (a3.tmod 1048576) (a4.tmod 1048576)).1 (sized_one _) (sized_one _) (token_one u1 (a2.tmod 1048576) (a3.tmod 1048576) (a4.tmod 1048576)).2.1 (by omega)).mono ?_
  rintro e u2 ⟨hg, hb2⟩
  obtain ⟨x2, c2, rfl, hr2⟩ := hg.yes HR2.out
  have hb2 := bel_then (token_one u1 (a2.tmod 1048576) (a3.tmod 1048576) (a4.tmod 1048576)).2.2 hb2
  have hr1 := Shape.below hr1 hb2
  have hB2 := bel_then hB1 hb2
  clear hg hb2
  go_wp2_with (go_at_call 14; refine by_same (xbelow _ (by assumption) _) ?_)
  refine (xrun _ 2 2 _ 1 1 _ _ _ 1 1 _ _ (token_two u2 (a0.tmod 1048576) (a2.tmod 1048576) (a1.tmod 1048576) (a3.tmod 1048576) (a4.tmod 1048576)).1 (sized_two _ _) (sized_wide _ _) (token_two u2 (a0.tmod 1048576) (a2.tmod 1048576) (a1.tmod 1048576) (a3.tmod 1048576) (a4.tmod 1048576)).2.1 (by omega)).mono ?_
  rintro e u3 ⟨hg, hb3⟩
  obtain ⟨x3, c3, rfl, hr3⟩ := hg.yes HR3.out
  have hb3 := bel_then (token_two u2 (a0.tmod 1048576) (a2.tmod 1048576) (a1.tmod 1048576) (a3.tmod 1048576) (a4.tmod 1048576)).2.2 hb3
  have hr1 := Shape.below hr1 hb3
  have hr2 := Shape.below hr2 hb3
  have hB3 := bel_then hB2 hb3
  rw [HJ.out] at hr3
  clear hg hb3
  generalize Ex.run [[a0.tmod 1048576]] [[a1.tmod 1048576]] [a4.tmod 1048576] = l1 at *
  generalize Ex.run [[a2.tmod 1048576]] [[a3.tmod 1048576]] [a4.tmod 1048576] = l2 at *
  go_wp2_with fail
  refine (vadd x1 x2 1 c1 c2 l1 l2 u3 (Row.of_rep hr1) (Row.of_rep hr2) (by omega)).mono ?_
  rintro e u4 ⟨x4, c4, rfl, hr4, hb4⟩
  have hr5 := Shape.below hr3 hb4
  have hB4 := bel_then hB3 hb4
  go_wp2_with fail
  refine (same_true x3 x4 1 c3 c4 _ u4 (Row.of_rep hr5) hr4 (by omega)).mono ?_
  rintro e u5 ⟨rfl, hb5⟩
  have hB5 := bel_then hB4 hb5
  go_wp2_with (go_at_call 8; refine (xawake _).mono ?_; rintro e u6 ⟨rfl, hb6⟩)
  go_ret
  exact ⟨rfl, bel_then hB5 hb6⟩

/- From the walk to the row. -/
set_option maxRecDepth 100000 in
theorem lifted (os : Os) (started : os.Started) (H : Type) (enc : TypeId × Value → H) :
    ReturnsInHanded {} Try.checked os 5 .any (Rows.expertJoinsSpec.pre6 enc Try.prog Try.f5 Rows.expertJoinsRow.domain false) (Rows.expertJoinsSpec.post enc Try.prog Try.f5 false true false false) := by
  refine returnsInHanded_of_change (C := Try.checked) own started (by kernel_rfl) Try.func5
    (ChangeSpec.witness6 (enc := enc) (C := Try.checked) false ⟨#[], #[.int .i32 0, .int .i32 0, .int .i32 0, .int .i32 0, .int .i32 0], []⟩ 8 (by kernel_rfl) (by kernel_rfl) (by kernel_rfl) (by kernel_rfl)) ?_
  intro W base args ds gs before hval0 hW hcnd _
  have hval : ∀ (j : Nat) t v, Try.f5.params[j]? = some t → args[j]? = some v → Value.okWide Try.prog W .any base t v := hval0
  have hW' := hW
  obtain ⟨p, q, hA0, hV, rfl, hfz, hnd⟩ := hW
  have hA : DataW.TrodAll enc Try.prog W 0 (fun _ => true) true Try.f5.params.toList args.toList ds p := hA0
  rw [Try.params5] at hA hval
  obtain ⟨v0, vs0, d0, ds0, p0, q0, hargs, rfl, rfl, h0, r0⟩ := trodAll_cons hA
  obtain ⟨v1, vs1, d1, ds1, p1, q1, rfl, rfl, rfl, h1, r1⟩ := trodAll_cons r0
  obtain ⟨v2, vs2, d2, ds2, p2, q2, rfl, rfl, rfl, h2, r2⟩ := trodAll_cons r1
  obtain ⟨v3, vs3, d3, ds3, p3, q3, rfl, rfl, rfl, h3, r3⟩ := trodAll_cons r2
  obtain ⟨v4, vs4, d4, ds4, p4, q4, rfl, rfl, rfl, h4, r4⟩ := trodAll_cons r3
  obtain ⟨rfl, rfl, rfl⟩ := trodAll_nil r4
  obtain rfl : args = #[v0, v1, v2, v3, v4] := by cases args; simp_all
  obtain ⟨rfl, rfl⟩ := trodVars_none hV
  obtain ⟨a0, rfl, rfl, rfl, w0⟩ := open_int Try.underlying21 (hval 0 21 v0 rfl rfl) h0
  obtain ⟨a1, rfl, rfl, rfl, w1⟩ := open_int Try.underlying21 (hval 1 21 v1 rfl rfl) h1
  obtain ⟨a2, rfl, rfl, rfl, w2⟩ := open_int Try.underlying21 (hval 2 21 v2 rfl rfl) h2
  obtain ⟨a3, rfl, rfl, rfl, w3⟩ := open_int Try.underlying21 (hval 3 21 v3 rfl rfl) h3
  obtain ⟨a4, rfl, rfl, rfl, w4⟩ := open_int Try.underlying21 (hval 4 21 v4 rfl rfl) h4
  clear hA0 hval0
  refine (walk a0 a1 a2 a3 a4 W w0 w1 w2 w3 w4).mono fun e W' ⟨he, bel⟩ => ?_
  subst he
  exact ⟨_, rfl, _, _, _, [], _, [], hW', trodAll_mk1 (shut_bool Try.underlying4 _), (trodAll_cons_mk (shut_int Try.underlying21 w0) (trodAll_cons_mk (shut_int Try.underlying21 w1) (trodAll_cons_mk (shut_int Try.underlying21 w2) (trodAll_cons_mk (shut_int Try.underlying21 w3) (trodAll_cons_mk (shut_int Try.underlying21 w4) trodAll_mk0))))), rfl, bel.frame _, fun h => by cases h⟩

theorem over : Rows.expertJoinsRow.holds Try.pinned (OpenSpec.ofChange Rows.expertJoinsSpec) :=
  OpenClaim.holds_of_wide 5 Try.f5 rfl rfl rfl rfl rfl rfl rfl ⟨rfl, rfl, rfl, rfl, rfl⟩ rfl rfl rfl rfl rfl (by kernel_rfl) Try.func5 (by kernel_rfl)
    (of_decide_eq_true (by kernel_rfl)) (by unfold Func.isWrapper; first | (rw [if_pos (by decide +kernel)]; kernel_rfl) | (rw [if_neg (by decide +kernel)]; exact ⟨rfl, rfl⟩))
    (fun os started H enc _ => lifted os started H enc)

end Go.Proofs.Ytpdlpjpbgimmkaa.expertJoins

namespace Go.Proofs.Ytpdlpjpbgimmkaa
theorem expertJoins_holds : Rows.ExpertJoinsSaid := expertJoins.over
end Go.Proofs.Ytpdlpjpbgimmkaa
