/- P5.2: shares are not below 0, and One together; the greater number has not less; of what is below 0 the share is that of 0. -/
import Derived.Test.YtbnjihidjggpmaaRows
import Derived.Test.YtbnjihidjggpmaaShareA
import Derived.WalkKit
import Derived.ProofKit
import Derived.OpenShut
import Derived.ShutString
import Derived.ChangeOld
import Derived.Below
namespace Go.Proofs.Ytbnjihidjggpmaa.shareFair
open Go.ChangeShapes Go.WideShapes Go.ChangeAt Go.RowKit
open Go.ChangeMaps (open_string shut_string)
set_option linter.unusedVariables false

theorem own : ownKnob Try.prog.godebug = none := by kernel_rfl
theorem laidOut : laidOutB Try.prog = true := by kernel_rfl

/- The walk: the call returns true, and nothing that was there is written. -/
theorem walk (a0 : Int) (a1 : Int) (w : World) (w0 : (Lit.int .i64 a0).wf = true) (w1 : (Lit.int .i64 a1).wf = true) :
    Calls Try.prog 4 #[.int .i64 a0, .int .i64 a1] w fun e w' => e = .returned (.bool true) ∧ Below w.heap.size w w' := by
  clear w0 w1
  have h3 : a0 < a1 ∨ a0 = a1 ∨ a1 < a0 := by omega
  have hx : a0 < 0 ∨ a0 = 0 ∨ 0 < a0 := by omega
  have hy : a1 < 0 ∨ a1 = 0 ∨ 0 < a1 := by omega
  rcases h3 with h3 | rfl | h3
  · rcases hx with hx | rfl | hx
    · rcases hy with hy | rfl | hy
      · obtain ⟨f1, f2, f3, f4⟩ := Sx.fair (a := a0) (b := a1) (M := a1) (m := a0) (u := 0) (v := 0) (Sx.part_mono (by omega)) (Sx.part_low hx).symm (Sx.part_low hy).symm
        have s1 := Sx.share_lo a1 a0; have s2 := Sx.share_hi a1 a0; have s3 := Sx.share_lo a0 a1; have s4 := Sx.share_hi a0 a1; have s5 := Sx.share_lo 0 0; have s6 := Sx.share_hi 0 0
        go_enter Try.func4, Try.ntmps4
        go_wp2_with (first | (go_at_call 7; refine by_same (shares _ _ _) ?_) | (go_at_call 9; refine by_same (sawake _) ?_) | fail)
        go_ret
        exact ⟨rfl, Below.refl _ _⟩
      · obtain ⟨f1, f2, f3, f4⟩ := Sx.fair (a := a0) (b := 0) (M := 0) (m := a0) (u := 0) (v := 0) (Sx.part_mono (by omega)) (Sx.part_low hx).symm rfl
        have s1 := Sx.share_lo 0 a0; have s2 := Sx.share_hi 0 a0; have s3 := Sx.share_lo a0 0; have s4 := Sx.share_hi a0 0; have s5 := Sx.share_lo 0 0; have s6 := Sx.share_hi 0 0
        go_enter Try.func4, Try.ntmps4
        go_wp2_with (first | (go_at_call 7; refine by_same (shares _ _ _) ?_) | (go_at_call 9; refine by_same (sawake _) ?_) | fail)
        go_ret
        exact ⟨rfl, Below.refl _ _⟩
      · obtain ⟨f1, f2, f3, f4⟩ := Sx.fair (a := a0) (b := a1) (M := a1) (m := a0) (u := 0) (v := a1) (Sx.part_mono (by omega)) (Sx.part_low hx).symm rfl
        have s1 := Sx.share_lo a1 a0; have s2 := Sx.share_hi a1 a0; have s3 := Sx.share_lo a0 a1; have s4 := Sx.share_hi a0 a1; have s5 := Sx.share_lo 0 a1; have s6 := Sx.share_hi 0 a1
        go_enter Try.func4, Try.ntmps4
        go_wp2_with (first | (go_at_call 7; refine by_same (shares _ _ _) ?_) | (go_at_call 9; refine by_same (sawake _) ?_) | fail)
        go_ret
        exact ⟨rfl, Below.refl _ _⟩
    · rcases hy with hy | rfl | hy
      · omega
      · omega
      · obtain ⟨f1, f2, f3, f4⟩ := Sx.fair (a := 0) (b := a1) (M := a1) (m := 0) (u := 0) (v := a1) (Sx.part_mono (by omega)) rfl rfl
        have s1 := Sx.share_lo a1 0; have s2 := Sx.share_hi a1 0; have s3 := Sx.share_lo 0 a1; have s4 := Sx.share_hi 0 a1; have s5 := Sx.share_lo 0 a1; have s6 := Sx.share_hi 0 a1
        go_enter Try.func4, Try.ntmps4
        go_wp2_with (first | (go_at_call 7; refine by_same (shares _ _ _) ?_) | (go_at_call 9; refine by_same (sawake _) ?_) | fail)
        go_ret
        exact ⟨rfl, Below.refl _ _⟩
    · rcases hy with hy | rfl | hy
      · omega
      · omega
      · obtain ⟨f1, f2, f3, f4⟩ := Sx.fair (a := a0) (b := a1) (M := a1) (m := a0) (u := a0) (v := a1) (Sx.part_mono (by omega)) rfl rfl
        have s1 := Sx.share_lo a1 a0; have s2 := Sx.share_hi a1 a0; have s3 := Sx.share_lo a0 a1; have s4 := Sx.share_hi a0 a1; have s5 := Sx.share_lo a0 a1; have s6 := Sx.share_hi a0 a1
        go_enter Try.func4, Try.ntmps4
        go_wp2_with (first | (go_at_call 7; refine by_same (shares _ _ _) ?_) | (go_at_call 9; refine by_same (sawake _) ?_) | fail)
        go_ret
        exact ⟨rfl, Below.refl _ _⟩
  · clear hy
    rcases hx with hx | rfl | hx
    · obtain ⟨f1, f2, f3, f4⟩ := Sx.fair (a := a0) (b := a0) (M := a0) (m := a0) (u := 0) (v := 0) (Sx.part_mono (by omega)) (Sx.part_low hx).symm (Sx.part_low hx).symm
      have s1 := Sx.share_lo a0 a0; have s2 := Sx.share_hi a0 a0; have s3 := Sx.share_lo a0 a0; have s4 := Sx.share_hi a0 a0; have s5 := Sx.share_lo 0 0; have s6 := Sx.share_hi 0 0
      go_enter Try.func4, Try.ntmps4
      go_wp2_with (first | (go_at_call 7; refine by_same (shares _ _ _) ?_) | (go_at_call 9; refine by_same (sawake _) ?_) | fail)
      go_ret
      exact ⟨rfl, Below.refl _ _⟩
    · obtain ⟨f1, f2, f3, f4⟩ := Sx.fair (a := 0) (b := 0) (M := 0) (m := 0) (u := 0) (v := 0) (Sx.part_mono (by omega)) rfl rfl
      have s1 := Sx.share_lo 0 0; have s2 := Sx.share_hi 0 0; have s3 := Sx.share_lo 0 0; have s4 := Sx.share_hi 0 0; have s5 := Sx.share_lo 0 0; have s6 := Sx.share_hi 0 0
      go_enter Try.func4, Try.ntmps4
      go_wp2_with (first | (go_at_call 7; refine by_same (shares _ _ _) ?_) | (go_at_call 9; refine by_same (sawake _) ?_) | fail)
      go_ret
      exact ⟨rfl, Below.refl _ _⟩
    · obtain ⟨f1, f2, f3, f4⟩ := Sx.fair (a := a0) (b := a0) (M := a0) (m := a0) (u := a0) (v := a0) (Sx.part_mono (by omega)) rfl rfl
      have s1 := Sx.share_lo a0 a0; have s2 := Sx.share_hi a0 a0; have s3 := Sx.share_lo a0 a0; have s4 := Sx.share_hi a0 a0; have s5 := Sx.share_lo a0 a0; have s6 := Sx.share_hi a0 a0
      go_enter Try.func4, Try.ntmps4
      go_wp2_with (first | (go_at_call 7; refine by_same (shares _ _ _) ?_) | (go_at_call 9; refine by_same (sawake _) ?_) | fail)
      go_ret
      exact ⟨rfl, Below.refl _ _⟩
  · rcases hx with hx | rfl | hx
    · rcases hy with hy | rfl | hy
      · obtain ⟨f1, f2, f3, f4⟩ := Sx.fair (a := a0) (b := a1) (M := a0) (m := a1) (u := 0) (v := 0) (Sx.part_mono (by omega)) (Sx.part_low hx).symm (Sx.part_low hy).symm
        have s1 := Sx.share_lo a0 a1; have s2 := Sx.share_hi a0 a1; have s3 := Sx.share_lo a0 a1; have s4 := Sx.share_hi a0 a1; have s5 := Sx.share_lo 0 0; have s6 := Sx.share_hi 0 0
        go_enter Try.func4, Try.ntmps4
        go_wp2_with (first | (go_at_call 7; refine by_same (shares _ _ _) ?_) | (go_at_call 9; refine by_same (sawake _) ?_) | fail)
        go_ret
        exact ⟨rfl, Below.refl _ _⟩
      · omega
      · omega
    · rcases hy with hy | rfl | hy
      · obtain ⟨f1, f2, f3, f4⟩ := Sx.fair (a := 0) (b := a1) (M := 0) (m := a1) (u := 0) (v := 0) (Sx.part_mono (by omega)) rfl (Sx.part_low hy).symm
        have s1 := Sx.share_lo 0 a1; have s2 := Sx.share_hi 0 a1; have s3 := Sx.share_lo 0 a1; have s4 := Sx.share_hi 0 a1; have s5 := Sx.share_lo 0 0; have s6 := Sx.share_hi 0 0
        go_enter Try.func4, Try.ntmps4
        go_wp2_with (first | (go_at_call 7; refine by_same (shares _ _ _) ?_) | (go_at_call 9; refine by_same (sawake _) ?_) | fail)
        go_ret
        exact ⟨rfl, Below.refl _ _⟩
      · omega
      · omega
    · rcases hy with hy | rfl | hy
      · obtain ⟨f1, f2, f3, f4⟩ := Sx.fair (a := a0) (b := a1) (M := a0) (m := a1) (u := a0) (v := 0) (Sx.part_mono (by omega)) rfl (Sx.part_low hy).symm
        have s1 := Sx.share_lo a0 a1; have s2 := Sx.share_hi a0 a1; have s3 := Sx.share_lo a0 a1; have s4 := Sx.share_hi a0 a1; have s5 := Sx.share_lo a0 0; have s6 := Sx.share_hi a0 0
        go_enter Try.func4, Try.ntmps4
        go_wp2_with (first | (go_at_call 7; refine by_same (shares _ _ _) ?_) | (go_at_call 9; refine by_same (sawake _) ?_) | fail)
        go_ret
        exact ⟨rfl, Below.refl _ _⟩
      · obtain ⟨f1, f2, f3, f4⟩ := Sx.fair (a := a0) (b := 0) (M := a0) (m := 0) (u := a0) (v := 0) (Sx.part_mono (by omega)) rfl rfl
        have s1 := Sx.share_lo a0 0; have s2 := Sx.share_hi a0 0; have s3 := Sx.share_lo a0 0; have s4 := Sx.share_hi a0 0; have s5 := Sx.share_lo a0 0; have s6 := Sx.share_hi a0 0
        go_enter Try.func4, Try.ntmps4
        go_wp2_with (first | (go_at_call 7; refine by_same (shares _ _ _) ?_) | (go_at_call 9; refine by_same (sawake _) ?_) | fail)
        go_ret
        exact ⟨rfl, Below.refl _ _⟩
      · obtain ⟨f1, f2, f3, f4⟩ := Sx.fair (a := a0) (b := a1) (M := a0) (m := a1) (u := a0) (v := a1) (Sx.part_mono (by omega)) rfl rfl
        have s1 := Sx.share_lo a0 a1; have s2 := Sx.share_hi a0 a1; have s3 := Sx.share_lo a0 a1; have s4 := Sx.share_hi a0 a1; have s5 := Sx.share_lo a0 a1; have s6 := Sx.share_hi a0 a1
        go_enter Try.func4, Try.ntmps4
        go_wp2_with (first | (go_at_call 7; refine by_same (shares _ _ _) ?_) | (go_at_call 9; refine by_same (sawake _) ?_) | fail)
        go_ret
        exact ⟨rfl, Below.refl _ _⟩

/- From the walk to the row. -/
set_option maxRecDepth 100000 in
theorem lifted (os : Os) (started : os.Started) (H : Type) (enc : TypeId × Value → H) :
    ReturnsInHanded {} Try.checked os 4 .any (Rows.shareFairSpec.pre6 enc Try.prog Try.f4 Rows.shareFairRow.domain false) (Rows.shareFairSpec.post enc Try.prog Try.f4 false true false false) := by
  refine returnsInHanded_of_change (C := Try.checked) own started (by kernel_rfl) Try.func4
    (ChangeSpec.witness6 (enc := enc) (C := Try.checked) false ⟨#[], #[.int .i64 0, .int .i64 0], []⟩ 8 (by kernel_rfl) (by kernel_rfl) (by kernel_rfl) (by kernel_rfl)) ?_
  intro W base args ds gs before hval0 hW hcnd _
  have hval : ∀ (j : Nat) t v, Try.f4.params[j]? = some t → args[j]? = some v → Value.okWide Try.prog W .any base t v := hval0
  have hW' := hW
  obtain ⟨p, q, hA0, hV, rfl, hfz, hnd⟩ := hW
  have hA : DataW.TrodAll enc Try.prog W 0 (fun _ => true) true Try.f4.params.toList args.toList ds p := hA0
  rw [Try.params4] at hA hval
  obtain ⟨v0, vs0, d0, ds0, p0, q0, hargs, rfl, rfl, h0, r0⟩ := trodAll_cons hA
  obtain ⟨v1, vs1, d1, ds1, p1, q1, rfl, rfl, rfl, h1, r1⟩ := trodAll_cons r0
  obtain ⟨rfl, rfl, rfl⟩ := trodAll_nil r1
  obtain rfl : args = #[v0, v1] := by cases args; simp_all
  obtain ⟨rfl, rfl⟩ := trodVars_none hV
  obtain ⟨a0, rfl, rfl, rfl, w0⟩ := open_int Try.underlying3 (hval 0 3 v0 rfl rfl) h0
  obtain ⟨a1, rfl, rfl, rfl, w1⟩ := open_int Try.underlying3 (hval 1 3 v1 rfl rfl) h1
  clear hA0 hval0
  refine (walk a0 a1 W w0 w1).mono fun e W' ⟨he, bel⟩ => ?_
  subst he
  exact ⟨_, rfl, _, _, _, [], _, [], hW', trodAll_mk1 (shut_bool Try.underlying4 _), (trodAll_cons_mk (shut_int Try.underlying3 w0) (trodAll_cons_mk (shut_int Try.underlying3 w1) trodAll_mk0)), rfl, bel.frame _, fun h => by cases h⟩

theorem over : Rows.shareFairRow.holds Try.pinned (OpenSpec.ofChange Rows.shareFairSpec) :=
  OpenClaim.holds_of_wide 4 Try.f4 rfl rfl rfl rfl rfl rfl rfl ⟨rfl, rfl, rfl, rfl, rfl⟩ rfl rfl rfl rfl rfl (by kernel_rfl) Try.func4 (by kernel_rfl)
    (of_decide_eq_true (by kernel_rfl)) (by unfold Func.isWrapper; first | (rw [if_pos (by decide +kernel)]; kernel_rfl) | (rw [if_neg (by decide +kernel)]; exact ⟨rfl, rfl⟩))
    (fun os started H enc _ => lifted os started H enc)

end Go.Proofs.Ytbnjihidjggpmaa.shareFair

namespace Go.Proofs.Ytbnjihidjggpmaa
theorem shareFair_holds : Rows.ShareFairSaid := shareFair.over
end Go.Proofs.Ytbnjihidjggpmaa
