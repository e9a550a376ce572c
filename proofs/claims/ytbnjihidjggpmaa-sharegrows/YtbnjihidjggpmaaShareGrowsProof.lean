/- P5.1, P5.2: a greater number has no less of a share; the other way round both are at most 1 from these. -/
import Derived.Test.YtbnjihidjggpmaaRows
import Derived.Test.YtbnjihidjggpmaaShareA
import Derived.WalkKit
import Derived.ProofKit
import Derived.OpenShut
import Derived.ShutString
import Derived.ChangeOld
import Derived.Below
namespace Go.Proofs.Ytbnjihidjggpmaa.shareGrows
open Go.ChangeShapes Go.WideShapes Go.ChangeAt Go.RowKit
open Go.ChangeMaps (open_string shut_string)
set_option linter.unusedVariables false

theorem own : ownKnob Try.prog.godebug = none := by kernel_rfl
theorem laidOut : laidOutB Try.prog = true := by kernel_rfl

/- The walk: the call returns true, and nothing that was there is written. -/
theorem walk (a0 : Int) (a1 : Int) (a2 : Int) (w : World) (w0 : (Lit.int .i32 a0).wf = true) (w1 : (Lit.int .i32 a1).wf = true) (w2 : (Lit.int .i32 a2).wf = true) :
    Calls Try.prog 5 #[.int .i32 a0, .int .i32 a1, .int .i32 a2] w fun e w' => e = .returned (.bool true) ∧ Below w.heap.size w w' := by
  have b0 := bounds_i32 w0; have b1 := bounds_i32 w1; have b2 := bounds_i32 w2
  obtain ⟨b00, b01⟩ := b0
  obtain ⟨b10, b11⟩ := b1
  obtain ⟨b20, b21⟩ := b2
  clear w0 w1 w2
  have hb := Sx.share_both a0 a1
  have c1 : Sx.share a0 a1 ≤ 65536 - Sx.share a1 a0 := by omega
  have c2 : 65536 - Sx.share a1 a0 ≤ Sx.share a0 a1 + 1 := by omega
  have c3 : (Sx.share a1 a0 + (65536 - Sx.share a1 a0) == 65536) = true := by simp; omega
  have s1 := Sx.share_lo a0 a1; have s2 := Sx.share_hi a0 a1; have s3 := Sx.share_lo a1 a0; have s4 := Sx.share_hi a1 a0
  clear hb
  have h3 : a2 < 0 ∨ a2 = 0 ∨ 0 < a2 := by omega
  rcases h3 with h3 | rfl | h3
  · have c4 := Sx.share_more (a := a0) (c := a0 + 0) a1 (Sx.part_mono (by omega))
    have s5 := Sx.share_lo (a0 + 0) a1; have s6 := Sx.share_hi (a0 + 0) a1
    go_enter Try.func5, Try.ntmps5
    go_wp2_with (first | (go_at_call 7; refine by_same (shares _ _ _) ?_) | (go_at_call 9; refine by_same (sawake _) ?_) | fail)
    go_ret
    exact ⟨rfl, Below.refl _ _⟩
  · have c4 := Sx.share_more (a := a0) (c := a0 + 0) a1 (Sx.part_mono (by omega))
    have s5 := Sx.share_lo (a0 + 0) a1; have s6 := Sx.share_hi (a0 + 0) a1
    go_enter Try.func5, Try.ntmps5
    go_wp2_with (first | (go_at_call 7; refine by_same (shares _ _ _) ?_) | (go_at_call 9; refine by_same (sawake _) ?_) | fail)
    go_ret
    exact ⟨rfl, Below.refl _ _⟩
  · have c4 := Sx.share_more (a := a0) (c := a0 + a2) a1 (Sx.part_mono (by omega))
    have s5 := Sx.share_lo (a0 + a2) a1; have s6 := Sx.share_hi (a0 + a2) a1
    go_enter Try.func5, Try.ntmps5
    go_wp2_with (first | (go_at_call 7; refine by_same (shares _ _ _) ?_) | (go_at_call 9; refine by_same (sawake _) ?_) | fail)
    go_ret
    exact ⟨rfl, Below.refl _ _⟩

/- From the walk to the row. -/
set_option maxRecDepth 100000 in
theorem lifted (os : Os) (started : os.Started) (H : Type) (enc : TypeId × Value → H) :
    ReturnsInHanded {} Try.checked os 5 .any (Rows.shareGrowsSpec.pre6 enc Try.prog Try.f5 Rows.shareGrowsRow.domain false) (Rows.shareGrowsSpec.post enc Try.prog Try.f5 false true false false) := by
  refine returnsInHanded_of_change (C := Try.checked) own started (by kernel_rfl) Try.func5
    (ChangeSpec.witness6 (enc := enc) (C := Try.checked) false ⟨#[], #[.int .i32 0, .int .i32 0, .int .i32 0], []⟩ 8 (by kernel_rfl) (by kernel_rfl) (by kernel_rfl) (by kernel_rfl)) ?_
  intro W base args ds gs before hval0 hW hcnd _
  have hval : ∀ (j : Nat) t v, Try.f5.params[j]? = some t → args[j]? = some v → Value.okWide Try.prog W .any base t v := hval0
  have hW' := hW
  obtain ⟨p, q, hA0, hV, rfl, hfz, hnd⟩ := hW
  have hA : DataW.TrodAll enc Try.prog W 0 (fun _ => true) true Try.f5.params.toList args.toList ds p := hA0
  rw [Try.params5] at hA hval
  obtain ⟨v0, vs0, d0, ds0, p0, q0, hargs, rfl, rfl, h0, r0⟩ := trodAll_cons hA
  obtain ⟨v1, vs1, d1, ds1, p1, q1, rfl, rfl, rfl, h1, r1⟩ := trodAll_cons r0
  obtain ⟨v2, vs2, d2, ds2, p2, q2, rfl, rfl, rfl, h2, r2⟩ := trodAll_cons r1
  obtain ⟨rfl, rfl, rfl⟩ := trodAll_nil r2
  obtain rfl : args = #[v0, v1, v2] := by cases args; simp_all
  obtain ⟨rfl, rfl⟩ := trodVars_none hV
  obtain ⟨a0, rfl, rfl, rfl, w0⟩ := open_int Try.underlying21 (hval 0 21 v0 rfl rfl) h0
  obtain ⟨a1, rfl, rfl, rfl, w1⟩ := open_int Try.underlying21 (hval 1 21 v1 rfl rfl) h1
  obtain ⟨a2, rfl, rfl, rfl, w2⟩ := open_int Try.underlying21 (hval 2 21 v2 rfl rfl) h2
  clear hA0 hval0
  refine (walk a0 a1 a2 W w0 w1 w2).mono fun e W' ⟨he, bel⟩ => ?_
  subst he
  exact ⟨_, rfl, _, _, _, [], _, [], hW', trodAll_mk1 (shut_bool Try.underlying4 _), (trodAll_cons_mk (shut_int Try.underlying21 w0) (trodAll_cons_mk (shut_int Try.underlying21 w1) (trodAll_cons_mk (shut_int Try.underlying21 w2) trodAll_mk0))), rfl, bel.frame _, fun h => by cases h⟩

theorem over : Rows.shareGrowsRow.holds Try.pinned (OpenSpec.ofChange Rows.shareGrowsSpec) :=
  OpenClaim.holds_of_wide 5 Try.f5 rfl rfl rfl rfl rfl rfl rfl ⟨rfl, rfl, rfl, rfl, rfl⟩ rfl rfl rfl rfl rfl (by kernel_rfl) Try.func5 (by kernel_rfl)
    (of_decide_eq_true (by kernel_rfl)) (by unfold Func.isWrapper; first | (rw [if_pos (by decide +kernel)]; kernel_rfl) | (rw [if_neg (by decide +kernel)]; exact ⟨rfl, rfl⟩))
    (fun os started H enc _ => lifted os started H enc)

end Go.Proofs.Ytbnjihidjggpmaa.shareGrows

namespace Go.Proofs.Ytbnjihidjggpmaa
theorem shareGrows_holds : Rows.ShareGrowsSaid := shareGrows.over
end Go.Proofs.Ytbnjihidjggpmaa
