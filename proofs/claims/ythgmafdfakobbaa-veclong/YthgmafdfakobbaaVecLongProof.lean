/- For every row of ints a and every int k the law VecLong returns true: what is made of a row is as long as it, and Dot of a row and itself is not below 0; no condition. -/
import Derived.Test.YthgmafdfakobbaaRows
import Derived.Test.YthgmafdfakobbaaVecF
import Derived.WalkKit
import Derived.ProofKit
import Derived.OpenShut
import Derived.ShutString
import Derived.ChangeOld
import Derived.Below
namespace Go.Proofs.Ythgmafdfakobbaa.vecLong
open Go.ChangeShapes Go.WideShapes Go.ChangeAt Go.RowKit
open Go.ChangeMaps (open_string shut_string)
set_option linter.unusedVariables false

theorem own : ownKnob Try.prog.godebug = none := by kernel_rfl
theorem laidOut : laidOutB Try.prog = true := by kernel_rfl

/- The walk: the call returns true, and nothing that was there is written. -/
theorem walk (a0 : Option Addr) (len0 cap0 : Nat) (z0 : List Int) (a1 : Int) (w : World) (w0 : IsRow .i64 w a0 len0 cap0 z0) (w1 : (Lit.int .i64 a1).wf = true) :
    Calls Try.prog 6 #[.slice a0 len0 cap0, .int .i64 a1] w fun e w' => e = .returned (.bool true) ∧ Below w.heap.size w w' := by
  have ha := Row.of_is w0
  generalize z0.take len0 = l0 at ha
  clear w0
  by_cases hl : 100 < len0
  · have hi : (100 : Int) < (len0 : Int) := by omega
    go_enter Try.func6, Try.ntmps6
    go_wp2_with fail
    refine (vawake _).mono ?_
    rintro e w1 ⟨rfl, hb1⟩
    go_wp2
    go_ret
    exact ⟨rfl, hb1⟩
  · have hi : ¬ (100 : Int) < (len0 : Int) := by omega
    have hn : len0 ≤ 100000 := by omega
    have hdot := Vx.dot_self l0
    have e1 : ((len0 : Int) == (len0 : Int)) = true := by simp
    go_enter Try.func6, Try.ntmps6
    go_wp2_with fail
    refine (vadd _ _ len0 _ _ l0 l0 _ ha ha hn).mono ?_
    rintro e w1 ⟨s1, c1, rfl, _, hb1⟩
    have ha1 := ha.keep hb1
    clear ha
    go_wp2_with fail
    refine (vdot _ _ len0 _ _ l0 l0 _ ha1 ha1 hn).mono ?_
    rintro e w2 ⟨rfl, hb2⟩
    have ha2 := ha1.keep hb2
    have hB := bel_then hb1 hb2
    clear ha1 hb1 hb2
    go_wp2_with fail
    refine (vscale _ len0 _ _ l0 _ ha2 hn).mono ?_
    rintro e w3 ⟨s3, c3, rfl, _, hb3⟩
    have ha3 := ha2.keep hb3
    have hB3 := bel_then hB hb3
    clear ha2 hb3 hB
    go_wp2_with fail
    refine (vrelu _ len0 _ l0 _ ha3 hn).mono ?_
    rintro e w4 ⟨s4, c4, rfl, _, hb4⟩
    have hB4 := bel_then hB3 hb4
    clear ha3 hb4 hB3
    go_wp2_with fail
    refine (vawake _).mono ?_
    rintro e w5 ⟨rfl, hb5⟩
    have hB5 := bel_then hB4 hb5
    clear hb5 hB4
    go_wp2
    go_ret
    exact ⟨rfl, hB5⟩

/- From the walk to the row. -/
set_option maxRecDepth 100000 in
theorem lifted (os : Os) (started : os.Started) (H : Type) (enc : TypeId × Value → H) :
    ReturnsInHanded {} Try.checked os 6 .any (Rows.vecLongSpec.pre6 enc Try.prog Try.f6 Rows.vecLongRow.domain false) (Rows.vecLongSpec.post enc Try.prog Try.f6 false true false false) := by
  refine returnsInHanded_of_change (C := Try.checked) own started (by kernel_rfl) Try.func6
    (ChangeSpec.witness6 (enc := enc) (C := Try.checked) false ⟨#[], #[.slice none 0 0, .int .i64 0], []⟩ 8 (by kernel_rfl) (by kernel_rfl) (by kernel_rfl) (by kernel_rfl)) ?_
  intro W base args ds gs before hval0 hW hcnd _
  have hval : ∀ (j : Nat) t v, Try.f6.params[j]? = some t → args[j]? = some v → Value.okWide Try.prog W .any base t v := hval0
  have hW' := hW
  obtain ⟨p, q, hA0, hV, rfl, hfz, hnd⟩ := hW
  have hA : DataW.TrodAll enc Try.prog W 0 (fun _ => true) true Try.f6.params.toList args.toList ds p := hA0
  rw [Try.params6] at hA hval
  obtain ⟨v0, vs0, d0, ds0, p0, q0, hargs, rfl, rfl, h0, r0⟩ := trodAll_cons hA
  obtain ⟨v1, vs1, d1, ds1, p1, q1, rfl, rfl, rfl, h1, r1⟩ := trodAll_cons r0
  obtain ⟨rfl, rfl, rfl⟩ := trodAll_nil r1
  obtain rfl : args = #[v0, v1] := by cases args; simp_all
  obtain ⟨rfl, rfl⟩ := trodVars_none hV
  obtain ⟨a0, len0, cap0, rfl⟩ := okWide_slice Try.underlying22 (hval 0 22 v0 rfl rfl)
  have k0 := h0
  have lt0 : ∀ x ∈ p0, x.block < W.heap.size := by obtain ⟨m, hm⟩ := k0; exact DataW.trod_lt m _ _ _ hm
  obtain ⟨z0, w0⟩ : ∃ zs, IsRow .i64 W a0 len0 cap0 zs := by
    obtain ⟨fuel, hf⟩ := h0
    rcases open_ints Try.underlying22 Try.underlying3 (by kernel_rfl) hf with ⟨hcs, _⟩ | ⟨x, l, c, zs, hcs, _, hl, hm, hz, _, hcell, hwz⟩
    · simp [Value.cells] at hcs
      obtain ⟨rfl, rfl, rfl⟩ := hcs
      exact ⟨[], .inl ⟨rfl, rfl, rfl, rfl⟩⟩
    · simp [Value.cells] at hcs
      obtain ⟨rfl, rfl, rfl⟩ := hcs
      exact ⟨zs, .inr ⟨_, rfl, hl, hm, by simpa using hz, hcell, hwz⟩⟩
  obtain ⟨a1, rfl, rfl, rfl, w1⟩ := open_int Try.underlying3 (hval 1 3 v1 rfl rfl) h1
  clear hA0 hval0
  refine (walk a0 len0 cap0 z0 a1 W w0 w1).mono fun e W' ⟨he, bel⟩ => ?_
  subst he
  exact ⟨_, rfl, _, _, _, [], _, [], hW', trodAll_mk1 (shut_bool Try.underlying4 _), (trodAll_cons_mk (Below.trod laidOut (by kernel_rfl) (of_decide_eq_true (by kernel_rfl)) k0 bel lt0) (trodAll_cons_mk (shut_int Try.underlying3 w1) trodAll_mk0)), rfl, bel.frame _, fun h => by cases h⟩

theorem over : Rows.vecLongRow.holds Try.pinned (OpenSpec.ofChange Rows.vecLongSpec) :=
  OpenClaim.holds_of_wide 6 Try.f6 rfl rfl rfl rfl rfl rfl rfl ⟨rfl, rfl, rfl, rfl, rfl⟩ rfl rfl rfl rfl rfl (by kernel_rfl) Try.func6 (by kernel_rfl)
    (of_decide_eq_true (by kernel_rfl)) (by unfold Func.isWrapper; first | (rw [if_pos (by decide +kernel)]; kernel_rfl) | (rw [if_neg (by decide +kernel)]; exact ⟨rfl, rfl⟩))
    (fun os started H enc _ => lifted os started H enc)

end Go.Proofs.Ythgmafdfakobbaa.vecLong

namespace Go.Proofs.Ythgmafdfakobbaa
theorem vecLong_holds : Rows.VecLongSaid := vecLong.over
end Go.Proofs.Ythgmafdfakobbaa
