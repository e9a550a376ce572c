/- Whatever map and node: a holder that is added, and retired, leaves the holders as they were, two epochs more; where it is refused the epoch is as it was. Conditions: none beyond those of the statement (at most 30 rows of 30 numbers, an epoch of at most 2^30; else the fixed answer). -/
import Derived.Test.YtpiakfdapobflaaRows
import Derived.Test.YtpiakfdapobflaaPlcG
import Derived.Test.YtpiakfdapobflaaPm
import Derived.WalkKit
import Derived.ProofKit
import Derived.OpenShut
import Derived.ShutString
import Derived.ChangeOld
import Derived.Below
namespace Go.Proofs.Ytpiakfdapobflaa.placeBack
open Go.ChangeShapes Go.WideShapes Go.ChangeAt Go.RowKit
open Go.ChangeMaps (open_string shut_string)
set_option linter.unusedVariables false

theorem own : ownKnob Try.prog.godebug = none := by kernel_rfl
theorem laidOut : laidOutB Try.prog = true := by kernel_rfl

/- The walk: the call returns true, and nothing that was there is written. -/
set_option maxHeartbeats 4000000 in
set_option maxRecDepth 100000 in
theorem walk (a0_0 : Int) (a0_1 : Option Addr) (len0_1 cap0_1 : Nat) (m0_1 : List (List Int)) (a1 : Int) (a2 : Int) (w : World) (w0_0 : (Lit.int .i64 a0_0).wf = true) (w0_1 : (sliceS (sliceS (intS .i64))).rep w everywhere [.slice a0_1 len0_1 cap0_1] m0_1) (f0_1 : (∀ x0 ∈ m0_1, (∀ x1 ∈ x0, (Lit.int .i64 x1).wf = true))) (w1 : (Lit.int .i64 a1).wf = true) (w2 : (Lit.int .i64 a2).wf = true) :
    Calls Try.prog 6 #[.agg #[.int .i64 a0_0, .slice a0_1 len0_1 cap0_1], .int .i64 a1, .int .i64 a2] w fun e w' => e = .returned (.bool true) ∧ Below w.heap.size w w' := by
  have hl := (sliceS_len w0_1).1
  have HL : Hid (m0_1.length = len0_1) := hl
  have hB := new_bel w (.cells #[.int .i64 a0_0, .slice a0_1 len0_1 cap0_1] 24)
  have kb := Box.new w 24 #[.int .i64 a0_0, .slice a0_1 len0_1 cap0_1]
  have hm0 := Shape.below w0_1 hB
  have HSM : Hid (Calls _ _ _ _ _) := small a0_1 len0_1 cap0_1 m0_1 everywhere _ hm0
  have c0 := kb.cell 0 rfl
  have c1 := kb.cell 1 rfl
  by_cases hS : Mx.Small m0_1
  case neg =>
    clear hm0 hl
    go_enter Try.func6, Try.ntmps6
    go_wp2_with fail
    generalize w.alloc (.cells #[.int .i64 a0_0, .slice a0_1 len0_1 cap0_1] 24) = W at *
    refine HSM.out.mono ?_
    rintro r u0 ⟨hs0, hu0⟩
    replace hu0 := hu0.symm
    subst hu0
    rw [hs0.not hS]
    clear hs0 HSM
    go_wp2_with fail
    refine (pawake _).mono ?_
    rintro r u9 ⟨rfl, hb9⟩
    go_wp2
    go_ret
    exact ⟨rfl, bel_then hB hb9⟩
  by_cases d1 : 1073741824 < a0_0
  · clear hm0 hl
    go_enter Try.func6, Try.ntmps6
    go_wp2_with fail
    generalize w.alloc (.cells #[.int .i64 a0_0, .slice a0_1 len0_1 cap0_1] 24) = W at *
    refine HSM.out.mono ?_
    rintro r u0 ⟨hs0, hu0⟩
    replace hu0 := hu0.symm
    subst hu0
    rw [hs0.is hS]
    clear hs0 HSM
    go_wp2_with fail
    refine (pawake _).mono ?_
    rintro r u9 ⟨rfl, hb9⟩
    go_wp2
    go_ret
    exact ⟨rfl, bel_then hB hb9⟩
  have HSH : Hid (Pl.Short m0_1) := Pl.small_short hS
  have HSZ : Hid (Ex.Sized m0_1) := HSH.out.sized
  obtain ⟨E, M, X, hA⟩ := Pl.add_there a0_0 m0_1 a1 a2
  have hlM : M.length = len0_1 := hA.len.trans hl
  have HM : Hid (matS.rep (w.alloc (.cells #[.int .i64 a0_0, .slice a0_1 len0_1 cap0_1] 24)) everywhere [.slice a0_1 len0_1 cap0_1] m0_1) := hm0
  have HAD : Hid (Calls _ _ _ _ _) := padd_any a0_0 a0_1 len0_1 cap0_1 m0_1 a1 a2 _ hm0 HSH.out E X M hA
  have HMS : Hid (Pl.Short M) := ⟨by have := HSH.out.1; have := HL.out; omega, hA.rows (by omega) HSH.out.2⟩
  obtain ⟨E2, M2, X2, hA2⟩ := Pl.ret_there E M a1 a2
  have HR2 : Hid (Pl.Ret E M a1 a2 E2 M2 X2) := hA2
  have HA : Hid (Pl.Add a0_0 m0_1 a1 a2 E M X) := hA
  clear hm0 hl hA hA2 hlM
  go_enter Try.func6, Try.ntmps6
  go_wp2_with fail
  generalize w.alloc (.cells #[.int .i64 a0_0, .slice a0_1 len0_1 cap0_1] 24) = W at *
  refine HSM.out.mono ?_
  rintro r u0 ⟨hs0, hu0⟩
  replace hu0 := hu0.symm
  subst hu0
  rw [hs0.is hS]
  clear hs0 HSM
  go_wp2_with fail
  refine HAD.out.mono ?_
  rintro r u1 ⟨hb1, a', c', rfl, hr1⟩
  have hba := new_bel u1 (.cells #[.int .i64 E, .slice a' len0_1 c'] 24)
  have ka := Box.new u1 24 #[.int .i64 E, .slice a' len0_1 c']
  have kb1 := (kb.keep hb1).keep hba
  have hB1 := bel_then (bel_then hB hb1) hba
  have hM1 := Shape.below (Shape.below HM.out hb1) hba
  have hc2 : Hid (Calls _ _ _ _ _) := pret_any E a' len0_1 c' M a1 a2 _ (Shape.below hr1 hba) HMS.out E2 X2 M2 HR2.out
  clear HAD c0 c1 kb hB HM hb1 hr1
  have c0 := kb1.cell 0 rfl
  have c1 := kb1.cell 1 rfl
  have p0 := ka.cell 0 rfl
  have p1 := ka.cell 1 rfl
  go_wp2_with fail
  generalize u1.alloc (.cells #[.int .i64 E, .slice a' len0_1 c'] 24) = W1 at *
  refine hc2.out.mono ?_
  rintro r u2 ⟨hb2, a2', c2, rfl, hr2⟩
  have hbb := new_bel u2 (.cells #[.int .i64 E2, .slice a2' len0_1 c2] 24)
  have kbx := Box.new u2 24 #[.int .i64 E2, .slice a2' len0_1 c2]
  have kb2 := (kb1.keep hb2).keep hbb
  have ka2 := (ka.keep hb2).keep hbb
  have hB2 := bel_then (bel_then hB1 hb2) hbb
  have hM2 := Shape.below (Shape.below hM1 hb2) hbb
  have hr3 := Shape.below hr2 hbb
  clear c0 c1 p0 p1 kb1 ka hB1 hM1 hc2 hb2 hr2
  have c0 := kb2.cell 0 rfl
  have c1 := kb2.cell 1 rfl
  have p0 := ka2.cell 0 rfl
  have q0 := kbx.cell 0 rfl
  have q1 := kbx.cell 1 rfl
  rcases HA.out with ⟨_, rfl, rfl, rfl⟩ | ⟨_, _, rfl, rfl, rfl⟩ | ⟨hw, hh, rfl, rfl, rfl⟩
  · have e1 : (a0_0 == a0_0) = true := by simp
    clear hM2 hr3
    go_wp2_with fail
    refine (pawake _).mono ?_
    rintro r u9 ⟨rfl, hb9⟩
    go_wp2
    go_ret
    exact ⟨rfl, bel_then hB2 hb9⟩
  · have e1 : (a0_0 == a0_0) = true := by simp
    clear hM2 hr3
    go_wp2_with fail
    refine (pawake _).mono ?_
    rintro r u9 ⟨rfl, hb9⟩
    go_wp2
    go_ret
    exact ⟨rfl, bel_then hB2 hb9⟩
  obtain ⟨hR, _, _, _⟩ := Pl.not_wrong hw
  have he0 : 0 ≤ a0_0 := hR.1.1
  obtain ⟨rfl, rfl, rfl⟩ := Pl.back hw hh (by omega) HR2.out
  have e1 : (a0_0 + 2 == a0_0 + 2) = true := by simp
  have HSC := msays a2' a0_1 len0_1 len0_1 c2 cap0_1 m0_1 m0_1 _ hr3 hM2 HSZ.out HSZ.out
  have HSD : Hid (Calls _ _ _ _ _) := HSC
  clear hM2 hr3 hw hh hR HSC HA HR2
  go_wp2_with fail
  refine HSD.out.mono ?_
  rintro r u3 ⟨hs3, hb3⟩
  rw [hs3.is (by trivial)]
  clear hs3 HSD
  go_wp2_with fail
  refine (pawake _).mono ?_
  rintro r u9 ⟨rfl, hb9⟩
  go_wp2
  go_ret
  exact ⟨rfl, bel_then (bel_then hB2 hb3) hb9⟩

/- From the walk to the row. -/
set_option maxRecDepth 100000 in
theorem lifted (os : Os) (started : os.Started) (H : Type) (enc : TypeId × Value → H) :
    ReturnsInHanded {} Try.checked os 6 .any (Rows.placeBackSpec.pre6 enc Try.prog Try.f6 Rows.placeBackRow.domain false) (Rows.placeBackSpec.post enc Try.prog Try.f6 false true false false) := by
  refine returnsInHanded_of_change (C := Try.checked) own started (by kernel_rfl) Try.func6
    (ChangeSpec.witness6 (enc := enc) (C := Try.checked) false ⟨#[], #[.agg #[.int .i64 0, .slice none 0 0], .int .i64 0, .int .i64 0], []⟩ 8 (by kernel_rfl) (by kernel_rfl) (by kernel_rfl) (by kernel_rfl)) ?_
  intro W base args ds gs before hval0 hW hcnd _
  have hval : ∀ (j : Nat) t v, Try.f6.params[j]? = some t → args[j]? = some v → Value.okWide Try.prog W .any base t v := hval0
  have hW' := hW
  obtain ⟨p, q, hA0, hV, rfl, hfz, hnd⟩ := hW
  have hA : DataW.TrodAll enc Try.prog W 0 (fun _ => true) true Try.f6.params.toList args.toList ds p := hA0
  rw [Try.params6] at hA hval
  obtain ⟨v0, vs0, d0, ds0, p0, q0, hargs, rfl, rfl, h0, r0⟩ := trodAll_cons hA
  obtain ⟨v1, vs1, d1, ds1, p1, q1, rfl, rfl, rfl, h1, r1⟩ := trodAll_cons r0
  obtain ⟨v2, vs2, d2, ds2, p2, q2, rfl, rfl, rfl, h2, r2⟩ := trodAll_cons r1
  obtain ⟨rfl, rfl, rfl⟩ := trodAll_nil r2
  obtain rfl : args = #[v0, v1, v2] := by cases args; simp_all
  obtain ⟨rfl, rfl⟩ := trodVars_none hV
  obtain ⟨cs0, rfl⟩ := okWide_agg Try.underlying24 (hval 0 24 v0 rfl rfl)
  have k0 := h0
  have lt0 : ∀ x ∈ p0, x.block < W.heap.size := by obtain ⟨m, hm⟩ := k0; exact DataW.trod_lt m _ _ _ hm
  obtain ⟨y0, hy0, hw0⟩ : ∃ y, (consS (intS .i64) (consS (sliceS (sliceS (intS .i64))) noneS)).rep W everywhere cs0 y ∧ ((Lit.int .i64 y.1).wf = true ∧ ((∀ x0 ∈ y.2.1, (∀ x1 ∈ x0, (Lit.int .i64 x1).wf = true)) ∧ True)) := by
    obtain ⟨fuel, hf⟩ := h0
    exact (opens_struct Try.underlying24 (show Try.prog.cellsOf 24 = 2 by kernel_rfl) (opensAt_cons (A := (intS .i64)) rfl (show Try.prog.cellsOf 3 = 1 by kernel_rfl) (opens_int Try.underlying3) (opensAt_cons (A := (sliceS (sliceS (intS .i64)))) rfl (show Try.prog.cellsOf 22 = 1 by kernel_rfl) (opens_slice (A := (sliceS (intS .i64))) Try.underlying22 (show Try.prog.cellsOf 40 = 1 by kernel_rfl) (by exact Nat.succ_pos _) (opens_slice (A := (intS .i64)) Try.underlying40 (show Try.prog.cellsOf 3 = 1 by kernel_rfl) (by exact Nat.succ_pos _) (opens_int Try.underlying3))) opensAt_nil (by rfl)) (by rfl))) H enc W _ _ _ fuel _ _ (by simpa [Value.cells] using hf)
  obtain ⟨a0_0, m0_1, _⟩ := y0
  obtain ⟨d0_0, rfl, hy0_0⟩ := consS_int hy0
  obtain ⟨a0_1, len0_1, cap0_1, d0_1, rfl, w0_1, hy0_1⟩ := consS_slice hy0_0
  obtain rfl := noneS_nil hy0_1
  obtain ⟨w0_0, f0_1, _⟩ := hw0
  obtain ⟨a1, rfl, rfl, rfl, w1⟩ := open_int Try.underlying3 (hval 1 3 v1 rfl rfl) h1
  obtain ⟨a2, rfl, rfl, rfl, w2⟩ := open_int Try.underlying3 (hval 2 3 v2 rfl rfl) h2
  clear hA0 hval0
  refine (walk a0_0 a0_1 len0_1 cap0_1 m0_1 a1 a2 W w0_0 w0_1 f0_1 w1 w2).mono fun e W' ⟨he, bel⟩ => ?_
  subst he
  exact ⟨_, rfl, _, _, _, [], _, [], hW', trodAll_mk1 (shut_bool Try.underlying4 _), (trodAll_cons_mk (Below.trod laidOut (by kernel_rfl) (of_decide_eq_true (by kernel_rfl)) k0 bel lt0) (trodAll_cons_mk (shut_int Try.underlying3 w1) (trodAll_cons_mk (shut_int Try.underlying3 w2) trodAll_mk0))), rfl, bel.frame _, fun h => by cases h⟩

theorem over : Rows.placeBackRow.holds Try.pinned (OpenSpec.ofChange Rows.placeBackSpec) :=
  OpenClaim.holds_of_wide 6 Try.f6 rfl rfl rfl rfl rfl rfl rfl ⟨rfl, rfl, rfl, rfl, rfl⟩ rfl rfl rfl rfl rfl (by kernel_rfl) Try.func6 (by kernel_rfl)
    (of_decide_eq_true (by kernel_rfl)) (by unfold Func.isWrapper; first | (rw [if_pos (by decide +kernel)]; kernel_rfl) | (rw [if_neg (by decide +kernel)]; exact ⟨rfl, rfl⟩))
    (fun os started H enc _ => lifted os started H enc)

end Go.Proofs.Ytpiakfdapobflaa.placeBack

namespace Go.Proofs.Ytpiakfdapobflaa
theorem placeBack_holds : Rows.PlaceBackSaid := placeBack.over
end Go.Proofs.Ytpiakfdapobflaa
