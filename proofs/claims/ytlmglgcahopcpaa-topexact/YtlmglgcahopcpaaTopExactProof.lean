/- TopExact of layer 4, proved. -/
import Derived.Test.YtlmglgcahopcpaaRows
import Derived.Test.YtlmglgcahopcpaaTopB
import Derived.WalkKit
import Derived.ProofKit
import Derived.OpenShut
import Derived.ShutString
import Derived.ChangeOld
import Derived.Below
namespace Go.Proofs.Ytlmglgcahopcpaa.topExact
open Go.ChangeShapes Go.WideShapes Go.ChangeAt Go.RowKit
open Go.ChangeMaps (open_string shut_string)
set_option linter.unusedVariables false

theorem own : ownKnob Try.prog.godebug = none := by kernel_rfl
theorem laidOut : laidOutB Try.prog = true := by kernel_rfl

/- The walk: the call returns true, and nothing that was there is written. -/
theorem walk (a0 : Option Addr) (len0 cap0 : Nat) (m0 : List Int) (w : World) (w0 : (sliceS (intS .i64)).rep w everywhere [.slice a0 len0 cap0] m0) (f0 : ∀ x0 ∈ m0, (Lit.int .i64 x0).wf = true) :
    Calls Try.prog 3 #[.slice a0 len0 cap0] w fun e w' => e = .returned (.bool true) ∧ Below w.heap.size w w' := by
  have hv := Row.of_rep w0
  obtain ⟨hl0, _, _⟩ := sliceS_len w0
  clear w0 f0
  go_enter Try.func3, Try.ntmps3
  by_cases hl : 100 < len0
  · have hi : (100 : Int) < (len0 : Int) := by omega
    go_wp2_with fail
    refine (tawake _).mono ?_
    rintro e u1 ⟨rfl, hb1⟩
    go_wp2
    go_ret
    exact ⟨rfl, hb1⟩
  have hi : ¬ (100 : Int) < (len0 : Int) := by omega
  have hor1 := Tx.pick_or m0 (-1) m0.length
  have hor2 := Tx.pick_or m0 (Tx.best m0) m0.length
  rw [hl0] at hor1 hor2
  have HO1 : Hid (Tx.best m0 = -1 ∨ ∃ j : Nat, j < len0 ∧ Tx.best m0 = j) := by show _; unfold Tx.best; rw [hl0]; exact hor1
  have HO2 : Hid (Tx.second m0 = -1 ∨ ∃ j : Nat, j < len0 ∧ Tx.second m0 = j) := by show _; unfold Tx.second; rw [hl0]; exact hor2
  have HL : Hid (m0.length = len0) := hl0
  clear hor1 hor2 hl0
  go_wp2_with (go_at_call 9; refine by_same (two a0 len0 cap0 m0 _ hv (by omega)) ?_)
  refine (rof a0 len0 cap0 m0 0 (Tx.best m0) w hv (by omega) HO1.out (fun i hi => Tx.rank_best HL.out i hi)).mono ?_
  rintro e u1 ⟨rfl, hb1⟩
  have hv1 := hv.keep hb1
  have e1 : (Tx.best m0 == Tx.best m0) = true := by simp
  have e2 : (Tx.second m0 == Tx.second m0) = true := by simp
  go_wp2_with fail
  refine (rof a0 len0 cap0 m0 1 (Tx.second m0) u1 hv1 (by omega) HO2.out (fun i hi => Tx.rank_second HL.out i hi)).mono ?_
  rintro e u2 ⟨rfl, hb2⟩
  have hv2 := hv1.keep hb2
  have hB2 := bel_then hb1 hb2
  clear hv hv1 hb1 hb2
  go_wp2_with (go_at_call 11; refine by_same (best a0 len0 cap0 m0 _ hv2 (by omega)) ?_)
  refine (tawake _).mono ?_
  rintro e u3 ⟨rfl, hb3⟩
  have hB3 := bel_then hB2 hb3
  clear hB2 hb3
  go_wp2
  go_ret
  exact ⟨rfl, hB3⟩

/- From the walk to the row. -/
set_option maxRecDepth 100000 in
theorem lifted (os : Os) (started : os.Started) (H : Type) (enc : TypeId × Value → H) :
    ReturnsInHanded {} Try.checked os 3 .any (Rows.topExactSpec.pre6 enc Try.prog Try.f3 Rows.topExactRow.domain false) (Rows.topExactSpec.post enc Try.prog Try.f3 false true false false) := by
  refine returnsInHanded_of_change (C := Try.checked) own started (by kernel_rfl) Try.func3
    (ChangeSpec.witness6 (enc := enc) (C := Try.checked) false ⟨#[], #[.slice none 0 0], []⟩ 8 (by kernel_rfl) (by kernel_rfl) (by kernel_rfl) (by kernel_rfl)) ?_
  intro W base args ds gs before hval0 hW hcnd _
  have hval : ∀ (j : Nat) t v, Try.f3.params[j]? = some t → args[j]? = some v → Value.okWide Try.prog W .any base t v := hval0
  have hW' := hW
  obtain ⟨p, q, hA0, hV, rfl, hfz, hnd⟩ := hW
  have hA : DataW.TrodAll enc Try.prog W 0 (fun _ => true) true Try.f3.params.toList args.toList ds p := hA0
  rw [Try.params3] at hA hval
  obtain ⟨v0, vs0, d0, ds0, p0, q0, hargs, rfl, rfl, h0, r0⟩ := trodAll_cons hA
  obtain ⟨rfl, rfl, rfl⟩ := trodAll_nil r0
  obtain rfl : args = #[v0] := by cases args; simp_all
  obtain ⟨rfl, rfl⟩ := trodVars_none hV
  obtain ⟨a0, len0, cap0, rfl⟩ := okWide_slice Try.underlying22 (hval 0 22 v0 rfl rfl)
  have k0 := h0
  have lt0 : ∀ x ∈ p0, x.block < W.heap.size := by obtain ⟨m, hm⟩ := k0; exact DataW.trod_lt m _ _ _ hm
  obtain ⟨m0, w0, f0⟩ : ∃ y, (sliceS (intS .i64)).rep W everywhere [.slice a0 len0 cap0] y ∧ ∀ x0 ∈ y, (Lit.int .i64 x0).wf = true := by
    obtain ⟨fuel, hf⟩ := h0
    exact (opens_slice (A := (intS .i64)) Try.underlying22 (show Try.prog.cellsOf 3 = 1 by kernel_rfl) (by exact Nat.one_pos) (opens_int Try.underlying3)) H enc W _ _ _ fuel _ _ hf
  clear hA0 hval0
  refine (walk a0 len0 cap0 m0 W w0 f0).mono fun e W' ⟨he, bel⟩ => ?_
  subst he
  exact ⟨_, rfl, _, _, _, [], _, [], hW', trodAll_mk1 (shut_bool Try.underlying4 _), (trodAll_cons_mk (Below.trod laidOut (by kernel_rfl) (of_decide_eq_true (by kernel_rfl)) k0 bel lt0) trodAll_mk0), rfl, bel.frame _, fun h => by cases h⟩

theorem over : Rows.topExactRow.holds Try.pinned (OpenSpec.ofChange Rows.topExactSpec) :=
  OpenClaim.holds_of_wide 3 Try.f3 rfl rfl rfl rfl rfl rfl rfl ⟨rfl, rfl, rfl, rfl, rfl⟩ rfl rfl rfl rfl rfl (by kernel_rfl) Try.func3 (by kernel_rfl)
    (of_decide_eq_true (by kernel_rfl)) (by unfold Func.isWrapper; first | (rw [if_pos (by decide +kernel)]; kernel_rfl) | (rw [if_neg (by decide +kernel)]; exact ⟨rfl, rfl⟩))
    (fun os started H enc _ => lifted os started H enc)

end Go.Proofs.Ytlmglgcahopcpaa.topExact

namespace Go.Proofs.Ytlmglgcahopcpaa
theorem topExact_holds : Rows.TopExactSaid := topExact.over
end Go.Proofs.Ytlmglgcahopcpaa
