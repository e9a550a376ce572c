/- Whatever counts, map and bound: one more ask of the expert that Hot tells leaves it the one that Hot tells, and its node. Conditions: none (at most 8 counts, 30 rows of 30 numbers are tried; else the fixed answer is asked). -/
import Derived.Test.YtpldfalnoaamkaaRows
import Derived.Test.YtpldfalnoaamkaaLdI
import Derived.Test.YtpldfalnoaamkaaLdW
import Derived.WalkKit
import Derived.ProofKit
import Derived.OpenShut
import Derived.ShutString
import Derived.ChangeOld
import Derived.Below
namespace Go.Proofs.Ytpldfalnoaamkaa.loadMore
open Go.ChangeShapes Go.WideShapes Go.ChangeAt Go.RowKit
open Go.ChangeMaps (open_string shut_string)
set_option linter.unusedVariables false

theorem own : ownKnob Try.prog.godebug = none := by kernel_rfl
theorem laidOut : laidOutB Try.prog = true := by kernel_rfl

/- The walk: the call returns true, and nothing that was there is written. -/
theorem walk (a0 : Option Addr) (len0 cap0 : Nat) (m0 : List Int) (a1_0 : Int) (a1_1 : Option Addr) (len1_1 cap1_1 : Nat) (m1_1 : List (List Int)) (a2 : Int) (w : World) (w0 : (sliceS (intS .u32)).rep w everywhere [.slice a0 len0 cap0] m0) (f0 : (∀ x0 ∈ m0, (Lit.int .u32 x0).wf = true)) (w1_0 : (Lit.int .i64 a1_0).wf = true) (w1_1 : (sliceS (sliceS (intS .i64))).rep w everywhere [.slice a1_1 len1_1 cap1_1] m1_1) (f1_1 : (∀ x0 ∈ m1_1, (∀ x1 ∈ x0, (Lit.int .i64 x1).wf = true))) (w2 : (Lit.int .i64 a2).wf = true) :
    Calls Try.prog 9 #[.slice a0 len0 cap0, .agg #[.int .i64 a1_0, .slice a1_1 len1_1 cap1_1], .int .i64 a2] w fun e w' => e = .returned (.bool true) ∧ Below w.heap.size w w' := by
  exact lmore given a0 len0 cap0 m0 a1_0 a1_1 len1_1 cap1_1 m1_1 a2 w w0 (fun x hx => bounds_u32 (f0 x hx)) w1_1

/- From the walk to the row. -/
set_option maxRecDepth 100000 in
theorem lifted (os : Os) (started : os.Started) (H : Type) (enc : TypeId × Value → H) :
    ReturnsInHanded {} Try.checked os 9 .any (Rows.loadMoreSpec.pre6 enc Try.prog Try.f9 Rows.loadMoreRow.domain false) (Rows.loadMoreSpec.post enc Try.prog Try.f9 false true false false) := by
  refine returnsInHanded_of_change (C := Try.checked) own started (by kernel_rfl) Try.func9
    (ChangeSpec.witness6 (enc := enc) (C := Try.checked) false ⟨#[], #[.slice none 0 0, .agg #[.int .i64 0, .slice none 0 0], .int .i64 0], []⟩ 8 (by kernel_rfl) (by kernel_rfl) (by kernel_rfl) (by kernel_rfl)) ?_
  intro W base args ds gs before hval0 hW hcnd _
  have hval : ∀ (j : Nat) t v, Try.f9.params[j]? = some t → args[j]? = some v → Value.okWide Try.prog W .any base t v := hval0
  have hW' := hW
  obtain ⟨p, q, hA0, hV, rfl, hfz, hnd⟩ := hW
  have hA : DataW.TrodAll enc Try.prog W 0 (fun _ => true) true Try.f9.params.toList args.toList ds p := hA0
  rw [Try.params9] at hA hval
  obtain ⟨v0, vs0, d0, ds0, p0, q0, hargs, rfl, rfl, h0, r0⟩ := trodAll_cons hA
  obtain ⟨v1, vs1, d1, ds1, p1, q1, rfl, rfl, rfl, h1, r1⟩ := trodAll_cons r0
  obtain ⟨v2, vs2, d2, ds2, p2, q2, rfl, rfl, rfl, h2, r2⟩ := trodAll_cons r1
  obtain ⟨rfl, rfl, rfl⟩ := trodAll_nil r2
  obtain rfl : args = #[v0, v1, v2] := by cases args; simp_all
  obtain ⟨rfl, rfl⟩ := trodVars_none hV
  obtain ⟨a0, len0, cap0, rfl⟩ := okWide_slice Try.underlying42 (hval 0 42 v0 rfl rfl)
  have k0 := h0
  have lt0 : ∀ x ∈ p0, x.block < W.heap.size := by obtain ⟨m, hm⟩ := k0; exact DataW.trod_lt m _ _ _ hm
  obtain ⟨m0, w0, f0⟩ : ∃ y, (sliceS (intS .u32)).rep W everywhere [.slice a0 len0 cap0] y ∧ (∀ x0 ∈ y, (Lit.int .u32 x0).wf = true) := by
    obtain ⟨fuel, hf⟩ := h0
    exact (opens_slice (A := (intS .u32)) Try.underlying42 (show Try.prog.cellsOf 43 = 1 by kernel_rfl) (by exact Nat.succ_pos _) (opens_int Try.underlying43)) H enc W _ _ _ fuel _ _ hf
  obtain ⟨cs1, rfl⟩ := okWide_agg Try.underlying25 (hval 1 25 v1 rfl rfl)
  have k1 := h1
  have lt1 : ∀ x ∈ p1, x.block < W.heap.size := by obtain ⟨m, hm⟩ := k1; exact DataW.trod_lt m _ _ _ hm
  obtain ⟨y1, hy1, hw1⟩ : ∃ y, (consS (intS .i64) (consS (sliceS (sliceS (intS .i64))) noneS)).rep W everywhere cs1 y ∧ ((Lit.int .i64 y.1).wf = true ∧ ((∀ x0 ∈ y.2.1, (∀ x1 ∈ x0, (Lit.int .i64 x1).wf = true)) ∧ True)) := by
    obtain ⟨fuel, hf⟩ := h1
    exact (opens_struct Try.underlying25 (show Try.prog.cellsOf 25 = 2 by kernel_rfl) (opensAt_cons (A := (intS .i64)) rfl (show Try.prog.cellsOf 3 = 1 by kernel_rfl) (opens_int Try.underlying3) (opensAt_cons (A := (sliceS (sliceS (intS .i64)))) rfl (show Try.prog.cellsOf 23 = 1 by kernel_rfl) (opens_slice (A := (sliceS (intS .i64))) Try.underlying23 (show Try.prog.cellsOf 22 = 1 by kernel_rfl) (by exact Nat.succ_pos _) (opens_slice (A := (intS .i64)) Try.underlying22 (show Try.prog.cellsOf 3 = 1 by kernel_rfl) (by exact Nat.succ_pos _) (opens_int Try.underlying3))) opensAt_nil (by rfl)) (by rfl))) H enc W _ _ _ fuel _ _ (by simpa [Value.cells] using hf)
  obtain ⟨a1_0, m1_1, _⟩ := y1
  obtain ⟨d1_0, rfl, hy1_0⟩ := consS_int hy1
  obtain ⟨a1_1, len1_1, cap1_1, d1_1, rfl, w1_1, hy1_1⟩ := consS_slice hy1_0
  obtain rfl := noneS_nil hy1_1
  obtain ⟨w1_0, f1_1, _⟩ := hw1
  obtain ⟨a2, rfl, rfl, rfl, w2⟩ := open_int Try.underlying3 (hval 2 3 v2 rfl rfl) h2
  clear hA0 hval0
  refine (walk a0 len0 cap0 m0 a1_0 a1_1 len1_1 cap1_1 m1_1 a2 W w0 f0 w1_0 w1_1 f1_1 w2).mono fun e W' ⟨he, bel⟩ => ?_
  subst he
  exact ⟨_, rfl, _, _, _, [], _, [], hW', trodAll_mk1 (shut_bool Try.underlying4 _), (trodAll_cons_mk (Below.trod laidOut (by kernel_rfl) (of_decide_eq_true (by kernel_rfl)) k0 bel lt0) (trodAll_cons_mk (Below.trod laidOut (by kernel_rfl) (of_decide_eq_true (by kernel_rfl)) k1 bel lt1) (trodAll_cons_mk (shut_int Try.underlying3 w2) trodAll_mk0))), rfl, bel.frame _, fun h => by cases h⟩

theorem over : Rows.loadMoreRow.holds Try.pinned (OpenSpec.ofChange Rows.loadMoreSpec) :=
  OpenClaim.holds_of_wide 9 Try.f9 rfl rfl rfl rfl rfl rfl rfl ⟨rfl, rfl, rfl, rfl, rfl⟩ rfl rfl rfl rfl rfl (by kernel_rfl) Try.func9 (by kernel_rfl)
    (of_decide_eq_true (by kernel_rfl)) (by unfold Func.isWrapper; first | (rw [if_pos (by decide +kernel)]; kernel_rfl) | (rw [if_neg (by decide +kernel)]; exact ⟨rfl, rfl⟩))
    (fun os started H enc _ => lifted os started H enc)

end Go.Proofs.Ytpldfalnoaamkaa.loadMore

namespace Go.Proofs.Ytpldfalnoaamkaa
theorem loadMore_holds : Rows.LoadMoreSaid := loadMore.over
end Go.Proofs.Ytpldfalnoaamkaa
