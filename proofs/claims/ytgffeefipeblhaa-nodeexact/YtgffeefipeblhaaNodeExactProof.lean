/- What a node does with a message is what the document says: for every model, map, node, ledger and message, as the statement NodeExact says it, with no condition more. -/
import Derived.Test.YtgffeefipeblhaaRows
import Derived.Test.YtgffeefipeblhaaNlD
import Derived.WalkKit
import Derived.ProofKit
import Derived.OpenShut
import Derived.ShutString
import Derived.ChangeOld
import Derived.Below
namespace Go.Proofs.Ytgffeefipeblhaa.nodeExact
open Go.ChangeShapes Go.WideShapes Go.ChangeAt Go.RowKit
open Go.ChangeMaps (open_string shut_string)
set_option linter.unusedVariables false

theorem own : ownKnob Try.prog.godebug = none := by kernel_rfl
theorem laidOut : laidOutB Try.prog = true := by kernel_rfl

/- The walk: the call returns true, and nothing that was there is written. -/
theorem walk (a0_0 : Int) (a0_1 : Option Addr) (len0_1 cap0_1 : Nat) (m0_1 : List ((List (List Int)) × (List ((List (List Int)) × (List (List Int)) × Unit)) × Int × Unit)) (a1_0 : Int) (a1_1 : Option Addr) (len1_1 cap1_1 : Nat) (m1_1 : List (List Int)) (a2 : Int) (a3 : Option Addr) (len3 cap3 : Nat) (m3 : List ((Int × Int × Int × Int × Unit) × (List Int) × Unit)) (a4_0 : Int) (a4_1 : Int) (a4_2 : Int) (a4_3 : Int) (a4_4 : Int) (a4_5 : Int) (a4_6 : Int) (a4_7 : Int) (a4_8 : Int) (a4_9 : Int) (a4_10 : Option Addr) (len4_10 cap4_10 : Nat) (m4_10 : List Int) (w : World) (w0_0 : (Lit.int .i64 a0_0).wf = true) (w0_1 : (sliceS (consS (sliceS (sliceS (intS .i64))) (consS (sliceS (consS (sliceS (sliceS (intS .i64))) (consS (sliceS (sliceS (intS .i64))) noneS))) (consS (intS .i64) noneS)))).rep w everywhere [.slice a0_1 len0_1 cap0_1] m0_1) (f0_1 : (∀ x0 ∈ m0_1, ((∀ x1 ∈ x0.1, (∀ x2 ∈ x1, (Lit.int .i64 x2).wf = true)) ∧ ((∀ x1 ∈ x0.2.1, ((∀ x2 ∈ x1.1, (∀ x3 ∈ x2, (Lit.int .i64 x3).wf = true)) ∧ ((∀ x2 ∈ x1.2.1, (∀ x3 ∈ x2, (Lit.int .i64 x3).wf = true)) ∧ True))) ∧ ((Lit.int .i64 x0.2.2.1).wf = true ∧ True))))) (w1_0 : (Lit.int .i64 a1_0).wf = true) (w1_1 : (sliceS (sliceS (intS .i64))).rep w everywhere [.slice a1_1 len1_1 cap1_1] m1_1) (f1_1 : (∀ x0 ∈ m1_1, (∀ x1 ∈ x0, (Lit.int .i64 x1).wf = true))) (w2 : (Lit.int .i64 a2).wf = true) (w3 : (sliceS (consS (consS (intS .i64) (consS (intS .i64) (consS (intS .i64) (consS (intS .i64) noneS)))) (consS (sliceS (intS .i64)) noneS))).rep w everywhere [.slice a3 len3 cap3] m3) (f3 : (∀ x0 ∈ m3, (((Lit.int .i64 x0.1.1).wf = true ∧ ((Lit.int .i64 x0.1.2.1).wf = true ∧ ((Lit.int .i64 x0.1.2.2.1).wf = true ∧ ((Lit.int .i64 x0.1.2.2.2.1).wf = true ∧ True)))) ∧ ((∀ x1 ∈ x0.2.1, (Lit.int .i64 x1).wf = true) ∧ True)))) (w4_0 : (Lit.int .i64 a4_0).wf = true) (w4_1 : (Lit.int .i64 a4_1).wf = true) (w4_2 : (Lit.int .i64 a4_2).wf = true) (w4_3 : (Lit.int .i64 a4_3).wf = true) (w4_4 : (Lit.int .i64 a4_4).wf = true) (w4_5 : (Lit.int .i64 a4_5).wf = true) (w4_6 : (Lit.int .i64 a4_6).wf = true) (w4_7 : (Lit.int .i64 a4_7).wf = true) (w4_8 : (Lit.int .i64 a4_8).wf = true) (w4_9 : (Lit.int .i64 a4_9).wf = true) (w4_10 : (sliceS (intS .i64)).rep w everywhere [.slice a4_10 len4_10 cap4_10] m4_10) (f4_10 : (∀ x0 ∈ m4_10, (Lit.int .i64 x0).wf = true)) :
    Calls Try.prog 3 #[.agg #[.int .i64 a0_0, .slice a0_1 len0_1 cap0_1], .agg #[.int .i64 a1_0, .slice a1_1 len1_1 cap1_1], .int .i64 a2, .slice a3 len3 cap3, .agg #[.int .i64 a4_0, .int .i64 a4_1, .int .i64 a4_2, .int .i64 a4_3, .int .i64 a4_4, .int .i64 a4_5, .int .i64 a4_6, .int .i64 a4_7, .int .i64 a4_8, .int .i64 a4_9, .slice a4_10 len4_10 cap4_10]] w fun e w' => e = .returned (.bool true) ∧ Below w.heap.size w w' := by
  exact nl_exact a0_0 a0_1 len0_1 cap0_1 m0_1 a1_0 a1_1 len1_1 cap1_1 m1_1 a2 a3 len3 cap3 m3 a4_0 a4_1 a4_2 a4_3 a4_4 a4_5 a4_6 a4_7 a4_8 a4_9 a4_10 len4_10 cap4_10 m4_10 w w0_1 w1_1 w3 w4_10

/- From the walk to the row. -/
set_option maxRecDepth 100000 in
theorem lifted (os : Os) (started : os.Started) (H : Type) (enc : TypeId × Value → H) :
    ReturnsInHanded {} Try.checked os 3 .any (Rows.nodeExactSpec.pre6 enc Try.prog Try.f3 Rows.nodeExactRow.domain false) (Rows.nodeExactSpec.post enc Try.prog Try.f3 false true false false) := by
  refine returnsInHanded_of_change (C := Try.checked) own started (by kernel_rfl) Try.func3
    (ChangeSpec.witness6 (enc := enc) (C := Try.checked) false ⟨#[], #[.agg #[.int .i64 0, .slice none 0 0], .agg #[.int .i64 0, .slice none 0 0], .int .i64 0, .slice none 0 0, .agg #[.int .i64 0, .int .i64 0, .int .i64 0, .int .i64 0, .int .i64 0, .int .i64 0, .int .i64 0, .int .i64 0, .int .i64 0, .int .i64 0, .slice none 0 0]], []⟩ 8 (by kernel_rfl) (by kernel_rfl) (by kernel_rfl) (by kernel_rfl)) ?_
  intro W base args ds gs before hval0 hW hcnd _
  have hval : ∀ (j : Nat) t v, Try.f3.params[j]? = some t → args[j]? = some v → Value.okWide Try.prog W .any base t v := hval0
  have hW' := hW
  obtain ⟨p, q, hA0, hV, rfl, hfz, hnd⟩ := hW
  have hA : DataW.TrodAll enc Try.prog W 0 (fun _ => true) true Try.f3.params.toList args.toList ds p := hA0
  rw [Try.params3] at hA hval
  obtain ⟨v0, vs0, d0, ds0, p0, q0, hargs, rfl, rfl, h0, r0⟩ := trodAll_cons hA
  obtain ⟨v1, vs1, d1, ds1, p1, q1, rfl, rfl, rfl, h1, r1⟩ := trodAll_cons r0
  obtain ⟨v2, vs2, d2, ds2, p2, q2, rfl, rfl, rfl, h2, r2⟩ := trodAll_cons r1
  obtain ⟨v3, vs3, d3, ds3, p3, q3, rfl, rfl, rfl, h3, r3⟩ := trodAll_cons r2
  obtain ⟨v4, vs4, d4, ds4, p4, q4, rfl, rfl, rfl, h4, r4⟩ := trodAll_cons r3
  obtain ⟨rfl, rfl, rfl⟩ := trodAll_nil r4
  obtain rfl : args = #[v0, v1, v2, v3, v4] := by cases args; simp_all
  obtain ⟨rfl, rfl⟩ := trodVars_none hV
  obtain ⟨cs0, rfl⟩ := okWide_agg Try.underlying24 (hval 0 24 v0 rfl rfl)
  have k0 := h0
  have lt0 : ∀ x ∈ p0, x.block < W.heap.size := by obtain ⟨m, hm⟩ := k0; exact DataW.trod_lt m _ _ _ hm
  obtain ⟨y0, hy0, hw0⟩ : ∃ y, (consS (intS .i64) (consS (sliceS (consS (sliceS (sliceS (intS .i64))) (consS (sliceS (consS (sliceS (sliceS (intS .i64))) (consS (sliceS (sliceS (intS .i64))) noneS))) (consS (intS .i64) noneS)))) noneS)).rep W everywhere cs0 y ∧ ((Lit.int .i64 y.1).wf = true ∧ ((∀ x0 ∈ y.2.1, ((∀ x1 ∈ x0.1, (∀ x2 ∈ x1, (Lit.int .i64 x2).wf = true)) ∧ ((∀ x1 ∈ x0.2.1, ((∀ x2 ∈ x1.1, (∀ x3 ∈ x2, (Lit.int .i64 x3).wf = true)) ∧ ((∀ x2 ∈ x1.2.1, (∀ x3 ∈ x2, (Lit.int .i64 x3).wf = true)) ∧ True))) ∧ ((Lit.int .i64 x0.2.2.1).wf = true ∧ True)))) ∧ True)) := by
    obtain ⟨fuel, hf⟩ := h0
    exact (opens_struct Try.underlying24 (show Try.prog.cellsOf 24 = 2 by kernel_rfl) (opensAt_cons (A := (intS .i64)) rfl (show Try.prog.cellsOf 3 = 1 by kernel_rfl) (opens_int Try.underlying3) (opensAt_cons (A := (sliceS (consS (sliceS (sliceS (intS .i64))) (consS (sliceS (consS (sliceS (sliceS (intS .i64))) (consS (sliceS (sliceS (intS .i64))) noneS))) (consS (intS .i64) noneS))))) rfl (show Try.prog.cellsOf 22 = 1 by kernel_rfl) (opens_slice (A := (consS (sliceS (sliceS (intS .i64))) (consS (sliceS (consS (sliceS (sliceS (intS .i64))) (consS (sliceS (sliceS (intS .i64))) noneS))) (consS (intS .i64) noneS)))) Try.underlying22 (show Try.prog.cellsOf 61 = 3 by kernel_rfl) (by exact Nat.succ_pos _) (opens_struct Try.underlying61 (show Try.prog.cellsOf 61 = 3 by kernel_rfl) (opensAt_cons (A := (sliceS (sliceS (intS .i64)))) rfl (show Try.prog.cellsOf 25 = 1 by kernel_rfl) (opens_slice (A := (sliceS (intS .i64))) Try.underlying25 (show Try.prog.cellsOf 29 = 1 by kernel_rfl) (by exact Nat.succ_pos _) (opens_slice (A := (intS .i64)) Try.underlying29 (show Try.prog.cellsOf 3 = 1 by kernel_rfl) (by exact Nat.succ_pos _) (opens_int Try.underlying3))) (opensAt_cons (A := (sliceS (consS (sliceS (sliceS (intS .i64))) (consS (sliceS (sliceS (intS .i64))) noneS)))) rfl (show Try.prog.cellsOf 59 = 1 by kernel_rfl) (opens_slice (A := (consS (sliceS (sliceS (intS .i64))) (consS (sliceS (sliceS (intS .i64))) noneS))) Try.underlying59 (show Try.prog.cellsOf 63 = 2 by kernel_rfl) (by exact Nat.succ_pos _) (opens_struct Try.underlying63 (show Try.prog.cellsOf 63 = 2 by kernel_rfl) (opensAt_cons (A := (sliceS (sliceS (intS .i64)))) rfl (show Try.prog.cellsOf 25 = 1 by kernel_rfl) (opens_slice (A := (sliceS (intS .i64))) Try.underlying25 (show Try.prog.cellsOf 29 = 1 by kernel_rfl) (by exact Nat.succ_pos _) (opens_slice (A := (intS .i64)) Try.underlying29 (show Try.prog.cellsOf 3 = 1 by kernel_rfl) (by exact Nat.succ_pos _) (opens_int Try.underlying3))) (opensAt_cons (A := (sliceS (sliceS (intS .i64)))) rfl (show Try.prog.cellsOf 25 = 1 by kernel_rfl) (opens_slice (A := (sliceS (intS .i64))) Try.underlying25 (show Try.prog.cellsOf 29 = 1 by kernel_rfl) (by exact Nat.succ_pos _) (opens_slice (A := (intS .i64)) Try.underlying29 (show Try.prog.cellsOf 3 = 1 by kernel_rfl) (by exact Nat.succ_pos _) (opens_int Try.underlying3))) opensAt_nil (by rfl)) (by rfl)))) (opensAt_cons (A := (intS .i64)) rfl (show Try.prog.cellsOf 3 = 1 by kernel_rfl) (opens_int Try.underlying3) opensAt_nil (by rfl)) (by rfl)) (by rfl)))) opensAt_nil (by rfl)) (by rfl))) H enc W _ _ _ fuel _ _ (by simpa [Value.cells] using hf)
  obtain ⟨a0_0, m0_1, _⟩ := y0
  obtain ⟨d0_0, rfl, hy0_0⟩ := consS_int hy0
  obtain ⟨a0_1, len0_1, cap0_1, d0_1, rfl, w0_1, hy0_1⟩ := consS_slice hy0_0
  obtain rfl := noneS_nil hy0_1
  obtain ⟨w0_0, f0_1, _⟩ := hw0
  obtain ⟨cs1, rfl⟩ := okWide_agg Try.underlying27 (hval 1 27 v1 rfl rfl)
  have k1 := h1
  have lt1 : ∀ x ∈ p1, x.block < W.heap.size := by obtain ⟨m, hm⟩ := k1; exact DataW.trod_lt m _ _ _ hm
  obtain ⟨y1, hy1, hw1⟩ : ∃ y, (consS (intS .i64) (consS (sliceS (sliceS (intS .i64))) noneS)).rep W everywhere cs1 y ∧ ((Lit.int .i64 y.1).wf = true ∧ ((∀ x0 ∈ y.2.1, (∀ x1 ∈ x0, (Lit.int .i64 x1).wf = true)) ∧ True)) := by
    obtain ⟨fuel, hf⟩ := h1
    exact (opens_struct Try.underlying27 (show Try.prog.cellsOf 27 = 2 by kernel_rfl) (opensAt_cons (A := (intS .i64)) rfl (show Try.prog.cellsOf 3 = 1 by kernel_rfl) (opens_int Try.underlying3) (opensAt_cons (A := (sliceS (sliceS (intS .i64)))) rfl (show Try.prog.cellsOf 25 = 1 by kernel_rfl) (opens_slice (A := (sliceS (intS .i64))) Try.underlying25 (show Try.prog.cellsOf 29 = 1 by kernel_rfl) (by exact Nat.succ_pos _) (opens_slice (A := (intS .i64)) Try.underlying29 (show Try.prog.cellsOf 3 = 1 by kernel_rfl) (by exact Nat.succ_pos _) (opens_int Try.underlying3))) opensAt_nil (by rfl)) (by rfl))) H enc W _ _ _ fuel _ _ (by simpa [Value.cells] using hf)
  obtain ⟨a1_0, m1_1, _⟩ := y1
  obtain ⟨d1_0, rfl, hy1_0⟩ := consS_int hy1
  obtain ⟨a1_1, len1_1, cap1_1, d1_1, rfl, w1_1, hy1_1⟩ := consS_slice hy1_0
  obtain rfl := noneS_nil hy1_1
  obtain ⟨w1_0, f1_1, _⟩ := hw1
  obtain ⟨a2, rfl, rfl, rfl, w2⟩ := open_int Try.underlying3 (hval 2 3 v2 rfl rfl) h2
  obtain ⟨a3, len3, cap3, rfl⟩ := okWide_slice Try.underlying28 (hval 3 28 v3 rfl rfl)
  have k3 := h3
  have lt3 : ∀ x ∈ p3, x.block < W.heap.size := by obtain ⟨m, hm⟩ := k3; exact DataW.trod_lt m _ _ _ hm
  obtain ⟨m3, w3, f3⟩ : ∃ y, (sliceS (consS (consS (intS .i64) (consS (intS .i64) (consS (intS .i64) (consS (intS .i64) noneS)))) (consS (sliceS (intS .i64)) noneS))).rep W everywhere [.slice a3 len3 cap3] y ∧ (∀ x0 ∈ y, (((Lit.int .i64 x0.1.1).wf = true ∧ ((Lit.int .i64 x0.1.2.1).wf = true ∧ ((Lit.int .i64 x0.1.2.2.1).wf = true ∧ ((Lit.int .i64 x0.1.2.2.2.1).wf = true ∧ True)))) ∧ ((∀ x1 ∈ x0.2.1, (Lit.int .i64 x1).wf = true) ∧ True))) := by
    obtain ⟨fuel, hf⟩ := h3
    exact (opens_slice (A := (consS (consS (intS .i64) (consS (intS .i64) (consS (intS .i64) (consS (intS .i64) noneS)))) (consS (sliceS (intS .i64)) noneS))) Try.underlying28 (show Try.prog.cellsOf 39 = 5 by kernel_rfl) (by exact Nat.succ_pos _) (opens_struct Try.underlying39 (show Try.prog.cellsOf 39 = 5 by kernel_rfl) (opensAt_cons (A := (consS (intS .i64) (consS (intS .i64) (consS (intS .i64) (consS (intS .i64) noneS))))) rfl (show Try.prog.cellsOf 37 = 4 by kernel_rfl) (opens_struct Try.underlying37 (show Try.prog.cellsOf 37 = 4 by kernel_rfl) (opensAt_cons (A := (intS .i64)) rfl (show Try.prog.cellsOf 3 = 1 by kernel_rfl) (opens_int Try.underlying3) (opensAt_cons (A := (intS .i64)) rfl (show Try.prog.cellsOf 3 = 1 by kernel_rfl) (opens_int Try.underlying3) (opensAt_cons (A := (intS .i64)) rfl (show Try.prog.cellsOf 3 = 1 by kernel_rfl) (opens_int Try.underlying3) (opensAt_cons (A := (intS .i64)) rfl (show Try.prog.cellsOf 3 = 1 by kernel_rfl) (opens_int Try.underlying3) opensAt_nil (by rfl)) (by rfl)) (by rfl)) (by rfl))) (opensAt_cons (A := (sliceS (intS .i64))) rfl (show Try.prog.cellsOf 29 = 1 by kernel_rfl) (opens_slice (A := (intS .i64)) Try.underlying29 (show Try.prog.cellsOf 3 = 1 by kernel_rfl) (by exact Nat.succ_pos _) (opens_int Try.underlying3)) opensAt_nil (by rfl)) (by rfl)))) H enc W _ _ _ fuel _ _ hf
  obtain ⟨cs4, rfl⟩ := okWide_agg Try.underlying31 (hval 4 31 v4 rfl rfl)
  have k4 := h4
  have lt4 : ∀ x ∈ p4, x.block < W.heap.size := by obtain ⟨m, hm⟩ := k4; exact DataW.trod_lt m _ _ _ hm
  obtain ⟨y4, hy4, hw4⟩ : ∃ y, (consS (intS .i64) (consS (intS .i64) (consS (intS .i64) (consS (intS .i64) (consS (intS .i64) (consS (intS .i64) (consS (intS .i64) (consS (intS .i64) (consS (intS .i64) (consS (intS .i64) (consS (sliceS (intS .i64)) noneS))))))))))).rep W everywhere cs4 y ∧ ((Lit.int .i64 y.1).wf = true ∧ ((Lit.int .i64 y.2.1).wf = true ∧ ((Lit.int .i64 y.2.2.1).wf = true ∧ ((Lit.int .i64 y.2.2.2.1).wf = true ∧ ((Lit.int .i64 y.2.2.2.2.1).wf = true ∧ ((Lit.int .i64 y.2.2.2.2.2.1).wf = true ∧ ((Lit.int .i64 y.2.2.2.2.2.2.1).wf = true ∧ ((Lit.int .i64 y.2.2.2.2.2.2.2.1).wf = true ∧ ((Lit.int .i64 y.2.2.2.2.2.2.2.2.1).wf = true ∧ ((Lit.int .i64 y.2.2.2.2.2.2.2.2.2.1).wf = true ∧ ((∀ x0 ∈ y.2.2.2.2.2.2.2.2.2.2.1, (Lit.int .i64 x0).wf = true) ∧ True))))))))))) := by
    obtain ⟨fuel, hf⟩ := h4
    exact (opens_struct Try.underlying31 (show Try.prog.cellsOf 31 = 11 by kernel_rfl) (opensAt_cons (A := (intS .i64)) rfl (show Try.prog.cellsOf 3 = 1 by kernel_rfl) (opens_int Try.underlying3) (opensAt_cons (A := (intS .i64)) rfl (show Try.prog.cellsOf 3 = 1 by kernel_rfl) (opens_int Try.underlying3) (opensAt_cons (A := (intS .i64)) rfl (show Try.prog.cellsOf 3 = 1 by kernel_rfl) (opens_int Try.underlying3) (opensAt_cons (A := (intS .i64)) rfl (show Try.prog.cellsOf 3 = 1 by kernel_rfl) (opens_int Try.underlying3) (opensAt_cons (A := (intS .i64)) rfl (show Try.prog.cellsOf 3 = 1 by kernel_rfl) (opens_int Try.underlying3) (opensAt_cons (A := (intS .i64)) rfl (show Try.prog.cellsOf 3 = 1 by kernel_rfl) (opens_int Try.underlying3) (opensAt_cons (A := (intS .i64)) rfl (show Try.prog.cellsOf 3 = 1 by kernel_rfl) (opens_int Try.underlying3) (opensAt_cons (A := (intS .i64)) rfl (show Try.prog.cellsOf 3 = 1 by kernel_rfl) (opens_int Try.underlying3) (opensAt_cons (A := (intS .i64)) rfl (show Try.prog.cellsOf 3 = 1 by kernel_rfl) (opens_int Try.underlying3) (opensAt_cons (A := (intS .i64)) rfl (show Try.prog.cellsOf 3 = 1 by kernel_rfl) (opens_int Try.underlying3) (opensAt_cons (A := (sliceS (intS .i64))) rfl (show Try.prog.cellsOf 29 = 1 by kernel_rfl) (opens_slice (A := (intS .i64)) Try.underlying29 (show Try.prog.cellsOf 3 = 1 by kernel_rfl) (by exact Nat.succ_pos _) (opens_int Try.underlying3)) opensAt_nil (by rfl)) (by rfl)) (by rfl)) (by rfl)) (by rfl)) (by rfl)) (by rfl)) (by rfl)) (by rfl)) (by rfl)) (by rfl))) H enc W _ _ _ fuel _ _ (by simpa [Value.cells] using hf)
  obtain ⟨a4_0, a4_1, a4_2, a4_3, a4_4, a4_5, a4_6, a4_7, a4_8, a4_9, m4_10, _⟩ := y4
  obtain ⟨d4_0, rfl, hy4_0⟩ := consS_int hy4
  obtain ⟨d4_1, rfl, hy4_1⟩ := consS_int hy4_0
  obtain ⟨d4_2, rfl, hy4_2⟩ := consS_int hy4_1
  obtain ⟨d4_3, rfl, hy4_3⟩ := consS_int hy4_2
  obtain ⟨d4_4, rfl, hy4_4⟩ := consS_int hy4_3
  obtain ⟨d4_5, rfl, hy4_5⟩ := consS_int hy4_4
  obtain ⟨d4_6, rfl, hy4_6⟩ := consS_int hy4_5
  obtain ⟨d4_7, rfl, hy4_7⟩ := consS_int hy4_6
  obtain ⟨d4_8, rfl, hy4_8⟩ := consS_int hy4_7
  obtain ⟨d4_9, rfl, hy4_9⟩ := consS_int hy4_8
  obtain ⟨a4_10, len4_10, cap4_10, d4_10, rfl, w4_10, hy4_10⟩ := consS_slice hy4_9
  obtain rfl := noneS_nil hy4_10
  obtain ⟨w4_0, w4_1, w4_2, w4_3, w4_4, w4_5, w4_6, w4_7, w4_8, w4_9, f4_10, _⟩ := hw4
  clear hA0 hval0
  refine (walk a0_0 a0_1 len0_1 cap0_1 m0_1 a1_0 a1_1 len1_1 cap1_1 m1_1 a2 a3 len3 cap3 m3 a4_0 a4_1 a4_2 a4_3 a4_4 a4_5 a4_6 a4_7 a4_8 a4_9 a4_10 len4_10 cap4_10 m4_10 W w0_0 w0_1 f0_1 w1_0 w1_1 f1_1 w2 w3 f3 w4_0 w4_1 w4_2 w4_3 w4_4 w4_5 w4_6 w4_7 w4_8 w4_9 w4_10 f4_10).mono fun e W' ⟨he, bel⟩ => ?_
  subst he
  exact ⟨_, rfl, _, _, _, [], _, [], hW', trodAll_mk1 (shut_bool Try.underlying4 _), (trodAll_cons_mk (Below.trod laidOut (by kernel_rfl) (of_decide_eq_true (by kernel_rfl)) k0 bel lt0) (trodAll_cons_mk (Below.trod laidOut (by kernel_rfl) (of_decide_eq_true (by kernel_rfl)) k1 bel lt1) (trodAll_cons_mk (shut_int Try.underlying3 w2) (trodAll_cons_mk (Below.trod laidOut (by kernel_rfl) (of_decide_eq_true (by kernel_rfl)) k3 bel lt3) (trodAll_cons_mk (Below.trod laidOut (by kernel_rfl) (of_decide_eq_true (by kernel_rfl)) k4 bel lt4) trodAll_mk0))))), rfl, bel.frame _, fun h => by cases h⟩

theorem over : Rows.nodeExactRow.holds Try.pinned (OpenSpec.ofChange Rows.nodeExactSpec) :=
  OpenClaim.holds_of_wide 3 Try.f3 rfl rfl rfl rfl rfl rfl rfl ⟨rfl, rfl, rfl, rfl, rfl⟩ rfl rfl rfl rfl rfl (by kernel_rfl) Try.func3 (by kernel_rfl)
    (of_decide_eq_true (by kernel_rfl)) (by unfold Func.isWrapper; first | (rw [if_pos (by decide +kernel)]; kernel_rfl) | (rw [if_neg (by decide +kernel)]; exact ⟨rfl, rfl⟩))
    (fun os started H enc _ => lifted os started H enc)

end Go.Proofs.Ytgffeefipeblhaa.nodeExact

namespace Go.Proofs.Ytgffeefipeblhaa
theorem nodeExact_holds : Rows.NodeExactSaid := nodeExact.over
end Go.Proofs.Ytgffeefipeblhaa
