/- A window that is not right, or a number below Low, is not accepted, and the window answered is the same: for every window and number. -/
import Derived.Test.YtlfbponacoombaaRows
import Derived.Test.YtlfbponacoombaaWinE
import Derived.WalkKit
import Derived.ProofKit
import Derived.OpenShut
import Derived.ShutString
import Derived.ChangeOld
import Derived.Below
namespace Go.Proofs.Ytlfbponacoombaa.windowWrong
open Go.ChangeShapes Go.WideShapes Go.ChangeAt Go.RowKit
open Go.ChangeMaps (open_string shut_string)
set_option linter.unusedVariables false

theorem own : ownKnob Try.prog.godebug = none := by kernel_rfl
theorem laidOut : laidOutB Try.prog = true := by kernel_rfl

/- The walk: the call returns true, and nothing that was there is written. -/
theorem walk (a0_0 : Int) (a0_1 : Option Addr) (len0_1 cap0_1 : Nat) (m0_1 : List Int) (a1 : Int) (w : World) (w0_0 : (Lit.int .i64 a0_0).wf = true) (w0_1 : (sliceS (intS .i64)).rep w everywhere [.slice a0_1 len0_1 cap0_1] m0_1) (f0_1 : (∀ x0 ∈ m0_1, (Lit.int .i64 x0).wf = true)) (w1 : (Lit.int .i64 a1).wf = true) :
    Calls Try.prog 6 #[.agg #[.int .i64 a0_0, .slice a0_1 len0_1 cap0_1], .int .i64 a1] w fun e w' => e = .returned (.bool true) ∧ Below w.heap.size w w' := by
  clear f0_1 w0_0 w1
  have hA := Shape.low w0_1
  have hl := (sliceS_len w0_1).1
  clear w0_1
  by_cases h100 : 100 < len0_1
  · have hi : (100 : Int) < (len0_1 : Int) := by omega
    go_enter Try.func6, Try.ntmps6
    go_wp2_with (go_at_call 8; refine (wawake _).mono ?_; rintro e u1 ⟨rfl, hb1⟩)
    go_ret
    exact ⟨rfl, bel_then (new_bel _ _) hb1⟩
  have hi : ¬ (100 : Int) < (len0_1 : Int) := by omega
  have k1 := Box.new w 24 #[.int .i64 a0_0, .slice a0_1 len0_1 cap0_1]
  have hB1 : Below w.heap.size w (w.alloc (.cells #[.int .i64 a0_0, .slice a0_1 len0_1 cap0_1] 24)) := new_bel _ _
  have hr1 := Shape.any (Shape.now hA hB1)
  have HRt : Hid _ := right a0_0 a0_1 len0_1 cap0_1 m0_1 _ hr1
  by_cases hR : Nx.Right ⟨a0_0, m0_1⟩ ∧ a0_0 ≤ a1
  · obtain ⟨hR1, hR2⟩ := hR
    have HR : Hid (Nx.Right ⟨a0_0, m0_1⟩) := hR1
    clear hR1 HRt
    go_enter Try.func6, Try.ntmps6
    go_wp2_with (first
      | (go_at_call 12; refine (right_yes a0_0 a0_1 len0_1 cap0_1 m0_1 _ hr1 HR.out).mono ?_; rintro e u1 ⟨rfl, hb1⟩; have k2 := k1.keep hb1; have p0 := k2.cell 0 rfl)
      | (go_at_call 8; refine (wawake _).mono ?_; rintro e u2 ⟨rfl, hb2⟩))
    go_ret
    exact ⟨rfl, bel_then (bel_then hB1 hb1) hb2⟩
  have HN : Hid (¬ Nx.Fresh ⟨a0_0, m0_1⟩ a1) := fun hf => hR ⟨hf.1, hf.2.1⟩
  have HG : Hid (Nx.Right ⟨a0_0, m0_1⟩ → ¬ a0_0 ≤ a1) := fun h1 h2 => hR ⟨h1, h2⟩
  clear hR HRt
  have hn : len0_1 ≤ 1000 := by omega
  go_enter Try.func6, Try.ntmps6
  go_wp2_with fail
  refine (right a0_0 a0_1 len0_1 cap0_1 m0_1 _ hr1).mono ?_
  rintro e u1 ⟨hs1, hb1⟩
  have k2 := k1.keep hb1
  have hB2 := bel_then hB1 hb1
  have p0 := k2.cell 0 rfl
  have p1 := k2.cell 1 rfl
  have hr2 := Shape.any (Shape.now hA hB2)
  clear k1 hB1 hb1 hr1
  by_cases hR : Nx.Right ⟨a0_0, m0_1⟩
  · have hlt : a1 < a0_0 := by have := HG.out hR; omega
    rw [hs1.is hR]
    clear hs1 hR
    go_wp2_with fail
    refine (accept_no a0_0 a0_1 len0_1 cap0_1 m0_1 a1 u1 hr2 hn HN.out).mono ?_
    rintro e u3 ⟨hb3, a3, c3, rfl, hr3⟩
    have hB4 := bel_alloc (bel_then hB2 hb3) (.cells #[.int .i64 a0_0, .slice a3 len0_1 c3] 24)
    have k4 := (k2.keep hb3).keep (new_bel u3 (.cells #[.int .i64 a0_0, .slice a3 len0_1 c3] 24))
    have hr4 := Shape.below hr3 (new_bel u3 (.cells #[.int .i64 a0_0, .slice a3 len0_1 c3] 24))
    have q0 := k4.cell 0 rfl
    have q1 := k4.cell 1 rfl
    have hr5 := Shape.any (Shape.now hA hB4)
    clear k2 hB2 p0 p1 hr2 hb3 hr3
    go_wp2_with (first
      | (go_at_call 11; refine (rsame a0_0 a3 len0_1 c3 m0_1 a0_0 a0_1 len0_1 cap0_1 m0_1 _ hr4 hr5 hn).mono ?_; rintro e u5 ⟨hs5, hb5⟩; rw [hs5.is ⟨rfl, rfl⟩])
      | (go_at_call 8; refine (wawake _).mono ?_; rintro e u6 ⟨rfl, hb6⟩))
    go_ret
    exact ⟨rfl, bel_then (bel_then hB4 hb5) hb6⟩
  · rw [hs1.not hR]
    clear hs1 hR
    go_wp2_with fail
    refine (accept_no a0_0 a0_1 len0_1 cap0_1 m0_1 a1 u1 hr2 hn HN.out).mono ?_
    rintro e u3 ⟨hb3, a3, c3, rfl, hr3⟩
    have hB4 := bel_alloc (bel_then hB2 hb3) (.cells #[.int .i64 a0_0, .slice a3 len0_1 c3] 24)
    have k4 := (k2.keep hb3).keep (new_bel u3 (.cells #[.int .i64 a0_0, .slice a3 len0_1 c3] 24))
    have hr4 := Shape.below hr3 (new_bel u3 (.cells #[.int .i64 a0_0, .slice a3 len0_1 c3] 24))
    have q0 := k4.cell 0 rfl
    have q1 := k4.cell 1 rfl
    have hr5 := Shape.any (Shape.now hA hB4)
    clear k2 hB2 p0 p1 hr2 hb3 hr3
    go_wp2_with (first
      | (go_at_call 11; refine (rsame a0_0 a3 len0_1 c3 m0_1 a0_0 a0_1 len0_1 cap0_1 m0_1 _ hr4 hr5 hn).mono ?_; rintro e u5 ⟨hs5, hb5⟩; rw [hs5.is ⟨rfl, rfl⟩])
      | (go_at_call 8; refine (wawake _).mono ?_; rintro e u6 ⟨rfl, hb6⟩))
    go_ret
    exact ⟨rfl, bel_then (bel_then hB4 hb5) hb6⟩

/- From the walk to the row. -/
set_option maxRecDepth 100000 in
theorem lifted (os : Os) (started : os.Started) (H : Type) (enc : TypeId × Value → H) :
    ReturnsInHanded {} Try.checked os 6 .any (Rows.windowWrongSpec.pre6 enc Try.prog Try.f6 Rows.windowWrongRow.domain false) (Rows.windowWrongSpec.post enc Try.prog Try.f6 false true false false) := by
  refine returnsInHanded_of_change (C := Try.checked) own started (by kernel_rfl) Try.func6
    (ChangeSpec.witness6 (enc := enc) (C := Try.checked) false ⟨#[], #[.agg #[.int .i64 0, .slice none 0 0], .int .i64 0], []⟩ 8 (by kernel_rfl) (by kernel_rfl) (by kernel_rfl) (by kernel_rfl)) ?_
  intro W base args ds gs before hval0 hW hcnd _
  have hval : ∀ (j : Nat) t v, Try.f6.params[j]? = some t → args[j]? = some v → Value.okWide Try.prog W .any base t v := hval0
  have hW' := hW
  obtain ⟨p, q, hA0, hV, rfl, hfz, hnd⟩ := hW
  have hA : DataW.TrodAll enc Try.prog W 0 (fun _ => true) true Try.f6.params.toList args.toList ds p := hA0
  rw [Try.params6] at hA hval
  obtain ⟨v0, vs0, d0, ds0, p0, q0, hargs, rfl, rfl, h0, r0⟩ := trodAll_cons hA
  obtain ⟨v1, vs1, d1, ds1, p1, q1, rfl, rfl, rfl, h1, r1⟩ := trodAll_cons r0
  obtain ⟨rfl, rfl, rfl⟩ := trodAll_nil r1
  obtain rfl : args = #[v0, v1] := by cases args; simp_all
  obtain ⟨rfl, rfl⟩ := trodVars_none hV
  obtain ⟨cs0, rfl⟩ := okWide_agg Try.underlying24 (hval 0 24 v0 rfl rfl)
  have k0 := h0
  have lt0 : ∀ x ∈ p0, x.block < W.heap.size := by obtain ⟨m, hm⟩ := k0; exact DataW.trod_lt m _ _ _ hm
  obtain ⟨y0, hy0, hw0⟩ : ∃ y, (consS (intS .i64) (consS (sliceS (intS .i64)) noneS)).rep W everywhere cs0 y ∧ ((Lit.int .i64 y.1).wf = true ∧ ((∀ x0 ∈ y.2.1, (Lit.int .i64 x0).wf = true) ∧ True)) := by
    obtain ⟨fuel, hf⟩ := h0
    exact (opens_struct Try.underlying24 (show Try.prog.cellsOf 24 = 2 by kernel_rfl) (opensAt_cons (A := (intS .i64)) rfl (show Try.prog.cellsOf 3 = 1 by kernel_rfl) (opens_int Try.underlying3) (opensAt_cons (A := (sliceS (intS .i64))) rfl (show Try.prog.cellsOf 22 = 1 by kernel_rfl) (opens_slice (A := (intS .i64)) Try.underlying22 (show Try.prog.cellsOf 3 = 1 by kernel_rfl) (by exact Nat.succ_pos _) (opens_int Try.underlying3)) opensAt_nil (by rfl)) (by rfl))) H enc W _ _ _ fuel _ _ (by simpa [Value.cells] using hf)
  obtain ⟨a0_0, m0_1, _⟩ := y0
  obtain ⟨d0_0, rfl, hy0_0⟩ := consS_int hy0
  obtain ⟨a0_1, len0_1, cap0_1, d0_1, rfl, w0_1, hy0_1⟩ := consS_slice hy0_0
  obtain rfl := noneS_nil hy0_1
  obtain ⟨w0_0, f0_1, _⟩ := hw0
  obtain ⟨a1, rfl, rfl, rfl, w1⟩ := open_int Try.underlying3 (hval 1 3 v1 rfl rfl) h1
  clear hA0 hval0
  refine (walk a0_0 a0_1 len0_1 cap0_1 m0_1 a1 W w0_0 w0_1 f0_1 w1).mono fun e W' ⟨he, bel⟩ => ?_
  subst he
  exact ⟨_, rfl, _, _, _, [], _, [], hW', trodAll_mk1 (shut_bool Try.underlying4 _), (trodAll_cons_mk (Below.trod laidOut (by kernel_rfl) (of_decide_eq_true (by kernel_rfl)) k0 bel lt0) (trodAll_cons_mk (shut_int Try.underlying3 w1) trodAll_mk0)), rfl, bel.frame _, fun h => by cases h⟩

theorem over : Rows.windowWrongRow.holds Try.pinned (OpenSpec.ofChange Rows.windowWrongSpec) :=
  OpenClaim.holds_of_wide 6 Try.f6 rfl rfl rfl rfl rfl rfl rfl ⟨rfl, rfl, rfl, rfl, rfl⟩ rfl rfl rfl rfl rfl (by kernel_rfl) Try.func6 (by kernel_rfl)
    (of_decide_eq_true (by kernel_rfl)) (by unfold Func.isWrapper; first | (rw [if_pos (by decide +kernel)]; kernel_rfl) | (rw [if_neg (by decide +kernel)]; exact ⟨rfl, rfl⟩))
    (fun os started H enc _ => lifted os started H enc)

end Go.Proofs.Ytlfbponacoombaa.windowWrong

namespace Go.Proofs.Ytlfbponacoombaa
theorem windowWrong_holds : Rows.WindowWrongSaid := windowWrong.over
end Go.Proofs.Ytlfbponacoombaa
