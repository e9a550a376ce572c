/- Whether any number is accepted by any window, and what that is then, is told as the document says: for every window and number. -/
import Derived.Test.YtlfbponacoombaaRows
import Derived.Test.YtlfbponacoombaaWinE
import Derived.WalkKit
import Derived.ProofKit
import Derived.OpenShut
import Derived.ShutString
import Derived.ChangeOld
import Derived.Below
namespace Go.Proofs.Ytlfbponacoombaa.windowExact
open Go.ChangeShapes Go.WideShapes Go.ChangeAt Go.RowKit
open Go.ChangeMaps (open_string shut_string)
set_option linter.unusedVariables false

theorem own : ownKnob Try.prog.godebug = none := by kernel_rfl
theorem laidOut : laidOutB Try.prog = true := by kernel_rfl

/- The walk: the call returns true, and nothing that was there is written. -/
theorem walk (a0_0 : Int) (a0_1 : Option Addr) (len0_1 cap0_1 : Nat) (m0_1 : List Int) (a1 : Int) (w : World) (w0_0 : (Lit.int .i64 a0_0).wf = true) (w0_1 : (sliceS (intS .i64)).rep w everywhere [.slice a0_1 len0_1 cap0_1] m0_1) (f0_1 : (∀ x0 ∈ m0_1, (Lit.int .i64 x0).wf = true)) (w1 : (Lit.int .i64 a1).wf = true) :
    Calls Try.prog 3 #[.agg #[.int .i64 a0_0, .slice a0_1 len0_1 cap0_1], .int .i64 a1] w fun e w' => e = .returned (.bool true) ∧ Below w.heap.size w w' := by
  clear f0_1 w0_0 w1
  have hA := Shape.low w0_1
  have hl := (sliceS_len w0_1).1
  clear w0_1
  by_cases h100 : 100 < len0_1
  · have hi : (100 : Int) < (len0_1 : Int) := by omega
    go_enter Try.func3, Try.ntmps3
    go_wp2_with (go_at_call 8; refine (wawake _).mono ?_; rintro e u1 ⟨rfl, hb1⟩)
    go_ret
    exact ⟨rfl, bel_then (new_bel _ _) hb1⟩
  have hi : ¬ (100 : Int) < (len0_1 : Int) := by omega
  have hn : len0_1 ≤ 1000 := by omega
  obtain ⟨R, hRR⟩ : ∃ R, tell (Nx.Right ⟨a0_0, m0_1⟩) = R := ⟨_, rfl⟩
  have HR : Hid (tell (Nx.Right ⟨a0_0, m0_1⟩) = R) := hRR
  clear hRR
  have eR : (R == R) = true := by simp
  obtain ⟨q1, q2⟩ := two_boxes w 24 26 #[.int .i64 a0_0, .slice a0_1 len0_1 cap0_1] #[.int .i64 a0_0, .slice a0_1 len0_1 cap0_1]
  have hB1 : Below w.heap.size w ((w.alloc (.cells #[.int .i64 a0_0, .slice a0_1 len0_1 cap0_1] 24)).alloc (.cells #[.int .i64 a0_0, .slice a0_1 len0_1 cap0_1] 26)) := bel_alloc (new_bel _ _) _
  have hr1 := Shape.any (Shape.now hA hB1)
  by_cases hf : Nx.Fresh ⟨a0_0, m0_1⟩ a1
  · obtain ⟨L, l1, hV⟩ : ∃ L l1, Nx.put ⟨a0_0, m0_1⟩ a1 = ⟨L, l1⟩ := ⟨_, _, rfl⟩
    obtain ⟨n1, hn1⟩ : ∃ n1, l1.length = n1 := ⟨_, rfl⟩
    have hn2 : n1 ≤ 1000 := by
      have := put_len hf
      rw [hV] at this
      have h3 : l1.length ≤ 32 := this
      omega
    have HV : Hid (Nx.put ⟨a0_0, m0_1⟩ a1 = ⟨L, l1⟩) := hV
    have HN : Hid (l1.length = n1) := hn1
    have HF : Hid (Nx.Fresh ⟨a0_0, m0_1⟩ a1) := hf
    clear hV hn1 hf
    go_enter Try.func3, Try.ntmps3
    go_wp2_with fail
    refine (accept_yes a0_0 a0_1 len0_1 cap0_1 m0_1 a1 _ hr1 hn HF.out L l1 HV.out n1 HN.out).mono ?_
    rintro e u1 ⟨hb1, a2, c2, rfl, hv1⟩
    have k1 := (q1.keep hb1).keep (new_bel u1 (.cells #[.int .i64 L, .slice a2 n1 c2] 24))
    have k2 := (q2.keep hb1).keep (new_bel u1 (.cells #[.int .i64 L, .slice a2 n1 c2] 24))
    have k3 := Box.new u1 24 #[.int .i64 L, .slice a2 n1 c2]
    have hv2 := Shape.below hv1 (new_bel u1 (.cells #[.int .i64 L, .slice a2 n1 c2] 24))
    have hB2 := bel_alloc (bel_then hB1 hb1) (.cells #[.int .i64 L, .slice a2 n1 c2] 24)
    have hr2 := Shape.any (Shape.now hA hB2)
    clear q1 q2 hb1 hv1 hB1 hr1
    have p0 := k2.cell 0 rfl
    have p1 := k2.cell 1 rfl
    go_wp2_with fail
    refine (raccept_yes a0_0 a0_1 len0_1 cap0_1 m0_1 a1 _ hr2 HF.out L l1 HV.out n1 HN.out).mono ?_
    rintro e u3 ⟨hb3, a4, c4, rfl, hy1⟩
    have k5 := (k1.keep hb3).keep (new_bel u3 (.cells #[.int .i64 L, .slice a4 n1 c4] 26))
    have k6 := (k2.keep hb3).keep (new_bel u3 (.cells #[.int .i64 L, .slice a4 n1 c4] 26))
    have k7 := (k3.keep hb3).keep (new_bel u3 (.cells #[.int .i64 L, .slice a4 n1 c4] 26))
    have k8 := Box.new u3 26 #[.int .i64 L, .slice a4 n1 c4]
    have hv4 := Shape.below (Shape.below hv2 hb3) (new_bel u3 (.cells #[.int .i64 L, .slice a4 n1 c4] 26))
    have hy2 := Shape.below hy1 (new_bel u3 (.cells #[.int .i64 L, .slice a4 n1 c4] 26))
    have hB4 := bel_alloc (bel_then hB2 hb3) (.cells #[.int .i64 L, .slice a4 n1 c4] 26)
    have hr4 := Shape.any (Shape.now hA hB4)
    clear p0 p1 k1 k2 k3 hb3 hv2 hy1 hB2 hr2
    go_wp2
    generalize u3.alloc (.cells #[.int .i64 L, .slice a4 n1 c4] 26) = W at *
    generalize u1.heap.size = g3 at *
    generalize u3.heap.size = g4 at *
    have hne9 : Nonempty (Later W) := Later.there W
    have d1 : ∀ x9 : Later W, x9.u.cell? ⟨w.heap.size, 0, none⟩ = some (.int .i64 a0_0) := fun x9 => x9.cell (k5.cell 0 rfl)
    have d2 : ∀ x9 : Later W, x9.u.cell? ⟨w.heap.size, 1, none⟩ = some (.slice a0_1 len0_1 cap0_1) := fun x9 => x9.cell (k5.cell 1 rfl)
    have d3 : ∀ x9 : Later W, x9.u.cell? ⟨w.heap.size + 1, 0, none⟩ = some (.int .i64 a0_0) := fun x9 => x9.cell (k6.cell 0 rfl)
    have d4 : ∀ x9 : Later W, x9.u.cell? ⟨w.heap.size + 1, 1, none⟩ = some (.slice a0_1 len0_1 cap0_1) := fun x9 => x9.cell (k6.cell 1 rfl)
    have d5 : ∀ x9 : Later W, x9.u.cell? ⟨g3, 0, none⟩ = some (.int .i64 L) := fun x9 => x9.cell (k7.cell 0 rfl)
    have d6 : ∀ x9 : Later W, x9.u.cell? ⟨g3, 1, none⟩ = some (.slice a2 n1 c2) := fun x9 => x9.cell (k7.cell 1 rfl)
    have d7 : ∀ x9 : Later W, x9.u.cell? ⟨g4, 0, none⟩ = some (.int .i64 L) := fun x9 => x9.cell (k8.cell 0 rfl)
    have d8 : ∀ x9 : Later W, x9.u.cell? ⟨g4, 1, none⟩ = some (.slice a4 n1 c4) := fun x9 => x9.cell (k8.cell 1 rfl)
    have c1 : ∀ x9 : Later W, Calls Try.prog 11 #[.agg #[.int .i64 L, .slice a2 n1 c2], .agg #[.int .i64 L, .slice a4 n1 c4]] x9.u fun e w' => e = .returned (.bool true) ∧ Below x9.u.heap.size x9.u w' := fun x9 => rsame_yes L a2 n1 c2 l1 a4 c4 x9.u (Shape.below hv4 x9.h) (Shape.below hy2 x9.h) hn2
    have c2' : ∀ x9 : Later W, Calls Try.prog 12 #[.agg #[.int .i64 a0_0, .slice a0_1 len0_1 cap0_1]] x9.u fun e w' => e = .returned (.bool R) ∧ Below x9.u.heap.size x9.u w' := fun x9 => right_tell a0_0 a0_1 len0_1 cap0_1 m0_1 x9.u (Shape.below hr4 x9.h) R HR.out
    have c3 : ∀ x9 : Later W, Calls Try.prog 13 #[.agg #[.int .i64 a0_0, .slice a0_1 len0_1 cap0_1]] x9.u fun e w' => e = .returned (.bool R) ∧ Below x9.u.heap.size x9.u w' := fun x9 => rright_tell a0_0 a0_1 len0_1 cap0_1 m0_1 x9.u (Shape.below hr4 x9.h) R HR.out
    clear k5 k6 k7 k8 hv4 hy2 hr4
    refine region_later (by kernel_rfl) (by kernel_rfl) ?_
    repeat (go_big_quiet_step (first
      | (go_at_call 11; exact Later.call (c1 _))
      | (go_at_call 12; exact Later.call (c2' _))
      | (go_at_call 13; exact Later.call (c3 _))
      | (go_at_call 8; exact Later.call (wawake _))))
    refine wpQuiet_nil ?_
    intro x9
    obtain ⟨W9, hb9⟩ := x9
    have hB9 := bel_then hB4 hb9
    clear d1 d2 d3 d4 d5 d6 d7 d8 c1 c2' c3 hne9
    go_wp2
    go_ret
    exact ⟨rfl, hB9⟩
  · have HF : Hid (¬ Nx.Fresh ⟨a0_0, m0_1⟩ a1) := hf
    have hn2 := hn
    clear hf
    go_enter Try.func3, Try.ntmps3
    go_wp2_with fail
    refine (accept_no a0_0 a0_1 len0_1 cap0_1 m0_1 a1 _ hr1 hn HF.out).mono ?_
    rintro e u1 ⟨hb1, a2, c2, rfl, hv1⟩
    have k1 := (q1.keep hb1).keep (new_bel u1 (.cells #[.int .i64 a0_0, .slice a2 len0_1 c2] 24))
    have k2 := (q2.keep hb1).keep (new_bel u1 (.cells #[.int .i64 a0_0, .slice a2 len0_1 c2] 24))
    have k3 := Box.new u1 24 #[.int .i64 a0_0, .slice a2 len0_1 c2]
    have hv2 := Shape.below hv1 (new_bel u1 (.cells #[.int .i64 a0_0, .slice a2 len0_1 c2] 24))
    have hB2 := bel_alloc (bel_then hB1 hb1) (.cells #[.int .i64 a0_0, .slice a2 len0_1 c2] 24)
    have hr2 := Shape.any (Shape.now hA hB2)
    clear q1 q2 hb1 hv1 hB1 hr1
    have p0 := k2.cell 0 rfl
    have p1 := k2.cell 1 rfl
    go_wp2_with fail
    refine (raccept_no a0_0 a0_1 len0_1 cap0_1 m0_1 a1 _ hr2 HF.out).mono ?_
    rintro e u3 ⟨hb3, a4, c4, rfl, hy1⟩
    have k5 := (k1.keep hb3).keep (new_bel u3 (.cells #[.int .i64 a0_0, .slice a4 len0_1 c4] 26))
    have k6 := (k2.keep hb3).keep (new_bel u3 (.cells #[.int .i64 a0_0, .slice a4 len0_1 c4] 26))
    have k7 := (k3.keep hb3).keep (new_bel u3 (.cells #[.int .i64 a0_0, .slice a4 len0_1 c4] 26))
    have k8 := Box.new u3 26 #[.int .i64 a0_0, .slice a4 len0_1 c4]
    have hv4 := Shape.below (Shape.below hv2 hb3) (new_bel u3 (.cells #[.int .i64 a0_0, .slice a4 len0_1 c4] 26))
    have hy2 := Shape.below hy1 (new_bel u3 (.cells #[.int .i64 a0_0, .slice a4 len0_1 c4] 26))
    have hB4 := bel_alloc (bel_then hB2 hb3) (.cells #[.int .i64 a0_0, .slice a4 len0_1 c4] 26)
    have hr4 := Shape.any (Shape.now hA hB4)
    clear p0 p1 k1 k2 k3 hb3 hv2 hy1 hB2 hr2
    go_wp2
    generalize u3.alloc (.cells #[.int .i64 a0_0, .slice a4 len0_1 c4] 26) = W at *
    generalize u1.heap.size = g3 at *
    generalize u3.heap.size = g4 at *
    have hne9 : Nonempty (Later W) := Later.there W
    have d1 : ∀ x9 : Later W, x9.u.cell? ⟨w.heap.size, 0, none⟩ = some (.int .i64 a0_0) := fun x9 => x9.cell (k5.cell 0 rfl)
    have d2 : ∀ x9 : Later W, x9.u.cell? ⟨w.heap.size, 1, none⟩ = some (.slice a0_1 len0_1 cap0_1) := fun x9 => x9.cell (k5.cell 1 rfl)
    have d3 : ∀ x9 : Later W, x9.u.cell? ⟨w.heap.size + 1, 0, none⟩ = some (.int .i64 a0_0) := fun x9 => x9.cell (k6.cell 0 rfl)
    have d4 : ∀ x9 : Later W, x9.u.cell? ⟨w.heap.size + 1, 1, none⟩ = some (.slice a0_1 len0_1 cap0_1) := fun x9 => x9.cell (k6.cell 1 rfl)
    have d5 : ∀ x9 : Later W, x9.u.cell? ⟨g3, 0, none⟩ = some (.int .i64 a0_0) := fun x9 => x9.cell (k7.cell 0 rfl)
    have d6 : ∀ x9 : Later W, x9.u.cell? ⟨g3, 1, none⟩ = some (.slice a2 len0_1 c2) := fun x9 => x9.cell (k7.cell 1 rfl)
    have d7 : ∀ x9 : Later W, x9.u.cell? ⟨g4, 0, none⟩ = some (.int .i64 a0_0) := fun x9 => x9.cell (k8.cell 0 rfl)
    have d8 : ∀ x9 : Later W, x9.u.cell? ⟨g4, 1, none⟩ = some (.slice a4 len0_1 c4) := fun x9 => x9.cell (k8.cell 1 rfl)
    have c1 : ∀ x9 : Later W, Calls Try.prog 11 #[.agg #[.int .i64 a0_0, .slice a2 len0_1 c2], .agg #[.int .i64 a0_0, .slice a4 len0_1 c4]] x9.u fun e w' => e = .returned (.bool true) ∧ Below x9.u.heap.size x9.u w' := fun x9 => rsame_yes a0_0 a2 len0_1 c2 m0_1 a4 c4 x9.u (Shape.below hv4 x9.h) (Shape.below hy2 x9.h) hn2
    have c2' : ∀ x9 : Later W, Calls Try.prog 12 #[.agg #[.int .i64 a0_0, .slice a0_1 len0_1 cap0_1]] x9.u fun e w' => e = .returned (.bool R) ∧ Below x9.u.heap.size x9.u w' := fun x9 => right_tell a0_0 a0_1 len0_1 cap0_1 m0_1 x9.u (Shape.below hr4 x9.h) R HR.out
    have c3 : ∀ x9 : Later W, Calls Try.prog 13 #[.agg #[.int .i64 a0_0, .slice a0_1 len0_1 cap0_1]] x9.u fun e w' => e = .returned (.bool R) ∧ Below x9.u.heap.size x9.u w' := fun x9 => rright_tell a0_0 a0_1 len0_1 cap0_1 m0_1 x9.u (Shape.below hr4 x9.h) R HR.out
    clear k5 k6 k7 k8 hv4 hy2 hr4
    refine region_later (by kernel_rfl) (by kernel_rfl) ?_
    repeat (go_big_quiet_step (first
      | (go_at_call 11; exact Later.call (c1 _))
      | (go_at_call 12; exact Later.call (c2' _))
      | (go_at_call 13; exact Later.call (c3 _))
      | (go_at_call 8; exact Later.call (wawake _))))
    refine wpQuiet_nil ?_
    intro x9
    obtain ⟨W9, hb9⟩ := x9
    have hB9 := bel_then hB4 hb9
    clear d1 d2 d3 d4 d5 d6 d7 d8 c1 c2' c3 hne9
    go_wp2
    go_ret
    exact ⟨rfl, hB9⟩

/- From the walk to the row. -/
set_option maxRecDepth 100000 in
theorem lifted (os : Os) (started : os.Started) (H : Type) (enc : TypeId × Value → H) :
    ReturnsInHanded {} Try.checked os 3 .any (Rows.windowExactSpec.pre6 enc Try.prog Try.f3 Rows.windowExactRow.domain false) (Rows.windowExactSpec.post enc Try.prog Try.f3 false true false false) := by
  refine returnsInHanded_of_change (C := Try.checked) own started (by kernel_rfl) Try.func3
    (ChangeSpec.witness6 (enc := enc) (C := Try.checked) false ⟨#[], #[.agg #[.int .i64 0, .slice none 0 0], .int .i64 0], []⟩ 8 (by kernel_rfl) (by kernel_rfl) (by kernel_rfl) (by kernel_rfl)) ?_
  intro W base args ds gs before hval0 hW hcnd _
  have hval : ∀ (j : Nat) t v, Try.f3.params[j]? = some t → args[j]? = some v → Value.okWide Try.prog W .any base t v := hval0
  have hW' := hW
  obtain ⟨p, q, hA0, hV, rfl, hfz, hnd⟩ := hW
  have hA : DataW.TrodAll enc Try.prog W 0 (fun _ => true) true Try.f3.params.toList args.toList ds p := hA0
  rw [Try.params3] at hA hval
  obtain ⟨v0, vs0, d0, ds0, p0, q0, hargs, rfl, rfl, h0, r0⟩ := trodAll_cons hA
  obtain ⟨v1, vs1, d1, ds1, p1, q1, rfl, rfl, rfl, h1, r1⟩ := trodAll_cons r0
  obtain ⟨rfl, rfl, rfl⟩ := trodAll_nil r1
  obtain rfl : args = #[v0, v1] := by cases args; simp_all
  obtain ⟨rfl, rfl⟩ := trodVars_none hV
  obtain ⟨cs0, rfl⟩ := okWide_agg Try.underlying24 (hval 0 24 v0 rfl rfl)
  have k0 := h0
  have lt0 : ∀ x ∈ p0, x.block < W.heap.size := by obtain ⟨m, hm⟩ := k0; exact DataW.trod_lt m _ _ _ hm
  obtain ⟨y0, hy0, hw0⟩ : ∃ y, (consS (intS .i64) (consS (sliceS (intS .i64)) noneS)).rep W everywhere cs0 y ∧ ((Lit.int .i64 y.1).wf = true ∧ ((∀ x0 ∈ y.2.1, (Lit.int .i64 x0).wf = true) ∧ True)) := by
    obtain ⟨fuel, hf⟩ := h0
    exact (opens_struct Try.underlying24 (show Try.prog.cellsOf 24 = 2 by kernel_rfl) (opensAt_cons (A := (intS .i64)) rfl (show Try.prog.cellsOf 3 = 1 by kernel_rfl) (opens_int Try.underlying3) (opensAt_cons (A := (sliceS (intS .i64))) rfl (show Try.prog.cellsOf 22 = 1 by kernel_rfl) (opens_slice (A := (intS .i64)) Try.underlying22 (show Try.prog.cellsOf 3 = 1 by kernel_rfl) (by exact Nat.succ_pos _) (opens_int Try.underlying3)) opensAt_nil (by rfl)) (by rfl))) H enc W _ _ _ fuel _ _ (by simpa [Value.cells] using hf)
  obtain ⟨a0_0, m0_1, _⟩ := y0
  obtain ⟨d0_0, rfl, hy0_0⟩ := consS_int hy0
  obtain ⟨a0_1, len0_1, cap0_1, d0_1, rfl, w0_1, hy0_1⟩ := consS_slice hy0_0
  obtain rfl := noneS_nil hy0_1
  obtain ⟨w0_0, f0_1, _⟩ := hw0
  obtain ⟨a1, rfl, rfl, rfl, w1⟩ := open_int Try.underlying3 (hval 1 3 v1 rfl rfl) h1
  clear hA0 hval0
  refine (walk a0_0 a0_1 len0_1 cap0_1 m0_1 a1 W w0_0 w0_1 f0_1 w1).mono fun e W' ⟨he, bel⟩ => ?_
  subst he
  exact ⟨_, rfl, _, _, _, [], _, [], hW', trodAll_mk1 (shut_bool Try.underlying4 _), (trodAll_cons_mk (Below.trod laidOut (by kernel_rfl) (of_decide_eq_true (by kernel_rfl)) k0 bel lt0) (trodAll_cons_mk (shut_int Try.underlying3 w1) trodAll_mk0)), rfl, bel.frame _, fun h => by cases h⟩

theorem over : Rows.windowExactRow.holds Try.pinned (OpenSpec.ofChange Rows.windowExactSpec) :=
  OpenClaim.holds_of_wide 3 Try.f3 rfl rfl rfl rfl rfl rfl rfl ⟨rfl, rfl, rfl, rfl, rfl⟩ rfl rfl rfl rfl rfl (by kernel_rfl) Try.func3 (by kernel_rfl)
    (of_decide_eq_true (by kernel_rfl)) (by unfold Func.isWrapper; first | (rw [if_pos (by decide +kernel)]; kernel_rfl) | (rw [if_neg (by decide +kernel)]; exact ⟨rfl, rfl⟩))
    (fun os started H enc _ => lifted os started H enc)

end Go.Proofs.Ytlfbponacoombaa.windowExact

namespace Go.Proofs.Ytlfbponacoombaa
theorem windowExact_holds : Rows.WindowExactSaid := windowExact.over
end Go.Proofs.Ytlfbponacoombaa
