/- For all rows of ints a and b and every int k the law VecExact returns true: Dot, Add, Scale and Relu of package vec are what the document says; no condition. -/
import Derived.Test.YthgmafdfakobbaaRows
import Derived.Test.YthgmafdfakobbaaVz
import Derived.WalkKit
import Derived.ProofKit
import Derived.OpenShut
import Derived.ShutString
import Derived.ChangeOld
import Derived.Below
namespace Go.Proofs.Ythgmafdfakobbaa.vecExact
open Go.ChangeShapes Go.WideShapes Go.ChangeAt Go.RowKit
open Go.ChangeMaps (open_string shut_string)
set_option linter.unusedVariables false

theorem own : ownKnob Try.prog.godebug = none := by kernel_rfl
theorem laidOut : laidOutB Try.prog = true := by kernel_rfl

/- The walk: the call returns true, and nothing that was there is written. -/
theorem walk (a0 : Option Addr) (len0 cap0 : Nat) (z0 : List Int) (a1 : Option Addr) (len1 cap1 : Nat) (z1 : List Int) (a2 : Int) (w : World) (w0 : IsRow .i64 w a0 len0 cap0 z0) (w1 : IsRow .i64 w a1 len1 cap1 z1) (w2 : (Lit.int .i64 a2).wf = true) :
    Calls Try.prog 3 #[.slice a0 len0 cap0, .slice a1 len1 cap1, .int .i64 a2] w fun e w' => e = .returned (.bool true) ∧ Below w.heap.size w w' := by
  have ha := Row.of_is w0
  generalize z0.take len0 = l0 at ha
  have hb := Row.of_is w1
  generalize z1.take len1 = l1 at hb
  clear w0 w1
  by_cases hl : 100 < len0 ∨ 100 < len1
  · by_cases hl0 : 100 < len0
    · have hi : (100 : Int) < (len0 : Int) := by omega
      go_enter Try.func3, Try.ntmps3
      go_wp2_with fail
      refine (vawake _).mono ?_
      rintro e w1 ⟨rfl, hb1⟩
      go_wp2
      go_ret
      exact ⟨rfl, hb1⟩
    · have hi : ¬ (100 : Int) < (len0 : Int) := by omega
      have hj : (100 : Int) < (len1 : Int) := by omega
      go_enter Try.func3, Try.ntmps3
      go_wp2_with fail
      refine (vawake _).mono ?_
      rintro e w1 ⟨rfl, hb1⟩
      go_wp2
      go_ret
      exact ⟨rfl, hb1⟩
  · have hi : ¬ (100 : Int) < (len0 : Int) := by omega
    have hj : ¬ (100 : Int) < (len1 : Int) := by omega
    have hn : len0 ≤ 100000 := by omega
    have hm : len1 ≤ 100000 := by omega
    clear hl
    by_cases hlen : len0 = len1
    · subst hlen
      have e1 : ((len0 : Int) != (len0 : Int)) = false := by simp
      have e2 : (Vx.dot l0 l1 == Vx.dot l0 l1) = true := by simp
      go_enter Try.func3, Try.ntmps3
      go_wp2_with fail
      refine (vdot _ _ len0 _ _ l0 l1 _ ha hb hn).mono ?_
      rintro e w1 ⟨rfl, hb1⟩
      have a_1 := ha.keep hb1
      have b_1 := hb.keep hb1
      have hB1 := hb1
      clear ha hb hb1
      go_wp2_with fail
      refine (vadd _ _ len0 _ _ l0 l1 _ a_1 b_1 hn).mono ?_
      rintro e w2 ⟨s1, c1, rfl, hs, hb2⟩
      have a_2 := a_1.keep hb2
      have b_2 := b_1.keep hb2
      have hB2 := bel_then hB1 hb2
      clear a_1 b_1 hB1 hb2
      go_wp2_with fail
      refine (vscale _ len0 _ _ l0 _ a_2 hn).mono ?_
      rintro e w3 ⟨s2, c2, rfl, hx, hb3⟩
      have a_3 := a_2.keep hb3
      have b_3 := b_2.keep hb3
      have s_3 := hs.keep hb3
      have hB3 := bel_then hB2 hb3
      clear a_2 b_2 hs hB2 hb3
      go_wp2_with fail
      refine (rscale _ len0 _ _ l0 _ a_3 hn).mono ?_
      rintro e w4 ⟨s3, c3, rfl, hy, hb4⟩
      have a_4 := a_3.keep hb4
      have b_4 := b_3.keep hb4
      have s_4 := s_3.keep hb4
      have x_4 := hx.keep hb4
      have hB4 := bel_then hB3 hb4
      clear a_3 b_3 s_3 hx hB3 hb4
      go_wp2_with fail
      refine (same_true _ _ len0 _ _ _ _ x_4 hy hn).mono ?_
      rintro e w5 ⟨rfl, hb5⟩
      have a_5 := a_4.keep hb5
      have b_5 := b_4.keep hb5
      have s_5 := s_4.keep hb5
      have x_5 := x_4.keep hb5
      have y_5 := hy.keep hb5
      have hB5 := bel_then hB4 hb5
      clear a_4 b_4 s_4 x_4 hy hB4 hb5
      clear x_5 y_5
      go_wp2_with fail
      refine (vrelu _ len0 _ l0 _ a_5 hn).mono ?_
      rintro e w6 ⟨s4, c4, rfl, hx, hb6⟩
      have a_6 := a_5.keep hb6
      have b_6 := b_5.keep hb6
      have s_6 := s_5.keep hb6
      have hB6 := bel_then hB5 hb6
      clear a_5 b_5 s_5 hB5 hb6
      go_wp2_with fail
      refine (rrelu _ len0 _ l0 _ a_6 hn).mono ?_
      rintro e w7 ⟨s5, c5, rfl, hy, hb7⟩
      have a_7 := a_6.keep hb7
      have b_7 := b_6.keep hb7
      have s_7 := s_6.keep hb7
      have x_7 := hx.keep hb7
      have hB7 := bel_then hB6 hb7
      clear a_6 b_6 s_6 hx hB6 hb7
      go_wp2_with fail
      refine (same_true _ _ len0 _ _ _ _ x_7 hy hn).mono ?_
      rintro e w8 ⟨rfl, hb8⟩
      have a_8 := a_7.keep hb8
      have b_8 := b_7.keep hb8
      have s_8 := s_7.keep hb8
      have x_8 := x_7.keep hb8
      have y_8 := hy.keep hb8
      have hB8 := bel_then hB7 hb8
      clear a_7 b_7 s_7 x_7 hy hB7 hb8
      clear x_8 y_8
      go_wp2_with fail
      refine (rdot _ _ len0 _ _ l0 l1 _ a_8 b_8 hn).mono ?_
      rintro e w9 ⟨rfl, hb9⟩
      have a_9 := a_8.keep hb9
      have b_9 := b_8.keep hb9
      have s_9 := s_8.keep hb9
      have hB9 := bel_then hB8 hb9
      clear a_8 b_8 s_8 hB8 hb9
      go_wp2_with fail
      refine (radd _ _ len0 _ _ l0 l1 _ a_9 b_9 hn).mono ?_
      rintro e w10 ⟨s6, c6, rfl, hy, hb10⟩
      have a_10 := a_9.keep hb10
      have b_10 := b_9.keep hb10
      have s_10 := s_9.keep hb10
      have hB10 := bel_then hB9 hb10
      clear a_9 b_9 s_9 hB9 hb10
      go_wp2_with fail
      refine (same_true _ _ len0 _ _ _ _ s_10 hy hn).mono ?_
      rintro e w11 ⟨rfl, hb11⟩
      have a_11 := a_10.keep hb11
      have b_11 := b_10.keep hb11
      have s_11 := s_10.keep hb11
      have y_11 := hy.keep hb11
      have hB11 := bel_then hB10 hb11
      clear a_10 b_10 s_10 hy hB10 hb11
      go_wp2_with fail
      refine (vawake _).mono ?_
      rintro e w12 ⟨rfl, hb12⟩
      have a_12 := a_11.keep hb12
      have b_12 := b_11.keep hb12
      have s_12 := s_11.keep hb12
      have y_12 := y_11.keep hb12
      have hB12 := bel_then hB11 hb12
      clear a_11 b_11 s_11 y_11 hB11 hb12
      go_wp2
      go_ret
      exact ⟨rfl, hB12⟩
    · have e1 : ((len0 : Int) != (len1 : Int)) = true := by rw [bne_iff_ne]; omega
      go_enter Try.func3, Try.ntmps3
      go_wp2_with fail
      refine (vdot_no _ _ len0 len1 _ _ _ hlen).mono ?_
      rintro e w1 ⟨rfl, hb1⟩
      have a_1 := ha.keep hb1
      have b_1 := hb.keep hb1
      have hB1 := hb1
      clear ha hb hb1
      go_wp2_with fail
      refine (vadd_no _ _ len0 len1 _ _ _ hlen).mono ?_
      rintro e w2 ⟨rfl, hb2⟩
      have a_2 := a_1.keep hb2
      have b_2 := b_1.keep hb2
      have hB2 := bel_then hB1 hb2
      clear a_1 b_1 hB1 hb2
      go_wp2_with fail
      refine (vscale _ len0 _ _ l0 _ a_2 hn).mono ?_
      rintro e w3 ⟨s2, c2, rfl, hx, hb3⟩
      have a_3 := a_2.keep hb3
      have b_3 := b_2.keep hb3
      have hB3 := bel_then hB2 hb3
      clear a_2 b_2 hB2 hb3
      go_wp2_with fail
      refine (rscale _ len0 _ _ l0 _ a_3 hn).mono ?_
      rintro e w4 ⟨s3, c3, rfl, hy, hb4⟩
      have a_4 := a_3.keep hb4
      have b_4 := b_3.keep hb4
      have x_4 := hx.keep hb4
      have hB4 := bel_then hB3 hb4
      clear a_3 b_3 hx hB3 hb4
      go_wp2_with fail
      refine (same_true _ _ len0 _ _ _ _ x_4 hy hn).mono ?_
      rintro e w5 ⟨rfl, hb5⟩
      have a_5 := a_4.keep hb5
      have b_5 := b_4.keep hb5
      have x_5 := x_4.keep hb5
      have y_5 := hy.keep hb5
      have hB5 := bel_then hB4 hb5
      clear a_4 b_4 x_4 hy hB4 hb5
      clear x_5 y_5
      go_wp2_with fail
      refine (vrelu _ len0 _ l0 _ a_5 hn).mono ?_
      rintro e w6 ⟨s4, c4, rfl, hx, hb6⟩
      have a_6 := a_5.keep hb6
      have b_6 := b_5.keep hb6
      have hB6 := bel_then hB5 hb6
      clear a_5 b_5 hB5 hb6
      go_wp2_with fail
      refine (rrelu _ len0 _ l0 _ a_6 hn).mono ?_
      rintro e w7 ⟨s5, c5, rfl, hy, hb7⟩
      have a_7 := a_6.keep hb7
      have b_7 := b_6.keep hb7
      have x_7 := hx.keep hb7
      have hB7 := bel_then hB6 hb7
      clear a_6 b_6 hx hB6 hb7
      go_wp2_with fail
      refine (same_true _ _ len0 _ _ _ _ x_7 hy hn).mono ?_
      rintro e w8 ⟨rfl, hb8⟩
      have a_8 := a_7.keep hb8
      have b_8 := b_7.keep hb8
      have x_8 := x_7.keep hb8
      have y_8 := hy.keep hb8
      have hB8 := bel_then hB7 hb8
      clear a_7 b_7 x_7 hy hB7 hb8
      clear x_8 y_8
      go_wp2_with fail
      refine (vawake _).mono ?_
      rintro e w9 ⟨rfl, hb9⟩
      have a_9 := a_8.keep hb9
      have b_9 := b_8.keep hb9
      have hB9 := bel_then hB8 hb9
      clear a_8 b_8 hB8 hb9
      go_wp2
      go_ret
      exact ⟨rfl, hB9⟩

/- From the walk to the row. -/
set_option maxRecDepth 100000 in
theorem lifted (os : Os) (started : os.Started) (H : Type) (enc : TypeId × Value → H) :
    ReturnsInHanded {} Try.checked os 3 .any (Rows.vecExactSpec.pre6 enc Try.prog Try.f3 Rows.vecExactRow.domain false) (Rows.vecExactSpec.post enc Try.prog Try.f3 false true false false) := by
  refine returnsInHanded_of_change (C := Try.checked) own started (by kernel_rfl) Try.func3
    (ChangeSpec.witness6 (enc := enc) (C := Try.checked) false ⟨#[], #[.slice none 0 0, .slice none 0 0, .int .i64 0], []⟩ 8 (by kernel_rfl) (by kernel_rfl) (by kernel_rfl) (by kernel_rfl)) ?_
  intro W base args ds gs before hval0 hW hcnd _
  have hval : ∀ (j : Nat) t v, Try.f3.params[j]? = some t → args[j]? = some v → Value.okWide Try.prog W .any base t v := hval0
  have hW' := hW
  obtain ⟨p, q, hA0, hV, rfl, hfz, hnd⟩ := hW
  have hA : DataW.TrodAll enc Try.prog W 0 (fun _ => true) true Try.f3.params.toList args.toList ds p := hA0
  rw [Try.params3] at hA hval
  obtain ⟨v0, vs0, d0, ds0, p0, q0, hargs, rfl, rfl, h0, r0⟩ := trodAll_cons hA
  obtain ⟨v1, vs1, d1, ds1, p1, q1, rfl, rfl, rfl, h1, r1⟩ := trodAll_cons r0
  obtain ⟨v2, vs2, d2, ds2, p2, q2, rfl, rfl, rfl, h2, r2⟩ := trodAll_cons r1
  obtain ⟨rfl, rfl, rfl⟩ := trodAll_nil r2
  obtain rfl : args = #[v0, v1, v2] := by cases args; simp_all
  obtain ⟨rfl, rfl⟩ := trodVars_none hV
  obtain ⟨a0, len0, cap0, rfl⟩ := okWide_slice Try.underlying22 (hval 0 22 v0 rfl rfl)
  have k0 := h0
  have lt0 : ∀ x ∈ p0, x.block < W.heap.size := by obtain ⟨m, hm⟩ := k0; exact DataW.trod_lt m _ _ _ hm
  obtain ⟨z0, w0⟩ : ∃ zs, IsRow .i64 W a0 len0 cap0 zs := by
    obtain ⟨fuel, hf⟩ := h0
    rcases open_ints Try.underlying22 Try.underlying3 (by kernel_rfl) hf with ⟨hcs, _⟩ | ⟨x, l, c, zs, hcs, _, hl, hm, hz, _, hcell, hwz⟩
    · simp [Value.cells] at hcs
      obtain ⟨rfl, rfl, rfl⟩ := hcs
      exact ⟨[], .inl ⟨rfl, rfl, rfl, rfl⟩⟩
    · simp [Value.cells] at hcs
      obtain ⟨rfl, rfl, rfl⟩ := hcs
      exact ⟨zs, .inr ⟨_, rfl, hl, hm, by simpa using hz, hcell, hwz⟩⟩
  obtain ⟨a1, len1, cap1, rfl⟩ := okWide_slice Try.underlying22 (hval 1 22 v1 rfl rfl)
  have k1 := h1
  have lt1 : ∀ x ∈ p1, x.block < W.heap.size := by obtain ⟨m, hm⟩ := k1; exact DataW.trod_lt m _ _ _ hm
  obtain ⟨z1, w1⟩ : ∃ zs, IsRow .i64 W a1 len1 cap1 zs := by
    obtain ⟨fuel, hf⟩ := h1
    rcases open_ints Try.underlying22 Try.underlying3 (by kernel_rfl) hf with ⟨hcs, _⟩ | ⟨x, l, c, zs, hcs, _, hl, hm, hz, _, hcell, hwz⟩
    · simp [Value.cells] at hcs
      obtain ⟨rfl, rfl, rfl⟩ := hcs
      exact ⟨[], .inl ⟨rfl, rfl, rfl, rfl⟩⟩
    · simp [Value.cells] at hcs
      obtain ⟨rfl, rfl, rfl⟩ := hcs
      exact ⟨zs, .inr ⟨_, rfl, hl, hm, by simpa using hz, hcell, hwz⟩⟩
  obtain ⟨a2, rfl, rfl, rfl, w2⟩ := open_int Try.underlying3 (hval 2 3 v2 rfl rfl) h2
  clear hA0 hval0
  refine (walk a0 len0 cap0 z0 a1 len1 cap1 z1 a2 W w0 w1 w2).mono fun e W' ⟨he, bel⟩ => ?_
  subst he
  exact ⟨_, rfl, _, _, _, [], _, [], hW', trodAll_mk1 (shut_bool Try.underlying4 _), (trodAll_cons_mk (Below.trod laidOut (by kernel_rfl) (of_decide_eq_true (by kernel_rfl)) k0 bel lt0) (trodAll_cons_mk (Below.trod laidOut (by kernel_rfl) (of_decide_eq_true (by kernel_rfl)) k1 bel lt1) (trodAll_cons_mk (shut_int Try.underlying3 w2) trodAll_mk0))), rfl, bel.frame _, fun h => by cases h⟩

theorem over : Rows.vecExactRow.holds Try.pinned (OpenSpec.ofChange Rows.vecExactSpec) :=
  OpenClaim.holds_of_wide 3 Try.f3 rfl rfl rfl rfl rfl rfl rfl ⟨rfl, rfl, rfl, rfl, rfl⟩ rfl rfl rfl rfl rfl (by kernel_rfl) Try.func3 (by kernel_rfl)
    (of_decide_eq_true (by kernel_rfl)) (by unfold Func.isWrapper; first | (rw [if_pos (by decide +kernel)]; kernel_rfl) | (rw [if_neg (by decide +kernel)]; exact ⟨rfl, rfl⟩))
    (fun os started H enc _ => lifted os started H enc)

end Go.Proofs.Ythgmafdfakobbaa.vecExact

namespace Go.Proofs.Ythgmafdfakobbaa
theorem vecExact_holds : Rows.VecExactSaid := vecExact.over
end Go.Proofs.Ythgmafdfakobbaa
