/- For all rows of ints a and b the law VecTurns returns true: Dot and Add do not hang on the order of the rows, Relu of Relu is it, noughts turn nothing; no condition. -/
import Derived.Test.YthgmafdfakobbaaRows
import Derived.Test.YthgmafdfakobbaaVz
import Derived.WalkKit
import Derived.ProofKit
import Derived.OpenShut
import Derived.ShutString
import Derived.ChangeOld
import Derived.Below
namespace Go.Proofs.Ythgmafdfakobbaa.vecTurns
open Go.ChangeShapes Go.WideShapes Go.ChangeAt Go.RowKit
open Go.ChangeMaps (open_string shut_string)
set_option linter.unusedVariables false

theorem own : ownKnob Try.prog.godebug = none := by kernel_rfl
theorem laidOut : laidOutB Try.prog = true := by kernel_rfl

/- The walk: the call returns true, and nothing that was there is written. -/
theorem walk (a0 : Option Addr) (len0 cap0 : Nat) (z0 : List Int) (a1 : Option Addr) (len1 cap1 : Nat) (z1 : List Int) (w : World) (w0 : IsRow .i64 w a0 len0 cap0 z0) (w1 : IsRow .i64 w a1 len1 cap1 z1) :
    Calls Try.prog 4 #[.slice a0 len0 cap0, .slice a1 len1 cap1] w fun e w' => e = .returned (.bool true) ∧ Below w.heap.size w w' := by
  have ha := Row.of_is w0
  generalize z0.take len0 = l0 at ha
  have hb := Row.of_is w1
  generalize z1.take len1 = l1 at hb
  clear w0 w1
  by_cases hl : 100 < len0 ∨ 100 < len1
  · by_cases hl0 : 100 < len0
    · have hi : (100 : Int) < (len0 : Int) := by omega
      go_enter Try.func4, Try.ntmps4
      go_wp2_with fail
      refine (vawake _).mono ?_
      rintro e w1 ⟨rfl, hb1⟩
      go_wp2
      go_ret
      exact ⟨rfl, hb1⟩
    · have hi : ¬ (100 : Int) < (len0 : Int) := by omega
      have hj : (100 : Int) < (len1 : Int) := by omega
      go_enter Try.func4, Try.ntmps4
      go_wp2_with fail
      refine (vawake _).mono ?_
      rintro e w1 ⟨rfl, hb1⟩
      go_wp2
      go_ret
      exact ⟨rfl, hb1⟩
  · have hi : ¬ (100 : Int) < (len0 : Int) := by omega
    have hj : ¬ (100 : Int) < (len1 : Int) := by omega
    have hn : len0 ≤ 100000 := by omega
    have hm : len1 ≤ 100000 := by omega
    clear hl
    by_cases hlen : len0 = len1
    · subst hlen
      have e1 : (Vx.dot l0 l1 == Vx.dot l1 l0) = true := by simp [Vx.dot_comm l0 l1]
      have HD : Hid (Vx.dot l0 (List.replicate len0 0) = 0) := by show _ = _; rw [← ha.len]; exact Vx.dot_zeros l0
      have HQ : Hid (Vx.add (Vx.relu l0) (List.replicate len0 0) = Vx.relu l0) := by show _ = _; rw [← ha.len]; exact Vx.add_relu_zeros l0
      have hmk := run_make_row' (P := Try.prog) 22 3 (.int .i64 0) 8 Try.underlying22 Try.infoInt rfl .i64 .i64 len0 (by omega) (by omega)
      go_enter Try.func4, Try.ntmps4
      go_wp2_with fail
      refine (vdot _ _ len0 _ _ l0 l1 _ ha hb hn).mono ?_
      rintro e w1 ⟨rfl, hb1⟩
      have a_1 := ha.keep hb1
      have b_1 := hb.keep hb1
      have hB1 := hb1
      clear ha hb hb1
      go_wp2_with fail
      refine (vdot _ _ len0 _ _ l1 l0 _ b_1 a_1 hn).mono ?_
      rintro e w2 ⟨rfl, hb2⟩
      have a_2 := a_1.keep hb2
      have b_2 := b_1.keep hb2
      have hB2 := bel_then hB1 hb2
      clear a_1 b_1 hB1 hb2
      go_wp2_with fail
      refine (vadd _ _ len0 _ _ l0 l1 _ a_2 b_2 hn).mono ?_
      rintro e w3 ⟨s1, c1, rfl, hs, hb3⟩
      have a_3 := a_2.keep hb3
      have b_3 := b_2.keep hb3
      have hB3 := bel_then hB2 hb3
      clear a_2 b_2 hB2 hb3
      go_wp2_with fail
      refine (vadd _ _ len0 _ _ l1 l0 _ b_3 a_3 hn).mono ?_
      rintro e w4 ⟨s2, c2, rfl, ht, hb4⟩
      have a_4 := a_3.keep hb4
      have b_4 := b_3.keep hb4
      have s_4 := hs.keep hb4
      have hB4 := bel_then hB3 hb4
      clear a_3 b_3 hs hB3 hb4
      rw [Vx.add_comm l1 l0] at ht
      go_wp2_with fail
      have hm0 : Below w4.heap.size w4 (w4.alloc (.cells (madeCells #[.int .i64 0] len0) 3)) := (Below.refl _ _).alloc (Nat.le_refl _) _
      have hz0 := Row.made w4 len0
      have a_m := a_4.keep hm0
      have b_m := b_4.keep hm0
      have s_m := s_4.keep hm0
      have t_m := ht.keep hm0
      have hBm := bel_then hB4 hm0
      clear a_4 b_4 s_4 ht hB4 hm0
      skip
      refine (vdot _ _ len0 _ _ l0 _ _ a_m hz0 hn).mono ?_
      rintro e w5 ⟨rfl, hb5⟩
      have a_5 := a_m.keep hb5
      have b_5 := b_m.keep hb5
      have s_5 := s_m.keep hb5
      have t_5 := t_m.keep hb5
      have hB5 := bel_then hBm hb5
      clear a_m b_m s_m t_m hBm hb5
      clear hz0
      rw [HD.out]
      go_wp2_with fail
      refine (vrelu _ len0 _ l0 _ a_5 hn).mono ?_
      rintro e w6 ⟨s3, c3, rfl, hp, hb6⟩
      have a_6 := a_5.keep hb6
      have b_6 := b_5.keep hb6
      have s_6 := s_5.keep hb6
      have t_6 := t_5.keep hb6
      have hB6 := bel_then hB5 hb6
      clear a_5 b_5 s_5 t_5 hB5 hb6
      go_wp2_with fail
      have hm1 : Below w6.heap.size w6 (w6.alloc (.cells (madeCells #[.int .i64 0] len0) 3)) := (Below.refl _ _).alloc (Nat.le_refl _) _
      have hz1 := Row.made w6 len0
      have a_k := a_6.keep hm1
      have b_k := b_6.keep hm1
      have s_k := s_6.keep hm1
      have t_k := t_6.keep hm1
      have p_k := hp.keep hm1
      have hBk := bel_then hB6 hm1
      clear a_6 b_6 s_6 t_6 hp hB6 hm1
      skip
      refine (vadd _ _ len0 _ _ (Vx.relu l0) _ _ p_k hz1 hn).mono ?_
      rintro e w7 ⟨s4, c4, rfl, hq, hb7⟩
      have a_7 := a_k.keep hb7
      have b_7 := b_k.keep hb7
      have s_7 := s_k.keep hb7
      have t_7 := t_k.keep hb7
      have p_7 := p_k.keep hb7
      have hB7 := bel_then hBk hb7
      clear a_k b_k s_k t_k p_k hBk hb7
      clear hz1
      rw [HQ.out] at hq
      go_wp2_with fail
      refine (same_true _ _ len0 _ _ _ _ s_7 t_7 hn).mono ?_
      rintro e w8 ⟨rfl, hb8⟩
      have a_8 := a_7.keep hb8
      have b_8 := b_7.keep hb8
      have s_8 := s_7.keep hb8
      have t_8 := t_7.keep hb8
      have p_8 := p_7.keep hb8
      have q_8 := hq.keep hb8
      have hB8 := bel_then hB7 hb8
      clear a_7 b_7 s_7 t_7 p_7 hq hB7 hb8
      go_wp2_with fail
      refine (vrelu _ len0 _ (Vx.relu l0) _ p_8 hn).mono ?_
      rintro e w9 ⟨s5, c5, rfl, hr, hb9⟩
      have a_9 := a_8.keep hb9
      have b_9 := b_8.keep hb9
      have s_9 := s_8.keep hb9
      have t_9 := t_8.keep hb9
      have p_9 := p_8.keep hb9
      have q_9 := q_8.keep hb9
      have hB9 := bel_then hB8 hb9
      clear a_8 b_8 s_8 t_8 p_8 q_8 hB8 hb9
      rw [Vx.relu_relu] at hr
      go_wp2_with fail
      refine (same_true _ _ len0 _ _ _ _ hr p_9 hn).mono ?_
      rintro e w10 ⟨rfl, hb10⟩
      have a_10 := a_9.keep hb10
      have b_10 := b_9.keep hb10
      have s_10 := s_9.keep hb10
      have t_10 := t_9.keep hb10
      have p_10 := p_9.keep hb10
      have q_10 := q_9.keep hb10
      have r_10 := hr.keep hb10
      have hB10 := bel_then hB9 hb10
      clear a_9 b_9 s_9 t_9 p_9 q_9 hr hB9 hb10
      go_wp2_with fail
      refine (same_true _ _ len0 _ _ _ _ q_10 p_10 hn).mono ?_
      rintro e w11 ⟨rfl, hb11⟩
      have a_11 := a_10.keep hb11
      have b_11 := b_10.keep hb11
      have s_11 := s_10.keep hb11
      have t_11 := t_10.keep hb11
      have p_11 := p_10.keep hb11
      have q_11 := q_10.keep hb11
      have r_11 := r_10.keep hb11
      have hB11 := bel_then hB10 hb11
      clear a_10 b_10 s_10 t_10 p_10 q_10 r_10 hB10 hb11
      go_wp2_with fail
      refine (vawake _).mono ?_
      rintro e w12 ⟨rfl, hb12⟩
      have a_12 := a_11.keep hb12
      have b_12 := b_11.keep hb12
      have s_12 := s_11.keep hb12
      have t_12 := t_11.keep hb12
      have p_12 := p_11.keep hb12
      have q_12 := q_11.keep hb12
      have r_12 := r_11.keep hb12
      have hB12 := bel_then hB11 hb12
      clear a_11 b_11 s_11 t_11 p_11 q_11 r_11 hB11 hb12
      go_wp2
      go_ret
      exact ⟨rfl, hB12⟩
    · skip
      have HD : Hid (Vx.dot l0 (List.replicate len0 0) = 0) := by show _ = _; rw [← ha.len]; exact Vx.dot_zeros l0
      have HQ : Hid (Vx.add (Vx.relu l0) (List.replicate len0 0) = Vx.relu l0) := by show _ = _; rw [← ha.len]; exact Vx.add_relu_zeros l0
      have hmk := run_make_row' (P := Try.prog) 22 3 (.int .i64 0) 8 Try.underlying22 Try.infoInt rfl .i64 .i64 len0 (by omega) (by omega)
      go_enter Try.func4, Try.ntmps4
      go_wp2_with fail
      refine (vdot_no _ _ len0 len1 _ _ _ hlen).mono ?_
      rintro e w1 ⟨rfl, hb1⟩
      have a_1 := ha.keep hb1
      have b_1 := hb.keep hb1
      have hB1 := hb1
      clear ha hb hb1
      go_wp2_with fail
      refine (vdot_no _ _ len1 len0 _ _ _ (Ne.symm hlen)).mono ?_
      rintro e w2 ⟨rfl, hb2⟩
      have a_2 := a_1.keep hb2
      have b_2 := b_1.keep hb2
      have hB2 := bel_then hB1 hb2
      clear a_1 b_1 hB1 hb2
      go_wp2_with fail
      refine (vadd_no _ _ len0 len1 _ _ _ hlen).mono ?_
      rintro e w3 ⟨rfl, hb3⟩
      have a_3 := a_2.keep hb3
      have b_3 := b_2.keep hb3
      have hB3 := bel_then hB2 hb3
      clear a_2 b_2 hB2 hb3
      go_wp2_with fail
      refine (vadd_no _ _ len1 len0 _ _ _ (Ne.symm hlen)).mono ?_
      rintro e w4 ⟨rfl, hb4⟩
      have a_4 := a_3.keep hb4
      have b_4 := b_3.keep hb4
      have hB4 := bel_then hB3 hb4
      clear a_3 b_3 hB3 hb4
      go_wp2_with fail
      have hm0 : Below w4.heap.size w4 (w4.alloc (.cells (madeCells #[.int .i64 0] len0) 3)) := (Below.refl _ _).alloc (Nat.le_refl _) _
      have hz0 := Row.made w4 len0
      have a_m := a_4.keep hm0
      have b_m := b_4.keep hm0
      have hBm := bel_then hB4 hm0
      clear a_4 b_4 hB4 hm0
      skip
      refine (vdot _ _ len0 _ _ l0 _ _ a_m hz0 hn).mono ?_
      rintro e w5 ⟨rfl, hb5⟩
      have a_5 := a_m.keep hb5
      have b_5 := b_m.keep hb5
      have hB5 := bel_then hBm hb5
      clear a_m b_m hBm hb5
      clear hz0
      rw [HD.out]
      go_wp2_with fail
      refine (vrelu _ len0 _ l0 _ a_5 hn).mono ?_
      rintro e w6 ⟨s3, c3, rfl, hp, hb6⟩
      have a_6 := a_5.keep hb6
      have b_6 := b_5.keep hb6
      have hB6 := bel_then hB5 hb6
      clear a_5 b_5 hB5 hb6
      go_wp2_with fail
      have hm1 : Below w6.heap.size w6 (w6.alloc (.cells (madeCells #[.int .i64 0] len0) 3)) := (Below.refl _ _).alloc (Nat.le_refl _) _
      have hz1 := Row.made w6 len0
      have a_k := a_6.keep hm1
      have b_k := b_6.keep hm1
      have p_k := hp.keep hm1
      have hBk := bel_then hB6 hm1
      clear a_6 b_6 hp hB6 hm1
      skip
      refine (vadd _ _ len0 _ _ (Vx.relu l0) _ _ p_k hz1 hn).mono ?_
      rintro e w7 ⟨s4, c4, rfl, hq, hb7⟩
      have a_7 := a_k.keep hb7
      have b_7 := b_k.keep hb7
      have p_7 := p_k.keep hb7
      have hB7 := bel_then hBk hb7
      clear a_k b_k p_k hBk hb7
      clear hz1
      rw [HQ.out] at hq
      go_wp2_with fail
      refine (same_true none none 0 _ _ [] _ (Row.nil _ _ _) (Row.nil _ _ _) (by omega)).mono ?_
      rintro e w8 ⟨rfl, hb8⟩
      have a_8 := a_7.keep hb8
      have b_8 := b_7.keep hb8
      have p_8 := p_7.keep hb8
      have q_8 := hq.keep hb8
      have hB8 := bel_then hB7 hb8
      clear a_7 b_7 p_7 hq hB7 hb8
      go_wp2_with fail
      refine (vrelu _ len0 _ (Vx.relu l0) _ p_8 hn).mono ?_
      rintro e w9 ⟨s5, c5, rfl, hr, hb9⟩
      have a_9 := a_8.keep hb9
      have b_9 := b_8.keep hb9
      have p_9 := p_8.keep hb9
      have q_9 := q_8.keep hb9
      have hB9 := bel_then hB8 hb9
      clear a_8 b_8 p_8 q_8 hB8 hb9
      rw [Vx.relu_relu] at hr
      go_wp2_with fail
      refine (same_true _ _ len0 _ _ _ _ hr p_9 hn).mono ?_
      rintro e w10 ⟨rfl, hb10⟩
      have a_10 := a_9.keep hb10
      have b_10 := b_9.keep hb10
      have p_10 := p_9.keep hb10
      have q_10 := q_9.keep hb10
      have r_10 := hr.keep hb10
      have hB10 := bel_then hB9 hb10
      clear a_9 b_9 p_9 q_9 hr hB9 hb10
      go_wp2_with fail
      refine (same_true _ _ len0 _ _ _ _ q_10 p_10 hn).mono ?_
      rintro e w11 ⟨rfl, hb11⟩
      have a_11 := a_10.keep hb11
      have b_11 := b_10.keep hb11
      have p_11 := p_10.keep hb11
      have q_11 := q_10.keep hb11
      have r_11 := r_10.keep hb11
      have hB11 := bel_then hB10 hb11
      clear a_10 b_10 p_10 q_10 r_10 hB10 hb11
      go_wp2_with fail
      refine (vawake _).mono ?_
      rintro e w12 ⟨rfl, hb12⟩
      have a_12 := a_11.keep hb12
      have b_12 := b_11.keep hb12
      have p_12 := p_11.keep hb12
      have q_12 := q_11.keep hb12
      have r_12 := r_11.keep hb12
      have hB12 := bel_then hB11 hb12
      clear a_11 b_11 p_11 q_11 r_11 hB11 hb12
      go_wp2
      go_ret
      exact ⟨rfl, hB12⟩

/- From the walk to the row. -/
set_option maxRecDepth 100000 in
theorem lifted (os : Os) (started : os.Started) (H : Type) (enc : TypeId × Value → H) :
    ReturnsInHanded {} Try.checked os 4 .any (Rows.vecTurnsSpec.pre6 enc Try.prog Try.f4 Rows.vecTurnsRow.domain false) (Rows.vecTurnsSpec.post enc Try.prog Try.f4 false true false false) := by
  refine returnsInHanded_of_change (C := Try.checked) own started (by kernel_rfl) Try.func4
    (ChangeSpec.witness6 (enc := enc) (C := Try.checked) false ⟨#[], #[.slice none 0 0, .slice none 0 0], []⟩ 8 (by kernel_rfl) (by kernel_rfl) (by kernel_rfl) (by kernel_rfl)) ?_
  intro W base args ds gs before hval0 hW hcnd _
  have hval : ∀ (j : Nat) t v, Try.f4.params[j]? = some t → args[j]? = some v → Value.okWide Try.prog W .any base t v := hval0
  have hW' := hW
  obtain ⟨p, q, hA0, hV, rfl, hfz, hnd⟩ := hW
  have hA : DataW.TrodAll enc Try.prog W 0 (fun _ => true) true Try.f4.params.toList args.toList ds p := hA0
  rw [Try.params4] at hA hval
  obtain ⟨v0, vs0, d0, ds0, p0, q0, hargs, rfl, rfl, h0, r0⟩ := trodAll_cons hA
  obtain ⟨v1, vs1, d1, ds1, p1, q1, rfl, rfl, rfl, h1, r1⟩ := trodAll_cons r0
  obtain ⟨rfl, rfl, rfl⟩ := trodAll_nil r1
  obtain rfl : args = #[v0, v1] := by cases args; simp_all
  obtain ⟨rfl, rfl⟩ := trodVars_none hV
  obtain ⟨a0, len0, cap0, rfl⟩ := okWide_slice Try.underlying22 (hval 0 22 v0 rfl rfl)
  have k0 := h0
  have lt0 : ∀ x ∈ p0, x.block < W.heap.size := by obtain ⟨m, hm⟩ := k0; exact DataW.trod_lt m _ _ _ hm
  obtain ⟨z0, w0⟩ : ∃ zs, IsRow .i64 W a0 len0 cap0 zs := by
    obtain ⟨fuel, hf⟩ := h0
    rcases open_ints Try.underlying22 Try.underlying3 (by kernel_rfl) hf with ⟨hcs, _⟩ | ⟨x, l, c, zs, hcs, _, hl, hm, hz, _, hcell, hwz⟩
    · simp [Value.cells] at hcs
      obtain ⟨rfl, rfl, rfl⟩ := hcs
      exact ⟨[], .inl ⟨rfl, rfl, rfl, rfl⟩⟩
    · simp [Value.cells] at hcs
      obtain ⟨rfl, rfl, rfl⟩ := hcs
      exact ⟨zs, .inr ⟨_, rfl, hl, hm, by simpa using hz, hcell, hwz⟩⟩
  obtain ⟨a1, len1, cap1, rfl⟩ := okWide_slice Try.underlying22 (hval 1 22 v1 rfl rfl)
  have k1 := h1
  have lt1 : ∀ x ∈ p1, x.block < W.heap.size := by obtain ⟨m, hm⟩ := k1; exact DataW.trod_lt m _ _ _ hm
  obtain ⟨z1, w1⟩ : ∃ zs, IsRow .i64 W a1 len1 cap1 zs := by
    obtain ⟨fuel, hf⟩ := h1
    rcases open_ints Try.underlying22 Try.underlying3 (by kernel_rfl) hf with ⟨hcs, _⟩ | ⟨x, l, c, zs, hcs, _, hl, hm, hz, _, hcell, hwz⟩
    · simp [Value.cells] at hcs
      obtain ⟨rfl, rfl, rfl⟩ := hcs
      exact ⟨[], .inl ⟨rfl, rfl, rfl, rfl⟩⟩
    · simp [Value.cells] at hcs
      obtain ⟨rfl, rfl, rfl⟩ := hcs
      exact ⟨zs, .inr ⟨_, rfl, hl, hm, by simpa using hz, hcell, hwz⟩⟩
  clear hA0 hval0
  refine (walk a0 len0 cap0 z0 a1 len1 cap1 z1 W w0 w1).mono fun e W' ⟨he, bel⟩ => ?_
  subst he
  exact ⟨_, rfl, _, _, _, [], _, [], hW', trodAll_mk1 (shut_bool Try.underlying4 _), (trodAll_cons_mk (Below.trod laidOut (by kernel_rfl) (of_decide_eq_true (by kernel_rfl)) k0 bel lt0) (trodAll_cons_mk (Below.trod laidOut (by kernel_rfl) (of_decide_eq_true (by kernel_rfl)) k1 bel lt1) trodAll_mk0)), rfl, bel.frame _, fun h => by cases h⟩

theorem over : Rows.vecTurnsRow.holds Try.pinned (OpenSpec.ofChange Rows.vecTurnsSpec) :=
  OpenClaim.holds_of_wide 4 Try.f4 rfl rfl rfl rfl rfl rfl rfl ⟨rfl, rfl, rfl, rfl, rfl⟩ rfl rfl rfl rfl rfl (by kernel_rfl) Try.func4 (by kernel_rfl)
    (of_decide_eq_true (by kernel_rfl)) (by unfold Func.isWrapper; first | (rw [if_pos (by decide +kernel)]; kernel_rfl) | (rw [if_neg (by decide +kernel)]; exact ⟨rfl, rfl⟩))
    (fun os started H enc _ => lifted os started H enc)

end Go.Proofs.Ythgmafdfakobbaa.vecTurns

namespace Go.Proofs.Ythgmafdfakobbaa
theorem vecTurns_holds : Rows.VecTurnsSaid := vecTurns.over
end Go.Proofs.Ythgmafdfakobbaa
