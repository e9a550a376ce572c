/- For every row of ints a and every byte at the law VecUnits returns true: times One a row is as it was, held, times 0 it is noughts, and a row of one One tells a number of another one; no condition. -/
import Derived.Test.YthgmafdfakobbaaRows
import Derived.Test.YthgmafdfakobbaaVz
import Derived.WalkKit
import Derived.ProofKit
import Derived.OpenShut
import Derived.ShutString
import Derived.ChangeOld
import Derived.Below
namespace Go.Proofs.Ythgmafdfakobbaa.vecUnits
open Go.ChangeShapes Go.WideShapes Go.ChangeAt Go.RowKit
open Go.ChangeMaps (open_string shut_string)
set_option linter.unusedVariables false

theorem own : ownKnob Try.prog.godebug = none := by kernel_rfl
theorem laidOut : laidOutB Try.prog = true := by kernel_rfl

/- The walk: the call returns true, and nothing that was there is written. -/
theorem walk (a0 : Option Addr) (len0 cap0 : Nat) (z0 : List Int) (a1 : Int) (w : World) (w0 : IsRow .i64 w a0 len0 cap0 z0) (w1 : (Lit.int .u8 a1).wf = true) :
    Calls Try.prog 5 #[.slice a0 len0 cap0, .int .u8 a1] w fun e w' => e = .returned (.bool true) ∧ Below w.heap.size w w' := by
  have ha := Row.of_is w0
  generalize z0.take len0 = l0 at ha
  clear w0
  by_cases hl : 100 < len0
  · have hi : (100 : Int) < (len0 : Int) := by omega
    go_enter Try.func5, Try.ntmps5
    go_wp2_with fail
    refine (vawake _).mono ?_
    rintro e w1 ⟨rfl, hb1⟩
    go_wp2
    go_ret
    exact ⟨rfl, hb1⟩
  by_cases hz : len0 = 0
  · subst hz
    go_enter Try.func5, Try.ntmps5
    go_wp2_with fail
    refine (vawake _).mono ?_
    rintro e w1 ⟨rfl, hb1⟩
    go_wp2
    go_ret
    exact ⟨rfl, hb1⟩
  have hi : ¬ (100 : Int) < (len0 : Int) := by omega
  have h0 : ((len0 : Int) == 0) = false := by simp; omega
  have hn : len0 ≤ 100000 := by omega
  have hb := bounds_u8 w1
  obtain ⟨n1, rfl⟩ := Int.eq_ofNat_of_zero_le hb.1
  obtain ⟨_, hb2⟩ := hb
  have hlt : n1 % len0 < len0 := Nat.mod_lt _ (by omega)
  have HA : Hid (l0.length = len0) := ha.len
  obtain ⟨i0, hi0, hz0, hz1, hz2⟩ := info_parts Try.infoInt
  have hp0 : (0 : Int) ≤ (n1 : Int) % (len0 : Int) := Int.emod_nonneg _ (by omega)
  have hp1 : (n1 : Int) % (len0 : Int) < (len0 : Int) := Int.emod_lt_of_pos _ (by omega)
  clear w1
  go_enter Try.func5, Try.ntmps5
  go_wp2_with (at_make; refine wpList_make_full _ rfl _ _ 22 rfl w.heap.size 3 i0 (.int .i64 0) 1 Try.underlying22 hi0 hz0 hz1 _ _ _ _ len0 rfl rfl (by rfl) (by rfl) ?b2 ?b3 (Nat.le_refl _) ?_)
  case b2 => omega
  case b3 => unfold maxLen; omega
  intro w1 hown hgrow
  have hB1 : Below w.heap.size w w1 := (Below.refl _ _).grown hgrow (Nat.le_refl _) (fun _ h => by cases h)
  have hown1 : w1.ownsRow w.heap.size 3 1 (.slice (some ⟨w.heap.size, 0, none⟩) len0 len0) len0 ((fill [] len0).map (Value.int .i64)) := by
    have h := hown
    rw [fill_zero] at h
    exact h
  obtain ⟨z, hz⟩ := fill_get [] len0 (n1 % len0) hlt (by simp)
  have hce : w1.cell? ⟨w.heap.size, n1 % len0, none⟩ = some (.int .i64 z) := (hown1.cellAt _ (by omega)).trans hz
  have hfe : w1.frozen? ⟨w.heap.size, n1 % len0, none⟩ = false := hown1.frozenAt _
  clear hz hown hgrow
  have hst := (hown1.stored (n1 % len0) (.int .i64 65536)).1
  have hse : (((fill [] len0).map (Value.int .i64)).set (n1 % len0) (.int .i64 65536)) = ((List.replicate l0.length 0).set (n1 % len0) 65536).map (Value.int .i64) := by
    rw [HA.out, ← List.map_set]; simp [fill]
  rw [hse] at hst
  clear hse hown1
  obtain ⟨_, _, hv, _, hone⟩ := Row.of_owns hst
  cases hv
  clear hst
  have hB2 : Below w.heap.size w (w1.setCell ⟨w.heap.size, n1 % len0, none⟩ (.int .i64 65536)) := hB1.setCell (Nat.le_refl _) _
  have ha2 := ha.keep hB2
  have hd : Vx.dot l0 ((List.replicate l0.length 0).set (n1 % len0) 65536) = Fx.hold (l0.getD (n1 % len0) 0) := Vx.dot_unit l0 _ (by rw [HA.out]; exact hlt)
  have HD : Hid (Vx.dot l0 ((List.replicate l0.length 0).set (n1 % len0) 65536) = Fx.hold (l0.getD (n1 % len0) 0)) := hd
  clear ha hB1 hd
  go_wp2_with fail
  refine (vdot _ _ len0 _ _ l0 _ _ ha2 hone hn).mono ?_
  rintro e w2 ⟨rfl, hb2'⟩
  rw [HD.out]
  have ha3 := ha2.keep hb2'
  have hB3 := hB2.trans (hb2'.mono hB2.size)
  clear ha2 hB2 hb2' hone HD hce hfe
  go_wp2_with fail
  refine (vscale _ len0 _ _ l0 _ ha3 hn).mono ?_
  rintro e w3 ⟨sx, cx, rfl, hx, hb3⟩
  have ha4 := ha3.keep hb3
  have hB4 := bel_then hB3 hb3
  clear ha3 hb3 hB3
  go_wp2_with fail
  refine (vscale _ len0 _ _ l0 _ ha4 hn).mono ?_
  rintro e w4 ⟨sy, cy, rfl, hy, hb4⟩
  have ha5 := ha4.keep hb4
  have hx5 := hx.keep hb4
  have hB5 := bel_then hB4 hb4
  clear ha4 hb4 hB4 hx
  obtain ⟨bx, ox, rfl, hbx, hcx⟩ := hx5.at hlt
  rw [Vx.scale_at _ _ _ (by rw [HA.out]; exact hlt), Fx.mul_one] at hcx
  have e1 : ((len0 : Int) != (len0 : Int)) = false := by simp
  have e2 : (Fx.hold (l0.getD (n1 % len0) 0) != Fx.hold (l0.getD (n1 % len0) 0)) = false := by simp
  go_wp2_with fail
  clear hcx e2 hlt hp0 hp1
  go_loop [69] (fun i => ∃ k : Nat, k ≤ len0 ∧ i = .int .i64 k) (fun i => len0 - (intOf i).toNat)
  case atStart => exact ⟨0, Nat.zero_le _, rfl⟩
  case round =>
    obtain ⟨k, hk, rfl⟩ := hrel
    by_cases hkl : k < len0
    · have hki : (k : Int) < (len0 : Int) := by omega
      obtain ⟨bx', ox', hxe, _, hcx⟩ := hx5.at hkl
      cases hxe
      obtain ⟨by1, oy, rfl, _, hcy⟩ := hy.at hkl
      obtain ⟨ba, oa, rfl, _, hca⟩ := ha5.at hkl
      rw [Vx.scale_at _ _ _ (by rw [HA.out]; exact hkl), Fx.mul_one] at hcx
      rw [Vx.scale_at _ _ _ (by rw [HA.out]; exact hkl), Fx.mul_zero] at hcy
      generalize l0.getD k 0 = v at *
      have h5 : 2147483647 < v ∨ v = 2147483647 ∨ (-2147483647 < v ∧ v < 2147483647) ∨ v = -2147483647 ∨ v < -2147483647 := by omega
      rcases h5 with h5 | rfl | ⟨h5, h6⟩ | rfl | h5
      · rw [Fx.hold_big h5] at hcx
        go_wp2
        all_goals
          go_round
          case rel => exact ⟨k + 1, by omega, by go_num⟩
          case measure => simp [intOf]; omega
      · rw [show Fx.hold 2147483647 = 2147483647 from rfl] at hcx
        go_wp2
        all_goals
          go_round
          case rel => exact ⟨k + 1, by omega, by go_num⟩
          case measure => simp [intOf]; omega
      · rw [Fx.hold_id (by omega) (by omega)] at hcx
        have e3 : (v != v) = false := by simp
        go_wp2
        all_goals
          go_round
          case rel => exact ⟨k + 1, by omega, by go_num⟩
          case measure => simp [intOf]; omega
      · rw [show Fx.hold (-2147483647) = -2147483647 from rfl] at hcx
        go_wp2
        all_goals
          go_round
          case rel => exact ⟨k + 1, by omega, by go_num⟩
          case measure => simp [intOf]; omega
      · rw [Fx.hold_small h5] at hcx
        go_wp2
        all_goals
          go_round
          case rel => exact ⟨k + 1, by omega, by go_num⟩
          case measure => simp [intOf]; omega
    · go_wp2_with fail
      refine (vawake _).mono ?_
      rintro e w5 ⟨rfl, hb5⟩
      have hB6 := bel_then hB5 hb5
      clear hb5 hB5
      go_wp2
      go_ret
      exact ⟨rfl, hB6⟩

/- From the walk to the row. -/
set_option maxRecDepth 100000 in
theorem lifted (os : Os) (started : os.Started) (H : Type) (enc : TypeId × Value → H) :
    ReturnsInHanded {} Try.checked os 5 .any (Rows.vecUnitsSpec.pre6 enc Try.prog Try.f5 Rows.vecUnitsRow.domain false) (Rows.vecUnitsSpec.post enc Try.prog Try.f5 false true false false) := by
  refine returnsInHanded_of_change (C := Try.checked) own started (by kernel_rfl) Try.func5
    (ChangeSpec.witness6 (enc := enc) (C := Try.checked) false ⟨#[], #[.slice none 0 0, .int .u8 0], []⟩ 8 (by kernel_rfl) (by kernel_rfl) (by kernel_rfl) (by kernel_rfl)) ?_
  intro W base args ds gs before hval0 hW hcnd _
  have hval : ∀ (j : Nat) t v, Try.f5.params[j]? = some t → args[j]? = some v → Value.okWide Try.prog W .any base t v := hval0
  have hW' := hW
  obtain ⟨p, q, hA0, hV, rfl, hfz, hnd⟩ := hW
  have hA : DataW.TrodAll enc Try.prog W 0 (fun _ => true) true Try.f5.params.toList args.toList ds p := hA0
  rw [Try.params5] at hA hval
  obtain ⟨v0, vs0, d0, ds0, p0, q0, hargs, rfl, rfl, h0, r0⟩ := trodAll_cons hA
  obtain ⟨v1, vs1, d1, ds1, p1, q1, rfl, rfl, rfl, h1, r1⟩ := trodAll_cons r0
  obtain ⟨rfl, rfl, rfl⟩ := trodAll_nil r1
  obtain rfl : args = #[v0, v1] := by cases args; simp_all
  obtain ⟨rfl, rfl⟩ := trodVars_none hV
  obtain ⟨a0, len0, cap0, rfl⟩ := okWide_slice Try.underlying22 (hval 0 22 v0 rfl rfl)
  have k0 := h0
  have lt0 : ∀ x ∈ p0, x.block < W.heap.size := by obtain ⟨m, hm⟩ := k0; exact DataW.trod_lt m _ _ _ hm
  obtain ⟨z0, w0⟩ : ∃ zs, IsRow .i64 W a0 len0 cap0 zs := by
    obtain ⟨fuel, hf⟩ := h0
    rcases open_ints Try.underlying22 Try.underlying3 (by kernel_rfl) hf with ⟨hcs, _⟩ | ⟨x, l, c, zs, hcs, _, hl, hm, hz, _, hcell, hwz⟩
    · simp [Value.cells] at hcs
      obtain ⟨rfl, rfl, rfl⟩ := hcs
      exact ⟨[], .inl ⟨rfl, rfl, rfl, rfl⟩⟩
    · simp [Value.cells] at hcs
      obtain ⟨rfl, rfl, rfl⟩ := hcs
      exact ⟨zs, .inr ⟨_, rfl, hl, hm, by simpa using hz, hcell, hwz⟩⟩
  obtain ⟨a1, rfl, rfl, rfl, w1⟩ := open_int Try.underlying5 (hval 1 5 v1 rfl rfl) h1
  clear hA0 hval0
  refine (walk a0 len0 cap0 z0 a1 W w0 w1).mono fun e W' ⟨he, bel⟩ => ?_
  subst he
  exact ⟨_, rfl, _, _, _, [], _, [], hW', trodAll_mk1 (shut_bool Try.underlying4 _), (trodAll_cons_mk (Below.trod laidOut (by kernel_rfl) (of_decide_eq_true (by kernel_rfl)) k0 bel lt0) (trodAll_cons_mk (shut_int Try.underlying5 w1) trodAll_mk0)), rfl, bel.frame _, fun h => by cases h⟩

theorem over : Rows.vecUnitsRow.holds Try.pinned (OpenSpec.ofChange Rows.vecUnitsSpec) :=
  OpenClaim.holds_of_wide 5 Try.f5 rfl rfl rfl rfl rfl rfl rfl ⟨rfl, rfl, rfl, rfl, rfl⟩ rfl rfl rfl rfl rfl (by kernel_rfl) Try.func5 (by kernel_rfl)
    (of_decide_eq_true (by kernel_rfl)) (by unfold Func.isWrapper; first | (rw [if_pos (by decide +kernel)]; kernel_rfl) | (rw [if_neg (by decide +kernel)]; exact ⟨rfl, rfl⟩))
    (fun os started H enc _ => lifted os started H enc)

end Go.Proofs.Ythgmafdfakobbaa.vecUnits

namespace Go.Proofs.Ythgmafdfakobbaa
theorem vecUnits_holds : Rows.VecUnitsSaid := vecUnits.over
end Go.Proofs.Ythgmafdfakobbaa
