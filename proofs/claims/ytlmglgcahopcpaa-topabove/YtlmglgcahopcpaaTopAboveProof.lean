/- TopAbove of layer 4, proved. -/
import Derived.Test.YtlmglgcahopcpaaRows
import Derived.Test.YtlmglgcahopcpaaTopB
import Derived.WalkKit
import Derived.ProofKit
import Derived.OpenShut
import Derived.ShutString
import Derived.ChangeOld
import Derived.Below
namespace Go.Proofs.Ytlmglgcahopcpaa.topAbove
open Go.ChangeShapes Go.WideShapes Go.ChangeAt Go.RowKit
open Go.ChangeMaps (open_string shut_string)
set_option linter.unusedVariables false

theorem own : ownKnob Try.prog.godebug = none := by kernel_rfl
theorem laidOut : laidOutB Try.prog = true := by kernel_rfl

/- The walk: the call returns true, and nothing that was there is written. -/
theorem walk (a0 : Option Addr) (len0 cap0 : Nat) (m0 : List Int) (w : World) (w0 : (sliceS (intS .i64)).rep w everywhere [.slice a0 len0 cap0] m0) (f0 : ∀ x0 ∈ m0, (Lit.int .i64 x0).wf = true) :
    Calls Try.prog 4 #[.slice a0 len0 cap0] w fun e w' => e = .returned (.bool true) ∧ Below w.heap.size w w' := by
  have hv := Row.of_rep w0
  obtain ⟨hl0, _, _⟩ := sliceS_len w0
  clear w0 f0
  by_cases hl : 100 < len0
  · have hi : (100 : Int) < (len0 : Int) := by omega
    go_enter Try.func4, Try.ntmps4
    go_wp2_with fail
    refine (tawake _).mono ?_
    rintro e u1 ⟨rfl, hb1⟩
    go_wp2
    go_ret
    exact ⟨rfl, hb1⟩
  have hi : ¬ (100 : Int) < (len0 : Int) := by omega
  have h2 := two a0 len0 cap0 m0 w hv (by omega)
  by_cases h2l : len0 < 2
  · have hi2 : (len0 : Int) < 2 := by omega
    have e1 : Tx.best m0 = (len0 : Int) - 1 := by
      by_cases h0 : len0 = 0
      · rw [Tx.best_none (by omega)]; omega
      · rw [Tx.best_one (by omega)]; omega
    rw [e1, Tx.second_none (by omega)] at h2
    have H2 : Hid _ := h2
    have e2 : ((len0 : Int) - 1 == (len0 : Int) - 1) = true := by simp
    clear h2 e1
    go_enter Try.func4, Try.ntmps4
    go_wp2_with (go_at_call 9; refine by_same H2.out ?_)
    refine (tawake _).mono ?_
    rintro e u1 ⟨rfl, hb1⟩
    go_wp2
    go_ret
    exact ⟨rfl, hb1⟩
  have hi2 : ¬ (len0 : Int) < 2 := by omega
  obtain ⟨ja, hja, ea, hA⟩ := Tx.best_at (l := m0) (by omega)
  obtain ⟨jb, hjb, eb, hne, hB⟩ := Tx.second_at (l := m0) (by omega) ea
  rw [ea, eb] at h2
  rw [hl0] at hja hjb hA hB
  have H2 : Hid _ := h2
  have HB : Hid (∀ i, i < len0 → i ≠ ja → m0.getD i 0 ≤ m0.getD jb 0 ∧ (i < jb → m0.getD i 0 < m0.getD jb 0)) := hB
  have hba : ¬ (m0.getD ja 0 < m0.getD jb 0) := by have := (hA jb hjb).1; omega
  have hbad : decide (m0.getD ja 0 < m0.getD jb 0) = false := decide_eq_false hba
  have q1 : ¬ (ja : Int) < 0 := by omega
  have q2 : ¬ (jb : Int) < 0 := by omega
  have q3 : ¬ (len0 : Int) ≤ (ja : Int) := by omega
  have q4 : ¬ (len0 : Int) ≤ (jb : Int) := by omega
  have d1 := decide_eq_false q1
  have d2 := decide_eq_false q2
  have d3 : decide (len0 ≤ ja) = false := decide_eq_false (by omega)
  have d4 : decide (len0 ≤ jb) = false := decide_eq_false (by omega)
  have q5 : ((ja : Int) == (jb : Int)) = false := by rw [beq_eq_false_iff_ne]; omega
  have q6 : (ja : Int) < (len0 : Int) := by omega
  have q7 : (jb : Int) < (len0 : Int) := by omega
  have q8 : (0 : Int) ≤ (ja : Int) := by omega
  have q9 : (0 : Int) ≤ (jb : Int) := by omega
  clear h2 ea eb hA hB
  obtain ⟨b1, o1, rfl, hb1, hc1⟩ := hv.at hja
  obtain ⟨b2, o2, he, hb2, hc2⟩ := hv.at hjb
  cases he
  generalize hy : m0.getD jb 0 = y at *
  generalize m0.getD ja 0 = x at *
  clear hy
  have hne9 : Nonempty (Later w) := Later.there w
  have hd1 : ∀ x9 : Later w, x9.u.cell? ⟨b1, o1 + ja, none⟩ = some (.int .i64 x) := fun x9 => x9.cell hc1
  have hd2 : ∀ x9 : Later w, x9.u.cell? ⟨b1, o1 + jb, none⟩ = some (.int .i64 y) := fun x9 => x9.cell hc2
  go_enter Try.func4, Try.ntmps4
  go_wp2_with (go_at_call 9; refine by_same H2.out ?_)
  refine region_later (by kernel_rfl) (by kernel_rfl) ?_
  repeat (go_big_quiet_step (fail))
  refine wpQuiet_nil ?_
  intro x9
  obtain ⟨W9, hb9⟩ := x9
  have hv9 := hv.keep hb9
  have hc9 : W9.cell? ⟨b1, o1 + jb, none⟩ = some (.int .i64 y) := (hb9.cell (World.block_lt_of_cell? w _ hc2)).trans hc2
  clear hd1 hd2 hc1 hc2 hne9 hv
  go_wp2
  go_loop [67] (fun i => ∃ k : Nat, k ≤ len0 ∧ i = .int .i64 k) (fun i => len0 - (intOf i).toNat)
  case atStart => exact ⟨0, Nat.zero_le _, rfl⟩
  case round =>
    obtain ⟨k, hk, rfl⟩ := hrel
    by_cases hlt : k < len0
    · have hli : (k : Int) < (len0 : Int) := by omega
      obtain ⟨b3, o3, he, hb3, hc3⟩ := hv9.at hlt
      cases he
      by_cases hka : k = ja
      · have t1 : ((k : Int) != (ja : Int)) = false := by simp [hka]
        generalize m0.getD k 0 = z at *
        clear hka
        go_wp2
        go_round
        case rel => exact ⟨k + 1, by omega, by go_num⟩
        case measure => simp [intOf]; omega
      · have t1 : ((k : Int) != (ja : Int)) = true := by rw [bne_iff_ne]; omega
        by_cases hkb : k = jb
        · have t2 : ((k : Int) != (jb : Int)) = false := by simp [hkb]
          generalize m0.getD k 0 = z at *
          clear hkb hka
          go_wp2
          go_round
          case rel => exact ⟨k + 1, by omega, by go_num⟩
          case measure => simp [intOf]; omega
        · have t2 : ((k : Int) != (jb : Int)) = true := by rw [bne_iff_ne]; omega
          have t3 : ¬ y < m0.getD k 0 := by have := (HB.out k hlt hka).1; omega
          generalize m0.getD k 0 = z at *
          clear hkb hka
          go_wp2
          go_round
          case rel => exact ⟨k + 1, by omega, by go_num⟩
          case measure => simp [intOf]; omega
    · have hli : ¬ (k : Int) < (len0 : Int) := by omega
      go_wp2_with fail
      refine (tawake _).mono ?_
      rintro e u5 ⟨rfl, hb5⟩
      have hB6 := bel_then hb9 hb5
      go_wp2
      go_ret
      exact ⟨rfl, hB6⟩

/- From the walk to the row. -/
set_option maxRecDepth 100000 in
theorem lifted (os : Os) (started : os.Started) (H : Type) (enc : TypeId × Value → H) :
    ReturnsInHanded {} Try.checked os 4 .any (Rows.topAboveSpec.pre6 enc Try.prog Try.f4 Rows.topAboveRow.domain false) (Rows.topAboveSpec.post enc Try.prog Try.f4 false true false false) := by
  refine returnsInHanded_of_change (C := Try.checked) own started (by kernel_rfl) Try.func4
    (ChangeSpec.witness6 (enc := enc) (C := Try.checked) false ⟨#[], #[.slice none 0 0], []⟩ 8 (by kernel_rfl) (by kernel_rfl) (by kernel_rfl) (by kernel_rfl)) ?_
  intro W base args ds gs before hval0 hW hcnd _
  have hval : ∀ (j : Nat) t v, Try.f4.params[j]? = some t → args[j]? = some v → Value.okWide Try.prog W .any base t v := hval0
  have hW' := hW
  obtain ⟨p, q, hA0, hV, rfl, hfz, hnd⟩ := hW
  have hA : DataW.TrodAll enc Try.prog W 0 (fun _ => true) true Try.f4.params.toList args.toList ds p := hA0
  rw [Try.params4] at hA hval
  obtain ⟨v0, vs0, d0, ds0, p0, q0, hargs, rfl, rfl, h0, r0⟩ := trodAll_cons hA
  obtain ⟨rfl, rfl, rfl⟩ := trodAll_nil r0
  obtain rfl : args = #[v0] := by cases args; simp_all
  obtain ⟨rfl, rfl⟩ := trodVars_none hV
  obtain ⟨a0, len0, cap0, rfl⟩ := okWide_slice Try.underlying22 (hval 0 22 v0 rfl rfl)
  have k0 := h0
  have lt0 : ∀ x ∈ p0, x.block < W.heap.size := by obtain ⟨m, hm⟩ := k0; exact DataW.trod_lt m _ _ _ hm
  obtain ⟨m0, w0, f0⟩ : ∃ y, (sliceS (intS .i64)).rep W everywhere [.slice a0 len0 cap0] y ∧ ∀ x0 ∈ y, (Lit.int .i64 x0).wf = true := by
    obtain ⟨fuel, hf⟩ := h0
    exact (opens_slice (A := (intS .i64)) Try.underlying22 (show Try.prog.cellsOf 3 = 1 by kernel_rfl) (by exact Nat.one_pos) (opens_int Try.underlying3)) H enc W _ _ _ fuel _ _ hf
  clear hA0 hval0
  refine (walk a0 len0 cap0 m0 W w0 f0).mono fun e W' ⟨he, bel⟩ => ?_
  subst he
  exact ⟨_, rfl, _, _, _, [], _, [], hW', trodAll_mk1 (shut_bool Try.underlying4 _), (trodAll_cons_mk (Below.trod laidOut (by kernel_rfl) (of_decide_eq_true (by kernel_rfl)) k0 bel lt0) trodAll_mk0), rfl, bel.frame _, fun h => by cases h⟩

theorem over : Rows.topAboveRow.holds Try.pinned (OpenSpec.ofChange Rows.topAboveSpec) :=
  OpenClaim.holds_of_wide 4 Try.f4 rfl rfl rfl rfl rfl rfl rfl ⟨rfl, rfl, rfl, rfl, rfl⟩ rfl rfl rfl rfl rfl (by kernel_rfl) Try.func4 (by kernel_rfl)
    (of_decide_eq_true (by kernel_rfl)) (by unfold Func.isWrapper; first | (rw [if_pos (by decide +kernel)]; kernel_rfl) | (rw [if_neg (by decide +kernel)]; exact ⟨rfl, rfl⟩))
    (fun os started H enc _ => lifted os started H enc)

end Go.Proofs.Ytlmglgcahopcpaa.topAbove

namespace Go.Proofs.Ytlmglgcahopcpaa
theorem topAbove_holds : Rows.TopAboveSaid := topAbove.over
end Go.Proofs.Ytlmglgcahopcpaa
