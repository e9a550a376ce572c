/- Shares are One together and not below 0, the first one's is not less, both experts are unlike and there: GateFair returns true for every rows and v. No conditions. -/
import Derived.Test.YtpaelmgahpjkfaaRows
import Derived.Test.YtpaelmgahpjkfaaGateB
import Derived.WalkKit
import Derived.ProofKit
import Derived.OpenShut
import Derived.ShutString
import Derived.ChangeOld
import Derived.Below
namespace Go.Proofs.Ytpaelmgahpjkfaa.gateFair
open Go.ChangeShapes Go.WideShapes Go.ChangeAt Go.RowKit
open Go.ChangeMaps (open_string shut_string)
set_option linter.unusedVariables false

theorem own : ownKnob Try.prog.godebug = none := by kernel_rfl
theorem laidOut : laidOutB Try.prog = true := by kernel_rfl

/- The walk: the call returns true, and nothing that was there is written. -/
set_option maxHeartbeats 4000000 in
set_option maxRecDepth 100000 in
theorem walk (a0 : Option Addr) (len0 cap0 : Nat) (m0 : List (List Int)) (a1 : Option Addr) (len1 cap1 : Nat) (m1 : List Int) (w : World) (w0 : (sliceS (sliceS (intS .i64))).rep w everywhere [.slice a0 len0 cap0] m0) (f0 : (∀ x0 ∈ m0, (∀ x1 ∈ x0, (Lit.int .i64 x1).wf = true))) (w1 : (sliceS (intS .i64)).rep w everywhere [.slice a1 len1 cap1] m1) (f1 : (∀ x0 ∈ m1, (Lit.int .i64 x0).wf = true)) :
    Calls Try.prog 4 #[.slice a0 len0 cap0, .slice a1 len1 cap1] w fun e w' => e = .returned (.bool true) ∧ Below w.heap.size w w' := by
  have hv := Row.of_rep w1
  have hl0 := (sliceS_len w0).1
  clear w1 f0 f1
  obtain ⟨p, q, r, t, b, hI⟩ := Gx.there m0 m1
  have HI : Hid (Gx.Is m0 m1 p q r t b) := hI
  have HF : Hid (b = true → r + t = 65536 ∧ t ≤ r ∧ 0 ≤ t ∧ 0 ≤ p ∧ p < len0 ∧ q < len0 ∧ p ≠ q ∧ -1 ≤ q ∧ (0 ≤ q ↔ 1 < len0) ∧ t ≤ 65536) := fun hb => by
    subst hb
    have := hI.fair
    rw [hl0] at this
    exact this
  have HZ : Hid (b = false → p = 0 ∧ q = 0 ∧ r = 0 ∧ t = 0) := fun hb => by
    subst hb
    exact hI.no.2
  clear hI
  have e1 := eqChoice 0 0 0 0
  have e2 := eqChoiceIn 0 0 0 0
  go_enter Try.func4, Try.ntmps4
  go_wp2_with fail
  refine by_says (small a0 len0 cap0 m0 everywhere w w0) (fun hs => ?_) (fun _ => ?_)
  case refine_2 =>
    go_wp2_with fail
    refine (gawake _).mono ?_
    rintro e u1 ⟨rfl, hb1⟩
    go_wp2
    go_ret
    exact ⟨rfl, hb1⟩
  have hn0 : len0 ≤ 1000 := by have := hs.1; omega
  clear hs hl0
  by_cases hl : 30 < len1
  · have hi : (30 : Int) < (len1 : Int) := by omega
    go_wp2_with fail
    refine (gawake _).mono ?_
    rintro e u1 ⟨rfl, hb1⟩
    go_wp2
    go_ret
    exact ⟨rfl, hb1⟩
  have hi : ¬ (30 : Int) < (len1 : Int) := by omega
  go_wp2_with fail
  refine (choose a0 a1 len0 cap0 len1 cap1 m0 m1 everywhere p q r t b w w0 hv hn0 (by omega) HI.out).mono ?_
  rintro e u1 ⟨rfl, hb1⟩
  have hB1 := bel_alloc hb1 (.cells #[.int .i64 p, .int .i64 q, .int .i64 r, .int .i64 t] 27)
  have k1 := Box.new u1 27 #[.int .i64 p, .int .i64 q, .int .i64 r, .int .i64 t]
  have c0 := k1.cell 0 rfl; have c1 := k1.cell 1 rfl; have c2 := k1.cell 2 rfl; have c3 := k1.cell 3 rfl
  clear hv w0 hb1 HI
  cases b with
  | false =>
    obtain ⟨rfl, rfl, rfl, rfl⟩ := HZ.out rfl
    clear HF HZ
    go_wp2_with fail
    refine (gawake _).mono ?_
    rintro e u4 ⟨rfl, hb4⟩
    go_wp2
    go_ret
    exact ⟨rfl, bel_then hB1 hb4⟩
  | true =>
    obtain ⟨h1, h2, h3, h4, h5, h6, h7, h8, h9, h10⟩ := HF.out rfl
    have g1 : (r + t == 65536) = true := by rw [h1]; rfl
    have g2 : (p != q) = true := by rw [bne_iff_ne]; exact h7
    have g3 : r ≤ 65536 := by omega
    have g4 : -65536 ≤ r := by omega
    clear HF HZ
    by_cases hq : 0 ≤ q
    · have g5 : (1 : Int) < (len0 : Int) := by have := h9.1 hq; omega
      clear h9 h8 h1 h7
      go_wp2_with fail
      refine (gawake _).mono ?_
      rintro e u4 ⟨rfl, hb4⟩
      go_wp2
      go_ret
      exact ⟨rfl, bel_then hB1 hb4⟩
    · have g5 : ¬ (1 : Int) < (len0 : Int) := fun hc => hq (h9.2 (by omega))
      clear h9 h8 h1 h7
      go_wp2_with fail
      refine (gawake _).mono ?_
      rintro e u4 ⟨rfl, hb4⟩
      go_wp2
      go_ret
      exact ⟨rfl, bel_then hB1 hb4⟩

/- From the walk to the row. -/
set_option maxRecDepth 100000 in
theorem lifted (os : Os) (started : os.Started) (H : Type) (enc : TypeId × Value → H) :
    ReturnsInHanded {} Try.checked os 4 .any (Rows.gateFairSpec.pre6 enc Try.prog Try.f4 Rows.gateFairRow.domain false) (Rows.gateFairSpec.post enc Try.prog Try.f4 false true false false) := by
  refine returnsInHanded_of_change (C := Try.checked) own started (by kernel_rfl) Try.func4
    (ChangeSpec.witness6 (enc := enc) (C := Try.checked) false ⟨#[], #[.slice none 0 0, .slice none 0 0], []⟩ 8 (by kernel_rfl) (by kernel_rfl) (by kernel_rfl) (by kernel_rfl)) ?_
  intro W base args ds gs before hval0 hW hcnd _
  have hval : ∀ (j : Nat) t v, Try.f4.params[j]? = some t → args[j]? = some v → Value.okWide Try.prog W .any base t v := hval0
  have hW' := hW
  obtain ⟨p, q, hA0, hV, rfl, hfz, hnd⟩ := hW
  have hA : DataW.TrodAll enc Try.prog W 0 (fun _ => true) true Try.f4.params.toList args.toList ds p := hA0
  rw [Try.params4] at hA hval
  obtain ⟨v0, vs0, d0, ds0, p0, q0, hargs, rfl, rfl, h0, r0⟩ := trodAll_cons hA
  obtain ⟨v1, vs1, d1, ds1, p1, q1, rfl, rfl, rfl, h1, r1⟩ := trodAll_cons r0
  obtain ⟨rfl, rfl, rfl⟩ := trodAll_nil r1
  obtain rfl : args = #[v0, v1] := by cases args; simp_all
  obtain ⟨rfl, rfl⟩ := trodVars_none hV
  obtain ⟨a0, len0, cap0, rfl⟩ := okWide_slice Try.underlying22 (hval 0 22 v0 rfl rfl)
  have k0 := h0
  have lt0 : ∀ x ∈ p0, x.block < W.heap.size := by obtain ⟨m, hm⟩ := k0; exact DataW.trod_lt m _ _ _ hm
  obtain ⟨m0, w0, f0⟩ : ∃ y, (sliceS (sliceS (intS .i64))).rep W everywhere [.slice a0 len0 cap0] y ∧ (∀ x0 ∈ y, (∀ x1 ∈ x0, (Lit.int .i64 x1).wf = true)) := by
    obtain ⟨fuel, hf⟩ := h0
    exact (opens_slice (A := (sliceS (intS .i64))) Try.underlying22 (show Try.prog.cellsOf 23 = 1 by kernel_rfl) (by exact Nat.succ_pos _) (opens_slice (A := (intS .i64)) Try.underlying23 (show Try.prog.cellsOf 3 = 1 by kernel_rfl) (by exact Nat.succ_pos _) (opens_int Try.underlying3))) H enc W _ _ _ fuel _ _ hf
  obtain ⟨a1, len1, cap1, rfl⟩ := okWide_slice Try.underlying23 (hval 1 23 v1 rfl rfl)
  have k1 := h1
  have lt1 : ∀ x ∈ p1, x.block < W.heap.size := by obtain ⟨m, hm⟩ := k1; exact DataW.trod_lt m _ _ _ hm
  obtain ⟨m1, w1, f1⟩ : ∃ y, (sliceS (intS .i64)).rep W everywhere [.slice a1 len1 cap1] y ∧ (∀ x0 ∈ y, (Lit.int .i64 x0).wf = true) := by
    obtain ⟨fuel, hf⟩ := h1
    exact (opens_slice (A := (intS .i64)) Try.underlying23 (show Try.prog.cellsOf 3 = 1 by kernel_rfl) (by exact Nat.succ_pos _) (opens_int Try.underlying3)) H enc W _ _ _ fuel _ _ hf
  clear hA0 hval0
  refine (walk a0 len0 cap0 m0 a1 len1 cap1 m1 W w0 f0 w1 f1).mono fun e W' ⟨he, bel⟩ => ?_
  subst he
  exact ⟨_, rfl, _, _, _, [], _, [], hW', trodAll_mk1 (shut_bool Try.underlying4 _), (trodAll_cons_mk (Below.trod laidOut (by kernel_rfl) (of_decide_eq_true (by kernel_rfl)) k0 bel lt0) (trodAll_cons_mk (Below.trod laidOut (by kernel_rfl) (of_decide_eq_true (by kernel_rfl)) k1 bel lt1) trodAll_mk0)), rfl, bel.frame _, fun h => by cases h⟩

theorem over : Rows.gateFairRow.holds Try.pinned (OpenSpec.ofChange Rows.gateFairSpec) :=
  OpenClaim.holds_of_wide 4 Try.f4 rfl rfl rfl rfl rfl rfl rfl ⟨rfl, rfl, rfl, rfl, rfl⟩ rfl rfl rfl rfl rfl (by kernel_rfl) Try.func4 (by kernel_rfl)
    (of_decide_eq_true (by kernel_rfl)) (by unfold Func.isWrapper; first | (rw [if_pos (by decide +kernel)]; kernel_rfl) | (rw [if_neg (by decide +kernel)]; exact ⟨rfl, rfl⟩))
    (fun os started H enc _ => lifted os started H enc)

end Go.Proofs.Ytpaelmgahpjkfaa.gateFair

namespace Go.Proofs.Ytpaelmgahpjkfaa
theorem gateFair_holds : Rows.GateFairSaid := gateFair.over
end Go.Proofs.Ytpaelmgahpjkfaa
