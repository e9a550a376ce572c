/- For every rows m, row v and ints rows and columns the law MatExact returns true: Apply and Right are what the document says; no condition. -/
import Derived.Test.YtkbflhllojpgkaaRows
import Derived.Test.YtkbflhllojpgkaaMatD
import Derived.WalkKit
import Derived.ProofKit
import Derived.OpenShut
import Derived.ShutString
import Derived.ChangeOld
import Derived.Below
namespace Go.Proofs.Ytkbflhllojpgkaa.matExact
open Go.ChangeShapes Go.WideShapes Go.ChangeAt Go.RowKit
open Go.ChangeMaps (open_string shut_string)
set_option linter.unusedVariables false

theorem own : ownKnob Try.prog.godebug = none := by kernel_rfl
theorem laidOut : laidOutB Try.prog = true := by kernel_rfl

/- The walk: the call returns true, and nothing that was there is written. -/
theorem walk (a0 : Option Addr) (len0 cap0 : Nat) (m0 : List (List Int)) (a1 : Option Addr) (len1 cap1 : Nat) (m1 : List Int) (a2 : Int) (a3 : Int) (w : World) (w0 : (sliceS (sliceS (intS .i64))).rep w everywhere [.slice a0 len0 cap0] m0) (f0 : ∀ x0 ∈ m0, ∀ x1 ∈ x0, (Lit.int .i64 x1).wf = true) (w1 : (sliceS (intS .i64)).rep w everywhere [.slice a1 len1 cap1] m1) (f1 : ∀ x0 ∈ m1, (Lit.int .i64 x0).wf = true) (w2 : (Lit.int .i64 a2).wf = true) (w3 : (Lit.int .i64 a3).wf = true) :
    Calls Try.prog 3 #[.slice a0 len0 cap0, .slice a1 len1 cap1, .int .i64 a2, .int .i64 a3] w fun e w' => e = .returned (.bool true) ∧ Below w.heap.size w w' := by
  obtain ⟨hl0, _, _⟩ := sliceS_len w0
  have hv := Row.of_rep w1
  clear w1 f0 f1 w2 w3
  go_enter Try.func3, Try.ntmps3
  go_wp2_with fail
  refine by_says (small a0 len0 cap0 m0 everywhere w w0) (fun hs => ?_) (fun _ => ?_)
  case refine_2 =>
    go_wp2_with fail
    refine (mawake _).mono ?_
    rintro e u1 ⟨rfl, hb1⟩
    go_wp2
    go_ret
    exact ⟨rfl, hb1⟩
  have hn0 : len0 ≤ 100000 := by have := hs.1; omega
  have HS : Hid (∀ l ∈ m0, l.length ≤ 100000) := fun l hl => by have := hs.2 l hl; omega
  clear hs hl0
  by_cases hl : 30 < len1
  · have hi : (30 : Int) < (len1 : Int) := by omega
    go_wp2_with fail
    refine (mawake _).mono ?_
    rintro e u1 ⟨rfl, hb1⟩
    go_wp2
    go_ret
    exact ⟨rfl, hb1⟩
  have hi : ¬ (30 : Int) < (len1 : Int) := by omega
  go_wp2_with fail
  refine (mapply a0 a1 len0 cap0 len1 cap1 m0 m1 everywhere w w0 hv hn0 (by omega)).mono ?_
  rintro e u1 ⟨hg, hb1⟩
  obtain ⟨x1, c1, rfl, hr1⟩ := hg.form
  have hm1 := Shape.below w0 hb1
  have hv1 := hv.keep hb1
  clear hg hv w0
  go_wp2_with fail
  refine (rapply a0 a1 len0 cap0 len1 cap1 m0 m1 everywhere u1 hm1 hv1 hn0 (by omega)).mono ?_
  rintro e u2 ⟨hg, hb2⟩
  obtain ⟨x2, c2, rfl, hr2⟩ := hg.form
  have hm2 := Shape.below hm1 hb2
  have hr1' := Shape.below hr1 hb2
  have hB2 := bel_then hb1 hb2
  have hN := outLen_le (Mx.Fits m0 len1) len0
  clear hg hv1 hm1 hr1 hb1 hb2
  generalize outLen (Mx.Fits m0 len1) len0 = n1 at *
  generalize outRow (Mx.Fits m0 len1) (Mx.app m0 m1) = l1 at *
  generalize tell (Mx.Fits m0 len1) = t1 at *
  go_wp2_with fail
  refine (same_true x1 x2 n1 c1 c2 l1 u2 (Row.of_rep hr1') (Row.of_rep hr2) (by omega)).mono ?_
  rintro e u3 ⟨rfl, hb3⟩
  have hm3 := Shape.below hm2 hb3
  have hB3 := bel_then hB2 hb3
  clear hr1' hr2 hm2 hb3 hB2
  go_wp2_with fail
  refine by_form (right a0 len0 cap0 m0 everywhere a2 a3 u3 hm3 hn0 HS.out) ?_
  go_wp2_with fail
  refine by_form (rright a0 len0 cap0 m0 everywhere a2 a3 u3 hm3 hn0 HS.out) ?_
  generalize tell (Mx.Right m0 a2 a3) = t2 at *
  go_wp2_with fail
  refine (mawake _).mono ?_
  rintro e u4 ⟨rfl, hb4⟩
  have hB4 := bel_then hB3 hb4
  go_wp2
  go_ret
  exact ⟨rfl, hB4⟩

/- From the walk to the row. -/
set_option maxRecDepth 100000 in
theorem lifted (os : Os) (started : os.Started) (H : Type) (enc : TypeId × Value → H) :
    ReturnsInHanded {} Try.checked os 3 .any (Rows.matExactSpec.pre6 enc Try.prog Try.f3 Rows.matExactRow.domain false) (Rows.matExactSpec.post enc Try.prog Try.f3 false true false false) := by
  refine returnsInHanded_of_change (C := Try.checked) own started (by kernel_rfl) Try.func3
    (ChangeSpec.witness6 (enc := enc) (C := Try.checked) false ⟨#[], #[.slice none 0 0, .slice none 0 0, .int .i64 0, .int .i64 0], []⟩ 8 (by kernel_rfl) (by kernel_rfl) (by kernel_rfl) (by kernel_rfl)) ?_
  intro W base args ds gs before hval0 hW hcnd _
  have hval : ∀ (j : Nat) t v, Try.f3.params[j]? = some t → args[j]? = some v → Value.okWide Try.prog W .any base t v := hval0
  have hW' := hW
  obtain ⟨p, q, hA0, hV, rfl, hfz, hnd⟩ := hW
  have hA : DataW.TrodAll enc Try.prog W 0 (fun _ => true) true Try.f3.params.toList args.toList ds p := hA0
  rw [Try.params3] at hA hval
  obtain ⟨v0, vs0, d0, ds0, p0, q0, hargs, rfl, rfl, h0, r0⟩ := trodAll_cons hA
  obtain ⟨v1, vs1, d1, ds1, p1, q1, rfl, rfl, rfl, h1, r1⟩ := trodAll_cons r0
  obtain ⟨v2, vs2, d2, ds2, p2, q2, rfl, rfl, rfl, h2, r2⟩ := trodAll_cons r1
  obtain ⟨v3, vs3, d3, ds3, p3, q3, rfl, rfl, rfl, h3, r3⟩ := trodAll_cons r2
  obtain ⟨rfl, rfl, rfl⟩ := trodAll_nil r3
  obtain rfl : args = #[v0, v1, v2, v3] := by cases args; simp_all
  obtain ⟨rfl, rfl⟩ := trodVars_none hV
  obtain ⟨a0, len0, cap0, rfl⟩ := okWide_slice Try.underlying22 (hval 0 22 v0 rfl rfl)
  have k0 := h0
  have lt0 : ∀ x ∈ p0, x.block < W.heap.size := by obtain ⟨m, hm⟩ := k0; exact DataW.trod_lt m _ _ _ hm
  obtain ⟨m0, w0, f0⟩ : ∃ y, (sliceS (sliceS (intS .i64))).rep W everywhere [.slice a0 len0 cap0] y ∧ ∀ x0 ∈ y, ∀ x1 ∈ x0, (Lit.int .i64 x1).wf = true := by
    obtain ⟨fuel, hf⟩ := h0
    exact (opens_slice (A := (sliceS (intS .i64))) Try.underlying22 (show Try.prog.cellsOf 23 = 1 by kernel_rfl) (by exact Nat.one_pos) (opens_slice (A := (intS .i64)) Try.underlying23 (show Try.prog.cellsOf 3 = 1 by kernel_rfl) (by exact Nat.one_pos) (opens_int Try.underlying3))) H enc W _ _ _ fuel _ _ hf
  obtain ⟨a1, len1, cap1, rfl⟩ := okWide_slice Try.underlying23 (hval 1 23 v1 rfl rfl)
  have k1 := h1
  have lt1 : ∀ x ∈ p1, x.block < W.heap.size := by obtain ⟨m, hm⟩ := k1; exact DataW.trod_lt m _ _ _ hm
  obtain ⟨m1, w1, f1⟩ : ∃ y, (sliceS (intS .i64)).rep W everywhere [.slice a1 len1 cap1] y ∧ ∀ x0 ∈ y, (Lit.int .i64 x0).wf = true := by
    obtain ⟨fuel, hf⟩ := h1
    exact (opens_slice (A := (intS .i64)) Try.underlying23 (show Try.prog.cellsOf 3 = 1 by kernel_rfl) (by exact Nat.one_pos) (opens_int Try.underlying3)) H enc W _ _ _ fuel _ _ hf
  obtain ⟨a2, rfl, rfl, rfl, w2⟩ := open_int Try.underlying3 (hval 2 3 v2 rfl rfl) h2
  obtain ⟨a3, rfl, rfl, rfl, w3⟩ := open_int Try.underlying3 (hval 3 3 v3 rfl rfl) h3
  clear hA0 hval0
  refine (walk a0 len0 cap0 m0 a1 len1 cap1 m1 a2 a3 W w0 f0 w1 f1 w2 w3).mono fun e W' ⟨he, bel⟩ => ?_
  subst he
  exact ⟨_, rfl, _, _, _, [], _, [], hW', trodAll_mk1 (shut_bool Try.underlying4 _), (trodAll_cons_mk (Below.trod laidOut (by kernel_rfl) (of_decide_eq_true (by kernel_rfl)) k0 bel lt0) (trodAll_cons_mk (Below.trod laidOut (by kernel_rfl) (of_decide_eq_true (by kernel_rfl)) k1 bel lt1) (trodAll_cons_mk (shut_int Try.underlying3 w2) (trodAll_cons_mk (shut_int Try.underlying3 w3) trodAll_mk0)))), rfl, bel.frame _, fun h => by cases h⟩

theorem over : Rows.matExactRow.holds Try.pinned (OpenSpec.ofChange Rows.matExactSpec) :=
  OpenClaim.holds_of_wide 3 Try.f3 rfl rfl rfl rfl rfl rfl rfl ⟨rfl, rfl, rfl, rfl, rfl⟩ rfl rfl rfl rfl rfl (by kernel_rfl) Try.func3 (by kernel_rfl)
    (of_decide_eq_true (by kernel_rfl)) (by unfold Func.isWrapper; first | (rw [if_pos (by decide +kernel)]; kernel_rfl) | (rw [if_neg (by decide +kernel)]; exact ⟨rfl, rfl⟩))
    (fun os started H enc _ => lifted os started H enc)

end Go.Proofs.Ytkbflhllojpgkaa.matExact

namespace Go.Proofs.Ytkbflhllojpgkaa
theorem matExact_holds : Rows.MatExactSaid := matExact.over
end Go.Proofs.Ytkbflhllojpgkaa
