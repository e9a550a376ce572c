/- For every rows a and b and every row v the law MatJoins returns true: of rows put one behind the other Apply makes what it makes of both, one behind the other; no condition. -/
import Derived.Test.YtkbflhllojpgkaaRows
import Derived.Test.YtkbflhllojpgkaaMatD
import Derived.WalkKit
import Derived.ProofKit
import Derived.OpenShut
import Derived.ShutString
import Derived.ChangeOld
import Derived.Below
namespace Go.Proofs.Ytkbflhllojpgkaa.matJoins
open Go.ChangeShapes Go.WideShapes Go.ChangeAt Go.RowKit
open Go.ChangeMaps (open_string shut_string)
set_option linter.unusedVariables false

theorem own : ownKnob Try.prog.godebug = none := by kernel_rfl
theorem laidOut : laidOutB Try.prog = true := by kernel_rfl

/- The walk: the call returns true, and nothing that was there is written. -/
theorem walk (a0 : Option Addr) (len0 cap0 : Nat) (m0 : List (List Int)) (a1 : Option Addr) (len1 cap1 : Nat) (m1 : List (List Int)) (a2 : Option Addr) (len2 cap2 : Nat) (m2 : List Int) (w : World) (w0 : (sliceS (sliceS (intS .i64))).rep w everywhere [.slice a0 len0 cap0] m0) (f0 : ∀ x0 ∈ m0, ∀ x1 ∈ x0, (Lit.int .i64 x1).wf = true) (w1 : (sliceS (sliceS (intS .i64))).rep w everywhere [.slice a1 len1 cap1] m1) (f1 : ∀ x0 ∈ m1, ∀ x1 ∈ x0, (Lit.int .i64 x1).wf = true) (w2 : (sliceS (intS .i64)).rep w everywhere [.slice a2 len2 cap2] m2) (f2 : ∀ x0 ∈ m2, (Lit.int .i64 x0).wf = true) :
    Calls Try.prog 4 #[.slice a0 len0 cap0, .slice a1 len1 cap1, .slice a2 len2 cap2] w fun e w' => e = .returned (.bool true) ∧ Below w.heap.size w w' := by
  have hA := Shape.low w0
  have hC := Shape.low w1
  obtain ⟨hl0, hk0, _⟩ := sliceS_len w0
  obtain ⟨hl1, hk1, _⟩ := sliceS_len w1
  subst hl0
  subst hl1
  have hv := Row.of_rep w2
  clear w2 f0 f1 f2
  obtain ⟨i0, hi0, hz0, hz1, hz2⟩ := info_parts Try.infoInt
  obtain ⟨j0, hj0, hy0, hy1, hy2⟩ := info_parts Try.infoRow
  go_enter Try.func4, Try.ntmps4
  go_wp2_with fail
  refine by_says (small a0 m0.length cap0 m0 everywhere w w0) (fun hs0 => ?_) (fun _ => ?_)
  case refine_2 =>
    go_wp2_with fail
    refine (mawake _).mono ?_
    rintro e u1 ⟨rfl, hb1⟩
    go_wp2
    go_ret
    exact ⟨rfl, hb1⟩
  go_wp2_with fail
  refine by_says (small a1 m1.length cap1 m1 everywhere w w1) (fun hs1 => ?_) (fun _ => ?_)
  case refine_2 =>
    go_wp2_with fail
    refine (mawake _).mono ?_
    rintro e u1 ⟨rfl, hb1⟩
    go_wp2
    go_ret
    exact ⟨rfl, hb1⟩
  have hn0 : m0.length ≤ 30 := hs0.1
  have hn1 : m1.length ≤ 30 := hs1.1
  clear hs0 hs1
  by_cases hl : 30 < len2
  · have hi : (30 : Int) < (len2 : Int) := by omega
    go_wp2_with fail
    refine (mawake _).mono ?_
    rintro e u1 ⟨rfl, hb1⟩
    go_wp2
    go_ret
    exact ⟨rfl, hb1⟩
  have hi : ¬ (30 : Int) < (len2 : Int) := by omega
  by_cases hp1 : Mx.Fits m0 len2
  · by_cases hp2 : Mx.Fits m1 len2
    · have HP : Hid (Mx.Fits m0 len2 ∧ Mx.Fits m1 len2) := ⟨hp1, hp2⟩
      clear hp1 hp2
      go_wp2_with fail
      refine (mapply a0 a2 m0.length cap0 len2 cap2 m0 m2 everywhere w w0 hv (by omega) (by omega)).mono ?_
      rintro e u1 ⟨hg, hb1⟩
      obtain ⟨x1, c1, rfl, hr1⟩ := hg.yes HP.out.1
      have hm1 := Shape.now hC hb1
      have hv1 := hv.keep hb1
      clear hg
      go_wp2_with fail
      refine (mapply a1 a2 m1.length cap1 len2 cap2 m1 m2 _ u1 hm1 hv1 (by omega) (by omega)).mono ?_
      rintro e u2 ⟨hg, hb2⟩
      obtain ⟨x2, c2, rfl, hr2⟩ := hg.yes HP.out.2
      have hr1' := Shape.below hr1 hb2
      clear hr1
      have hB2 := bel_then hb1 hb2
      have hv2 := hv1.keep hb2
      clear hg hm1 hv1 hb1 hb2
      have hE := bel_alloc hB2 (.cells #[] 23)
      go_wp2_with (first
        | (at_builtin; refine wpList_app rowS (by simp [Region.wanted]) (.tmp 40) (.tmp 41) 22 rfl u2.heap.size 23 j0 (.slice none 0 0) 24 Try.underlying22 hj0 hy0 hy1 hy2 rfl Nat.one_pos (by omega) (by rfl) (Own.empty rowS u2 23) (by rfl) (Shape.now hA hE) (Own.apart (Own.empty rowS u2 23) hB2.size) (by simp; omega) (by simp) ?_; intro a4 c4 u4 ho4 hg4 hb4 hat4; have hB4 : Below u2.heap.size u2 u4 := (new_bel u2 _).trans hb4; clear hg4 hb4 hat4; simp only [List.length_nil, Nat.zero_add, List.nil_append] at ho4 ⊢)
        | (at_builtin; refine wpList_app rowS (by simp [Region.wanted]) (.tmp 42) (.tmp 43) 22 rfl u2.heap.size 23 j0 (.slice none 0 0) 24 Try.underlying22 hj0 hy0 hy1 hy2 rfl Nat.one_pos (by omega) (by rfl) ho4 (by rfl) (Shape.now hC (bel_then hB2 hB4)) (Own.apart ho4 hB2.size) (by omega) hB4.size ?_; intro a5 c5 u5 ho5 hg5 hb5 hat5; have hB5 : Below u2.heap.size u2 u5 := hB4.trans hb5; clear hg5 hb5 hat5)
        | fail)
      have hm5 := ho5.is
      have hv5 := hv2.keep hB5
      have hB := bel_then hB2 hB5
      have hx5 := Shape.below hr1' hB5
      have hy5 := Shape.below hr2 hB5
      clear hr1' hr2
      clear ho4 ho5 hB2 hE hB4 hB5 hv2
      refine (mapply a5 a2 (m0.length + m1.length) c5 len2 cap2 (m0 ++ m1) m2 everywhere u5 hm5 hv5 (by omega) (by omega)).mono ?_
      rintro e u6 ⟨hg, hb6⟩
      obtain ⟨x3, c3, rfl, hr3⟩ := hg.yes ((Mx.fits_append _ _ _).2 HP.out)
      rw [Mx.app_append] at hr3
      have hx6 := Row.of_rep (Shape.below hx5 hb6)
      have hy6 := Row.of_rep (Shape.below hy5 hb6)
      have hz6 := Row.of_rep hr3
      have hB6 := bel_then hB hb6
      clear hg hx5 hy5 hr3 hm5 hv5 hb6 hB
      generalize Mx.app m0 m2 = l1 at *
      generalize Mx.app m1 m2 = l2 at *
      go_wp2_with (first
        | (at_builtin; refine wpList_append_rows (by simp [Region.wanted, go_sem]) (.tmp 68) (.tmp 69) 23 rfl u6.heap.size 3 i0 Try.underlying23 hi0 hz0 hz1 hz2 _ 0 [] (by rfl) (own_empty u6) _ m0.length _ l1 (by rfl) (hx6.keep (new_below u6 _)) (by omega) (by simp) ?_; intro aO1 cO1 WO1 oO1 rO1 bO1; have kO1 : Below u6.heap.size u6 WO1 := (new_below u6 _).trans bO1; clear rO1 bO1; simp only [Nat.zero_add, List.nil_append] at oO1 ⊢)
        | (at_builtin; refine wpList_append_rows (by simp [Region.wanted, go_sem]) (.tmp 70) (.tmp 71) 23 rfl u6.heap.size 3 i0 Try.underlying23 hi0 hz0 hz1 hz2 _ m0.length l1 (by rfl) oO1 _ m1.length _ l2 (by rfl) (hy6.keep kO1) (by omega) kO1.size ?_; intro aO2 cO2 WO2 oO2 rO2 bO2; have kO2 : Below u6.heap.size u6 WO2 := kO1.trans bO2; clear oO1 oO2 bO2 kO1)
        | fail)
      have hz7 := hz6.keep kO2
      have hB7 := bel_then hB6 kO2
      clear hx6 hy6 hz6 hB6 kO2
      refine (same_true _ _ (m0.length + m1.length) _ _ _ _ hz7 rO2 (by omega)).mono ?_
      rintro e u8 ⟨rfl, hb8⟩
      have hB8 := bel_then hB7 hb8
      clear hz7 rO2 hB7 hb8
      go_wp2_with fail
      refine (mawake _).mono ?_
      rintro e u9 ⟨rfl, hb9⟩
      have hB9 := bel_then hB8 hb9
      go_wp2
      go_ret
      exact ⟨rfl, hB9⟩
    · have HP : Hid (Mx.Fits m0 len2 ∧ ¬ Mx.Fits m1 len2) := ⟨hp1, hp2⟩
      clear hp1 hp2
      go_wp2_with fail
      refine (mapply a0 a2 m0.length cap0 len2 cap2 m0 m2 everywhere w w0 hv (by omega) (by omega)).mono ?_
      rintro e u1 ⟨hg, hb1⟩
      obtain ⟨x1, c1, rfl, hr1⟩ := hg.yes HP.out.1
      have hm1 := Shape.now hC hb1
      have hv1 := hv.keep hb1
      clear hg
      go_wp2_with fail
      refine (mapply a1 a2 m1.length cap1 len2 cap2 m1 m2 _ u1 hm1 hv1 (by omega) (by omega)).mono ?_
      rintro e u2 ⟨hg, hb2⟩
      obtain rfl := hg.no HP.out.2
      have hB2 := bel_then hb1 hb2
      have hv2 := hv1.keep hb2
      clear hg hm1 hv1 hb1 hb2
      have hE := bel_alloc hB2 (.cells #[] 23)
      go_wp2_with (first
        | (at_builtin; refine wpList_app rowS (by simp [Region.wanted]) (.tmp 40) (.tmp 41) 22 rfl u2.heap.size 23 j0 (.slice none 0 0) 24 Try.underlying22 hj0 hy0 hy1 hy2 rfl Nat.one_pos (by omega) (by rfl) (Own.empty rowS u2 23) (by rfl) (Shape.now hA hE) (Own.apart (Own.empty rowS u2 23) hB2.size) (by simp; omega) (by simp) ?_; intro a4 c4 u4 ho4 hg4 hb4 hat4; have hB4 : Below u2.heap.size u2 u4 := (new_bel u2 _).trans hb4; clear hg4 hb4 hat4; simp only [List.length_nil, Nat.zero_add, List.nil_append] at ho4 ⊢)
        | (at_builtin; refine wpList_app rowS (by simp [Region.wanted]) (.tmp 42) (.tmp 43) 22 rfl u2.heap.size 23 j0 (.slice none 0 0) 24 Try.underlying22 hj0 hy0 hy1 hy2 rfl Nat.one_pos (by omega) (by rfl) ho4 (by rfl) (Shape.now hC (bel_then hB2 hB4)) (Own.apart ho4 hB2.size) (by omega) hB4.size ?_; intro a5 c5 u5 ho5 hg5 hb5 hat5; have hB5 : Below u2.heap.size u2 u5 := hB4.trans hb5; clear hg5 hb5 hat5)
        | fail)
      have hm5 := ho5.is
      have hv5 := hv2.keep hB5
      have hB := bel_then hB2 hB5
      clear ho4 ho5 hB2 hE hB4 hB5 hv2
      refine (mapply a5 a2 (m0.length + m1.length) c5 len2 cap2 (m0 ++ m1) m2 everywhere u5 hm5 hv5 (by omega) (by omega)).mono ?_
      rintro e u6 ⟨hg, hb6⟩
      obtain rfl := hg.no (fun h => HP.out.2 ((Mx.fits_append _ _ _).1 h).2)
      have hB6 := bel_then hB hb6
      clear hg hm5 hv5 hb6 hB
      go_wp2_with fail
      refine (mawake _).mono ?_
      rintro e u9 ⟨rfl, hb9⟩
      have hB9 := bel_then hB6 hb9
      go_wp2
      go_ret
      exact ⟨rfl, hB9⟩
  · have HP : Hid (¬ Mx.Fits m0 len2) := hp1
    clear hp1
    go_wp2_with fail
    refine (mapply a0 a2 m0.length cap0 len2 cap2 m0 m2 everywhere w w0 hv (by omega) (by omega)).mono ?_
    rintro e u1 ⟨hg, hb1⟩
    obtain rfl := hg.no HP.out
    have hm1 := Shape.now hC hb1
    have hv1 := hv.keep hb1
    clear hg
    go_wp2_with fail
    refine (mapply a1 a2 m1.length cap1 len2 cap2 m1 m2 _ u1 hm1 hv1 (by omega) (by omega)).mono ?_
    rintro e u2 ⟨hg, hb2⟩
    obtain ⟨x2, c2, rfl, hr2⟩ := hg.form
    have hB2 := bel_then hb1 hb2
    have hv2 := hv1.keep hb2
    clear hg hm1 hv1 hb1 hb2
    have hE := bel_alloc hB2 (.cells #[] 23)
    go_wp2_with (first
      | (at_builtin; refine wpList_app rowS (by simp [Region.wanted]) (.tmp 40) (.tmp 41) 22 rfl u2.heap.size 23 j0 (.slice none 0 0) 24 Try.underlying22 hj0 hy0 hy1 hy2 rfl Nat.one_pos (by omega) (by rfl) (Own.empty rowS u2 23) (by rfl) (Shape.now hA hE) (Own.apart (Own.empty rowS u2 23) hB2.size) (by simp; omega) (by simp) ?_; intro a4 c4 u4 ho4 hg4 hb4 hat4; have hB4 : Below u2.heap.size u2 u4 := (new_bel u2 _).trans hb4; clear hg4 hb4 hat4; simp only [List.length_nil, Nat.zero_add, List.nil_append] at ho4 ⊢)
      | (at_builtin; refine wpList_app rowS (by simp [Region.wanted]) (.tmp 42) (.tmp 43) 22 rfl u2.heap.size 23 j0 (.slice none 0 0) 24 Try.underlying22 hj0 hy0 hy1 hy2 rfl Nat.one_pos (by omega) (by rfl) ho4 (by rfl) (Shape.now hC (bel_then hB2 hB4)) (Own.apart ho4 hB2.size) (by omega) hB4.size ?_; intro a5 c5 u5 ho5 hg5 hb5 hat5; have hB5 : Below u2.heap.size u2 u5 := hB4.trans hb5; clear hg5 hb5 hat5)
      | fail)
    have hm5 := ho5.is
    have hv5 := hv2.keep hB5
    have hB := bel_then hB2 hB5
    clear ho4 ho5 hB2 hE hB4 hB5 hv2
    refine (mapply a5 a2 (m0.length + m1.length) c5 len2 cap2 (m0 ++ m1) m2 everywhere u5 hm5 hv5 (by omega) (by omega)).mono ?_
    rintro e u6 ⟨hg, hb6⟩
    obtain rfl := hg.no (fun h => HP.out ((Mx.fits_append _ _ _).1 h).1)
    have hB6 := bel_then hB hb6
    clear hg hm5 hv5 hb6 hB
    go_wp2_with fail
    refine (mawake _).mono ?_
    rintro e u9 ⟨rfl, hb9⟩
    have hB9 := bel_then hB6 hb9
    go_wp2
    go_ret
    exact ⟨rfl, hB9⟩

/- From the walk to the row. -/
set_option maxRecDepth 100000 in
theorem lifted (os : Os) (started : os.Started) (H : Type) (enc : TypeId × Value → H) :
    ReturnsInHanded {} Try.checked os 4 .any (Rows.matJoinsSpec.pre6 enc Try.prog Try.f4 Rows.matJoinsRow.domain false) (Rows.matJoinsSpec.post enc Try.prog Try.f4 false true false false) := by
  refine returnsInHanded_of_change (C := Try.checked) own started (by kernel_rfl) Try.func4
    (ChangeSpec.witness6 (enc := enc) (C := Try.checked) false ⟨#[], #[.slice none 0 0, .slice none 0 0, .slice none 0 0], []⟩ 8 (by kernel_rfl) (by kernel_rfl) (by kernel_rfl) (by kernel_rfl)) ?_
  intro W base args ds gs before hval0 hW hcnd _
  have hval : ∀ (j : Nat) t v, Try.f4.params[j]? = some t → args[j]? = some v → Value.okWide Try.prog W .any base t v := hval0
  have hW' := hW
  obtain ⟨p, q, hA0, hV, rfl, hfz, hnd⟩ := hW
  have hA : DataW.TrodAll enc Try.prog W 0 (fun _ => true) true Try.f4.params.toList args.toList ds p := hA0
  rw [Try.params4] at hA hval
  obtain ⟨v0, vs0, d0, ds0, p0, q0, hargs, rfl, rfl, h0, r0⟩ := trodAll_cons hA
  obtain ⟨v1, vs1, d1, ds1, p1, q1, rfl, rfl, rfl, h1, r1⟩ := trodAll_cons r0
  obtain ⟨v2, vs2, d2, ds2, p2, q2, rfl, rfl, rfl, h2, r2⟩ := trodAll_cons r1
  obtain ⟨rfl, rfl, rfl⟩ := trodAll_nil r2
  obtain rfl : args = #[v0, v1, v2] := by cases args; simp_all
  obtain ⟨rfl, rfl⟩ := trodVars_none hV
  obtain ⟨a0, len0, cap0, rfl⟩ := okWide_slice Try.underlying22 (hval 0 22 v0 rfl rfl)
  have k0 := h0
  have lt0 : ∀ x ∈ p0, x.block < W.heap.size := by obtain ⟨m, hm⟩ := k0; exact DataW.trod_lt m _ _ _ hm
  obtain ⟨m0, w0, f0⟩ : ∃ y, (sliceS (sliceS (intS .i64))).rep W everywhere [.slice a0 len0 cap0] y ∧ ∀ x0 ∈ y, ∀ x1 ∈ x0, (Lit.int .i64 x1).wf = true := by
    obtain ⟨fuel, hf⟩ := h0
    exact (opens_slice (A := (sliceS (intS .i64))) Try.underlying22 (show Try.prog.cellsOf 23 = 1 by kernel_rfl) (by exact Nat.one_pos) (opens_slice (A := (intS .i64)) Try.underlying23 (show Try.prog.cellsOf 3 = 1 by kernel_rfl) (by exact Nat.one_pos) (opens_int Try.underlying3))) H enc W _ _ _ fuel _ _ hf
  obtain ⟨a1, len1, cap1, rfl⟩ := okWide_slice Try.underlying22 (hval 1 22 v1 rfl rfl)
  have k1 := h1
  have lt1 : ∀ x ∈ p1, x.block < W.heap.size := by obtain ⟨m, hm⟩ := k1; exact DataW.trod_lt m _ _ _ hm
  obtain ⟨m1, w1, f1⟩ : ∃ y, (sliceS (sliceS (intS .i64))).rep W everywhere [.slice a1 len1 cap1] y ∧ ∀ x0 ∈ y, ∀ x1 ∈ x0, (Lit.int .i64 x1).wf = true := by
    obtain ⟨fuel, hf⟩ := h1
    exact (opens_slice (A := (sliceS (intS .i64))) Try.underlying22 (show Try.prog.cellsOf 23 = 1 by kernel_rfl) (by exact Nat.one_pos) (opens_slice (A := (intS .i64)) Try.underlying23 (show Try.prog.cellsOf 3 = 1 by kernel_rfl) (by exact Nat.one_pos) (opens_int Try.underlying3))) H enc W _ _ _ fuel _ _ hf
  obtain ⟨a2, len2, cap2, rfl⟩ := okWide_slice Try.underlying23 (hval 2 23 v2 rfl rfl)
  have k2 := h2
  have lt2 : ∀ x ∈ p2, x.block < W.heap.size := by obtain ⟨m, hm⟩ := k2; exact DataW.trod_lt m _ _ _ hm
  obtain ⟨m2, w2, f2⟩ : ∃ y, (sliceS (intS .i64)).rep W everywhere [.slice a2 len2 cap2] y ∧ ∀ x0 ∈ y, (Lit.int .i64 x0).wf = true := by
    obtain ⟨fuel, hf⟩ := h2
    exact (opens_slice (A := (intS .i64)) Try.underlying23 (show Try.prog.cellsOf 3 = 1 by kernel_rfl) (by exact Nat.one_pos) (opens_int Try.underlying3)) H enc W _ _ _ fuel _ _ hf
  clear hA0 hval0
  refine (walk a0 len0 cap0 m0 a1 len1 cap1 m1 a2 len2 cap2 m2 W w0 f0 w1 f1 w2 f2).mono fun e W' ⟨he, bel⟩ => ?_
  subst he
  exact ⟨_, rfl, _, _, _, [], _, [], hW', trodAll_mk1 (shut_bool Try.underlying4 _), (trodAll_cons_mk (Below.trod laidOut (by kernel_rfl) (of_decide_eq_true (by kernel_rfl)) k0 bel lt0) (trodAll_cons_mk (Below.trod laidOut (by kernel_rfl) (of_decide_eq_true (by kernel_rfl)) k1 bel lt1) (trodAll_cons_mk (Below.trod laidOut (by kernel_rfl) (of_decide_eq_true (by kernel_rfl)) k2 bel lt2) trodAll_mk0))), rfl, bel.frame _, fun h => by cases h⟩

theorem over : Rows.matJoinsRow.holds Try.pinned (OpenSpec.ofChange Rows.matJoinsSpec) :=
  OpenClaim.holds_of_wide 4 Try.f4 rfl rfl rfl rfl rfl rfl rfl ⟨rfl, rfl, rfl, rfl, rfl⟩ rfl rfl rfl rfl rfl (by kernel_rfl) Try.func4 (by kernel_rfl)
    (of_decide_eq_true (by kernel_rfl)) (by unfold Func.isWrapper; first | (rw [if_pos (by decide +kernel)]; kernel_rfl) | (rw [if_neg (by decide +kernel)]; exact ⟨rfl, rfl⟩))
    (fun os started H enc _ => lifted os started H enc)

end Go.Proofs.Ytkbflhllojpgkaa.matJoins

namespace Go.Proofs.Ytkbflhllojpgkaa
theorem matJoins_holds : Rows.MatJoinsSaid := matJoins.over
end Go.Proofs.Ytkbflhllojpgkaa
