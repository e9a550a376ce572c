/- TopJoin of layer 4, proved. -/
import Derived.Test.YtlmglgcahopcpaaRows
import Derived.Test.YtlmglgcahopcpaaTopB
import Derived.WalkKit
import Derived.ProofKit
import Derived.OpenShut
import Derived.ShutString
import Derived.ChangeOld
import Derived.Below
namespace Go.Proofs.Ytlmglgcahopcpaa.topJoin
open Go.ChangeShapes Go.WideShapes Go.ChangeAt Go.RowKit
open Go.ChangeMaps (open_string shut_string)
set_option linter.unusedVariables false

theorem own : ownKnob Try.prog.godebug = none := by kernel_rfl
theorem laidOut : laidOutB Try.prog = true := by kernel_rfl

/- The walk: the call returns true, and nothing that was there is written. -/
theorem walk (a0 : Option Addr) (len0 cap0 : Nat) (m0 : List Int) (a1 : Option Addr) (len1 cap1 : Nat) (m1 : List Int) (w : World) (w0 : (sliceS (intS .i64)).rep w everywhere [.slice a0 len0 cap0] m0) (f0 : ∀ x0 ∈ m0, (Lit.int .i64 x0).wf = true) (w1 : (sliceS (intS .i64)).rep w everywhere [.slice a1 len1 cap1] m1) (f1 : ∀ x0 ∈ m1, (Lit.int .i64 x0).wf = true) :
    Calls Try.prog 7 #[.slice a0 len0 cap0, .slice a1 len1 cap1] w fun e w' => e = .returned (.bool true) ∧ Below w.heap.size w w' := by
  have hv := Row.of_rep w0
  have hu := Row.of_rep w1
  obtain ⟨hl0, _, _⟩ := sliceS_len w0
  obtain ⟨hl1, _, _⟩ := sliceS_len w1
  clear w0 f0 w1 f1
  obtain ⟨i0, hi0, hz0, hz1, hz2⟩ := info_parts Try.infoInt
  by_cases h1 : 100 < len0
  · have q1 : (100 : Int) < (len0 : Int) := by omega
    go_enter Try.func7, Try.ntmps7
    go_wp2_with fail
    refine (tawake _).mono ?_
    rintro e u1 ⟨rfl, hb1⟩
    go_wp2
    go_ret
    exact ⟨rfl, hb1⟩
  have q1 : ¬ (100 : Int) < (len0 : Int) := by omega
  by_cases h2 : 100 < len1
  · have q2 : (100 : Int) < (len1 : Int) := by omega
    go_enter Try.func7, Try.ntmps7
    go_wp2_with fail
    refine (tawake _).mono ?_
    rintro e u1 ⟨rfl, hb1⟩
    go_wp2
    go_ret
    exact ⟨rfl, hb1⟩
  have q2 : ¬ (100 : Int) < (len1 : Int) := by omega
  by_cases h3 : len0 = 0
  · have q3 : ((len0 : Int) == 0) = true := by simp [h3]
    go_enter Try.func7, Try.ntmps7
    go_wp2_with fail
    refine (tawake _).mono ?_
    rintro e u1 ⟨rfl, hb1⟩
    go_wp2
    go_ret
    exact ⟨rfl, hb1⟩
  have q3 : ((len0 : Int) == 0) = false := by simp; omega
  by_cases h4 : len1 = 0
  · have q4 : ((len1 : Int) == 0) = true := by simp [h4]
    go_enter Try.func7, Try.ntmps7
    go_wp2_with fail
    refine (tawake _).mono ?_
    rintro e u1 ⟨rfl, hb1⟩
    go_wp2
    go_ret
    exact ⟨rfl, hb1⟩
  have q4 : ((len1 : Int) == 0) = false := by simp; omega
  have c1 := best a0 len0 cap0 m0 w hv (by omega)
  have c2 := best a1 len1 cap1 m1 w hu (by omega)
  obtain ⟨x, hx, ex, _⟩ := Tx.best_at (l := m0) (by omega)
  obtain ⟨y, hy, ey, _⟩ := Tx.best_at (l := m1) (by omega)
  have hj := Tx.join (by omega) (by omega) ex ey
  rw [hl0] at hx hj
  rw [hl1] at hy
  rw [ex] at c1
  rw [ey] at c2
  have C1 : Hid _ := c1
  have C2 : Hid _ := c2
  have HJ : Hid _ := hj
  clear c1 c2 hj ex ey h1 h2 h3 h4
  have p1 : ¬ (x : Int) < 0 := by omega
  have p2 : ¬ (y : Int) < 0 := by omega
  have p3 : ¬ (len0 : Int) ≤ (x : Int) := by omega
  have p4 : ¬ (len1 : Int) ≤ (y : Int) := by omega
  have p5 : (x : Int) < (len0 : Int) := by omega
  have p6 : (y : Int) < (len1 : Int) := by omega
  have p7 : (0 : Int) ≤ (x : Int) := by omega
  have p8 : (0 : Int) ≤ (y : Int) := by omega
  obtain ⟨b1, o1, rfl, hb1, hc1⟩ := hv.at hx
  obtain ⟨b2, o2, rfl, hb2, hc2⟩ := hu.at hy
  generalize m0.getD x 0 = X at *
  generalize m1.getD y 0 = Y at *
  have hne9 : Nonempty (Later w) := Later.there w
  have hd1 : ∀ x9 : Later w, x9.u.cell? ⟨b1, o1 + x, none⟩ = some (.int .i64 X) := fun x9 => x9.cell hc1
  have hd2 : ∀ x9 : Later w, x9.u.cell? ⟨b2, o2 + y, none⟩ = some (.int .i64 Y) := fun x9 => x9.cell hc2
  go_enter Try.func7, Try.ntmps7
  go_wp2_with (first
    | (go_at_call 11; refine by_same C1.out ?_)
    | (go_at_call 11; refine by_same C2.out ?_)
    | fail)
  by_cases hXY : X < Y
  · have hw := HJ.out
    rw [if_pos hXY] at hw
    have HW : Hid _ := hw
    clear hw
    refine region_later (by kernel_rfl) (by kernel_rfl) ?_
    repeat (go_big_quiet_step (fail))
    refine wpQuiet_nil ?_
    intro x9
    obtain ⟨W1, hb9⟩ := x9
    have hv1 := hv.keep hb9
    have hu1 := hu.keep hb9
    clear hv hu hd1 hd2 hc1 hc2 hne9
    go_wp2_with (first
      | (at_builtin; refine wpList_append_rows (by simp [Region.wanted]) (.tmp 63) (.tmp 64) 22 rfl W1.heap.size 3 i0 Try.underlying22 hi0 hz0 hz1 hz2 _ 0 [] (by rfl) (own_empty W1) _ len0 _ m0 (by rfl) (hv1.keep (new_below W1 _)) (by omega) (by simp) ?_; intro a5 c5 W5 o5 r5 b5; have k5 : Below W1.heap.size W1 W5 := (new_below W1 _).trans b5; clear r5 b5; simp only [Nat.zero_add, List.nil_append] at o5 ⊢; have hu5 := hu1.keep k5)
      | (at_builtin; refine wpList_append_rows (by simp [Region.wanted]) (.tmp 65) (.tmp 66) 22 rfl W1.heap.size 3 i0 Try.underlying22 hi0 hz0 hz1 hz2 _ len0 m0 (by rfl) o5 _ len1 _ m1 (by rfl) hu5 (by omega) (by have := k5.size; omega) ?_; intro a6 c6 W6 o6 r6 b6; have k6 : Below W1.heap.size W1 W6 := k5.trans b6; clear o5 k5 b6)
      | (go_at_call 11; refine by_same (best a6 (len0 + len1) c6 (m0 ++ m1) W6 r6 (by omega)) ?_; rw [HW.out])
      | fail)
    have hB7 := bel_then hb9 k6
    refine (tawake _).mono ?_
    rintro e W9 ⟨rfl, hb10⟩
    have hB9 := bel_then hB7 hb10
    go_wp2
    go_ret
    exact ⟨rfl, hB9⟩
  · have hw := HJ.out
    rw [if_neg hXY] at hw
    have HW : Hid _ := hw
    clear hw
    refine region_later (by kernel_rfl) (by kernel_rfl) ?_
    repeat (go_big_quiet_step (fail))
    refine wpQuiet_nil ?_
    intro x9
    obtain ⟨W1, hb9⟩ := x9
    have hv1 := hv.keep hb9
    have hu1 := hu.keep hb9
    clear hv hu hd1 hd2 hc1 hc2 hne9
    go_wp2_with (first
      | (at_builtin; refine wpList_append_rows (by simp [Region.wanted]) (.tmp 63) (.tmp 64) 22 rfl W1.heap.size 3 i0 Try.underlying22 hi0 hz0 hz1 hz2 _ 0 [] (by rfl) (own_empty W1) _ len0 _ m0 (by rfl) (hv1.keep (new_below W1 _)) (by omega) (by simp) ?_; intro a5 c5 W5 o5 r5 b5; have k5 : Below W1.heap.size W1 W5 := (new_below W1 _).trans b5; clear r5 b5; simp only [Nat.zero_add, List.nil_append] at o5 ⊢; have hu5 := hu1.keep k5)
      | (at_builtin; refine wpList_append_rows (by simp [Region.wanted]) (.tmp 65) (.tmp 66) 22 rfl W1.heap.size 3 i0 Try.underlying22 hi0 hz0 hz1 hz2 _ len0 m0 (by rfl) o5 _ len1 _ m1 (by rfl) hu5 (by omega) (by have := k5.size; omega) ?_; intro a6 c6 W6 o6 r6 b6; have k6 : Below W1.heap.size W1 W6 := k5.trans b6; clear o5 k5 b6)
      | (go_at_call 11; refine by_same (best a6 (len0 + len1) c6 (m0 ++ m1) W6 r6 (by omega)) ?_; rw [HW.out])
      | fail)
    have hB7 := bel_then hb9 k6
    refine (tawake _).mono ?_
    rintro e W9 ⟨rfl, hb10⟩
    have hB9 := bel_then hB7 hb10
    go_wp2
    go_ret
    exact ⟨rfl, hB9⟩

/- From the walk to the row. -/
set_option maxRecDepth 100000 in
theorem lifted (os : Os) (started : os.Started) (H : Type) (enc : TypeId × Value → H) :
    ReturnsInHanded {} Try.checked os 7 .any (Rows.topJoinSpec.pre6 enc Try.prog Try.f7 Rows.topJoinRow.domain false) (Rows.topJoinSpec.post enc Try.prog Try.f7 false true false false) := by
  refine returnsInHanded_of_change (C := Try.checked) own started (by kernel_rfl) Try.func7
    (ChangeSpec.witness6 (enc := enc) (C := Try.checked) false ⟨#[], #[.slice none 0 0, .slice none 0 0], []⟩ 8 (by kernel_rfl) (by kernel_rfl) (by kernel_rfl) (by kernel_rfl)) ?_
  intro W base args ds gs before hval0 hW hcnd _
  have hval : ∀ (j : Nat) t v, Try.f7.params[j]? = some t → args[j]? = some v → Value.okWide Try.prog W .any base t v := hval0
  have hW' := hW
  obtain ⟨p, q, hA0, hV, rfl, hfz, hnd⟩ := hW
  have hA : DataW.TrodAll enc Try.prog W 0 (fun _ => true) true Try.f7.params.toList args.toList ds p := hA0
  rw [Try.params7] at hA hval
  obtain ⟨v0, vs0, d0, ds0, p0, q0, hargs, rfl, rfl, h0, r0⟩ := trodAll_cons hA
  obtain ⟨v1, vs1, d1, ds1, p1, q1, rfl, rfl, rfl, h1, r1⟩ := trodAll_cons r0
  obtain ⟨rfl, rfl, rfl⟩ := trodAll_nil r1
  obtain rfl : args = #[v0, v1] := by cases args; simp_all
  obtain ⟨rfl, rfl⟩ := trodVars_none hV
  obtain ⟨a0, len0, cap0, rfl⟩ := okWide_slice Try.underlying22 (hval 0 22 v0 rfl rfl)
  have k0 := h0
  have lt0 : ∀ x ∈ p0, x.block < W.heap.size := by obtain ⟨m, hm⟩ := k0; exact DataW.trod_lt m _ _ _ hm
  obtain ⟨m0, w0, f0⟩ : ∃ y, (sliceS (intS .i64)).rep W everywhere [.slice a0 len0 cap0] y ∧ ∀ x0 ∈ y, (Lit.int .i64 x0).wf = true := by
    obtain ⟨fuel, hf⟩ := h0
    exact (opens_slice (A := (intS .i64)) Try.underlying22 (show Try.prog.cellsOf 3 = 1 by kernel_rfl) (by exact Nat.one_pos) (opens_int Try.underlying3)) H enc W _ _ _ fuel _ _ hf
  obtain ⟨a1, len1, cap1, rfl⟩ := okWide_slice Try.underlying22 (hval 1 22 v1 rfl rfl)
  have k1 := h1
  have lt1 : ∀ x ∈ p1, x.block < W.heap.size := by obtain ⟨m, hm⟩ := k1; exact DataW.trod_lt m _ _ _ hm
  obtain ⟨m1, w1, f1⟩ : ∃ y, (sliceS (intS .i64)).rep W everywhere [.slice a1 len1 cap1] y ∧ ∀ x0 ∈ y, (Lit.int .i64 x0).wf = true := by
    obtain ⟨fuel, hf⟩ := h1
    exact (opens_slice (A := (intS .i64)) Try.underlying22 (show Try.prog.cellsOf 3 = 1 by kernel_rfl) (by exact Nat.one_pos) (opens_int Try.underlying3)) H enc W _ _ _ fuel _ _ hf
  clear hA0 hval0
  refine (walk a0 len0 cap0 m0 a1 len1 cap1 m1 W w0 f0 w1 f1).mono fun e W' ⟨he, bel⟩ => ?_
  subst he
  exact ⟨_, rfl, _, _, _, [], _, [], hW', trodAll_mk1 (shut_bool Try.underlying4 _), (trodAll_cons_mk (Below.trod laidOut (by kernel_rfl) (of_decide_eq_true (by kernel_rfl)) k0 bel lt0) (trodAll_cons_mk (Below.trod laidOut (by kernel_rfl) (of_decide_eq_true (by kernel_rfl)) k1 bel lt1) trodAll_mk0)), rfl, bel.frame _, fun h => by cases h⟩

theorem over : Rows.topJoinRow.holds Try.pinned (OpenSpec.ofChange Rows.topJoinSpec) :=
  OpenClaim.holds_of_wide 7 Try.f7 rfl rfl rfl rfl rfl rfl rfl ⟨rfl, rfl, rfl, rfl, rfl⟩ rfl rfl rfl rfl rfl (by kernel_rfl) Try.func7 (by kernel_rfl)
    (of_decide_eq_true (by kernel_rfl)) (by unfold Func.isWrapper; first | (rw [if_pos (by decide +kernel)]; kernel_rfl) | (rw [if_neg (by decide +kernel)]; exact ⟨rfl, rfl⟩))
    (fun os started H enc _ => lifted os started H enc)

end Go.Proofs.Ytlmglgcahopcpaa.topJoin

namespace Go.Proofs.Ytlmglgcahopcpaa
theorem topJoin_holds : Rows.TopJoinSaid := topJoin.over
end Go.Proofs.Ytlmglgcahopcpaa
