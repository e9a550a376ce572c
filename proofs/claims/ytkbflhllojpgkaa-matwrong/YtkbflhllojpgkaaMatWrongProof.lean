/- For every rows m, int columns and byte at the law MatWrong returns true: rows that are right for their own numbers are not so for one more, nor with a number that is not held; no condition. -/
import Derived.Test.YtkbflhllojpgkaaRows
import Derived.Test.YtkbflhllojpgkaaLater
import Derived.WalkKit
import Derived.ProofKit
import Derived.OpenShut
import Derived.ShutString
import Derived.ChangeOld
import Derived.Below
namespace Go.Proofs.Ytkbflhllojpgkaa.matWrong
open Go.ChangeShapes Go.WideShapes Go.ChangeAt Go.RowKit
open Go.ChangeMaps (open_string shut_string)
set_option linter.unusedVariables false

theorem own : ownKnob Try.prog.godebug = none := by kernel_rfl
theorem laidOut : laidOutB Try.prog = true := by kernel_rfl

theorem wrong_more {m : List (List Int)} {n : Nat} (hn : m.length = n) (c : Int) : ¬ Mx.Right m ((n : Int) + 1) c := fun h => by have := h.1; omega
theorem wrong_wide {m : List (List Int)} {rows c : Int} {r : List Int} (hr : r ∈ m) (hl : (r.length : Int) = c) : ¬ Mx.Right m rows (c + 1) := fun h => by have := (h.2 r hr).1; omega
theorem wrong_held {m : List (List Int)} {k : Nat} (hk : k < m.length) {rows c : Int} {l : List Int} : ¬ Mx.Right (m.set k (l ++ [2147483648])) rows c := fun h => by
  have h1 := (h.2 _ (List.mem_set hk (l ++ [2147483648]))).2 2147483648 (by simp)
  exact absurd h1 (by decide)

/- The walk: the call returns true, and nothing that was there is written. -/
theorem walk (a0 : Option Addr) (len0 cap0 : Nat) (m0 : List (List Int)) (a1 : Int) (a2 : Int) (w : World) (w0 : (sliceS (sliceS (intS .i64))).rep w everywhere [.slice a0 len0 cap0] m0) (f0 : ∀ x0 ∈ m0, ∀ x1 ∈ x0, (Lit.int .i64 x1).wf = true) (w1 : (Lit.int .i64 a1).wf = true) (w2 : (Lit.int .u8 a2).wf = true) :
    Calls Try.prog 7 #[.slice a0 len0 cap0, .int .i64 a1, .int .u8 a2] w fun e w' => e = .returned (.bool true) ∧ Below w.heap.size w w' := by
  have hA := Shape.low w0
  obtain ⟨hl0, hk0, _⟩ := sliceS_len w0
  have HL : Hid (m0.length = len0) := hl0
  have hb := bounds_u8 w2
  obtain ⟨n1, rfl⟩ := Int.eq_ofNat_of_zero_le hb.1
  obtain ⟨_, hb2⟩ := hb
  clear f0 w1 w2 hl0
  obtain ⟨i0, hi0, hz0, hz1, hz2⟩ := info_parts Try.infoInt
  obtain ⟨j0, hj0, hy0, hy1, hy2⟩ := info_parts Try.infoRow
  go_enter Try.func7, Try.ntmps7
  go_wp2_with fail
  refine by_says (small a0 len0 cap0 m0 everywhere w w0) (fun hs0 => ?_) (fun _ => ?_)
  case refine_2 =>
    go_wp2_with fail
    refine (mawake _).mono ?_
    rintro e u1 ⟨rfl, hb1⟩
    go_wp2
    go_ret
    exact ⟨rfl, hb1⟩
  have hn0 : len0 ≤ 30 := by have := hs0.1; have := HL.out; omega
  have HS : Hid (∀ l ∈ m0, l.length ≤ 30) := hs0.2
  clear hs0
  by_cases hz : len0 = 0
  · have ez : ((len0 : Int) == 0) = true := by simp [hz]
    go_wp2_with fail
    refine (mawake _).mono ?_
    rintro e u1 ⟨rfl, hb1⟩
    go_wp2
    go_ret
    exact ⟨rfl, hb1⟩
  have ez : ((len0 : Int) == 0) = false := by simp; omega
  by_cases hc1 : a1 < 1
  · go_wp2_with fail
    refine (mawake _).mono ?_
    rintro e u1 ⟨rfl, hb1⟩
    go_wp2
    go_ret
    exact ⟨rfl, hb1⟩
  by_cases hc2 : 30 < a1
  · go_wp2_with fail
    refine (mawake _).mono ?_
    rintro e u1 ⟨rfl, hb1⟩
    go_wp2
    go_ret
    exact ⟨rfl, hb1⟩
  go_wp2_with fail
  refine by_says (rright a0 len0 cap0 m0 everywhere len0 a1 w w0 (by omega) (fun l hl => by have := HS.out l hl; omega)) (fun hright => ?_) (fun _ => ?_)
  case refine_2 =>
    go_wp2_with fail
    refine (mawake _).mono ?_
    rintro e u1 ⟨rfl, hb1⟩
    go_wp2
    go_ret
    exact ⟨rfl, hb1⟩
  have HR : Hid (Mx.Right m0 len0 a1) := hright
  clear hright
  obtain ⟨j, rfl⟩ : ∃ j : Nat, a1 = (j : Int) + 1 := ⟨(a1 - 1).toNat, by omega⟩
  have hj29 : j ≤ 29 := by omega
  clear hc1 hc2
  have hlt : n1 % len0 < len0 := Nat.mod_lt _ (by omega)
  have hp0 : (0 : Int) ≤ (n1 : Int) % (len0 : Int) := Int.emod_nonneg _ (by omega)
  have hp1 : (n1 : Int) % (len0 : Int) < (len0 : Int) := Int.emod_lt_of_pos _ (by omega)
  obtain ⟨b1, o1, A, C, rfl, hb1, hcell, hr⟩ := mat_at hA hlt
  have HM : Hid (m0.getD (n1 % len0) [] ∈ m0) := Mx.getD_mem m0 _ (by rw [HL.out]; exact hlt)
  generalize m0.getD (n1 % len0) [] = r at *
  have hrl : r.length = j + 1 := by have := (HR.out.2 r HM.out).1; omega
  obtain ⟨_, hrC, hCm⟩ := sliceS_len hr
  rw [hrl] at hcell hr hrC
  have hrow := Row.of_rep hr
  obtain ⟨_, h0 | ⟨b2, o2, rfl, hc⟩⟩ := hrow
  · omega
  have hb2 : b2 < w.heap.size := World.block_lt_of_cell? w _ (hc 0 (by omega))
  have hcut : Row .i64 w (some ⟨b2, o2, none⟩) j (r.take j) := by
    refine ⟨by simp; omega, .inr ⟨b2, o2, rfl, fun i hi => ?_⟩⟩
    rw [hc i (by omega), List.getD_eq_getElem?_getD, List.getD_eq_getElem?_getD, List.getElem?_take, if_pos hi]
  clear hc hr
  go_upto_region 5 with (first
    | (at_builtin; refine wpList_app rowS (by simp [Region.wanted]) (.tmp 39) (.tmp 40) 22 rfl w.heap.size 23 j0 (.slice none 0 0) 24 Try.underlying22 hj0 hy0 hy1 hy2 rfl Nat.one_pos (by omega) (by rfl) (Own.empty rowS w 23) (by rfl) (Shape.now hA (new_bel w _)) (Own.apart (Own.empty rowS w 23) (Nat.le_refl _)) (by simp; omega) (by simp) ?_; intro a4 c4 W4 ho4 hg4 hb4 hat4; simp only [List.length_nil, Nat.zero_add, List.nil_append] at ho4 ⊢)
    | fail)
  have hB4 : Below w.heap.size w W4 := (new_bel w _).trans hb4
  clear hg4 hb4 hat4
  obtain ⟨g, rfl, hg0, hg1, _⟩ := ho4.form (by omega)
  have hcell4 := (hB4.cell (by exact hb1)).trans hcell
  have hcut4 := hcut.keep hB4
  have hcell5 : (W4.alloc (.cells #[] 3)).cell? ⟨b1, o1 + n1 % len0, none⟩ = some (.slice (some ⟨b2, o2, none⟩) (j + 1) C) := ((new_bel W4 _).cell (World.block_lt_of_cell? W4 _ hcell4)).trans hcell4
  clear hcell hcut
  have hw1 : (j : Int) + 1 - 1 = (j : Int) := by omega
  have hw2 : (j : Int) ≤ (C : Int) := by omega
  have hw3 : (0 : Int) ≤ (j : Int) := by omega
  have hlit : ∀ W : World, Row .i64 (W.alloc (.cells #[.int .i64 2147483648] 3)) (some ⟨W.heap.size, 0, none⟩) 1 [2147483648] := fun W => Row.lit W _ [2147483648] rfl
  have hcells : ∀ W : World, Below W4.heap.size W4 W → (∃ z, W.cell? ⟨g, n1 % len0, none⟩ = some z) ∧ W.frozen? ⟨g, n1 % len0, none⟩ = false := by
    intro W hW
    have h := (ho4.keep hW).store (j := n1 % len0) rfl hlt (F := fun _ => False) (v := .slice none 0 0) (x := []) (Shape.mono _ (rep_none (intS .i64) W (fun _ => False)) (fun _ h _ => h)) (fun _ h => h.elim)
    exact ⟨h.1, h.2.1⟩
  have HC : Hid _ := hcells
  have HLit : Hid _ := hlit
  clear hcells hlit
  go_wp2_with (first
    | (at_builtin; refine wpList_append_rows (by simp [Region.wanted]) (.tmp 44) (.tmp 51) 23 rfl W4.heap.size 3 i0 Try.underlying23 hi0 hz0 hz1 hz2 _ 0 [] (by rfl) (own_empty W4) _ j _ (r.take j) (by rfl) (hcut4.keep (new_below W4 _)) (by omega) (by simp) ?_; intro a5 c5 W5 o5 r5 b5; have k5 : Below W4.heap.size W4 W5 := (new_below W4 _).trans b5; clear r5 b5; simp only [Nat.zero_add, List.nil_append] at o5 ⊢)
    | (at_builtin; refine wpList_append_rows (by simp [Region.wanted]) (.tmp 52) (.tmp 53) 23 rfl W4.heap.size 3 i0 Try.underlying23 hi0 hz0 hz1 hz2 _ j (r.take j) (by rfl) (o5.alloc _) _ 1 _ [2147483648] (by rfl) (HLit.out W5) (by omega) (by have := k5.size; simp; omega) ?_; intro a6 c6 W6 o6 r6 b6; have k6 : Below W4.heap.size W4 W6 := (k5.alloc k5.size _).trans b6; obtain ⟨⟨z6, hz6⟩, hf6⟩ := HC.out W6 k6; clear o5 k5 b6)
    | fail)
  obtain ⟨_, _, hbad⟩ := (ho4.keep k6).store (j := n1 % len0) rfl hlt (rep_high o6) (fun b hb => by have : W4.heap.size ≤ b := hb; omega)
  have hB7 : Below w.heap.size w (W6.setCell ⟨g, n1 % len0, none⟩ (.slice a6 (j + 1) c6)) := (bel_then hB4 k6).setCell hg0 _
  have hmB := hbad.is
  clear hbad r6 o6 k6 hz6 hf6 HC HLit hcell4 hcell5 hcut4 ho4 hB4
  generalize W6.setCell ⟨g, n1 % len0, none⟩ (.slice a6 (j + 1) c6) = W7 at *
  have hA7 := Shape.now hA hB7
  have HS7 : Hid (∀ l ∈ m0.set (n1 % len0) (r.take j ++ [2147483648]), l.length ≤ 100000) := by
    intro l hl
    rcases List.mem_or_eq_of_mem_set hl with h | rfl
    · have := HS.out l h; omega
    · simp; omega
  have HK : Hid (n1 % len0 < m0.length) := by show _ < _; rw [HL.out]; exact hlt
  have HRL : Hid ((r.length : Int) = (j : Int) + 1) := by show _ = _; omega
  refine by_says (right _ len0 cap0 m0 _ len0 ((j : Int) + 1) W7 hA7 (by omega) (fun l hl => by have := HS.out l hl; omega)) (fun _ => ?_) (fun h => absurd HR.out h)
  go_wp2_with fail
  refine by_says (right _ len0 cap0 m0 _ ((len0 : Int) + 1) ((j : Int) + 1) W7 hA7 (by omega) (fun l hl => by have := HS.out l hl; omega)) (fun h => absurd h (wrong_more HL.out _)) (fun _ => ?_)
  go_wp2_with fail
  refine by_says (right _ len0 cap0 m0 _ len0 ((j : Int) + 1 + 1) W7 hA7 (by omega) (fun l hl => by have := HS.out l hl; omega)) (fun h => absurd h (wrong_wide HM.out HRL.out)) (fun _ => ?_)
  go_wp2_with fail
  refine by_says (right _ len0 c4 _ everywhere len0 ((j : Int) + 1) W7 hmB (by omega) HS7.out) (fun h => absurd h (wrong_held HK.out)) (fun _ => ?_)
  go_wp2_with fail
  refine (mawake _).mono ?_
  rintro e W9 ⟨rfl, hb9⟩
  have hB9 := bel_then hB7 hb9
  go_wp2
  go_ret
  exact ⟨rfl, hB9⟩

/- From the walk to the row. -/
set_option maxRecDepth 100000 in
theorem lifted (os : Os) (started : os.Started) (H : Type) (enc : TypeId × Value → H) :
    ReturnsInHanded {} Try.checked os 7 .any (Rows.matWrongSpec.pre6 enc Try.prog Try.f7 Rows.matWrongRow.domain false) (Rows.matWrongSpec.post enc Try.prog Try.f7 false true false false) := by
  refine returnsInHanded_of_change (C := Try.checked) own started (by kernel_rfl) Try.func7
    (ChangeSpec.witness6 (enc := enc) (C := Try.checked) false ⟨#[], #[.slice none 0 0, .int .i64 0, .int .u8 0], []⟩ 8 (by kernel_rfl) (by kernel_rfl) (by kernel_rfl) (by kernel_rfl)) ?_
  intro W base args ds gs before hval0 hW hcnd _
  have hval : ∀ (j : Nat) t v, Try.f7.params[j]? = some t → args[j]? = some v → Value.okWide Try.prog W .any base t v := hval0
  have hW' := hW
  obtain ⟨p, q, hA0, hV, rfl, hfz, hnd⟩ := hW
  have hA : DataW.TrodAll enc Try.prog W 0 (fun _ => true) true Try.f7.params.toList args.toList ds p := hA0
  rw [Try.params7] at hA hval
  obtain ⟨v0, vs0, d0, ds0, p0, q0, hargs, rfl, rfl, h0, r0⟩ := trodAll_cons hA
  obtain ⟨v1, vs1, d1, ds1, p1, q1, rfl, rfl, rfl, h1, r1⟩ := trodAll_cons r0
  obtain ⟨v2, vs2, d2, ds2, p2, q2, rfl, rfl, rfl, h2, r2⟩ := trodAll_cons r1
  obtain ⟨rfl, rfl, rfl⟩ := trodAll_nil r2
  obtain rfl : args = #[v0, v1, v2] := by cases args; simp_all
  obtain ⟨rfl, rfl⟩ := trodVars_none hV
  obtain ⟨a0, len0, cap0, rfl⟩ := okWide_slice Try.underlying22 (hval 0 22 v0 rfl rfl)
  have k0 := h0
  have lt0 : ∀ x ∈ p0, x.block < W.heap.size := by obtain ⟨m, hm⟩ := k0; exact DataW.trod_lt m _ _ _ hm
  obtain ⟨m0, w0, f0⟩ : ∃ y, (sliceS (sliceS (intS .i64))).rep W everywhere [.slice a0 len0 cap0] y ∧ ∀ x0 ∈ y, ∀ x1 ∈ x0, (Lit.int .i64 x1).wf = true := by
    obtain ⟨fuel, hf⟩ := h0
    exact (opens_slice (A := (sliceS (intS .i64))) Try.underlying22 (show Try.prog.cellsOf 23 = 1 by kernel_rfl) (by exact Nat.one_pos) (opens_slice (A := (intS .i64)) Try.underlying23 (show Try.prog.cellsOf 3 = 1 by kernel_rfl) (by exact Nat.one_pos) (opens_int Try.underlying3))) H enc W _ _ _ fuel _ _ hf
  obtain ⟨a1, rfl, rfl, rfl, w1⟩ := open_int Try.underlying3 (hval 1 3 v1 rfl rfl) h1
  obtain ⟨a2, rfl, rfl, rfl, w2⟩ := open_int Try.underlying5 (hval 2 5 v2 rfl rfl) h2
  clear hA0 hval0
  refine (walk a0 len0 cap0 m0 a1 a2 W w0 f0 w1 w2).mono fun e W' ⟨he, bel⟩ => ?_
  subst he
  exact ⟨_, rfl, _, _, _, [], _, [], hW', trodAll_mk1 (shut_bool Try.underlying4 _), (trodAll_cons_mk (Below.trod laidOut (by kernel_rfl) (of_decide_eq_true (by kernel_rfl)) k0 bel lt0) (trodAll_cons_mk (shut_int Try.underlying3 w1) (trodAll_cons_mk (shut_int Try.underlying5 w2) trodAll_mk0))), rfl, bel.frame _, fun h => by cases h⟩

theorem over : Rows.matWrongRow.holds Try.pinned (OpenSpec.ofChange Rows.matWrongSpec) :=
  OpenClaim.holds_of_wide 7 Try.f7 rfl rfl rfl rfl rfl rfl rfl ⟨rfl, rfl, rfl, rfl, rfl⟩ rfl rfl rfl rfl rfl (by kernel_rfl) Try.func7 (by kernel_rfl)
    (of_decide_eq_true (by kernel_rfl)) (by unfold Func.isWrapper; first | (rw [if_pos (by decide +kernel)]; kernel_rfl) | (rw [if_neg (by decide +kernel)]; exact ⟨rfl, rfl⟩))
    (fun os started H enc _ => lifted os started H enc)

end Go.Proofs.Ytkbflhllojpgkaa.matWrong

namespace Go.Proofs.Ytkbflhllojpgkaa
theorem matWrong_holds : Rows.MatWrongSaid := matWrong.over
end Go.Proofs.Ytkbflhllojpgkaa
