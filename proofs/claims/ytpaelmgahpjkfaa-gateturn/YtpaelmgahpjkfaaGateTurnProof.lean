/- Rows twice as long as others by noughts choose as these do: GateTurn returns true for every rows and v. No conditions. -/
import Derived.Test.YtpaelmgahpjkfaaRows
import Derived.Test.YtpaelmgahpjkfaaGateB
import Derived.Test.YtpaelmgahpjkfaaZeros
import Derived.WalkKit
import Derived.ProofKit
import Derived.OpenShut
import Derived.ShutString
import Derived.ChangeOld
import Derived.Below
namespace Go.Proofs.Ytpaelmgahpjkfaa.gateTurn
open Go.ChangeShapes Go.WideShapes Go.ChangeAt Go.RowKit
open Go.ChangeMaps (open_string shut_string)
set_option linter.unusedVariables false

theorem own : ownKnob Try.prog.godebug = none := by kernel_rfl
theorem laidOut : laidOutB Try.prog = true := by kernel_rfl

/- The walk: the call returns true, and nothing that was there is written. -/
set_option maxHeartbeats 4000000 in
set_option maxRecDepth 100000 in
theorem walk (a0 : Option Addr) (len0 cap0 : Nat) (m0 : List (List Int)) (a1 : Option Addr) (len1 cap1 : Nat) (m1 : List Int) (w : World) (w0 : (sliceS (sliceS (intS .i64))).rep w everywhere [.slice a0 len0 cap0] m0) (f0 : (∀ x0 ∈ m0, (∀ x1 ∈ x0, (Lit.int .i64 x1).wf = true))) (w1 : (sliceS (intS .i64)).rep w everywhere [.slice a1 len1 cap1] m1) (f1 : (∀ x0 ∈ m1, (Lit.int .i64 x0).wf = true)) :
    Calls Try.prog 5 #[.slice a0 len0 cap0, .slice a1 len1 cap1] w fun e w' => e = .returned (.bool true) ∧ Below w.heap.size w w' := by
  have hv := Row.of_rep w1
  have hl0 := (sliceS_len w0).1
  have hl1 := (sliceS_len w1).1
  have hA := Shape.low w0
  have hR := Shape.low w1
  clear w1 f0 f1
  obtain ⟨p, q, r, t, b, hI⟩ := Gx.there m0 m1
  have HI : Hid (Gx.Is m0 m1 p q r t b) := hI
  have HW : Hid (Gx.Is (Gx.wide m0 len1) (m1 ++ m1) p q r t b) := by
    have := hI.wide
    rw [hl1] at this
    exact this
  have HL : Hid (m0.length = len0) := hl0
  have HL1 : Hid (m1.length = len1) := hl1
  clear hI hl0 hl1
  have e1 := eqChoice p q r t
  have e2 := eqChoiceIn p q r t
  obtain ⟨i0, hi0, hz0, hz1, hz2⟩ := info_parts Try.infoInt
  obtain ⟨j0, hj0, hy0, hy1, hy2⟩ := info_parts Try.infoRow
  go_enter Try.func5, Try.ntmps5
  go_wp2_with fail
  refine by_says (small a0 len0 cap0 m0 everywhere w w0) (fun hs => ?_) (fun _ => ?_)
  case refine_2 =>
    go_wp2_with fail
    refine (gawake _).mono ?_
    rintro e u1 ⟨rfl, hb1⟩
    go_wp2
    go_ret
    exact ⟨rfl, hb1⟩
  have hn0 : len0 ≤ 1000 := by have := hs.1; have := HL.out; omega
  clear hs
  by_cases hl : 15 < len1
  · have hi : (15 : Int) < (len1 : Int) := by omega
    go_wp2_with fail
    refine (gawake _).mono ?_
    rintro e u1 ⟨rfl, hb1⟩
    go_wp2
    go_ret
    exact ⟨rfl, hb1⟩
  have hi : ¬ (15 : Int) < (len1 : Int) := by omega
  go_wp2_with fail
  refine (choose a0 a1 len0 cap0 len1 cap1 m0 m1 everywhere p q r t b w w0 hv hn0 (by omega) HI.out).mono ?_
  rintro e u1 ⟨rfl, hb1⟩
  have hB1 := bel_alloc hb1 (.cells #[.int .i64 p, .int .i64 q, .int .i64 r, .int .i64 t] 27)
  have k1 := Box.new u1 27 #[.int .i64 p, .int .i64 q, .int .i64 r, .int .i64 t]
  clear hv w0 hb1
  go_upto_region 4 with fail
  generalize u1.alloc (.cells #[.int .i64 p, .int .i64 q, .int .i64 r, .int .i64 t] 27) = u2 at *
  go_wp2
  go_loopw [7, 9, 29] (fun v _ i wr => ∃ k : Nat, k ≤ len0 ∧ i = .int .i64 k ∧ Own rowS wr u2.heap.size 23 v (Gx.wide (m0.take k) len1) ∧ Below u2.heap.size u2 wr) (fun _ _ i _ => len0 - (intOf i).toNat)
  case atStart => exact ⟨0, Nat.zero_le _, rfl, by simpa [Gx.wide] using Own.nil rowS u2 u2.heap.size 23, Below.refl _ _⟩
  case round =>
    obtain ⟨k, hk, rfl, hown, hbel⟩ := hrel
    have hBw := bel_then hB1 hbel
    by_cases hlt : k < len0
    · have hli : (k : Int) < (len0 : Int) := by omega
      have hA1 := Shape.now hA hBw
      obtain ⟨b1, o1, A, C, rfl, hb1, hcell, hr⟩ := mat_at hA1 hlt
      have HU : Hid (Gx.wide (m0.take (k + 1)) len1 = Gx.wide (m0.take k) len1 ++ [m0.getD k [] ++ List.replicate len1 0]) := Gx.wide_succ m0 len1 k (by have := HL.out; omega)
      have HUL : Hid ((Gx.wide (m0.take k) len1).length = k) := by
        show _ = _
        rw [Gx.wide_length, List.length_take]
        have := HL.out
        omega
      generalize m0.getD k [] = row at *
      by_cases hl15 : 15 < row.length
      · have hi15 : (15 : Int) < (row.length : Int) := by omega
        go_wp2_with fail
        refine (gawake _).mono ?_
        rintro e u4 ⟨rfl, hb4⟩
        go_wp2
        go_ret
        exact ⟨rfl, bel_then hBw hb4⟩
      have hi15 : ¬ (15 : Int) < (row.length : Int) := by omega
      have hnw := new_bel wr (.cells #[] 3)
      have hsz := hBw.size
      have hOE := Own.empty (intS .i64) wr 3
      have hAp := Own.apart hOE hsz
      have hS1 := Shape.below hr hnw
      have hbs : wr.heap.size ≤ (wr.alloc (.cells #[] 3)).heap.size := hnw.size
      have hlen1 : ([] : List Int).length + row.length ≤ 100000 := by simp; omega
      have hlen2 : row.length + len1 ≤ 100000 := by omega
      have HS4 : Hid (∀ W4, Below wr.heap.size (wr.alloc (.cells #[] 3)) W4 → wr.heap.size ≤ W4.heap.size) := fun W4 h => Nat.le_trans hbs h.size
      have HN : Hid (∀ W5, Below wr.heap.size wr W5 → ∀ b, ((wr.heap.size ≤ b ∧ b < W5.heap.size) ∨ b = W5.heap.size) → some b ≠ u7.ownBlock) := fun W5 h b hb hc => by
        have := (hown.lt b hc.symm).2
        have := h.size
        omega
      have HB5 : Hid (Below u2.heap.size u2 wr) := hbel
      have HO : Hid (Own rowS wr u2.heap.size 23 u7 (Gx.wide (m0.take k) len1)) := hown
      clear hr hA1 hown hbel
      go_wp2_with (first
        | (at_builtin; refine wpList_app (intS .i64) (by simp [Region.wanted]) (.tmp 38) (.tmp 39) 23 rfl wr.heap.size 3 i0 (.int .i64 0) 8 Try.underlying23 hi0 hz0 hz1 hz2 rfl Nat.one_pos (by omega) (by rfl) hOE (by rfl) hS1 hAp hlen1 hbs ?_; intro a4 c4 W4 ho4 hg4 hb4 hat4; simp only [List.length_nil, Nat.zero_add, List.nil_append] at ho4 ⊢; have hs4 := HS4.out W4 hb4)
        | (at_builtin; refine wpList_zeros rfl (.tmp 40) (.tmp 42) 23 3 rfl wr.heap.size 3 i0 .i64 .i64 Try.underlying23 Try.underlying3 hi0 hz0 hz1 hz2 (by rfl) ho4 (by rfl) hlen2 hs4 ?_; intro a5 c5 W5 ho5 hg5 hb5 hat5; have hB5 := (hnw.trans hb4).trans hb5; have hsrc := rep_one (e := 23) (Own.high ho5); have hnn := HN.out W5 hB5; have hB6 := bel_alloc hB5 (.cells #[.slice a5 (row.length + len1) c5] 23); have ho6 := HO.out.keep hB6; have hB7 := bel_then HB5.out hB6; have hs7 := hB7.size)
        | (at_builtin; refine wpList_app rowS (by simp [Region.wanted]) (.tmp 37) (.tmp 44) 22 rfl u2.heap.size 23 j0 (.slice none 0 0) 24 Try.underlying22 hj0 hy0 hy1 hy2 rfl Nat.one_pos (by omega) (by rfl) ho6 (by rfl) hsrc hnn (by have := HUL.out; omega) hs7 ?_; intro a8 c8 W8 ho8 hg8 hb8 hat8)
        | fail)
      rw [← HU.out] at ho8
      have hB8 : Below u2.heap.size u2 W8 := hB7.trans hb8
      go_roundw
      case rel => exact ⟨k + 1, by omega, by go_num, ho8, hB8⟩
      case measure => simp [intOf]; omega
    · have hkn : k = len0 := by omega
      subst hkn
      have hli : ¬ (k : Int) < (k : Int) := by omega
      have hfull : m0.take k = m0 := List.take_of_length_le (by have := HL.out; omega)
      rw [hfull] at hown
      obtain ⟨aw, cw, hve, hmw⟩ := hown.rep
      rw [Gx.wide_length, HL.out] at hve hmw
      subst hve
      have hR1 := Shape.now hR hBw
      have k2 := k1.keep hbel
      have hnw := new_bel wr (.cells #[] 3)
      have hsz := hBw.size
      have hOE := Own.empty (intS .i64) wr 3
      have hAp := Own.apart hOE hsz
      have hS1 := Shape.below hR1 hnw
      have hbs : wr.heap.size ≤ (wr.alloc (.cells #[] 3)).heap.size := hnw.size
      have hlen1 : ([] : List Int).length + len1 ≤ 100000 := by simp; omega
      have hlen2 : m1.length + len1 ≤ 100000 := by have := HL1.out; omega
      have HS4 : Hid (∀ W4, Below wr.heap.size (wr.alloc (.cells #[] 3)) W4 → wr.heap.size ≤ W4.heap.size) := fun W4 h => Nat.le_trans hbs h.size
      have HR1 : Hid ((sliceS (intS .i64)).rep wr (· < w.heap.size) [.slice a1 len1 cap1] m1) := hR1
      have HL2 : Hid ((m1 ++ m1).length = len1 + len1) := by show _ = _; rw [List.length_append, HL1.out]
      have HX : Hid (m1.length + len1 = len1 + len1) := by show _ = _; rw [HL1.out]
      clear hR1 hown hfull hA hR
      go_wp2_with (first
        | (at_builtin; refine wpList_app (intS .i64) (by simp [Region.wanted]) (.tmp 49) (.tmp 50) 23 rfl wr.heap.size 3 i0 (.int .i64 0) 8 Try.underlying23 hi0 hz0 hz1 hz2 rfl Nat.one_pos (by omega) (by rfl) hOE (by rfl) hS1 hAp hlen1 hbs ?_; intro a4 c4 W4 ho4 hg4 hb4 hat4; simp only [List.length_nil, Nat.zero_add, List.nil_append] at ho4 ⊢; have hs4 := HS4.out W4 hb4; have hB4 := hnw.trans hb4; have hS4 := Shape.below HR1.out hB4; have hAp4 := Own.apart ho4 hsz)
        | (at_builtin; refine wpList_app (intS .i64) (by simp [Region.wanted]) (.tmp 51) (.tmp 52) 23 rfl wr.heap.size 3 i0 (.int .i64 0) 8 Try.underlying23 hi0 hz0 hz1 hz2 rfl Nat.one_pos (by omega) (by rfl) ho4 (by rfl) hS4 hAp4 hlen2 hs4 ?_; intro a5 c5 W5 ho5 hg5 hb5 hat5; rw [HX.out] at ho5 ⊢)
        | fail)
      have hB5 : Below wr.heap.size wr W5 := hB4.trans hb5
      refine (choose aw a5 k cw (len1 + len1) c5 (Gx.wide m0 len1) (m1 ++ m1) everywhere p q r t b W5 (Shape.below hmw hB5) (Row.of_rep ho5.is) hn0 (by omega) HW.out).mono ?_
      rintro e u5 ⟨rfl, hb6⟩
      have k5 := ((k2.keep hB5).keep hb6).keep (new_bel u5 (.cells #[.int .i64 p, .int .i64 q, .int .i64 r, .int .i64 t] 27))
      have l5 := Box.new u5 27 #[.int .i64 p, .int .i64 q, .int .i64 r, .int .i64 t]
      have hB6 := bel_alloc (bel_then (bel_then hBw hB5) hb6) (.cells #[.int .i64 p, .int .i64 q, .int .i64 r, .int .i64 t] 27)
      have c0 := k5.cell 0 rfl; have c1 := k5.cell 1 rfl; have c2 := k5.cell 2 rfl; have c3 := k5.cell 3 rfl
      have d0 := l5.cell 0 rfl; have d1 := l5.cell 1 rfl; have d2 := l5.cell 2 rfl; have d3 := l5.cell 3 rfl
      clear k2 hmw hB4 hb5 hb4 ho4 ho5 hg4 hg5 hat4 hat5 hS1 hAp hOE hnw hS4 hAp4 hB5 hb6 HW HI HR1 HL2 HX hs4 HS4
      go_wp2_with fail
      refine (gawake _).mono ?_
      rintro e u6 ⟨rfl, hb7⟩
      go_wp2
      go_ret
      exact ⟨rfl, bel_then hB6 hb7⟩

/- From the walk to the row. -/
set_option maxRecDepth 100000 in
theorem lifted (os : Os) (started : os.Started) (H : Type) (enc : TypeId × Value → H) :
    ReturnsInHanded {} Try.checked os 5 .any (Rows.gateTurnSpec.pre6 enc Try.prog Try.f5 Rows.gateTurnRow.domain false) (Rows.gateTurnSpec.post enc Try.prog Try.f5 false true false false) := by
  refine returnsInHanded_of_change (C := Try.checked) own started (by kernel_rfl) Try.func5
    (ChangeSpec.witness6 (enc := enc) (C := Try.checked) false ⟨#[], #[.slice none 0 0, .slice none 0 0], []⟩ 8 (by kernel_rfl) (by kernel_rfl) (by kernel_rfl) (by kernel_rfl)) ?_
  intro W base args ds gs before hval0 hW hcnd _
  have hval : ∀ (j : Nat) t v, Try.f5.params[j]? = some t → args[j]? = some v → Value.okWide Try.prog W .any base t v := hval0
  have hW' := hW
  obtain ⟨p, q, hA0, hV, rfl, hfz, hnd⟩ := hW
  have hA : DataW.TrodAll enc Try.prog W 0 (fun _ => true) true Try.f5.params.toList args.toList ds p := hA0
  rw [Try.params5] at hA hval
  obtain ⟨v0, vs0, d0, ds0, p0, q0, hargs, rfl, rfl, h0, r0⟩ := trodAll_cons hA
  obtain ⟨v1, vs1, d1, ds1, p1, q1, rfl, rfl, rfl, h1, r1⟩ := trodAll_cons r0
  obtain ⟨rfl, rfl, rfl⟩ := trodAll_nil r1
  obtain rfl : args = #[v0, v1] := by cases args; simp_all
  obtain ⟨rfl, rfl⟩ := trodVars_none hV
  obtain ⟨a0, len0, cap0, rfl⟩ := okWide_slice Try.underlying22 (hval 0 22 v0 rfl rfl)
  have k0 := h0
  have lt0 : ∀ x ∈ p0, x.block < W.heap.size := by obtain ⟨m, hm⟩ := k0; exact DataW.trod_lt m _ _ _ hm
  obtain ⟨m0, w0, f0⟩ : ∃ y, (sliceS (sliceS (intS .i64))).rep W everywhere [.slice a0 len0 cap0] y ∧ (∀ x0 ∈ y, (∀ x1 ∈ x0, (Lit.int .i64 x1).wf = true)) := by
    obtain ⟨fuel, hf⟩ := h0
    exact (opens_slice (A := (sliceS (intS .i64))) Try.underlying22 (show Try.prog.cellsOf 23 = 1 by kernel_rfl) (by exact Nat.succ_pos _) (opens_slice (A := (intS .i64)) Try.underlying23 (show Try.prog.cellsOf 3 = 1 by kernel_rfl) (by exact Nat.succ_pos _) (opens_int Try.underlying3))) H enc W _ _ _ fuel _ _ hf
  obtain ⟨a1, len1, cap1, rfl⟩ := okWide_slice Try.underlying23 (hval 1 23 v1 rfl rfl)
  have k1 := h1
  have lt1 : ∀ x ∈ p1, x.block < W.heap.size := by obtain ⟨m, hm⟩ := k1; exact DataW.trod_lt m _ _ _ hm
  obtain ⟨m1, w1, f1⟩ : ∃ y, (sliceS (intS .i64)).rep W everywhere [.slice a1 len1 cap1] y ∧ (∀ x0 ∈ y, (Lit.int .i64 x0).wf = true) := by
    obtain ⟨fuel, hf⟩ := h1
    exact (opens_slice (A := (intS .i64)) Try.underlying23 (show Try.prog.cellsOf 3 = 1 by kernel_rfl) (by exact Nat.succ_pos _) (opens_int Try.underlying3)) H enc W _ _ _ fuel _ _ hf
  clear hA0 hval0
  refine (walk a0 len0 cap0 m0 a1 len1 cap1 m1 W w0 f0 w1 f1).mono fun e W' ⟨he, bel⟩ => ?_
  subst he
  exact ⟨_, rfl, _, _, _, [], _, [], hW', trodAll_mk1 (shut_bool Try.underlying4 _), (trodAll_cons_mk (Below.trod laidOut (by kernel_rfl) (of_decide_eq_true (by kernel_rfl)) k0 bel lt0) (trodAll_cons_mk (Below.trod laidOut (by kernel_rfl) (of_decide_eq_true (by kernel_rfl)) k1 bel lt1) trodAll_mk0)), rfl, bel.frame _, fun h => by cases h⟩

theorem over : Rows.gateTurnRow.holds Try.pinned (OpenSpec.ofChange Rows.gateTurnSpec) :=
  OpenClaim.holds_of_wide 5 Try.f5 rfl rfl rfl rfl rfl rfl rfl ⟨rfl, rfl, rfl, rfl, rfl⟩ rfl rfl rfl rfl rfl (by kernel_rfl) Try.func5 (by kernel_rfl)
    (of_decide_eq_true (by kernel_rfl)) (by unfold Func.isWrapper; first | (rw [if_pos (by decide +kernel)]; kernel_rfl) | (rw [if_neg (by decide +kernel)]; exact ⟨rfl, rfl⟩))
    (fun os started H enc _ => lifted os started H enc)

end Go.Proofs.Ytpaelmgahpjkfaa.gateTurn

namespace Go.Proofs.Ytpaelmgahpjkfaa
theorem gateTurn_holds : Rows.GateTurnSaid := gateTurn.over
end Go.Proofs.Ytpaelmgahpjkfaa
