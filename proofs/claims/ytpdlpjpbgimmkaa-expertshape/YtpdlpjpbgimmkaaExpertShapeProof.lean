/- For every expert and token switchboardlaw11.ExpertShape returns true: a right one makes as many numbers as it is given, each held, and is right for no other number of them. -/
import Derived.Test.YtpdlpjpbgimmkaaRows
import Derived.Test.YtpdlpjpbgimmkaaExpB
import Derived.WalkKit
import Derived.ProofKit
import Derived.OpenShut
import Derived.ShutString
import Derived.ChangeOld
import Derived.Below
namespace Go.Proofs.Ytpdlpjpbgimmkaa.expertShape
open Go.ChangeShapes Go.WideShapes Go.ChangeAt Go.RowKit
open Go.ChangeMaps (open_string shut_string)
set_option linter.unusedVariables false

theorem own : ownKnob Try.prog.godebug = none := by kernel_rfl
theorem laidOut : laidOutB Try.prog = true := by kernel_rfl

/- The walk: the call returns true, and nothing that was there is written. -/
set_option maxHeartbeats 4000000 in
theorem walk (a0_0 : Option Addr) (len0_0 cap0_0 : Nat) (m0_0 : List (List Int)) (a0_1 : Option Addr) (len0_1 cap0_1 : Nat) (m0_1 : List (List Int)) (a1 : Option Addr) (len1 cap1 : Nat) (m1 : List Int) (w : World) (w0_0 : (sliceS (sliceS (intS .i64))).rep w everywhere [.slice a0_0 len0_0 cap0_0] m0_0) (f0_0 : (∀ x0 ∈ m0_0, (∀ x1 ∈ x0, (Lit.int .i64 x1).wf = true))) (w0_1 : (sliceS (sliceS (intS .i64))).rep w everywhere [.slice a0_1 len0_1 cap0_1] m0_1) (f0_1 : (∀ x0 ∈ m0_1, (∀ x1 ∈ x0, (Lit.int .i64 x1).wf = true))) (w1 : (sliceS (intS .i64)).rep w everywhere [.slice a1 len1 cap1] m1) (f1 : (∀ x0 ∈ m1, (Lit.int .i64 x0).wf = true)) :
    Calls Try.prog 6 #[.agg #[.slice a0_0 len0_0 cap0_0, .slice a0_1 len0_1 cap0_1], .slice a1 len1 cap1] w fun e w' => e = .returned (.bool true) ∧ Below w.heap.size w w' := by
  have hX : Exp w a0_0 len0_0 cap0_0 a0_1 len0_1 cap0_1 m0_0 m0_1 := ⟨w0_0, w0_1⟩
  have hv := Row.of_rep w1
  clear w0_0 w0_1 w1 f0_0 f0_1 f1
  have hB := new_bel w (.cells #[.slice a0_0 len0_0 cap0_0, .slice a0_1 len0_1 cap0_1] 24)
  have q := Box.new w 24 #[.slice a0_0 len0_0 cap0_0, .slice a0_1 len0_1 cap0_1]
  have hX0 := hX.below hB
  have hv0 := hv.keep hB
  clear hX hv
  by_cases hs0 : Mx.Small m0_0
  case neg =>
    have HS : Hid (¬ Mx.Small m0_0) := hs0
    clear hs0
    go_enter Try.func6, Try.ntmps6
    go_wp2_with fail
    refine by_says (small _ _ _ m0_0 everywhere _ hX0.i) (fun h => absurd h HS.out) (fun _ => ?_)
    go_wp2_with (go_at_call 8; refine (xawake _).mono ?_; rintro e u1 ⟨rfl, hb1⟩)
    go_ret
    exact ⟨rfl, bel_then hB hb1⟩
  by_cases hs1 : Mx.Small m0_1
  case neg =>
    have HS : Hid (¬ Mx.Small m0_1) := hs1
    have HS0 : Hid (Mx.Small m0_0) := hs0
    clear hs0 hs1
    go_enter Try.func6, Try.ntmps6
    go_wp2_with fail
    refine by_says (small _ _ _ m0_0 everywhere _ hX0.i) (fun _ => ?_) (fun h => absurd HS0.out h)
    go_wp2_with fail
    refine by_says (small _ _ _ m0_1 everywhere _ hX0.o) (fun h => absurd h HS.out) (fun _ => ?_)
    go_wp2_with (go_at_call 8; refine (xawake _).mono ?_; rintro e u1 ⟨rfl, hb1⟩)
    go_ret
    exact ⟨rfl, bel_then hB hb1⟩
  have HS0 : Hid (Mx.Small m0_0) := hs0
  have HS1 : Hid (Mx.Small m0_1) := hs1
  have HI : Hid (Ex.Sized m0_0) := Ex.small_sized hs0
  have HO : Hid (Ex.Sized m0_1) := Ex.small_sized hs1
  clear hs0 hs1
  by_cases hl : 30 < len1
  · have hi : (30 : Int) < (len1 : Int) := by omega
    go_enter Try.func6, Try.ntmps6
    go_wp2_with fail
    refine by_says (small _ _ _ m0_0 everywhere _ hX0.i) (fun _ => ?_) (fun h => absurd HS0.out h)
    go_wp2_with fail
    refine by_says (small _ _ _ m0_1 everywhere _ hX0.o) (fun _ => ?_) (fun h => absurd HS1.out h)
    go_wp2_with (go_at_call 8; refine (xawake _).mono ?_; rintro e u1 ⟨rfl, hb1⟩)
    go_ret
    exact ⟨rfl, bel_then hB hb1⟩
  have hi : ¬ (30 : Int) < (len1 : Int) := by omega
  have hn : len1 ≤ 100000 := by omega
  by_cases hR : Ex.Right m0_0 m0_1 len1
  · have HR : Hid (Ex.Right m0_0 m0_1 len1) := hR
    have HU : Hid (tell (Ex.Right m0_0 m0_1 ((len1 : Int) + 1)) = false) := tell_no (hR.other (by omega))
    have HD : Hid (tell (Ex.Right m0_0 m0_1 ((len1 : Int) - 1)) = false) := tell_no (hR.other (by omega))
    have HH : Hid (∀ x ∈ Ex.run m0_0 m0_1 m1, x ≤ 2147483647 ∧ -2147483647 ≤ x) := Ex.run_held m0_0 m0_1 m1
    have HL : Hid ((Ex.run m0_0 m0_1 m1).length = len1) := Ex.run_length m1 hR
    clear hR
    go_enter Try.func6, Try.ntmps6
    go_wp2_with fail
    refine by_says (small _ _ _ m0_0 everywhere _ hX0.i) (fun _ => ?_) (fun h => absurd HS0.out h)
    go_wp2_with fail
    refine by_says (small _ _ _ m0_1 everywhere _ hX0.o) (fun _ => ?_) (fun h => absurd HS1.out h)
    go_wp2_with fail
    refine (xrun _ _ _ _ _ _ _ _ _ _ _ _ _ hX0 HI.out HO.out hv0 hn).mono ?_
    rintro e u1 ⟨hg, hb1⟩
    obtain ⟨x1, c1, rfl, hr1⟩ := hg.yes HR.out
    have hr2 := Row.of_rep hr1
    generalize Ex.run m0_0 m0_1 m1 = l at *
    have q1 := q.keep hb1
    have hX1 := hX0.below hb1
    have hB1 := bel_then hB hb1
    clear hg q hX0 hv0 hB hb1 hr1
    go_wp2
    go_loopw [8, 48] (fun _ i wr => ∃ k : Nat, k ≤ len1 ∧ i = .int .i64 k ∧ wr = u1) (fun _ i _ => len1 - (intOf i).toNat)
    case atStart => exact ⟨0, Nat.zero_le _, rfl, rfl⟩
    case round =>
      obtain ⟨k, hk, rfl, hww⟩ := hrel
      replace hww := hww.symm
      subst hww
      by_cases hlt : k < len1
      · obtain ⟨b1, o1, rfl, hb1, hcell⟩ := hr2.at hlt
        have hli : (k : Int) < (len1 : Int) := by omega
        have hx := HH.out _ (Mx.num_mem l k (by rw [HL.out]; exact hlt))
        generalize l.getD k 0 = x at *
        obtain ⟨hx1, hx2⟩ := hx
        go_wp2
        go_roundw
        case rel => exact ⟨k + 1, by omega, by go_num, by trivial⟩
        case measure => simp [intOf]; omega
      · have hli : ¬ (k : Int) < (len1 : Int) := by omega
        have p0 := q1.cell 0 rfl
        have p1 := q1.cell 1 rfl
        have e1 : ((len1 : Int) == (len1 : Int)) = true := by simp
        go_wp2_with fail
        refine (xright_tell _ _ _ _ _ _ _ _ ((len1 : Int) + 1) _ hX1 HI.out HO.out false HU.out).mono ?_
        rintro e u3 ⟨rfl, hb3⟩
        have q3 := q1.keep hb3
        have hX3 := hX1.below hb3
        have hB3 := bel_then hB1 hb3
        clear p0 p1
        have p0 := q3.cell 0 rfl
        have p1 := q3.cell 1 rfl
        go_wp2_with fail
        refine (xright_tell _ _ _ _ _ _ _ _ ((len1 : Int) - 1) _ hX3 HI.out HO.out false HD.out).mono ?_
        rintro e u4 ⟨rfl, hb4⟩
        have hB4 := bel_then hB3 hb4
        go_wp2_with (go_at_call 8; refine (xawake _).mono ?_; rintro e u6 ⟨rfl, hb6⟩)
        go_ret
        exact ⟨rfl, bel_then hB4 hb6⟩
  · have HR : Hid (¬ Ex.Right m0_0 m0_1 len1) := hR
    clear hR
    go_enter Try.func6, Try.ntmps6
    go_wp2_with fail
    refine by_says (small _ _ _ m0_0 everywhere _ hX0.i) (fun _ => ?_) (fun h => absurd HS0.out h)
    go_wp2_with fail
    refine by_says (small _ _ _ m0_1 everywhere _ hX0.o) (fun _ => ?_) (fun h => absurd HS1.out h)
    go_wp2_with fail
    refine (xrun _ _ _ _ _ _ _ _ _ _ _ _ _ hX0 HI.out HO.out hv0 hn).mono ?_
    rintro e u1 ⟨hg, hb1⟩
    obtain rfl := hg.no HR.out
    have q1 := q.keep hb1
    have hX1 := hX0.below hb1
    have hB1 := bel_then hB hb1
    clear hg q hX0 hv0 hB hb1
    have p0 := q1.cell 0 rfl
    have p1 := q1.cell 1 rfl
    go_wp2_with fail
    refine (xright_tell _ _ _ _ _ _ _ _ len1 u1 hX1 HI.out HO.out false (tell_no HR.out)).mono ?_
    rintro e u3 ⟨rfl, hb3⟩
    have hB3 := bel_then hB1 hb3
    clear p0 p1
    go_wp2_with (go_at_call 8; refine (xawake _).mono ?_; rintro e u6 ⟨rfl, hb6⟩)
    go_ret
    exact ⟨rfl, bel_then hB3 hb6⟩

/- From the walk to the row. -/
set_option maxRecDepth 100000 in
theorem lifted (os : Os) (started : os.Started) (H : Type) (enc : TypeId × Value → H) :
    ReturnsInHanded {} Try.checked os 6 .any (Rows.expertShapeSpec.pre6 enc Try.prog Try.f6 Rows.expertShapeRow.domain false) (Rows.expertShapeSpec.post enc Try.prog Try.f6 false true false false) := by
  refine returnsInHanded_of_change (C := Try.checked) own started (by kernel_rfl) Try.func6
    (ChangeSpec.witness6 (enc := enc) (C := Try.checked) false ⟨#[], #[.agg #[.slice none 0 0, .slice none 0 0], .slice none 0 0], []⟩ 8 (by kernel_rfl) (by kernel_rfl) (by kernel_rfl) (by kernel_rfl)) ?_
  intro W base args ds gs before hval0 hW hcnd _
  have hval : ∀ (j : Nat) t v, Try.f6.params[j]? = some t → args[j]? = some v → Value.okWide Try.prog W .any base t v := hval0
  have hW' := hW
  obtain ⟨p, q, hA0, hV, rfl, hfz, hnd⟩ := hW
  have hA : DataW.TrodAll enc Try.prog W 0 (fun _ => true) true Try.f6.params.toList args.toList ds p := hA0
  rw [Try.params6] at hA hval
  obtain ⟨v0, vs0, d0, ds0, p0, q0, hargs, rfl, rfl, h0, r0⟩ := trodAll_cons hA
  obtain ⟨v1, vs1, d1, ds1, p1, q1, rfl, rfl, rfl, h1, r1⟩ := trodAll_cons r0
  obtain ⟨rfl, rfl, rfl⟩ := trodAll_nil r1
  obtain rfl : args = #[v0, v1] := by cases args; simp_all
  obtain ⟨rfl, rfl⟩ := trodVars_none hV
  obtain ⟨cs0, rfl⟩ := okWide_agg Try.underlying24 (hval 0 24 v0 rfl rfl)
  have k0 := h0
  have lt0 : ∀ x ∈ p0, x.block < W.heap.size := by obtain ⟨m, hm⟩ := k0; exact DataW.trod_lt m _ _ _ hm
  obtain ⟨y0, hy0, hw0⟩ : ∃ y, (consS (sliceS (sliceS (intS .i64))) (consS (sliceS (sliceS (intS .i64))) noneS)).rep W everywhere cs0 y ∧ ((∀ x0 ∈ y.1, (∀ x1 ∈ x0, (Lit.int .i64 x1).wf = true)) ∧ ((∀ x0 ∈ y.2.1, (∀ x1 ∈ x0, (Lit.int .i64 x1).wf = true)) ∧ True)) := by
    obtain ⟨fuel, hf⟩ := h0
    exact (opens_struct Try.underlying24 (show Try.prog.cellsOf 24 = 2 by kernel_rfl) (opensAt_cons (A := (sliceS (sliceS (intS .i64)))) rfl (show Try.prog.cellsOf 22 = 1 by kernel_rfl) (opens_slice (A := (sliceS (intS .i64))) Try.underlying22 (show Try.prog.cellsOf 25 = 1 by kernel_rfl) (by exact Nat.succ_pos _) (opens_slice (A := (intS .i64)) Try.underlying25 (show Try.prog.cellsOf 3 = 1 by kernel_rfl) (by exact Nat.succ_pos _) (opens_int Try.underlying3))) (opensAt_cons (A := (sliceS (sliceS (intS .i64)))) rfl (show Try.prog.cellsOf 22 = 1 by kernel_rfl) (opens_slice (A := (sliceS (intS .i64))) Try.underlying22 (show Try.prog.cellsOf 25 = 1 by kernel_rfl) (by exact Nat.succ_pos _) (opens_slice (A := (intS .i64)) Try.underlying25 (show Try.prog.cellsOf 3 = 1 by kernel_rfl) (by exact Nat.succ_pos _) (opens_int Try.underlying3))) opensAt_nil (by rfl)) (by rfl))) H enc W _ _ _ fuel _ _ (by simpa [Value.cells] using hf)
  obtain ⟨m0_0, m0_1, _⟩ := y0
  obtain ⟨a0_0, len0_0, cap0_0, d0_0, rfl, w0_0, hy0_0⟩ := consS_slice hy0
  obtain ⟨a0_1, len0_1, cap0_1, d0_1, rfl, w0_1, hy0_1⟩ := consS_slice hy0_0
  obtain rfl := noneS_nil hy0_1
  obtain ⟨f0_0, f0_1, _⟩ := hw0
  obtain ⟨a1, len1, cap1, rfl⟩ := okWide_slice Try.underlying25 (hval 1 25 v1 rfl rfl)
  have k1 := h1
  have lt1 : ∀ x ∈ p1, x.block < W.heap.size := by obtain ⟨m, hm⟩ := k1; exact DataW.trod_lt m _ _ _ hm
  obtain ⟨m1, w1, f1⟩ : ∃ y, (sliceS (intS .i64)).rep W everywhere [.slice a1 len1 cap1] y ∧ (∀ x0 ∈ y, (Lit.int .i64 x0).wf = true) := by
    obtain ⟨fuel, hf⟩ := h1
    exact (opens_slice (A := (intS .i64)) Try.underlying25 (show Try.prog.cellsOf 3 = 1 by kernel_rfl) (by exact Nat.succ_pos _) (opens_int Try.underlying3)) H enc W _ _ _ fuel _ _ hf
  clear hA0 hval0
  refine (walk a0_0 len0_0 cap0_0 m0_0 a0_1 len0_1 cap0_1 m0_1 a1 len1 cap1 m1 W w0_0 f0_0 w0_1 f0_1 w1 f1).mono fun e W' ⟨he, bel⟩ => ?_
  subst he
  exact ⟨_, rfl, _, _, _, [], _, [], hW', trodAll_mk1 (shut_bool Try.underlying4 _), (trodAll_cons_mk (Below.trod laidOut (by kernel_rfl) (of_decide_eq_true (by kernel_rfl)) k0 bel lt0) (trodAll_cons_mk (Below.trod laidOut (by kernel_rfl) (of_decide_eq_true (by kernel_rfl)) k1 bel lt1) trodAll_mk0)), rfl, bel.frame _, fun h => by cases h⟩

theorem over : Rows.expertShapeRow.holds Try.pinned (OpenSpec.ofChange Rows.expertShapeSpec) :=
  OpenClaim.holds_of_wide 6 Try.f6 rfl rfl rfl rfl rfl rfl rfl ⟨rfl, rfl, rfl, rfl, rfl⟩ rfl rfl rfl rfl rfl (by kernel_rfl) Try.func6 (by kernel_rfl)
    (of_decide_eq_true (by kernel_rfl)) (by unfold Func.isWrapper; first | (rw [if_pos (by decide +kernel)]; kernel_rfl) | (rw [if_neg (by decide +kernel)]; exact ⟨rfl, rfl⟩))
    (fun os started H enc _ => lifted os started H enc)

end Go.Proofs.Ytpdlpjpbgimmkaa.expertShape

namespace Go.Proofs.Ytpdlpjpbgimmkaa
theorem expertShape_holds : Rows.ExpertShapeSaid := expertShape.over
end Go.Proofs.Ytpdlpjpbgimmkaa
