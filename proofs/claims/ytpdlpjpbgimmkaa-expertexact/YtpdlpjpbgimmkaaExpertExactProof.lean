/- For every expert, token and number switchboardlaw11.ExpertExact returns true: whether an expert is right, and what it makes of a token, is what the document says. -/
import Derived.Test.YtpdlpjpbgimmkaaRows
import Derived.Test.YtpdlpjpbgimmkaaExpB
import Derived.WalkKit
import Derived.ProofKit
import Derived.OpenShut
import Derived.ShutString
import Derived.ChangeOld
import Derived.Below
namespace Go.Proofs.Ytpdlpjpbgimmkaa.expertExact
open Go.ChangeShapes Go.WideShapes Go.ChangeAt Go.RowKit
open Go.ChangeMaps (open_string shut_string)
set_option linter.unusedVariables false

theorem own : ownKnob Try.prog.godebug = none := by kernel_rfl
theorem laidOut : laidOutB Try.prog = true := by kernel_rfl

/- The walk: the call returns true, and nothing that was there is written. -/
set_option maxHeartbeats 4000000 in
theorem walk (a0_0 : Option Addr) (len0_0 cap0_0 : Nat) (m0_0 : List (List Int)) (a0_1 : Option Addr) (len0_1 cap0_1 : Nat) (m0_1 : List (List Int)) (a1 : Option Addr) (len1 cap1 : Nat) (m1 : List Int) (a2 : Int) (w : World) (w0_0 : (sliceS (sliceS (intS .i64))).rep w everywhere [.slice a0_0 len0_0 cap0_0] m0_0) (f0_0 : (∀ x0 ∈ m0_0, (∀ x1 ∈ x0, (Lit.int .i64 x1).wf = true))) (w0_1 : (sliceS (sliceS (intS .i64))).rep w everywhere [.slice a0_1 len0_1 cap0_1] m0_1) (f0_1 : (∀ x0 ∈ m0_1, (∀ x1 ∈ x0, (Lit.int .i64 x1).wf = true))) (w1 : (sliceS (intS .i64)).rep w everywhere [.slice a1 len1 cap1] m1) (f1 : (∀ x0 ∈ m1, (Lit.int .i64 x0).wf = true)) (w2 : (Lit.int .i64 a2).wf = true) :
    Calls Try.prog 3 #[.agg #[.slice a0_0 len0_0 cap0_0, .slice a0_1 len0_1 cap0_1], .slice a1 len1 cap1, .int .i64 a2] w fun e w' => e = .returned (.bool true) ∧ Below w.heap.size w w' := by
  have hX : Exp w a0_0 len0_0 cap0_0 a0_1 len0_1 cap0_1 m0_0 m0_1 := ⟨w0_0, w0_1⟩
  have hv := Row.of_rep w1
  clear w0_0 w0_1 w1 f0_0 f0_1 f1 w2
  have hB := new_bel w (.cells #[.slice a0_0 len0_0 cap0_0, .slice a0_1 len0_1 cap0_1] 24)
  have q := Box.new w 24 #[.slice a0_0 len0_0 cap0_0, .slice a0_1 len0_1 cap0_1]
  have hX0 := hX.below hB
  have hv0 := hv.keep hB
  clear hX hv
  by_cases hs0 : Mx.Small m0_0
  case neg =>
    have HS : Hid (¬ Mx.Small m0_0) := hs0
    clear hs0
    go_enter Try.func3, Try.ntmps3
    go_wp2_with fail
    refine by_says (small _ _ _ m0_0 everywhere _ hX0.i) (fun h => absurd h HS.out) (fun _ => ?_)
    go_wp2_with (go_at_call 8; refine (xawake _).mono ?_; rintro e u1 ⟨rfl, hb1⟩)
    go_ret
    exact ⟨rfl, bel_then hB hb1⟩
  by_cases hs1 : Mx.Small m0_1
  case neg =>
    have HS : Hid (¬ Mx.Small m0_1) := hs1
    have HS0 : Hid (Mx.Small m0_0) := hs0
    clear hs0 hs1
    go_enter Try.func3, Try.ntmps3
    go_wp2_with fail
    refine by_says (small _ _ _ m0_0 everywhere _ hX0.i) (fun _ => ?_) (fun h => absurd HS0.out h)
    go_wp2_with fail
    refine by_says (small _ _ _ m0_1 everywhere _ hX0.o) (fun h => absurd h HS.out) (fun _ => ?_)
    go_wp2_with (go_at_call 8; refine (xawake _).mono ?_; rintro e u1 ⟨rfl, hb1⟩)
    go_ret
    exact ⟨rfl, bel_then hB hb1⟩
  have HS0 : Hid (Mx.Small m0_0) := hs0
  have HS1 : Hid (Mx.Small m0_1) := hs1
  have HI : Hid (Ex.Sized m0_0) := Ex.small_sized hs0
  have HO : Hid (Ex.Sized m0_1) := Ex.small_sized hs1
  clear hs0 hs1
  by_cases hl : 30 < len1
  · have hi : (30 : Int) < (len1 : Int) := by omega
    go_enter Try.func3, Try.ntmps3
    go_wp2_with fail
    refine by_says (small _ _ _ m0_0 everywhere _ hX0.i) (fun _ => ?_) (fun h => absurd HS0.out h)
    go_wp2_with fail
    refine by_says (small _ _ _ m0_1 everywhere _ hX0.o) (fun _ => ?_) (fun h => absurd HS1.out h)
    go_wp2_with (go_at_call 8; refine (xawake _).mono ?_; rintro e u1 ⟨rfl, hb1⟩)
    go_ret
    exact ⟨rfl, bel_then hB hb1⟩
  have hi : ¬ (30 : Int) < (len1 : Int) := by omega
  have hn : len1 ≤ 100000 := by omega
  obtain ⟨R, hRR⟩ : ∃ R, tell (Ex.Right m0_0 m0_1 a2) = R := ⟨_, rfl⟩
  have HRR : Hid (tell (Ex.Right m0_0 m0_1 a2) = R) := hRR
  clear hRR
  have eR : (R != R) = false := by simp
  by_cases hR : Ex.Right m0_0 m0_1 len1
  · have HR : Hid (Ex.Right m0_0 m0_1 len1) := hR
    clear hR
    go_enter Try.func3, Try.ntmps3
    go_wp2_with fail
    refine by_says (small _ _ _ m0_0 everywhere _ hX0.i) (fun _ => ?_) (fun h => absurd HS0.out h)
    go_wp2_with fail
    refine by_says (small _ _ _ m0_1 everywhere _ hX0.o) (fun _ => ?_) (fun h => absurd HS1.out h)
    go_wp2_with fail
    refine (xrun _ _ _ _ _ _ _ _ _ _ _ _ _ hX0 HI.out HO.out hv0 hn).mono ?_
    rintro e u1 ⟨hg, hb1⟩
    obtain ⟨x1, c1, rfl, hr1⟩ := hg.yes HR.out
    have q1 := q.keep hb1
    have hX1 := hX0.below hb1
    have hv1 := hv0.keep hb1
    have hB1 := bel_then hB hb1
    clear hg q hX0 hv0 hB hb1
    have hne9 : Nonempty (Later u1) := Later.there u1
    have d0 : ∀ x9 : Later u1, x9.u.cell? ⟨w.heap.size, 0, none⟩ = some (.slice a0_0 len0_0 cap0_0) := fun x9 => x9.cell (q1.cell 0 rfl)
    have d1 : ∀ x9 : Later u1, x9.u.cell? ⟨w.heap.size, 1, none⟩ = some (.slice a0_1 len0_1 cap0_1) := fun x9 => x9.cell (q1.cell 1 rfl)
    have e1 : ∀ x9 : Later u1, Calls Try.prog 10 #[.agg #[.slice a0_0 len0_0 cap0_0, .slice a0_1 len0_1 cap0_1], .int .i64 a2] x9.u fun e w' => e = .returned (.bool R) ∧ Below x9.u.heap.size x9.u w' := fun x9 => xright_tell _ _ _ _ _ _ _ _ a2 x9.u (hX1.below x9.h) HI.out HO.out R HRR.out
    have e2 : ∀ x9 : Later u1, Calls Try.prog 11 #[.agg #[.slice a0_0 len0_0 cap0_0, .slice a0_1 len0_1 cap0_1], .int .i64 a2] x9.u fun e w' => e = .returned (.bool R) ∧ Below x9.u.heap.size x9.u w' := fun x9 => rxright_tell _ _ _ _ _ _ _ _ a2 x9.u (hX1.below x9.h) HI.out HO.out R HRR.out
    go_wp2
    refine region_later (by kernel_rfl) (by kernel_rfl) ?_
    repeat (go_big_quiet_step (first
      | (go_at_call 10; exact Later.call (e1 _))
      | (go_at_call 11; exact Later.call (e2 _))))
    refine wpQuiet_nil ?_
    intro x9
    obtain ⟨u2, hb2⟩ := x9
    have q2 := q1.keep hb2
    have hX2 := hX1.below hb2
    have hv2 := hv1.keep hb2
    have hr2 := (Row.of_rep hr1).keep hb2
    have hB2 := bel_then hB1 hb2
    clear d0 d1 e1 e2 hne9 q1 hX1 hv1 hr1 hB1
    have p0 := q2.cell 0 rfl
    have p1 := q2.cell 1 rfl
    go_wp2_with fail
    refine (rxright_tell _ _ _ _ _ _ _ _ len1 u2 hX2 HI.out HO.out true (tell_yes HR.out)).mono ?_
    rintro e u3 ⟨rfl, hb3⟩
    have q3 := q2.keep hb3
    have hX3 := hX2.below hb3
    have hv3 := hv2.keep hb3
    have hr3 := hr2.keep hb3
    have hB3 := bel_then hB2 hb3
    clear p0 p1 q2 hX2 hv2 hr2 hB2 hb3
    have p0 := q3.cell 0 rfl
    have p1 := q3.cell 1 rfl
    go_wp2_with fail
    refine (rxrun _ _ _ _ _ _ _ _ _ _ _ _ u3 hX3 HI.out HO.out hv3 hn HR.out).mono ?_
    rintro e u4 ⟨x4, c4, rfl, hr4, hb4⟩
    have hr5 := hr3.keep hb4
    have hB4 := bel_then hB3 hb4
    clear p0 p1 q3 hX3 hv3 hr3 hB3 hb4
    go_wp2_with fail
    refine (same_true x1 x4 len1 c1 c4 _ u4 hr5 (Row.of_rep hr4) hn).mono ?_
    rintro e u5 ⟨rfl, hb5⟩
    have hB5 := bel_then hB4 hb5
    go_wp2_with (go_at_call 8; refine (xawake _).mono ?_; rintro e u6 ⟨rfl, hb6⟩)
    go_ret
    exact ⟨rfl, bel_then hB5 hb6⟩
  · have HR : Hid (¬ Ex.Right m0_0 m0_1 len1) := hR
    clear hR
    go_enter Try.func3, Try.ntmps3
    go_wp2_with fail
    refine by_says (small _ _ _ m0_0 everywhere _ hX0.i) (fun _ => ?_) (fun h => absurd HS0.out h)
    go_wp2_with fail
    refine by_says (small _ _ _ m0_1 everywhere _ hX0.o) (fun _ => ?_) (fun h => absurd HS1.out h)
    go_wp2_with fail
    refine (xrun _ _ _ _ _ _ _ _ _ _ _ _ _ hX0 HI.out HO.out hv0 hn).mono ?_
    rintro e u1 ⟨hg, hb1⟩
    obtain rfl := hg.no HR.out
    have q1 := q.keep hb1
    have hX1 := hX0.below hb1
    have hB1 := bel_then hB hb1
    clear hg q hX0 hv0 hB hb1
    have hne9 : Nonempty (Later u1) := Later.there u1
    have d0 : ∀ x9 : Later u1, x9.u.cell? ⟨w.heap.size, 0, none⟩ = some (.slice a0_0 len0_0 cap0_0) := fun x9 => x9.cell (q1.cell 0 rfl)
    have d1 : ∀ x9 : Later u1, x9.u.cell? ⟨w.heap.size, 1, none⟩ = some (.slice a0_1 len0_1 cap0_1) := fun x9 => x9.cell (q1.cell 1 rfl)
    have e1 : ∀ x9 : Later u1, Calls Try.prog 10 #[.agg #[.slice a0_0 len0_0 cap0_0, .slice a0_1 len0_1 cap0_1], .int .i64 a2] x9.u fun e w' => e = .returned (.bool R) ∧ Below x9.u.heap.size x9.u w' := fun x9 => xright_tell _ _ _ _ _ _ _ _ a2 x9.u (hX1.below x9.h) HI.out HO.out R HRR.out
    have e2 : ∀ x9 : Later u1, Calls Try.prog 11 #[.agg #[.slice a0_0 len0_0 cap0_0, .slice a0_1 len0_1 cap0_1], .int .i64 a2] x9.u fun e w' => e = .returned (.bool R) ∧ Below x9.u.heap.size x9.u w' := fun x9 => rxright_tell _ _ _ _ _ _ _ _ a2 x9.u (hX1.below x9.h) HI.out HO.out R HRR.out
    go_wp2
    refine region_later (by kernel_rfl) (by kernel_rfl) ?_
    repeat (go_big_quiet_step (first
      | (go_at_call 10; exact Later.call (e1 _))
      | (go_at_call 11; exact Later.call (e2 _))))
    refine wpQuiet_nil ?_
    intro x9
    obtain ⟨u2, hb2⟩ := x9
    have q2 := q1.keep hb2
    have hX2 := hX1.below hb2
    have hB2 := bel_then hB1 hb2
    clear d0 d1 e1 e2 hne9 q1 hX1 hB1
    have p0 := q2.cell 0 rfl
    have p1 := q2.cell 1 rfl
    go_wp2_with fail
    refine (rxright_tell _ _ _ _ _ _ _ _ len1 u2 hX2 HI.out HO.out false (tell_no HR.out)).mono ?_
    rintro e u3 ⟨rfl, hb3⟩
    have hB3 := bel_then hB2 hb3
    clear p0 p1
    go_wp2_with (go_at_call 8; refine (xawake _).mono ?_; rintro e u6 ⟨rfl, hb6⟩)
    go_ret
    exact ⟨rfl, bel_then hB3 hb6⟩

/- From the walk to the row. -/
set_option maxRecDepth 100000 in
theorem lifted (os : Os) (started : os.Started) (H : Type) (enc : TypeId × Value → H) :
    ReturnsInHanded {} Try.checked os 3 .any (Rows.expertExactSpec.pre6 enc Try.prog Try.f3 Rows.expertExactRow.domain false) (Rows.expertExactSpec.post enc Try.prog Try.f3 false true false false) := by
  refine returnsInHanded_of_change (C := Try.checked) own started (by kernel_rfl) Try.func3
    (ChangeSpec.witness6 (enc := enc) (C := Try.checked) false ⟨#[], #[.agg #[.slice none 0 0, .slice none 0 0], .slice none 0 0, .int .i64 0], []⟩ 8 (by kernel_rfl) (by kernel_rfl) (by kernel_rfl) (by kernel_rfl)) ?_
  intro W base args ds gs before hval0 hW hcnd _
  have hval : ∀ (j : Nat) t v, Try.f3.params[j]? = some t → args[j]? = some v → Value.okWide Try.prog W .any base t v := hval0
  have hW' := hW
  obtain ⟨p, q, hA0, hV, rfl, hfz, hnd⟩ := hW
  have hA : DataW.TrodAll enc Try.prog W 0 (fun _ => true) true Try.f3.params.toList args.toList ds p := hA0
  rw [Try.params3] at hA hval
  obtain ⟨v0, vs0, d0, ds0, p0, q0, hargs, rfl, rfl, h0, r0⟩ := trodAll_cons hA
  obtain ⟨v1, vs1, d1, ds1, p1, q1, rfl, rfl, rfl, h1, r1⟩ := trodAll_cons r0
  obtain ⟨v2, vs2, d2, ds2, p2, q2, rfl, rfl, rfl, h2, r2⟩ := trodAll_cons r1
  obtain ⟨rfl, rfl, rfl⟩ := trodAll_nil r2
  obtain rfl : args = #[v0, v1, v2] := by cases args; simp_all
  obtain ⟨rfl, rfl⟩ := trodVars_none hV
  obtain ⟨cs0, rfl⟩ := okWide_agg Try.underlying24 (hval 0 24 v0 rfl rfl)
  have k0 := h0
  have lt0 : ∀ x ∈ p0, x.block < W.heap.size := by obtain ⟨m, hm⟩ := k0; exact DataW.trod_lt m _ _ _ hm
  obtain ⟨y0, hy0, hw0⟩ : ∃ y, (consS (sliceS (sliceS (intS .i64))) (consS (sliceS (sliceS (intS .i64))) noneS)).rep W everywhere cs0 y ∧ ((∀ x0 ∈ y.1, (∀ x1 ∈ x0, (Lit.int .i64 x1).wf = true)) ∧ ((∀ x0 ∈ y.2.1, (∀ x1 ∈ x0, (Lit.int .i64 x1).wf = true)) ∧ True)) := by
    obtain ⟨fuel, hf⟩ := h0
    exact (opens_struct Try.underlying24 (show Try.prog.cellsOf 24 = 2 by kernel_rfl) (opensAt_cons (A := (sliceS (sliceS (intS .i64)))) rfl (show Try.prog.cellsOf 22 = 1 by kernel_rfl) (opens_slice (A := (sliceS (intS .i64))) Try.underlying22 (show Try.prog.cellsOf 25 = 1 by kernel_rfl) (by exact Nat.succ_pos _) (opens_slice (A := (intS .i64)) Try.underlying25 (show Try.prog.cellsOf 3 = 1 by kernel_rfl) (by exact Nat.succ_pos _) (opens_int Try.underlying3))) (opensAt_cons (A := (sliceS (sliceS (intS .i64)))) rfl (show Try.prog.cellsOf 22 = 1 by kernel_rfl) (opens_slice (A := (sliceS (intS .i64))) Try.underlying22 (show Try.prog.cellsOf 25 = 1 by kernel_rfl) (by exact Nat.succ_pos _) (opens_slice (A := (intS .i64)) Try.underlying25 (show Try.prog.cellsOf 3 = 1 by kernel_rfl) (by exact Nat.succ_pos _) (opens_int Try.underlying3))) opensAt_nil (by rfl)) (by rfl))) H enc W _ _ _ fuel _ _ (by simpa [Value.cells] using hf)
  obtain ⟨m0_0, m0_1, _⟩ := y0
  obtain ⟨a0_0, len0_0, cap0_0, d0_0, rfl, w0_0, hy0_0⟩ := consS_slice hy0
  obtain ⟨a0_1, len0_1, cap0_1, d0_1, rfl, w0_1, hy0_1⟩ := consS_slice hy0_0
  obtain rfl := noneS_nil hy0_1
  obtain ⟨f0_0, f0_1, _⟩ := hw0
  obtain ⟨a1, len1, cap1, rfl⟩ := okWide_slice Try.underlying25 (hval 1 25 v1 rfl rfl)
  have k1 := h1
  have lt1 : ∀ x ∈ p1, x.block < W.heap.size := by obtain ⟨m, hm⟩ := k1; exact DataW.trod_lt m _ _ _ hm
  obtain ⟨m1, w1, f1⟩ : ∃ y, (sliceS (intS .i64)).rep W everywhere [.slice a1 len1 cap1] y ∧ (∀ x0 ∈ y, (Lit.int .i64 x0).wf = true) := by
    obtain ⟨fuel, hf⟩ := h1
    exact (opens_slice (A := (intS .i64)) Try.underlying25 (show Try.prog.cellsOf 3 = 1 by kernel_rfl) (by exact Nat.succ_pos _) (opens_int Try.underlying3)) H enc W _ _ _ fuel _ _ hf
  obtain ⟨a2, rfl, rfl, rfl, w2⟩ := open_int Try.underlying3 (hval 2 3 v2 rfl rfl) h2
  clear hA0 hval0
  refine (walk a0_0 len0_0 cap0_0 m0_0 a0_1 len0_1 cap0_1 m0_1 a1 len1 cap1 m1 a2 W w0_0 f0_0 w0_1 f0_1 w1 f1 w2).mono fun e W' ⟨he, bel⟩ => ?_
  subst he
  exact ⟨_, rfl, _, _, _, [], _, [], hW', trodAll_mk1 (shut_bool Try.underlying4 _), (trodAll_cons_mk (Below.trod laidOut (by kernel_rfl) (of_decide_eq_true (by kernel_rfl)) k0 bel lt0) (trodAll_cons_mk (Below.trod laidOut (by kernel_rfl) (of_decide_eq_true (by kernel_rfl)) k1 bel lt1) (trodAll_cons_mk (shut_int Try.underlying3 w2) trodAll_mk0))), rfl, bel.frame _, fun h => by cases h⟩

theorem over : Rows.expertExactRow.holds Try.pinned (OpenSpec.ofChange Rows.expertExactSpec) :=
  OpenClaim.holds_of_wide 3 Try.f3 rfl rfl rfl rfl rfl rfl rfl ⟨rfl, rfl, rfl, rfl, rfl⟩ rfl rfl rfl rfl rfl (by kernel_rfl) Try.func3 (by kernel_rfl)
    (of_decide_eq_true (by kernel_rfl)) (by unfold Func.isWrapper; first | (rw [if_pos (by decide +kernel)]; kernel_rfl) | (rw [if_neg (by decide +kernel)]; exact ⟨rfl, rfl⟩))
    (fun os started H enc _ => lifted os started H enc)

end Go.Proofs.Ytpdlpjpbgimmkaa.expertExact

namespace Go.Proofs.Ytpdlpjpbgimmkaa
theorem expertExact_holds : Rows.ExpertExactSaid := expertExact.over
end Go.Proofs.Ytpdlpjpbgimmkaa
