/- For every expert and token switchboardlaw11.ExpertNone returns true: of noughts come noughts, and a row of Out that is noughts makes 0. -/
import Derived.Test.YtpdlpjpbgimmkaaRows
import Derived.Test.YtpdlpjpbgimmkaaExpB
import Derived.WalkKit
import Derived.ProofKit
import Derived.OpenShut
import Derived.ShutString
import Derived.ChangeOld
import Derived.Below
namespace Go.Proofs.Ytpdlpjpbgimmkaa.expertNone
open Go.ChangeShapes Go.WideShapes Go.ChangeAt Go.RowKit
open Go.ChangeMaps (open_string shut_string)
set_option linter.unusedVariables false

theorem own : ownKnob Try.prog.godebug = none := by kernel_rfl
theorem laidOut : laidOutB Try.prog = true := by kernel_rfl

theorem zeros_at (n k : Nat) : (List.replicate n (0 : Int)).getD k 0 = 0 := by
  rw [List.getD_eq_getElem?_getD, List.getElem?_replicate]
  split <;> rfl

/- The walk: the call returns true, and nothing that was there is written. -/
set_option maxHeartbeats 4000000 in
set_option maxRecDepth 100000 in
theorem walk (a0_0 : Option Addr) (len0_0 cap0_0 : Nat) (m0_0 : List (List Int)) (a0_1 : Option Addr) (len0_1 cap0_1 : Nat) (m0_1 : List (List Int)) (a1 : Option Addr) (len1 cap1 : Nat) (m1 : List Int) (w : World) (w0_0 : (sliceS (sliceS (intS .i64))).rep w everywhere [.slice a0_0 len0_0 cap0_0] m0_0) (f0_0 : (∀ x0 ∈ m0_0, (∀ x1 ∈ x0, (Lit.int .i64 x1).wf = true))) (w0_1 : (sliceS (sliceS (intS .i64))).rep w everywhere [.slice a0_1 len0_1 cap0_1] m0_1) (f0_1 : (∀ x0 ∈ m0_1, (∀ x1 ∈ x0, (Lit.int .i64 x1).wf = true))) (w1 : (sliceS (intS .i64)).rep w everywhere [.slice a1 len1 cap1] m1) (f1 : (∀ x0 ∈ m1, (Lit.int .i64 x0).wf = true)) :
    Calls Try.prog 4 #[.agg #[.slice a0_0 len0_0 cap0_0, .slice a0_1 len0_1 cap0_1], .slice a1 len1 cap1] w fun e w' => e = .returned (.bool true) ∧ Below w.heap.size w w' := by
  have hX : Exp w a0_0 len0_0 cap0_0 a0_1 len0_1 cap0_1 m0_0 m0_1 := ⟨w0_0, w0_1⟩
  have hv := Row.of_rep w1
  clear w0_0 w0_1 w1 f0_0 f0_1 f1
  have hB := new_bel w (.cells #[.slice a0_0 len0_0 cap0_0, .slice a0_1 len0_1 cap0_1] 24)
  have q := Box.new w 24 #[.slice a0_0 len0_0 cap0_0, .slice a0_1 len0_1 cap0_1]
  have hX0 := hX.below hB
  have hv0 := hv.keep hB
  clear hX hv
  by_cases hs0 : Mx.Small m0_0
  case neg =>
    have HS : Hid (¬ Mx.Small m0_0) := hs0
    clear hs0
    go_enter Try.func4, Try.ntmps4
    go_wp2_with fail
    refine by_says (small _ _ _ m0_0 everywhere _ hX0.i) (fun h => absurd h HS.out) (fun _ => ?_)
    go_wp2_with (go_at_call 8; refine (xawake _).mono ?_; rintro e u1 ⟨rfl, hb1⟩)
    go_ret
    exact ⟨rfl, bel_then hB hb1⟩
  by_cases hs1 : Mx.Small m0_1
  case neg =>
    have HS : Hid (¬ Mx.Small m0_1) := hs1
    have HS0 : Hid (Mx.Small m0_0) := hs0
    clear hs0 hs1
    go_enter Try.func4, Try.ntmps4
    go_wp2_with fail
    refine by_says (small _ _ _ m0_0 everywhere _ hX0.i) (fun _ => ?_) (fun h => absurd HS0.out h)
    go_wp2_with fail
    refine by_says (small _ _ _ m0_1 everywhere _ hX0.o) (fun h => absurd h HS.out) (fun _ => ?_)
    go_wp2_with (go_at_call 8; refine (xawake _).mono ?_; rintro e u1 ⟨rfl, hb1⟩)
    go_ret
    exact ⟨rfl, bel_then hB hb1⟩
  have HS0 : Hid (Mx.Small m0_0) := hs0
  have HS1 : Hid (Mx.Small m0_1) := hs1
  have HI : Hid (Ex.Sized m0_0) := Ex.small_sized hs0
  have HO : Hid (Ex.Sized m0_1) := Ex.small_sized hs1
  clear hs0 hs1
  by_cases hl : 30 < len1
  · have hi : (30 : Int) < (len1 : Int) := by omega
    go_enter Try.func4, Try.ntmps4
    go_wp2_with fail
    refine by_says (small _ _ _ m0_0 everywhere _ hX0.i) (fun _ => ?_) (fun h => absurd HS0.out h)
    go_wp2_with fail
    refine by_says (small _ _ _ m0_1 everywhere _ hX0.o) (fun _ => ?_) (fun h => absurd HS1.out h)
    go_wp2_with (go_at_call 8; refine (xawake _).mono ?_; rintro e u1 ⟨rfl, hb1⟩)
    go_ret
    exact ⟨rfl, bel_then hB hb1⟩
  have hi : ¬ (30 : Int) < (len1 : Int) := by omega
  have hn : len1 ≤ 100000 := by omega
  by_cases hR : Ex.Right m0_0 m0_1 len1
  case neg =>
    have HR : Hid (¬ Ex.Right m0_0 m0_1 len1) := hR
    clear hR
    have p0 := q.cell 0 rfl
    have p1 := q.cell 1 rfl
    go_enter Try.func4, Try.ntmps4
    go_wp2_with fail
    refine by_says (small _ _ _ m0_0 everywhere _ hX0.i) (fun _ => ?_) (fun h => absurd HS0.out h)
    go_wp2_with fail
    refine by_says (small _ _ _ m0_1 everywhere _ hX0.o) (fun _ => ?_) (fun h => absurd HS1.out h)
    go_wp2_with fail
    refine (rxright_tell _ _ _ _ _ _ _ _ len1 _ hX0 HI.out HO.out false (tell_no HR.out)).mono ?_
    rintro e u3 ⟨rfl, hb3⟩
    have hB3 := bel_then hB hb3
    clear p0 p1
    go_wp2_with (go_at_call 8; refine (xawake _).mono ?_; rintro e u6 ⟨rfl, hb6⟩)
    go_ret
    exact ⟨rfl, bel_then hB3 hb6⟩
  have HR : Hid (Ex.Right m0_0 m0_1 len1) := hR
  have hl0 := (sliceS_len hX0.i).1
  have hl1 := (sliceS_len hX0.o).1
  have hon : len0_1 = len1 := by rw [← hl1]; exact hR.len
  have hpos : 1 ≤ len1 := hR.pos.1
  have h8 : 1 ≤ len0_0 ∧ len0_0 ≤ 8 := by have := hR.2.1; omega
  obtain ⟨h81, h82⟩ := h8
  have HZ : Hid (Ex.run m0_0 m0_1 (List.replicate len1 0) = List.replicate len1 0) := Ex.run_zeros hR
  have HNR : Hid (Ex.Right m0_0 (m0_1.set 0 (List.replicate len0_0 0)) len1) := by
    have := hR.none
    rw [hl0] at this
    exact this
  have HNZ : Hid ((Ex.run m0_0 (m0_1.set 0 (List.replicate len0_0 0)) m1).getD 0 0 = 0) := by
    have := Ex.run_none m1 hR
    rw [hl0] at this
    exact this
  have HNS : Hid (Ex.Sized (m0_1.set 0 (List.replicate len0_0 0))) := Ex.set_sized HO.out (by omega)
  subst hon
  clear hR hl0 hl1
  obtain ⟨i0, hi0, hz0, hz1, hz2⟩ := info_parts Try.infoInt
  obtain ⟨j0, hj0, hy0, hy1, hy2⟩ := info_parts Try.infoRow
  have hmk := run_make_row' (P := Try.prog) 25 3 (.int .i64 0) 8 Try.underlying25 Try.infoInt rfl .i64 .i64 len0_1 (by omega) (by omega)
  have p0 := q.cell 0 rfl
  have p1 := q.cell 1 rfl
  go_enter Try.func4, Try.ntmps4
  go_wp2_with fail
  refine by_says (small _ _ _ m0_0 everywhere _ hX0.i) (fun _ => ?_) (fun h => absurd HS0.out h)
  go_wp2_with fail
  refine by_says (small _ _ _ m0_1 everywhere _ hX0.o) (fun _ => ?_) (fun h => absurd HS1.out h)
  go_wp2_with fail
  refine (rxright_tell _ _ _ _ _ _ _ _ len0_1 _ hX0 HI.out HO.out true (tell_yes HR.out)).mono ?_
  rintro e u1 ⟨rfl, hb1⟩
  have q1 := q.keep hb1
  have hX1 := hX0.below hb1
  have hv1 := hv0.keep hb1
  have hB1 := bel_then hB hb1
  clear p0 p1 q hX0 hv0 hB hb1
  have p0 := q1.cell 0 rfl
  have p1 := q1.cell 1 rfl
  have r0 : ∀ o, (u1.alloc o).cell? ⟨w.heap.size, 0, none⟩ = some (.slice a0_0 len0_0 cap0_0) := fun o => (q1.keep (new_bel u1 o)).cell 0 rfl
  have r1 : ∀ o, (u1.alloc o).cell? ⟨w.heap.size, 1, none⟩ = some (.slice a0_1 len0_1 cap0_1) := fun o => (q1.keep (new_bel u1 o)).cell 1 rfl
  have hM : Below u1.heap.size u1 (u1.alloc (.cells (madeCells #[.int .i64 0] len0_1) 3)).drew := (new_bel _ _).drew
  have HC : Hid (Calls _ _ _ _ _) := xrun a0_0 len0_0 cap0_0 a0_1 len0_1 cap0_1 m0_0 m0_1 (some ⟨u1.heap.size, 0, none⟩) len0_1 len0_1 (List.replicate len0_1 0) (u1.alloc (.cells (madeCells #[.int .i64 0] len0_1) 3)).drew (hX1.below hM) HI.out HO.out ((Row.made (e := 3) u1 len0_1).keep (Below.refl _ _).drew) hn
  go_upto_region 3 with fail
  go_cut [5, 6] from 12 (fun v t wx => ∃ a c, v = .slice a len0_1 c ∧ t = .bool true ∧ rowS.rep wx everywhere [.slice a len0_1 c] (List.replicate len0_1 0) ∧ Below u1.heap.size u1 wx)
  case first =>
    rename_i Jx Kx hRJ hMK
    go_region_with (go_at_call 9; refine HC.out.mono ?_; rintro e u2 ⟨hg, hb2⟩; obtain ⟨a2, c2, rfl, hr2⟩ := hg.yes HR.out)
    all_goals
      rw [HZ.out] at hr2
      refine hMK _ _ (Met.intro (hRJ _ _ ?_))
      (repeat apply Exists.intro)
      refine ⟨?_, rfl⟩
      exact ⟨a2, c2, rfl, rfl, hr2, bel_then hM hb2⟩
  case rest =>
    obtain ⟨a2, c2, rfl, rfl, hr2, hb2⟩ := hcut
    have q2 := q1.keep hb2
    have hX2 := hX1.below hb2
    have hv2 := hv1.keep hb2
    have hB2 := bel_then hB1 hb2
    clear p0 p1 r0 r1 hM HC q1 hX1 hv1 hB1 hb2 hmk
    have hXo := Shape.low hX2.o
    have p1 : ∀ o, (wc.alloc o).cell? ⟨w.heap.size, 1, none⟩ = some (.slice a0_1 len0_1 cap0_1) := fun o => (q2.keep (new_bel wc o)).cell 1 rfl
    go_upto_region 5 with (first
      | (at_builtin; refine wpList_app rowS (by simp [Region.wanted]) (.tmp 43) (.tmp 45) 22 rfl wc.heap.size 25 j0 (.slice none 0 0) 24 Try.underlying22 hj0 hy0 hy1 hy2 rfl Nat.one_pos (by omega) (by rfl) (Own.empty rowS wc 25) (by rfl) (Shape.now hXo (new_bel wc _)) (Own.apart (Own.empty rowS wc 25) (Nat.le_refl _)) (by simp; omega) (by simp) ?_; intro a4 c4 W4 ho4 hg4 hb4 hat4; simp only [List.length_nil, Nat.zero_add, List.nil_append] at ho4 ⊢)
      | fail)
    have hB4 : Below wc.heap.size wc W4 := (new_bel wc _).trans hb4
    clear hg4 hb4 hat4 p1 hXo
    obtain ⟨g, rfl, hg0, hg1, _⟩ := ho4.form (by omega)
    have q4 := q2.keep hB4
    have p0 := q4.cell 0 rfl
    have hpi : (0 : Int) < (len0_1 : Int) := by omega
    go_wp2_with (at_make; refine wpList_make_full _ rfl _ _ 25 rfl W4.heap.size 3 i0 (.int .i64 0) 1 Try.underlying25 hi0 hz0 hz1 _ _ _ _ len0_0 rfl rfl (by rfl) (by rfl) ?b2 ?b3 (Nat.le_refl _) ?_)
    case b2 => rw [hz2]; omega
    case b3 => unfold maxLen; omega
    intro W5 hrow hgrow
    have hb5 : Below W4.heap.size W4 W5 := (Below.refl _ _).grown hgrow (Nat.le_refl _) (fun _ h => by cases h)
    have hrow1 : W5.ownsRow W4.heap.size 3 1 (.slice (some ⟨W4.heap.size, 0, none⟩) len0_0 len0_0) len0_0 ((List.replicate len0_0 0).map (Value.int .i64)) := by
      have h := hrow
      rw [fill_zero] at h
      simpa [fill] using h
    obtain ⟨⟨z6, hz6⟩, hf6, ho6⟩ := (ho4.keep hb5).store (j := 0) rfl (show 0 < len0_1 by omega) (rep_high hrow1) (fun b hb => by have : W4.heap.size ≤ b := hb; omega)
    have hB6 : Below wc.heap.size wc (W5.setCell ⟨g, 0, none⟩ (.slice (some ⟨W4.heap.size, 0, none⟩) len0_0 len0_0)) := (bel_then hB4 hb5).setCell hg0 _
    clear hrow hgrow hrow1 p0 q4 ho4
    go_upto_region 6 with fail
    have hX6 : Exp (W5.setCell ⟨g, 0, none⟩ (.slice (some ⟨W4.heap.size, 0, none⟩) len0_0 len0_0)) a0_0 len0_0 cap0_0 (some ⟨g, 0, none⟩) len0_1 c4 m0_0 (m0_1.set 0 (List.replicate len0_0 0)) := ⟨Shape.below hX2.i hB6, ho6.is⟩
    clear hz6 hf6 ho6 hb5 hB4
    generalize W5.setCell ⟨g, 0, none⟩ (.slice (some ⟨W4.heap.size, 0, none⟩) len0_0 len0_0) = W6 at *
    have q6 := q2.keep hB6
    have hv6 := hv2.keep hB6
    have hr6 := (Row.of_rep hr2).keep hB6
    have hB7 := bel_then hB2 hB6
    clear hX2 hv2 hr2 hB2 hB6 q2
    have p0 := q6.cell 0 rfl
    go_wp2_with fail
    refine (xrun _ _ _ _ _ _ _ _ _ _ _ _ W6 hX6 HI.out HNS.out hv6 hn).mono ?_
    rintro e u7 ⟨hg7, hb7⟩
    obtain ⟨a7, c7, rfl, hr7⟩ := hg7.yes HNR.out
    obtain ⟨b7, o7, rfl, _, hc7⟩ := (Row.of_rep hr7).at (show 0 < len0_1 by omega)
    rw [HNZ.out, Nat.add_zero] at hc7
    have hr8 := hr6.keep hb7
    have hB8 := bel_then hB7 hb7
    clear hg7 hr7 p0 hX6 hv6 hr6 hB7 hb7 q6
    go_wp2
    go_loopw [11, 64] (fun _ i wr => ∃ k : Nat, k ≤ len0_1 ∧ i = .int .i64 k ∧ wr = u7) (fun _ i _ => len0_1 - (intOf i).toNat)
    case atStart => exact ⟨0, Nat.zero_le _, rfl, rfl⟩
    case round =>
      obtain ⟨k, hk, rfl, hww⟩ := hrel
      replace hww := hww.symm
      subst hww
      by_cases hlt : k < len0_1
      · obtain ⟨b1, o1, rfl, hb1, hcell⟩ := hr8.at hlt
        have hli : (k : Int) < (len0_1 : Int) := by omega
        rw [zeros_at] at hcell
        go_wp2
        go_roundw
        case rel => exact ⟨k + 1, by omega, by go_num, by trivial⟩
        case measure => simp [intOf]; omega
      · have hli : ¬ (k : Int) < (len0_1 : Int) := by omega
        have e1 : ((len0_1 : Int) == (len0_1 : Int)) = true := by simp
        go_wp2_with (go_at_call 8; refine (xawake _).mono ?_; rintro e u9 ⟨rfl, hb9⟩)
        go_ret
        exact ⟨rfl, bel_then hB8 hb9⟩

/- From the walk to the row. -/
set_option maxRecDepth 100000 in
theorem lifted (os : Os) (started : os.Started) (H : Type) (enc : TypeId × Value → H) :
    ReturnsInHanded {} Try.checked os 4 .any (Rows.expertNoneSpec.pre6 enc Try.prog Try.f4 Rows.expertNoneRow.domain false) (Rows.expertNoneSpec.post enc Try.prog Try.f4 false true false false) := by
  refine returnsInHanded_of_change (C := Try.checked) own started (by kernel_rfl) Try.func4
    (ChangeSpec.witness6 (enc := enc) (C := Try.checked) false ⟨#[], #[.agg #[.slice none 0 0, .slice none 0 0], .slice none 0 0], []⟩ 8 (by kernel_rfl) (by kernel_rfl) (by kernel_rfl) (by kernel_rfl)) ?_
  intro W base args ds gs before hval0 hW hcnd _
  have hval : ∀ (j : Nat) t v, Try.f4.params[j]? = some t → args[j]? = some v → Value.okWide Try.prog W .any base t v := hval0
  have hW' := hW
  obtain ⟨p, q, hA0, hV, rfl, hfz, hnd⟩ := hW
  have hA : DataW.TrodAll enc Try.prog W 0 (fun _ => true) true Try.f4.params.toList args.toList ds p := hA0
  rw [Try.params4] at hA hval
  obtain ⟨v0, vs0, d0, ds0, p0, q0, hargs, rfl, rfl, h0, r0⟩ := trodAll_cons hA
  obtain ⟨v1, vs1, d1, ds1, p1, q1, rfl, rfl, rfl, h1, r1⟩ := trodAll_cons r0
  obtain ⟨rfl, rfl, rfl⟩ := trodAll_nil r1
  obtain rfl : args = #[v0, v1] := by cases args; simp_all
  obtain ⟨rfl, rfl⟩ := trodVars_none hV
  obtain ⟨cs0, rfl⟩ := okWide_agg Try.underlying24 (hval 0 24 v0 rfl rfl)
  have k0 := h0
  have lt0 : ∀ x ∈ p0, x.block < W.heap.size := by obtain ⟨m, hm⟩ := k0; exact DataW.trod_lt m _ _ _ hm
  obtain ⟨y0, hy0, hw0⟩ : ∃ y, (consS (sliceS (sliceS (intS .i64))) (consS (sliceS (sliceS (intS .i64))) noneS)).rep W everywhere cs0 y ∧ ((∀ x0 ∈ y.1, (∀ x1 ∈ x0, (Lit.int .i64 x1).wf = true)) ∧ ((∀ x0 ∈ y.2.1, (∀ x1 ∈ x0, (Lit.int .i64 x1).wf = true)) ∧ True)) := by
    obtain ⟨fuel, hf⟩ := h0
    exact (opens_struct Try.underlying24 (show Try.prog.cellsOf 24 = 2 by kernel_rfl) (opensAt_cons (A := (sliceS (sliceS (intS .i64)))) rfl (show Try.prog.cellsOf 22 = 1 by kernel_rfl) (opens_slice (A := (sliceS (intS .i64))) Try.underlying22 (show Try.prog.cellsOf 25 = 1 by kernel_rfl) (by exact Nat.succ_pos _) (opens_slice (A := (intS .i64)) Try.underlying25 (show Try.prog.cellsOf 3 = 1 by kernel_rfl) (by exact Nat.succ_pos _) (opens_int Try.underlying3))) (opensAt_cons (A := (sliceS (sliceS (intS .i64)))) rfl (show Try.prog.cellsOf 22 = 1 by kernel_rfl) (opens_slice (A := (sliceS (intS .i64))) Try.underlying22 (show Try.prog.cellsOf 25 = 1 by kernel_rfl) (by exact Nat.succ_pos _) (opens_slice (A := (intS .i64)) Try.underlying25 (show Try.prog.cellsOf 3 = 1 by kernel_rfl) (by exact Nat.succ_pos _) (opens_int Try.underlying3))) opensAt_nil (by rfl)) (by rfl))) H enc W _ _ _ fuel _ _ (by simpa [Value.cells] using hf)
  obtain ⟨m0_0, m0_1, _⟩ := y0
  obtain ⟨a0_0, len0_0, cap0_0, d0_0, rfl, w0_0, hy0_0⟩ := consS_slice hy0
  obtain ⟨a0_1, len0_1, cap0_1, d0_1, rfl, w0_1, hy0_1⟩ := consS_slice hy0_0
  obtain rfl := noneS_nil hy0_1
  obtain ⟨f0_0, f0_1, _⟩ := hw0
  obtain ⟨a1, len1, cap1, rfl⟩ := okWide_slice Try.underlying25 (hval 1 25 v1 rfl rfl)
  have k1 := h1
  have lt1 : ∀ x ∈ p1, x.block < W.heap.size := by obtain ⟨m, hm⟩ := k1; exact DataW.trod_lt m _ _ _ hm
  obtain ⟨m1, w1, f1⟩ : ∃ y, (sliceS (intS .i64)).rep W everywhere [.slice a1 len1 cap1] y ∧ (∀ x0 ∈ y, (Lit.int .i64 x0).wf = true) := by
    obtain ⟨fuel, hf⟩ := h1
    exact (opens_slice (A := (intS .i64)) Try.underlying25 (show Try.prog.cellsOf 3 = 1 by kernel_rfl) (by exact Nat.succ_pos _) (opens_int Try.underlying3)) H enc W _ _ _ fuel _ _ hf
  clear hA0 hval0
  refine (walk a0_0 len0_0 cap0_0 m0_0 a0_1 len0_1 cap0_1 m0_1 a1 len1 cap1 m1 W w0_0 f0_0 w0_1 f0_1 w1 f1).mono fun e W' ⟨he, bel⟩ => ?_
  subst he
  exact ⟨_, rfl, _, _, _, [], _, [], hW', trodAll_mk1 (shut_bool Try.underlying4 _), (trodAll_cons_mk (Below.trod laidOut (by kernel_rfl) (of_decide_eq_true (by kernel_rfl)) k0 bel lt0) (trodAll_cons_mk (Below.trod laidOut (by kernel_rfl) (of_decide_eq_true (by kernel_rfl)) k1 bel lt1) trodAll_mk0)), rfl, bel.frame _, fun h => by cases h⟩

theorem over : Rows.expertNoneRow.holds Try.pinned (OpenSpec.ofChange Rows.expertNoneSpec) :=
  OpenClaim.holds_of_wide 4 Try.f4 rfl rfl rfl rfl rfl rfl rfl ⟨rfl, rfl, rfl, rfl, rfl⟩ rfl rfl rfl rfl rfl (by kernel_rfl) Try.func4 (by kernel_rfl)
    (of_decide_eq_true (by kernel_rfl)) (by unfold Func.isWrapper; first | (rw [if_pos (by decide +kernel)]; kernel_rfl) | (rw [if_neg (by decide +kernel)]; exact ⟨rfl, rfl⟩))
    (fun os started H enc _ => lifted os started H enc)

end Go.Proofs.Ytpdlpjpbgimmkaa.expertNone

namespace Go.Proofs.Ytpdlpjpbgimmkaa
theorem expertNone_holds : Rows.ExpertNoneSaid := expertNone.over
end Go.Proofs.Ytpdlpjpbgimmkaa
