/- ModelFirst is true for every model, tokens and number. -/
import Derived.Test.YtmechoeoaadfeaaRows
import Derived.Test.YtmechoeoaadfeaaMdlW
import Derived.WalkKit
import Derived.ProofKit
import Derived.OpenShut
import Derived.ShutString
import Derived.ChangeOld
import Derived.Below
namespace Go.Proofs.Ytmechoeoaadfeaa.modelFirst
open Go.ChangeShapes Go.WideShapes Go.ChangeAt Go.RowKit
open Go.ChangeMaps (open_string shut_string)
set_option linter.unusedVariables false

theorem own : ownKnob Try.prog.godebug = none := by kernel_rfl
theorem laidOut : laidOutB Try.prog = true := by kernel_rfl

/- The walk: the call returns true, and nothing that was there is written. -/
set_option maxHeartbeats 4000000 in
set_option maxRecDepth 100000 in
theorem walk (a0_0 : Int) (a0_1 : Option Addr) (len0_1 cap0_1 : Nat) (m0_1 : List ((List (List Int)) × (List ((List (List Int)) × (List (List Int)) × Unit)) × Int × Unit)) (a1 : Option Addr) (len1 cap1 : Nat) (m1 : List (List Int)) (a2 : Int) (w : World) (w0_0 : (Lit.int .i64 a0_0).wf = true) (w0_1 : (sliceS (consS (sliceS (sliceS (intS .i64))) (consS (sliceS (consS (sliceS (sliceS (intS .i64))) (consS (sliceS (sliceS (intS .i64))) noneS))) (consS (intS .i64) noneS)))).rep w everywhere [.slice a0_1 len0_1 cap0_1] m0_1) (f0_1 : (∀ x0 ∈ m0_1, ((∀ x1 ∈ x0.1, (∀ x2 ∈ x1, (Lit.int .i64 x2).wf = true)) ∧ ((∀ x1 ∈ x0.2.1, ((∀ x2 ∈ x1.1, (∀ x3 ∈ x2, (Lit.int .i64 x3).wf = true)) ∧ ((∀ x2 ∈ x1.2.1, (∀ x3 ∈ x2, (Lit.int .i64 x3).wf = true)) ∧ True))) ∧ ((Lit.int .i64 x0.2.2.1).wf = true ∧ True))))) (w1 : (sliceS (sliceS (intS .i64))).rep w everywhere [.slice a1 len1 cap1] m1) (f1 : (∀ x0 ∈ m1, (∀ x1 ∈ x0, (Lit.int .i64 x1).wf = true))) (w2 : (Lit.int .u8 a2).wf = true) :
    Calls Try.prog 7 #[.agg #[.int .i64 a0_0, .slice a0_1 len0_1 cap0_1], .slice a1 len1 cap1, .int .u8 a2] w fun e w' => e = .returned (.bool true) ∧ Below w.heap.size w w' := by
  have HX : Hid (lysS.rep w everywhere [.slice a0_1 len0_1 cap0_1] m0_1) := w0_1
  have HT : Hid (matS.rep w everywhere [.slice a1 len1 cap1] m1) := w1
  have HL : Hid (m0_1.length = len0_1) := (sliceS_len w0_1).1
  have HLT : Hid (m1.length = len1) := (sliceS_len w1).1
  have hcap0 : len0_1 ≤ cap0_1 := (sliceS_len w0_1).2.1
  have hcap1 : len1 ≤ cap1 := (sliceS_len w1).2.1
  clear w0_0 w0_1 f0_1 w1 f1
  have hb8 := bounds_u8 w2
  clear w2
  have hB := new_bel w (.cells #[.int .i64 a0_0, .slice a0_1 len0_1 cap0_1] 24)
  have q := Box.new w 24 #[.int .i64 a0_0, .slice a0_1 len0_1 cap0_1]
  have HC1 : Hid (Calls _ _ _ _ _) := msmall a0_1 len0_1 cap0_1 m0_1 a0_0 _ (Shape.below HX.out hB)
  go_enter Try.func7, Try.ntmps7
  go_wp2_with fail
  refine HC1.out.mono ?_
  rintro e u1 ⟨hs, hb1⟩
  have hB1 := bel_then hB hb1
  have q1 := q.keep hb1
  by_cases hS : Md.Small m0_1
  case neg =>
    rw [hs.not hS]
    clear hs hS HC1 hB q q1 hb1
    go_wp2_with (go_at_call 11; refine (mawake _).mono ?_; rintro e u9 ⟨rfl, hb9⟩)
    go_ret
    exact ⟨rfl, bel_then hB1 hb9⟩
  rw [hs.is hS]
  have HS : Hid (Md.Small m0_1) := hS
  have h1 := Shape.below HT.out hB1
  clear hs hS HC1 hB q hb1
  go_wp2_with fail
  refine by_says (small a1 len1 cap1 m1 everywhere u1 h1) (fun hS => ?_) (fun hS => ?_)
  case refine_2 =>
    clear hS h1 q1
    go_wp2_with (go_at_call 11; refine (mawake _).mono ?_; rintro e u9 ⟨rfl, hb9⟩)
    go_ret
    exact ⟨rfl, bel_then hB1 hb9⟩
  have HST : Hid (Mx.Small m1) := hS
  clear hS h1
  have p0 := q1.cell 0 rfl
  have p1 := q1.cell 1 rfl
  have HC2 : Hid (Calls _ _ _ _ _) := rmright a0_1 len0_1 cap0_1 m0_1 a0_0 u1 (Shape.below HX.out hB1) (by have := HS.out.1; have := HL.out; omega) (fun l hl => Md.small_lsized (HS.out.2 l hl))
  go_wp2_with fail
  refine HC2.out.mono ?_
  rintro e u2 ⟨hs, hb2⟩
  have hB2 := bel_then hB1 hb2
  have q2 := q1.keep hb2
  clear HC2 hB1 q1 hb2 p0 p1
  by_cases hR : Md.Right a0_0 m0_1
  case neg =>
    rw [hs.not hR]
    clear hs hR q2
    go_wp2_with (go_at_call 11; refine (mawake _).mono ?_; rintro e u9 ⟨rfl, hb9⟩)
    go_ret
    exact ⟨rfl, bel_then hB2 hb9⟩
  rw [hs.is hR]
  have HR : Hid (Md.Right a0_0 m0_1) := hR
  have p0 := q2.cell 0 rfl
  have p1 := q2.cell 1 rfl
  have HC3 : Hid (Calls _ _ _ _ _) := rmtokens a0_1 len0_1 cap0_1 a0_0 a1 len1 cap1 m1 u2 (Shape.below HT.out hB2) (Ex.small_sized HST.out)
  clear hs hR
  go_wp2_with fail
  refine HC3.out.mono ?_
  rintro e u3 ⟨hs, hb3⟩
  have hB3 := bel_then hB2 hb3
  have q3 := q2.keep hb3
  clear HC3 hB2 q2 hb3 p0 p1
  by_cases hR : Md.TRight a0_0 m1
  case neg =>
    rw [hs.not hR]
    clear hs hR q3
    go_wp2_with (go_at_call 11; refine (mawake _).mono ?_; rintro e u9 ⟨rfl, hb9⟩)
    go_ret
    exact ⟨rfl, bel_then hB3 hb9⟩
  rw [hs.is hR]
  have HTR : Hid (Md.TRight a0_0 m1) := hR
  have p0 := q3.cell 0 rfl
  have p1 := q3.cell 1 rfl
  have hn4 : len0_1 ≤ 4 := by have := HR.out.2.2.2.1; have := HL.out; omega
  have hn1 : 1 ≤ len0_1 := by have := HR.out.2.2.1; have := HL.out; omega
  have hm16 : len1 ≤ 16 := by have := HTR.out.2.1; have := HLT.out; omega
  have hm1 : 1 ≤ len1 := by have := HTR.out.1; have := HLT.out; omega
  have HD : Hid (a0_0 ≤ 8) := HR.out.2.1
  clear hs hR
  have hz0 : (((len1 : Int)) == 0) = false := by rw [beq_eq_false_iff_ne]; omega
  obtain ⟨kk, hkk, hkl⟩ : ∃ kk : Nat, a2 % (len1 : Int) = (kk : Int) ∧ kk < len1 := by
    have h7 := Int.emod_nonneg a2 (show (len1 : Int) ≠ 0 by omega)
    have h8 := Int.emod_lt_of_pos a2 (show (0 : Int) < (len1 : Int) by omega)
    exact ⟨(a2 % (len1 : Int)).toNat, by omega, by omega⟩
  obtain ⟨K, hK⟩ : ∃ K : Nat, 1 + (kk : Int) = (K : Int) := ⟨1 + kk, by omega⟩
  have hK1 : 1 ≤ K := by omega
  have hK2 : K ≤ len1 := by omega
  have HK : Hid (1 + (kk : Int) = (K : Int)) := hK
  clear hK
  have HC4 : Hid (Calls _ _ _ _ _) := mforward a0_1 len0_1 cap0_1 m0_1 a0_0 a1 len1 cap1 m1 u3 (Shape.below HX.out hB3) (Shape.below HT.out hB3) HR.out HTR.out
  go_upto_region 4 with fail
  generalize 1 + (kk : Int) = Z at *
  obtain rfl : Z = (K : Int) := HK.out
  clear HK hz0 hb8 hkk hkl
  go_wp2_with fail
  refine HC4.out.mono ?_
  rintro e u4 ⟨hb4, ra, rc, rfl, hr4⟩
  have hB4 := bel_then hB3 hb4
  have q4 := q3.keep hb4
  clear HC4 hB3 q3 hb4 p0 p1
  have hrc := (sliceS_len hr4).2.1
  have hD : Below u4.heap.size u4 u4.drew := (Below.refl _ u4).drew
  have htk := rep_take (Shape.below HT.out hB4) hK2
  have HTK : Hid (Md.TRight a0_0 (m1.take K)) := HTR.out.take hK1 (by rw [HLT.out]; exact hK2)
  have HC5 : Hid (Calls _ _ _ _ _) := mforward a0_1 len0_1 cap0_1 m0_1 a0_0 a1 K cap1 (m1.take K) u4.drew (Shape.below (Shape.below HX.out hB4) hD) (Shape.below htk hD) HR.out HTK.out
  have HH : Hid (∀ u, Below u4.heap.size u4 u → u.cell? ⟨w.heap.size, 0, none⟩ = some (.int .i64 a0_0) ∧ u.cell? ⟨w.heap.size, 1, none⟩ = some (.slice a0_1 len0_1 cap0_1)) := fun u hb => ⟨(q4.keep hb).cell 0 rfl, (q4.keep hb).cell 1 rfl⟩
  have p0 := q4.cell 0 rfl
  have p1 := q4.cell 1 rfl
  obtain ⟨i0, hi0, hi1, hi2, hi3⟩ := info_parts Try.infoRow
  have hE : ∀ w : World, (Instr.slice 25 (.slice a1 len1 cap1) none (some (.int .i64 (K : Int))) none).run Try.prog w = .ok (.slice a1 K cap1) w := fun w => by
    rw [run_slice_h w 25 a1 len1 cap1 Try.underlying25 .i64 K (by omega) (by omega)]
    simp [sizeOf, typeInfo, go_sem, hi0, hi2]
  have hE2 : ∀ w : World, (Instr.slice 25 (.slice ra len1 rc) none (some (.int .i64 (K : Int))) none).run Try.prog w = .ok (.slice ra K rc) w := fun w => by
    rw [run_slice_h w 25 ra len1 rc Try.underlying25 .i64 K (by omega) (by omega)]
    simp [sizeOf, typeInfo, go_sem, hi0, hi2]
  clear htk
  go_upto_region 5 with fail
  go_region_with
    (go_at_call 12; refine HC5.out.mono ?_; rintro e u5 ⟨hb5, sa, sc, rfl, hr5⟩; have hd6 := bel_then hD hb5)
  all_goals
    have hB6 := bel_then hB4 hd6
    have hr6 := rep_take (Shape.below hr4 hd6) hK2
    rw [← Md.forward_take m0_1 (by rw [HLT.out]; exact hK2)] at hr6
    have HSM : Hid (Calls _ _ _ _ _) := msame ra sa K rc sc _ u5 hr6 hr5 (Md.tright_sized (Md.forward_right HR.out.2.2.2.2 HTK.out) HD.out)
    clear hr6 hr5 hr4 HC5 hB4 q4 p0 p1 HH
    go_wp2_with (first
      | (go_at_call 19; refine HSM.out.mono ?_; rintro e u7 ⟨rfl, hb7⟩)
      | (go_at_call 11; refine (mawake _).mono ?_; rintro e u9 ⟨rfl, hb9⟩))
    go_ret
    exact ⟨rfl, bel_then (bel_then hB6 hb7) hb9⟩

/- From the walk to the row. -/
set_option maxRecDepth 100000 in
theorem lifted (os : Os) (started : os.Started) (H : Type) (enc : TypeId × Value → H) :
    ReturnsInHanded {} Try.checked os 7 .any (Rows.modelFirstSpec.pre6 enc Try.prog Try.f7 Rows.modelFirstRow.domain false) (Rows.modelFirstSpec.post enc Try.prog Try.f7 false true false false) := by
  refine returnsInHanded_of_change (C := Try.checked) own started (by kernel_rfl) Try.func7
    (ChangeSpec.witness6 (enc := enc) (C := Try.checked) false ⟨#[], #[.agg #[.int .i64 0, .slice none 0 0], .slice none 0 0, .int .u8 0], []⟩ 8 (by kernel_rfl) (by kernel_rfl) (by kernel_rfl) (by kernel_rfl)) ?_
  intro W base args ds gs before hval0 hW hcnd _
  have hval : ∀ (j : Nat) t v, Try.f7.params[j]? = some t → args[j]? = some v → Value.okWide Try.prog W .any base t v := hval0
  have hW' := hW
  obtain ⟨p, q, hA0, hV, rfl, hfz, hnd⟩ := hW
  have hA : DataW.TrodAll enc Try.prog W 0 (fun _ => true) true Try.f7.params.toList args.toList ds p := hA0
  rw [Try.params7] at hA hval
  obtain ⟨v0, vs0, d0, ds0, p0, q0, hargs, rfl, rfl, h0, r0⟩ := trodAll_cons hA
  obtain ⟨v1, vs1, d1, ds1, p1, q1, rfl, rfl, rfl, h1, r1⟩ := trodAll_cons r0
  obtain ⟨v2, vs2, d2, ds2, p2, q2, rfl, rfl, rfl, h2, r2⟩ := trodAll_cons r1
  obtain ⟨rfl, rfl, rfl⟩ := trodAll_nil r2
  obtain rfl : args = #[v0, v1, v2] := by cases args; simp_all
  obtain ⟨rfl, rfl⟩ := trodVars_none hV
  obtain ⟨cs0, rfl⟩ := okWide_agg Try.underlying24 (hval 0 24 v0 rfl rfl)
  have k0 := h0
  have lt0 : ∀ x ∈ p0, x.block < W.heap.size := by obtain ⟨m, hm⟩ := k0; exact DataW.trod_lt m _ _ _ hm
  obtain ⟨y0, hy0, hw0⟩ : ∃ y, (consS (intS .i64) (consS (sliceS (consS (sliceS (sliceS (intS .i64))) (consS (sliceS (consS (sliceS (sliceS (intS .i64))) (consS (sliceS (sliceS (intS .i64))) noneS))) (consS (intS .i64) noneS)))) noneS)).rep W everywhere cs0 y ∧ ((Lit.int .i64 y.1).wf = true ∧ ((∀ x0 ∈ y.2.1, ((∀ x1 ∈ x0.1, (∀ x2 ∈ x1, (Lit.int .i64 x2).wf = true)) ∧ ((∀ x1 ∈ x0.2.1, ((∀ x2 ∈ x1.1, (∀ x3 ∈ x2, (Lit.int .i64 x3).wf = true)) ∧ ((∀ x2 ∈ x1.2.1, (∀ x3 ∈ x2, (Lit.int .i64 x3).wf = true)) ∧ True))) ∧ ((Lit.int .i64 x0.2.2.1).wf = true ∧ True)))) ∧ True)) := by
    obtain ⟨fuel, hf⟩ := h0
    exact (opens_struct Try.underlying24 (show Try.prog.cellsOf 24 = 2 by kernel_rfl) (opensAt_cons (A := (intS .i64)) rfl (show Try.prog.cellsOf 3 = 1 by kernel_rfl) (opens_int Try.underlying3) (opensAt_cons (A := (sliceS (consS (sliceS (sliceS (intS .i64))) (consS (sliceS (consS (sliceS (sliceS (intS .i64))) (consS (sliceS (sliceS (intS .i64))) noneS))) (consS (intS .i64) noneS))))) rfl (show Try.prog.cellsOf 22 = 1 by kernel_rfl) (opens_slice (A := (consS (sliceS (sliceS (intS .i64))) (consS (sliceS (consS (sliceS (sliceS (intS .i64))) (consS (sliceS (sliceS (intS .i64))) noneS))) (consS (intS .i64) noneS)))) Try.underlying22 (show Try.prog.cellsOf 37 = 3 by kernel_rfl) (by exact Nat.succ_pos _) (opens_struct Try.underlying37 (show Try.prog.cellsOf 37 = 3 by kernel_rfl) (opensAt_cons (A := (sliceS (sliceS (intS .i64)))) rfl (show Try.prog.cellsOf 25 = 1 by kernel_rfl) (opens_slice (A := (sliceS (intS .i64))) Try.underlying25 (show Try.prog.cellsOf 47 = 1 by kernel_rfl) (by exact Nat.succ_pos _) (opens_slice (A := (intS .i64)) Try.underlying47 (show Try.prog.cellsOf 3 = 1 by kernel_rfl) (by exact Nat.succ_pos _) (opens_int Try.underlying3))) (opensAt_cons (A := (sliceS (consS (sliceS (sliceS (intS .i64))) (consS (sliceS (sliceS (intS .i64))) noneS)))) rfl (show Try.prog.cellsOf 35 = 1 by kernel_rfl) (opens_slice (A := (consS (sliceS (sliceS (intS .i64))) (consS (sliceS (sliceS (intS .i64))) noneS))) Try.underlying35 (show Try.prog.cellsOf 46 = 2 by kernel_rfl) (by exact Nat.succ_pos _) (opens_struct Try.underlying46 (show Try.prog.cellsOf 46 = 2 by kernel_rfl) (opensAt_cons (A := (sliceS (sliceS (intS .i64)))) rfl (show Try.prog.cellsOf 25 = 1 by kernel_rfl) (opens_slice (A := (sliceS (intS .i64))) Try.underlying25 (show Try.prog.cellsOf 47 = 1 by kernel_rfl) (by exact Nat.succ_pos _) (opens_slice (A := (intS .i64)) Try.underlying47 (show Try.prog.cellsOf 3 = 1 by kernel_rfl) (by exact Nat.succ_pos _) (opens_int Try.underlying3))) (opensAt_cons (A := (sliceS (sliceS (intS .i64)))) rfl (show Try.prog.cellsOf 25 = 1 by kernel_rfl) (opens_slice (A := (sliceS (intS .i64))) Try.underlying25 (show Try.prog.cellsOf 47 = 1 by kernel_rfl) (by exact Nat.succ_pos _) (opens_slice (A := (intS .i64)) Try.underlying47 (show Try.prog.cellsOf 3 = 1 by kernel_rfl) (by exact Nat.succ_pos _) (opens_int Try.underlying3))) opensAt_nil (by rfl)) (by rfl)))) (opensAt_cons (A := (intS .i64)) rfl (show Try.prog.cellsOf 3 = 1 by kernel_rfl) (opens_int Try.underlying3) opensAt_nil (by rfl)) (by rfl)) (by rfl)))) opensAt_nil (by rfl)) (by rfl))) H enc W _ _ _ fuel _ _ (by simpa [Value.cells] using hf)
  obtain ⟨a0_0, m0_1, _⟩ := y0
  obtain ⟨d0_0, rfl, hy0_0⟩ := consS_int hy0
  obtain ⟨a0_1, len0_1, cap0_1, d0_1, rfl, w0_1, hy0_1⟩ := consS_slice hy0_0
  obtain rfl := noneS_nil hy0_1
  obtain ⟨w0_0, f0_1, _⟩ := hw0
  obtain ⟨a1, len1, cap1, rfl⟩ := okWide_slice Try.underlying25 (hval 1 25 v1 rfl rfl)
  have k1 := h1
  have lt1 : ∀ x ∈ p1, x.block < W.heap.size := by obtain ⟨m, hm⟩ := k1; exact DataW.trod_lt m _ _ _ hm
  obtain ⟨m1, w1, f1⟩ : ∃ y, (sliceS (sliceS (intS .i64))).rep W everywhere [.slice a1 len1 cap1] y ∧ (∀ x0 ∈ y, (∀ x1 ∈ x0, (Lit.int .i64 x1).wf = true)) := by
    obtain ⟨fuel, hf⟩ := h1
    exact (opens_slice (A := (sliceS (intS .i64))) Try.underlying25 (show Try.prog.cellsOf 47 = 1 by kernel_rfl) (by exact Nat.succ_pos _) (opens_slice (A := (intS .i64)) Try.underlying47 (show Try.prog.cellsOf 3 = 1 by kernel_rfl) (by exact Nat.succ_pos _) (opens_int Try.underlying3))) H enc W _ _ _ fuel _ _ hf
  obtain ⟨a2, rfl, rfl, rfl, w2⟩ := open_int Try.underlying5 (hval 2 5 v2 rfl rfl) h2
  clear hA0 hval0
  refine (walk a0_0 a0_1 len0_1 cap0_1 m0_1 a1 len1 cap1 m1 a2 W w0_0 w0_1 f0_1 w1 f1 w2).mono fun e W' ⟨he, bel⟩ => ?_
  subst he
  exact ⟨_, rfl, _, _, _, [], _, [], hW', trodAll_mk1 (shut_bool Try.underlying4 _), (trodAll_cons_mk (Below.trod laidOut (by kernel_rfl) (of_decide_eq_true (by kernel_rfl)) k0 bel lt0) (trodAll_cons_mk (Below.trod laidOut (by kernel_rfl) (of_decide_eq_true (by kernel_rfl)) k1 bel lt1) (trodAll_cons_mk (shut_int Try.underlying5 w2) trodAll_mk0))), rfl, bel.frame _, fun h => by cases h⟩

theorem over : Rows.modelFirstRow.holds Try.pinned (OpenSpec.ofChange Rows.modelFirstSpec) :=
  OpenClaim.holds_of_wide 7 Try.f7 rfl rfl rfl rfl rfl rfl rfl ⟨rfl, rfl, rfl, rfl, rfl⟩ rfl rfl rfl rfl rfl (by kernel_rfl) Try.func7 (by kernel_rfl)
    (of_decide_eq_true (by kernel_rfl)) (by unfold Func.isWrapper; first | (rw [if_pos (by decide +kernel)]; kernel_rfl) | (rw [if_neg (by decide +kernel)]; exact ⟨rfl, rfl⟩))
    (fun os started H enc _ => lifted os started H enc)

end Go.Proofs.Ytmechoeoaadfeaa.modelFirst

namespace Go.Proofs.Ytmechoeoaadfeaa
theorem modelFirst_holds : Rows.ModelFirstSaid := modelFirst.over
end Go.Proofs.Ytmechoeoaadfeaa
