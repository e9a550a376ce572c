/- ModelLayers is true for every model and tokens. -/
import Derived.Test.YtmechoeoaadfeaaRows
import Derived.Test.YtmechoeoaadfeaaMdlX
import Derived.WalkKit
import Derived.ProofKit
import Derived.OpenShut
import Derived.ShutString
import Derived.ChangeOld
import Derived.Below
namespace Go.Proofs.Ytmechoeoaadfeaa.modelLayers
open Go.ChangeShapes Go.WideShapes Go.ChangeAt Go.RowKit
open Go.ChangeMaps (open_string shut_string)
set_option linter.unusedVariables false

theorem own : ownKnob Try.prog.godebug = none := by kernel_rfl
theorem laidOut : laidOutB Try.prog = true := by kernel_rfl

/- The walk: the call returns true, and nothing that was there is written. -/
set_option maxHeartbeats 4000000 in
set_option maxRecDepth 100000 in
theorem walk (a0_0 : Int) (a0_1 : Option Addr) (len0_1 cap0_1 : Nat) (m0_1 : List ((List (List Int)) × (List ((List (List Int)) × (List (List Int)) × Unit)) × Int × Unit)) (a1 : Option Addr) (len1 cap1 : Nat) (m1 : List (List Int)) (w : World) (w0_0 : (Lit.int .i64 a0_0).wf = true) (w0_1 : (sliceS (consS (sliceS (sliceS (intS .i64))) (consS (sliceS (consS (sliceS (sliceS (intS .i64))) (consS (sliceS (sliceS (intS .i64))) noneS))) (consS (intS .i64) noneS)))).rep w everywhere [.slice a0_1 len0_1 cap0_1] m0_1) (f0_1 : (∀ x0 ∈ m0_1, ((∀ x1 ∈ x0.1, (∀ x2 ∈ x1, (Lit.int .i64 x2).wf = true)) ∧ ((∀ x1 ∈ x0.2.1, ((∀ x2 ∈ x1.1, (∀ x3 ∈ x2, (Lit.int .i64 x3).wf = true)) ∧ ((∀ x2 ∈ x1.2.1, (∀ x3 ∈ x2, (Lit.int .i64 x3).wf = true)) ∧ True))) ∧ ((Lit.int .i64 x0.2.2.1).wf = true ∧ True))))) (w1 : (sliceS (sliceS (intS .i64))).rep w everywhere [.slice a1 len1 cap1] m1) (f1 : (∀ x0 ∈ m1, (∀ x1 ∈ x0, (Lit.int .i64 x1).wf = true))) :
    Calls Try.prog 5 #[.agg #[.int .i64 a0_0, .slice a0_1 len0_1 cap0_1], .slice a1 len1 cap1] w fun e w' => e = .returned (.bool true) ∧ Below w.heap.size w w' := by
  have HX : Hid (lysS.rep w everywhere [.slice a0_1 len0_1 cap0_1] m0_1) := w0_1
  have HT : Hid (matS.rep w everywhere [.slice a1 len1 cap1] m1) := w1
  have HL : Hid (m0_1.length = len0_1) := (sliceS_len w0_1).1
  have HLT : Hid (m1.length = len1) := (sliceS_len w1).1
  have hcap0 : len0_1 ≤ cap0_1 := (sliceS_len w0_1).2.1
  have hcap1 : len1 ≤ cap1 := (sliceS_len w1).2.1
  clear w0_0 w0_1 f0_1 w1 f1
  have hB := new_bel w (.cells #[.int .i64 a0_0, .slice a0_1 len0_1 cap0_1] 24)
  have q := Box.new w 24 #[.int .i64 a0_0, .slice a0_1 len0_1 cap0_1]
  have HC1 : Hid (Calls _ _ _ _ _) := msmall a0_1 len0_1 cap0_1 m0_1 a0_0 _ (Shape.below HX.out hB)
  go_enter Try.func5, Try.ntmps5
  go_wp2_with fail
  refine HC1.out.mono ?_
  rintro e u1 ⟨hs, hb1⟩
  have hB1 := bel_then hB hb1
  have q1 := q.keep hb1
  by_cases hS : Md.Small m0_1
  case neg =>
    rw [hs.not hS]
    clear hs hS HC1 hB q q1 hb1
    go_wp2_with (go_at_call 11; refine (mawake _).mono ?_; rintro e u9 ⟨rfl, hb9⟩)
    go_ret
    exact ⟨rfl, bel_then hB1 hb9⟩
  rw [hs.is hS]
  have HS : Hid (Md.Small m0_1) := hS
  have h1 := Shape.below HT.out hB1
  clear hs hS HC1 hB q hb1
  go_wp2_with fail
  refine by_says (small a1 len1 cap1 m1 everywhere u1 h1) (fun hS => ?_) (fun hS => ?_)
  case refine_2 =>
    clear hS h1 q1
    go_wp2_with (go_at_call 11; refine (mawake _).mono ?_; rintro e u9 ⟨rfl, hb9⟩)
    go_ret
    exact ⟨rfl, bel_then hB1 hb9⟩
  have HST : Hid (Mx.Small m1) := hS
  clear hS h1
  have p0 := q1.cell 0 rfl
  have p1 := q1.cell 1 rfl
  have HC2 : Hid (Calls _ _ _ _ _) := rmright a0_1 len0_1 cap0_1 m0_1 a0_0 u1 (Shape.below HX.out hB1) (by have := HS.out.1; have := HL.out; omega) (fun l hl => Md.small_lsized (HS.out.2 l hl))
  go_wp2_with fail
  refine HC2.out.mono ?_
  rintro e u2 ⟨hs, hb2⟩
  have hB2 := bel_then hB1 hb2
  have q2 := q1.keep hb2
  clear HC2 hB1 q1 hb2 p0 p1
  by_cases hR : Md.Right a0_0 m0_1
  case neg =>
    rw [hs.not hR]
    clear hs hR q2
    go_wp2_with (go_at_call 11; refine (mawake _).mono ?_; rintro e u9 ⟨rfl, hb9⟩)
    go_ret
    exact ⟨rfl, bel_then hB2 hb9⟩
  rw [hs.is hR]
  have HR : Hid (Md.Right a0_0 m0_1) := hR
  have p0 := q2.cell 0 rfl
  have p1 := q2.cell 1 rfl
  have HC3 : Hid (Calls _ _ _ _ _) := rmtokens a0_1 len0_1 cap0_1 a0_0 a1 len1 cap1 m1 u2 (Shape.below HT.out hB2) (Ex.small_sized HST.out)
  clear hs hR
  go_wp2_with fail
  refine HC3.out.mono ?_
  rintro e u3 ⟨hs, hb3⟩
  have hB3 := bel_then hB2 hb3
  have q3 := q2.keep hb3
  clear HC3 hB2 q2 hb3 p0 p1
  by_cases hR : Md.TRight a0_0 m1
  case neg =>
    rw [hs.not hR]
    clear hs hR
    go_wp2_with (go_at_call 11; refine (mawake _).mono ?_; rintro e u9 ⟨rfl, hb9⟩)
    go_ret
    exact ⟨rfl, bel_then hB3 hb9⟩
  rw [hs.is hR]
  have HTR : Hid (Md.TRight a0_0 m1) := hR
  have p0 := q3.cell 0 rfl
  have p1 := q3.cell 1 rfl
  have hn4 : len0_1 ≤ 4 := by have := HR.out.2.2.2.1; have := HL.out; omega
  have hn1 : 1 ≤ len0_1 := by have := HR.out.2.2.1; have := HL.out; omega
  have hm16 : len1 ≤ 16 := by have := HTR.out.2.1; have := HLT.out; omega
  have hm1 : 1 ≤ len1 := by have := HTR.out.1; have := HLT.out; omega
  have HD : Hid (a0_0 ≤ 8) := HR.out.2.1
  clear hs hR
  by_cases h2 : (len0_1 : Int) < 2
  · go_wp2_with (go_at_call 11; refine (mawake _).mono ?_; rintro e u9 ⟨rfl, hb9⟩)
    go_ret
    exact ⟨rfl, bel_then hB3 hb9⟩
  obtain ⟨N, hN⟩ : ∃ N : Nat, (len0_1 : Int) - 1 = (N : Int) := ⟨len0_1 - 1, by omega⟩
  have hN1 : 1 ≤ N := by omega
  have hN2 : N ≤ len0_1 := by omega
  have hN3 : N < len0_1 := by omega
  have HN : Hid ((len0_1 : Int) - 1 = (N : Int)) := hN
  clear hN
  obtain ⟨i0, hi0, hi1, hi2, hi3⟩ := info_parts Try.infoLayer
  have HR1 : Hid (Md.Right a0_0 (m0_1.take N)) := Md.right_take HR.out hN1 (by rw [HL.out]; exact hN2)
  have HR2 : Hid (Md.Right a0_0 (m0_1.drop N)) := Md.right_drop HR.out (by rw [HL.out]; exact hN3)
  have hE1 : ∀ w : World, (Instr.slice 22 (.slice a0_1 len0_1 cap0_1) none (some (.int .i64 (N : Int))) none).run Try.prog w = .ok (.slice a0_1 N cap0_1) w := fun w => by
    rw [run_slice_h w 22 a0_1 len0_1 cap0_1 Try.underlying22 .i64 N (by omega) (by omega)]
    simp [sizeOf, typeInfo, go_sem, hi0, hi2]
  obtain ⟨E, hE2, hrE⟩ : ∃ E, (∀ w : World, (Instr.slice 22 (.slice a0_1 len0_1 cap0_1) (some (.int .i64 (N : Int))) none none).run Try.prog w = .ok (.slice E (len0_1 - N) (cap0_1 - N)) w) ∧ lysS.rep w everywhere [.slice E (len0_1 - N) (cap0_1 - N)] (m0_1.drop N) := by
    refine ⟨_, fun w => ?_, rep_drop HX.out (k := N) hN2⟩
    rw [run_slice_l w 22 a0_1 len0_1 cap0_1 Try.underlying22 .i64 N (by omega) (by omega)]
    simp [sizeOf, typeInfo, go_sem, hi0, hi2]
    rfl
  have HRE : Hid (lysS.rep w everywhere [.slice E (len0_1 - N) (cap0_1 - N)] (m0_1.drop N)) := hrE
  clear hrE
  go_upto_region 4 with fail
  generalize (len0_1 : Int) - 1 = Z at *
  obtain rfl : Z = (N : Int) := HN.out
  clear HN
  have hD : Below u3.heap.size u3 u3.drew := (Below.refl _ u3).drew
  have HC4 : Hid (Calls _ _ _ _ _) := mforward a0_1 N cap0_1 (m0_1.take N) a0_0 a1 len1 cap1 m1 u3.drew (Shape.below (rep_take (Shape.below HX.out hB3) hN2) hD) (Shape.below (Shape.below HT.out hB3) hD) HR1.out HTR.out
  have HH : Hid (∀ u, Below u3.heap.size u3 u → u.cell? ⟨w.heap.size, 0, none⟩ = some (.int .i64 a0_0) ∧ u.cell? ⟨w.heap.size, 1, none⟩ = some (.slice a0_1 len0_1 cap0_1)) := fun u hb => ⟨(q3.keep hb).cell 0 rfl, (q3.keep hb).cell 1 rfl⟩
  go_region_held3 (fun w' => w'.cell? ⟨w.heap.size, 0, none⟩ = some (.int .i64 a0_0) ∧ w'.cell? ⟨w.heap.size, 1, none⟩ = some (.slice a0_1 len0_1 cap0_1))
    (first
      | exact HH.out _ hd4
      | exact HH.out _ hD
      | exact HH.out _ (Below.refl _ _)
      | go_keep)
    (first
      | (go_at_call 12; refine HC4.out.mono ?_; rintro e u4 ⟨hb4, ra, rc, rfl, hr4⟩; have hd4 := bel_then hD hb4))
  clear HH
  have hB4 := bel_then hB3 hd4
  have q4 := q3.keep hd4
  clear HC4 hB3 q3 hb4 hd4 hD p0 p1
  have p0 := q4.cell 0 rfl
  have p1 := q4.cell 1 rfl
  have HT1 : Hid (Md.TRight a0_0 (Md.forward (m0_1.take N) m1)) := Md.forward_right HR1.out.2.2.2.2 HTR.out
  have hD : Below u4.heap.size u4 u4.drew := (Below.refl _ u4).drew
  have HC5 : Hid (Calls _ _ _ _ _) := mforward E (len0_1 - N) (cap0_1 - N) (m0_1.drop N) a0_0 ra len1 rc _ u4.drew (Shape.below (Shape.below HRE.out hB4) hD) (Shape.below hr4 hD) HR2.out HT1.out
  go_upto_region 5 with fail
  have HH : Hid (∀ u, Below u4.heap.size u4 u → u.cell? ⟨w.heap.size, 0, none⟩ = some (.int .i64 a0_0) ∧ u.cell? ⟨w.heap.size, 1, none⟩ = some (.slice a0_1 len0_1 cap0_1)) := fun u hb => ⟨(q4.keep hb).cell 0 rfl, (q4.keep hb).cell 1 rfl⟩
  go_region_held3 (fun w' => w'.cell? ⟨w.heap.size, 0, none⟩ = some (.int .i64 a0_0) ∧ w'.cell? ⟨w.heap.size, 1, none⟩ = some (.slice a0_1 len0_1 cap0_1))
    (first
      | exact HH.out _ hd5
      | exact HH.out _ hD
      | exact HH.out _ (Below.refl _ _)
      | go_keep)
    (first
      | (go_at_call 12; refine HC5.out.mono ?_; rintro e u5 ⟨hb5, sa, sc, rfl, hr5⟩; have hd5 := bel_then hD hb5))
  clear HH
  rw [Md.forward_parts] at hr5
  have hB5 := bel_then hB4 hd5
  have q5 := q4.keep hd5
  clear HC5 hB4 q4 hb5 hd5 hD p0 p1 hr4 hE1 hE2
  have p0 := q5.cell 0 rfl
  have p1 := q5.cell 1 rfl
  have HC6 : Hid (Calls _ _ _ _ _) := mforward a0_1 len0_1 cap0_1 m0_1 a0_0 a1 len1 cap1 m1 u5 (Shape.below HX.out hB5) (Shape.below HT.out hB5) HR.out HTR.out
  go_wp2_with fail
  refine HC6.out.mono ?_
  rintro e u6 ⟨hb6, ta, tc, rfl, hr6⟩
  have hB6 := bel_then hB5 hb6
  have q6 := q5.keep hb6
  have hr5 := Shape.below hr5 hb6
  clear HC6 hB5 q5 hb6 p0 p1
  have p0 := q6.cell 0 rfl
  have p1 := q6.cell 1 rfl
  have HC7 : Hid (Calls _ _ _ _ _) := mforward_no a0_1 len0_1 cap0_1 m0_1 a0_0 none 0 0 [] u6 (Shape.below HX.out hB6) (rep_none _ _ _) (by omega) (Md.right_sizes HR.out) ⟨by simp, fun l hl => by simp at hl⟩ (fun h => Md.no_tokens h.2)
  go_wp2_with fail
  refine HC7.out.mono ?_
  rintro e u7 ⟨rfl, hb7⟩
  have hB7 := bel_then hB6 hb7
  have q7 := q6.keep hb7
  have hr5 := Shape.below hr5 hb7
  have hr6 := Shape.below hr6 hb7
  clear HC7 hB6 q6 hb7 p0 p1
  have p0 := q7.cell 0 rfl
  have p1 := q7.cell 1 rfl
  have r0 : ∀ o, (u7.alloc o).cell? ⟨w.heap.size, 0, none⟩ = some (.int .i64 a0_0) := fun o => (q7.keep (new_bel u7 o)).cell 0 rfl
  have r1 : ∀ o, (u7.alloc o).cell? ⟨w.heap.size, 1, none⟩ = some (.slice a0_1 len0_1 cap0_1) := fun o => (q7.keep (new_bel u7 o)).cell 1 rfl
  have hmk : ∀ u : World, (Instr.makeSlice 25 (.int .i64 17) (.int .i64 17)).run Try.prog u = .ok (.slice (some ⟨u.heap.size, 0, none⟩) 17 17) (u.alloc (.cells (madeCells #[.slice none 0 0] 17) 47)) := fun u => run_make_row' (P := Try.prog) 25 47 (.slice none 0 0) 24 Try.underlying25 Try.infoRow rfl .i64 .i64 17 (by omega) (by omega) u
  have hM : Below u7.heap.size u7 (u7.alloc (.cells (madeCells #[.slice none 0 0] 17) 47)).drew := (new_bel _ _).drew
  have HC8 : Hid (Calls _ _ _ _ _) := mforward_no a0_1 len0_1 cap0_1 m0_1 a0_0 (some ⟨u7.heap.size, 0, none⟩) 17 17 (List.replicate 17 []) (u7.alloc (.cells (madeCells #[.slice none 0 0] 17) 47)).drew (Shape.below (Shape.below HX.out hB7) hM) (Shape.below (rows17 u7) ((Below.refl _ _).drew)) (by omega) (Md.right_sizes HR.out) Md.sized_many (fun h => Md.many_tokens h.2)
  go_upto_region 8 with fail
  go_region_with (go_at_call 12; refine HC8.out.mono ?_; rintro e u8 ⟨rfl, hb8⟩)
  all_goals
    have hd8 := bel_then hM hb8
    have hB8 := bel_then hB7 hd8
    have HSM : Hid (Calls _ _ _ _ _) := msame sa ta len1 sc tc _ u8 (Shape.below hr5 hd8) (Shape.below hr6 hd8) (Md.tright_sized (Md.forward_right HR.out.2.2.2.2 HTR.out) HD.out)
    clear hr5 hr6 HC8 hB7 q7 p0 p1 r0 r1 hmk hM hd8 hb8
    go_wp2_with (first
      | (go_at_call 19; refine HSM.out.mono ?_; rintro e u7 ⟨rfl, hb7⟩)
      | (go_at_call 11; refine (mawake _).mono ?_; rintro e u9 ⟨rfl, hb9⟩))
    go_ret
    exact ⟨rfl, bel_then (bel_then hB8 hb7) hb9⟩

/- From the walk to the row. -/
set_option maxRecDepth 100000 in
theorem lifted (os : Os) (started : os.Started) (H : Type) (enc : TypeId × Value → H) :
    ReturnsInHanded {} Try.checked os 5 .any (Rows.modelLayersSpec.pre6 enc Try.prog Try.f5 Rows.modelLayersRow.domain false) (Rows.modelLayersSpec.post enc Try.prog Try.f5 false true false false) := by
  refine returnsInHanded_of_change (C := Try.checked) own started (by kernel_rfl) Try.func5
    (ChangeSpec.witness6 (enc := enc) (C := Try.checked) false ⟨#[], #[.agg #[.int .i64 0, .slice none 0 0], .slice none 0 0], []⟩ 8 (by kernel_rfl) (by kernel_rfl) (by kernel_rfl) (by kernel_rfl)) ?_
  intro W base args ds gs before hval0 hW hcnd _
  have hval : ∀ (j : Nat) t v, Try.f5.params[j]? = some t → args[j]? = some v → Value.okWide Try.prog W .any base t v := hval0
  have hW' := hW
  obtain ⟨p, q, hA0, hV, rfl, hfz, hnd⟩ := hW
  have hA : DataW.TrodAll enc Try.prog W 0 (fun _ => true) true Try.f5.params.toList args.toList ds p := hA0
  rw [Try.params5] at hA hval
  obtain ⟨v0, vs0, d0, ds0, p0, q0, hargs, rfl, rfl, h0, r0⟩ := trodAll_cons hA
  obtain ⟨v1, vs1, d1, ds1, p1, q1, rfl, rfl, rfl, h1, r1⟩ := trodAll_cons r0
  obtain ⟨rfl, rfl, rfl⟩ := trodAll_nil r1
  obtain rfl : args = #[v0, v1] := by cases args; simp_all
  obtain ⟨rfl, rfl⟩ := trodVars_none hV
  obtain ⟨cs0, rfl⟩ := okWide_agg Try.underlying24 (hval 0 24 v0 rfl rfl)
  have k0 := h0
  have lt0 : ∀ x ∈ p0, x.block < W.heap.size := by obtain ⟨m, hm⟩ := k0; exact DataW.trod_lt m _ _ _ hm
  obtain ⟨y0, hy0, hw0⟩ : ∃ y, (consS (intS .i64) (consS (sliceS (consS (sliceS (sliceS (intS .i64))) (consS (sliceS (consS (sliceS (sliceS (intS .i64))) (consS (sliceS (sliceS (intS .i64))) noneS))) (consS (intS .i64) noneS)))) noneS)).rep W everywhere cs0 y ∧ ((Lit.int .i64 y.1).wf = true ∧ ((∀ x0 ∈ y.2.1, ((∀ x1 ∈ x0.1, (∀ x2 ∈ x1, (Lit.int .i64 x2).wf = true)) ∧ ((∀ x1 ∈ x0.2.1, ((∀ x2 ∈ x1.1, (∀ x3 ∈ x2, (Lit.int .i64 x3).wf = true)) ∧ ((∀ x2 ∈ x1.2.1, (∀ x3 ∈ x2, (Lit.int .i64 x3).wf = true)) ∧ True))) ∧ ((Lit.int .i64 x0.2.2.1).wf = true ∧ True)))) ∧ True)) := by
    obtain ⟨fuel, hf⟩ := h0
    exact (opens_struct Try.underlying24 (show Try.prog.cellsOf 24 = 2 by kernel_rfl) (opensAt_cons (A := (intS .i64)) rfl (show Try.prog.cellsOf 3 = 1 by kernel_rfl) (opens_int Try.underlying3) (opensAt_cons (A := (sliceS (consS (sliceS (sliceS (intS .i64))) (consS (sliceS (consS (sliceS (sliceS (intS .i64))) (consS (sliceS (sliceS (intS .i64))) noneS))) (consS (intS .i64) noneS))))) rfl (show Try.prog.cellsOf 22 = 1 by kernel_rfl) (opens_slice (A := (consS (sliceS (sliceS (intS .i64))) (consS (sliceS (consS (sliceS (sliceS (intS .i64))) (consS (sliceS (sliceS (intS .i64))) noneS))) (consS (intS .i64) noneS)))) Try.underlying22 (show Try.prog.cellsOf 37 = 3 by kernel_rfl) (by exact Nat.succ_pos _) (opens_struct Try.underlying37 (show Try.prog.cellsOf 37 = 3 by kernel_rfl) (opensAt_cons (A := (sliceS (sliceS (intS .i64)))) rfl (show Try.prog.cellsOf 25 = 1 by kernel_rfl) (opens_slice (A := (sliceS (intS .i64))) Try.underlying25 (show Try.prog.cellsOf 47 = 1 by kernel_rfl) (by exact Nat.succ_pos _) (opens_slice (A := (intS .i64)) Try.underlying47 (show Try.prog.cellsOf 3 = 1 by kernel_rfl) (by exact Nat.succ_pos _) (opens_int Try.underlying3))) (opensAt_cons (A := (sliceS (consS (sliceS (sliceS (intS .i64))) (consS (sliceS (sliceS (intS .i64))) noneS)))) rfl (show Try.prog.cellsOf 35 = 1 by kernel_rfl) (opens_slice (A := (consS (sliceS (sliceS (intS .i64))) (consS (sliceS (sliceS (intS .i64))) noneS))) Try.underlying35 (show Try.prog.cellsOf 46 = 2 by kernel_rfl) (by exact Nat.succ_pos _) (opens_struct Try.underlying46 (show Try.prog.cellsOf 46 = 2 by kernel_rfl) (opensAt_cons (A := (sliceS (sliceS (intS .i64)))) rfl (show Try.prog.cellsOf 25 = 1 by kernel_rfl) (opens_slice (A := (sliceS (intS .i64))) Try.underlying25 (show Try.prog.cellsOf 47 = 1 by kernel_rfl) (by exact Nat.succ_pos _) (opens_slice (A := (intS .i64)) Try.underlying47 (show Try.prog.cellsOf 3 = 1 by kernel_rfl) (by exact Nat.succ_pos _) (opens_int Try.underlying3))) (opensAt_cons (A := (sliceS (sliceS (intS .i64)))) rfl (show Try.prog.cellsOf 25 = 1 by kernel_rfl) (opens_slice (A := (sliceS (intS .i64))) Try.underlying25 (show Try.prog.cellsOf 47 = 1 by kernel_rfl) (by exact Nat.succ_pos _) (opens_slice (A := (intS .i64)) Try.underlying47 (show Try.prog.cellsOf 3 = 1 by kernel_rfl) (by exact Nat.succ_pos _) (opens_int Try.underlying3))) opensAt_nil (by rfl)) (by rfl)))) (opensAt_cons (A := (intS .i64)) rfl (show Try.prog.cellsOf 3 = 1 by kernel_rfl) (opens_int Try.underlying3) opensAt_nil (by rfl)) (by rfl)) (by rfl)))) opensAt_nil (by rfl)) (by rfl))) H enc W _ _ _ fuel _ _ (by simpa [Value.cells] using hf)
  obtain ⟨a0_0, m0_1, _⟩ := y0
  obtain ⟨d0_0, rfl, hy0_0⟩ := consS_int hy0
  obtain ⟨a0_1, len0_1, cap0_1, d0_1, rfl, w0_1, hy0_1⟩ := consS_slice hy0_0
  obtain rfl := noneS_nil hy0_1
  obtain ⟨w0_0, f0_1, _⟩ := hw0
  obtain ⟨a1, len1, cap1, rfl⟩ := okWide_slice Try.underlying25 (hval 1 25 v1 rfl rfl)
  have k1 := h1
  have lt1 : ∀ x ∈ p1, x.block < W.heap.size := by obtain ⟨m, hm⟩ := k1; exact DataW.trod_lt m _ _ _ hm
  obtain ⟨m1, w1, f1⟩ : ∃ y, (sliceS (sliceS (intS .i64))).rep W everywhere [.slice a1 len1 cap1] y ∧ (∀ x0 ∈ y, (∀ x1 ∈ x0, (Lit.int .i64 x1).wf = true)) := by
    obtain ⟨fuel, hf⟩ := h1
    exact (opens_slice (A := (sliceS (intS .i64))) Try.underlying25 (show Try.prog.cellsOf 47 = 1 by kernel_rfl) (by exact Nat.succ_pos _) (opens_slice (A := (intS .i64)) Try.underlying47 (show Try.prog.cellsOf 3 = 1 by kernel_rfl) (by exact Nat.succ_pos _) (opens_int Try.underlying3))) H enc W _ _ _ fuel _ _ hf
  clear hA0 hval0
  refine (walk a0_0 a0_1 len0_1 cap0_1 m0_1 a1 len1 cap1 m1 W w0_0 w0_1 f0_1 w1 f1).mono fun e W' ⟨he, bel⟩ => ?_
  subst he
  exact ⟨_, rfl, _, _, _, [], _, [], hW', trodAll_mk1 (shut_bool Try.underlying4 _), (trodAll_cons_mk (Below.trod laidOut (by kernel_rfl) (of_decide_eq_true (by kernel_rfl)) k0 bel lt0) (trodAll_cons_mk (Below.trod laidOut (by kernel_rfl) (of_decide_eq_true (by kernel_rfl)) k1 bel lt1) trodAll_mk0)), rfl, bel.frame _, fun h => by cases h⟩

theorem over : Rows.modelLayersRow.holds Try.pinned (OpenSpec.ofChange Rows.modelLayersSpec) :=
  OpenClaim.holds_of_wide 5 Try.f5 rfl rfl rfl rfl rfl rfl rfl ⟨rfl, rfl, rfl, rfl, rfl⟩ rfl rfl rfl rfl rfl (by kernel_rfl) Try.func5 (by kernel_rfl)
    (of_decide_eq_true (by kernel_rfl)) (by unfold Func.isWrapper; first | (rw [if_pos (by decide +kernel)]; kernel_rfl) | (rw [if_neg (by decide +kernel)]; exact ⟨rfl, rfl⟩))
    (fun os started H enc _ => lifted os started H enc)

end Go.Proofs.Ytmechoeoaadfeaa.modelLayers

namespace Go.Proofs.Ytmechoeoaadfeaa
theorem modelLayers_holds : Rows.ModelLayersSaid := modelLayers.over
end Go.Proofs.Ytmechoeoaadfeaa
