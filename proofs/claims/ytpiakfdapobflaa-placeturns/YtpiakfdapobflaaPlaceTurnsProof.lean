/- Whatever map, expert and node: what Add and Retire answer is what the document says, the error's number and the map with its epoch and its holders. Conditions: none beyond those of the statement (at most 30 rows of 30 numbers; else the fixed answer). -/
import Derived.Test.YtpiakfdapobflaaRows
import Derived.Test.YtpiakfdapobflaaPlcH
import Derived.Test.YtpiakfdapobflaaPm
import Derived.WalkKit
import Derived.ProofKit
import Derived.OpenShut
import Derived.ShutString
import Derived.ChangeOld
import Derived.Below
namespace Go.Proofs.Ytpiakfdapobflaa.placeTurns
open Go.ChangeShapes Go.WideShapes Go.ChangeAt Go.RowKit
open Go.ChangeMaps (open_string shut_string)
set_option linter.unusedVariables false

theorem own : ownKnob Try.prog.godebug = none := by kernel_rfl
theorem laidOut : laidOutB Try.prog = true := by kernel_rfl

/- The walk: the call returns true, and nothing that was there is written. -/
set_option maxHeartbeats 4000000 in
set_option maxRecDepth 100000 in
theorem walk (a0_0 : Int) (a0_1 : Option Addr) (len0_1 cap0_1 : Nat) (m0_1 : List (List Int)) (a1 : Int) (a2 : Int) (w : World) (w0_0 : (Lit.int .i64 a0_0).wf = true) (w0_1 : (sliceS (sliceS (intS .i64))).rep w everywhere [.slice a0_1 len0_1 cap0_1] m0_1) (f0_1 : (∀ x0 ∈ m0_1, (∀ x1 ∈ x0, (Lit.int .i64 x1).wf = true))) (w1 : (Lit.int .i64 a1).wf = true) (w2 : (Lit.int .i64 a2).wf = true) :
    Calls Try.prog 3 #[.agg #[.int .i64 a0_0, .slice a0_1 len0_1 cap0_1], .int .i64 a1, .int .i64 a2] w fun e w' => e = .returned (.bool true) ∧ Below w.heap.size w w' := by
  have hl := (sliceS_len w0_1).1
  have HL : Hid (m0_1.length = len0_1) := hl
  have hB := new_bel w (.cells #[.int .i64 a0_0, .slice a0_1 len0_1 cap0_1] 24)
  have kb := Box.new w 24 #[.int .i64 a0_0, .slice a0_1 len0_1 cap0_1]
  have hm0 := Shape.below w0_1 hB
  have HSM : Hid (Calls _ _ _ _ _) := small a0_1 len0_1 cap0_1 m0_1 everywhere _ hm0
  have c0 := kb.cell 0 rfl
  have c1 := kb.cell 1 rfl
  by_cases hS : Mx.Small m0_1
  case neg =>
    clear hm0 hl
    go_enter Try.func3, Try.ntmps3
    go_wp2_with fail
    generalize w.alloc (.cells #[.int .i64 a0_0, .slice a0_1 len0_1 cap0_1] 24) = W at *
    refine HSM.out.mono ?_
    rintro r u0 ⟨hs0, hu0⟩
    replace hu0 := hu0.symm
    subst hu0
    rw [hs0.not hS]
    clear hs0 HSM
    go_wp2_with fail
    refine (pawake _).mono ?_
    rintro r u9 ⟨rfl, hb9⟩
    go_wp2
    go_ret
    exact ⟨rfl, bel_then hB hb9⟩
  have HSH : Hid (Pl.Short m0_1) := Pl.small_short hS
  have HSZ : Hid (Ex.Sized m0_1) := HSH.out.sized
  obtain ⟨E, M, X, hA⟩ := Pl.add_there a0_0 m0_1 a1 a2
  obtain ⟨E2, M2, X2, hA2⟩ := Pl.ret_there a0_0 m0_1 a1 a2
  have HM : Hid (matS.rep (w.alloc (.cells #[.int .i64 a0_0, .slice a0_1 len0_1 cap0_1] 24)) everywhere [.slice a0_1 len0_1 cap0_1] m0_1) := hm0
  have HZM : Hid (Ex.Sized M) := Pl.Short.sized ⟨by have := hA.len; have := HSH.out.1; omega, hA.rows (by omega) HSH.out.2⟩
  have HZM2 : Hid (Ex.Sized M2) := Pl.Short.sized ⟨by have := hA2.len; have := HSH.out.1; omega, hA2.rows (by omega) HSH.out.2⟩
  have HC1 : Hid (∀ u, matS.rep u everywhere [.slice a0_1 len0_1 cap0_1] m0_1 → Calls _ _ _ _ _) := fun u hu => padd_any a0_0 a0_1 len0_1 cap0_1 m0_1 a1 a2 u hu HSH.out E X M hA
  have HC2 : Hid (∀ u, matS.rep u everywhere [.slice a0_1 len0_1 cap0_1] m0_1 → Calls _ _ _ _ _) := fun u hu => pret_any a0_0 a0_1 len0_1 cap0_1 m0_1 a1 a2 u hu HSH.out E2 X2 M2 hA2
  have HC3 : Hid (∀ u, matS.rep u everywhere [.slice a0_1 len0_1 cap0_1] m0_1 → Calls _ _ _ _ _) := fun u hu => qadd a0_0 a0_1 len0_1 cap0_1 m0_1 a1 a2 u hu HSH.out E X M hA
  have HC4 : Hid (∀ u, matS.rep u everywhere [.slice a0_1 len0_1 cap0_1] m0_1 → Calls _ _ _ _ _) := fun u hu => qret a0_0 a0_1 len0_1 cap0_1 m0_1 a1 a2 u hu HSH.out E2 X2 M2 hA2
  have e0 : (X == X) = true := by simp
  have e2 : (X2 == X2) = true := by simp
  clear hm0 hl hA hA2
  go_enter Try.func3, Try.ntmps3
  go_wp2_with fail
  generalize w.alloc (.cells #[.int .i64 a0_0, .slice a0_1 len0_1 cap0_1] 24) = W at *
  refine HSM.out.mono ?_
  rintro r u0 ⟨hs0, hu0⟩
  replace hu0 := hu0.symm
  subst hu0
  rw [hs0.is hS]
  clear hs0 HSM
  have hbx := new_bel W (.cells #[.int .i64 a0_0, .slice a0_1 len0_1 cap0_1] 27)
  have kx := Box.new W 27 #[.int .i64 a0_0, .slice a0_1 len0_1 cap0_1]
  have kb1 := kb.keep hbx
  have hB1 := bel_then hB hbx
  have HM1 : Hid (matS.rep _ _ _ m0_1) := Shape.below HM.out hbx
  have hc1 : Hid (Calls _ _ _ _ _) := HC1.out _ HM1.out
  have d0 := kb1.cell 0 rfl
  have d1 := kb1.cell 1 rfl
  go_wp2_with fail
  clear HM kb hB hbx c0 c1 HC1
  have x0 := kx.cell 0 rfl
  have x1 := kx.cell 1 rfl
  generalize W.alloc (.cells #[.int .i64 a0_0, .slice a0_1 len0_1 cap0_1] 27) = W1 at *
  refine hc1.out.mono ?_
  rintro r u1 ⟨hb1, a9, a9c, rfl, hr1⟩
  have hn1 := new_bel u1 (.cells #[.int .i64 E, .slice a9 len0_1 a9c] 24)
  have ka9 := Box.new u1 24 #[.int .i64 E, .slice a9 len0_1 a9c]
  have hw1 := bel_then hb1 hn1
  have HR1 : Hid (matS.rep _ _ _ M) := Shape.below hr1 hn1
  have kb2 := kb1.keep hw1
  have kx2 := kx.keep hw1
  have hB2 := bel_then hB1 hw1
  have HM2 : Hid (matS.rep _ _ _ m0_1) := Shape.below HM1.out hw1
  have hc2 : Hid (Calls _ _ _ _ _) := HC2.out _ HM2.out
  clear d0 d1 x0 x1 kb1 kx hB1 HM1 hr1 hb1 hw1 hc1 HC2 hn1
  have c0 := kb2.cell 0 rfl
  have c1 := kb2.cell 1 rfl
  go_wp2_with fail
  generalize u1.alloc (.cells #[.int .i64 E, .slice a9 len0_1 a9c] 24) = W2 at *
  refine hc2.out.mono ?_
  rintro r u2 ⟨hb2, b9, b9c, rfl, hr2⟩
  have hn2 := new_bel u2 (.cells #[.int .i64 E2, .slice b9 len0_1 b9c] 24)
  have kb9 := Box.new u2 24 #[.int .i64 E2, .slice b9 len0_1 b9c]
  have hw2 := bel_then hb2 hn2
  have HR2 : Hid (matS.rep _ _ _ M2) := Shape.below hr2 hn2
  have ka2 := ka9.keep hw2
  have kx3 := kx2.keep hw2
  have hB3 := bel_then hB2 hw2
  have HM3 : Hid (matS.rep _ _ _ m0_1) := Shape.below HM2.out hw2
  have HA2 : Hid (matS.rep _ _ _ M) := Shape.below HR1.out hw2
  have hc3 : Hid (Calls _ _ _ _ _) := HC3.out _ HM3.out
  clear c0 c1 kb2 kx2 hB2 HM2 hr2 hb2 hw2 hc2 HC3 hn2 ka9 HR1
  have x0 := kx3.cell 0 rfl
  have x1 := kx3.cell 1 rfl
  go_wp2_with fail
  generalize u2.alloc (.cells #[.int .i64 E2, .slice b9 len0_1 b9c] 24) = W3 at *
  refine hc3.out.mono ?_
  rintro r u3 ⟨hb3, y9, y9c, rfl, hr3⟩
  have hn3 := new_bel u3 (.cells #[.int .i64 E, .slice y9 len0_1 y9c] 27)
  have ky9 := Box.new u3 27 #[.int .i64 E, .slice y9 len0_1 y9c]
  have hw3 := bel_then hb3 hn3
  have HR3 : Hid (matS.rep _ _ _ M) := Shape.below hr3 hn3
  have ka3 := ka2.keep hw3
  have kb3 := kb9.keep hw3
  have kx4 := kx3.keep hw3
  have hB4 := bel_then hB3 hw3
  have HM4 : Hid (matS.rep _ _ _ m0_1) := Shape.below HM3.out hw3
  have HA3 : Hid (matS.rep _ _ _ M) := Shape.below HA2.out hw3
  have HB3 : Hid (matS.rep _ _ _ M2) := Shape.below HR2.out hw3
  have hc4 : Hid (Calls _ _ _ _ _) := HC4.out _ HM4.out
  clear x0 x1 kx3 hB3 HM3 hr3 hb3 hw3 hc3 HC4 hn3 ka2 kb9 HA2 HR2
  have x0 := kx4.cell 0 rfl
  have x1 := kx4.cell 1 rfl
  go_wp2_with fail
  generalize u3.alloc (.cells #[.int .i64 E, .slice y9 len0_1 y9c] 27) = W4 at *
  refine hc4.out.mono ?_
  rintro r u4 ⟨hb4, z9, z9c, rfl, hr4⟩
  have hn4 := new_bel u4 (.cells #[.int .i64 E2, .slice z9 len0_1 z9c] 27)
  have kz9 := Box.new u4 27 #[.int .i64 E2, .slice z9 len0_1 z9c]
  have hw4 := bel_then hb4 hn4
  have HR4 : Hid (matS.rep _ _ _ M2) := Shape.below hr4 hn4
  have ka4 := ka3.keep hw4
  have kb4 := kb3.keep hw4
  have ky4 := ky9.keep hw4
  have hB5 := bel_then hB4 hw4
  have HA4 : Hid (matS.rep _ _ _ M) := Shape.below HA3.out hw4
  have HB4 : Hid (matS.rep _ _ _ M2) := Shape.below HB3.out hw4
  have HY4 : Hid (matS.rep _ _ _ M) := Shape.below HR3.out hw4
  clear x0 x1 kx4 hB4 HM4 hr4 hb4 hw4 hc4 hn4 ka3 kb3 ky9 HA3 HB3 HR3
  have p0 := ka4.cell 0 rfl
  have p1 := ka4.cell 1 rfl
  have y0 := ky4.cell 0 rfl
  have y1 := ky4.cell 1 rfl
  have hs5 : Hid (Calls _ _ _ _ _) := psame E a9 len0_1 a9c M y9 y9c _ HA4.out HY4.out HZM.out
  go_wp2_with fail
  generalize u4.alloc (.cells #[.int .i64 E2, .slice z9 len0_1 z9c] 27) = W5 at *
  refine hs5.out.mono ?_
  rintro r u5 ⟨rfl, hb5⟩
  have kb5 := kb4.keep hb5
  have kz5 := kz9.keep hb5
  have hB6 := bel_then hB5 hb5
  have hs6 : Hid (Calls _ _ _ _ _) := psame E2 b9 len0_1 b9c M2 z9 z9c u5 (Shape.below HB4.out hb5) (Shape.below HR4.out hb5) HZM2.out
  clear p0 p1 y0 y1 hs5 hB5 HA4 HY4
  have p0 := kb5.cell 0 rfl
  have p1 := kb5.cell 1 rfl
  have y0 := kz5.cell 0 rfl
  have y1 := kz5.cell 1 rfl
  go_wp2_with fail
  refine hs6.out.mono ?_
  rintro r u6 ⟨rfl, hb6⟩
  go_wp2_with fail
  refine (pawake _).mono ?_
  rintro r u9 ⟨rfl, hb9⟩
  go_wp2
  go_ret
  exact ⟨rfl, bel_then (bel_then hB6 hb6) hb9⟩

/- From the walk to the row. -/
set_option maxRecDepth 100000 in
theorem lifted (os : Os) (started : os.Started) (H : Type) (enc : TypeId × Value → H) :
    ReturnsInHanded {} Try.checked os 3 .any (Rows.placeTurnsSpec.pre6 enc Try.prog Try.f3 Rows.placeTurnsRow.domain false) (Rows.placeTurnsSpec.post enc Try.prog Try.f3 false true false false) := by
  refine returnsInHanded_of_change (C := Try.checked) own started (by kernel_rfl) Try.func3
    (ChangeSpec.witness6 (enc := enc) (C := Try.checked) false ⟨#[], #[.agg #[.int .i64 0, .slice none 0 0], .int .i64 0, .int .i64 0], []⟩ 8 (by kernel_rfl) (by kernel_rfl) (by kernel_rfl) (by kernel_rfl)) ?_
  intro W base args ds gs before hval0 hW hcnd _
  have hval : ∀ (j : Nat) t v, Try.f3.params[j]? = some t → args[j]? = some v → Value.okWide Try.prog W .any base t v := hval0
  have hW' := hW
  obtain ⟨p, q, hA0, hV, rfl, hfz, hnd⟩ := hW
  have hA : DataW.TrodAll enc Try.prog W 0 (fun _ => true) true Try.f3.params.toList args.toList ds p := hA0
  rw [Try.params3] at hA hval
  obtain ⟨v0, vs0, d0, ds0, p0, q0, hargs, rfl, rfl, h0, r0⟩ := trodAll_cons hA
  obtain ⟨v1, vs1, d1, ds1, p1, q1, rfl, rfl, rfl, h1, r1⟩ := trodAll_cons r0
  obtain ⟨v2, vs2, d2, ds2, p2, q2, rfl, rfl, rfl, h2, r2⟩ := trodAll_cons r1
  obtain ⟨rfl, rfl, rfl⟩ := trodAll_nil r2
  obtain rfl : args = #[v0, v1, v2] := by cases args; simp_all
  obtain ⟨rfl, rfl⟩ := trodVars_none hV
  obtain ⟨cs0, rfl⟩ := okWide_agg Try.underlying24 (hval 0 24 v0 rfl rfl)
  have k0 := h0
  have lt0 : ∀ x ∈ p0, x.block < W.heap.size := by obtain ⟨m, hm⟩ := k0; exact DataW.trod_lt m _ _ _ hm
  obtain ⟨y0, hy0, hw0⟩ : ∃ y, (consS (intS .i64) (consS (sliceS (sliceS (intS .i64))) noneS)).rep W everywhere cs0 y ∧ ((Lit.int .i64 y.1).wf = true ∧ ((∀ x0 ∈ y.2.1, (∀ x1 ∈ x0, (Lit.int .i64 x1).wf = true)) ∧ True)) := by
    obtain ⟨fuel, hf⟩ := h0
    exact (opens_struct Try.underlying24 (show Try.prog.cellsOf 24 = 2 by kernel_rfl) (opensAt_cons (A := (intS .i64)) rfl (show Try.prog.cellsOf 3 = 1 by kernel_rfl) (opens_int Try.underlying3) (opensAt_cons (A := (sliceS (sliceS (intS .i64)))) rfl (show Try.prog.cellsOf 22 = 1 by kernel_rfl) (opens_slice (A := (sliceS (intS .i64))) Try.underlying22 (show Try.prog.cellsOf 40 = 1 by kernel_rfl) (by exact Nat.succ_pos _) (opens_slice (A := (intS .i64)) Try.underlying40 (show Try.prog.cellsOf 3 = 1 by kernel_rfl) (by exact Nat.succ_pos _) (opens_int Try.underlying3))) opensAt_nil (by rfl)) (by rfl))) H enc W _ _ _ fuel _ _ (by simpa [Value.cells] using hf)
  obtain ⟨a0_0, m0_1, _⟩ := y0
  obtain ⟨d0_0, rfl, hy0_0⟩ := consS_int hy0
  obtain ⟨a0_1, len0_1, cap0_1, d0_1, rfl, w0_1, hy0_1⟩ := consS_slice hy0_0
  obtain rfl := noneS_nil hy0_1
  obtain ⟨w0_0, f0_1, _⟩ := hw0
  obtain ⟨a1, rfl, rfl, rfl, w1⟩ := open_int Try.underlying3 (hval 1 3 v1 rfl rfl) h1
  obtain ⟨a2, rfl, rfl, rfl, w2⟩ := open_int Try.underlying3 (hval 2 3 v2 rfl rfl) h2
  clear hA0 hval0
  refine (walk a0_0 a0_1 len0_1 cap0_1 m0_1 a1 a2 W w0_0 w0_1 f0_1 w1 w2).mono fun e W' ⟨he, bel⟩ => ?_
  subst he
  exact ⟨_, rfl, _, _, _, [], _, [], hW', trodAll_mk1 (shut_bool Try.underlying4 _), (trodAll_cons_mk (Below.trod laidOut (by kernel_rfl) (of_decide_eq_true (by kernel_rfl)) k0 bel lt0) (trodAll_cons_mk (shut_int Try.underlying3 w1) (trodAll_cons_mk (shut_int Try.underlying3 w2) trodAll_mk0))), rfl, bel.frame _, fun h => by cases h⟩

theorem over : Rows.placeTurnsRow.holds Try.pinned (OpenSpec.ofChange Rows.placeTurnsSpec) :=
  OpenClaim.holds_of_wide 3 Try.f3 rfl rfl rfl rfl rfl rfl rfl ⟨rfl, rfl, rfl, rfl, rfl⟩ rfl rfl rfl rfl rfl (by kernel_rfl) Try.func3 (by kernel_rfl)
    (of_decide_eq_true (by kernel_rfl)) (by unfold Func.isWrapper; first | (rw [if_pos (by decide +kernel)]; kernel_rfl) | (rw [if_neg (by decide +kernel)]; exact ⟨rfl, rfl⟩))
    (fun os started H enc _ => lifted os started H enc)

end Go.Proofs.Ytpiakfdapobflaa.placeTurns

namespace Go.Proofs.Ytpiakfdapobflaa
theorem placeTurns_holds : Rows.PlaceTurnsSaid := placeTurns.over
end Go.Proofs.Ytpiakfdapobflaa
