/- Whatever map and node: who holds other experts does not turn when one is added, or retired; no map takes both. Conditions: none beyond those of the statement (at most 30 rows of 30 numbers; else the fixed answer). -/
import Derived.Test.YtpiakfdapobflaaRows
import Derived.Test.YtpiakfdapobflaaPh
import Derived.Test.YtpiakfdapobflaaPm
import Derived.WalkKit
import Derived.ProofKit
import Derived.OpenShut
import Derived.ShutString
import Derived.ChangeOld
import Derived.Below
namespace Go.Proofs.Ytpiakfdapobflaa.placeOthers
open Go.ChangeShapes Go.WideShapes Go.ChangeAt Go.RowKit
open Go.ChangeMaps (open_string shut_string)
set_option linter.unusedVariables false

theorem own : ownKnob Try.prog.godebug = none := by kernel_rfl
theorem laidOut : laidOutB Try.prog = true := by kernel_rfl

/- The walk: the call returns true, and nothing that was there is written. -/
set_option maxHeartbeats 4000000 in
set_option maxRecDepth 100000 in
theorem walk (a0_0 : Int) (a0_1 : Option Addr) (len0_1 cap0_1 : Nat) (m0_1 : List (List Int)) (a1 : Int) (a2 : Int) (w : World) (w0_0 : (Lit.int .i64 a0_0).wf = true) (w0_1 : (sliceS (sliceS (intS .i64))).rep w everywhere [.slice a0_1 len0_1 cap0_1] m0_1) (f0_1 : (∀ x0 ∈ m0_1, (∀ x1 ∈ x0, (Lit.int .i64 x1).wf = true))) (w1 : (Lit.int .i64 a1).wf = true) (w2 : (Lit.int .i64 a2).wf = true) :
    Calls Try.prog 8 #[.agg #[.int .i64 a0_0, .slice a0_1 len0_1 cap0_1], .int .i64 a1, .int .i64 a2] w fun e w' => e = .returned (.bool true) ∧ Below w.heap.size w w' := by
  have hl := (sliceS_len w0_1).1
  have HL : Hid (m0_1.length = len0_1) := hl
  have hB := new_bel w (.cells #[.int .i64 a0_0, .slice a0_1 len0_1 cap0_1] 24)
  have kb := Box.new w 24 #[.int .i64 a0_0, .slice a0_1 len0_1 cap0_1]
  have hm0 := Shape.below w0_1 hB
  have HSM : Hid (Calls _ _ _ _ _) := small a0_1 len0_1 cap0_1 m0_1 everywhere _ hm0
  have c0 := kb.cell 0 rfl
  have c1 := kb.cell 1 rfl
  by_cases hS : Mx.Small m0_1
  case neg =>
    clear hm0 hl
    go_enter Try.func8, Try.ntmps8
    go_wp2_with fail
    generalize w.alloc (.cells #[.int .i64 a0_0, .slice a0_1 len0_1 cap0_1] 24) = W at *
    refine HSM.out.mono ?_
    rintro r u0 ⟨hs0, hu0⟩
    replace hu0 := hu0.symm
    subst hu0
    rw [hs0.not hS]
    clear hs0 HSM
    go_wp2_with fail
    refine (pawake _).mono ?_
    rintro r u9 ⟨rfl, hb9⟩
    go_wp2
    go_ret
    exact ⟨rfl, bel_then hB hb9⟩
  have HSH : Hid (Pl.Short m0_1) := Pl.small_short hS
  have HSZ : Hid (Ex.Sized m0_1) := HSH.out.sized
  obtain ⟨E, M, X, hA⟩ := Pl.add_there a0_0 m0_1 a1 a2
  obtain ⟨E2, M2, X2, hA2⟩ := Pl.ret_there a0_0 m0_1 a1 a2
  have HM : Hid (matS.rep (w.alloc (.cells #[.int .i64 a0_0, .slice a0_1 len0_1 cap0_1] 24)) everywhere [.slice a0_1 len0_1 cap0_1] m0_1) := hm0
  have HAD : Hid (Calls _ _ _ _ _) := padd_any a0_0 a0_1 len0_1 cap0_1 m0_1 a1 a2 _ hm0 HSH.out E X M hA
  have HZM : Hid (Ex.Sized M ∧ M.length = len0_1) := ⟨Pl.Short.sized ⟨by have := hA.len; have := HSH.out.1; omega, hA.rows (by omega) HSH.out.2⟩, hA.len.trans hl⟩
  have HZM2 : Hid (Ex.Sized M2 ∧ M2.length = len0_1) := ⟨Pl.Short.sized ⟨by have := hA2.len; have := HSH.out.1; omega, hA2.rows (by omega) HSH.out.2⟩, hA2.len.trans hl⟩
  have HOA : Hid (∀ y k : Int, ¬ (y = a1 ∧ k = a2) → (Pl.Holds M y k ↔ Pl.Holds m0_1 y k)) := fun _ _ hne => hA.others hne
  have HOB : Hid (∀ y k : Int, ¬ (y = a1 ∧ k = a2) → (Pl.Holds M2 y k ↔ Pl.Holds m0_1 y k)) := fun _ _ hne => hA2.others hne
  have hways : ((X == 0) = true ∧ (X2 == 0) = false) ∨ (X == 0) = false := by
    by_cases h0 : X = 0
    · exact .inl ⟨by simpa using h0, by simpa using Pl.not_both hA hA2 h0⟩
    · exact .inr (by simpa using h0)
  have HWY : Hid _ := hways
  have HR2 : Hid (∀ u, matS.rep u everywhere [.slice a0_1 len0_1 cap0_1] m0_1 → Calls _ _ _ _ _) := fun u hu => pret_any a0_0 a0_1 len0_1 cap0_1 m0_1 a1 a2 u hu HSH.out E2 X2 M2 hA2
  have hn9 : len0_1 ≤ 30 := by have := hS.1; omega
  have e0 : ((len0_1 : Int) != (len0_1 : Int)) = false := by simp
  clear hm0 hl hA hA2 hways
  go_enter Try.func8, Try.ntmps8
  go_wp2_with fail
  generalize w.alloc (.cells #[.int .i64 a0_0, .slice a0_1 len0_1 cap0_1] 24) = W at *
  refine HSM.out.mono ?_
  rintro r u0 ⟨hs0, hu0⟩
  replace hu0 := hu0.symm
  subst hu0
  rw [hs0.is hS]
  clear hs0 HSM
  go_wp2_with fail
  refine HAD.out.mono ?_
  rintro r u1 ⟨hb1, a', c', rfl, hr1⟩
  have hba := new_bel u1 (.cells #[.int .i64 E, .slice a' len0_1 c'] 24)
  have ka := Box.new u1 24 #[.int .i64 E, .slice a' len0_1 c']
  have kb1 := (kb.keep hb1).keep hba
  have hB1 := bel_then (bel_then hB hb1) hba
  have hM1 := Shape.below (Shape.below HM.out hb1) hba
  have hMa := Shape.below hr1 hba
  have hc2 : Hid (Calls _ _ _ _ _) := HR2.out _ hM1
  clear HAD c0 c1 kb hB HM hb1 hr1 HR2
  have c0 := kb1.cell 0 rfl
  have c1 := kb1.cell 1 rfl
  go_wp2_with fail
  generalize u1.alloc (.cells #[.int .i64 E, .slice a' len0_1 c'] 24) = W1 at *
  refine hc2.out.mono ?_
  rintro r u2 ⟨hb2, a2', c2, rfl, hr2⟩
  have hbb := new_bel u2 (.cells #[.int .i64 E2, .slice a2' len0_1 c2] 24)
  have kbx := Box.new u2 24 #[.int .i64 E2, .slice a2' len0_1 c2]
  have kb2 := (kb1.keep hb2).keep hbb
  have ka2 := (ka.keep hb2).keep hbb
  have hB2 := bel_then (bel_then hB1 hb2) hbb
  have hM2 := Shape.below (Shape.below hM1 hb2) hbb
  have hMa2 := Shape.below (Shape.below hMa hb2) hbb
  have hMb2 := Shape.below hr2 hbb
  clear c0 c1 kb1 ka hB1 hM1 hc2 hb2 hr2 hMa hba
  have c0 := kb2.cell 0 rfl
  have c1 := kb2.cell 1 rfl
  have p0 := ka2.cell 0 rfl
  have p1 := ka2.cell 1 rfl
  have q0 := kbx.cell 0 rfl
  have q1 := kbx.cell 1 rfl
  have HMM : Hid (matS.rep _ _ _ m0_1 ∧ matS.rep _ _ _ M ∧ matS.rep _ _ _ M2) := ⟨hM2, hMa2, hMb2⟩
  clear hM2 hMa2 hMb2 hbb
  rcases HWY.out with ⟨eX, eX2⟩ | eX
  all_goals
    clear HWY
    go_wp2
    generalize u2.alloc (.cells #[.int .i64 E2, .slice a2' len0_1 c2] 24) = W2 at *
    clear c0 c1 p0 p1 q0 q1
    go_loopw [59] (fun iv wr => ∃ i : Nat, i ≤ len0_1 ∧ iv = .int .i64 i ∧ Below W2.heap.size W2 wr) (fun iv _ => len0_1 - (intOf iv).toNat)
    case atStart => exact ⟨0, Nat.zero_le _, rfl, Below.refl _ _⟩
    case round =>
      obtain ⟨i, hi, rfl, hbel⟩ := hrel
      by_cases hlt : i < len0_1
      · have hli : (i : Int) < (len0_1 : Int) := by omega
        go_wp2
        go_loopw [12] (fun nv wr => ∃ p : Nat, (1 ≤ p ∧ p ≤ 5) ∧ nv = .int .i64 p ∧ Below W2.heap.size W2 wr) (fun nv _ => 5 - (intOf nv).toNat)
        case atStart => exact ⟨1, ⟨Nat.le_refl _, by omega⟩, rfl, hbel⟩
        case round =>
          clear hbel
          obtain ⟨p, hp, rfl, hbel⟩ := hrel
          by_cases hp5 : p < 5
          · have hpi : (p : Int) < 5 := by omega
            by_cases hc : (i : Int) = a1 ∧ (p : Int) = a2
            · have e1 : ((i : Int) == a1) = true := by simpa using hc.1
              have e2 : ((p : Int) == a2) = true := by simpa using hc.2
              clear hc
              go_wp2
              go_roundw
              case rel => exact ⟨p + 1, ⟨by omega, by omega⟩, by go_num, hbel⟩
              case measure => simp [intOf]; omega
            · obtain ⟨v, hv⟩ : ∃ v, tell (Pl.Holds m0_1 (i : Int) (p : Int)) = v := ⟨_, rfl⟩
              have hA1 : HoldsIn W2 len0_1 (i : Int) (p : Int) v a0_1 cap0_1 := ⟨m0_1, HMM.out.1, HSZ.out, hv⟩
              have hA2 : HoldsIn W2 len0_1 (i : Int) (p : Int) v a' c' := ⟨M, HMM.out.2.1, HZM.out.1, by rw [← hv]; simp only [HOA.out _ _ hc]⟩
              have hA3 : HoldsIn W2 len0_1 (i : Int) (p : Int) v a2' c2 := ⟨M2, HMM.out.2.2, HZM2.out.1, by rw [← hv]; simp only [HOB.out _ _ hc]⟩
              have HG : Hid (∀ (e : Int) (a : Option Addr) (c : Nat), HoldsIn W2 len0_1 (i : Int) (p : Int) v a c → ∀ x9 : Later wr, Calls Try.prog 18 #[.agg #[.int .i64 e, .slice a len0_1 c], .int .i64 (i : Int), .int .i64 (p : Int)] x9.u fun r w' => r = .returned (.bool v) ∧ Below x9.u.heap.size x9.u w') := fun e a c h x9 => holdsIn h e _ (bel_then hbel x9.h)
              have hne9 : Nonempty (Later wr) := Later.there wr
              have kb3 := kb2.keep hbel
              have ka3 := ka2.keep hbel
              have kc3 := kbx.keep hbel
              have d0 : ∀ x9 : Later wr, x9.u.cell? ⟨w.heap.size, 0, none⟩ = some (.int .i64 a0_0) := fun x9 => x9.cell (kb3.cell 0 rfl)
              have d1 : ∀ x9 : Later wr, x9.u.cell? ⟨w.heap.size, 1, none⟩ = some (.slice a0_1 len0_1 cap0_1) := fun x9 => x9.cell (kb3.cell 1 rfl)
              have d2 : ∀ x9 : Later wr, x9.u.cell? ⟨u1.heap.size, 0, none⟩ = some (.int .i64 E) := fun x9 => x9.cell (ka3.cell 0 rfl)
              have d3 : ∀ x9 : Later wr, x9.u.cell? ⟨u1.heap.size, 1, none⟩ = some (.slice a' len0_1 c') := fun x9 => x9.cell (ka3.cell 1 rfl)
              have d4 : ∀ x9 : Later wr, x9.u.cell? ⟨u2.heap.size, 0, none⟩ = some (.int .i64 E2) := fun x9 => x9.cell (kc3.cell 0 rfl)
              have d5 : ∀ x9 : Later wr, x9.u.cell? ⟨u2.heap.size, 1, none⟩ = some (.slice a2' len0_1 c2) := fun x9 => x9.cell (kc3.cell 1 rfl)
              have e5 : (v != v) = false := by simp
              have hww : ((i : Int) == a1) = false ∨ (((i : Int) == a1) = true ∧ ((p : Int) == a2) = false) := by
                by_cases h1 : (i : Int) = a1
                · exact .inr ⟨by simpa using h1, by simpa using fun h2 => hc ⟨h1, h2⟩⟩
                · exact .inl (by simpa using h1)
              clear hv hc kb3 ka3 kc3
              rcases hww with e1 | ⟨e1, e2⟩
              all_goals
                go_wp2
                refine region_later (by kernel_rfl) (by kernel_rfl) ?_
                repeat (go_big_quiet_step ((go_at_call 18; exact Later.call (HG.out _ _ _ (by assumption) _))))
                refine wpQuiet_nil ?_
                intro x9
                obtain ⟨W9, hb9⟩ := x9
                have hB9 := bel_then hbel hb9
                clear d0 d1 d2 d3 d4 d5 HG hA1 hA2 hA3 hne9
                go_wp2
                go_roundw
                case rel => exact ⟨p + 1, ⟨by omega, by omega⟩, by go_num, hB9⟩
                case measure => simp [intOf]; omega
          · have hp9 : p = 5 := by omega
            subst hp9
            go_wp2
            go_roundw
            case rel => exact ⟨i + 1, by omega, by go_num, hbel⟩
            case measure => simp [intOf]; omega
      · have hin : i = len0_1 := by omega
        subst hin
        have hli : ¬ (i : Int) < (i : Int) := by omega
        have hB9 := bel_then hB2 hbel
        go_wp2_with fail
        refine (pawake _).mono ?_
        rintro r u9 ⟨rfl, hb9⟩
        go_wp2
        go_ret
        exact ⟨rfl, bel_then hB9 hb9⟩

/- From the walk to the row. -/
set_option maxRecDepth 100000 in
theorem lifted (os : Os) (started : os.Started) (H : Type) (enc : TypeId × Value → H) :
    ReturnsInHanded {} Try.checked os 8 .any (Rows.placeOthersSpec.pre6 enc Try.prog Try.f8 Rows.placeOthersRow.domain false) (Rows.placeOthersSpec.post enc Try.prog Try.f8 false true false false) := by
  refine returnsInHanded_of_change (C := Try.checked) own started (by kernel_rfl) Try.func8
    (ChangeSpec.witness6 (enc := enc) (C := Try.checked) false ⟨#[], #[.agg #[.int .i64 0, .slice none 0 0], .int .i64 0, .int .i64 0], []⟩ 8 (by kernel_rfl) (by kernel_rfl) (by kernel_rfl) (by kernel_rfl)) ?_
  intro W base args ds gs before hval0 hW hcnd _
  have hval : ∀ (j : Nat) t v, Try.f8.params[j]? = some t → args[j]? = some v → Value.okWide Try.prog W .any base t v := hval0
  have hW' := hW
  obtain ⟨p, q, hA0, hV, rfl, hfz, hnd⟩ := hW
  have hA : DataW.TrodAll enc Try.prog W 0 (fun _ => true) true Try.f8.params.toList args.toList ds p := hA0
  rw [Try.params8] at hA hval
  obtain ⟨v0, vs0, d0, ds0, p0, q0, hargs, rfl, rfl, h0, r0⟩ := trodAll_cons hA
  obtain ⟨v1, vs1, d1, ds1, p1, q1, rfl, rfl, rfl, h1, r1⟩ := trodAll_cons r0
  obtain ⟨v2, vs2, d2, ds2, p2, q2, rfl, rfl, rfl, h2, r2⟩ := trodAll_cons r1
  obtain ⟨rfl, rfl, rfl⟩ := trodAll_nil r2
  obtain rfl : args = #[v0, v1, v2] := by cases args; simp_all
  obtain ⟨rfl, rfl⟩ := trodVars_none hV
  obtain ⟨cs0, rfl⟩ := okWide_agg Try.underlying24 (hval 0 24 v0 rfl rfl)
  have k0 := h0
  have lt0 : ∀ x ∈ p0, x.block < W.heap.size := by obtain ⟨m, hm⟩ := k0; exact DataW.trod_lt m _ _ _ hm
  obtain ⟨y0, hy0, hw0⟩ : ∃ y, (consS (intS .i64) (consS (sliceS (sliceS (intS .i64))) noneS)).rep W everywhere cs0 y ∧ ((Lit.int .i64 y.1).wf = true ∧ ((∀ x0 ∈ y.2.1, (∀ x1 ∈ x0, (Lit.int .i64 x1).wf = true)) ∧ True)) := by
    obtain ⟨fuel, hf⟩ := h0
    exact (opens_struct Try.underlying24 (show Try.prog.cellsOf 24 = 2 by kernel_rfl) (opensAt_cons (A := (intS .i64)) rfl (show Try.prog.cellsOf 3 = 1 by kernel_rfl) (opens_int Try.underlying3) (opensAt_cons (A := (sliceS (sliceS (intS .i64)))) rfl (show Try.prog.cellsOf 22 = 1 by kernel_rfl) (opens_slice (A := (sliceS (intS .i64))) Try.underlying22 (show Try.prog.cellsOf 40 = 1 by kernel_rfl) (by exact Nat.succ_pos _) (opens_slice (A := (intS .i64)) Try.underlying40 (show Try.prog.cellsOf 3 = 1 by kernel_rfl) (by exact Nat.succ_pos _) (opens_int Try.underlying3))) opensAt_nil (by rfl)) (by rfl))) H enc W _ _ _ fuel _ _ (by simpa [Value.cells] using hf)
  obtain ⟨a0_0, m0_1, _⟩ := y0
  obtain ⟨d0_0, rfl, hy0_0⟩ := consS_int hy0
  obtain ⟨a0_1, len0_1, cap0_1, d0_1, rfl, w0_1, hy0_1⟩ := consS_slice hy0_0
  obtain rfl := noneS_nil hy0_1
  obtain ⟨w0_0, f0_1, _⟩ := hw0
  obtain ⟨a1, rfl, rfl, rfl, w1⟩ := open_int Try.underlying3 (hval 1 3 v1 rfl rfl) h1
  obtain ⟨a2, rfl, rfl, rfl, w2⟩ := open_int Try.underlying3 (hval 2 3 v2 rfl rfl) h2
  clear hA0 hval0
  refine (walk a0_0 a0_1 len0_1 cap0_1 m0_1 a1 a2 W w0_0 w0_1 f0_1 w1 w2).mono fun e W' ⟨he, bel⟩ => ?_
  subst he
  exact ⟨_, rfl, _, _, _, [], _, [], hW', trodAll_mk1 (shut_bool Try.underlying4 _), (trodAll_cons_mk (Below.trod laidOut (by kernel_rfl) (of_decide_eq_true (by kernel_rfl)) k0 bel lt0) (trodAll_cons_mk (shut_int Try.underlying3 w1) (trodAll_cons_mk (shut_int Try.underlying3 w2) trodAll_mk0))), rfl, bel.frame _, fun h => by cases h⟩

theorem over : Rows.placeOthersRow.holds Try.pinned (OpenSpec.ofChange Rows.placeOthersSpec) :=
  OpenClaim.holds_of_wide 8 Try.f8 rfl rfl rfl rfl rfl rfl rfl ⟨rfl, rfl, rfl, rfl, rfl⟩ rfl rfl rfl rfl rfl (by kernel_rfl) Try.func8 (by kernel_rfl)
    (of_decide_eq_true (by kernel_rfl)) (by unfold Func.isWrapper; first | (rw [if_pos (by decide +kernel)]; kernel_rfl) | (rw [if_neg (by decide +kernel)]; exact ⟨rfl, rfl⟩))
    (fun os started H enc _ => lifted os started H enc)

end Go.Proofs.Ytpiakfdapobflaa.placeOthers

namespace Go.Proofs.Ytpiakfdapobflaa
theorem placeOthers_holds : Rows.PlaceOthersSaid := placeOthers.over
end Go.Proofs.Ytpiakfdapobflaa
