/- What is entered again turns nothing: the ledger is as it was, entry by entry. -/
import Derived.Test.YtfbghicknaldcaaRows
import Derived.Test.YtfbghicknaldcaaLedC
import Derived.WalkKit
import Derived.ProofKit
import Derived.OpenShut
import Derived.ShutString
import Derived.ChangeOld
import Derived.Below
namespace Go.Proofs.Ytfbghicknaldcaa.ledgerStill
open Go.ChangeShapes Go.WideShapes Go.ChangeAt Go.RowKit
open Go.ChangeMaps (open_string shut_string)
set_option linter.unusedVariables false

theorem own : ownKnob Try.prog.godebug = none := by kernel_rfl
theorem laidOut : laidOutB Try.prog = true := by kernel_rfl

/- The walk: the call returns true, and nothing that was there is written. -/
set_option maxHeartbeats 4000000 in
set_option maxRecDepth 100000 in
theorem walk (a0 : Option Addr) (len0 cap0 : Nat) (m0 : List ((Int × Int × Int × Int × Unit) × (List Int) × Unit)) (a1 : Int) (a2 : Option Addr) (len2 cap2 : Nat) (m2 : List Int) (w : World) (w0 : (sliceS (consS (consS (intS .i64) (consS (intS .i64) (consS (intS .i64) (consS (intS .i64) noneS)))) (consS (sliceS (intS .i64)) noneS))).rep w everywhere [.slice a0 len0 cap0] m0) (f0 : (∀ x0 ∈ m0, (((Lit.int .i64 x0.1.1).wf = true ∧ ((Lit.int .i64 x0.1.2.1).wf = true ∧ ((Lit.int .i64 x0.1.2.2.1).wf = true ∧ ((Lit.int .i64 x0.1.2.2.2.1).wf = true ∧ True)))) ∧ ((∀ x1 ∈ x0.2.1, (Lit.int .i64 x1).wf = true) ∧ True)))) (w1 : (Lit.int .u8 a1).wf = true) (w2 : (sliceS (intS .i64)).rep w everywhere [.slice a2 len2 cap2] m2) (f2 : (∀ x0 ∈ m2, (Lit.int .i64 x0).wf = true)) :
    Calls Try.prog 6 #[.slice a0 len0 cap0, .int .u8 a1, .slice a2 len2 cap2] w fun e w' => e = .returned (.bool true) ∧ Below w.heap.size w w' := by
  have hl0 := (sliceS_len w0).1
  have hA := Shape.low w0
  have hb1 := bounds_u8 w1
  have HL : Hid (m0.length = len0) := hl0
  clear f0 f2 w1 hl0
  by_cases hz : len0 = 0
  · have hi : ((len0 : Int) == 0) = true := by rw [hz]; rfl
    clear w0 w2 hA HL
    go_enter Try.func6, Try.ntmps6
    go_wp2_with (go_at_call 7; refine (dawake _).mono ?_; rintro e u9 ⟨rfl, hb9⟩)
    go_ret
    exact ⟨rfl, hb9⟩
  have hz0 : ((len0 : Int) == 0) = false := by rw [beq_eq_false_iff_ne]; omega
  by_cases h60 : 60 < len0
  · have hi : (60 : Int) < (len0 : Int) := by omega
    clear w0 w2 hA HL
    go_enter Try.func6, Try.ntmps6
    go_wp2_with (go_at_call 7; refine (dawake _).mono ?_; rintro e u9 ⟨rfl, hb9⟩)
    go_ret
    exact ⟨rfl, hb9⟩
  have h60i : ¬ (60 : Int) < (len0 : Int) := by omega
  by_cases h30 : 30 < len2
  · have hi : (30 : Int) < (len2 : Int) := by omega
    clear w0 w2 hA HL
    go_enter Try.func6, Try.ntmps6
    go_wp2_with (go_at_call 7; refine (dawake _).mono ?_; rintro e u9 ⟨rfl, hb9⟩)
    go_ret
    exact ⟨rfl, hb9⟩
  have h30i : ¬ (30 : Int) < (len2 : Int) := by omega
  obtain ⟨j, hj, ej⟩ : ∃ j : Nat, j < len0 ∧ a1.tmod (len0 : Int) = (j : Int) := by
    refine ⟨(a1.tmod (len0 : Int)).toNat, ?_, ?_⟩
    · have := Int.tmod_lt_of_pos a1 (b := (len0 : Int)) (by omega)
      have := Int.tmod_nonneg (a := a1) (len0 : Int) (by omega)
      omega
    · have := Int.tmod_nonneg (a := a1) (len0 : Int) (by omega)
      omega
  have HJ : Hid (a1.tmod (len0 : Int) = (j : Int)) := ej
  clear w0 w2 ej
  go_enter Try.func6, Try.ntmps6
  go_wp2
  go_loopw [31] (fun i wr => ∃ k : Nat, k ≤ len0 ∧ i = .int .i64 k ∧ (∀ j, j < k → (m0.getD j en0).2.1.length ≤ 30) ∧ Below w.heap.size w wr) (fun i _ => len0 - (intOf i).toNat)
  case atStart => exact ⟨0, Nat.zero_le _, rfl, fun j hj => by omega, Below.refl _ _⟩
  case round =>
    obtain ⟨k, hk, rfl, hsm, hbel⟩ := hrel
    have HSM : Hid (∀ j, j < k → (m0.getD j en0).2.1.length ≤ 30) := hsm
    clear hsm
    by_cases hlt : k < len0
    · obtain ⟨b1, o1, p, q, r, s, v, nv, A, C, rfl, _, _, hE, hnv, hrow, c0, c1, c2, c3, c4⟩ := en_at (Shape.now hA hbel) hlt
      have hli : (k : Int) < (len0 : Int) := by omega
      have HE : Hid (m0.getD k en0 = en (ky p q r s) v ∧ v.length = nv) := ⟨hE, hnv⟩
      have hbn := bel_then hbel (new_bel wr (.cells #[.int .i64 p, .int .i64 q, .int .i64 r, .int .i64 s, .slice A nv C] 29))
      clear hE hnv hrow
      by_cases hv30 : 30 < nv
      · have hvi : (30 : Int) < (nv : Int) := by omega
        go_wp2_with (go_at_call 7; refine (dawake _).mono ?_; rintro e u9 ⟨rfl, hb9⟩)
        go_ret
        exact ⟨rfl, bel_then hbn hb9⟩
      · have hvi : ¬ (30 : Int) < (nv : Int) := by omega
        go_wp2
        go_roundw
        case rel =>
          refine ⟨k + 1, by omega, by go_num, fun i hi => ?_, hbn⟩
          by_cases e : i = k
          · subst e
            rw [HE.out.1]
            show v.length ≤ 30
            rw [HE.out.2]; omega
          · exact HSM.out i (by omega)
        case measure => simp [intOf]; omega
    · have hkn : k = len0 := by omega
      subst hkn
      have hli : ¬ (k : Int) < (k : Int) := by omega
      have HS : Hid (Dx.Short m0) := ⟨by rw [HL.out]; omega, fun e he => by
        obtain ⟨i, hi, rfl⟩ := eget_of_mem he
        have := HSM.out i (by rw [← HL.out]; exact hi)
        omega⟩
      have hji : (j : Int) < (k : Int) := by omega
      have hj0 : (0 : Int) ≤ (j : Int) := by omega
      obtain ⟨b1, o1, p, q, r, s, v, nv, A, C, rfl, _, _, hE, hnv, hrow, c0, c1, c2, c3, c4⟩ := en_at (Shape.now hA hbel) hj
      obtain ⟨i, hF⟩ : ∃ i, Dx.First m0 (ky p q r s) i := by
        rcases Dx.first_or_no m0 (ky p q r s) with h | h
        · exact absurd (by rw [hE]; rfl) (h j (by rw [HL.out]; exact hj))
        · exact h
      have HF : Hid (Dx.First m0 (ky p q r s) i) := hF
      have ej := HJ.out
      clear hE hnv hrow hF HSM
      have hbn := new_bel wr (.cells #[.int .i64 p, .int .i64 q, .int .i64 r, .int .i64 s] 24)
      have kb := Box.new wr 24 #[.int .i64 p, .int .i64 q, .int .i64 r, .int .i64 s]
      have hB1 := bel_then hbel hbn
      have hc1 : Hid (Calls _ _ _ _ _) := lenter_no (some ⟨b1, o1, none⟩) k cap0 m0 p q r s a2 len2 cap2 _ (Shape.any (Shape.now hA hB1)) HS.out i HF.out
      go_wp2_with fail
      refine hc1.out.mono ?_
      rintro e u1 ⟨hb2, a3, c9, rfl, hr1⟩
      have hB2 := bel_then hB1 hb2
      have kb2 := kb.keep hb2
      have hl2 := kb2.lt
      have en1 : ((k : Int) != (k : Int)) = false := by simp
      clear c0 c1 c2 c3 c4 hc1 hB1 hbn hbel kb hb2 ej
      go_wp2
      go_loopw [67] (fun i wr2 => ∃ t : Nat, t ≤ k ∧ i = .int .i64 t ∧ Below u1.heap.size u1 wr2) (fun i _ => k - (intOf i).toNat)
      case atStart => exact ⟨0, Nat.zero_le _, rfl, Below.refl _ _⟩
      case round =>
        obtain ⟨t, ht, rfl, hbel2⟩ := hrel
        have hB3 := bel_then hB2 hbel2
        by_cases htl : t < k
        · have hti : (t : Int) < (k : Int) := by omega
          have ht0 : (0 : Int) ≤ (t : Int) := by omega
          obtain ⟨b4, o4, p4, q4, r4, s4, v4, nv4, A4, C4, he4, _, _, hE4, hnv4, hrow4, d0, d1, d2, d3, d4⟩ := en_at (Shape.now hA hB3) htl
          have e := Option.some.inj he4
          injection e with e1 e2 e3
          subst e1
          subst e2
          clear he4 e3
          obtain ⟨b5, o5, p5, q5, r5, s5, v5, nv5, A5, C5, rfl, _, _, hE5, hnv5, hrow5, g0, g1, g2, g3, g4⟩ := en_at (Shape.below hr1 hbel2) htl
          rw [hE4] at hE5
          obtain ⟨rfl, rfl, rfl, rfl, rfl⟩ : p4 = p5 ∧ q4 = q5 ∧ r4 = r5 ∧ s4 = s5 ∧ v4 = v5 := by
            injection hE5 with h1 h2
            obtain ⟨x1, x2, x3, x4⟩ := ky_eq.1 h1
            injection h2 with h2 h3
            exact ⟨x1, x2, x3, x4, h2⟩
          have hnn : nv5 = nv4 := by rw [← hnv4, ← hnv5]
          subst hnn
          have hn9 : nv5 ≤ 100000 := by
            have h7 := HS.out.row (j := t) (by rw [HL.out]; exact htl)
            rw [hE4] at h7
            have h8 : v4.length ≤ 1000 := h7
            omega
          have hne9 : Nonempty (Later wr) := Later.there wr
          have y0 : ∀ x9 : Later wr, x9.u.cell? ⟨b1, o1 + t * 5, none⟩ = some (.int .i64 p4) := fun x9 => x9.cell d0
          have y1 : ∀ x9 : Later wr, x9.u.cell? ⟨b1, o1 + t * 5 + 1, none⟩ = some (.int .i64 q4) := fun x9 => x9.cell d1
          have y2 : ∀ x9 : Later wr, x9.u.cell? ⟨b1, o1 + t * 5 + 2, none⟩ = some (.int .i64 r4) := fun x9 => x9.cell d2
          have y3 : ∀ x9 : Later wr, x9.u.cell? ⟨b1, o1 + t * 5 + 3, none⟩ = some (.int .i64 s4) := fun x9 => x9.cell d3
          have y4 : ∀ x9 : Later wr, x9.u.cell? ⟨b1, o1 + t * 5 + 4, none⟩ = some (.slice A4 nv5 C4) := fun x9 => x9.cell d4
          have z0 : ∀ x9 : Later wr, x9.u.cell? ⟨b5, o5 + t * 5, none⟩ = some (.int .i64 p4) := fun x9 => x9.cell g0
          have z1 : ∀ x9 : Later wr, x9.u.cell? ⟨b5, o5 + t * 5 + 1, none⟩ = some (.int .i64 q4) := fun x9 => x9.cell g1
          have z2 : ∀ x9 : Later wr, x9.u.cell? ⟨b5, o5 + t * 5 + 2, none⟩ = some (.int .i64 r4) := fun x9 => x9.cell g2
          have z3 : ∀ x9 : Later wr, x9.u.cell? ⟨b5, o5 + t * 5 + 3, none⟩ = some (.int .i64 s4) := fun x9 => x9.cell g3
          have z4 : ∀ x9 : Later wr, x9.u.cell? ⟨b5, o5 + t * 5 + 4, none⟩ = some (.slice A5 nv5 C5) := fun x9 => x9.cell g4
          have hsame : ∀ x9 : Later wr, Calls Try.prog 11 #[.slice A5 nv5 C5, .slice A4 nv5 C4] x9.u fun e w' => e = .returned (.bool true) ∧ Below x9.u.heap.size x9.u w' := fun x9 => same_true A5 A4 nv5 C5 C4 v4 x9.u ((Row.of_rep hrow5).keep x9.h) ((Row.of_rep hrow4).keep x9.h) hn9
          have hne := neqKey p4 q4 r4 s4
          have hne2 : ∀ w, (Op.equalIn 10000 24 (.agg #[.int .i64 p4, .int .i64 q4, .int .i64 r4, .int .i64 s4]) (.agg #[.int .i64 p4, .int .i64 q4, .int .i64 r4, .int .i64 s4])).run Try.prog w = .ok true w := eqKeyIn (by simp)
          clear d0 d1 d2 d3 d4 g0 g1 g2 g3 g4 hE4 hE5 hnv4 hnv5 hrow4 hrow5
          go_wp2
          refine region_later (by kernel_rfl) (by kernel_rfl) ?_
          repeat (go_big_quiet_step ((go_at_call 11; exact Later.call (hsame _))))
          refine wpQuiet_nil ?_
          intro x9
          obtain ⟨u3, hb3⟩ := x9
          go_wp2
          go_roundw
          case rel => exact ⟨t + 1, by omega, by go_num, bel_then hbel2 hb3⟩
          case measure => simp [intOf]; omega
        · have htk : t = k := by omega
          subst htk
          have hti : ¬ (t : Int) < (t : Int) := by omega
          have kb3 := kb2.keep hbel2
          have d0 := kb3.cell 0 rfl
          have d1 := kb3.cell 1 rfl
          have d2 := kb3.cell 2 rfl
          have d3 := kb3.cell 3 rfl
          have hc2 : Hid (Calls _ _ _ _ _) := lfind_at (some ⟨b1, o1, none⟩) t cap0 m0 p q r s _ (Shape.any (Shape.now hA hB3)) HS.out i HF.out _ rfl _ rfl
          generalize (m0.getD i en0).2.1.length = nf at hc2
          go_wp2_with fail
          refine hc2.out.mono ?_
          rintro e u4 ⟨hb4, a4, c4, rfl, hr4⟩
          go_wp2_with (go_at_call 7; refine (dawake _).mono ?_; rintro e u9 ⟨rfl, hb9⟩)
          go_ret
          exact ⟨rfl, bel_then (bel_then hB3 hb4) hb9⟩

/- From the walk to the row. -/
set_option maxRecDepth 100000 in
theorem lifted (os : Os) (started : os.Started) (H : Type) (enc : TypeId × Value → H) :
    ReturnsInHanded {} Try.checked os 6 .any (Rows.ledgerStillSpec.pre6 enc Try.prog Try.f6 Rows.ledgerStillRow.domain false) (Rows.ledgerStillSpec.post enc Try.prog Try.f6 false true false false) := by
  refine returnsInHanded_of_change (C := Try.checked) own started (by kernel_rfl) Try.func6
    (ChangeSpec.witness6 (enc := enc) (C := Try.checked) false ⟨#[], #[.slice none 0 0, .int .u8 0, .slice none 0 0], []⟩ 8 (by kernel_rfl) (by kernel_rfl) (by kernel_rfl) (by kernel_rfl)) ?_
  intro W base args ds gs before hval0 hW hcnd _
  have hval : ∀ (j : Nat) t v, Try.f6.params[j]? = some t → args[j]? = some v → Value.okWide Try.prog W .any base t v := hval0
  have hW' := hW
  obtain ⟨p, q, hA0, hV, rfl, hfz, hnd⟩ := hW
  have hA : DataW.TrodAll enc Try.prog W 0 (fun _ => true) true Try.f6.params.toList args.toList ds p := hA0
  rw [Try.params6] at hA hval
  obtain ⟨v0, vs0, d0, ds0, p0, q0, hargs, rfl, rfl, h0, r0⟩ := trodAll_cons hA
  obtain ⟨v1, vs1, d1, ds1, p1, q1, rfl, rfl, rfl, h1, r1⟩ := trodAll_cons r0
  obtain ⟨v2, vs2, d2, ds2, p2, q2, rfl, rfl, rfl, h2, r2⟩ := trodAll_cons r1
  obtain ⟨rfl, rfl, rfl⟩ := trodAll_nil r2
  obtain rfl : args = #[v0, v1, v2] := by cases args; simp_all
  obtain ⟨rfl, rfl⟩ := trodVars_none hV
  obtain ⟨a0, len0, cap0, rfl⟩ := okWide_slice Try.underlying22 (hval 0 22 v0 rfl rfl)
  have k0 := h0
  have lt0 : ∀ x ∈ p0, x.block < W.heap.size := by obtain ⟨m, hm⟩ := k0; exact DataW.trod_lt m _ _ _ hm
  obtain ⟨m0, w0, f0⟩ : ∃ y, (sliceS (consS (consS (intS .i64) (consS (intS .i64) (consS (intS .i64) (consS (intS .i64) noneS)))) (consS (sliceS (intS .i64)) noneS))).rep W everywhere [.slice a0 len0 cap0] y ∧ (∀ x0 ∈ y, (((Lit.int .i64 x0.1.1).wf = true ∧ ((Lit.int .i64 x0.1.2.1).wf = true ∧ ((Lit.int .i64 x0.1.2.2.1).wf = true ∧ ((Lit.int .i64 x0.1.2.2.2.1).wf = true ∧ True)))) ∧ ((∀ x1 ∈ x0.2.1, (Lit.int .i64 x1).wf = true) ∧ True))) := by
    obtain ⟨fuel, hf⟩ := h0
    exact (opens_slice (A := (consS (consS (intS .i64) (consS (intS .i64) (consS (intS .i64) (consS (intS .i64) noneS)))) (consS (sliceS (intS .i64)) noneS))) Try.underlying22 (show Try.prog.cellsOf 29 = 5 by kernel_rfl) (by exact Nat.succ_pos _) (opens_struct Try.underlying29 (show Try.prog.cellsOf 29 = 5 by kernel_rfl) (opensAt_cons (A := (consS (intS .i64) (consS (intS .i64) (consS (intS .i64) (consS (intS .i64) noneS))))) rfl (show Try.prog.cellsOf 24 = 4 by kernel_rfl) (opens_struct Try.underlying24 (show Try.prog.cellsOf 24 = 4 by kernel_rfl) (opensAt_cons (A := (intS .i64)) rfl (show Try.prog.cellsOf 3 = 1 by kernel_rfl) (opens_int Try.underlying3) (opensAt_cons (A := (intS .i64)) rfl (show Try.prog.cellsOf 3 = 1 by kernel_rfl) (opens_int Try.underlying3) (opensAt_cons (A := (intS .i64)) rfl (show Try.prog.cellsOf 3 = 1 by kernel_rfl) (opens_int Try.underlying3) (opensAt_cons (A := (intS .i64)) rfl (show Try.prog.cellsOf 3 = 1 by kernel_rfl) (opens_int Try.underlying3) opensAt_nil (by rfl)) (by rfl)) (by rfl)) (by rfl))) (opensAt_cons (A := (sliceS (intS .i64))) rfl (show Try.prog.cellsOf 25 = 1 by kernel_rfl) (opens_slice (A := (intS .i64)) Try.underlying25 (show Try.prog.cellsOf 3 = 1 by kernel_rfl) (by exact Nat.succ_pos _) (opens_int Try.underlying3)) opensAt_nil (by rfl)) (by rfl)))) H enc W _ _ _ fuel _ _ hf
  obtain ⟨a1, rfl, rfl, rfl, w1⟩ := open_int Try.underlying5 (hval 1 5 v1 rfl rfl) h1
  obtain ⟨a2, len2, cap2, rfl⟩ := okWide_slice Try.underlying25 (hval 2 25 v2 rfl rfl)
  have k2 := h2
  have lt2 : ∀ x ∈ p2, x.block < W.heap.size := by obtain ⟨m, hm⟩ := k2; exact DataW.trod_lt m _ _ _ hm
  obtain ⟨m2, w2, f2⟩ : ∃ y, (sliceS (intS .i64)).rep W everywhere [.slice a2 len2 cap2] y ∧ (∀ x0 ∈ y, (Lit.int .i64 x0).wf = true) := by
    obtain ⟨fuel, hf⟩ := h2
    exact (opens_slice (A := (intS .i64)) Try.underlying25 (show Try.prog.cellsOf 3 = 1 by kernel_rfl) (by exact Nat.succ_pos _) (opens_int Try.underlying3)) H enc W _ _ _ fuel _ _ hf
  clear hA0 hval0
  refine (walk a0 len0 cap0 m0 a1 a2 len2 cap2 m2 W w0 f0 w1 w2 f2).mono fun e W' ⟨he, bel⟩ => ?_
  subst he
  exact ⟨_, rfl, _, _, _, [], _, [], hW', trodAll_mk1 (shut_bool Try.underlying4 _), (trodAll_cons_mk (Below.trod laidOut (by kernel_rfl) (of_decide_eq_true (by kernel_rfl)) k0 bel lt0) (trodAll_cons_mk (shut_int Try.underlying5 w1) (trodAll_cons_mk (Below.trod laidOut (by kernel_rfl) (of_decide_eq_true (by kernel_rfl)) k2 bel lt2) trodAll_mk0))), rfl, bel.frame _, fun h => by cases h⟩

theorem over : Rows.ledgerStillRow.holds Try.pinned (OpenSpec.ofChange Rows.ledgerStillSpec) :=
  OpenClaim.holds_of_wide 6 Try.f6 rfl rfl rfl rfl rfl rfl rfl ⟨rfl, rfl, rfl, rfl, rfl⟩ rfl rfl rfl rfl rfl (by kernel_rfl) Try.func6 (by kernel_rfl)
    (of_decide_eq_true (by kernel_rfl)) (by unfold Func.isWrapper; first | (rw [if_pos (by decide +kernel)]; kernel_rfl) | (rw [if_neg (by decide +kernel)]; exact ⟨rfl, rfl⟩))
    (fun os started H enc _ => lifted os started H enc)

end Go.Proofs.Ytfbghicknaldcaa.ledgerStill

namespace Go.Proofs.Ytfbghicknaldcaa
theorem ledgerStill_holds : Rows.LedgerStillSaid := ledgerStill.over
end Go.Proofs.Ytfbghicknaldcaa
