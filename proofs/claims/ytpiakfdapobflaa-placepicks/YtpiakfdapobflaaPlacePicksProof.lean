/- Whatever map, expert, node and key: whether the map is right, who holds the expert, and who is picked, is what the document says. Conditions: none beyond those of the statement (at most 30 rows of 30 numbers; else the fixed answer). -/
import Derived.Test.YtpiakfdapobflaaRows
import Derived.Test.YtpiakfdapobflaaPlcE
import Derived.Test.YtpiakfdapobflaaPlcG
import Derived.Test.YtpiakfdapobflaaPm
import Derived.WalkKit
import Derived.ProofKit
import Derived.OpenShut
import Derived.ShutString
import Derived.ChangeOld
import Derived.Below
namespace Go.Proofs.Ytpiakfdapobflaa.placePicks
open Go.ChangeShapes Go.WideShapes Go.ChangeAt Go.RowKit
open Go.ChangeMaps (open_string shut_string)
set_option linter.unusedVariables false

theorem own : ownKnob Try.prog.godebug = none := by kernel_rfl
theorem laidOut : laidOutB Try.prog = true := by kernel_rfl

/- The walk: the call returns true, and nothing that was there is written. -/
set_option maxHeartbeats 4000000 in
set_option maxRecDepth 100000 in
theorem walk (a0_0 : Int) (a0_1 : Option Addr) (len0_1 cap0_1 : Nat) (m0_1 : List (List Int)) (a1 : Int) (a2 : Int) (a3 : Int) (w : World) (w0_0 : (Lit.int .i64 a0_0).wf = true) (w0_1 : (sliceS (sliceS (intS .i64))).rep w everywhere [.slice a0_1 len0_1 cap0_1] m0_1) (f0_1 : (∀ x0 ∈ m0_1, (∀ x1 ∈ x0, (Lit.int .i64 x1).wf = true))) (w1 : (Lit.int .i64 a1).wf = true) (w2 : (Lit.int .i64 a2).wf = true) (w3 : (Lit.int .i64 a3).wf = true) :
    Calls Try.prog 4 #[.agg #[.int .i64 a0_0, .slice a0_1 len0_1 cap0_1], .int .i64 a1, .int .i64 a2, .int .i64 a3] w fun e w' => e = .returned (.bool true) ∧ Below w.heap.size w w' := by
  have hl := (sliceS_len w0_1).1
  have HL : Hid (m0_1.length = len0_1) := hl
  have hB := new_bel w (.cells #[.int .i64 a0_0, .slice a0_1 len0_1 cap0_1] 24)
  have kb := Box.new w 24 #[.int .i64 a0_0, .slice a0_1 len0_1 cap0_1]
  have hm0 := Shape.below w0_1 hB
  have HSM : Hid (Calls _ _ _ _ _) := small a0_1 len0_1 cap0_1 m0_1 everywhere _ hm0
  have c0 := kb.cell 0 rfl
  have c1 := kb.cell 1 rfl
  by_cases hS : Mx.Small m0_1
  case neg =>
    clear hm0 hl
    go_enter Try.func4, Try.ntmps4
    go_wp2_with fail
    generalize w.alloc (.cells #[.int .i64 a0_0, .slice a0_1 len0_1 cap0_1] 24) = W at *
    refine HSM.out.mono ?_
    rintro r u0 ⟨hs0, hu0⟩
    replace hu0 := hu0.symm
    subst hu0
    rw [hs0.not hS]
    clear hs0 HSM
    go_wp2_with fail
    refine (pawake _).mono ?_
    rintro r u9 ⟨rfl, hb9⟩
    go_wp2
    go_ret
    exact ⟨rfl, bel_then hB hb9⟩
  have HSH : Hid (Pl.Short m0_1) := Pl.small_short hS
  have HSZ : Hid (Ex.Sized m0_1) := HSH.out.sized
  by_cases d1 : Pl.Right a0_0 m0_1
  case neg =>
    by_cases d2 : a1 < 0
    · have HPI : Hid (Calls _ _ _ _ _) := ppick_no a0_0 a0_1 len0_1 cap0_1 m0_1 a1 a3 _ hm0 HSZ.out (by rintro ⟨h7, h8, h9⟩; first | exact absurd h7 d1 | omega)
      have HV : Hid (tell (Pl.Holds m0_1 a1 a2) = false) := tell_no fun h9 => by have := h9.1; omega
      have HM : Hid (matS.rep (w.alloc (.cells #[.int .i64 a0_0, .slice a0_1 len0_1 cap0_1] 24)) everywhere [.slice a0_1 len0_1 cap0_1] m0_1) := hm0
      have HD1 : Hid (¬ Pl.Right a0_0 m0_1) := d1
      clear hm0 hl d1
      go_enter Try.func4, Try.ntmps4
      go_wp2_with fail
      generalize w.alloc (.cells #[.int .i64 a0_0, .slice a0_1 len0_1 cap0_1] 24) = W at *
      refine HSM.out.mono ?_
      rintro r u0 ⟨hs0, hu0⟩
      replace hu0 := hu0.symm
      subst hu0
      rw [hs0.is hS]
      clear hs0 HSM
      go_wp2_with fail
      refine HPI.out.mono ?_
      rintro r u1 ⟨rfl, hb1⟩
      have kb1 := kb.keep hb1
      have HM1 : Hid (matS.rep _ _ _ m0_1) := Shape.below HM.out hb1
      have hU1 := hb1
      clear c0 c1 kb HPI HM hb1
      have c0 := kb1.cell 0 rfl
      have c1 := kb1.cell 1 rfl
      have hq2 : Hid (Calls _ _ _ _ _) := qright a0_0 a0_1 len0_1 cap0_1 m0_1 u1 HM1.out HSZ.out
      go_wp2_with fail
      refine hq2.out.mono ?_
      rintro r u2 ⟨hs2, hb2⟩
      rw [hs2.not HD1.out]
      have kb2 := kb1.keep hb2
      have HM2 : Hid (matS.rep _ _ _ m0_1) := Shape.below HM1.out hb2
      have hU2 := bel_then hU1 hb2
      clear c0 c1 kb1 HM1 hU1 hb2 hq2 hs2
      have c0 := kb2.cell 0 rfl
      have c1 := kb2.cell 1 rfl
      have hq3 : Hid (Calls _ _ _ _ _) := pright a0_0 a0_1 len0_1 cap0_1 m0_1 u2 HM2.out HSZ.out
      go_wp2_with fail
      refine hq3.out.mono ?_
      rintro r u3 ⟨hs3, hb3⟩
      rw [hs3.not HD1.out]
      have kb3 := kb2.keep hb3
      have HM3 : Hid (matS.rep _ _ _ m0_1) := Shape.below HM2.out hb3
      have hU3 := bel_then hU2 hb3
      clear c0 c1 kb2 HM2 hU2 hb3 hq3 hs3
      have c0 := kb3.cell 0 rfl
      have c1 := kb3.cell 1 rfl
      have hq4 : Hid (Calls _ _ _ _ _) := pholds a0_0 a0_1 len0_1 cap0_1 m0_1 a1 a2 _ u3 HM3.out HSZ.out HV.out
      go_wp2_with fail
      refine hq4.out.mono ?_
      rintro r u4 ⟨rfl, hb4⟩
      have kb4 := kb3.keep hb4
      have HM4 : Hid (matS.rep _ _ _ m0_1) := Shape.below HM3.out hb4
      have hU4 := bel_then hU3 hb4
      have hB4 := bel_then hB hU4
      clear c0 c1 kb3 HM3 hU3 hb4 hq4
      have c0 := kb4.cell 0 rfl
      have c1 := kb4.cell 1 rfl
      go_wp2_with fail
      refine (pawake _).mono ?_
      rintro r u9 ⟨rfl, hb9⟩
      go_wp2
      go_ret
      exact ⟨rfl, bel_then hB4 hb9⟩
    by_cases d3 : (len0_1 : Int) ≤ a1
    · have HPI : Hid (Calls _ _ _ _ _) := ppick_no a0_0 a0_1 len0_1 cap0_1 m0_1 a1 a3 _ hm0 HSZ.out (by rintro ⟨h7, h8, h9⟩; first | exact absurd h7 d1 | omega)
      have HV : Hid (tell (Pl.Holds m0_1 a1 a2) = false) := tell_no fun h9 => by have := h9.1; omega
      have HM : Hid (matS.rep (w.alloc (.cells #[.int .i64 a0_0, .slice a0_1 len0_1 cap0_1] 24)) everywhere [.slice a0_1 len0_1 cap0_1] m0_1) := hm0
      have HD1 : Hid (¬ Pl.Right a0_0 m0_1) := d1
      have d4 : 0 ≤ a1 := by omega
      clear hm0 hl d1
      go_enter Try.func4, Try.ntmps4
      go_wp2_with fail
      generalize w.alloc (.cells #[.int .i64 a0_0, .slice a0_1 len0_1 cap0_1] 24) = W at *
      refine HSM.out.mono ?_
      rintro r u0 ⟨hs0, hu0⟩
      replace hu0 := hu0.symm
      subst hu0
      rw [hs0.is hS]
      clear hs0 HSM
      go_wp2_with fail
      refine HPI.out.mono ?_
      rintro r u1 ⟨rfl, hb1⟩
      have kb1 := kb.keep hb1
      have HM1 : Hid (matS.rep _ _ _ m0_1) := Shape.below HM.out hb1
      have hU1 := hb1
      clear c0 c1 kb HPI HM hb1
      have c0 := kb1.cell 0 rfl
      have c1 := kb1.cell 1 rfl
      have hq2 : Hid (Calls _ _ _ _ _) := qright a0_0 a0_1 len0_1 cap0_1 m0_1 u1 HM1.out HSZ.out
      go_wp2_with fail
      refine hq2.out.mono ?_
      rintro r u2 ⟨hs2, hb2⟩
      rw [hs2.not HD1.out]
      have kb2 := kb1.keep hb2
      have HM2 : Hid (matS.rep _ _ _ m0_1) := Shape.below HM1.out hb2
      have hU2 := bel_then hU1 hb2
      clear c0 c1 kb1 HM1 hU1 hb2 hq2 hs2
      have c0 := kb2.cell 0 rfl
      have c1 := kb2.cell 1 rfl
      have hq3 : Hid (Calls _ _ _ _ _) := pright a0_0 a0_1 len0_1 cap0_1 m0_1 u2 HM2.out HSZ.out
      go_wp2_with fail
      refine hq3.out.mono ?_
      rintro r u3 ⟨hs3, hb3⟩
      rw [hs3.not HD1.out]
      have kb3 := kb2.keep hb3
      have HM3 : Hid (matS.rep _ _ _ m0_1) := Shape.below HM2.out hb3
      have hU3 := bel_then hU2 hb3
      clear c0 c1 kb2 HM2 hU2 hb3 hq3 hs3
      have c0 := kb3.cell 0 rfl
      have c1 := kb3.cell 1 rfl
      have hq4 : Hid (Calls _ _ _ _ _) := pholds a0_0 a0_1 len0_1 cap0_1 m0_1 a1 a2 _ u3 HM3.out HSZ.out HV.out
      go_wp2_with fail
      refine hq4.out.mono ?_
      rintro r u4 ⟨rfl, hb4⟩
      have kb4 := kb3.keep hb4
      have HM4 : Hid (matS.rep _ _ _ m0_1) := Shape.below HM3.out hb4
      have hU4 := bel_then hU3 hb4
      have hB4 := bel_then hB hU4
      clear c0 c1 kb3 HM3 hU3 hb4 hq4
      have c0 := kb4.cell 0 rfl
      have c1 := kb4.cell 1 rfl
      go_wp2_with fail
      refine (pawake _).mono ?_
      rintro r u9 ⟨rfl, hb9⟩
      go_wp2
      go_ret
      exact ⟨rfl, bel_then hB4 hb9⟩
    have HPI : Hid (Calls _ _ _ _ _) := ppick_no a0_0 a0_1 len0_1 cap0_1 m0_1 a1 a3 _ hm0 HSZ.out (by rintro ⟨h7, h8, h9⟩; first | exact absurd h7 d1 | omega)
    obtain ⟨x, rfl⟩ : ∃ x : Nat, a1 = (x : Int) := ⟨a1.toNat, by omega⟩
    have hx : x < len0_1 := by omega
    obtain ⟨b0, off, A, C, rfl, hbl, hc, hr⟩ := mat_at hm0 hx
    have hqz : (m0_1.getD x []).length ≤ 30 := hS.2 _ (Mx.getD_mem m0_1 x (by omega))
    obtain ⟨q, hq⟩ : ∃ q, (m0_1.getD x []).length = q := ⟨_, rfl⟩
    have HQ : Hid ((m0_1.getD x []).length = q) := hq
    have hR0 := Row.of_rep hr
    rw [hq] at hc hqz hR0
    have hmn : min (x : Int) ((len0_1 : Int) - 1) = (x : Int) := by omega
    have hmx : max (x : Int) 0 = (x : Int) := by omega
    have hx1 : (x : Int) < (len0_1 : Int) := by omega
    have hx0 : (0 : Int) ≤ (x : Int) := by omega
    have hn30 : len0_1 ≤ 30 := by have := hS.1; omega
    obtain ⟨v, hv⟩ : ∃ v, (m0_1.getD x []).contains a2 = v := ⟨_, rfl⟩
    have HCV : Hid ((m0_1.getD x []).contains a2 = v) := hv
    have HV : Hid (tell (Pl.Holds m0_1 (x : Int) a2) = v) := by
      show _ = _
      rw [← hv]
      by_cases h9 : a2 ∈ m0_1.getD x []
      · rw [tell_yes ⟨⟨by omega, by omega⟩, by rw [Int.toNat_natCast]; exact h9⟩]; exact (List.contains_iff_mem.2 h9).symm
      · rw [tell_no fun h8 => h9 (by have := h8.2; rwa [Int.toNat_natCast] at this)]; exact (Bool.eq_false_iff.2 fun h8 => h9 (List.contains_iff_mem.1 h8)).symm
    have HM : Hid (matS.rep (w.alloc (.cells #[.int .i64 a0_0, .slice (some ⟨b0, off, none⟩) len0_1 cap0_1] 24)) everywhere [.slice (some ⟨b0, off, none⟩) len0_1 cap0_1] m0_1) := hm0
    have HRC : Hid (∀ u, Below (w.alloc (.cells #[.int .i64 a0_0, .slice (some ⟨b0, off, none⟩) len0_1 cap0_1] 24)).heap.size (w.alloc (.cells #[.int .i64 a0_0, .slice (some ⟨b0, off, none⟩) len0_1 cap0_1] 24)) u → u.cell? ⟨b0, off + x, none⟩ = some (.slice A q C)) := fun u hu => (hu.cell (by exact hbl)).trans hc
    have HRW : Hid (∀ u, Below (w.alloc (.cells #[.int .i64 a0_0, .slice (some ⟨b0, off, none⟩) len0_1 cap0_1] 24)).heap.size (w.alloc (.cells #[.int .i64 a0_0, .slice (some ⟨b0, off, none⟩) len0_1 cap0_1] 24)) u → Row .i64 u A q (m0_1.getD x [])) := fun u hu => hR0.keep hu
    have HD1 : Hid (¬ Pl.Right a0_0 m0_1) := d1
    clear hm0 hl d1 d2 d3 hq hv hr hR0 hc hbl
    go_enter Try.func4, Try.ntmps4
    go_wp2_with fail
    generalize w.alloc (.cells #[.int .i64 a0_0, .slice (some ⟨b0, off, none⟩) len0_1 cap0_1] 24) = W at *
    refine HSM.out.mono ?_
    rintro r u0 ⟨hs0, hu0⟩
    replace hu0 := hu0.symm
    subst hu0
    rw [hs0.is hS]
    clear hs0 HSM
    go_wp2_with fail
    refine HPI.out.mono ?_
    rintro r u1 ⟨rfl, hb1⟩
    have kb1 := kb.keep hb1
    have HM1 : Hid (matS.rep _ _ _ m0_1) := Shape.below HM.out hb1
    have hU1 := hb1
    clear c0 c1 kb HPI HM hb1
    have c0 := kb1.cell 0 rfl
    have c1 := kb1.cell 1 rfl
    have hq2 : Hid (Calls _ _ _ _ _) := qright a0_0 (some ⟨b0, off, none⟩) len0_1 cap0_1 m0_1 u1 HM1.out HSZ.out
    go_wp2_with fail
    refine hq2.out.mono ?_
    rintro r u2 ⟨hs2, hb2⟩
    rw [hs2.not HD1.out]
    have kb2 := kb1.keep hb2
    have HM2 : Hid (matS.rep _ _ _ m0_1) := Shape.below HM1.out hb2
    have hU2 := bel_then hU1 hb2
    clear c0 c1 kb1 HM1 hU1 hb2 hq2 hs2
    have c0 := kb2.cell 0 rfl
    have c1 := kb2.cell 1 rfl
    have hq3 : Hid (Calls _ _ _ _ _) := pright a0_0 (some ⟨b0, off, none⟩) len0_1 cap0_1 m0_1 u2 HM2.out HSZ.out
    go_wp2_with fail
    refine hq3.out.mono ?_
    rintro r u3 ⟨hs3, hb3⟩
    rw [hs3.not HD1.out]
    have kb3 := kb2.keep hb3
    have HM3 : Hid (matS.rep _ _ _ m0_1) := Shape.below HM2.out hb3
    have hU3 := bel_then hU2 hb3
    clear c0 c1 kb2 HM2 hU2 hb3 hq3 hs3
    have c0 := kb3.cell 0 rfl
    have c1 := kb3.cell 1 rfl
    have hq4 : Hid (Calls _ _ _ _ _) := pholds a0_0 (some ⟨b0, off, none⟩) len0_1 cap0_1 m0_1 (x : Int) a2 _ u3 HM3.out HSZ.out HV.out
    go_wp2_with fail
    refine hq4.out.mono ?_
    rintro r u4 ⟨rfl, hb4⟩
    have kb4 := kb3.keep hb4
    have HM4 : Hid (matS.rep _ _ _ m0_1) := Shape.below HM3.out hb4
    have hU4 := bel_then hU3 hb4
    have hB4 := bel_then hB hU4
    clear c0 c1 kb3 HM3 hU3 hb4 hq4
    have c0 := kb4.cell 0 rfl
    have c1 := kb4.cell 1 rfl
    have c2 := HRC.out u4 hU4
    have hq5 : Hid (Calls _ _ _ _ _) := qhas A q C (m0_1.getD x []) a2 u4 (HRW.out u4 hU4) (by omega)
    have hvv : (v != v) = false := by simp
    rw [HCV.out] at hq5
    go_wp2_with fail
    refine hq5.out.mono ?_
    rintro r u5 ⟨rfl, hu5⟩
    replace hu5 := hu5.symm
    subst hu5
    clear hq5 hB
    go_wp2_with fail
    refine (pawake _).mono ?_
    rintro r u9 ⟨rfl, hb9⟩
    go_wp2
    go_ret
    exact ⟨rfl, bel_then hB4 hb9⟩
  by_cases d2 : a1 < 0
  · have HPI : Hid (Calls _ _ _ _ _) := ppick_no a0_0 a0_1 len0_1 cap0_1 m0_1 a1 a3 _ hm0 HSZ.out (by rintro ⟨h7, h8, h9⟩; first | exact absurd h7 d1 | omega)
    have HV : Hid (tell (Pl.Holds m0_1 a1 a2) = false) := tell_no fun h9 => by have := h9.1; omega
    have HM : Hid (matS.rep (w.alloc (.cells #[.int .i64 a0_0, .slice a0_1 len0_1 cap0_1] 24)) everywhere [.slice a0_1 len0_1 cap0_1] m0_1) := hm0
    have HD1 : Hid (Pl.Right a0_0 m0_1) := d1
    clear hm0 hl d1
    go_enter Try.func4, Try.ntmps4
    go_wp2_with fail
    generalize w.alloc (.cells #[.int .i64 a0_0, .slice a0_1 len0_1 cap0_1] 24) = W at *
    refine HSM.out.mono ?_
    rintro r u0 ⟨hs0, hu0⟩
    replace hu0 := hu0.symm
    subst hu0
    rw [hs0.is hS]
    clear hs0 HSM
    go_wp2_with fail
    refine HPI.out.mono ?_
    rintro r u1 ⟨rfl, hb1⟩
    have kb1 := kb.keep hb1
    have HM1 : Hid (matS.rep _ _ _ m0_1) := Shape.below HM.out hb1
    have hU1 := hb1
    clear c0 c1 kb HPI HM hb1
    have c0 := kb1.cell 0 rfl
    have c1 := kb1.cell 1 rfl
    have hq2 : Hid (Calls _ _ _ _ _) := qright a0_0 a0_1 len0_1 cap0_1 m0_1 u1 HM1.out HSZ.out
    go_wp2_with fail
    refine hq2.out.mono ?_
    rintro r u2 ⟨hs2, hb2⟩
    rw [hs2.is HD1.out]
    have kb2 := kb1.keep hb2
    have HM2 : Hid (matS.rep _ _ _ m0_1) := Shape.below HM1.out hb2
    have hU2 := bel_then hU1 hb2
    clear c0 c1 kb1 HM1 hU1 hb2 hq2 hs2
    have c0 := kb2.cell 0 rfl
    have c1 := kb2.cell 1 rfl
    have hq3 : Hid (Calls _ _ _ _ _) := pright a0_0 a0_1 len0_1 cap0_1 m0_1 u2 HM2.out HSZ.out
    go_wp2_with fail
    refine hq3.out.mono ?_
    rintro r u3 ⟨hs3, hb3⟩
    rw [hs3.is HD1.out]
    have kb3 := kb2.keep hb3
    have HM3 : Hid (matS.rep _ _ _ m0_1) := Shape.below HM2.out hb3
    have hU3 := bel_then hU2 hb3
    clear c0 c1 kb2 HM2 hU2 hb3 hq3 hs3
    have c0 := kb3.cell 0 rfl
    have c1 := kb3.cell 1 rfl
    have hq4 : Hid (Calls _ _ _ _ _) := pholds a0_0 a0_1 len0_1 cap0_1 m0_1 a1 a2 _ u3 HM3.out HSZ.out HV.out
    go_wp2_with fail
    refine hq4.out.mono ?_
    rintro r u4 ⟨rfl, hb4⟩
    have kb4 := kb3.keep hb4
    have HM4 : Hid (matS.rep _ _ _ m0_1) := Shape.below HM3.out hb4
    have hU4 := bel_then hU3 hb4
    have hB4 := bel_then hB hU4
    clear c0 c1 kb3 HM3 hU3 hb4 hq4
    have c0 := kb4.cell 0 rfl
    have c1 := kb4.cell 1 rfl
    go_wp2_with fail
    refine (pawake _).mono ?_
    rintro r u9 ⟨rfl, hb9⟩
    go_wp2
    go_ret
    exact ⟨rfl, bel_then hB4 hb9⟩
  by_cases d3 : (len0_1 : Int) ≤ a1
  · have HPI : Hid (Calls _ _ _ _ _) := ppick_no a0_0 a0_1 len0_1 cap0_1 m0_1 a1 a3 _ hm0 HSZ.out (by rintro ⟨h7, h8, h9⟩; first | exact absurd h7 d1 | omega)
    have HV : Hid (tell (Pl.Holds m0_1 a1 a2) = false) := tell_no fun h9 => by have := h9.1; omega
    have HM : Hid (matS.rep (w.alloc (.cells #[.int .i64 a0_0, .slice a0_1 len0_1 cap0_1] 24)) everywhere [.slice a0_1 len0_1 cap0_1] m0_1) := hm0
    have HD1 : Hid (Pl.Right a0_0 m0_1) := d1
    have d4 : 0 ≤ a1 := by omega
    clear hm0 hl d1
    go_enter Try.func4, Try.ntmps4
    go_wp2_with fail
    generalize w.alloc (.cells #[.int .i64 a0_0, .slice a0_1 len0_1 cap0_1] 24) = W at *
    refine HSM.out.mono ?_
    rintro r u0 ⟨hs0, hu0⟩
    replace hu0 := hu0.symm
    subst hu0
    rw [hs0.is hS]
    clear hs0 HSM
    go_wp2_with fail
    refine HPI.out.mono ?_
    rintro r u1 ⟨rfl, hb1⟩
    have kb1 := kb.keep hb1
    have HM1 : Hid (matS.rep _ _ _ m0_1) := Shape.below HM.out hb1
    have hU1 := hb1
    clear c0 c1 kb HPI HM hb1
    have c0 := kb1.cell 0 rfl
    have c1 := kb1.cell 1 rfl
    have hq2 : Hid (Calls _ _ _ _ _) := qright a0_0 a0_1 len0_1 cap0_1 m0_1 u1 HM1.out HSZ.out
    go_wp2_with fail
    refine hq2.out.mono ?_
    rintro r u2 ⟨hs2, hb2⟩
    rw [hs2.is HD1.out]
    have kb2 := kb1.keep hb2
    have HM2 : Hid (matS.rep _ _ _ m0_1) := Shape.below HM1.out hb2
    have hU2 := bel_then hU1 hb2
    clear c0 c1 kb1 HM1 hU1 hb2 hq2 hs2
    have c0 := kb2.cell 0 rfl
    have c1 := kb2.cell 1 rfl
    have hq3 : Hid (Calls _ _ _ _ _) := pright a0_0 a0_1 len0_1 cap0_1 m0_1 u2 HM2.out HSZ.out
    go_wp2_with fail
    refine hq3.out.mono ?_
    rintro r u3 ⟨hs3, hb3⟩
    rw [hs3.is HD1.out]
    have kb3 := kb2.keep hb3
    have HM3 : Hid (matS.rep _ _ _ m0_1) := Shape.below HM2.out hb3
    have hU3 := bel_then hU2 hb3
    clear c0 c1 kb2 HM2 hU2 hb3 hq3 hs3
    have c0 := kb3.cell 0 rfl
    have c1 := kb3.cell 1 rfl
    have hq4 : Hid (Calls _ _ _ _ _) := pholds a0_0 a0_1 len0_1 cap0_1 m0_1 a1 a2 _ u3 HM3.out HSZ.out HV.out
    go_wp2_with fail
    refine hq4.out.mono ?_
    rintro r u4 ⟨rfl, hb4⟩
    have kb4 := kb3.keep hb4
    have HM4 : Hid (matS.rep _ _ _ m0_1) := Shape.below HM3.out hb4
    have hU4 := bel_then hU3 hb4
    have hB4 := bel_then hB hU4
    clear c0 c1 kb3 HM3 hU3 hb4 hq4
    have c0 := kb4.cell 0 rfl
    have c1 := kb4.cell 1 rfl
    go_wp2_with fail
    refine (pawake _).mono ?_
    rintro r u9 ⟨rfl, hb9⟩
    go_wp2
    go_ret
    exact ⟨rfl, bel_then hB4 hb9⟩
  by_cases d5 : a3 < 0
  · have HPI : Hid (Calls _ _ _ _ _) := ppick_no a0_0 a0_1 len0_1 cap0_1 m0_1 a1 a3 _ hm0 HSZ.out (by rintro ⟨h7, h8, h9⟩; first | exact absurd h7 d1 | omega)
    obtain ⟨x, rfl⟩ : ∃ x : Nat, a1 = (x : Int) := ⟨a1.toNat, by omega⟩
    have hx : x < len0_1 := by omega
    obtain ⟨b0, off, A, C, rfl, hbl, hc, hr⟩ := mat_at hm0 hx
    have hqz : (m0_1.getD x []).length ≤ 30 := hS.2 _ (Mx.getD_mem m0_1 x (by omega))
    obtain ⟨q, hq⟩ : ∃ q, (m0_1.getD x []).length = q := ⟨_, rfl⟩
    have HQ : Hid ((m0_1.getD x []).length = q) := hq
    have hR0 := Row.of_rep hr
    rw [hq] at hc hqz hR0
    have hmn : min (x : Int) ((len0_1 : Int) - 1) = (x : Int) := by omega
    have hmx : max (x : Int) 0 = (x : Int) := by omega
    have hx1 : (x : Int) < (len0_1 : Int) := by omega
    have hx0 : (0 : Int) ≤ (x : Int) := by omega
    have hn30 : len0_1 ≤ 30 := by have := hS.1; omega
    obtain ⟨v, hv⟩ : ∃ v, (m0_1.getD x []).contains a2 = v := ⟨_, rfl⟩
    have HCV : Hid ((m0_1.getD x []).contains a2 = v) := hv
    have HV : Hid (tell (Pl.Holds m0_1 (x : Int) a2) = v) := by
      show _ = _
      rw [← hv]
      by_cases h9 : a2 ∈ m0_1.getD x []
      · rw [tell_yes ⟨⟨by omega, by omega⟩, by rw [Int.toNat_natCast]; exact h9⟩]; exact (List.contains_iff_mem.2 h9).symm
      · rw [tell_no fun h8 => h9 (by have := h8.2; rwa [Int.toNat_natCast] at this)]; exact (Bool.eq_false_iff.2 fun h8 => h9 (List.contains_iff_mem.1 h8)).symm
    have HM : Hid (matS.rep (w.alloc (.cells #[.int .i64 a0_0, .slice (some ⟨b0, off, none⟩) len0_1 cap0_1] 24)) everywhere [.slice (some ⟨b0, off, none⟩) len0_1 cap0_1] m0_1) := hm0
    have HRC : Hid (∀ u, Below (w.alloc (.cells #[.int .i64 a0_0, .slice (some ⟨b0, off, none⟩) len0_1 cap0_1] 24)).heap.size (w.alloc (.cells #[.int .i64 a0_0, .slice (some ⟨b0, off, none⟩) len0_1 cap0_1] 24)) u → u.cell? ⟨b0, off + x, none⟩ = some (.slice A q C)) := fun u hu => (hu.cell (by exact hbl)).trans hc
    have HRW : Hid (∀ u, Below (w.alloc (.cells #[.int .i64 a0_0, .slice (some ⟨b0, off, none⟩) len0_1 cap0_1] 24)).heap.size (w.alloc (.cells #[.int .i64 a0_0, .slice (some ⟨b0, off, none⟩) len0_1 cap0_1] 24)) u → Row .i64 u A q (m0_1.getD x [])) := fun u hu => hR0.keep hu
    have HD1 : Hid (Pl.Right a0_0 m0_1) := d1
    clear hm0 hl d1 d2 d3 hq hv hr hR0 hc hbl
    go_enter Try.func4, Try.ntmps4
    go_wp2_with fail
    generalize w.alloc (.cells #[.int .i64 a0_0, .slice (some ⟨b0, off, none⟩) len0_1 cap0_1] 24) = W at *
    refine HSM.out.mono ?_
    rintro r u0 ⟨hs0, hu0⟩
    replace hu0 := hu0.symm
    subst hu0
    rw [hs0.is hS]
    clear hs0 HSM
    go_wp2_with fail
    refine HPI.out.mono ?_
    rintro r u1 ⟨rfl, hb1⟩
    have kb1 := kb.keep hb1
    have HM1 : Hid (matS.rep _ _ _ m0_1) := Shape.below HM.out hb1
    have hU1 := hb1
    clear c0 c1 kb HPI HM hb1
    have c0 := kb1.cell 0 rfl
    have c1 := kb1.cell 1 rfl
    have hq2 : Hid (Calls _ _ _ _ _) := qright a0_0 (some ⟨b0, off, none⟩) len0_1 cap0_1 m0_1 u1 HM1.out HSZ.out
    go_wp2_with fail
    refine hq2.out.mono ?_
    rintro r u2 ⟨hs2, hb2⟩
    rw [hs2.is HD1.out]
    have kb2 := kb1.keep hb2
    have HM2 : Hid (matS.rep _ _ _ m0_1) := Shape.below HM1.out hb2
    have hU2 := bel_then hU1 hb2
    clear c0 c1 kb1 HM1 hU1 hb2 hq2 hs2
    have c0 := kb2.cell 0 rfl
    have c1 := kb2.cell 1 rfl
    have hq3 : Hid (Calls _ _ _ _ _) := pright a0_0 (some ⟨b0, off, none⟩) len0_1 cap0_1 m0_1 u2 HM2.out HSZ.out
    go_wp2_with fail
    refine hq3.out.mono ?_
    rintro r u3 ⟨hs3, hb3⟩
    rw [hs3.is HD1.out]
    have kb3 := kb2.keep hb3
    have HM3 : Hid (matS.rep _ _ _ m0_1) := Shape.below HM2.out hb3
    have hU3 := bel_then hU2 hb3
    clear c0 c1 kb2 HM2 hU2 hb3 hq3 hs3
    have c0 := kb3.cell 0 rfl
    have c1 := kb3.cell 1 rfl
    have hq4 : Hid (Calls _ _ _ _ _) := pholds a0_0 (some ⟨b0, off, none⟩) len0_1 cap0_1 m0_1 (x : Int) a2 _ u3 HM3.out HSZ.out HV.out
    go_wp2_with fail
    refine hq4.out.mono ?_
    rintro r u4 ⟨rfl, hb4⟩
    have kb4 := kb3.keep hb4
    have HM4 : Hid (matS.rep _ _ _ m0_1) := Shape.below HM3.out hb4
    have hU4 := bel_then hU3 hb4
    have hB4 := bel_then hB hU4
    clear c0 c1 kb3 HM3 hU3 hb4 hq4
    have c0 := kb4.cell 0 rfl
    have c1 := kb4.cell 1 rfl
    have c2 := HRC.out u4 hU4
    have hq5 : Hid (Calls _ _ _ _ _) := qhas A q C (m0_1.getD x []) a2 u4 (HRW.out u4 hU4) (by omega)
    have hvv : (v != v) = false := by simp
    rw [HCV.out] at hq5
    go_wp2_with fail
    refine hq5.out.mono ?_
    rintro r u5 ⟨rfl, hu5⟩
    replace hu5 := hu5.symm
    subst hu5
    clear hq5 hB
    go_wp2_with fail
    refine (pawake _).mono ?_
    rintro r u9 ⟨rfl, hb9⟩
    go_wp2
    go_ret
    exact ⟨rfl, bel_then hB4 hb9⟩
  obtain ⟨x, rfl⟩ : ∃ x : Nat, a1 = (x : Int) := ⟨a1.toNat, by omega⟩
  obtain ⟨y, rfl⟩ : ∃ y : Nat, a3 = (y : Int) := ⟨a3.toNat, by omega⟩
  have hy9 : (y : Int) ≤ 9223372036854775807 := (bounds_i64 w3).2
  obtain ⟨z, hz⟩ : ∃ z, Pl.pick (m0_1.getD x []) y = z := ⟨_, rfl⟩
  have HPI : Hid (Calls _ _ _ _ _) := ppick a0_0 a0_1 len0_1 cap0_1 m0_1 x y _ hm0 HSZ.out d1 (by omega) hy9 z hz
  have hx : x < len0_1 := by omega
  obtain ⟨b0, off, A, C, rfl, hbl, hc, hr⟩ := mat_at hm0 hx
  have hqz : (m0_1.getD x []).length ≤ 30 := hS.2 _ (Mx.getD_mem m0_1 x (by omega))
  obtain ⟨q, hq⟩ : ∃ q, (m0_1.getD x []).length = q := ⟨_, rfl⟩
  have HQ : Hid ((m0_1.getD x []).length = q) := hq
  have hR0 := Row.of_rep hr
  rw [hq] at hc hqz hR0
  have hmn : min (x : Int) ((len0_1 : Int) - 1) = (x : Int) := by omega
  have hmx : max (x : Int) 0 = (x : Int) := by omega
  have hx1 : (x : Int) < (len0_1 : Int) := by omega
  have hx0 : (0 : Int) ≤ (x : Int) := by omega
  have hn30 : len0_1 ≤ 30 := by have := hS.1; omega
  obtain ⟨v, hv⟩ : ∃ v, (m0_1.getD x []).contains a2 = v := ⟨_, rfl⟩
  have HCV : Hid ((m0_1.getD x []).contains a2 = v) := hv
  have HV : Hid (tell (Pl.Holds m0_1 (x : Int) a2) = v) := by
    show _ = _
    rw [← hv]
    by_cases h9 : a2 ∈ m0_1.getD x []
    · rw [tell_yes ⟨⟨by omega, by omega⟩, by rw [Int.toNat_natCast]; exact h9⟩]; exact (List.contains_iff_mem.2 h9).symm
    · rw [tell_no fun h8 => h9 (by have := h8.2; rwa [Int.toNat_natCast] at this)]; exact (Bool.eq_false_iff.2 fun h8 => h9 (List.contains_iff_mem.1 h8)).symm
  have HM : Hid (matS.rep (w.alloc (.cells #[.int .i64 a0_0, .slice (some ⟨b0, off, none⟩) len0_1 cap0_1] 24)) everywhere [.slice (some ⟨b0, off, none⟩) len0_1 cap0_1] m0_1) := hm0
  have HRC : Hid (∀ u, Below (w.alloc (.cells #[.int .i64 a0_0, .slice (some ⟨b0, off, none⟩) len0_1 cap0_1] 24)).heap.size (w.alloc (.cells #[.int .i64 a0_0, .slice (some ⟨b0, off, none⟩) len0_1 cap0_1] 24)) u → u.cell? ⟨b0, off + x, none⟩ = some (.slice A q C)) := fun u hu => (hu.cell (by exact hbl)).trans hc
  have HRW : Hid (∀ u, Below (w.alloc (.cells #[.int .i64 a0_0, .slice (some ⟨b0, off, none⟩) len0_1 cap0_1] 24)).heap.size (w.alloc (.cells #[.int .i64 a0_0, .slice (some ⟨b0, off, none⟩) len0_1 cap0_1] 24)) u → Row .i64 u A q (m0_1.getD x [])) := fun u hu => hR0.keep hu
  have HD1 : Hid (Pl.Right a0_0 m0_1) := d1
  have hrow := d1.row (i := x) (by omega)
  have hq1 : 1 ≤ q := by have := (Pl.row_len hrow).1; omega
  have HIN : Hid (tell (Pl.Holds m0_1 (x : Int) z) = true) := tell_yes ⟨⟨by omega, by omega⟩, by rw [Int.toNat_natCast, ← hz]; exact Pl.pick_holds hrow y⟩
  have hp : y % q < q := Nat.mod_lt _ (by omega)
  obtain ⟨b2, o2, rfl, hb2w, hcc⟩ := hR0.at hp
  have HZ2 : Hid ((m0_1.getD x []).getD (y % q) 0 = z) := by
    have := hz
    unfold Pl.pick at this
    rw [hq] at this
    exact this
  rw [HZ2.out] at hcc
  have HNC : Hid (∀ u, Below (w.alloc (.cells #[.int .i64 a0_0, .slice (some ⟨b0, off, none⟩) len0_1 cap0_1] 24)).heap.size (w.alloc (.cells #[.int .i64 a0_0, .slice (some ⟨b0, off, none⟩) len0_1 cap0_1] 24)) u → u.cell? ⟨b2, o2 + y % q, none⟩ = some (.int .i64 z)) := fun u hu => (hu.cell (by exact hb2w)).trans hcc
  have e0 : ((q : Int) == 0) = false := by simp; omega
  have e1 : ((y : Int)).tmod (q : Int) = ((y % q : Nat) : Int) := rfl
  have hy0 : ¬ (y : Int) < 0 := by omega
  have hzz : (z == z) = true := by simp
  clear hm0 hl d1 d2 d3 d5 hq hv hr hR0 hc hbl hz hcc hb2w HZ2 hrow
  generalize y % q = p at *
  have hp2 : (p : Int) < (q : Int) := by omega
  have hp0 : (0 : Int) ≤ (p : Int) := by omega
  go_enter Try.func4, Try.ntmps4
  go_wp2_with fail
  generalize w.alloc (.cells #[.int .i64 a0_0, .slice (some ⟨b0, off, none⟩) len0_1 cap0_1] 24) = W at *
  refine HSM.out.mono ?_
  rintro r u0 ⟨hs0, hu0⟩
  replace hu0 := hu0.symm
  subst hu0
  rw [hs0.is hS]
  clear hs0 HSM
  go_wp2_with fail
  refine HPI.out.mono ?_
  rintro r u1 ⟨rfl, hb1⟩
  have kb1 := kb.keep hb1
  have HM1 : Hid (matS.rep _ _ _ m0_1) := Shape.below HM.out hb1
  have hU1 := hb1
  clear c0 c1 kb HPI HM hb1
  have c0 := kb1.cell 0 rfl
  have c1 := kb1.cell 1 rfl
  have hq2 : Hid (Calls _ _ _ _ _) := qright a0_0 (some ⟨b0, off, none⟩) len0_1 cap0_1 m0_1 u1 HM1.out HSZ.out
  go_wp2_with fail
  refine hq2.out.mono ?_
  rintro r u2 ⟨hs2, hb2⟩
  rw [hs2.is HD1.out]
  have kb2 := kb1.keep hb2
  have HM2 : Hid (matS.rep _ _ _ m0_1) := Shape.below HM1.out hb2
  have hU2 := bel_then hU1 hb2
  clear c0 c1 kb1 HM1 hU1 hb2 hq2 hs2
  have c0 := kb2.cell 0 rfl
  have c1 := kb2.cell 1 rfl
  have hq3 : Hid (Calls _ _ _ _ _) := pright a0_0 (some ⟨b0, off, none⟩) len0_1 cap0_1 m0_1 u2 HM2.out HSZ.out
  go_wp2_with fail
  refine hq3.out.mono ?_
  rintro r u3 ⟨hs3, hb3⟩
  rw [hs3.is HD1.out]
  have kb3 := kb2.keep hb3
  have HM3 : Hid (matS.rep _ _ _ m0_1) := Shape.below HM2.out hb3
  have hU3 := bel_then hU2 hb3
  clear c0 c1 kb2 HM2 hU2 hb3 hq3 hs3
  have c0 := kb3.cell 0 rfl
  have c1 := kb3.cell 1 rfl
  have hq4 : Hid (Calls _ _ _ _ _) := pholds a0_0 (some ⟨b0, off, none⟩) len0_1 cap0_1 m0_1 (x : Int) a2 _ u3 HM3.out HSZ.out HV.out
  go_wp2_with fail
  refine hq4.out.mono ?_
  rintro r u4 ⟨rfl, hb4⟩
  have kb4 := kb3.keep hb4
  have HM4 : Hid (matS.rep _ _ _ m0_1) := Shape.below HM3.out hb4
  have hU4 := bel_then hU3 hb4
  have hB4 := bel_then hB hU4
  clear c0 c1 kb3 HM3 hU3 hb4 hq4
  have c0 := kb4.cell 0 rfl
  have c1 := kb4.cell 1 rfl
  have c2 := HRC.out u4 hU4
  have hq5 : Hid (Calls _ _ _ _ _) := qhas _ q C (m0_1.getD x []) a2 u4 (HRW.out u4 hU4) (by omega)
  have hvv : (v != v) = false := by simp
  rw [HCV.out] at hq5
  go_wp2_with fail
  refine hq5.out.mono ?_
  rintro r u5 ⟨rfl, hu5⟩
  replace hu5 := hu5.symm
  subst hu5
  clear hq5 hB
  have hne9 : Nonempty (Later u4) := Later.there u4
  have f0 : ∀ x9 : Later u4, x9.u.cell? ⟨w.heap.size, 0, none⟩ = some (.int .i64 a0_0) := fun x9 => x9.cell c0
  have f1 : ∀ x9 : Later u4, x9.u.cell? ⟨w.heap.size, 1, none⟩ = some (.slice (some ⟨b0, off, none⟩) len0_1 cap0_1) := fun x9 => x9.cell c1
  have f2 : ∀ x9 : Later u4, x9.u.cell? ⟨b0, off + x, none⟩ = some (.slice (some ⟨b2, o2, none⟩) q C) := fun x9 => x9.cell c2
  have f3 : ∀ x9 : Later u4, x9.u.cell? ⟨b2, o2 + p, none⟩ = some (.int .i64 z) := fun x9 => x9.cell (HNC.out u4 hU4)
  have HH9 : Hid (∀ x9 : Later u4, Calls _ _ _ _ _) := fun x9 => pholds a0_0 (some ⟨b0, off, none⟩) len0_1 cap0_1 m0_1 (x : Int) z true x9.u (Shape.below HM4.out x9.h) HSZ.out HIN.out
  have HW9 : Hid (∀ x9 : Later u4, Calls _ _ _ _ _) := fun x9 => pawake x9.u
  go_wp2
  refine region_later (by kernel_rfl) (by kernel_rfl) ?_
  repeat (go_big_quiet_step (first | (go_at_call 18; exact Later.call (HH9.out _)) | (go_at_call 10; exact Later.call (HW9.out _))))
  refine wpQuiet_nil ?_
  intro x9
  obtain ⟨W9, hb9⟩ := x9
  go_wp2
  go_ret
  exact ⟨rfl, bel_then hB4 hb9⟩

/- From the walk to the row. -/
set_option maxRecDepth 100000 in
theorem lifted (os : Os) (started : os.Started) (H : Type) (enc : TypeId × Value → H) :
    ReturnsInHanded {} Try.checked os 4 .any (Rows.placePicksSpec.pre6 enc Try.prog Try.f4 Rows.placePicksRow.domain false) (Rows.placePicksSpec.post enc Try.prog Try.f4 false true false false) := by
  refine returnsInHanded_of_change (C := Try.checked) own started (by kernel_rfl) Try.func4
    (ChangeSpec.witness6 (enc := enc) (C := Try.checked) false ⟨#[], #[.agg #[.int .i64 0, .slice none 0 0], .int .i64 0, .int .i64 0, .int .i64 0], []⟩ 8 (by kernel_rfl) (by kernel_rfl) (by kernel_rfl) (by kernel_rfl)) ?_
  intro W base args ds gs before hval0 hW hcnd _
  have hval : ∀ (j : Nat) t v, Try.f4.params[j]? = some t → args[j]? = some v → Value.okWide Try.prog W .any base t v := hval0
  have hW' := hW
  obtain ⟨p, q, hA0, hV, rfl, hfz, hnd⟩ := hW
  have hA : DataW.TrodAll enc Try.prog W 0 (fun _ => true) true Try.f4.params.toList args.toList ds p := hA0
  rw [Try.params4] at hA hval
  obtain ⟨v0, vs0, d0, ds0, p0, q0, hargs, rfl, rfl, h0, r0⟩ := trodAll_cons hA
  obtain ⟨v1, vs1, d1, ds1, p1, q1, rfl, rfl, rfl, h1, r1⟩ := trodAll_cons r0
  obtain ⟨v2, vs2, d2, ds2, p2, q2, rfl, rfl, rfl, h2, r2⟩ := trodAll_cons r1
  obtain ⟨v3, vs3, d3, ds3, p3, q3, rfl, rfl, rfl, h3, r3⟩ := trodAll_cons r2
  obtain ⟨rfl, rfl, rfl⟩ := trodAll_nil r3
  obtain rfl : args = #[v0, v1, v2, v3] := by cases args; simp_all
  obtain ⟨rfl, rfl⟩ := trodVars_none hV
  obtain ⟨cs0, rfl⟩ := okWide_agg Try.underlying24 (hval 0 24 v0 rfl rfl)
  have k0 := h0
  have lt0 : ∀ x ∈ p0, x.block < W.heap.size := by obtain ⟨m, hm⟩ := k0; exact DataW.trod_lt m _ _ _ hm
  obtain ⟨y0, hy0, hw0⟩ : ∃ y, (consS (intS .i64) (consS (sliceS (sliceS (intS .i64))) noneS)).rep W everywhere cs0 y ∧ ((Lit.int .i64 y.1).wf = true ∧ ((∀ x0 ∈ y.2.1, (∀ x1 ∈ x0, (Lit.int .i64 x1).wf = true)) ∧ True)) := by
    obtain ⟨fuel, hf⟩ := h0
    exact (opens_struct Try.underlying24 (show Try.prog.cellsOf 24 = 2 by kernel_rfl) (opensAt_cons (A := (intS .i64)) rfl (show Try.prog.cellsOf 3 = 1 by kernel_rfl) (opens_int Try.underlying3) (opensAt_cons (A := (sliceS (sliceS (intS .i64)))) rfl (show Try.prog.cellsOf 22 = 1 by kernel_rfl) (opens_slice (A := (sliceS (intS .i64))) Try.underlying22 (show Try.prog.cellsOf 40 = 1 by kernel_rfl) (by exact Nat.succ_pos _) (opens_slice (A := (intS .i64)) Try.underlying40 (show Try.prog.cellsOf 3 = 1 by kernel_rfl) (by exact Nat.succ_pos _) (opens_int Try.underlying3))) opensAt_nil (by rfl)) (by rfl))) H enc W _ _ _ fuel _ _ (by simpa [Value.cells] using hf)
  obtain ⟨a0_0, m0_1, _⟩ := y0
  obtain ⟨d0_0, rfl, hy0_0⟩ := consS_int hy0
  obtain ⟨a0_1, len0_1, cap0_1, d0_1, rfl, w0_1, hy0_1⟩ := consS_slice hy0_0
  obtain rfl := noneS_nil hy0_1
  obtain ⟨w0_0, f0_1, _⟩ := hw0
  obtain ⟨a1, rfl, rfl, rfl, w1⟩ := open_int Try.underlying3 (hval 1 3 v1 rfl rfl) h1
  obtain ⟨a2, rfl, rfl, rfl, w2⟩ := open_int Try.underlying3 (hval 2 3 v2 rfl rfl) h2
  obtain ⟨a3, rfl, rfl, rfl, w3⟩ := open_int Try.underlying3 (hval 3 3 v3 rfl rfl) h3
  clear hA0 hval0
  refine (walk a0_0 a0_1 len0_1 cap0_1 m0_1 a1 a2 a3 W w0_0 w0_1 f0_1 w1 w2 w3).mono fun e W' ⟨he, bel⟩ => ?_
  subst he
  exact ⟨_, rfl, _, _, _, [], _, [], hW', trodAll_mk1 (shut_bool Try.underlying4 _), (trodAll_cons_mk (Below.trod laidOut (by kernel_rfl) (of_decide_eq_true (by kernel_rfl)) k0 bel lt0) (trodAll_cons_mk (shut_int Try.underlying3 w1) (trodAll_cons_mk (shut_int Try.underlying3 w2) (trodAll_cons_mk (shut_int Try.underlying3 w3) trodAll_mk0)))), rfl, bel.frame _, fun h => by cases h⟩

theorem over : Rows.placePicksRow.holds Try.pinned (OpenSpec.ofChange Rows.placePicksSpec) :=
  OpenClaim.holds_of_wide 4 Try.f4 rfl rfl rfl rfl rfl rfl rfl ⟨rfl, rfl, rfl, rfl, rfl⟩ rfl rfl rfl rfl rfl (by kernel_rfl) Try.func4 (by kernel_rfl)
    (of_decide_eq_true (by kernel_rfl)) (by unfold Func.isWrapper; first | (rw [if_pos (by decide +kernel)]; kernel_rfl) | (rw [if_neg (by decide +kernel)]; exact ⟨rfl, rfl⟩))
    (fun os started H enc _ => lifted os started H enc)

end Go.Proofs.Ytpiakfdapobflaa.placePicks

namespace Go.Proofs.Ytpiakfdapobflaa
theorem placePicks_holds : Rows.PlacePicksSaid := placePicks.over
end Go.Proofs.Ytpiakfdapobflaa
