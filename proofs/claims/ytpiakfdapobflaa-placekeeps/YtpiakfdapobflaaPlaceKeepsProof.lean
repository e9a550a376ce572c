/- Whatever acts: a map that is right stays so when holders are added and retired, each expert has a holder, and epochs go up by one with each act that is done. Conditions: none (at most 60 acts are played). -/
import Derived.Test.YtpiakfdapobflaaRows
import Derived.Test.YtpiakfdapobflaaPlcG
import Derived.Test.YtpiakfdapobflaaPm
import Derived.WalkKit
import Derived.ProofKit
import Derived.OpenShut
import Derived.ShutString
import Derived.ChangeOld
import Derived.Below
namespace Go.Proofs.Ytpiakfdapobflaa.placeKeeps
open Go.ChangeShapes Go.WideShapes Go.ChangeAt Go.RowKit
open Go.ChangeMaps (open_string shut_string)
set_option linter.unusedVariables false

theorem own : ownKnob Try.prog.godebug = none := by kernel_rfl
theorem laidOut : laidOutB Try.prog = true := by kernel_rfl

/- The walk: the call returns true, and nothing that was there is written. -/
set_option maxHeartbeats 4000000 in
set_option maxRecDepth 100000 in
theorem walk (a0 : Option Addr) (len0 cap0 : Nat) (m0 : List Int) (w : World) (w0 : (sliceS (intS .u8)).rep w everywhere [.slice a0 len0 cap0] m0) (f0 : (∀ x0 ∈ m0, (Lit.int .u8 x0).wf = true)) :
    Calls Try.prog 5 #[.slice a0 len0 cap0] w fun e w' => e = .returned (.bool true) ∧ Below w.heap.size w w' := by
  have hl := (sliceS_len w0).1
  have r1 : rowS.rep ((w.alloc (.cells #[.int .i64 1] 3)).alloc (.cells #[.int .i64 2, .int .i64 3] 3)) everywhere [.slice (some ⟨w.heap.size, 0, none⟩) 1 1] [1] := Shape.below (row_lit w [1] 3 (by simp [maxLen])) (new_bel _ _)
  have r2 : rowS.rep ((w.alloc (.cells #[.int .i64 1] 3)).alloc (.cells #[.int .i64 2, .int .i64 3] 3)) everywhere [.slice (some ⟨w.heap.size + 1, 0, none⟩) 2 2] [2, 3] := by
    have h := row_lit (w.alloc (.cells #[.int .i64 1] 3)) [2, 3] 3 (by simp [maxLen])
    rw [show (w.alloc (.cells #[.int .i64 1] 3)).heap.size = w.heap.size + 1 by simp] at h
    exact h
  have r3 : matS.rep (((w.alloc (.cells #[.int .i64 1] 3)).alloc (.cells #[.int .i64 2, .int .i64 3] 3)).alloc (.cells #[.slice (some ⟨w.heap.size, 0, none⟩) 1 1, .slice (some ⟨w.heap.size + 1, 0, none⟩) 2 2] 40)) everywhere [.slice (some ⟨w.heap.size + 1 + 1, 0, none⟩) 2 2] [[1], [2, 3]] := by
    have h := rows_two r1 r2
    rw [show ((w.alloc (.cells #[.int .i64 1] 3)).alloc (.cells #[.int .i64 2, .int .i64 3] 3)).heap.size = w.heap.size + 1 + 1 by simp] at h
    exact h
  have hs3 : (((w.alloc (.cells #[.int .i64 1] 3)).alloc (.cells #[.int .i64 2, .int .i64 3] 3)).alloc (.cells #[.slice (some ⟨w.heap.size, 0, none⟩) 1 1, .slice (some ⟨w.heap.size + 1, 0, none⟩) 2 2] 40)).heap.size = w.heap.size + 1 + 1 + 1 := by simp
  have hB3 : Below w.heap.size w (((w.alloc (.cells #[.int .i64 1] 3)).alloc (.cells #[.int .i64 2, .int .i64 3] 3)).alloc (.cells #[.slice (some ⟨w.heap.size, 0, none⟩) 1 1, .slice (some ⟨w.heap.size + 1, 0, none⟩) 2 2] 40)) := bel_alloc (bel_alloc (new_bel _ _) _) _
  have r4 := Shape.below (Shape.low r3) (new_bel (((w.alloc (.cells #[.int .i64 1] 3)).alloc (.cells #[.int .i64 2, .int .i64 3] 3)).alloc (.cells #[.slice (some ⟨w.heap.size, 0, none⟩) 1 1, .slice (some ⟨w.heap.size + 1, 0, none⟩) 2 2] 40)) (.cells #[.int .i64 0, .slice (some ⟨w.heap.size + 1 + 1, 0, none⟩) 2 2] 24))
  have kb := Box.new (((w.alloc (.cells #[.int .i64 1] 3)).alloc (.cells #[.int .i64 2, .int .i64 3] 3)).alloc (.cells #[.slice (some ⟨w.heap.size, 0, none⟩) 1 1, .slice (some ⟨w.heap.size + 1, 0, none⟩) 2 2] 40)) 24 #[.int .i64 0, .slice (some ⟨w.heap.size + 1 + 1, 0, none⟩) 2 2]
  have hB := bel_alloc hB3 (.cells #[.int .i64 0, .slice (some ⟨w.heap.size + 1 + 1, 0, none⟩) 2 2] 24)
  rw [hs3] at kb r4
  have HINV : Hid (Pl.Right 0 [[1], [2, 3]] ∧ ([[1], [2, 3]] : List (List Int)).length = 2) := ⟨⟨by omega, by simp, fun l hl => by
    rcases List.mem_cons.1 hl with rfl | hl
    · exact Pl.rows_ok (by decide)
    · rw [List.mem_singleton.1 hl]; exact Pl.rows_ok (by decide)⟩, rfl⟩
  have HREP : Hid (matS.rep ((((w.alloc (.cells #[.int .i64 1] 3)).alloc (.cells #[.int .i64 2, .int .i64 3] 3)).alloc (.cells #[.slice (some ⟨w.heap.size, 0, none⟩) 1 1, .slice (some ⟨w.heap.size + 1, 0, none⟩) 2 2] 40)).alloc (.cells #[.int .i64 0, .slice (some ⟨w.heap.size + 1 + 1, 0, none⟩) 2 2] 24)) (· ≠ w.heap.size + 1 + 1 + 1) [.slice (some ⟨w.heap.size + 1 + 1, 0, none⟩) 2 2] [[1], [2, 3]]) := matS.mono r4 fun b hb _ => by omega
  have HFIT : Hid (∀ x ∈ m0, (Lit.int .u8 x).wf = true) := f0
  have HROW : Hid (∀ u, Below w.heap.size w u → Row .u8 u a0 len0 m0) := fun u hu => (Row.of_rep w0).keep hu
  have HL : Hid (m0.length = len0) := hl
  clear r1 r2 r3 r4 hs3 hB3 hl f0
  go_enter Try.func5, Try.ntmps5
  go_wp2
  generalize ((((w.alloc (.cells #[.int .i64 1] 3)).alloc (.cells #[.int .i64 2, .int .i64 3] 3)).alloc (.cells #[.slice (some ⟨w.heap.size, 0, none⟩) 1 1, .slice (some ⟨w.heap.size + 1, 0, none⟩) 2 2] 40)).alloc (.cells #[.int .i64 0, .slice (some ⟨w.heap.size + 1 + 1, 0, none⟩) 2 2] 24)) = V at *
  go_loopw [4] (fun iv wr => ∃ (k : Nat) (E : Int) (M : List (List Int)) (a : Option Addr) (c : Nat), k ≤ 60 ∧ k ≤ len0 ∧ iv = .int .i64 k ∧ Hid (matS.rep wr (· ≠ w.heap.size + 1 + 1 + 1) [.slice a 2 c] M) ∧ Hid (Pl.Right E M ∧ M.length = 2) ∧ (0 ≤ E ∧ E ≤ k) ∧ Box wr (w.heap.size + 1 + 1 + 1) 24 #[.int .i64 E, .slice a 2 c] ∧ Below w.heap.size w wr) (fun iv _ => 60 - (intOf iv).toNat)
  case atStart => exact ⟨0, 0, _, _, _, Nat.zero_le _, Nat.zero_le _, rfl, HREP.out, HINV.out, by omega, kb, hB⟩
  case round =>
    clear HREP HINV kb hB
    obtain ⟨k, E, M, a, c, hk, hkl, rfl, HREP, HINV, hE, kb, hbel⟩ := hrel
    by_cases hlt : k < len0
    · by_cases h60 : k < 60
      · obtain ⟨b1, o1, rfl, hb1, hcell⟩ := (HROW.out wr hbel).at hlt
        have hli : (k : Int) < (len0 : Int) := by omega
        have hl6 : (k : Int) < 60 := by omega
        have hk0 : (0 : Int) ≤ (k : Int) := by omega
        obtain ⟨y, hy⟩ : ∃ y, m0.getD k 0 = y := ⟨_, rfl⟩
        have hyb := bounds_u8 (HFIT.out _ (Mx.num_mem m0 k (by have := HL.out; omega)))
        rw [hy] at hcell hyb
        have hy0 := hyb.1
        have hy1 := hyb.2
        clear hy hyb
        have c0 := kb.cell 0 rfl
        have c1 := kb.cell 1 rfl
        have HBY : Hid (∀ u, Below wr.heap.size wr u → u.cell? ⟨b1, o1 + k, none⟩ = some (.int .u8 y)) := fun u hu => (hu.cell (by exact hb1)).trans hcell
        go_wp2
        go_quiet (fail)
        have hbq := bel_drewN (Below.refl wr.heap.size wr) nq
        have kb2 := kb.keep hbq
        have hbel2 := bel_then hbel hbq
        have hrep2 := Shape.below HREP.out hbq
        have HSH : Hid (Pl.Short M) := ⟨by have := HINV.out.2; omega, fun l hl => by have := Pl.right_sized HINV.out.1 l hl; omega⟩
        have HLM : Hid (M.length = 2) := HINV.out.2
        clear c0 c1 kb hbel HREP hcell
        have HBZ : Hid (∀ u, Below (wr.drewN nq).heap.size (wr.drewN nq) u → u.cell? ⟨b1, o1 + k, none⟩ = some (.int .u8 y)) := fun u hu => HBY.out u (bel_then hbq hu)
        clear HBY hbq
        generalize wr.drewN nq = V5 at *
        generalize y % 8 = n9 at *
        generalize y / 16 % 2 = x2 at *
        have hNB := kb2.lt
        have hbt := new_bel V5 (.cells #[.int .i64 E, .slice a 2 c] 24)
        have kt := Box.new V5 24 #[.int .i64 E, .slice a 2 c]
        have kb3 := kb2.keep hbt
        have hbel3 := bel_then hbel2 hbt
        have hz3 : (V5.alloc (.cells #[.int .i64 E, .slice a 2 c] 24)).heap.size = V5.heap.size + 1 := by simp
        have hrep3 := Shape.below (matS.mono hrep2 fun b (hb : b ≠ w.heap.size + 1 + 1 + 1) (hlt : b < V5.heap.size) => (show b ≠ w.heap.size + 1 + 1 + 1 ∧ b < V5.heap.size from ⟨hb, hlt⟩)) hbt
        have c0 := kb2.cell 0 rfl
        have c1 := kb2.cell 1 rfl
        have d0 := kb3.cell 0 rfl
        have d1 := kb3.cell 1 rfl
        have hby := HBZ.out _ hbt
        by_cases hG : y % 16 < 8
        · have hGd : decide (y % 16 < 8) = true := decide_eq_true hG
          obtain ⟨E2, M2, X, hA⟩ := Pl.add_there E M x2 n9
          have HA : Hid (Pl.Add E M x2 n9 E2 M2 X) := hA
          have hAD := padd (fun b => b ≠ w.heap.size + 1 + 1 + 1 ∧ b < V5.heap.size) E a 2 c M x2 n9 _ hrep3 (fun b hb => by rw [hz3]; have := hb.2; omega) HSH.out E2 X M2 hA
          rw [hz3] at hAD
          have HAD : Hid (Calls _ _ _ _ _) := hAD
          have HZ3 : Hid ((V5.alloc (.cells #[.int .i64 E, .slice a 2 c] 24)).heap.size = V5.heap.size + 1) := hz3
          clear hA hAD hrep3 hrep2 hz3
          go_wp2_with fail
          generalize V5.alloc (.cells #[.int .i64 E, .slice a 2 c] 24) = V6 at *
          refine HAD.out.mono ?_
          rintro r u1 ⟨hb6, a', c', rfl, hr6⟩
          have hb7 : Below V6.heap.size V6 u1 := by rw [HZ3.out]; exact hb6
          have kt1 := kt.keep hb7
          have kb4 := kb3.keep hb7
          have hbel4 := bel_then hbel3 hb7
          have HQ : Hid (∀ b, ((b ≠ w.heap.size + 1 + 1 + 1 ∧ b < V5.heap.size) ∨ V5.heap.size + 1 + 2 ≤ b) → b ≠ V5.heap.size ∧ b ≠ w.heap.size + 1 + 1 + 1) := fun b hb => by omega
          have ktU := kt1.all2 (.int .i64 E2) (.slice a' 2 c')
          have kbU := kb4.all2_other (b2 := V5.heap.size) (by omega) (.int .i64 E2) (.slice a' 2 c')
          have hbelU := bel_all2 hbel4 (b := V5.heap.size) (by have := hbel2.size; exact this) (.int .i64 E2) (.slice a' 2 c')
          have HRU : Hid (matS.rep _ _ [.slice a' 2 c'] M2) := Shape.all2 (b := V5.heap.size) hr6 (fun b hb _ => (HQ.out b hb).1) (.int .i64 E2) (.slice a' 2 c')
          have HBU : Hid (∀ u, Below (((u1.setCell ⟨V5.heap.size, 0, none⟩ (.int .i64 E2)).setCell ⟨V5.heap.size, 1, none⟩ (.slice a' 2 c'))).heap.size ((u1.setCell ⟨V5.heap.size, 0, none⟩ (.int .i64 E2)).setCell ⟨V5.heap.size, 1, none⟩ (.slice a' 2 c')) u → u.cell? ⟨b1, o1 + k, none⟩ = some (.int .u8 y)) := fun u hu => by
            have h5 : Below V5.heap.size V5 ((u1.setCell ⟨V5.heap.size, 0, none⟩ (.int .i64 E2)).setCell ⟨V5.heap.size, 1, none⟩ (.slice a' 2 c')) := bel_all2 (bel_then hbt hb7) (Nat.le_refl _) _ _
            exact HBZ.out u (bel_then h5 hu)
          have HRI : Hid (Pl.Right E2 M2 ∧ M2.length = 2) := ⟨HA.out.right HINV.out.1, HA.out.len.trans HLM.out⟩
          have HSZ2 : Hid (Ex.Sized M2) := ⟨by have := HRI.out.2; omega, fun l hl => by have := Pl.right_sized HRI.out.1 l hl; omega⟩
          have HRT : Hid (Calls _ _ _ _ _) := pright_tell E2 a' 2 c' M2 _ (Shape.any HRU.out) HSZ2.out true (tell_yes HRI.out.1)
          have t0 := kt1.cell 0 rfl
          have t1 := kt1.cell 1 rfl
          have g0 := kt1.free 0
          have g1 := kt1.free 1
          clear hb6 hr6 HAD c0 c1 d0 d1 hby kb3 kb2 hbel2 hbel3 hbt kt hb7 HBZ
          have p0 := ktU.cell 0 rfl
          have p1 := ktU.cell 1 rfl
          go_wp2_with fail
          generalize (u1.setCell ⟨V5.heap.size, 0, none⟩ (.int .i64 E2)).setCell ⟨V5.heap.size, 1, none⟩ (.slice a' 2 c') = U at *
          refine HRT.out.mono ?_
          rintro r u2 ⟨rfl, hb8⟩
          have kt2 := ktU.keep hb8
          have kb5 := kbU.keep hb8
          have hbel5 := bel_then hbelU hb8
          have HRV : Hid (matS.rep _ _ [.slice a' 2 c'] M2) := Shape.below HRU.out hb8
          have HBV : Hid (∀ u, Below u2.heap.size u2 u → u.cell? ⟨b1, o1 + k, none⟩ = some (.int .u8 y)) := fun u hu => HBU.out u (bel_then hb8 hu)
          clear t0 t1 g0 g1 p0 p1 kt1 kb4 hbel4 ktU kbU hbelU HRU HBU HRT hb8
          have t0 := kt2.cell 0 rfl
          have t1 := kt2.cell 1 rfl
          have c0 := kb5.cell 0 rfl
          have hne9 : Nonempty (Later u2) := Later.there u2
          have f0 : ∀ x9 : Later u2, x9.u.cell? ⟨V5.heap.size, 0, none⟩ = some (.int .i64 E2) := fun x9 => x9.cell t0
          have f1 : ∀ x9 : Later u2, x9.u.cell? ⟨V5.heap.size, 1, none⟩ = some (.slice a' 2 c') := fun x9 => x9.cell t1
          have f2 : ∀ x9 : Later u2, x9.u.cell? ⟨b1, o1 + k, none⟩ = some (.int .u8 y) := fun x9 => HBV.out _ x9.h
          by_cases hX : X = 0
          · obtain ⟨hE2, hH⟩ := HA.out.done hX
            have hE9 : (0 ≤ E ∧ E ≤ 59) := by omega
            subst hE2
            subst hX
            have eE : (E + 1 != E + 1) = false := by simp
            have HHO : Hid (∀ x9 : Later u2, Calls _ _ _ _ _) := fun x9 => pholds (E + 1) a' 2 c' M2 x2 n9 true x9.u (Shape.any (Shape.below HRV.out x9.h)) HSZ2.out (tell_yes hH)
            clear hH HA
            go_wp2
            refine region_later (by kernel_rfl) (by kernel_rfl) ?_
            repeat (go_big_quiet_step ((go_at_call 18; exact Later.call (HHO.out _))))
            refine wpQuiet_nil ?_
            intro x9
            obtain ⟨W9, hb9⟩ := x9
            have kt3 := kt2.keep hb9
            have kb6 := kb5.keep hb9
            have hbel6 := bel_then hbel5 hb9
            have HRW : Hid (matS.rep _ _ [.slice a' 2 c'] M2) := Shape.below HRV.out hb9
            clear t0 t1 c0 f0 f1 f2 hne9 kt2 kb5 hbel5
            have t0 := kt3.cell 0 rfl
            have t1 := kt3.cell 1 rfl
            have m0' := kb6.cell 0 rfl
            have m1' := kb6.cell 1 rfl
            have g0 := kb6.free 0
            have g1 := kb6.free 1
            go_wp2
            go_roundw
            case rel => exact ⟨k + 1, E + 1, M2, a', c', by omega, by omega, by go_num, matS.mono (Shape.all2 HRW.out (fun b hb _ => (HQ.out b hb).2) _ _) (fun b hb _ => (HQ.out b hb).2), HRI.out, by omega, kb6.all2 _ _, bel_all2 hbel6 (by omega) _ _⟩
            case measure => simp [intOf]; omega
          · have hE2 := HA.out.still hX
            subst hE2
            have eX : (X == 0) = false := by simpa using hX
            have eY : (X != 0) = true := by simpa using hX
            have eE : (E2 != E2) = false := by simp
            clear HA
            go_wp2
            refine region_later (by kernel_rfl) (by kernel_rfl) ?_
            repeat (go_big_quiet_step (fail))
            refine wpQuiet_nil ?_
            intro x9
            obtain ⟨W9, hb9⟩ := x9
            have kt3 := kt2.keep hb9
            have kb6 := kb5.keep hb9
            have hbel6 := bel_then hbel5 hb9
            have HRW : Hid (matS.rep _ _ [.slice a' 2 c'] M2) := Shape.below HRV.out hb9
            clear t0 t1 c0 f0 f1 f2 hne9 kt2 kb5 hbel5
            have t0 := kt3.cell 0 rfl
            have t1 := kt3.cell 1 rfl
            have m0' := kb6.cell 0 rfl
            have m1' := kb6.cell 1 rfl
            have g0 := kb6.free 0
            have g1 := kb6.free 1
            go_wp2
            go_roundw
            case rel => exact ⟨k + 1, E2, M2, a', c', by omega, by omega, by go_num, matS.mono (Shape.all2 HRW.out (fun b hb _ => (HQ.out b hb).2) _ _) (fun b hb _ => (HQ.out b hb).2), HRI.out, by omega, kb6.all2 _ _, bel_all2 hbel6 (by omega) _ _⟩
            case measure => simp [intOf]; omega
        · have hGd : decide (y % 16 < 8) = false := decide_eq_false hG
          obtain ⟨E2, M2, X, hA⟩ := Pl.ret_there E M x2 n9
          have HA : Hid (Pl.Ret E M x2 n9 E2 M2 X) := hA
          have hAD := pretire (fun b => b ≠ w.heap.size + 1 + 1 + 1 ∧ b < V5.heap.size) E a 2 c M x2 n9 _ hrep3 (fun b hb => by rw [hz3]; have := hb.2; omega) HSH.out E2 X M2 hA
          rw [hz3] at hAD
          have HAD : Hid (Calls _ _ _ _ _) := hAD
          have HZ3 : Hid ((V5.alloc (.cells #[.int .i64 E, .slice a 2 c] 24)).heap.size = V5.heap.size + 1) := hz3
          clear hA hAD hrep3 hrep2 hz3
          go_wp2_with fail
          generalize V5.alloc (.cells #[.int .i64 E, .slice a 2 c] 24) = V6 at *
          refine HAD.out.mono ?_
          rintro r u1 ⟨hb6, a', c', rfl, hr6⟩
          have hb7 : Below V6.heap.size V6 u1 := by rw [HZ3.out]; exact hb6
          have kt1 := kt.keep hb7
          have kb4 := kb3.keep hb7
          have hbel4 := bel_then hbel3 hb7
          have HQ : Hid (∀ b, ((b ≠ w.heap.size + 1 + 1 + 1 ∧ b < V5.heap.size) ∨ V5.heap.size + 1 + 2 ≤ b) → b ≠ V5.heap.size ∧ b ≠ w.heap.size + 1 + 1 + 1) := fun b hb => by omega
          have ktU := kt1.all2 (.int .i64 E2) (.slice a' 2 c')
          have kbU := kb4.all2_other (b2 := V5.heap.size) (by omega) (.int .i64 E2) (.slice a' 2 c')
          have hbelU := bel_all2 hbel4 (b := V5.heap.size) (by have := hbel2.size; exact this) (.int .i64 E2) (.slice a' 2 c')
          have HRU : Hid (matS.rep _ _ [.slice a' 2 c'] M2) := Shape.all2 (b := V5.heap.size) hr6 (fun b hb _ => (HQ.out b hb).1) (.int .i64 E2) (.slice a' 2 c')
          have HBU : Hid (∀ u, Below (((u1.setCell ⟨V5.heap.size, 0, none⟩ (.int .i64 E2)).setCell ⟨V5.heap.size, 1, none⟩ (.slice a' 2 c'))).heap.size ((u1.setCell ⟨V5.heap.size, 0, none⟩ (.int .i64 E2)).setCell ⟨V5.heap.size, 1, none⟩ (.slice a' 2 c')) u → u.cell? ⟨b1, o1 + k, none⟩ = some (.int .u8 y)) := fun u hu => by
            have h5 : Below V5.heap.size V5 ((u1.setCell ⟨V5.heap.size, 0, none⟩ (.int .i64 E2)).setCell ⟨V5.heap.size, 1, none⟩ (.slice a' 2 c')) := bel_all2 (bel_then hbt hb7) (Nat.le_refl _) _ _
            exact HBZ.out u (bel_then h5 hu)
          have HRI : Hid (Pl.Right E2 M2 ∧ M2.length = 2) := ⟨HA.out.right HINV.out.1, HA.out.len.trans HLM.out⟩
          have HSZ2 : Hid (Ex.Sized M2) := ⟨by have := HRI.out.2; omega, fun l hl => by have := Pl.right_sized HRI.out.1 l hl; omega⟩
          have HRT : Hid (Calls _ _ _ _ _) := pright_tell E2 a' 2 c' M2 _ (Shape.any HRU.out) HSZ2.out true (tell_yes HRI.out.1)
          have t0 := kt1.cell 0 rfl
          have t1 := kt1.cell 1 rfl
          have g0 := kt1.free 0
          have g1 := kt1.free 1
          clear hb6 hr6 HAD c0 c1 d0 d1 hby kb3 kb2 hbel2 hbel3 hbt kt hb7 HBZ
          have p0 := ktU.cell 0 rfl
          have p1 := ktU.cell 1 rfl
          go_wp2_with fail
          generalize (u1.setCell ⟨V5.heap.size, 0, none⟩ (.int .i64 E2)).setCell ⟨V5.heap.size, 1, none⟩ (.slice a' 2 c') = U at *
          refine HRT.out.mono ?_
          rintro r u2 ⟨rfl, hb8⟩
          have kt2 := ktU.keep hb8
          have kb5 := kbU.keep hb8
          have hbel5 := bel_then hbelU hb8
          have HRV : Hid (matS.rep _ _ [.slice a' 2 c'] M2) := Shape.below HRU.out hb8
          have HBV : Hid (∀ u, Below u2.heap.size u2 u → u.cell? ⟨b1, o1 + k, none⟩ = some (.int .u8 y)) := fun u hu => HBU.out u (bel_then hb8 hu)
          clear t0 t1 g0 g1 p0 p1 kt1 kb4 hbel4 ktU kbU hbelU HRU HBU HRT hb8
          have t0 := kt2.cell 0 rfl
          have t1 := kt2.cell 1 rfl
          have c0 := kb5.cell 0 rfl
          have hne9 : Nonempty (Later u2) := Later.there u2
          have f0 : ∀ x9 : Later u2, x9.u.cell? ⟨V5.heap.size, 0, none⟩ = some (.int .i64 E2) := fun x9 => x9.cell t0
          have f1 : ∀ x9 : Later u2, x9.u.cell? ⟨V5.heap.size, 1, none⟩ = some (.slice a' 2 c') := fun x9 => x9.cell t1
          have f2 : ∀ x9 : Later u2, x9.u.cell? ⟨b1, o1 + k, none⟩ = some (.int .u8 y) := fun x9 => HBV.out _ x9.h
          by_cases hX : X = 0
          · obtain ⟨hE2, hH⟩ := HA.out.done hX
            have hE9 : (0 ≤ E ∧ E ≤ 59) := by omega
            subst hE2
            subst hX
            have eE : (E + 1 != E + 1) = false := by simp
            have HHO : Hid (∀ x9 : Later u2, Calls _ _ _ _ _) := fun x9 => pholds (E + 1) a' 2 c' M2 x2 n9 false x9.u (Shape.any (Shape.below HRV.out x9.h)) HSZ2.out (tell_no hH)
            clear hH HA
            go_wp2
            refine region_later (by kernel_rfl) (by kernel_rfl) ?_
            repeat (go_big_quiet_step ((go_at_call 18; exact Later.call (HHO.out _))))
            refine wpQuiet_nil ?_
            intro x9
            obtain ⟨W9, hb9⟩ := x9
            have kt3 := kt2.keep hb9
            have kb6 := kb5.keep hb9
            have hbel6 := bel_then hbel5 hb9
            have HRW : Hid (matS.rep _ _ [.slice a' 2 c'] M2) := Shape.below HRV.out hb9
            clear t0 t1 c0 f0 f1 f2 hne9 kt2 kb5 hbel5
            have t0 := kt3.cell 0 rfl
            have t1 := kt3.cell 1 rfl
            have m0' := kb6.cell 0 rfl
            have m1' := kb6.cell 1 rfl
            have g0 := kb6.free 0
            have g1 := kb6.free 1
            go_wp2
            go_roundw
            case rel => exact ⟨k + 1, E + 1, M2, a', c', by omega, by omega, by go_num, matS.mono (Shape.all2 HRW.out (fun b hb _ => (HQ.out b hb).2) _ _) (fun b hb _ => (HQ.out b hb).2), HRI.out, by omega, kb6.all2 _ _, bel_all2 hbel6 (by omega) _ _⟩
            case measure => simp [intOf]; omega
          · have hE2 := HA.out.still hX
            subst hE2
            have eX : (X == 0) = false := by simpa using hX
            have eY : (X != 0) = true := by simpa using hX
            have eE : (E2 != E2) = false := by simp
            clear HA
            go_wp2
            refine region_later (by kernel_rfl) (by kernel_rfl) ?_
            repeat (go_big_quiet_step (fail))
            refine wpQuiet_nil ?_
            intro x9
            obtain ⟨W9, hb9⟩ := x9
            have kt3 := kt2.keep hb9
            have kb6 := kb5.keep hb9
            have hbel6 := bel_then hbel5 hb9
            have HRW : Hid (matS.rep _ _ [.slice a' 2 c'] M2) := Shape.below HRV.out hb9
            clear t0 t1 c0 f0 f1 f2 hne9 kt2 kb5 hbel5
            have t0 := kt3.cell 0 rfl
            have t1 := kt3.cell 1 rfl
            have m0' := kb6.cell 0 rfl
            have m1' := kb6.cell 1 rfl
            have g0 := kb6.free 0
            have g1 := kb6.free 1
            go_wp2
            go_roundw
            case rel => exact ⟨k + 1, E2, M2, a', c', by omega, by omega, by go_num, matS.mono (Shape.all2 HRW.out (fun b hb _ => (HQ.out b hb).2) _ _) (fun b hb _ => (HQ.out b hb).2), HRI.out, by omega, kb6.all2 _ _, bel_all2 hbel6 (by omega) _ _⟩
            case measure => simp [intOf]; omega
      · clear HREP
        have hk6 : k = 60 := by omega
        subst hk6
        have hli : ((60 : Nat) : Int) < (len0 : Int) := by omega
        have hB9 := hbel
        go_wp2_with fail
        refine (pawake _).mono ?_
        rintro r u9 ⟨rfl, hb9⟩
        go_wp2
        go_ret
        exact ⟨rfl, bel_then hB9 hb9⟩
    · have hli : ¬ (k : Int) < (len0 : Int) := by omega
      have hB9 := hbel
      go_wp2_with fail
      refine (pawake _).mono ?_
      rintro r u9 ⟨rfl, hb9⟩
      go_wp2
      go_ret
      exact ⟨rfl, bel_then hB9 hb9⟩

/- From the walk to the row. -/
set_option maxRecDepth 100000 in
theorem lifted (os : Os) (started : os.Started) (H : Type) (enc : TypeId × Value → H) :
    ReturnsInHanded {} Try.checked os 5 .any (Rows.placeKeepsSpec.pre6 enc Try.prog Try.f5 Rows.placeKeepsRow.domain false) (Rows.placeKeepsSpec.post enc Try.prog Try.f5 false true false false) := by
  refine returnsInHanded_of_change (C := Try.checked) own started (by kernel_rfl) Try.func5
    (ChangeSpec.witness6 (enc := enc) (C := Try.checked) false ⟨#[], #[.slice none 0 0], []⟩ 8 (by kernel_rfl) (by kernel_rfl) (by kernel_rfl) (by kernel_rfl)) ?_
  intro W base args ds gs before hval0 hW hcnd _
  have hval : ∀ (j : Nat) t v, Try.f5.params[j]? = some t → args[j]? = some v → Value.okWide Try.prog W .any base t v := hval0
  have hW' := hW
  obtain ⟨p, q, hA0, hV, rfl, hfz, hnd⟩ := hW
  have hA : DataW.TrodAll enc Try.prog W 0 (fun _ => true) true Try.f5.params.toList args.toList ds p := hA0
  rw [Try.params5] at hA hval
  obtain ⟨v0, vs0, d0, ds0, p0, q0, hargs, rfl, rfl, h0, r0⟩ := trodAll_cons hA
  obtain ⟨rfl, rfl, rfl⟩ := trodAll_nil r0
  obtain rfl : args = #[v0] := by cases args; simp_all
  obtain ⟨rfl, rfl⟩ := trodVars_none hV
  obtain ⟨a0, len0, cap0, rfl⟩ := okWide_slice Try.underlying42 (hval 0 42 v0 rfl rfl)
  have k0 := h0
  have lt0 : ∀ x ∈ p0, x.block < W.heap.size := by obtain ⟨m, hm⟩ := k0; exact DataW.trod_lt m _ _ _ hm
  obtain ⟨m0, w0, f0⟩ : ∃ y, (sliceS (intS .u8)).rep W everywhere [.slice a0 len0 cap0] y ∧ (∀ x0 ∈ y, (Lit.int .u8 x0).wf = true) := by
    obtain ⟨fuel, hf⟩ := h0
    exact (opens_slice (A := (intS .u8)) Try.underlying42 (show Try.prog.cellsOf 5 = 1 by kernel_rfl) (by exact Nat.succ_pos _) (opens_int Try.underlying5)) H enc W _ _ _ fuel _ _ hf
  clear hA0 hval0
  refine (walk a0 len0 cap0 m0 W w0 f0).mono fun e W' ⟨he, bel⟩ => ?_
  subst he
  exact ⟨_, rfl, _, _, _, [], _, [], hW', trodAll_mk1 (shut_bool Try.underlying4 _), (trodAll_cons_mk (Below.trod laidOut (by kernel_rfl) (of_decide_eq_true (by kernel_rfl)) k0 bel lt0) trodAll_mk0), rfl, bel.frame _, fun h => by cases h⟩

theorem over : Rows.placeKeepsRow.holds Try.pinned (OpenSpec.ofChange Rows.placeKeepsSpec) :=
  OpenClaim.holds_of_wide 5 Try.f5 rfl rfl rfl rfl rfl rfl rfl ⟨rfl, rfl, rfl, rfl, rfl⟩ rfl rfl rfl rfl rfl (by kernel_rfl) Try.func5 (by kernel_rfl)
    (of_decide_eq_true (by kernel_rfl)) (by unfold Func.isWrapper; first | (rw [if_pos (by decide +kernel)]; kernel_rfl) | (rw [if_neg (by decide +kernel)]; exact ⟨rfl, rfl⟩))
    (fun os started H enc _ => lifted os started H enc)

end Go.Proofs.Ytpiakfdapobflaa.placeKeeps

namespace Go.Proofs.Ytpiakfdapobflaa
theorem placeKeeps_holds : Rows.PlaceKeepsSaid := placeKeeps.over
end Go.Proofs.Ytpiakfdapobflaa
