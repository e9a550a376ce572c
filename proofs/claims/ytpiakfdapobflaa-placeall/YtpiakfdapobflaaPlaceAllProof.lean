/- Of a right map with an expert at that place: who is picked for a key below four holds the expert, and the node is picked for one of them just if it holds it. Conditions: none beyond those of the statement (else the fixed answer). -/
import Derived.Test.YtpiakfdapobflaaRows
import Derived.Test.YtpiakfdapobflaaPlcG
import Derived.Test.YtpiakfdapobflaaPm
import Derived.WalkKit
import Derived.ProofKit
import Derived.OpenShut
import Derived.ShutString
import Derived.ChangeOld
import Derived.Below
namespace Go.Proofs.Ytpiakfdapobflaa.placeAll
open Go.ChangeShapes Go.WideShapes Go.ChangeAt Go.RowKit
open Go.ChangeMaps (open_string shut_string)
set_option linter.unusedVariables false

theorem own : ownKnob Try.prog.godebug = none := by kernel_rfl
theorem laidOut : laidOutB Try.prog = true := by kernel_rfl

/- The walk: the call returns true, and nothing that was there is written. -/
set_option maxHeartbeats 4000000 in
set_option maxRecDepth 100000 in
theorem walk (a0_0 : Int) (a0_1 : Option Addr) (len0_1 cap0_1 : Nat) (m0_1 : List (List Int)) (a1 : Int) (a2 : Int) (w : World) (w0_0 : (Lit.int .i64 a0_0).wf = true) (w0_1 : (sliceS (sliceS (intS .i64))).rep w everywhere [.slice a0_1 len0_1 cap0_1] m0_1) (f0_1 : (∀ x0 ∈ m0_1, (∀ x1 ∈ x0, (Lit.int .i64 x1).wf = true))) (w1 : (Lit.int .i64 a1).wf = true) (w2 : (Lit.int .i64 a2).wf = true) :
    Calls Try.prog 7 #[.agg #[.int .i64 a0_0, .slice a0_1 len0_1 cap0_1], .int .i64 a1, .int .i64 a2] w fun e w' => e = .returned (.bool true) ∧ Below w.heap.size w w' := by
  have hl := (sliceS_len w0_1).1
  have HL : Hid (m0_1.length = len0_1) := hl
  have hB := new_bel w (.cells #[.int .i64 a0_0, .slice a0_1 len0_1 cap0_1] 24)
  have kb := Box.new w 24 #[.int .i64 a0_0, .slice a0_1 len0_1 cap0_1]
  have hm0 := Shape.below w0_1 hB
  have HSM : Hid (Calls _ _ _ _ _) := small a0_1 len0_1 cap0_1 m0_1 everywhere _ hm0
  have c0 := kb.cell 0 rfl
  have c1 := kb.cell 1 rfl
  by_cases hS : Mx.Small m0_1
  case neg =>
    clear hm0 hl
    go_enter Try.func7, Try.ntmps7
    go_wp2_with fail
    generalize w.alloc (.cells #[.int .i64 a0_0, .slice a0_1 len0_1 cap0_1] 24) = W at *
    refine HSM.out.mono ?_
    rintro r u0 ⟨hs0, hu0⟩
    replace hu0 := hu0.symm
    subst hu0
    rw [hs0.not hS]
    clear hs0 HSM
    go_wp2_with fail
    refine (pawake _).mono ?_
    rintro r u9 ⟨rfl, hb9⟩
    go_wp2
    go_ret
    exact ⟨rfl, bel_then hB hb9⟩
  have HSH : Hid (Pl.Short m0_1) := Pl.small_short hS
  have HSZ : Hid (Ex.Sized m0_1) := HSH.out.sized
  have HRT : Hid (Calls _ _ _ _ _) := pright a0_0 a0_1 len0_1 cap0_1 m0_1 _ hm0 HSZ.out
  by_cases d1 : Pl.Right a0_0 m0_1
  case neg =>
    clear hm0 hl
    go_enter Try.func7, Try.ntmps7
    go_wp2_with fail
    generalize w.alloc (.cells #[.int .i64 a0_0, .slice a0_1 len0_1 cap0_1] 24) = W at *
    refine HSM.out.mono ?_
    rintro r u0 ⟨hs0, hu0⟩
    replace hu0 := hu0.symm
    subst hu0
    rw [hs0.is hS]
    clear hs0 HSM
    go_wp2_with fail
    refine HRT.out.mono ?_
    rintro r u1 ⟨hs1, hb1⟩
    rw [hs1.not d1]
    have kb1 := kb.keep hb1
    have hB1 := bel_then hB hb1
    clear hs1 HRT c0 c1 kb hB
    have c0 := kb1.cell 0 rfl
    have c1 := kb1.cell 1 rfl
    clear d1 hb1
    go_wp2_with fail
    refine (pawake _).mono ?_
    rintro r u9 ⟨rfl, hb9⟩
    go_wp2
    go_ret
    exact ⟨rfl, bel_then hB1 hb9⟩
  by_cases d2 : a1 < 0
  · clear hm0 hl
    go_enter Try.func7, Try.ntmps7
    go_wp2_with fail
    generalize w.alloc (.cells #[.int .i64 a0_0, .slice a0_1 len0_1 cap0_1] 24) = W at *
    refine HSM.out.mono ?_
    rintro r u0 ⟨hs0, hu0⟩
    replace hu0 := hu0.symm
    subst hu0
    rw [hs0.is hS]
    clear hs0 HSM
    go_wp2_with fail
    refine HRT.out.mono ?_
    rintro r u1 ⟨hs1, hb1⟩
    rw [hs1.is d1]
    have kb1 := kb.keep hb1
    have hB1 := bel_then hB hb1
    clear hs1 HRT c0 c1 kb hB
    have c0 := kb1.cell 0 rfl
    have c1 := kb1.cell 1 rfl
    clear d1 hb1
    go_wp2_with fail
    refine (pawake _).mono ?_
    rintro r u9 ⟨rfl, hb9⟩
    go_wp2
    go_ret
    exact ⟨rfl, bel_then hB1 hb9⟩
  by_cases d3 : (len0_1 : Int) ≤ a1
  · clear hm0 hl
    go_enter Try.func7, Try.ntmps7
    go_wp2_with fail
    generalize w.alloc (.cells #[.int .i64 a0_0, .slice a0_1 len0_1 cap0_1] 24) = W at *
    refine HSM.out.mono ?_
    rintro r u0 ⟨hs0, hu0⟩
    replace hu0 := hu0.symm
    subst hu0
    rw [hs0.is hS]
    clear hs0 HSM
    go_wp2_with fail
    refine HRT.out.mono ?_
    rintro r u1 ⟨hs1, hb1⟩
    rw [hs1.is d1]
    have kb1 := kb.keep hb1
    have hB1 := bel_then hB hb1
    clear hs1 HRT c0 c1 kb hB
    have c0 := kb1.cell 0 rfl
    have c1 := kb1.cell 1 rfl
    clear d1 hb1
    go_wp2_with fail
    refine (pawake _).mono ?_
    rintro r u9 ⟨rfl, hb9⟩
    go_wp2
    go_ret
    exact ⟨rfl, bel_then hB1 hb9⟩
  obtain ⟨x, rfl⟩ : ∃ x : Nat, a1 = (x : Int) := ⟨a1.toNat, by omega⟩
  have hx : x < len0_1 := by omega
  have HR : Hid (Pl.Right a0_0 m0_1) := d1
  have HROW : Hid (Pl.RowOk (m0_1.getD x [])) := d1.row (by omega)
  have dd2 : decide ((x : Int) < 0) = false := decide_eq_false (by omega)
  have dd3 : decide ((len0_1 : Int) ≤ (x : Int)) = false := decide_eq_false (by omega)
  have dd4 : decide (len0_1 ≤ x) = false := decide_eq_false (by omega)
  have HM : Hid (matS.rep (w.alloc (.cells #[.int .i64 a0_0, .slice a0_1 len0_1 cap0_1] 24)) everywhere [.slice a0_1 len0_1 cap0_1] m0_1) := hm0
  clear hm0 hl
  go_enter Try.func7, Try.ntmps7
  go_wp2_with fail
  generalize w.alloc (.cells #[.int .i64 a0_0, .slice a0_1 len0_1 cap0_1] 24) = W at *
  refine HSM.out.mono ?_
  rintro r u0 ⟨hs0, hu0⟩
  replace hu0 := hu0.symm
  subst hu0
  rw [hs0.is hS]
  clear hs0 HSM
  go_wp2_with fail
  refine HRT.out.mono ?_
  rintro r u1 ⟨hs1, hb1⟩
  rw [hs1.is d1]
  have kb1 := kb.keep hb1
  have hB1 := bel_then hB hb1
  clear hs1 HRT c0 c1 kb hB
  have c0 := kb1.cell 0 rfl
  have c1 := kb1.cell 1 rfl
  have HM1 : Hid (matS.rep u1 everywhere [.slice a0_1 len0_1 cap0_1] m0_1) := Shape.below HM.out hb1
  have HHO : Hid (∀ (u : World) (y : Int), Below u1.heap.size u1 u → Calls Try.prog 18 #[.agg #[.int .i64 a0_0, .slice a0_1 len0_1 cap0_1], .int .i64 (x : Int), .int .i64 y] u fun r w' => r = .returned (.bool ((m0_1.getD x []).contains y)) ∧ Below u.heap.size u w') := fun u y hu => pholds a0_0 a0_1 len0_1 cap0_1 m0_1 x y _ u (Shape.below HM1.out hu) HSZ.out (by
    by_cases h9 : y ∈ m0_1.getD x []
    · rw [tell_yes ⟨⟨by omega, by have := HL.out; omega⟩, by rw [Int.toNat_natCast]; exact h9⟩]; exact (List.contains_iff_mem.2 h9).symm
    · rw [tell_no fun h8 => h9 (by have := h8.2; rwa [Int.toNat_natCast] at this)]; exact (Bool.eq_false_iff.2 fun h8 => h9 (List.contains_iff_mem.1 h8)).symm)
  have HPK : Hid (∀ (u : World) (k : Nat), k < 4 → Below u1.heap.size u1 u → Calls Try.prog 15 #[.agg #[.int .i64 a0_0, .slice a0_1 len0_1 cap0_1], .int .i64 (x : Int), .int .i64 (k : Int)] u fun r w' => r = .returned (.tuple #[.int .i64 (Pl.pick (m0_1.getD x []) k), .bool true]) ∧ Below u.heap.size u w') := fun u k hk hu => ppick a0_0 a0_1 len0_1 cap0_1 m0_1 x k u (Shape.below HM1.out hu) HSZ.out HR.out hx (by omega) _ rfl
  clear d1 hb1 HM HM1
  go_wp2
  clear c0 c1
  go_loopw [7, 32] (fun pv kv wr => ∃ (k : Nat) (B : Bool), k ≤ 4 ∧ kv = .int .i64 k ∧ pv = .bool B ∧ Hid (B = true ↔ ∃ j, j < k ∧ Pl.pick (m0_1.getD x []) j = a2) ∧ Below u1.heap.size u1 wr) (fun _ kv _ => 4 - (intOf kv).toNat)
  case atStart => exact ⟨0, false, Nat.zero_le _, rfl, rfl, ⟨fun h => (Bool.false_ne_true h).elim, fun ⟨j, hj, _⟩ => absurd hj (Nat.not_lt_zero _)⟩, Below.refl _ _⟩
  case round =>
    obtain ⟨k, B, hk, rfl, rfl, HBB, hbel⟩ := hrel
    have kb2 := kb1.keep hbel
    have c0 := kb2.cell 0 rfl
    have c1 := kb2.cell 1 rfl
    by_cases hlt : k < 4
    · have hli : (k : Int) < 4 := by omega
      have hpk := HPK.out wr k hlt hbel
      have HIN : Hid ((m0_1.getD x []).contains (Pl.pick (m0_1.getD x []) k) = true) := List.contains_iff_mem.2 (Pl.pick_holds HROW.out k)
      have HSTEP : Hid (∀ B2 : Bool, (B2 = true ↔ B = true ∨ Pl.pick (m0_1.getD x []) k = a2) → (B2 = true ↔ ∃ j, j < k + 1 ∧ Pl.pick (m0_1.getD x []) j = a2)) := fun B2 h9 => by
        rw [h9, HBB.out]
        constructor
        · rintro (⟨j, hj, h8⟩ | h8)
          · exact ⟨j, by omega, h8⟩
          · exact ⟨k, by omega, h8⟩
        · rintro ⟨j, hj, h8⟩
          rcases Nat.lt_succ_iff_lt_or_eq.1 hj with h7 | rfl
          · exact .inl ⟨j, h7, h8⟩
          · exact .inr h8
      have hho := HHO.out
      obtain ⟨z, hz⟩ : ∃ z, Pl.pick (m0_1.getD x []) k = z := ⟨_, rfl⟩
      have HZ : Hid (Pl.pick (m0_1.getD x []) k = z) := hz
      rw [hz] at hpk HIN
      have HP : Hid (Calls _ _ _ _ _) := hpk
      have HH2 : Hid (∀ u, Below u1.heap.size u1 u → Calls Try.prog 18 #[.agg #[.int .i64 a0_0, .slice a0_1 len0_1 cap0_1], .int .i64 (x : Int), .int .i64 z] u fun r w' => r = .returned (.bool true) ∧ Below u.heap.size u w') := fun u hu => by
        have := hho u z hu
        rw [HIN.out] at this
        exact this
      clear hz hpk hho
      by_cases hza : z = a2
      · have e1 : (z == a2) = true := by simpa using hza
        have HE : Hid (Pl.pick (m0_1.getD x []) k = a2) := HZ.out.trans hza
        clear hza
        cases B with
        | false =>
          go_wp2_with fail
          refine HP.out.mono ?_
          rintro r u2 ⟨rfl, hb2⟩
          have kb3 := kb2.keep hb2
          have hbel2 := bel_then hbel hb2
          clear c0 c1
          have c0 := kb3.cell 0 rfl
          have c1 := kb3.cell 1 rfl
          go_wp2_with fail
          refine (HH2.out _ hbel2).mono ?_
          rintro r u3 ⟨rfl, hb3⟩
          go_wp2
          go_roundw
          case rel => exact ⟨k + 1, true, by omega, by go_num, rfl, HSTEP.out true ⟨fun _ => .inr HE.out, fun _ => rfl⟩, bel_then hbel2 hb3⟩
          case measure => simp [intOf]; omega
        | true =>
          go_wp2_with fail
          refine HP.out.mono ?_
          rintro r u2 ⟨rfl, hb2⟩
          have kb3 := kb2.keep hb2
          have hbel2 := bel_then hbel hb2
          clear c0 c1
          have c0 := kb3.cell 0 rfl
          have c1 := kb3.cell 1 rfl
          go_wp2_with fail
          refine (HH2.out _ hbel2).mono ?_
          rintro r u3 ⟨rfl, hb3⟩
          go_wp2
          go_roundw
          case rel => exact ⟨k + 1, true, by omega, by go_num, rfl, HSTEP.out true ⟨fun _ => .inr HE.out, fun _ => rfl⟩, bel_then hbel2 hb3⟩
          case measure => simp [intOf]; omega
      · have e1 : (z == a2) = false := by simpa using hza
        have HE : Hid (¬ Pl.pick (m0_1.getD x []) k = a2) := by show ¬ _; rw [HZ.out]; exact hza
        clear hza
        cases B with
        | false =>
          go_wp2_with fail
          refine HP.out.mono ?_
          rintro r u2 ⟨rfl, hb2⟩
          have kb3 := kb2.keep hb2
          have hbel2 := bel_then hbel hb2
          clear c0 c1
          have c0 := kb3.cell 0 rfl
          have c1 := kb3.cell 1 rfl
          go_wp2_with fail
          refine (HH2.out _ hbel2).mono ?_
          rintro r u3 ⟨rfl, hb3⟩
          go_wp2
          go_roundw
          case rel => exact ⟨k + 1, false, by omega, by go_num, rfl, HSTEP.out false ⟨fun h => (Bool.false_ne_true h).elim, fun h => h.elim (fun h => by cases h) (fun h => absurd h HE.out)⟩, bel_then hbel2 hb3⟩
          case measure => simp [intOf]; omega
        | true =>
          go_wp2_with fail
          refine HP.out.mono ?_
          rintro r u2 ⟨rfl, hb2⟩
          have kb3 := kb2.keep hb2
          have hbel2 := bel_then hbel hb2
          clear c0 c1
          have c0 := kb3.cell 0 rfl
          have c1 := kb3.cell 1 rfl
          go_wp2_with fail
          refine (HH2.out _ hbel2).mono ?_
          rintro r u3 ⟨rfl, hb3⟩
          go_wp2
          go_roundw
          case rel => exact ⟨k + 1, true, by omega, by go_num, rfl, HSTEP.out true ⟨fun _ => .inl (by trivial), fun _ => rfl⟩, bel_then hbel2 hb3⟩
          case measure => simp [intOf]; omega
    · have hk4 : k = 4 := by omega
      subst hk4
      have hBv : (m0_1.getD x []).contains a2 = B := by
        have h1 := Pl.pick_all HROW.out a2
        have h2 := HBB.out
        have h3 : (∃ j, j < 4 ∧ Pl.pick (m0_1.getD x []) j = a2) ↔ a2 ∈ m0_1.getD x [] := by
          rw [h1]
          constructor
          · rintro ⟨j, hj, h8⟩
            have : j = 0 ∨ j = 1 ∨ j = 2 ∨ j = 3 := by omega
            rcases this with rfl | rfl | rfl | rfl
            · exact .inl h8
            · exact .inr (.inl h8)
            · exact .inr (.inr (.inl h8))
            · exact .inr (.inr (.inr h8))
          · rintro (h8 | h8 | h8 | h8)
            · exact ⟨0, by omega, h8⟩
            · exact ⟨1, by omega, h8⟩
            · exact ⟨2, by omega, h8⟩
            · exact ⟨3, by omega, h8⟩
        rw [h3] at h2
        cases B with
        | true => exact List.contains_iff_mem.2 (h2.1 rfl)
        | false => exact Bool.eq_false_iff.2 fun h8 => Bool.false_ne_true (h2.2 (List.contains_iff_mem.1 h8))
      have hho := HHO.out wr a2 hbel
      rw [hBv] at hho
      have HH3 : Hid (Calls _ _ _ _ _) := hho
      have e1 : (B == B) = true := by simp
      have hB2 := bel_then hB1 hbel
      clear hho hBv
      go_wp2_with fail
      refine HH3.out.mono ?_
      rintro r u2 ⟨rfl, hb2⟩
      go_wp2_with fail
      refine (pawake _).mono ?_
      rintro r u9 ⟨rfl, hb9⟩
      go_wp2
      go_ret
      exact ⟨rfl, bel_then (bel_then hB2 hb2) hb9⟩

/- From the walk to the row. -/
set_option maxRecDepth 100000 in
theorem lifted (os : Os) (started : os.Started) (H : Type) (enc : TypeId × Value → H) :
    ReturnsInHanded {} Try.checked os 7 .any (Rows.placeAllSpec.pre6 enc Try.prog Try.f7 Rows.placeAllRow.domain false) (Rows.placeAllSpec.post enc Try.prog Try.f7 false true false false) := by
  refine returnsInHanded_of_change (C := Try.checked) own started (by kernel_rfl) Try.func7
    (ChangeSpec.witness6 (enc := enc) (C := Try.checked) false ⟨#[], #[.agg #[.int .i64 0, .slice none 0 0], .int .i64 0, .int .i64 0], []⟩ 8 (by kernel_rfl) (by kernel_rfl) (by kernel_rfl) (by kernel_rfl)) ?_
  intro W base args ds gs before hval0 hW hcnd _
  have hval : ∀ (j : Nat) t v, Try.f7.params[j]? = some t → args[j]? = some v → Value.okWide Try.prog W .any base t v := hval0
  have hW' := hW
  obtain ⟨p, q, hA0, hV, rfl, hfz, hnd⟩ := hW
  have hA : DataW.TrodAll enc Try.prog W 0 (fun _ => true) true Try.f7.params.toList args.toList ds p := hA0
  rw [Try.params7] at hA hval
  obtain ⟨v0, vs0, d0, ds0, p0, q0, hargs, rfl, rfl, h0, r0⟩ := trodAll_cons hA
  obtain ⟨v1, vs1, d1, ds1, p1, q1, rfl, rfl, rfl, h1, r1⟩ := trodAll_cons r0
  obtain ⟨v2, vs2, d2, ds2, p2, q2, rfl, rfl, rfl, h2, r2⟩ := trodAll_cons r1
  obtain ⟨rfl, rfl, rfl⟩ := trodAll_nil r2
  obtain rfl : args = #[v0, v1, v2] := by cases args; simp_all
  obtain ⟨rfl, rfl⟩ := trodVars_none hV
  obtain ⟨cs0, rfl⟩ := okWide_agg Try.underlying24 (hval 0 24 v0 rfl rfl)
  have k0 := h0
  have lt0 : ∀ x ∈ p0, x.block < W.heap.size := by obtain ⟨m, hm⟩ := k0; exact DataW.trod_lt m _ _ _ hm
  obtain ⟨y0, hy0, hw0⟩ : ∃ y, (consS (intS .i64) (consS (sliceS (sliceS (intS .i64))) noneS)).rep W everywhere cs0 y ∧ ((Lit.int .i64 y.1).wf = true ∧ ((∀ x0 ∈ y.2.1, (∀ x1 ∈ x0, (Lit.int .i64 x1).wf = true)) ∧ True)) := by
    obtain ⟨fuel, hf⟩ := h0
    exact (opens_struct Try.underlying24 (show Try.prog.cellsOf 24 = 2 by kernel_rfl) (opensAt_cons (A := (intS .i64)) rfl (show Try.prog.cellsOf 3 = 1 by kernel_rfl) (opens_int Try.underlying3) (opensAt_cons (A := (sliceS (sliceS (intS .i64)))) rfl (show Try.prog.cellsOf 22 = 1 by kernel_rfl) (opens_slice (A := (sliceS (intS .i64))) Try.underlying22 (show Try.prog.cellsOf 40 = 1 by kernel_rfl) (by exact Nat.succ_pos _) (opens_slice (A := (intS .i64)) Try.underlying40 (show Try.prog.cellsOf 3 = 1 by kernel_rfl) (by exact Nat.succ_pos _) (opens_int Try.underlying3))) opensAt_nil (by rfl)) (by rfl))) H enc W _ _ _ fuel _ _ (by simpa [Value.cells] using hf)
  obtain ⟨a0_0, m0_1, _⟩ := y0
  obtain ⟨d0_0, rfl, hy0_0⟩ := consS_int hy0
  obtain ⟨a0_1, len0_1, cap0_1, d0_1, rfl, w0_1, hy0_1⟩ := consS_slice hy0_0
  obtain rfl := noneS_nil hy0_1
  obtain ⟨w0_0, f0_1, _⟩ := hw0
  obtain ⟨a1, rfl, rfl, rfl, w1⟩ := open_int Try.underlying3 (hval 1 3 v1 rfl rfl) h1
  obtain ⟨a2, rfl, rfl, rfl, w2⟩ := open_int Try.underlying3 (hval 2 3 v2 rfl rfl) h2
  clear hA0 hval0
  refine (walk a0_0 a0_1 len0_1 cap0_1 m0_1 a1 a2 W w0_0 w0_1 f0_1 w1 w2).mono fun e W' ⟨he, bel⟩ => ?_
  subst he
  exact ⟨_, rfl, _, _, _, [], _, [], hW', trodAll_mk1 (shut_bool Try.underlying4 _), (trodAll_cons_mk (Below.trod laidOut (by kernel_rfl) (of_decide_eq_true (by kernel_rfl)) k0 bel lt0) (trodAll_cons_mk (shut_int Try.underlying3 w1) (trodAll_cons_mk (shut_int Try.underlying3 w2) trodAll_mk0))), rfl, bel.frame _, fun h => by cases h⟩

theorem over : Rows.placeAllRow.holds Try.pinned (OpenSpec.ofChange Rows.placeAllSpec) :=
  OpenClaim.holds_of_wide 7 Try.f7 rfl rfl rfl rfl rfl rfl rfl ⟨rfl, rfl, rfl, rfl, rfl⟩ rfl rfl rfl rfl rfl (by kernel_rfl) Try.func7 (by kernel_rfl)
    (of_decide_eq_true (by kernel_rfl)) (by unfold Func.isWrapper; first | (rw [if_pos (by decide +kernel)]; kernel_rfl) | (rw [if_neg (by decide +kernel)]; exact ⟨rfl, rfl⟩))
    (fun os started H enc _ => lifted os started H enc)

end Go.Proofs.Ytpiakfdapobflaa.placeAll

namespace Go.Proofs.Ytpiakfdapobflaa
theorem placeAll_holds : Rows.PlaceAllSaid := placeAll.over
end Go.Proofs.Ytpiakfdapobflaa
