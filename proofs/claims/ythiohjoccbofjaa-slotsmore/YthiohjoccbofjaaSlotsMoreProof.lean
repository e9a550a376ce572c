/- For every list of choices, every number of experts, capacity and number more: with more room no part loses its slot, and with room for all every expert's part has one: SlotsMore returns true. No condition. -/
import Derived.Test.YthiohjoccbofjaaRows
import Derived.Test.YthiohjoccbofjaaSltB
import Derived.WalkKit
import Derived.ProofKit
import Derived.OpenShut
import Derived.ShutString
import Derived.ChangeOld
import Derived.Below
namespace Go.Proofs.Ythiohjoccbofjaa.slotsMore
open Go.ChangeShapes Go.WideShapes Go.ChangeAt Go.RowKit
open Go.ChangeMaps (open_string shut_string)
set_option linter.unusedVariables false

theorem own : ownKnob Try.prog.godebug = none := by kernel_rfl
theorem laidOut : laidOutB Try.prog = true := by kernel_rfl

/- The walk: the call returns true, and nothing that was there is written. -/
set_option maxHeartbeats 4000000 in
set_option maxRecDepth 100000 in
theorem walk (a0 : Option Addr) (len0 cap0 : Nat) (m0 : List (Int × Int × Unit)) (a1 : Int) (a2 : Int) (a3 : Int) (w : World) (w0 : (sliceS (consS (intS .i64) (consS (intS .i64) noneS))).rep w everywhere [.slice a0 len0 cap0] m0) (f0 : (∀ x0 ∈ m0, ((Lit.int .i64 x0.1).wf = true ∧ ((Lit.int .i64 x0.2.1).wf = true ∧ True)))) (w1 : (Lit.int .i64 a1).wf = true) (w2 : (Lit.int .i64 a2).wf = true) (w3 : (Lit.int .u8 a3).wf = true) :
    Calls Try.prog 5 #[.slice a0 len0 cap0, .int .i64 a1, .int .i64 a2, .int .u8 a3] w fun e w' => e = .returned (.bool true) ∧ Below w.heap.size w w' := by
  have hF : Flat w a0 len0 (flat m0) := Flat.of_rep w0
  have hW := flat_fit f0
  have h8 := bounds_u8 w3
  clear w0 f0 w1 w2 w3
  generalize flat m0 = l at hF hW
  by_cases hno : ¬ (len0 ≤ 60 ∧ -1000 ≤ a2 ∧ a2 ≤ 1000)
  · rcases (by omega : 60 < len0 ∨ (len0 ≤ 60 ∧ 1000 < a2) ∨ (len0 ≤ 60 ∧ a2 ≤ 1000 ∧ a2 < -1000)) with h1 | ⟨h1, h2⟩ | ⟨h1, h2, h3⟩
    · have hi : (60 : Int) < (len0 : Int) := by omega
      clear hno
      go_enter Try.func5, Try.ntmps5
      go_wp2_with (go_at_call 7; refine (sawake _).mono ?_; rintro e u1 ⟨rfl, hb1⟩)
      go_ret
      exact ⟨rfl, hb1⟩
    · have hi : ¬ (60 : Int) < (len0 : Int) := by omega
      clear hno
      go_enter Try.func5, Try.ntmps5
      go_wp2_with (go_at_call 7; refine (sawake _).mono ?_; rintro e u1 ⟨rfl, hb1⟩)
      go_ret
      exact ⟨rfl, hb1⟩
    · have hi : ¬ (60 : Int) < (len0 : Int) := by omega
      have hi2 : ¬ (1000 : Int) < a2 := by omega
      clear hno
      go_enter Try.func5, Try.ntmps5
      go_wp2_with (go_at_call 7; refine (sawake _).mono ?_; rintro e u1 ⟨rfl, hb1⟩)
      go_ret
      exact ⟨rfl, hb1⟩
  obtain ⟨h60, hA1, hA2⟩ : len0 ≤ 60 ∧ -1000 ≤ a2 ∧ a2 ≤ 1000 := by omega
  have hi : ¬ (60 : Int) < (len0 : Int) := by omega
  have hi2 : ¬ (1000 : Int) < a2 := by omega
  have hi3 : ¬ a2 < (-1000 : Int) := by omega
  have HC1 : Hid (Calls _ _ _ _ _) := assign a0 len0 cap0 l a1 a2 w hF (by omega) hW
  have HF : Hid (Flat w a0 len0 l ∧ ∀ x ∈ l, (Lit.int .i64 x).wf = true) := ⟨hF, hW⟩
  have HL : Hid (l.length = len0 * 2) := hF.len
  have e0 : ((len0 : Int) != (len0 : Int)) = false := by simp
  clear hF hW hno
  go_enter Try.func5, Try.ntmps5
  go_wp2_with fail
  refine HC1.out.mono ?_
  rintro e u1 ⟨hb1, g1, rfl, hr1⟩
  have HR1 : Hid (Flat u1 (some ⟨g1, 0, none⟩) len0 (Sl.slots l a1 a2)) := hr1
  have HC2 : Hid (Calls _ _ _ _ _) := assign a0 len0 cap0 l a1 (a2 + a3) u1 (HF.out.1.keep hb1) (by omega) HF.out.2
  clear hr1 HC1
  go_wp2_with fail
  refine HC2.out.mono ?_
  rintro e u2 ⟨hb2, g2, rfl, hr2⟩
  have HR2 : Hid (Flat u2 (some ⟨g2, 0, none⟩) len0 (Sl.slots l a1 (a2 + a3))) := hr2
  have HQ1 : Hid (Flat u2 (some ⟨g1, 0, none⟩) len0 (Sl.slots l a1 a2)) := HR1.out.keep hb2
  have hB2 := bel_then hb1 hb2
  have HC3 : Hid (Calls _ _ _ _ _) := assign a0 len0 cap0 l a1 1000 u2 (HF.out.1.keep hB2) (by omega) HF.out.2
  clear hr2 HC2 HR1 hb1 hb2
  go_wp2_with fail
  refine HC3.out.mono ?_
  rintro e u4 ⟨hb4, g3, rfl, hr3⟩
  have HS3 : Hid (Flat u4 (some ⟨g3, 0, none⟩) len0 (Sl.slots l a1 1000)) := hr3
  have HS1 : Hid (Flat u4 (some ⟨g1, 0, none⟩) len0 (Sl.slots l a1 a2)) := HQ1.out.keep hb4
  have HS2 : Hid (Flat u4 (some ⟨g2, 0, none⟩) len0 (Sl.slots l a1 (a2 + a3))) := HR2.out.keep hb4
  have hB4 := bel_then hB2 hb4
  have HS0 : Hid (Flat u4 a0 len0 l) := HF.out.1.keep hB4
  clear hr3 HC3 HQ1 HR2 hB2 hb4 HF
  go_wp2
  go_loopw [62] (fun i wr => ∃ j : Nat, j ≤ len0 ∧ i = .int .i64 j ∧ Below u4.heap.size u4 wr) (fun i _ => len0 - (intOf i).toNat)
  case atStart => exact ⟨0, Nat.zero_le _, rfl, Below.refl _ _⟩
  case round =>
    obtain ⟨j, hj, rfl, hbel⟩ := hrel
    by_cases hlt : j < len0
    · have hli : (j : Int) < (len0 : Int) := by omega
      have hj0 : (0 : Int) ≤ (j : Int) := by omega
      have HB : Hid (Below u4.heap.size u4 wr) := hbel
      go_wp2
      clear hbel
      go_loopw [65] (fun i wr => ∃ k : Nat, k ≤ 2 ∧ i = .int .i64 k ∧ Below u4.heap.size u4 wr) (fun i _ => 2 - (intOf i).toNat)
      case atStart => exact ⟨0, Nat.zero_le _, rfl, HB.out⟩
      case round =>
        clear HB
        obtain ⟨k, hk, rfl, hbel⟩ := hrel
        by_cases hk2 : k < 2
        · have hkc : (k : Int) < 2 := by omega
          have hk0 : (0 : Int) ≤ (k : Int) := by omega
          have hkl : j * 2 + k < l.length := by have := HL.out; omega
          obtain ⟨b5, o5, he, _, p0⟩ := (HS1.out.keep hbel).one hlt hk2
          injection he with he; injection he with hx1 hx2 _; subst hx1; subst hx2
          obtain ⟨b5, o5, he, _, q0⟩ := (HS2.out.keep hbel).one hlt hk2
          injection he with he; injection he with hx1 hx2 _; subst hx1; subst hx2
          obtain ⟨b5, o5, he, _, r0⟩ := (HS3.out.keep hbel).one hlt hk2
          injection he with he; injection he with hx1 hx2 _; subst hx1; subst hx2
          obtain ⟨b0, o0, rfl, _, s0⟩ := (HS0.out.keep hbel).one hlt hk2
          rw [Sl.slots_at _ _ hkl, Nat.zero_add] at p0 q0 r0
          have hm : 0 ≤ Sl.slot l a1 a2 (j * 2 + k) → Sl.slot l a1 (a2 + a3) (j * 2 + k) = Sl.slot l a1 a2 (j * 2 + k) := fun h => Sl.slot_more h (by omega)
          have ha : 0 ≤ Sl.slot l a1 1000 (j * 2 + k) ↔ 0 ≤ l.getD (j * 2 + k) 0 ∧ l.getD (j * 2 + k) 0 < a1 := Sl.slot_all (by omega)
          generalize Sl.slot l a1 a2 (j * 2 + k) = A at *
          generalize Sl.slot l a1 (a2 + a3) (j * 2 + k) = B at *
          generalize Sl.slot l a1 1000 (j * 2 + k) = Z at *
          generalize l.getD (j * 2 + k) 0 = X at *
          have HB : Hid (Below u4.heap.size u4 wr) := hbel
          have hne9 : Nonempty (Later wr) := Later.there wr
          have d1 : ∀ x9 : Later wr, x9.u.cell? ⟨g1, j * 2 + k, none⟩ = some (.int .i64 A) := fun x9 => x9.cell p0
          have d2 : ∀ x9 : Later wr, x9.u.cell? ⟨g2, j * 2 + k, none⟩ = some (.int .i64 B) := fun x9 => x9.cell q0
          have d3 : ∀ x9 : Later wr, x9.u.cell? ⟨g3, j * 2 + k, none⟩ = some (.int .i64 Z) := fun x9 => x9.cell r0
          clear hkl hbel p0 q0 r0
          by_cases hA : 0 ≤ A
          · obtain rfl : B = A := hm hA
            have eA : (B != B) = false := by simp
            clear hm
            rcases (by omega : (0 ≤ X ∧ X < a1) ∨ (0 ≤ X ∧ ¬ X < a1) ∨ ¬ 0 ≤ X) with hX | hX | hX
            · go_wp2
              have tA : decide (0 ≤ B) = true := by simpa using hA
              have hZ : 0 ≤ Z := ha.2 hX
              have tZ : decide (0 ≤ Z) = true := by simpa using hZ
              have tX : decide (0 ≤ X) = true := by simpa using hX.1
              have tE : decide (X < a1) = true := by simpa using hX.2
              clear hX hZ ha
              refine region_later (by kernel_rfl) (by kernel_rfl) ?_
              repeat (go_big_quiet_step (fail))
              refine wpQuiet_nil ?_
              intro x9
              obtain ⟨W9, hb9⟩ := x9
              have HB9 : Hid (Below u4.heap.size u4 W9) := bel_then HB.out hb9
              clear d1 d2 d3 hne9 s0
              go_wp2
              go_roundw
              case rel => exact ⟨k + 1, by omega, by go_num, HB9.out⟩
              case measure => simp [intOf]; omega
            · go_wp2
              have tA : decide (0 ≤ B) = true := by simpa using hA
              have hZ : ¬ 0 ≤ Z := fun h => by have := ha.1 h; omega
              have tZ : decide (0 ≤ Z) = false := by simpa using hZ
              have tX : decide (0 ≤ X) = true := by simpa using hX.1
              have tE : decide (X < a1) = false := by simpa using hX.2
              clear hX hZ ha
              refine region_later (by kernel_rfl) (by kernel_rfl) ?_
              repeat (go_big_quiet_step (fail))
              refine wpQuiet_nil ?_
              intro x9
              obtain ⟨W9, hb9⟩ := x9
              have HB9 : Hid (Below u4.heap.size u4 W9) := bel_then HB.out hb9
              clear d1 d2 d3 hne9 s0
              go_wp2
              go_roundw
              case rel => exact ⟨k + 1, by omega, by go_num, HB9.out⟩
              case measure => simp [intOf]; omega
            · go_wp2
              have tA : decide (0 ≤ B) = true := by simpa using hA
              have hZ : ¬ 0 ≤ Z := fun h => by have := ha.1 h; omega
              have tZ : decide (0 ≤ Z) = false := by simpa using hZ
              have tX : decide (0 ≤ X) = false := by simpa using hX
              clear hX hZ ha
              refine region_later (by kernel_rfl) (by kernel_rfl) ?_
              repeat (go_big_quiet_step (fail))
              refine wpQuiet_nil ?_
              intro x9
              obtain ⟨W9, hb9⟩ := x9
              have HB9 : Hid (Below u4.heap.size u4 W9) := bel_then HB.out hb9
              clear d1 d2 d3 hne9 s0
              go_wp2
              go_roundw
              case rel => exact ⟨k + 1, by omega, by go_num, HB9.out⟩
              case measure => simp [intOf]; omega
          · clear hm
            rcases (by omega : (0 ≤ X ∧ X < a1) ∨ (0 ≤ X ∧ ¬ X < a1) ∨ ¬ 0 ≤ X) with hX | hX | hX
            · go_wp2
              have tA : decide (0 ≤ A) = false := by simpa using hA
              have hZ : 0 ≤ Z := ha.2 hX
              have tZ : decide (0 ≤ Z) = true := by simpa using hZ
              have tX : decide (0 ≤ X) = true := by simpa using hX.1
              have tE : decide (X < a1) = true := by simpa using hX.2
              clear hX hZ ha
              refine region_later (by kernel_rfl) (by kernel_rfl) ?_
              repeat (go_big_quiet_step (fail))
              refine wpQuiet_nil ?_
              intro x9
              obtain ⟨W9, hb9⟩ := x9
              have HB9 : Hid (Below u4.heap.size u4 W9) := bel_then HB.out hb9
              clear d1 d2 d3 hne9 s0
              go_wp2
              go_roundw
              case rel => exact ⟨k + 1, by omega, by go_num, HB9.out⟩
              case measure => simp [intOf]; omega
            · go_wp2
              have tA : decide (0 ≤ A) = false := by simpa using hA
              have hZ : ¬ 0 ≤ Z := fun h => by have := ha.1 h; omega
              have tZ : decide (0 ≤ Z) = false := by simpa using hZ
              have tX : decide (0 ≤ X) = true := by simpa using hX.1
              have tE : decide (X < a1) = false := by simpa using hX.2
              clear hX hZ ha
              refine region_later (by kernel_rfl) (by kernel_rfl) ?_
              repeat (go_big_quiet_step (fail))
              refine wpQuiet_nil ?_
              intro x9
              obtain ⟨W9, hb9⟩ := x9
              have HB9 : Hid (Below u4.heap.size u4 W9) := bel_then HB.out hb9
              clear d1 d2 d3 hne9 s0
              go_wp2
              go_roundw
              case rel => exact ⟨k + 1, by omega, by go_num, HB9.out⟩
              case measure => simp [intOf]; omega
            · go_wp2
              have tA : decide (0 ≤ A) = false := by simpa using hA
              have hZ : ¬ 0 ≤ Z := fun h => by have := ha.1 h; omega
              have tZ : decide (0 ≤ Z) = false := by simpa using hZ
              have tX : decide (0 ≤ X) = false := by simpa using hX
              clear hX hZ ha
              refine region_later (by kernel_rfl) (by kernel_rfl) ?_
              repeat (go_big_quiet_step (fail))
              refine wpQuiet_nil ?_
              intro x9
              obtain ⟨W9, hb9⟩ := x9
              have HB9 : Hid (Below u4.heap.size u4 W9) := bel_then HB.out hb9
              clear d1 d2 d3 hne9 s0
              go_wp2
              go_roundw
              case rel => exact ⟨k + 1, by omega, by go_num, HB9.out⟩
              case measure => simp [intOf]; omega
        · have hkk : k = 2 := by omega
          subst hkk
          have hli2 : ¬ ((2 : Nat) : Int) < 2 := by omega
          go_wp2
          go_roundw
          case rel => exact ⟨j + 1, by omega, by go_num, hbel⟩
          case measure => simp [intOf]; omega
    · have hjn : j = len0 := by omega
      subst hjn
      have hli : ¬ (j : Int) < (j : Int) := by omega
      go_wp2_with (go_at_call 7; refine (sawake _).mono ?_; rintro e u5 ⟨rfl, hb5⟩)
      go_ret
      exact ⟨rfl, bel_then (bel_then hB4 hbel) hb5⟩

/- From the walk to the row. -/
set_option maxRecDepth 100000 in
theorem lifted (os : Os) (started : os.Started) (H : Type) (enc : TypeId × Value → H) :
    ReturnsInHanded {} Try.checked os 5 .any (Rows.slotsMoreSpec.pre6 enc Try.prog Try.f5 Rows.slotsMoreRow.domain false) (Rows.slotsMoreSpec.post enc Try.prog Try.f5 false true false false) := by
  refine returnsInHanded_of_change (C := Try.checked) own started (by kernel_rfl) Try.func5
    (ChangeSpec.witness6 (enc := enc) (C := Try.checked) false ⟨#[], #[.slice none 0 0, .int .i64 0, .int .i64 0, .int .u8 0], []⟩ 8 (by kernel_rfl) (by kernel_rfl) (by kernel_rfl) (by kernel_rfl)) ?_
  intro W base args ds gs before hval0 hW hcnd _
  have hval : ∀ (j : Nat) t v, Try.f5.params[j]? = some t → args[j]? = some v → Value.okWide Try.prog W .any base t v := hval0
  have hW' := hW
  obtain ⟨p, q, hA0, hV, rfl, hfz, hnd⟩ := hW
  have hA : DataW.TrodAll enc Try.prog W 0 (fun _ => true) true Try.f5.params.toList args.toList ds p := hA0
  rw [Try.params5] at hA hval
  obtain ⟨v0, vs0, d0, ds0, p0, q0, hargs, rfl, rfl, h0, r0⟩ := trodAll_cons hA
  obtain ⟨v1, vs1, d1, ds1, p1, q1, rfl, rfl, rfl, h1, r1⟩ := trodAll_cons r0
  obtain ⟨v2, vs2, d2, ds2, p2, q2, rfl, rfl, rfl, h2, r2⟩ := trodAll_cons r1
  obtain ⟨v3, vs3, d3, ds3, p3, q3, rfl, rfl, rfl, h3, r3⟩ := trodAll_cons r2
  obtain ⟨rfl, rfl, rfl⟩ := trodAll_nil r3
  obtain rfl : args = #[v0, v1, v2, v3] := by cases args; simp_all
  obtain ⟨rfl, rfl⟩ := trodVars_none hV
  obtain ⟨a0, len0, cap0, rfl⟩ := okWide_slice Try.underlying22 (hval 0 22 v0 rfl rfl)
  have k0 := h0
  have lt0 : ∀ x ∈ p0, x.block < W.heap.size := by obtain ⟨m, hm⟩ := k0; exact DataW.trod_lt m _ _ _ hm
  obtain ⟨m0, w0, f0⟩ : ∃ y, (sliceS (consS (intS .i64) (consS (intS .i64) noneS))).rep W everywhere [.slice a0 len0 cap0] y ∧ (∀ x0 ∈ y, ((Lit.int .i64 x0.1).wf = true ∧ ((Lit.int .i64 x0.2.1).wf = true ∧ True))) := by
    obtain ⟨fuel, hf⟩ := h0
    exact (opens_slice (A := (consS (intS .i64) (consS (intS .i64) noneS))) Try.underlying22 (show Try.prog.cellsOf 25 = 2 by kernel_rfl) (by exact Nat.succ_pos _) (opens_array (A := (consS (intS .i64) (consS (intS .i64) noneS))) Try.underlying25 (show Try.prog.cellsOf 25 = 2 by kernel_rfl) (show Try.prog.cellsOf 3 = 1 by kernel_rfl) (fs := [elem 3 0, elem 3 1]) (by rfl) (opensAt_cons (f := elem 3 0) (A := (intS .i64)) rfl (show Try.prog.cellsOf 3 = 1 by kernel_rfl) (opens_int Try.underlying3) (opensAt_cons (f := elem 3 1) (A := (intS .i64)) rfl (show Try.prog.cellsOf 3 = 1 by kernel_rfl) (opens_int Try.underlying3) opensAt_nil (by rfl)) (by rfl)))) H enc W _ _ _ fuel _ _ hf
  obtain ⟨a1, rfl, rfl, rfl, w1⟩ := open_int Try.underlying3 (hval 1 3 v1 rfl rfl) h1
  obtain ⟨a2, rfl, rfl, rfl, w2⟩ := open_int Try.underlying3 (hval 2 3 v2 rfl rfl) h2
  obtain ⟨a3, rfl, rfl, rfl, w3⟩ := open_int Try.underlying5 (hval 3 5 v3 rfl rfl) h3
  clear hA0 hval0
  refine (walk a0 len0 cap0 m0 a1 a2 a3 W w0 f0 w1 w2 w3).mono fun e W' ⟨he, bel⟩ => ?_
  subst he
  exact ⟨_, rfl, _, _, _, [], _, [], hW', trodAll_mk1 (shut_bool Try.underlying4 _), (trodAll_cons_mk (Below.trod laidOut (by kernel_rfl) (of_decide_eq_true (by kernel_rfl)) k0 bel lt0) (trodAll_cons_mk (shut_int Try.underlying3 w1) (trodAll_cons_mk (shut_int Try.underlying3 w2) (trodAll_cons_mk (shut_int Try.underlying5 w3) trodAll_mk0)))), rfl, bel.frame _, fun h => by cases h⟩

theorem over : Rows.slotsMoreRow.holds Try.pinned (OpenSpec.ofChange Rows.slotsMoreSpec) :=
  OpenClaim.holds_of_wide 5 Try.f5 rfl rfl rfl rfl rfl rfl rfl ⟨rfl, rfl, rfl, rfl, rfl⟩ rfl rfl rfl rfl rfl (by kernel_rfl) Try.func5 (by kernel_rfl)
    (of_decide_eq_true (by kernel_rfl)) (by unfold Func.isWrapper; first | (rw [if_pos (by decide +kernel)]; kernel_rfl) | (rw [if_neg (by decide +kernel)]; exact ⟨rfl, rfl⟩))
    (fun os started H enc _ => lifted os started H enc)

end Go.Proofs.Ythiohjoccbofjaa.slotsMore

namespace Go.Proofs.Ythiohjoccbofjaa
theorem slotsMore_holds : Rows.SlotsMoreSaid := slotsMore.over
end Go.Proofs.Ythiohjoccbofjaa
