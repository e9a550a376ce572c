/- For every list of choices, every number of experts and every capacity the slots that the program assigns are the document's: SlotsExact returns true. No condition. -/
import Derived.Test.YthiohjoccbofjaaRows
import Derived.Test.YthiohjoccbofjaaSltB
import Derived.WalkKit
import Derived.ProofKit
import Derived.OpenShut
import Derived.ShutString
import Derived.ChangeOld
import Derived.Below
namespace Go.Proofs.Ythiohjoccbofjaa.slotsExact
open Go.ChangeShapes Go.WideShapes Go.ChangeAt Go.RowKit
open Go.ChangeMaps (open_string shut_string)
set_option linter.unusedVariables false

theorem own : ownKnob Try.prog.godebug = none := by kernel_rfl
theorem laidOut : laidOutB Try.prog = true := by kernel_rfl

/- The walk: the call returns true, and nothing that was there is written. -/
set_option maxHeartbeats 4000000 in
set_option maxRecDepth 100000 in
theorem walk (a0 : Option Addr) (len0 cap0 : Nat) (m0 : List (Int × Int × Unit)) (a1 : Int) (a2 : Int) (w : World) (w0 : (sliceS (consS (intS .i64) (consS (intS .i64) noneS))).rep w everywhere [.slice a0 len0 cap0] m0) (f0 : (∀ x0 ∈ m0, ((Lit.int .i64 x0.1).wf = true ∧ ((Lit.int .i64 x0.2.1).wf = true ∧ True)))) (w1 : (Lit.int .i64 a1).wf = true) (w2 : (Lit.int .i64 a2).wf = true) :
    Calls Try.prog 3 #[.slice a0 len0 cap0, .int .i64 a1, .int .i64 a2] w fun e w' => e = .returned (.bool true) ∧ Below w.heap.size w w' := by
  have hF : Flat w a0 len0 (flat m0) := Flat.of_rep w0
  have hW := flat_fit f0
  clear w0 f0
  generalize flat m0 = l at hF hW
  by_cases h60 : 60 < len0
  · have hi : (60 : Int) < (len0 : Int) := by omega
    go_enter Try.func3, Try.ntmps3
    go_wp2_with (go_at_call 7; refine (sawake _).mono ?_; rintro e u1 ⟨rfl, hb1⟩)
    go_ret
    exact ⟨rfl, hb1⟩
  have hi : ¬ (60 : Int) < (len0 : Int) := by omega
  have HC : Hid (Calls _ _ _ _ _) := assign a0 len0 cap0 l a1 a2 w hF (by omega) hW
  have HF : Hid (Flat w a0 len0 l) := hF
  have HL : Hid (l.length = len0 * 2) := hF.len
  have e0 : ((len0 : Int) != (len0 : Int)) = false := by simp
  clear hF hW w1 w2
  go_enter Try.func3, Try.ntmps3
  go_wp2_with fail
  refine HC.out.mono ?_
  rintro e u1 ⟨hb1, b, rfl, hr1⟩
  have HR : Hid (Flat u1 (some ⟨b, 0, none⟩) len0 (Sl.slots l a1 a2)) := hr1
  have HG : Hid (Flat u1 a0 len0 l) := HF.out.keep hb1
  clear hr1 HC HF
  go_wp2
  go_loopw [25] (fun i wr => ∃ j : Nat, j ≤ len0 ∧ i = .int .i64 j ∧ Below u1.heap.size u1 wr) (fun i _ => len0 - (intOf i).toNat)
  case atStart => exact ⟨0, Nat.zero_le _, rfl, Below.refl _ _⟩
  case round =>
    obtain ⟨j, hj, rfl, hbel⟩ := hrel
    by_cases hlt : j < len0
    · have hli : (j : Int) < (len0 : Int) := by omega
      have hj0 : (0 : Int) ≤ (j : Int) := by omega
      have HB : Hid (Below u1.heap.size u1 wr) := hbel
      go_wp2
      clear hbel
      go_loopw [28] (fun i wr => ∃ k : Nat, k ≤ 2 ∧ i = .int .i64 k ∧ Below u1.heap.size u1 wr) (fun i _ => 2 - (intOf i).toNat)
      case atStart => exact ⟨0, Nat.zero_le _, rfl, HB.out⟩
      case round =>
        clear HB
        obtain ⟨k, hk, rfl, hbel⟩ := hrel
        by_cases hk2 : k < 2
        · have hkc : (k : Int) < 2 := by omega
          have hk0 : (0 : Int) ≤ (k : Int) := by omega
          obtain ⟨s, hs⟩ : ∃ s, Sl.slot l a1 a2 (j * 2 + k) = s := ⟨_, rfl⟩
          obtain ⟨b2, o2, he, _, hc⟩ := (HR.out.keep hbel).one hlt hk2
          injection he with he; injection he with hx1 hx2 _; subst hx1; subst hx2
          rw [Sl.slots_at a1 a2 (by have := HL.out; omega), hs, Nat.zero_add] at hc
          have e1 : (s != s) = false := by simp
          go_wp2
          have hne9 : Nonempty (Later wr) := Later.there wr
          have d1 : ∀ x9 : Later wr, x9.u.cell? ⟨b, j * 2 + k, none⟩ = some (.int .i64 s) := fun x9 => x9.cell hc
          have c1 : ∀ x9 : Later wr, Calls Try.prog 9 #[.slice a0 len0 cap0, .int .i64 a1, .int .i64 a2, .int .i64 (j : Int), .int .i64 (k : Int)] x9.u fun e w' => e = .returned (.int .i64 s) ∧ w' = x9.u := fun x9 => rslot a0 len0 cap0 l a1 a2 j k s x9.u ((HG.out.keep hbel).keep x9.h) (by omega) hlt hk2 hs
          clear hc hs
          refine region_later (by kernel_rfl) (by kernel_rfl) ?_
          repeat (go_big_quiet_step ((go_at_call 9; exact Later.same (c1 _))))
          refine wpQuiet_nil ?_
          intro x9
          obtain ⟨W9, hb9⟩ := x9
          have HB9 : Hid (Below u1.heap.size u1 W9) := bel_then hbel hb9
          clear hbel c1 d1 hne9
          go_wp2
          go_roundw
          case rel => exact ⟨k + 1, by omega, by go_num, HB9.out⟩
          case measure => simp [intOf]; omega
        · have hkk : k = 2 := by omega
          subst hkk
          have hli2 : ¬ ((2 : Nat) : Int) < 2 := by omega
          go_wp2
          go_roundw
          case rel => exact ⟨j + 1, by omega, by go_num, hbel⟩
          case measure => simp [intOf]; omega
    · have hjn : j = len0 := by omega
      subst hjn
      have hli : ¬ (j : Int) < (j : Int) := by omega
      go_wp2_with (go_at_call 7; refine (sawake _).mono ?_; rintro e u2 ⟨rfl, hb2⟩)
      go_ret
      exact ⟨rfl, bel_then (bel_then hb1 hbel) hb2⟩

/- From the walk to the row. -/
set_option maxRecDepth 100000 in
theorem lifted (os : Os) (started : os.Started) (H : Type) (enc : TypeId × Value → H) :
    ReturnsInHanded {} Try.checked os 3 .any (Rows.slotsExactSpec.pre6 enc Try.prog Try.f3 Rows.slotsExactRow.domain false) (Rows.slotsExactSpec.post enc Try.prog Try.f3 false true false false) := by
  refine returnsInHanded_of_change (C := Try.checked) own started (by kernel_rfl) Try.func3
    (ChangeSpec.witness6 (enc := enc) (C := Try.checked) false ⟨#[], #[.slice none 0 0, .int .i64 0, .int .i64 0], []⟩ 8 (by kernel_rfl) (by kernel_rfl) (by kernel_rfl) (by kernel_rfl)) ?_
  intro W base args ds gs before hval0 hW hcnd _
  have hval : ∀ (j : Nat) t v, Try.f3.params[j]? = some t → args[j]? = some v → Value.okWide Try.prog W .any base t v := hval0
  have hW' := hW
  obtain ⟨p, q, hA0, hV, rfl, hfz, hnd⟩ := hW
  have hA : DataW.TrodAll enc Try.prog W 0 (fun _ => true) true Try.f3.params.toList args.toList ds p := hA0
  rw [Try.params3] at hA hval
  obtain ⟨v0, vs0, d0, ds0, p0, q0, hargs, rfl, rfl, h0, r0⟩ := trodAll_cons hA
  obtain ⟨v1, vs1, d1, ds1, p1, q1, rfl, rfl, rfl, h1, r1⟩ := trodAll_cons r0
  obtain ⟨v2, vs2, d2, ds2, p2, q2, rfl, rfl, rfl, h2, r2⟩ := trodAll_cons r1
  obtain ⟨rfl, rfl, rfl⟩ := trodAll_nil r2
  obtain rfl : args = #[v0, v1, v2] := by cases args; simp_all
  obtain ⟨rfl, rfl⟩ := trodVars_none hV
  obtain ⟨a0, len0, cap0, rfl⟩ := okWide_slice Try.underlying22 (hval 0 22 v0 rfl rfl)
  have k0 := h0
  have lt0 : ∀ x ∈ p0, x.block < W.heap.size := by obtain ⟨m, hm⟩ := k0; exact DataW.trod_lt m _ _ _ hm
  obtain ⟨m0, w0, f0⟩ : ∃ y, (sliceS (consS (intS .i64) (consS (intS .i64) noneS))).rep W everywhere [.slice a0 len0 cap0] y ∧ (∀ x0 ∈ y, ((Lit.int .i64 x0.1).wf = true ∧ ((Lit.int .i64 x0.2.1).wf = true ∧ True))) := by
    obtain ⟨fuel, hf⟩ := h0
    exact (opens_slice (A := (consS (intS .i64) (consS (intS .i64) noneS))) Try.underlying22 (show Try.prog.cellsOf 25 = 2 by kernel_rfl) (by exact Nat.succ_pos _) (opens_array (A := (consS (intS .i64) (consS (intS .i64) noneS))) Try.underlying25 (show Try.prog.cellsOf 25 = 2 by kernel_rfl) (show Try.prog.cellsOf 3 = 1 by kernel_rfl) (fs := [elem 3 0, elem 3 1]) (by rfl) (opensAt_cons (f := elem 3 0) (A := (intS .i64)) rfl (show Try.prog.cellsOf 3 = 1 by kernel_rfl) (opens_int Try.underlying3) (opensAt_cons (f := elem 3 1) (A := (intS .i64)) rfl (show Try.prog.cellsOf 3 = 1 by kernel_rfl) (opens_int Try.underlying3) opensAt_nil (by rfl)) (by rfl)))) H enc W _ _ _ fuel _ _ hf
  obtain ⟨a1, rfl, rfl, rfl, w1⟩ := open_int Try.underlying3 (hval 1 3 v1 rfl rfl) h1
  obtain ⟨a2, rfl, rfl, rfl, w2⟩ := open_int Try.underlying3 (hval 2 3 v2 rfl rfl) h2
  clear hA0 hval0
  refine (walk a0 len0 cap0 m0 a1 a2 W w0 f0 w1 w2).mono fun e W' ⟨he, bel⟩ => ?_
  subst he
  exact ⟨_, rfl, _, _, _, [], _, [], hW', trodAll_mk1 (shut_bool Try.underlying4 _), (trodAll_cons_mk (Below.trod laidOut (by kernel_rfl) (of_decide_eq_true (by kernel_rfl)) k0 bel lt0) (trodAll_cons_mk (shut_int Try.underlying3 w1) (trodAll_cons_mk (shut_int Try.underlying3 w2) trodAll_mk0))), rfl, bel.frame _, fun h => by cases h⟩

theorem over : Rows.slotsExactRow.holds Try.pinned (OpenSpec.ofChange Rows.slotsExactSpec) :=
  OpenClaim.holds_of_wide 3 Try.f3 rfl rfl rfl rfl rfl rfl rfl ⟨rfl, rfl, rfl, rfl, rfl⟩ rfl rfl rfl rfl rfl (by kernel_rfl) Try.func3 (by kernel_rfl)
    (of_decide_eq_true (by kernel_rfl)) (by unfold Func.isWrapper; first | (rw [if_pos (by decide +kernel)]; kernel_rfl) | (rw [if_neg (by decide +kernel)]; exact ⟨rfl, rfl⟩))
    (fun os started H enc _ => lifted os started H enc)

end Go.Proofs.Ythiohjoccbofjaa.slotsExact

namespace Go.Proofs.Ythiohjoccbofjaa
theorem slotsExact_holds : Rows.SlotsExactSaid := slotsExact.over
end Go.Proofs.Ythiohjoccbofjaa
