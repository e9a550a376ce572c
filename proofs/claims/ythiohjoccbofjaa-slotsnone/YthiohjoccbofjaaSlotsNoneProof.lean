/- For every list of choices and every number n no part has a slot where there is no room or no expert, and noughts have the slots 0, 1, 2 and so on: SlotsNone returns true. No condition. -/
import Derived.Test.YthiohjoccbofjaaRows
import Derived.Test.YthiohjoccbofjaaSltB
import Derived.WalkKit
import Derived.ProofKit
import Derived.OpenShut
import Derived.ShutString
import Derived.ChangeOld
import Derived.Below
namespace Go.Proofs.Ythiohjoccbofjaa.slotsNone
open Go.ChangeShapes Go.WideShapes Go.ChangeAt Go.RowKit
open Go.ChangeMaps (open_string shut_string)
set_option linter.unusedVariables false

theorem own : ownKnob Try.prog.godebug = none := by kernel_rfl
theorem laidOut : laidOutB Try.prog = true := by kernel_rfl

theorem fits_zeros (n : Nat) : ∀ x ∈ List.replicate n (0 : Int), (Lit.int .i64 x).wf = true := by
  intro x hx
  rw [(List.mem_replicate.1 hx).2]
  decide
/- The walk: the call returns true, and nothing that was there is written. -/
set_option maxHeartbeats 4000000 in
set_option maxRecDepth 100000 in
theorem walk (a0 : Option Addr) (len0 cap0 : Nat) (m0 : List (Int × Int × Unit)) (a1 : Int) (w : World) (w0 : (sliceS (consS (intS .i64) (consS (intS .i64) noneS))).rep w everywhere [.slice a0 len0 cap0] m0) (f0 : (∀ x0 ∈ m0, ((Lit.int .i64 x0.1).wf = true ∧ ((Lit.int .i64 x0.2.1).wf = true ∧ True)))) (w1 : (Lit.int .u8 a1).wf = true) :
    Calls Try.prog 6 #[.slice a0 len0 cap0, .int .u8 a1] w fun e w' => e = .returned (.bool true) ∧ Below w.heap.size w w' := by
  have hF : Flat w a0 len0 (flat m0) := Flat.of_rep w0
  have hW := flat_fit f0
  have h8 := bounds_u8 w1
  clear w0 f0 w1
  generalize flat m0 = l at hF hW
  by_cases h60 : 60 < len0
  · have hi : (60 : Int) < (len0 : Int) := by omega
    go_enter Try.func6, Try.ntmps6
    go_wp2_with (go_at_call 7; refine (sawake _).mono ?_; rintro e u1 ⟨rfl, hb1⟩)
    go_ret
    exact ⟨rfl, hb1⟩
  have hi : ¬ (60 : Int) < (len0 : Int) := by omega
  obtain ⟨i0, hi0, hi1, hi2, hi3⟩ := info_parts Try.infoPair
  have HC1 : Hid (Calls _ _ _ _ _) := assign a0 len0 cap0 l a1 0 w hF (by omega) hW
  have HF : Hid (Flat w a0 len0 l ∧ ∀ x ∈ l, (Lit.int .i64 x).wf = true) := ⟨hF, hW⟩
  have HL : Hid (l.length = len0 * 2) := hF.len
  have e0 : ((len0 : Int) != (len0 : Int)) = false := by simp
  clear hF hW
  go_enter Try.func6, Try.ntmps6
  go_wp2_with fail
  refine HC1.out.mono ?_
  rintro e u1 ⟨hb1, g1, rfl, hr1⟩
  have HR1 : Hid (Flat u1 (some ⟨g1, 0, none⟩) len0 (Sl.slots l a1 0)) := hr1
  have HC2 : Hid (Calls _ _ _ _ _) := assign a0 len0 cap0 l 0 a1 u1 (HF.out.1.keep hb1) (by omega) HF.out.2
  clear hr1 HC1
  go_wp2_with fail
  refine HC2.out.mono ?_
  rintro e u2 ⟨hb2, g2, rfl, hr2⟩
  have HR2 : Hid (Flat u2 (some ⟨g2, 0, none⟩) len0 (Sl.slots l 0 a1)) := hr2
  have HQ1 : Hid (Flat u2 (some ⟨g1, 0, none⟩) len0 (Sl.slots l a1 0)) := HR1.out.keep hb2
  have hB2 := bel_then hb1 hb2
  clear hr2 HC2 HR1 HF hb1 hb2
  go_wp2_with (at_make; refine wpList_make_full _ rfl _ _ 22 rfl u2.heap.size 25 i0 (.agg #[.int .i64 0, .int .i64 0]) 2 Try.underlying22 hi0 hi1 hi2 _ _ _ _ len0 rfl rfl (by rfl) (by rfl) ?b2 ?b3 (Nat.le_refl _) ?_)
  case b2 => rw [hi3]; omega
  case b3 => unfold maxLen; omega
  intro u3 hown3 hg3
  have hb3 : Below u2.heap.size u2 u3 := (Below.refl _ _).grown hg3 (Nat.le_refl _) (fun g hg => by cases hg)
  have hz3 : Flat u3 (some ⟨u2.heap.size, 0, none⟩) len0 (List.replicate (len0 * 2) 0) := Flat.of_owns (base := u2.heap.size) (e := 25) (c := len0) (by rw [← made_pairs]; exact hown3)
  have HC3 : Hid (Calls _ _ _ _ _) := assign _ len0 len0 (List.replicate (len0 * 2) 0) 1 (2 * (len0 : Int)) u3 hz3 (by omega) (fits_zeros _)
  have HP1 : Hid (Flat u3 (some ⟨g1, 0, none⟩) len0 (Sl.slots l a1 0)) := HQ1.out.keep hb3
  have HP2 : Hid (Flat u3 (some ⟨g2, 0, none⟩) len0 (Sl.slots l 0 a1)) := HR2.out.keep hb3
  have hB3 := bel_then hB2 hb3
  clear hown3 hg3 hz3 HR2 HQ1 hb3 hB2
  go_wp2_with fail
  refine HC3.out.mono ?_
  rintro e u4 ⟨hb4, g3, rfl, hr3⟩
  have HS3 : Hid (Flat u4 (some ⟨g3, 0, none⟩) len0 (Sl.slots (List.replicate (len0 * 2) 0) 1 (2 * (len0 : Int)))) := hr3
  have HS1 : Hid (Flat u4 (some ⟨g1, 0, none⟩) len0 (Sl.slots l a1 0)) := HP1.out.keep hb4
  have HS2 : Hid (Flat u4 (some ⟨g2, 0, none⟩) len0 (Sl.slots l 0 a1)) := HP2.out.keep hb4
  have hB4 := bel_then hB3 hb4
  clear hr3 HC3 HP1 HP2 hB3 hb4
  have en1 := neqPair (-1) (-1)
  go_wp2
  go_loopw [49] (fun i wr => ∃ j : Nat, j ≤ len0 ∧ i = .int .i64 j ∧ Below u4.heap.size u4 wr) (fun i _ => len0 - (intOf i).toNat)
  case atStart => exact ⟨0, Nat.zero_le _, rfl, Below.refl _ _⟩
  case round =>
    obtain ⟨j, hj, rfl, hbel⟩ := hrel
    by_cases hlt : j < len0
    · have hli : (j : Int) < (len0 : Int) := by omega
      have hj0 : (0 : Int) ≤ (j : Int) := by omega
      obtain ⟨b5, o5, he, _, p0, p1⟩ := (HS1.out.keep hbel).at hlt
      injection he with he; injection he with hx1 hx2 _; subst hx1; subst hx2
      obtain ⟨b5, o5, he, _, q0, q1⟩ := (HS2.out.keep hbel).at hlt
      injection he with he; injection he with hx1 hx2 _; subst hx1; subst hx2
      obtain ⟨b5, o5, he, _, r0, r1⟩ := (HS3.out.keep hbel).at hlt
      injection he with he; injection he with hx1 hx2 _; subst hx1; subst hx2
      rw [Sl.slots_at _ _ (by have := HL.out; omega), Sl.slot_full, Nat.zero_add] at p0 p1
      rw [Sl.slots_at _ _ (by have := HL.out; omega), Sl.slot_none, Nat.zero_add] at q0 q1
      have z0 := Sl.slot_zeros (n := len0 * 2) (i := j * 2) (by omega)
      have z1 := Sl.slot_zeros (n := len0 * 2) (i := j * 2 + 1) (by omega)
      rw [show ((len0 * 2 : Nat) : Int) = 2 * (len0 : Int) by omega] at z0 z1
      rw [Sl.slots_at _ _ (by rw [List.length_replicate]; omega), z0, Nat.zero_add, show ((j * 2 : Nat) : Int) = 2 * (j : Int) by omega] at r0
      rw [Sl.slots_at _ _ (by rw [List.length_replicate]; omega), z1, Nat.zero_add, show ((j * 2 + 1 : Nat) : Int) = 2 * (j : Int) + 1 by omega] at r1
      have en2 := neqPair (2 * (j : Int)) (2 * (j : Int) + 1)
      clear z0 z1
      go_wp2
      go_roundw
      case rel => exact ⟨j + 1, by omega, by go_num, hbel⟩
      case measure => simp [intOf]; omega
    · have hjn : j = len0 := by omega
      subst hjn
      have hli : ¬ (j : Int) < (j : Int) := by omega
      go_wp2_with (go_at_call 7; refine (sawake _).mono ?_; rintro e u5 ⟨rfl, hb5⟩)
      go_ret
      exact ⟨rfl, bel_then (bel_then hB4 hbel) hb5⟩

/- From the walk to the row. -/
set_option maxRecDepth 100000 in
theorem lifted (os : Os) (started : os.Started) (H : Type) (enc : TypeId × Value → H) :
    ReturnsInHanded {} Try.checked os 6 .any (Rows.slotsNoneSpec.pre6 enc Try.prog Try.f6 Rows.slotsNoneRow.domain false) (Rows.slotsNoneSpec.post enc Try.prog Try.f6 false true false false) := by
  refine returnsInHanded_of_change (C := Try.checked) own started (by kernel_rfl) Try.func6
    (ChangeSpec.witness6 (enc := enc) (C := Try.checked) false ⟨#[], #[.slice none 0 0, .int .u8 0], []⟩ 8 (by kernel_rfl) (by kernel_rfl) (by kernel_rfl) (by kernel_rfl)) ?_
  intro W base args ds gs before hval0 hW hcnd _
  have hval : ∀ (j : Nat) t v, Try.f6.params[j]? = some t → args[j]? = some v → Value.okWide Try.prog W .any base t v := hval0
  have hW' := hW
  obtain ⟨p, q, hA0, hV, rfl, hfz, hnd⟩ := hW
  have hA : DataW.TrodAll enc Try.prog W 0 (fun _ => true) true Try.f6.params.toList args.toList ds p := hA0
  rw [Try.params6] at hA hval
  obtain ⟨v0, vs0, d0, ds0, p0, q0, hargs, rfl, rfl, h0, r0⟩ := trodAll_cons hA
  obtain ⟨v1, vs1, d1, ds1, p1, q1, rfl, rfl, rfl, h1, r1⟩ := trodAll_cons r0
  obtain ⟨rfl, rfl, rfl⟩ := trodAll_nil r1
  obtain rfl : args = #[v0, v1] := by cases args; simp_all
  obtain ⟨rfl, rfl⟩ := trodVars_none hV
  obtain ⟨a0, len0, cap0, rfl⟩ := okWide_slice Try.underlying22 (hval 0 22 v0 rfl rfl)
  have k0 := h0
  have lt0 : ∀ x ∈ p0, x.block < W.heap.size := by obtain ⟨m, hm⟩ := k0; exact DataW.trod_lt m _ _ _ hm
  obtain ⟨m0, w0, f0⟩ : ∃ y, (sliceS (consS (intS .i64) (consS (intS .i64) noneS))).rep W everywhere [.slice a0 len0 cap0] y ∧ (∀ x0 ∈ y, ((Lit.int .i64 x0.1).wf = true ∧ ((Lit.int .i64 x0.2.1).wf = true ∧ True))) := by
    obtain ⟨fuel, hf⟩ := h0
    exact (opens_slice (A := (consS (intS .i64) (consS (intS .i64) noneS))) Try.underlying22 (show Try.prog.cellsOf 25 = 2 by kernel_rfl) (by exact Nat.succ_pos _) (opens_array (A := (consS (intS .i64) (consS (intS .i64) noneS))) Try.underlying25 (show Try.prog.cellsOf 25 = 2 by kernel_rfl) (show Try.prog.cellsOf 3 = 1 by kernel_rfl) (fs := [elem 3 0, elem 3 1]) (by rfl) (opensAt_cons (f := elem 3 0) (A := (intS .i64)) rfl (show Try.prog.cellsOf 3 = 1 by kernel_rfl) (opens_int Try.underlying3) (opensAt_cons (f := elem 3 1) (A := (intS .i64)) rfl (show Try.prog.cellsOf 3 = 1 by kernel_rfl) (opens_int Try.underlying3) opensAt_nil (by rfl)) (by rfl)))) H enc W _ _ _ fuel _ _ hf
  obtain ⟨a1, rfl, rfl, rfl, w1⟩ := open_int Try.underlying5 (hval 1 5 v1 rfl rfl) h1
  clear hA0 hval0
  refine (walk a0 len0 cap0 m0 a1 W w0 f0 w1).mono fun e W' ⟨he, bel⟩ => ?_
  subst he
  exact ⟨_, rfl, _, _, _, [], _, [], hW', trodAll_mk1 (shut_bool Try.underlying4 _), (trodAll_cons_mk (Below.trod laidOut (by kernel_rfl) (of_decide_eq_true (by kernel_rfl)) k0 bel lt0) (trodAll_cons_mk (shut_int Try.underlying5 w1) trodAll_mk0)), rfl, bel.frame _, fun h => by cases h⟩

theorem over : Rows.slotsNoneRow.holds Try.pinned (OpenSpec.ofChange Rows.slotsNoneSpec) :=
  OpenClaim.holds_of_wide 6 Try.f6 rfl rfl rfl rfl rfl rfl rfl ⟨rfl, rfl, rfl, rfl, rfl⟩ rfl rfl rfl rfl rfl (by kernel_rfl) Try.func6 (by kernel_rfl)
    (of_decide_eq_true (by kernel_rfl)) (by unfold Func.isWrapper; first | (rw [if_pos (by decide +kernel)]; kernel_rfl) | (rw [if_neg (by decide +kernel)]; exact ⟨rfl, rfl⟩))
    (fun os started H enc _ => lifted os started H enc)

end Go.Proofs.Ythiohjoccbofjaa.slotsNone

namespace Go.Proofs.Ythiohjoccbofjaa
theorem slotsNone_holds : Rows.SlotsNoneSaid := slotsNone.over
end Go.Proofs.Ythiohjoccbofjaa
