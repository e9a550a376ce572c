/- A bag of at most 200 texts that is taken from at 0, as often as it has texts, tells them in their order, and is empty: for every bag, with no condition, the call returns true. -/
import Derived.Test.YtkpbkknneebdmaaRows
import Derived.Test.YtkpbkknneebdmaaBagD
import Derived.WalkKit
import Derived.ProofKit
import Derived.OpenShut
import Derived.ShutString
import Derived.ChangeOld
import Derived.Below
namespace Go.Proofs.Ytkpbkknneebdmaa.bagDrains
open Go.ChangeShapes Go.WideShapes Go.ChangeAt Go.RowKit
open Go.ChangeMaps (open_string shut_string)
set_option linter.unusedVariables false

theorem own : ownKnob Try.prog.godebug = none := by kernel_rfl
theorem laidOut : laidOutB Try.prog = true := by kernel_rfl

/- The walk: the call returns true, and nothing that was there is written. -/
theorem walk (a0 : Option Addr) (len0 cap0 : Nat) (m0 : List ByteArray) (w : World) (w0 : (sliceS strS).rep w everywhere [.slice a0 len0 cap0] m0) (f0 : (∀ x0 ∈ m0, ByteArray.size x0 ≤ maxLen)) :
    Calls Try.prog 5 #[.slice a0 len0 cap0] w fun e w' => e = .returned (.bool true) ∧ Below w.heap.size w w' := by
  clear f0
  have hA := Shape.low w0
  have HL0 : Hid (m0.length = len0) := (sliceS_len w0).1
  have hT := Texts.of_rep w0
  by_cases hl : 200 < len0
  · have hi : (200 : Int) < (len0 : Int) := by omega
    go_enter Try.func5, Try.ntmps5
    go_wp2_with fail
    refine (bawake _).mono ?_
    rintro e u1 ⟨rfl, hb1⟩
    go_wp2
    go_ret
    exact ⟨rfl, hb1⟩
  have hi : ¬ (200 : Int) < (len0 : Int) := by omega
  go_enter Try.func5, Try.ntmps5
  go_wp2
  go_loopw [3, 18] (fun v i wr => ∃ j n : Nat, ∃ a c, j ≤ len0 ∧ i = .int .i64 j ∧ n = len0 - j ∧ v = .slice a n c ∧ bagS.rep wr everywhere [.slice a n c] (m0.drop j) ∧ Below w.heap.size w wr) (fun _ i _ => len0 - (intOf i).toNat)
  case atStart => exact ⟨0, len0, a0, cap0, by omega, rfl, rfl, rfl, w0, Below.refl _ _⟩
  case round =>
    clear w0
    obtain ⟨j, n, a, c, hj, rfl, hn, rfl, hr, hbel⟩ := hrel
    have HM : Hid (n = len0 - j) := hn
    clear hn
    by_cases hlt : j < len0
    · have hli : (j : Int) < (len0 : Int) := by omega
      obtain ⟨k, hk⟩ : ∃ k, n - 1 = k := ⟨_, rfl⟩
      have HK : Hid (n - 1 = k) := hk
      have HK2 : Hid (k = len0 - (j + 1)) := by show _ = _; have := HM.out; omega
      have HX : Hid ((m0.drop j).getD 0 noText = m0.getD j noText) := by show _ = _; rw [List.getD_eq_getElem?_getD, List.getD_eq_getElem?_getD, List.getElem?_drop]; rfl
      have HD : Hid (Bx.without (m0.drop j) 0 = m0.drop (j + 1)) := by show _ = _; unfold Bx.without; rw [List.take_zero, List.nil_append, List.drop_drop]
      have e1 : ((k : Int) != (len0 : Int) - (j : Int) - 1) = false := by rw [bne_eq_false_iff_eq]; have := HK2.out; omega
      have hkb : k ≤ 200 := by have := HK2.out; omega
      have hn0 : 0 < n := by have := HM.out; omega
      have hnb : n ≤ 200 := by have := HM.out; omega
      clear hk
      go_wp2_with fail
      refine (take_to a n c (m0.drop j) 0 wr hr (by omega) hn0 _ rfl k HK.out (m0.getD j noText) HX.out (m0.drop (j + 1)) HD.out).mono ?_
      rintro e u1 ⟨hb1, b1, c1, rfl, hr1⟩
      have hB1 := bel_then hbel hb1
      obtain ⟨b2, o2, rfl, hb2, hcell⟩ := (hT.keep hB1).at hlt
      clear hr
      generalize m0.getD j noText = x at *
      have e0 : (x.toList == x.toList) = true := by simp
      go_wp2
      go_roundw
      case rel => exact ⟨j + 1, k, b1, c1, by omega, by go_num, HK2.out, rfl, hr1, hB1⟩
      case measure => simp [intOf]; omega
    · have hjn : j = len0 := by omega
      subst hjn
      have hli : ¬ (j : Int) < (j : Int) := by omega
      have hn0 : n = 0 := by have := HM.out; omega
      subst hn0
      go_wp2_with fail
      refine (btake_out a 0 c (m0.drop j) 0 wr hr (by omega) (by omega)).mono ?_
      rintro e u1 ⟨hb1, b1, c1, rfl, hr1⟩
      have hB1 := bel_then hbel hb1
      clear hr hr1
      go_wp2_with fail
      refine (bawake _).mono ?_
      rintro e u5 ⟨rfl, hb5⟩
      have hB5 := bel_then hB1 hb5
      go_wp2
      go_ret
      exact ⟨rfl, hB5⟩

/- From the walk to the row. -/
set_option maxRecDepth 100000 in
theorem lifted (os : Os) (started : os.Started) (H : Type) (enc : TypeId × Value → H) :
    ReturnsInHanded {} Try.checked os 5 .any (Rows.bagDrainsSpec.pre6 enc Try.prog Try.f5 Rows.bagDrainsRow.domain false) (Rows.bagDrainsSpec.post enc Try.prog Try.f5 false true false false) := by
  refine returnsInHanded_of_change (C := Try.checked) own started (by kernel_rfl) Try.func5
    (ChangeSpec.witness6 (enc := enc) (C := Try.checked) false ⟨#[], #[.slice none 0 0], []⟩ 8 (by kernel_rfl) (by kernel_rfl) (by kernel_rfl) (by kernel_rfl)) ?_
  intro W base args ds gs before hval0 hW hcnd _
  have hval : ∀ (j : Nat) t v, Try.f5.params[j]? = some t → args[j]? = some v → Value.okWide Try.prog W .any base t v := hval0
  have hW' := hW
  obtain ⟨p, q, hA0, hV, rfl, hfz, hnd⟩ := hW
  have hA : DataW.TrodAll enc Try.prog W 0 (fun _ => true) true Try.f5.params.toList args.toList ds p := hA0
  rw [Try.params5] at hA hval
  obtain ⟨v0, vs0, d0, ds0, p0, q0, hargs, rfl, rfl, h0, r0⟩ := trodAll_cons hA
  obtain ⟨rfl, rfl, rfl⟩ := trodAll_nil r0
  obtain rfl : args = #[v0] := by cases args; simp_all
  obtain ⟨rfl, rfl⟩ := trodVars_none hV
  obtain ⟨a0, len0, cap0, rfl⟩ := okWide_slice Try.underlying22 (hval 0 22 v0 rfl rfl)
  have k0 := h0
  have lt0 : ∀ x ∈ p0, x.block < W.heap.size := by obtain ⟨m, hm⟩ := k0; exact DataW.trod_lt m _ _ _ hm
  obtain ⟨m0, w0, f0⟩ : ∃ y, (sliceS strS).rep W everywhere [.slice a0 len0 cap0] y ∧ (∀ x0 ∈ y, ByteArray.size x0 ≤ maxLen) := by
    obtain ⟨fuel, hf⟩ := h0
    exact (opens_slice (A := strS) Try.underlying22 (show Try.prog.cellsOf 9 = 1 by kernel_rfl) (by exact Nat.succ_pos _) (opens_string Try.underlying9)) H enc W _ _ _ fuel _ _ hf
  clear hA0 hval0
  refine (walk a0 len0 cap0 m0 W w0 f0).mono fun e W' ⟨he, bel⟩ => ?_
  subst he
  exact ⟨_, rfl, _, _, _, [], _, [], hW', trodAll_mk1 (shut_bool Try.underlying4 _), (trodAll_cons_mk (Below.trod laidOut (by kernel_rfl) (of_decide_eq_true (by kernel_rfl)) k0 bel lt0) trodAll_mk0), rfl, bel.frame _, fun h => by cases h⟩

theorem over : Rows.bagDrainsRow.holds Try.pinned (OpenSpec.ofChange Rows.bagDrainsSpec) :=
  OpenClaim.holds_of_wide 5 Try.f5 rfl rfl rfl rfl rfl rfl rfl ⟨rfl, rfl, rfl, rfl, rfl⟩ rfl rfl rfl rfl rfl (by kernel_rfl) Try.func5 (by kernel_rfl)
    (of_decide_eq_true (by kernel_rfl)) (by unfold Func.isWrapper; first | (rw [if_pos (by decide +kernel)]; kernel_rfl) | (rw [if_neg (by decide +kernel)]; exact ⟨rfl, rfl⟩))
    (fun os started H enc _ => lifted os started H enc)

end Go.Proofs.Ytkpbkknneebdmaa.bagDrains

namespace Go.Proofs.Ytkpbkknneebdmaa
theorem bagDrains_holds : Rows.BagDrainsSaid := bagDrains.over
end Go.Proofs.Ytkpbkknneebdmaa
