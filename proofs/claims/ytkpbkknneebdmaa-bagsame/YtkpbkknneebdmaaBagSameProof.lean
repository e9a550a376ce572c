/- A bag of at most 199 texts that is doubled at a place, and taken from at its end, is as it was, and what is lost at a place is the others: for every bag and every place, with no condition, the call returns true. -/
import Derived.Test.YtkpbkknneebdmaaRows
import Derived.Test.YtkpbkknneebdmaaBagD
import Derived.WalkKit
import Derived.ProofKit
import Derived.OpenShut
import Derived.ShutString
import Derived.ChangeOld
import Derived.Below
namespace Go.Proofs.Ytkpbkknneebdmaa.bagSame
open Go.ChangeShapes Go.WideShapes Go.ChangeAt Go.RowKit
open Go.ChangeMaps (open_string shut_string)
set_option linter.unusedVariables false

theorem own : ownKnob Try.prog.godebug = none := by kernel_rfl
theorem laidOut : laidOutB Try.prog = true := by kernel_rfl

/- The walk: the call returns true, and nothing that was there is written. -/
theorem walk (a0 : Option Addr) (len0 cap0 : Nat) (m0 : List ByteArray) (a1 : Int) (w : World) (w0 : (sliceS strS).rep w everywhere [.slice a0 len0 cap0] m0) (f0 : (∀ x0 ∈ m0, ByteArray.size x0 ≤ maxLen)) (w1 : (Lit.int .i64 a1).wf = true) :
    Calls Try.prog 6 #[.slice a0 len0 cap0, .int .i64 a1] w fun e w' => e = .returned (.bool true) ∧ Below w.heap.size w w' := by
  clear f0 w1
  have hA := Shape.low w0
  have hl0 := (sliceS_len w0).1
  by_cases hl : 199 < len0
  · have hi : (199 : Int) < (len0 : Int) := by omega
    go_enter Try.func6, Try.ntmps6
    go_wp2_with fail
    refine (bawake _).mono ?_
    rintro e u1 ⟨rfl, hb1⟩
    go_wp2
    go_ret
    exact ⟨rfl, hb1⟩
  have hi : ¬ (199 : Int) < (len0 : Int) := by omega
  by_cases hneg : a1 < 0
  · go_enter Try.func6, Try.ntmps6
    go_wp2_with fail
    refine (bawake _).mono ?_
    rintro e u1 ⟨rfl, hb1⟩
    go_wp2
    go_ret
    exact ⟨rfl, hb1⟩
  by_cases hbig : (len0 : Int) ≤ a1
  · go_enter Try.func6, Try.ntmps6
    go_wp2_with fail
    refine (bawake _).mono ?_
    rintro e u1 ⟨rfl, hb1⟩
    go_wp2
    go_ret
    exact ⟨rfl, hb1⟩
  obtain ⟨k, rfl⟩ : ∃ k : Nat, a1 = k := ⟨a1.toNat, by omega⟩
  have hk : k < len0 := by omega
  obtain ⟨x, hx⟩ : ∃ x, m0.getD k noText = x := ⟨_, rfl⟩
  obtain ⟨n1, hn1⟩ : ∃ n1, len0 + 1 = n1 := ⟨_, rfl⟩
  obtain ⟨m1, hm1⟩ : ∃ m1, m0 ++ [x] = m1 := ⟨_, rfl⟩
  obtain ⟨m2, hm2⟩ : ∃ m2, Bx.without m0 k = m2 := ⟨_, rfl⟩
  obtain ⟨n2, hn2⟩ : ∃ n2, len0 - 1 = n2 := ⟨_, rfl⟩
  have HX : Hid (m0.getD k noText = x) := hx
  have HL1 : Hid (m1.length = n1) := by show _ = _; rw [← hm1, List.length_append, hl0, ← hn1]; rfl
  have HT1 : Hid (m1.getD len0 noText = x) := by show _ = _; rw [← hm1, ← hl0]; exact Bx.at_last
  have HW1 : Hid (Bx.without m1 len0 = m0) := by show _ = _; rw [← hm1, ← hl0]; exact Bx.without_last
  have HP : Hid (Bx.put m0 (m0.getD k noText) = m1) := by show _ = _; rw [Bx.put_room (by omega), hx, hm1]
  have HW2 : Hid (Bx.without m0 k = m2) := hm2
  have HL2 : Hid (m2.length = n2) := by show _ = _; rw [← hm2, Bx.without_len (by omega), hl0, ← hn2]
  have H1 : Hid (len0 + 1 = n1) := hn1
  have H2 : Hid (len0 - 1 = n2) := hn2
  have e0 : (x.toList == x.toList) = true := by simp
  have e1 : ((n1 : Int) == (len0 : Int) + 1) = true := by rw [beq_iff_eq]; omega
  have e2 : ((n2 : Int) == (len0 : Int) - 1) = true := by rw [beq_iff_eq]; omega
  have hlt : len0 < n1 := by omega
  have hle1 : n1 ≤ 200 := by omega
  have hle2 : n2 ≤ 200 := by omega
  have hkn : (k : Int) < (len0 : Int) := by omega
  have hk0 : ¬ (len0 : Int) ≤ (k : Int) := by omega
  obtain ⟨b9, o9, rfl, hb9, hcell⟩ := (Texts.of_rep w0).at hk
  rw [hx] at hcell
  clear hx hm1 hm2 hn1 hn2 hl0 w0 hneg hbig
  go_enter Try.func6, Try.ntmps6
  go_wp2_with fail
  refine (twice_to _ len0 cap0 m0 k w (Shape.any hA) (by omega) hk _ rfl m1 HP.out n1 HL1.out).mono ?_
  rintro e u1 ⟨hb1, b1, c1, rfl, hr1⟩
  go_wp2_with fail
  refine (take_to b1 n1 c1 m1 len0 u1 hr1 (by omega) hlt _ rfl len0 (by have := H1.out; omega) x HT1.out m0 HW1.out).mono ?_
  rintro e u2 ⟨hb2, b2, c2, rfl, hr2⟩
  have hB2 := bel_then hb1 hb2
  go_wp2_with fail
  refine (take_to _ len0 cap0 m0 k u2 (Shape.any (Shape.now hA hB2)) (by omega) hk _ rfl n2 H2.out x HX.out m2 HW2.out).mono ?_
  rintro e u3 ⟨hb3, b3, c3, rfl, hr3⟩
  have hB3 := bel_then hB2 hb3
  have hr2' := Shape.below hr2 hb3
  have hc3 := (hB3.cell hb9).trans hcell
  go_wp2_with fail
  refine (same_yes b2 len0 c2 m0 _ len0 cap0 u3 hr2' (Shape.any (Shape.now hA hB3)) (by omega)).mono ?_
  rintro e u4 ⟨rfl, hb4⟩
  have hB4 := bel_then hB3 hb4
  have hr3' := Shape.below hr3 hb4
  go_wp2_with fail
  refine (rwithout _ len0 cap0 m0 k k u4 (Shape.any (Shape.now hA hB4)) (by omega) (fun j _ => by omega)).mono ?_
  rw [HW2.out, HL2.out]
  rintro e u5 ⟨hb5, b5, c5, rfl, hr5⟩
  have hB5 := bel_then hB4 hb5
  have hr3'' := Shape.below hr3' hb5
  go_wp2_with fail
  refine (same_yes b3 n2 c3 m2 b5 n2 c5 u5 hr3'' hr5 (by omega)).mono ?_
  rintro e u6 ⟨rfl, hb6⟩
  have hB6 := bel_then hB5 hb6
  clear hr1 hr2 hr2' hr3 hr3' hr3'' hr5
  go_wp2_with fail
  refine (bawake _).mono ?_
  rintro e u7 ⟨rfl, hb7⟩
  have hB7 := bel_then hB6 hb7
  go_wp2
  go_ret
  exact ⟨rfl, hB7⟩

/- From the walk to the row. -/
set_option maxRecDepth 100000 in
theorem lifted (os : Os) (started : os.Started) (H : Type) (enc : TypeId × Value → H) :
    ReturnsInHanded {} Try.checked os 6 .any (Rows.bagSameSpec.pre6 enc Try.prog Try.f6 Rows.bagSameRow.domain false) (Rows.bagSameSpec.post enc Try.prog Try.f6 false true false false) := by
  refine returnsInHanded_of_change (C := Try.checked) own started (by kernel_rfl) Try.func6
    (ChangeSpec.witness6 (enc := enc) (C := Try.checked) false ⟨#[], #[.slice none 0 0, .int .i64 0], []⟩ 8 (by kernel_rfl) (by kernel_rfl) (by kernel_rfl) (by kernel_rfl)) ?_
  intro W base args ds gs before hval0 hW hcnd _
  have hval : ∀ (j : Nat) t v, Try.f6.params[j]? = some t → args[j]? = some v → Value.okWide Try.prog W .any base t v := hval0
  have hW' := hW
  obtain ⟨p, q, hA0, hV, rfl, hfz, hnd⟩ := hW
  have hA : DataW.TrodAll enc Try.prog W 0 (fun _ => true) true Try.f6.params.toList args.toList ds p := hA0
  rw [Try.params6] at hA hval
  obtain ⟨v0, vs0, d0, ds0, p0, q0, hargs, rfl, rfl, h0, r0⟩ := trodAll_cons hA
  obtain ⟨v1, vs1, d1, ds1, p1, q1, rfl, rfl, rfl, h1, r1⟩ := trodAll_cons r0
  obtain ⟨rfl, rfl, rfl⟩ := trodAll_nil r1
  obtain rfl : args = #[v0, v1] := by cases args; simp_all
  obtain ⟨rfl, rfl⟩ := trodVars_none hV
  obtain ⟨a0, len0, cap0, rfl⟩ := okWide_slice Try.underlying22 (hval 0 22 v0 rfl rfl)
  have k0 := h0
  have lt0 : ∀ x ∈ p0, x.block < W.heap.size := by obtain ⟨m, hm⟩ := k0; exact DataW.trod_lt m _ _ _ hm
  obtain ⟨m0, w0, f0⟩ : ∃ y, (sliceS strS).rep W everywhere [.slice a0 len0 cap0] y ∧ (∀ x0 ∈ y, ByteArray.size x0 ≤ maxLen) := by
    obtain ⟨fuel, hf⟩ := h0
    exact (opens_slice (A := strS) Try.underlying22 (show Try.prog.cellsOf 9 = 1 by kernel_rfl) (by exact Nat.succ_pos _) (opens_string Try.underlying9)) H enc W _ _ _ fuel _ _ hf
  obtain ⟨a1, rfl, rfl, rfl, w1⟩ := open_int Try.underlying3 (hval 1 3 v1 rfl rfl) h1
  clear hA0 hval0
  refine (walk a0 len0 cap0 m0 a1 W w0 f0 w1).mono fun e W' ⟨he, bel⟩ => ?_
  subst he
  exact ⟨_, rfl, _, _, _, [], _, [], hW', trodAll_mk1 (shut_bool Try.underlying4 _), (trodAll_cons_mk (Below.trod laidOut (by kernel_rfl) (of_decide_eq_true (by kernel_rfl)) k0 bel lt0) (trodAll_cons_mk (shut_int Try.underlying3 w1) trodAll_mk0)), rfl, bel.frame _, fun h => by cases h⟩

theorem over : Rows.bagSameRow.holds Try.pinned (OpenSpec.ofChange Rows.bagSameSpec) :=
  OpenClaim.holds_of_wide 6 Try.f6 rfl rfl rfl rfl rfl rfl rfl ⟨rfl, rfl, rfl, rfl, rfl⟩ rfl rfl rfl rfl rfl (by kernel_rfl) Try.func6 (by kernel_rfl)
    (of_decide_eq_true (by kernel_rfl)) (by unfold Func.isWrapper; first | (rw [if_pos (by decide +kernel)]; kernel_rfl) | (rw [if_neg (by decide +kernel)]; exact ⟨rfl, rfl⟩))
    (fun os started H enc _ => lifted os started H enc)

end Go.Proofs.Ytkpbkknneebdmaa.bagSame

namespace Go.Proofs.Ytkpbkknneebdmaa
theorem bagSame_holds : Rows.BagSameSaid := bagSame.over
end Go.Proofs.Ytkpbkknneebdmaa
