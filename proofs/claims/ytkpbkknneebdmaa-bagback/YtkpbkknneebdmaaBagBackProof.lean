/- What is put into a bag of at most 199 texts is taken out at its place, and the bag is as it was: for every bag and every text, with no condition, the call returns true. -/
import Derived.Test.YtkpbkknneebdmaaRows
import Derived.Test.YtkpbkknneebdmaaBagD
import Derived.WalkKit
import Derived.ProofKit
import Derived.OpenShut
import Derived.ShutString
import Derived.ChangeOld
import Derived.Below
namespace Go.Proofs.Ytkpbkknneebdmaa.bagBack
open Go.ChangeShapes Go.WideShapes Go.ChangeAt Go.RowKit
open Go.ChangeMaps (open_string shut_string)
set_option linter.unusedVariables false

theorem own : ownKnob Try.prog.godebug = none := by kernel_rfl
theorem laidOut : laidOutB Try.prog = true := by kernel_rfl

/- The walk: the call returns true, and nothing that was there is written. -/
theorem walk (a0 : Option Addr) (len0 cap0 : Nat) (m0 : List ByteArray) (a1 : ByteArray) (w : World) (w0 : (sliceS strS).rep w everywhere [.slice a0 len0 cap0] m0) (f0 : (∀ x0 ∈ m0, ByteArray.size x0 ≤ maxLen)) (w1 : a1.size ≤ maxLen) :
    Calls Try.prog 4 #[.slice a0 len0 cap0, .string a1] w fun e w' => e = .returned (.bool true) ∧ Below w.heap.size w w' := by
  clear f0 w1
  have hA := Shape.low w0
  have hl0 := (sliceS_len w0).1
  by_cases hl : 199 < len0
  · have hi : (199 : Int) < (len0 : Int) := by omega
    go_enter Try.func4, Try.ntmps4
    go_wp2_with fail
    refine (bawake _).mono ?_
    rintro e u1 ⟨rfl, hb1⟩
    go_wp2
    go_ret
    exact ⟨rfl, hb1⟩
  have hi : ¬ (199 : Int) < (len0 : Int) := by omega
  obtain ⟨n1, hn1⟩ : ∃ n1, len0 + 1 = n1 := ⟨_, rfl⟩
  obtain ⟨m1, hm1⟩ : ∃ m1, m0 ++ [a1] = m1 := ⟨_, rfl⟩
  have ml1 : m1.length = n1 := by rw [← hm1, List.length_append, hl0, ← hn1]; rfl
  have mt1 : m1.getD len0 noText = a1 := by rw [← hm1, ← hl0]; exact Bx.at_last
  have mw1 : Bx.without m1 len0 = m0 := by rw [← hm1, ← hl0]; exact Bx.without_last
  have HN : Hid (len0 + 1 = n1) := hn1
  have HM : Hid (m0 ++ [a1] = m1) := hm1
  have HL1 : Hid (m1.length = n1) := ml1
  have HT1 : Hid (m1.getD len0 noText = a1) := mt1
  have HW1 : Hid (Bx.without m1 len0 = m0) := mw1
  have e0 : (a1.toList == a1.toList) = true := by simp
  clear hm1 ml1 mt1 mw1 hl0 w0
  by_cases h2 : n1 = 200
  · have e1 : ((n1 : Int) == 200) = true := by rw [h2]; rfl
    have HP : Hid (Bx.put m1 (m1.getD len0 noText) = m1) := Bx.put_full (by have := HL1.out; omega)
    have H2 : Hid (n1 = 200) := h2
    have hb200 : n1 ≤ 300 := by omega
    have hlt : len0 < n1 := by omega
    clear h2 hn1
    go_enter Try.func4, Try.ntmps4
    go_wp2_with fail
    refine (put_to a0 len0 cap0 m0 a1 w (Shape.any hA) (by omega) n1 HN.out m1 HM.out).mono ?_
    rintro e u1 ⟨hb1, b1, c1, rfl, hr1⟩
    go_wp2_with fail
    refine (take_to b1 n1 c1 m1 len0 u1 hr1 (by omega) hlt _ rfl len0 (by have := HN.out; omega) a1 HT1.out m0 HW1.out).mono ?_
    rintro e u2 ⟨hb2, b2, c2, rfl, hr2⟩
    have hr1' := Shape.below hr1 hb2
    have hB2 := bel_then hb1 hb2
    go_wp2_with fail
    refine (twice_to b1 n1 c1 m1 len0 u2 hr1' (by omega) hlt _ rfl m1 HP.out n1 HL1.out).mono ?_
    rintro e u3 ⟨hb3, b3, c3, rfl, hr3⟩
    have hr2' := Shape.below hr2 hb3
    have hB3 := bel_then hB2 hb3
    go_wp2_with fail
    refine (btake_out b3 n1 c3 m1 n1 u3 hr3 (by omega) (by omega)).mono ?_
    rintro e u4 ⟨hb4, b4, c4, rfl, hr4⟩
    have hr2'' := Shape.below hr2' hb4
    have hB4 := bel_then hB3 hb4
    go_wp2_with fail
    refine (same_yes b2 len0 c2 m0 a0 len0 cap0 u4 hr2'' (Shape.any (Shape.now hA hB4)) (by omega)).mono ?_
    rintro e u5 ⟨rfl, hb5⟩
    have hB5 := bel_then hB4 hb5
    clear hr1 hr1' hr2 hr2' hr2'' hr3 hr4
    go_wp2_with fail
    refine (bawake _).mono ?_
    rintro e u6 ⟨rfl, hb6⟩
    have hB6 := bel_then hB5 hb6
    go_wp2
    go_ret
    exact ⟨rfl, hB6⟩
  · obtain ⟨n2, hn2⟩ : ∃ n2, n1 + 1 = n2 := ⟨_, rfl⟩
    obtain ⟨m2, hm2⟩ : ∃ m2, m1 ++ [a1] = m2 := ⟨_, rfl⟩
    have HP : Hid (Bx.put m1 (m1.getD len0 noText) = m2) := by show _ = _; rw [Bx.put_room (by have := HL1.out; omega), HT1.out, hm2]
    have HL2 : Hid (m2.length = n2) := by show _ = _; rw [← hm2, List.length_append, HL1.out]; exact hn2
    have HT2 : Hid (m2.getD n1 noText = a1) := by show _ = _; rw [← hm2, ← HL1.out]; exact Bx.at_last
    have hb200 : n1 < 200 := by omega
    have hlt : len0 < n1 := by omega
    have hlt2 : n1 < n2 := by omega
    have hle2 : n2 ≤ 200 := by omega
    clear h2 hn1 hn2 hm2
    go_enter Try.func4, Try.ntmps4
    go_wp2_with fail
    refine (put_to a0 len0 cap0 m0 a1 w (Shape.any hA) (by omega) n1 HN.out m1 HM.out).mono ?_
    rintro e u1 ⟨hb1, b1, c1, rfl, hr1⟩
    go_wp2_with fail
    refine (take_to b1 n1 c1 m1 len0 u1 hr1 (by omega) hlt _ rfl len0 (by have := HN.out; omega) a1 HT1.out m0 HW1.out).mono ?_
    rintro e u2 ⟨hb2, b2, c2, rfl, hr2⟩
    have hr1' := Shape.below hr1 hb2
    have hB2 := bel_then hb1 hb2
    go_wp2_with fail
    refine (twice_to b1 n1 c1 m1 len0 u2 hr1' (by omega) hlt _ rfl m2 HP.out n2 HL2.out).mono ?_
    rintro e u3 ⟨hb3, b3, c3, rfl, hr3⟩
    have hr2' := Shape.below hr2 hb3
    have hB3 := bel_then hB2 hb3
    go_wp2_with fail
    refine (take_to b3 n2 c3 m2 n1 u3 hr3 (by omega) hlt2 _ rfl _ rfl a1 HT2.out _ rfl).mono ?_
    rintro e u4 ⟨hb4, b4, c4, rfl, hr4⟩
    have hr2'' := Shape.below hr2' hb4
    have hB4 := bel_then hB3 hb4
    go_wp2_with fail
    refine (same_yes b2 len0 c2 m0 a0 len0 cap0 u4 hr2'' (Shape.any (Shape.now hA hB4)) (by omega)).mono ?_
    rintro e u5 ⟨rfl, hb5⟩
    have hB5 := bel_then hB4 hb5
    clear hr1 hr1' hr2 hr2' hr2'' hr3 hr4
    go_wp2_with fail
    refine (bawake _).mono ?_
    rintro e u6 ⟨rfl, hb6⟩
    have hB6 := bel_then hB5 hb6
    go_wp2
    go_ret
    exact ⟨rfl, hB6⟩

/- From the walk to the row. -/
set_option maxRecDepth 100000 in
theorem lifted (os : Os) (started : os.Started) (H : Type) (enc : TypeId × Value → H) :
    ReturnsInHanded {} Try.checked os 4 .any (Rows.bagBackSpec.pre6 enc Try.prog Try.f4 Rows.bagBackRow.domain false) (Rows.bagBackSpec.post enc Try.prog Try.f4 false true false false) := by
  refine returnsInHanded_of_change (C := Try.checked) own started (by kernel_rfl) Try.func4
    (ChangeSpec.witness6 (enc := enc) (C := Try.checked) false ⟨#[], #[.slice none 0 0, .string ByteArray.empty], []⟩ 8 (by kernel_rfl) (by kernel_rfl) (by kernel_rfl) (by kernel_rfl)) ?_
  intro W base args ds gs before hval0 hW hcnd _
  have hval : ∀ (j : Nat) t v, Try.f4.params[j]? = some t → args[j]? = some v → Value.okWide Try.prog W .any base t v := hval0
  have hW' := hW
  obtain ⟨p, q, hA0, hV, rfl, hfz, hnd⟩ := hW
  have hA : DataW.TrodAll enc Try.prog W 0 (fun _ => true) true Try.f4.params.toList args.toList ds p := hA0
  rw [Try.params4] at hA hval
  obtain ⟨v0, vs0, d0, ds0, p0, q0, hargs, rfl, rfl, h0, r0⟩ := trodAll_cons hA
  obtain ⟨v1, vs1, d1, ds1, p1, q1, rfl, rfl, rfl, h1, r1⟩ := trodAll_cons r0
  obtain ⟨rfl, rfl, rfl⟩ := trodAll_nil r1
  obtain rfl : args = #[v0, v1] := by cases args; simp_all
  obtain ⟨rfl, rfl⟩ := trodVars_none hV
  obtain ⟨a0, len0, cap0, rfl⟩ := okWide_slice Try.underlying22 (hval 0 22 v0 rfl rfl)
  have k0 := h0
  have lt0 : ∀ x ∈ p0, x.block < W.heap.size := by obtain ⟨m, hm⟩ := k0; exact DataW.trod_lt m _ _ _ hm
  obtain ⟨m0, w0, f0⟩ : ∃ y, (sliceS strS).rep W everywhere [.slice a0 len0 cap0] y ∧ (∀ x0 ∈ y, ByteArray.size x0 ≤ maxLen) := by
    obtain ⟨fuel, hf⟩ := h0
    exact (opens_slice (A := strS) Try.underlying22 (show Try.prog.cellsOf 9 = 1 by kernel_rfl) (by exact Nat.succ_pos _) (opens_string Try.underlying9)) H enc W _ _ _ fuel _ _ hf
  obtain ⟨a1, rfl, rfl, rfl, w1⟩ := open_string Try.underlying9 (hval 1 9 v1 rfl rfl) h1
  clear hA0 hval0
  refine (walk a0 len0 cap0 m0 a1 W w0 f0 w1).mono fun e W' ⟨he, bel⟩ => ?_
  subst he
  exact ⟨_, rfl, _, _, _, [], _, [], hW', trodAll_mk1 (shut_bool Try.underlying4 _), (trodAll_cons_mk (Below.trod laidOut (by kernel_rfl) (of_decide_eq_true (by kernel_rfl)) k0 bel lt0) (trodAll_cons_mk (shut_string Try.underlying9 w1) trodAll_mk0)), rfl, bel.frame _, fun h => by cases h⟩

theorem over : Rows.bagBackRow.holds Try.pinned (OpenSpec.ofChange Rows.bagBackSpec) :=
  OpenClaim.holds_of_wide 4 Try.f4 rfl rfl rfl rfl rfl rfl rfl ⟨rfl, rfl, rfl, rfl, rfl⟩ rfl rfl rfl rfl rfl (by kernel_rfl) Try.func4 (by kernel_rfl)
    (of_decide_eq_true (by kernel_rfl)) (by unfold Func.isWrapper; first | (rw [if_pos (by decide +kernel)]; kernel_rfl) | (rw [if_neg (by decide +kernel)]; exact ⟨rfl, rfl⟩))
    (fun os started H enc _ => lifted os started H enc)

end Go.Proofs.Ytkpbkknneebdmaa.bagBack

namespace Go.Proofs.Ytkpbkknneebdmaa
theorem bagBack_holds : Rows.BagBackSaid := bagBack.over
end Go.Proofs.Ytkpbkknneebdmaa
