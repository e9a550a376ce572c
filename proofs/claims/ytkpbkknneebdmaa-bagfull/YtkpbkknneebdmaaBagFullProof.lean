/- A bag that has 200 texts takes no text more, put or doubled, and with one taken out it takes one: for every text and every number, with no condition, the call returns true. -/
import Derived.Test.YtkpbkknneebdmaaRows
import Derived.Test.YtkpbkknneebdmaaBagD
import Derived.WalkKit
import Derived.ProofKit
import Derived.OpenShut
import Derived.ShutString
import Derived.ChangeOld
import Derived.Below
namespace Go.Proofs.Ytkpbkknneebdmaa.bagFull
open Go.ChangeShapes Go.WideShapes Go.ChangeAt Go.RowKit
open Go.ChangeMaps (open_string shut_string)
set_option linter.unusedVariables false

theorem own : ownKnob Try.prog.godebug = none := by kernel_rfl
theorem laidOut : laidOutB Try.prog = true := by kernel_rfl

/- The walk: the call returns true, and nothing that was there is written. -/
theorem walk (a0 : ByteArray) (a1 : Int) (w : World) (w0 : a0.size ≤ maxLen) (w1 : (Lit.int .u8 a1).wf = true) :
    Calls Try.prog 7 #[.string a0, .int .u8 a1] w fun e w' => e = .returned (.bool true) ∧ Below w.heap.size w w' := by
  have hb8 := bounds_u8 w1
  clear w1 w0
  by_cases hl : 20 < a0.size
  · have hi : (20 : Int) < (a0.size : Int) := by omega
    go_enter Try.func7, Try.ntmps7
    go_wp2_with fail
    refine (bawake _).mono ?_
    rintro e u1 ⟨rfl, hb1⟩
    go_wp2
    go_ret
    exact ⟨rfl, hb1⟩
  have hi : ¬ (20 : Int) < (a0.size : Int) := by omega
  obtain ⟨k, hk⟩ : ∃ k : Nat, (k : Int) = a1 % 200 := ⟨(a1 % 200).toNat, by omega⟩
  obtain ⟨k2, hk2⟩ : ∃ k2 : Nat, (k2 : Int) = (k : Int) % 199 := ⟨((k : Int) % 199).toNat, by omega⟩
  have hk200 : k < 200 := by omega
  have hk199 : k2 < 199 := by omega
  have d1 : a1.tmod 200 = (k : Int) := by rw [hk]; exact Int.tmod_eq_emod_of_nonneg (by omega)
  have d2 : (k : Int).tmod 199 = (k2 : Int) := by rw [hk2]; exact Int.tmod_eq_emod_of_nonneg (by omega)
  have d3 : IntKind.i64.wrap a1 = a1 := by rw [IntKind.wrap_i64]; omega
  obtain ⟨F, hF⟩ : ∃ F : Nat → List ByteArray, ∀ n, F n = List.replicate n a0 := ⟨_, fun _ => rfl⟩
  have HS : Hid (∀ n, n < 200 → F n ++ [a0] = F (n + 1)) := fun n hn => by rw [hF, hF, ← List.replicate_succ']
  have HF : Hid (∀ n j, j < n → (F n).getD j noText = a0) := fun n j hj => by
    rw [hF, List.getD_eq_getElem?_getD, List.getElem?_replicate, if_pos hj]; rfl
  have HL : Hid (∀ n, (F n).length = n) := fun n => by rw [hF, List.length_replicate]
  have HW : Hid (Bx.without (F 200) k = F 199) := by
    show _ = _
    unfold Bx.without
    rw [hF, hF, List.take_replicate, List.drop_replicate, List.replicate_append_replicate]
    congr 1
    omega
  have HZ : Hid (F 0 = []) := hF 0
  have e0 : (a0.toList == a0.toList) = true := by simp
  clear hF hk hk2
  go_enter Try.func7, Try.ntmps7
  go_wp2
  go_loopw [5, 14] (fun v i wr => ∃ j n : Nat, ∃ a c, j ≤ 205 ∧ i = .int .i64 j ∧ n = min j 200 ∧ v = .slice a n c ∧ bagS.rep wr everywhere [.slice a n c] (F n) ∧ Below w.heap.size w wr) (fun _ i _ => 205 - (intOf i).toNat)
  case atStart => exact ⟨0, 0, none, 0, by omega, rfl, rfl, rfl, by rw [HZ.out]; exact rep_none _ _ _, Below.refl _ _⟩
  case round =>
    obtain ⟨j, n, a, c, hj, rfl, hn, rfl, hr, hbel⟩ := hrel
    have HM : Hid (n = min j 200) := hn
    clear hn
    by_cases hlt : j < 205
    · have hli : (j : Int) < 205 := by omega
      by_cases h200 : n < 200
      · go_wp2_with fail
        refine (put_to a n c (F n) a0 wr hr h200 (n + 1) rfl (F (n + 1)) (HS.out n h200)).mono ?_
        rintro e u1 ⟨hb1, b1, c1, rfl, hr1⟩
        have hB1 := bel_then hbel hb1
        have HN : Hid (n + 1 = min (j + 1) 200) := by show _ = _; have := HM.out; omega
        go_wp2
        go_roundw
        case rel => exact ⟨j + 1, n + 1, b1, c1, by omega, by go_num, HN.out, rfl, hr1, hB1⟩
        case measure => simp [intOf]; omega
      · go_wp2_with fail
        refine (bput_full a n c (F n) a0 wr hr (by have := HM.out; omega) (by omega)).mono ?_
        rintro e u1 ⟨hb1, b1, c1, rfl, hr1⟩
        have hB1 := bel_then hbel hb1
        have HN : Hid (n = min (j + 1) 200) := by show _ = _; have := HM.out; omega
        go_wp2
        go_roundw
        case rel => exact ⟨j + 1, n, b1, c1, by omega, by go_num, HN.out, rfl, hr1, hB1⟩
        case measure => simp [intOf]; omega
    · have hn2 : n = 200 := by have := HM.out; omega
      have hli : ¬ (j : Int) < 205 := by omega
      subst hn2
      go_wp2_with fail
      refine (twice_to a 200 c (F 200) k wr hr (by omega) hk200 _ rfl (F 200) (Bx.put_full (by rw [HL.out]; omega)) 200 (HL.out 200)).mono ?_
      rintro e u1 ⟨hb1, b1, c1, rfl, hr1⟩
      have hB1 := bel_then hbel hb1
      have hr' := Shape.below hr hb1
      clear hr1
      go_wp2_with fail
      refine (take_to a 200 c (F 200) k u1 hr' (by omega) hk200 _ rfl 199 rfl a0 (HF.out 200 k hk200) (F 199) HW.out).mono ?_
      rintro e u2 ⟨hb2, b2, c2, rfl, hr2⟩
      have hB2 := bel_then hB1 hb2
      clear hr hr'
      go_wp2_with fail
      refine (put_to b2 199 c2 (F 199) a0 u2 hr2 (by omega) 200 rfl (F 200) (HS.out 199 (by omega))).mono ?_
      rintro e u3 ⟨hb3, b3, c3, rfl, hr3⟩
      have hB3 := bel_then hB2 hb3
      have hr2' := Shape.below hr2 hb3
      clear hr3
      go_wp2_with fail
      refine (twice_to b2 199 c2 (F 199) k2 u3 hr2' (by omega) hk199 _ rfl (F 200) (by rw [Bx.put_room (by rw [HL.out]; omega), HF.out 199 k2 hk199]; exact HS.out 199 (by omega)) 200 (HL.out 200)).mono ?_
      rintro e u4 ⟨hb4, b4, c4, rfl, hr4⟩
      have hB4 := bel_then hB3 hb4
      clear hr2 hr2' hr4
      go_wp2_with fail
      refine (bawake _).mono ?_
      rintro e u5 ⟨rfl, hb5⟩
      have hB5 := bel_then hB4 hb5
      go_wp2
      go_ret
      exact ⟨rfl, hB5⟩

/- From the walk to the row. -/
set_option maxRecDepth 100000 in
theorem lifted (os : Os) (started : os.Started) (H : Type) (enc : TypeId × Value → H) :
    ReturnsInHanded {} Try.checked os 7 .any (Rows.bagFullSpec.pre6 enc Try.prog Try.f7 Rows.bagFullRow.domain false) (Rows.bagFullSpec.post enc Try.prog Try.f7 false true false false) := by
  refine returnsInHanded_of_change (C := Try.checked) own started (by kernel_rfl) Try.func7
    (ChangeSpec.witness6 (enc := enc) (C := Try.checked) false ⟨#[], #[.string ByteArray.empty, .int .u8 0], []⟩ 8 (by kernel_rfl) (by kernel_rfl) (by kernel_rfl) (by kernel_rfl)) ?_
  intro W base args ds gs before hval0 hW hcnd _
  have hval : ∀ (j : Nat) t v, Try.f7.params[j]? = some t → args[j]? = some v → Value.okWide Try.prog W .any base t v := hval0
  have hW' := hW
  obtain ⟨p, q, hA0, hV, rfl, hfz, hnd⟩ := hW
  have hA : DataW.TrodAll enc Try.prog W 0 (fun _ => true) true Try.f7.params.toList args.toList ds p := hA0
  rw [Try.params7] at hA hval
  obtain ⟨v0, vs0, d0, ds0, p0, q0, hargs, rfl, rfl, h0, r0⟩ := trodAll_cons hA
  obtain ⟨v1, vs1, d1, ds1, p1, q1, rfl, rfl, rfl, h1, r1⟩ := trodAll_cons r0
  obtain ⟨rfl, rfl, rfl⟩ := trodAll_nil r1
  obtain rfl : args = #[v0, v1] := by cases args; simp_all
  obtain ⟨rfl, rfl⟩ := trodVars_none hV
  obtain ⟨a0, rfl, rfl, rfl, w0⟩ := open_string Try.underlying9 (hval 0 9 v0 rfl rfl) h0
  obtain ⟨a1, rfl, rfl, rfl, w1⟩ := open_int Try.underlying5 (hval 1 5 v1 rfl rfl) h1
  clear hA0 hval0
  refine (walk a0 a1 W w0 w1).mono fun e W' ⟨he, bel⟩ => ?_
  subst he
  exact ⟨_, rfl, _, _, _, [], _, [], hW', trodAll_mk1 (shut_bool Try.underlying4 _), (trodAll_cons_mk (shut_string Try.underlying9 w0) (trodAll_cons_mk (shut_int Try.underlying5 w1) trodAll_mk0)), rfl, bel.frame _, fun h => by cases h⟩

theorem over : Rows.bagFullRow.holds Try.pinned (OpenSpec.ofChange Rows.bagFullSpec) :=
  OpenClaim.holds_of_wide 7 Try.f7 rfl rfl rfl rfl rfl rfl rfl ⟨rfl, rfl, rfl, rfl, rfl⟩ rfl rfl rfl rfl rfl (by kernel_rfl) Try.func7 (by kernel_rfl)
    (of_decide_eq_true (by kernel_rfl)) (by unfold Func.isWrapper; first | (rw [if_pos (by decide +kernel)]; kernel_rfl) | (rw [if_neg (by decide +kernel)]; exact ⟨rfl, rfl⟩))
    (fun os started H enc _ => lifted os started H enc)

end Go.Proofs.Ytkpbkknneebdmaa.bagFull

namespace Go.Proofs.Ytkpbkknneebdmaa
theorem bagFull_holds : Rows.BagFullSaid := bagFull.over
end Go.Proofs.Ytkpbkknneebdmaa
