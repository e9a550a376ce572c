/- CrcTwo holds: of a string of 2 to 200 bytes crc.Sum turns when two bytes side by side, or one of them, are turned, whichever they are. -/
import Derived.Test.YtlngapiajeogpaaRows
import Derived.Test.YtlngapiajeogpaaCrcB
import Derived.WalkKit
import Derived.ProofKit
import Derived.OpenShut
import Derived.ShutString
import Derived.ChangeOld
import Derived.Below
namespace Go.Proofs.Ytlngapiajeogpaa.crcTwo
open Go.ChangeShapes Go.WideShapes Go.ChangeAt Go.RowKit
open Go.ChangeMaps (open_string shut_string)
set_option linter.unusedVariables false

theorem own : ownKnob Try.prog.godebug = none := by kernel_rfl
theorem laidOut : laidOutB Try.prog = true := by kernel_rfl

/- The walk: the call returns true, and nothing that was there is written. -/
theorem walk (a0 : ByteArray) (a1 : Int) (a2 : Int) (a3 : Int) (w : World) (w0 : a0.size ≤ maxLen) (w1 : (Lit.int .u16 a1).wf = true) (w2 : (Lit.int .u8 a2).wf = true) (w3 : (Lit.int .u8 a3).wf = true) :
    Calls Try.prog 5 #[.string a0, .int .u16 a1, .int .u8 a2, .int .u8 a3] w fun e w' => e = .returned (.bool true) ∧ Below w.heap.size w w' := by
  have b1 := bounds_u16 w1
  have b2 := bounds_u8 w2
  have b3 := bounds_u8 w3
  clear w1 w2 w3
  by_cases h2 : a0.size < 2
  · have hi : (a0.size : Int) < 2 := by omega
    go_enter Try.func5, Try.ntmps5
    go_wp2_with (go_at_call 7; refine by_same (cawake _) ?_)
    go_ret
    exact ⟨rfl, Below.refl _ _⟩
  have hi2 : ¬ (a0.size : Int) < 2 := by omega
  by_cases hl : 200 < a0.size
  · have hi : (200 : Int) < (a0.size : Int) := by omega
    go_enter Try.func5, Try.ntmps5
    go_wp2_with (go_at_call 7; refine by_same (cawake _) ?_)
    go_ret
    exact ⟨rfl, Below.refl _ _⟩
  have hi : ¬ (200 : Int) < (a0.size : Int) := by omega
  by_cases hab : a2 = 0 ∧ a3 = 0
  · obtain ⟨rfl, rfl⟩ := hab
    go_enter Try.func5, Try.ntmps5
    go_wp2_with (go_at_call 7; refine by_same (cawake _) ?_)
    go_ret
    exact ⟨rfl, Below.refl _ _⟩
  obtain ⟨x, ex⟩ := u8_of b2.1 (by omega)
  obtain ⟨y, ey⟩ := u8_of b3.1 (by omega)
  have hxy : ¬ (x = 0 ∧ y = 0) := by
    rintro ⟨rfl, rfl⟩
    exact hab ⟨ex, ey⟩
  obtain ⟨cap, u, hconv, hb, hbytes⟩ := bytes_made w a0
  have hlen : a0.data.toList.length = a0.size := by rw [Array.length_toList]; rfl
  obtain ⟨j, hj, ej⟩ : ∃ j : Nat, j + 1 < a0.size ∧ a1.tmod ((a0.size : Int) - 1) = (j : Int) := by
    refine ⟨(a1.tmod ((a0.size : Int) - 1)).toNat, ?_, ?_⟩
    · have := Int.tmod_lt_of_pos a1 (b := (a0.size : Int) - 1) (by omega)
      omega
    · have := Int.tmod_nonneg (a := a1) ((a0.size : Int) - 1) (by omega)
      omega
  have hnz : (((a0.size : Int) - 1) == 0) = false := by rw [beq_eq_false_iff_ne]; omega
  have hji : (j : Int) < (a0.size : Int) := by omega
  have hji2 : (j : Int) + 1 < (a0.size : Int) := by omega
  have hjl : j < a0.data.toList.length := by rw [hlen]; omega
  have hjl2 : j + 1 < a0.data.toList.length := by rw [hlen]; exact hj
  obtain ⟨hc, hf⟩ := hbytes j hjl
  have e1 := u8_laid a0.data.toList[j] x
  have e2 := u8_laid a0.data.toList[j + 1] y
  rw [← ex] at e1
  rw [← ey] at e2
  have hst := hbytes.store hjl (a0.data.toList[j] ^^^ x)
  obtain ⟨hc2, hf2⟩ := hst (j + 1) (by rw [List.length_set]; exact hjl2)
  rw [List.getElem_set_ne (by omega)] at hc2
  have hst2 := hst.store (j := j + 1) (by rw [List.length_set]; exact hjl2) (a0.data.toList[j + 1] ^^^ y)
  have hback := hst2.back cap
  rw [List.length_set, List.length_set, hlen] at hback
  have hsum := Cx.sum_set2 hjl2 hxy
  have hB : Below w.heap.size w ((u.setCell ⟨w.heap.size, j, none⟩ (.int .u8 ((a0.data.toList[j] ^^^ x).toNat : Nat))).setCell ⟨w.heap.size, j + 1, none⟩ (.int .u8 ((a0.data.toList[j + 1] ^^^ y).toNat : Nat))) := below_set (below_set hb (Nat.le_refl _)) (Nat.le_refl _)
  have ha0 : Fits a0 := ⟨w0⟩
  have hz : Fits ⟨((a0.data.toList.set j (a0.data.toList[j] ^^^ x)).set (j + 1) (a0.data.toList[j + 1] ^^^ y)).toArray⟩ := ⟨by show (((a0.data.toList.set j _).set _ _).toArray).size ≤ _; simp; exact w0⟩
  have hc3 : (((crc ⟨((a0.data.toList.set j (a0.data.toList[j] ^^^ x)).set (j + 1) (a0.data.toList[j + 1] ^^^ y)).toArray⟩ : Nat) : Int) != ((crc a0 : Nat) : Int)) = true := by
    have : crc ⟨((a0.data.toList.set j (a0.data.toList[j] ^^^ x)).set (j + 1) (a0.data.toList[j + 1] ^^^ y)).toArray⟩ ≠ crc a0 := hsum
    simp; exact fun e => this (by exact_mod_cast e)
  clear hst hst2 hsum hbytes hb w0
  generalize ((a0.data.toList.set j (a0.data.toList[j] ^^^ x)).set (j + 1) (a0.data.toList[j + 1] ^^^ y)).toArray = str at *
  generalize (a0.data.toList[j] ^^^ x).toNat = p1 at *
  generalize (a0.data.toList[j + 1] ^^^ y).toNat = p2 at *
  generalize (a0.data.toList[j]).toNat = q1 at *
  generalize (a0.data.toList[j + 1]).toNat = q2 at *
  clear ex ey hxy hlen hjl hjl2
  have HF : Hid (∀ s, Fits s → ∀ w, Calls Try.prog 8 #[.string s] w fun e w' => e = .returned (.int .i64 (crc s : Nat)) ∧ w' = w) := fsum
  generalize crc = f at *
  by_cases hx0 : a2 = 0
  · subst hx0
    have hy0 : (a3 == 0) = false := by rw [beq_eq_false_iff_ne]; omega
    go_enter Try.func5, Try.ntmps5
    go_wp2_with (first
      | (go_at_call 8; refine by_same (HF.out _ (by assumption) _) ?_)
      | (go_at_call 7; refine by_same (cawake _) ?_)
      | fail)
    go_ret
    exact ⟨rfl, hB⟩
  · have hx1 : (a2 == 0) = false := by rw [beq_eq_false_iff_ne]; omega
    go_enter Try.func5, Try.ntmps5
    go_wp2_with (first
      | (go_at_call 8; refine by_same (HF.out _ (by assumption) _) ?_)
      | (go_at_call 7; refine by_same (cawake _) ?_)
      | fail)
    go_ret
    exact ⟨rfl, hB⟩

/- From the walk to the row. -/
set_option maxRecDepth 100000 in
theorem lifted (os : Os) (started : os.Started) (H : Type) (enc : TypeId × Value → H) :
    ReturnsInHanded {} Try.checked os 5 .any (Rows.crcTwoSpec.pre6 enc Try.prog Try.f5 Rows.crcTwoRow.domain false) (Rows.crcTwoSpec.post enc Try.prog Try.f5 false true false false) := by
  refine returnsInHanded_of_change (C := Try.checked) own started (by kernel_rfl) Try.func5
    (ChangeSpec.witness6 (enc := enc) (C := Try.checked) false ⟨#[], #[.string ByteArray.empty, .int .u16 0, .int .u8 0, .int .u8 0], []⟩ 8 (by kernel_rfl) (by kernel_rfl) (by kernel_rfl) (by kernel_rfl)) ?_
  intro W base args ds gs before hval0 hW hcnd _
  have hval : ∀ (j : Nat) t v, Try.f5.params[j]? = some t → args[j]? = some v → Value.okWide Try.prog W .any base t v := hval0
  have hW' := hW
  obtain ⟨p, q, hA0, hV, rfl, hfz, hnd⟩ := hW
  have hA : DataW.TrodAll enc Try.prog W 0 (fun _ => true) true Try.f5.params.toList args.toList ds p := hA0
  rw [Try.params5] at hA hval
  obtain ⟨v0, vs0, d0, ds0, p0, q0, hargs, rfl, rfl, h0, r0⟩ := trodAll_cons hA
  obtain ⟨v1, vs1, d1, ds1, p1, q1, rfl, rfl, rfl, h1, r1⟩ := trodAll_cons r0
  obtain ⟨v2, vs2, d2, ds2, p2, q2, rfl, rfl, rfl, h2, r2⟩ := trodAll_cons r1
  obtain ⟨v3, vs3, d3, ds3, p3, q3, rfl, rfl, rfl, h3, r3⟩ := trodAll_cons r2
  obtain ⟨rfl, rfl, rfl⟩ := trodAll_nil r3
  obtain rfl : args = #[v0, v1, v2, v3] := by cases args; simp_all
  obtain ⟨rfl, rfl⟩ := trodVars_none hV
  obtain ⟨a0, rfl, rfl, rfl, w0⟩ := open_string Try.underlying9 (hval 0 9 v0 rfl rfl) h0
  obtain ⟨a1, rfl, rfl, rfl, w1⟩ := open_int Try.underlying25 (hval 1 25 v1 rfl rfl) h1
  obtain ⟨a2, rfl, rfl, rfl, w2⟩ := open_int Try.underlying5 (hval 2 5 v2 rfl rfl) h2
  obtain ⟨a3, rfl, rfl, rfl, w3⟩ := open_int Try.underlying5 (hval 3 5 v3 rfl rfl) h3
  clear hA0 hval0
  refine (walk a0 a1 a2 a3 W w0 w1 w2 w3).mono fun e W' ⟨he, bel⟩ => ?_
  subst he
  exact ⟨_, rfl, _, _, _, [], _, [], hW', trodAll_mk1 (shut_bool Try.underlying4 _), (trodAll_cons_mk (shut_string Try.underlying9 w0) (trodAll_cons_mk (shut_int Try.underlying25 w1) (trodAll_cons_mk (shut_int Try.underlying5 w2) (trodAll_cons_mk (shut_int Try.underlying5 w3) trodAll_mk0)))), rfl, bel.frame _, fun h => by cases h⟩

theorem over : Rows.crcTwoRow.holds Try.pinned (OpenSpec.ofChange Rows.crcTwoSpec) :=
  OpenClaim.holds_of_wide 5 Try.f5 rfl rfl rfl rfl rfl rfl rfl ⟨rfl, rfl, rfl, rfl, rfl⟩ rfl rfl rfl rfl rfl (by kernel_rfl) Try.func5 (by kernel_rfl)
    (of_decide_eq_true (by kernel_rfl)) (by unfold Func.isWrapper; first | (rw [if_pos (by decide +kernel)]; kernel_rfl) | (rw [if_neg (by decide +kernel)]; exact ⟨rfl, rfl⟩))
    (fun os started H enc _ => lifted os started H enc)

end Go.Proofs.Ytlngapiajeogpaa.crcTwo

namespace Go.Proofs.Ytlngapiajeogpaa
theorem crcTwo_holds : Rows.CrcTwoSaid := crcTwo.over
end Go.Proofs.Ytlngapiajeogpaa
