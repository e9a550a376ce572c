/- CrcBit holds: of a string of at most 200 bytes, not empty, crc.Sum turns when one bit is turned, whichever it is, and is not below 0 and below 2^32. -/
import Derived.Test.YtlngapiajeogpaaRows
import Derived.Test.YtlngapiajeogpaaCrcB
import Derived.WalkKit
import Derived.ProofKit
import Derived.OpenShut
import Derived.ShutString
import Derived.ChangeOld
import Derived.Below
namespace Go.Proofs.Ytlngapiajeogpaa.crcBit
open Go.ChangeShapes Go.WideShapes Go.ChangeAt Go.RowKit
open Go.ChangeMaps (open_string shut_string)
set_option linter.unusedVariables false

theorem own : ownKnob Try.prog.godebug = none := by kernel_rfl
theorem laidOut : laidOutB Try.prog = true := by kernel_rfl

/- The walk: the call returns true, and nothing that was there is written. -/
theorem walk (a0 : ByteArray) (a1 : Int) (a2 : Int) (w : World) (w0 : a0.size ≤ maxLen) (w1 : (Lit.int .u16 a1).wf = true) (w2 : (Lit.int .u8 a2).wf = true) :
    Calls Try.prog 4 #[.string a0, .int .u16 a1, .int .u8 a2] w fun e w' => e = .returned (.bool true) ∧ Below w.heap.size w w' := by
  have b1 := bounds_u16 w1
  have b2 := bounds_u8 w2
  clear w1 w2
  by_cases h0 : a0.size = 0
  · have hs : (a0.toList == ([] : List UInt8)) = true := by
      have : a0.toList.length = 0 := by rw [ByteArray.toList_eq, Array.length_toList]; exact h0
      rw [List.eq_nil_of_length_eq_zero this]; rfl
    go_enter Try.func4, Try.ntmps4
    go_wp2_with (go_at_call 7; refine by_same (cawake _) ?_)
    go_ret
    exact ⟨rfl, Below.refl _ _⟩
  have hs : (a0.toList == ([] : List UInt8)) = false := by
    have : a0.toList.length ≠ 0 := by rw [ByteArray.toList_eq, Array.length_toList]; exact h0
    cases hq : a0.toList with
    | nil => rw [hq] at this; exact absurd rfl this
    | cons x l => rfl
  by_cases hl : 200 < a0.size
  · have hi : (200 : Int) < (a0.size : Int) := by omega
    go_enter Try.func4, Try.ntmps4
    go_wp2_with (go_at_call 7; refine by_same (cawake _) ?_)
    go_ret
    exact ⟨rfl, Below.refl _ _⟩
  have hi : ¬ (200 : Int) < (a0.size : Int) := by omega
  obtain ⟨cap, u, hconv, hb, hbytes⟩ := bytes_made w a0
  have hlen : a0.data.toList.length = a0.size := by rw [Array.length_toList]; rfl
  obtain ⟨j, hj, ej⟩ : ∃ j : Nat, j < a0.size ∧ a1.tmod (a0.size : Int) = (j : Int) := by
    refine ⟨(a1.tmod (a0.size : Int)).toNat, ?_, ?_⟩
    · have := Int.tmod_lt_of_pos a1 (b := (a0.size : Int)) (by omega)
      omega
    · have := Int.tmod_nonneg (a := a1) (a0.size : Int) (by omega)
      omega
  obtain ⟨t, ht, et⟩ : ∃ t : Nat, t < 8 ∧ a2 % 8 = (t : Int) := ⟨(a2 % 8).toNat, by omega, by omega⟩
  have hnz : ((a0.size : Int) == 0) = false := by rw [beq_eq_false_iff_ne]; omega
  have hji : (j : Int) < (a0.size : Int) := by omega
  have hjl : j < a0.data.toList.length := by rw [hlen]; exact hj
  obtain ⟨hc, hf⟩ := hbytes j hjl
  obtain ⟨M, em, hM⟩ : ∃ M : UInt8, ((2 : Int) ^ t % 256) = (M.toNat : Nat) ∧ M ≠ 0 := by
    have : ∀ t, t < 8 → ∃ M : UInt8, ((2 : Int) ^ t % 256) = (M.toNat : Nat) ∧ M ≠ 0 := by
      intro t ht
      refine ⟨UInt8.ofNat (2 ^ t), ?_⟩
      match t, ht with
      | 0, _ => decide
      | 1, _ => decide
      | 2, _ => decide
      | 3, _ => decide
      | 4, _ => decide
      | 5, _ => decide
      | 6, _ => decide
      | 7, _ => decide
    exact this t ht
  have ex := u8_laid a0.data.toList[j] M
  have hne : a0.data.toList[j] ≠ a0.data.toList[j] ^^^ M := by
    intro e
    apply hM
    have := congrArg UInt8.toNat e
    rw [UInt8.toNat_xor] at this
    apply UInt8.toNat_inj.1
    exact (Cx.xor_inj_left (c := (a0.data.toList[j]).toNat) (show _ ^^^ 0 = _ ^^^ _ by rw [Nat.xor_zero]; exact this)).symm
  have hst := hbytes.store hjl (a0.data.toList[j] ^^^ M)
  have hback := hst.back cap
  rw [List.length_set, hlen] at hback
  have hsum := Cx.sum_set hjl hne
  have hB : Below w.heap.size w (u.setCell ⟨w.heap.size, j, none⟩ (.int .u8 ((a0.data.toList[j] ^^^ M).toNat : Nat))) := below_set hb (Nat.le_refl _)
  have hc1 := crc_lt a0
  have ha0 : Fits a0 := ⟨w0⟩
  have hz : Fits ⟨(a0.data.toList.set j (a0.data.toList[j] ^^^ M)).toArray⟩ := ⟨by show (a0.data.toList.set j _).toArray.size ≤ _; simp; exact w0⟩
  have hc2 : (((crc ⟨(a0.data.toList.set j (a0.data.toList[j] ^^^ M)).toArray⟩ : Nat) : Int) != ((crc a0 : Nat) : Int)) = true := by
    have : crc ⟨(a0.data.toList.set j (a0.data.toList[j] ^^^ M)).toArray⟩ ≠ crc a0 := hsum
    simp; exact fun e => this (by exact_mod_cast e)
  clear hst hsum hne hbytes hb w0
  generalize (a0.data.toList.set j (a0.data.toList[j] ^^^ M)).toArray = str at *
  generalize (a0.data.toList[j] ^^^ M).toNat = y at *
  generalize (a0.data.toList[j]).toNat = x at *
  have HF : Hid (∀ s, Fits s → ∀ w, Calls Try.prog 8 #[.string s] w fun e w' => e = .returned (.int .i64 (crc s : Nat)) ∧ w' = w) := fsum
  generalize crc = f at *
  have hc3 : ((f a0 : Nat) : Int) < 4294967296 := by omega
  go_enter Try.func4, Try.ntmps4
  go_wp2_with (first
    | (go_at_call 8; refine by_same (HF.out _ (by assumption) _) ?_)
    | (go_at_call 7; refine by_same (cawake _) ?_)
    | fail)
  go_ret
  exact ⟨rfl, hB⟩

/- From the walk to the row. -/
set_option maxRecDepth 100000 in
theorem lifted (os : Os) (started : os.Started) (H : Type) (enc : TypeId × Value → H) :
    ReturnsInHanded {} Try.checked os 4 .any (Rows.crcBitSpec.pre6 enc Try.prog Try.f4 Rows.crcBitRow.domain false) (Rows.crcBitSpec.post enc Try.prog Try.f4 false true false false) := by
  refine returnsInHanded_of_change (C := Try.checked) own started (by kernel_rfl) Try.func4
    (ChangeSpec.witness6 (enc := enc) (C := Try.checked) false ⟨#[], #[.string ByteArray.empty, .int .u16 0, .int .u8 0], []⟩ 8 (by kernel_rfl) (by kernel_rfl) (by kernel_rfl) (by kernel_rfl)) ?_
  intro W base args ds gs before hval0 hW hcnd _
  have hval : ∀ (j : Nat) t v, Try.f4.params[j]? = some t → args[j]? = some v → Value.okWide Try.prog W .any base t v := hval0
  have hW' := hW
  obtain ⟨p, q, hA0, hV, rfl, hfz, hnd⟩ := hW
  have hA : DataW.TrodAll enc Try.prog W 0 (fun _ => true) true Try.f4.params.toList args.toList ds p := hA0
  rw [Try.params4] at hA hval
  obtain ⟨v0, vs0, d0, ds0, p0, q0, hargs, rfl, rfl, h0, r0⟩ := trodAll_cons hA
  obtain ⟨v1, vs1, d1, ds1, p1, q1, rfl, rfl, rfl, h1, r1⟩ := trodAll_cons r0
  obtain ⟨v2, vs2, d2, ds2, p2, q2, rfl, rfl, rfl, h2, r2⟩ := trodAll_cons r1
  obtain ⟨rfl, rfl, rfl⟩ := trodAll_nil r2
  obtain rfl : args = #[v0, v1, v2] := by cases args; simp_all
  obtain ⟨rfl, rfl⟩ := trodVars_none hV
  obtain ⟨a0, rfl, rfl, rfl, w0⟩ := open_string Try.underlying9 (hval 0 9 v0 rfl rfl) h0
  obtain ⟨a1, rfl, rfl, rfl, w1⟩ := open_int Try.underlying25 (hval 1 25 v1 rfl rfl) h1
  obtain ⟨a2, rfl, rfl, rfl, w2⟩ := open_int Try.underlying5 (hval 2 5 v2 rfl rfl) h2
  clear hA0 hval0
  refine (walk a0 a1 a2 W w0 w1 w2).mono fun e W' ⟨he, bel⟩ => ?_
  subst he
  exact ⟨_, rfl, _, _, _, [], _, [], hW', trodAll_mk1 (shut_bool Try.underlying4 _), (trodAll_cons_mk (shut_string Try.underlying9 w0) (trodAll_cons_mk (shut_int Try.underlying25 w1) (trodAll_cons_mk (shut_int Try.underlying5 w2) trodAll_mk0))), rfl, bel.frame _, fun h => by cases h⟩

theorem over : Rows.crcBitRow.holds Try.pinned (OpenSpec.ofChange Rows.crcBitSpec) :=
  OpenClaim.holds_of_wide 4 Try.f4 rfl rfl rfl rfl rfl rfl rfl ⟨rfl, rfl, rfl, rfl, rfl⟩ rfl rfl rfl rfl rfl (by kernel_rfl) Try.func4 (by kernel_rfl)
    (of_decide_eq_true (by kernel_rfl)) (by unfold Func.isWrapper; first | (rw [if_pos (by decide +kernel)]; kernel_rfl) | (rw [if_neg (by decide +kernel)]; exact ⟨rfl, rfl⟩))
    (fun os started H enc _ => lifted os started H enc)

end Go.Proofs.Ytlngapiajeogpaa.crcBit

namespace Go.Proofs.Ytlngapiajeogpaa
theorem crcBit_holds : Rows.CrcBitSaid := crcBit.over
end Go.Proofs.Ytlngapiajeogpaa
