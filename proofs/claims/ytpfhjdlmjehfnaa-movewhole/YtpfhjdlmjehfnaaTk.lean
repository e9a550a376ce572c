/- Texts that are cut, and texts that are none. -/
import Derived.Test.YtpfhjdlmjehfnaaBase
import Derived.Test.YtpfhjdlmjehfnaaSlot
import Derived.Laws.IdiomStrings
namespace Go.Proofs.Ytpfhjdlmjehfnaa
open Go.ChangeShapes Go.WideShapes Go.ChangeAt Go.RowKit

theorem str_none {S : ByteArray} (h : S.size = 0) : (S.toList == ([] : List UInt8)) = true := by
  have : S.toList.length = 0 := by rw [ByteArray.toList_eq, Array.length_toList]; exact h
  rw [List.eq_nil_of_length_eq_zero this]; rfl
/-- A string's beginning. -/
theorem cut_to (s : ByteArray) {j : Nat} (h : j ≤ s.size) : ∃ D : ByteArray, (∀ w : World, (Instr.slice 9 (.string s) none (some (.int .i64 (j : Int))) none).run Try.prog w = .ok (.string D) w) ∧ D.data.toList = s.data.toList.take j ∧ D.size = j := by
  refine ⟨s.extract 0 j, fun w => ?_, ?_, ?_⟩
  · have hj : 0 ≤ (j : Int) ∧ (j : Int) ≤ (s.size : Int) := ⟨by omega, by omega⟩
    simp [Instr.slice, Instr.sliceBounds, Instr.sliceBound, asIntOf, run_underlying Try.underlying9, hj]
    intro hc
    omega
  · have e : s = ByteArray.mk s.data.toList.toArray := by cases s; simp
    conv => lhs; rw [e, ByteArray.extract_mk]
    show (List.take (j - 0) (List.drop 0 s.data.toList)).toArray.toList = _
    rw [List.toList_toArray, Nat.sub_zero, List.drop_zero]
  · rw [ByteArray.size_extract]; omega

theorem str_some {S : ByteArray} (h : S.size ≠ 0) : (S.toList == ([] : List UInt8)) = false := by
  have : S.toList.length ≠ 0 := by rw [ByteArray.toList_eq, Array.length_toList]; exact h
  cases hq : S.toList with
  | nil => rw [hq] at this; exact absurd rfl this
  | cons x l => rfl

/-- A string's end. -/
theorem cut_from (s : ByteArray) {j : Nat} (h : j ≤ s.size) : ∃ D : ByteArray, (∀ w : World, (Instr.slice 9 (.string s) (some (.int .i64 (j : Int))) none none).run Try.prog w = .ok (.string D) w) ∧ D.data.toList = s.data.toList.drop j ∧ D.size = s.size - j := by
  refine ⟨s.extract j s.size, fun w => ?_, ?_, ?_⟩
  · have hj : 0 ≤ (j : Int) ∧ (j : Int) ≤ (s.size : Int) := ⟨by omega, by omega⟩
    simp [Instr.slice, Instr.sliceBounds, Instr.sliceBound, asIntOf, run_underlying Try.underlying9, hj]
    intro hc
    omega
  · have e : s = ByteArray.mk s.data.toList.toArray := by cases s; simp
    have hsz : s.data.toList.length = s.size := by rw [Array.length_toList]; rfl
    conv => lhs; rw [e, ByteArray.extract_mk]
    show (List.take (s.data.toList.toArray.size - j) (List.drop j s.data.toList)).toArray.toList = _
    rw [List.toList_toArray, List.size_toArray]
    exact List.take_of_length_le (by rw [List.length_drop]; omega)
  · rw [ByteArray.size_extract]; omega
/-- A string's inner part. -/
theorem cut_mid (s : ByteArray) {i j : Nat} (h1 : i ≤ j) (h : j ≤ s.size) : ∃ D : ByteArray, (∀ w : World, (Instr.slice 9 (.string s) (some (.int .i64 (i : Int))) (some (.int .i64 (j : Int))) none).run Try.prog w = .ok (.string D) w) ∧ D.data.toList = (s.data.toList.drop i).take (j - i) ∧ D.size = j - i := by
  refine ⟨s.extract i j, fun w => ?_, ?_, ?_⟩
  · have := run_slice_string (P := Try.prog) w 9 s .i64 .i64 (i : Int) (j : Int) Try.underlying9 (by omega) (by omega) (by omega)
    exact this
  · have e : s = ByteArray.mk s.data.toList.toArray := by cases s; simp
    conv => lhs; rw [e, ByteArray.extract_mk]
  · rw [ByteArray.size_extract]; omega
theorem list_size (s : ByteArray) : s.data.toList.length = s.size := by rw [Array.length_toList]; rfl
theorem text_of (s : ByteArray) : (⟨s.data.toList.toArray⟩ : ByteArray) = s := by cases s; simp
theorem text_is {s : ByteArray} {l : List UInt8} (h : s.data.toList = l) : s = ⟨l.toArray⟩ := by rw [← h, text_of]
theorem bcat (A B : List UInt8) : (⟨A.toArray⟩ : ByteArray) ++ ⟨B.toArray⟩ = ⟨(A ++ B).toArray⟩ := by
  apply ByteArray.ext
  rw [ByteArray.data_append]
  simp
theorem bsize (A : List UInt8) : (⟨A.toArray⟩ : ByteArray).size = A.length := by show A.toArray.size = _; simp

end Go.Proofs.Ytpfhjdlmjehfnaa
