/- What slices.Grow and slices.Concat of texts do when called: new memory, the lists one behind the other. -/
import Derived.Test.YtpfhjdlmjehfnaaBase
import Derived.Test.YtpfhjdlmjehfnaaBx
import Derived.Lib.AppendZeros
namespace Go.Proofs.Ytpfhjdlmjehfnaa
open Go.ChangeShapes Go.WideShapes Go.ChangeAt Go.RowKit

theorem Try.infoText : (Try.prog.info? 9).map (fun i => (i.zero, i.size, i.bytes)) = some (some (.string noText), 1, 16) := by kernel_rfl

/-- An element of a slice of slices. -/
theorem nest_at {α : Type} {A : Shape α} {w : World} {F : Nat → Prop} {a : Option Addr} {n c : Nat} {m : List (List α)} (h : (sliceS (sliceS A)).rep w F [.slice a n c] m) {j : Nat} (hj : j < n) :
    ∃ b off B C, a = some ⟨b, off, none⟩ ∧ b < w.heap.size ∧ w.cell? ⟨b, off + j, none⟩ = some (.slice B (m.getD j []).length C) ∧ (sliceS A).rep w F [.slice B (m.getD j []).length C] (m.getD j []) := by
  have hl := (sliceS_len h).1
  have hjl : j < m.length := by omega
  obtain ⟨b, off, cs, ha, _, hb, hc, hr⟩ := sliceS_at h (by exact Nat.one_pos) hjl
  have e : m.getD j [] = m[j] := by rw [List.getD_eq_getElem?_getD, List.getElem?_eq_getElem hjl]; rfl
  rw [e]
  obtain ⟨B, C, css, rfl, h1, h2, h3, h4⟩ := hr
  refine ⟨b, off, B, C, ha, hb, ?_, B, C, css, rfl, h1, h2, h3, h4⟩
  have := hc 0 _ rfl
  rwa [show off + (j * (sliceS A).size + 0) = off + j by show off + (j * 1 + 0) = off + j; omega] at this

/-- What 'append([]string(nil), make([]string, n)...)[:0]' makes. -/
theorem run_room (w : World) (n : Nat) (h0 : 0 < n) (hn : n ≤ 100000) :
    ∃ c u, (Builtin.append_ #[28, 3] 28 #[.slice none 0 0, .int .i64 n]).run Try.prog w = .ok (.slice (some ⟨w.heap.size, 0, none⟩) n c) u ∧ Below w.heap.size w u ∧ Own strS u w.heap.size 9 (.slice (some ⟨w.heap.size, 0, none⟩) 0 c) [] := by
  obtain ⟨i0, hi, hz0, hz1, hz2⟩ := info_parts Try.infoText
  refine ⟨_, _, Lib.run_append_nil_zeros w 28 3 28 9 i0 (.string noText) .i64 .i64 Try.underlying28 Try.underlying3 hi hz0 n h0 (by rw [hz1]; omega) (by omega) (by rw [hz2]; omega), ?_, ?_⟩
  · exact ((Below.refl _ w).drew).alloc (Nat.le_refl _) _
  · refine ⟨[], ⟨rfl, .inr ⟨w.heap.size, _, _, rfl, Nat.le_refl _, heap_alloc_new w.drew _, Nat.zero_le _, grownCap_le_maxLen w n 0 9 (by unfold maxLen; omega), ?_, rfl⟩⟩, Shape.all_nil⟩
    have := grownCap_ge w n 0 9
    simp [Builtin.zeroCells, Value.cells, strS]
    omega

/-- The first k lists, one behind the other. -/
def upto (ls : List (List ByteArray)) (k : Nat) : List ByteArray := (ls.take k).flatten
theorem upto_step (ls : List (List ByteArray)) (k : Nat) (h : k < ls.length) : upto ls (k + 1) = upto ls k ++ ls.getD k [] := by
  unfold upto
  rw [List.take_succ_eq_append_getElem h, List.flatten_append, List.getD_eq_getElem?_getD, List.getElem?_eq_getElem h]
  simp
theorem upto_le (ls : List (List ByteArray)) (k : Nat) : (upto ls k).length ≤ ls.flatten.length := by
  have h : ls.flatten.length = ((ls.take k) ++ (ls.drop k)).flatten.length := by rw [List.take_append_drop]
  unfold upto
  rw [h, List.flatten_append, List.length_append]
  omega
theorem bupto_all (ls : List (List ByteArray)) (k : Nat) (h : ls.length ≤ k) : upto ls k = ls.flatten := by unfold upto; rw [List.take_of_length_le h]

/-- Texts that the call owns lie in its own blocks. -/
theorem Own.texts_high {w : World} {base : Nat} {e : TypeId} {a : Option Addr} {n c : Nat} {xs : List ByteArray} (h : Own strS w base e (.slice a n c) xs) : bagS.rep w (base ≤ ·) [.slice a n c] xs := by
  obtain ⟨css, ⟨hl, h1⟩, h2⟩ := h
  have h3 : strS.all w (base ≤ ·) css xs := ⟨h2.1, fun j d x hd hx => h2.2 j d x hd hx⟩
  rcases h1 with ⟨he, h0⟩ | ⟨g, cap, cur, he, hb, hg, hnc, hcm, hcs, htake⟩
  · cases he
    have hx := List.eq_nil_of_length_eq_zero h0
    subst hx
    exact rep_none _ _ _
  · cases he
    refine ⟨some ⟨g, 0, none⟩, c, css, rfl, hnc, hcm, h3, .inr ⟨g, 0, rfl, hb, (Array.getElem?_eq_some_iff.1 hg).1, fun j u hu => ?_⟩⟩
    rw [cell_of_row w g (0 + j) cur e (0, 0) hg]
    have hj := (List.getElem?_eq_some_iff.1 hu).1
    rw [← htake, List.getElem?_take] at hu
    split at hu
    · simpa using hu
    · cases hu

end Go.Proofs.Ytpfhjdlmjehfnaa
