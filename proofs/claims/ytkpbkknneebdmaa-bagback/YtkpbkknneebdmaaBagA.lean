/- What slices.Grow and slices.Concat of texts do when called: new memory, the lists one behind the other. -/
import Derived.Test.YtkpbkknneebdmaaBase
import Derived.Test.YtkpbkknneebdmaaBx
import Derived.Lib.AppendZeros
namespace Go.Proofs.Ytkpbkknneebdmaa
open Go.ChangeShapes Go.WideShapes Go.ChangeAt Go.RowKit

theorem Try.infoText : (Try.prog.info? 9).map (fun i => (i.zero, i.size, i.bytes)) = some (some (.string noText), 1, 16) := by kernel_rfl

/-- An element of a slice of slices. -/
theorem nest_at {α : Type} {A : Shape α} {w : World} {F : Nat → Prop} {a : Option Addr} {n c : Nat} {m : List (List α)} (h : (sliceS (sliceS A)).rep w F [.slice a n c] m) {j : Nat} (hj : j < n) :
    ∃ b off B C, a = some ⟨b, off, none⟩ ∧ b < w.heap.size ∧ w.cell? ⟨b, off + j, none⟩ = some (.slice B (m.getD j []).length C) ∧ (sliceS A).rep w F [.slice B (m.getD j []).length C] (m.getD j []) := by
  have hl := (sliceS_len h).1
  have hjl : j < m.length := by omega
  obtain ⟨b, off, cs, ha, _, hb, hc, hr⟩ := sliceS_at h (by exact Nat.one_pos) hjl
  have e : m.getD j [] = m[j] := by rw [List.getD_eq_getElem?_getD, List.getElem?_eq_getElem hjl]; rfl
  rw [e]
  obtain ⟨B, C, css, rfl, h1, h2, h3, h4⟩ := hr
  refine ⟨b, off, B, C, ha, hb, ?_, B, C, css, rfl, h1, h2, h3, h4⟩
  have := hc 0 _ rfl
  rwa [show off + (j * (sliceS A).size + 0) = off + j by show off + (j * 1 + 0) = off + j; omega] at this

/-- What 'append([]string(nil), make([]string, n)...)[:0]' makes. -/
theorem run_room (w : World) (n : Nat) (h0 : 0 < n) (hn : n ≤ 100000) :
    ∃ c u, (Builtin.append_ #[22, 3] 22 #[.slice none 0 0, .int .i64 n]).run Try.prog w = .ok (.slice (some ⟨w.heap.size, 0, none⟩) n c) u ∧ Below w.heap.size w u ∧ Own strS u w.heap.size 9 (.slice (some ⟨w.heap.size, 0, none⟩) 0 c) [] := by
  obtain ⟨i0, hi, hz0, hz1, hz2⟩ := info_parts Try.infoText
  refine ⟨_, _, Lib.run_append_nil_zeros w 22 3 22 9 i0 (.string noText) .i64 .i64 Try.underlying22 Try.underlying3 hi hz0 n h0 (by rw [hz1]; omega) (by omega) (by rw [hz2]; omega), ?_, ?_⟩
  · exact ((Below.refl _ w).drew).alloc (Nat.le_refl _) _
  · refine ⟨[], ⟨rfl, .inr ⟨w.heap.size, _, _, rfl, Nat.le_refl _, heap_alloc_new w.drew _, Nat.zero_le _, grownCap_le_maxLen w n 0 9 (by unfold maxLen; omega), ?_, rfl⟩⟩, Shape.all_nil⟩
    have := grownCap_ge w n 0 9
    simp [Builtin.zeroCells, Value.cells, strS]
    omega

theorem grow (n : Nat) (w : World) (hn : n ≤ 100000) :
    Calls Try.prog 17 #[.slice none 0 0, .int .i64 n] w fun e w' => Below w.heap.size w w' ∧ ∃ a c, e = .returned (.slice a 0 c) ∧ Own strS w' w.heap.size 9 (.slice a 0 c) [] := by
  by_cases h0 : n = 0
  · subst h0
    go_enter Try.func17, Try.ntmps17
    go_wp2
    go_ret
    exact ⟨Below.refl _ _, none, 0, rfl, Own.nil _ _ _ _⟩
  · obtain ⟨c, u, hrun, hb, hown⟩ := run_room w n (by omega) hn
    have hp : (0 : Int) < (n : Int) := by omega
    clear h0
    go_enter Try.func17, Try.ntmps17
    go_wp2_with (at_builtin; refine Lib.wpList_append_run _ rfl _ _ _ _ rfl _ _ rfl rfl _ _ hrun ?_)
    go_ret
    exact ⟨hb, _, _, rfl, hown⟩

/-- The first k lists, one behind the other. -/
def upto (ls : List (List ByteArray)) (k : Nat) : List ByteArray := (ls.take k).flatten
theorem upto_step (ls : List (List ByteArray)) (k : Nat) (h : k < ls.length) : upto ls (k + 1) = upto ls k ++ ls.getD k [] := by
  unfold upto
  rw [List.take_succ_eq_append_getElem h, List.flatten_append, List.getD_eq_getElem?_getD, List.getElem?_eq_getElem h]
  simp
theorem upto_le (ls : List (List ByteArray)) (k : Nat) : (upto ls k).length ≤ ls.flatten.length := by
  have h : ls.flatten.length = ((ls.take k) ++ (ls.drop k)).flatten.length := by rw [List.take_append_drop]
  unfold upto
  rw [h, List.flatten_append, List.length_append]
  omega
theorem upto_all (ls : List (List ByteArray)) (k : Nat) (h : ls.length ≤ k) : upto ls k = ls.flatten := by unfold upto; rw [List.take_of_length_le h]

theorem concat (a : Option Addr) (n c : Nat) (ls : List (List ByteArray)) (t : List ByteArray) (q : Nat) (w : World) (h : (sliceS bagS).rep w everywhere [.slice a n c] ls) (hn : n ≤ 100) (ht : ls.flatten = t) (htl : t.length = q) (hs : q ≤ 50000) :
    Calls Try.prog 16 #[.slice a n c] w fun e w' => Below w.heap.size w w' ∧ ∃ a' c', e = .returned (.slice a' q c') ∧ bagS.rep w' everywhere [.slice a' q c'] t := by
  obtain ⟨i0, hi0, hi1, hi2, hi3⟩ := info_parts Try.infoText
  obtain ⟨hl, hc1, hc2⟩ := sliceS_len h
  have HL : Hid (ls.length = n) := hl
  have HU : Hid (∀ k, (upto ls k).length ≤ q) := fun k => by have := upto_le ls k; rw [ht, htl] at this; exact this
  have HA : Hid ((sliceS bagS).rep w everywhere [.slice a n c] ls) := h
  have HF : Hid (upto ls n = t) := by show _ = _; rw [upto_all ls n (by omega), ht]
  have HQ : Hid (t.length = q) := htl
  clear hl h ht htl
  go_enter Try.func16, Try.ntmps16
  go_wp2
  go_loopw [3, 11] (fun z i wr => ∃ k : Nat, k ≤ n ∧ i = .int .i64 k ∧ z = .int .i64 ((upto ls k).length : Nat) ∧ wr = w) (fun _ i _ => n - (intOf i).toNat)
  case atStart => exact ⟨0, Nat.zero_le _, rfl, rfl, rfl⟩
  case round =>
    obtain ⟨k, hk, rfl, rfl, hww⟩ := hrel
    replace hww := hww.symm
    subst hww
    by_cases hlt : k < n
    · obtain ⟨b1, o1, B, C, rfl, hb1, hcell, hr⟩ := nest_at HA.out hlt
      have hli : (k : Int) < (n : Int) := by omega
      have HT : Hid ((upto ls (k + 1)).length = (upto ls k).length + (ls.getD k []).length) := by show _ = _; rw [upto_step ls k (by have := HL.out; omega), List.length_append]
      have hle : (upto ls k).length + (ls.getD k []).length ≤ 50000 := by have := HT.out; have := HU.out (k + 1); omega
      clear hr
      generalize (ls.getD k []).length = r at *
      generalize (upto ls k).length = z at *
      have hq : ¬ ((z : Int) + (r : Int) < 0) := by omega
      go_wp2
      go_roundw
      case rel => exact ⟨k + 1, by omega, by go_num, by rw [HT.out]; simp, by trivial⟩
      case measure => simp [intOf]; omega
    · have hkn : k = n := by omega
      subst hkn
      have hli : ¬ (k : Int) < (k : Int) := by omega
      rw [HF.out, HQ.out]
      go_wp2_with fail
      refine (grow q _ (by omega)).mono ?_
      rintro e u1 ⟨hb1, a1, c1, rfl, ho1⟩
      go_wp2
      go_loopw [6, 27] (fun v i wr => ∃ k2 z : Nat, ∃ a2 c2, k2 ≤ k ∧ i = .int .i64 k2 ∧ v = .slice a2 z c2 ∧ Own strS wr w.heap.size 9 (.slice a2 z c2) (upto ls k2) ∧ Below w.heap.size w wr) (fun _ i _ => k - (intOf i).toNat)
      case atStart => exact ⟨0, 0, _, _, Nat.zero_le _, rfl, rfl, ho1, hb1⟩
      case round =>
        clear ho1 hb1
        obtain ⟨k2, z, a2, c2, hk2, rfl, rfl, ho2, hb2⟩ := hrel
        by_cases hlt : k2 < k
        · obtain ⟨b1, o1, B, C, rfl, hb1, hcell, hr⟩ := nest_at (Shape.now (Shape.low HA.out) hb2) hlt
          have hli : (k2 : Int) < (k : Int) := by omega
          have HT : Hid (upto ls (k2 + 1) = upto ls k2 ++ ls.getD k2 []) := upto_step ls k2 (by have := HL.out; omega)
          have HQ2 : Hid ((upto ls k2).length = z) := (sliceS_len ho2.is).1
          have HE : Hid ((upto ls k2).length + (ls.getD k2 []).length ≤ 100000) := by show _ ≤ _; rw [← List.length_append, ← HT.out]; have := HU.out (k2 + 1); omega
          generalize upto ls k2 = xs at *
          generalize ls.getD k2 [] = ys at *
          generalize hm : ys.length = m at *
          go_wp2_with (at_builtin; refine wpList_app strS (by simp [Region.wanted]) (.tmp 31) (.tmp 32) 22 rfl w.heap.size 9 i0 (.string noText) 16 Try.underlying22 hi0 hi1 hi2 hi3 rfl Nat.one_pos (by omega) (by rfl) ho2 (by rfl) hr (Own.apart ho2 (Nat.le_refl _)) HE.out hb2.size ?_; intro a4 c4 u4 ho4 hg4 hb4 hat4; rw [HQ2.out] at ho4 ⊢)
          have hB4 := hb2.trans hb4
          go_roundw
          case rel => exact ⟨k2 + 1, _, a4, c4, by omega, by go_num, rfl, by rw [HT.out]; exact ho4, hB4⟩
          case measure => simp [intOf]; omega
        · have hkn : k2 = k := by omega
          subst hkn
          have hli : ¬ (k2 : Int) < (k2 : Int) := by omega
          rw [HF.out] at ho2
          have hq := (sliceS_len ho2.is).1
          rw [HQ.out] at hq
          subst hq
          go_wp2
          go_ret
          exact ⟨hb2, a2, c2, rfl, ho2.is⟩

end Go.Proofs.Ytkpbkknneebdmaa
