/- 4 texts as one, in their order: WireA, WireB, WireC, WireT. -/
import Derived.Test.YtokfcjgfpchffaaGreatDoorJw
import Derived.Test.YtokfcjgfpchffaaGreatDoorKc
import Derived.Test.YtokfcjgfpchffaaGreatDoorKa
import Derived.Lib.AppendStr
import Derived.Lib.SmallJoins
import Derived.Laws.ResultCell
import Derived.Laws.Rows

/- What the smaller functions of package wire and the document's 'at' and 'four' do when called: numbers in four bytes. -/
namespace Go.Proofs.YtokfcjgfpchffaaGreatDoor
open Go.ChangeShapes Go.WideShapes Go.ChangeAt Go.RowKit

set_option maxRecDepth 100000 in
theorem numberAt (s : ByteArray) (i : Int) (k : Nat) (h : Four s i k) (w : World) : Calls Tryz.prog 91 #[.string s, .int .i64 i] w fun e w' => e = .returned (.int .i64 (Wx.at4 s.data.toList k : Nat)) ∧ Below w.heap.size w w' := by
  obtain ⟨rfl, hk, hf⟩ := h
  have hm : s.size ≤ 9223372036854775807 := hf
  have g0 : (k : Int) < (s.size : Int) := by omega
  have g1 : ((k : Int) + 1) < (s.size : Int) := by omega
  have g2 : ((k : Int) + 2) < (s.size : Int) := by omega
  have g3 : ((k : Int) + 3) < (s.size : Int) := by omega
  have n1 : 0 ≤ (k : Int) + 1 := by omega
  have n2 : 0 ≤ (k : Int) + 2 := by omega
  have n3 : 0 ≤ (k : Int) + 3 := by omega
  clear hk
  have HE : Hid _ := at4_is s (i := k) (by omega)
  have b0 := (s[k]'(by omega)).toNat_lt
  have b1 := (s[k + 1]'(by omega)).toNat_lt
  have b2 := (s[k + 2]'(by omega)).toNat_lt
  have b3 := (s[k + 3]'(by omega)).toNat_lt
  have o1 := or1 (s[k]'(by omega)) (s[k + 1]'(by omega))
  have o2 := or2 (s[k]'(by omega)) (s[k + 1]'(by omega)) (s[k + 2]'(by omega))
  have o3 := or3 (s[k]'(by omega)) (s[k + 1]'(by omega)) (s[k + 2]'(by omega)) (s[k + 3]'(by omega))
  have hne9 : Nonempty (Later w) := Later.there w
  go_enter Tryz.func91, Tryz.ntmps91
  go_wp2
  refine region_later (by kernel_rfl) (by kernel_rfl) ?_
  repeat (go_big_quiet_step (fail))
  refine wpQuiet_nil ?_
  intro x9
  obtain ⟨W9, hb9⟩ := x9
  go_wp2
  go_ret
  exact ⟨ret_int (by rw [HE.out]; omega), hb9⟩

set_option maxRecDepth 100000 in
theorem signed (n : Nat) (hn : n < 4294967296) (w : World) : Calls Tryz.prog 130 #[.int .i64 (n : Int)] w fun e w' => e = .returned (.int .i64 (Wx.sg n)) ∧ w' = w := by
  by_cases h : n > 2147483647
  · have h2 : (2147483647 : Int) < (n : Int) := by omega
    have HE : Hid (Wx.sg n = (n : Int) - 4294967296) := by show _ = _; unfold Wx.sg; rw [if_pos h]
    go_enter Tryz.func130, Tryz.ntmps130
    go_wp2
    go_ret
    exact ⟨ret_int HE.out.symm, rfl⟩
  · have h2 : ¬ (2147483647 : Int) < (n : Int) := by omega
    have HE : Hid (Wx.sg n = (n : Int)) := by show _ = _; unfold Wx.sg; rw [if_neg h]
    go_enter Tryz.func130, Tryz.ntmps130
    go_wp2
    go_ret
    exact ⟨ret_int HE.out.symm, rfl⟩

set_option maxRecDepth 100000 in
theorem headOf (x0 x1 x2 x3 x4 x5 x6 x7 x8 x9 : Int) (xa : Option Addr) (xn xc : Nat) (w : World) : Calls Tryz.prog 131 #[.agg #[.int .i64 x0, .int .i64 x1, .int .i64 x2, .int .i64 x3, .int .i64 x4, .int .i64 x5, .int .i64 x6, .int .i64 x7, .int .i64 x8, .int .i64 x9, .slice xa xn xc]] w fun e w' => e = .returned (.agg #[.int .i64 x0, .int .i64 x1, .int .i64 x2, .int .i64 x3, .int .i64 x4, .int .i64 x5, .int .i64 x6, .int .i64 x7, .int .i64 x8, .int .i64 x9]) ∧ Below w.heap.size w w' := by
  go_enter Tryz.func131, Tryz.ntmps131
  go_wp2
  refine bodyPost_ret (v := .agg #[.int .i64 x0, .int .i64 x1, .int .i64 x2, .int .i64 x3, .int .i64 x4, .int .i64 x5, .int .i64 x6, .int .i64 x7, .int .i64 x8, .int .i64 x9]) (by simp [results, Tryz.results131, go_sem]) rfl ?_
  exact ⟨rfl, (new_bel _ _).alloc (by simp) _⟩

set_option maxRecDepth 100000 in
theorem withHead (x0 x1 x2 x3 x4 x5 x6 x7 x8 x9 : Int) (w : World) : Calls Tryz.prog 129 #[.agg #[.int .i64 x0, .int .i64 x1, .int .i64 x2, .int .i64 x3, .int .i64 x4, .int .i64 x5, .int .i64 x6, .int .i64 x7, .int .i64 x8, .int .i64 x9]] w fun e w' => e = .returned (.agg #[.int .i64 x0, .int .i64 x1, .int .i64 x2, .int .i64 x3, .int .i64 x4, .int .i64 x5, .int .i64 x6, .int .i64 x7, .int .i64 x8, .int .i64 x9, .slice none 0 0]) ∧ Below w.heap.size w w' := by
  go_enter Tryz.func129, Tryz.ntmps129
  go_wp2
  refine bodyPost_ret (v := .agg #[.int .i64 x0, .int .i64 x1, .int .i64 x2, .int .i64 x3, .int .i64 x4, .int .i64 x5, .int .i64 x6, .int .i64 x7, .int .i64 x8, .int .i64 x9, .slice none 0 0]) (by simp [results, Tryz.results129, go_sem]) rfl ?_
  exact ⟨rfl, (new_bel _ _).alloc (by simp) _⟩

/-! ### Of all in a list, one after the other -/
theorem upto_zero {l : List Int} {P : Int → Prop} : ∀ x ∈ l.take 0, P x := by intro x hx; simp at hx
theorem upto_succ {l : List Int} {P : Int → Prop} {k : Nat} (hk : k < l.length) (h : ∀ x ∈ l.take k, P x) (hx : P (l.getD k 0)) : ∀ x ∈ l.take (k + 1), P x := by
  rw [take_snoc l k hk]
  intro x hm
  rcases List.mem_append.1 hm with hm | hm
  · exact h x hm
  · simp at hm; subst hm; simpa using hx
theorem upto_all {l : List Int} {P : Int → Prop} {k : Nat} (hk : l.length ≤ k) (h : ∀ x ∈ l.take k, P x) : ∀ x ∈ l, P x := by rwa [List.take_of_length_le hk] at h
theorem num_mem (l : List Int) (k : Nat) (hk : k < l.length) : l.getD k 0 ∈ l := by rw [List.getD_eq_getElem?_getD, List.getElem?_eq_getElem hk]; exact List.getElem_mem hk

/-- Numbers as they may be in Vec. -/
def VecIn (l : List Int) : Prop := l.length ≤ 8 ∧ ∀ x ∈ l, -2147483648 ≤ x ∧ x ≤ 2147483647

set_option maxRecDepth 100000 in
theorem rightVec (a : Option Addr) (n c : Nat) (l : List Int) (w : World) (hr : Row .i64 w a n l) : Calls Tryz.prog 132 #[.slice a n c] w fun e w' => Says e (VecIn l) ∧ w' = w := by
  have HL : Hid (l.length = n) := hr.len
  by_cases h8 : 8 < n
  · have q : (8 : Int) < (n : Int) := by omega
    go_enter Tryz.func132, Tryz.ntmps132
    go_wp2
    go_ret
    exact ⟨Says.no fun h => by have := h.1; have := HL.out; omega, rfl⟩
  have q : ¬ (8 : Int) < (n : Int) := by omega
  go_enter Tryz.func132, Tryz.ntmps132
  go_wp2
  go_loopw [10] (fun i wr => ∃ k : Nat, k ≤ n ∧ i = .int .i64 k ∧ wr = w ∧ Hid (∀ x ∈ l.take k, -2147483648 ≤ x ∧ x ≤ 2147483647)) (fun i _ => n - (intOf i).toNat)
  case atStart => exact ⟨0, Nat.zero_le _, rfl, rfl, upto_zero⟩
  case round =>
    obtain ⟨k, hk, rfl, rfl, HI⟩ := hrel
    by_cases hlt : k < n
    · obtain ⟨b1, o1, rfl, hb1, hc1⟩ := hr.at hlt
      have hli : (k : Int) < (n : Int) := by omega
      have HM : Hid (l.getD k 0 ∈ l) := num_mem l k (by have := HL.out; omega)
      have HS : Hid (-2147483648 ≤ l.getD k 0 ∧ l.getD k 0 ≤ 2147483647 → ∀ x ∈ l.take (k + 1), -2147483648 ≤ x ∧ x ≤ 2147483647) := fun h => upto_succ (P := fun x => -2147483648 ≤ x ∧ x ≤ 2147483647) (by have := HL.out; omega) HI.out h
      generalize l.getD k 0 = x at *
      by_cases hx1 : x < -2147483648
      · go_wp2
        go_ret
        exact ⟨Says.no fun h => by have := h.2 x HM.out; omega, rfl⟩
      · by_cases hx2 : 2147483647 < x
        · go_wp2
          go_ret
          exact ⟨Says.no fun h => by have := h.2 x HM.out; omega, rfl⟩
        · go_wp2
          go_roundw
          case rel => exact ⟨k + 1, by omega, by go_num, by trivial, HS.out ⟨by omega, by omega⟩⟩
          case measure => simp [intOf]; omega
    · have hli : ¬ (k : Int) < (n : Int) := by omega
      go_wp2
      go_ret
      exact ⟨Says.yes ⟨by have := HL.out; omega, upto_all (by have := HL.out; omega) HI.out⟩, rfl⟩

theorem index10 (x0 x1 x2 x3 x4 x5 x6 x7 x8 x9 : Int) (k : Nat) (hk : k < 10) (w : World) : (Instr.index 174 (.agg #[.int .i64 x0, .int .i64 x1, .int .i64 x2, .int .i64 x3, .int .i64 x4, .int .i64 x5, .int .i64 x6, .int .i64 x7, .int .i64 x8, .int .i64 x9]) (.int .i64 (k : Int))).run Tryz.prog w = .ok (.int .i64 ([x0, x1, x2, x3, x4, x5, x6, x7, x8, x9].getD k 0)) w := by
  have i0 : ∀ w : World, (Instr.index 174 (.agg #[.int .i64 x0, .int .i64 x1, .int .i64 x2, .int .i64 x3, .int .i64 x4, .int .i64 x5, .int .i64 x6, .int .i64 x7, .int .i64 x8, .int .i64 x9]) (.int .i64 0)).run Tryz.prog w = .ok (.int .i64 x0) w := fun _ => by kernel_rfl
  have i1 : ∀ w : World, (Instr.index 174 (.agg #[.int .i64 x0, .int .i64 x1, .int .i64 x2, .int .i64 x3, .int .i64 x4, .int .i64 x5, .int .i64 x6, .int .i64 x7, .int .i64 x8, .int .i64 x9]) (.int .i64 1)).run Tryz.prog w = .ok (.int .i64 x1) w := fun _ => by kernel_rfl
  have i2 : ∀ w : World, (Instr.index 174 (.agg #[.int .i64 x0, .int .i64 x1, .int .i64 x2, .int .i64 x3, .int .i64 x4, .int .i64 x5, .int .i64 x6, .int .i64 x7, .int .i64 x8, .int .i64 x9]) (.int .i64 2)).run Tryz.prog w = .ok (.int .i64 x2) w := fun _ => by kernel_rfl
  have i3 : ∀ w : World, (Instr.index 174 (.agg #[.int .i64 x0, .int .i64 x1, .int .i64 x2, .int .i64 x3, .int .i64 x4, .int .i64 x5, .int .i64 x6, .int .i64 x7, .int .i64 x8, .int .i64 x9]) (.int .i64 3)).run Tryz.prog w = .ok (.int .i64 x3) w := fun _ => by kernel_rfl
  have i4 : ∀ w : World, (Instr.index 174 (.agg #[.int .i64 x0, .int .i64 x1, .int .i64 x2, .int .i64 x3, .int .i64 x4, .int .i64 x5, .int .i64 x6, .int .i64 x7, .int .i64 x8, .int .i64 x9]) (.int .i64 4)).run Tryz.prog w = .ok (.int .i64 x4) w := fun _ => by kernel_rfl
  have i5 : ∀ w : World, (Instr.index 174 (.agg #[.int .i64 x0, .int .i64 x1, .int .i64 x2, .int .i64 x3, .int .i64 x4, .int .i64 x5, .int .i64 x6, .int .i64 x7, .int .i64 x8, .int .i64 x9]) (.int .i64 5)).run Tryz.prog w = .ok (.int .i64 x5) w := fun _ => by kernel_rfl
  have i6 : ∀ w : World, (Instr.index 174 (.agg #[.int .i64 x0, .int .i64 x1, .int .i64 x2, .int .i64 x3, .int .i64 x4, .int .i64 x5, .int .i64 x6, .int .i64 x7, .int .i64 x8, .int .i64 x9]) (.int .i64 6)).run Tryz.prog w = .ok (.int .i64 x6) w := fun _ => by kernel_rfl
  have i7 : ∀ w : World, (Instr.index 174 (.agg #[.int .i64 x0, .int .i64 x1, .int .i64 x2, .int .i64 x3, .int .i64 x4, .int .i64 x5, .int .i64 x6, .int .i64 x7, .int .i64 x8, .int .i64 x9]) (.int .i64 7)).run Tryz.prog w = .ok (.int .i64 x7) w := fun _ => by kernel_rfl
  have i8 : ∀ w : World, (Instr.index 174 (.agg #[.int .i64 x0, .int .i64 x1, .int .i64 x2, .int .i64 x3, .int .i64 x4, .int .i64 x5, .int .i64 x6, .int .i64 x7, .int .i64 x8, .int .i64 x9]) (.int .i64 8)).run Tryz.prog w = .ok (.int .i64 x8) w := fun _ => by kernel_rfl
  have i9 : ∀ w : World, (Instr.index 174 (.agg #[.int .i64 x0, .int .i64 x1, .int .i64 x2, .int .i64 x3, .int .i64 x4, .int .i64 x5, .int .i64 x6, .int .i64 x7, .int .i64 x8, .int .i64 x9]) (.int .i64 9)).run Tryz.prog w = .ok (.int .i64 x9) w := fun _ => by kernel_rfl
  rcases (by omega : k = 0 ∨ k = 1 ∨ k = 2 ∨ k = 3 ∨ k = 4 ∨ k = 5 ∨ k = 6 ∨ k = 7 ∨ k = 8 ∨ k = 9) with rfl | rfl | rfl | rfl | rfl | rfl | rfl | rfl | rfl | rfl
  · exact i0 w
  · exact i1 w
  · exact i2 w
  · exact i3 w
  · exact i4 w
  · exact i5 w
  · exact i6 w
  · exact i7 w
  · exact i8 w
  · exact i9 w

set_option maxRecDepth 100000 in
theorem wright (x0 x1 x2 x3 x4 x5 x6 x7 x8 x9 : Int) (xa : Option Addr) (xn xc : Nat) (l : List Int) (w : World) (hr : Row .i64 w xa xn l) : Calls Tryz.prog 94 #[.agg #[.int .i64 x0, .int .i64 x1, .int .i64 x2, .int .i64 x3, .int .i64 x4, .int .i64 x5, .int .i64 x6, .int .i64 x7, .int .i64 x8, .int .i64 x9, .slice xa xn xc]] w fun e w' => Says e (Wx.right ⟨x0, x1, x2, x3, x4, x5, x6, x7, x8, x9, l⟩) ∧ Below w.heap.size w w' := by
  by_cases hk1 : x0 < 1
  · go_enter Tryz.func94, Tryz.ntmps94
    go_wp2
    go_ret
    exact ⟨Says.no fun h => by have h1 : 1 ≤ x0 := h.1; omega, new_bel _ _⟩
  by_cases hk2 : 4 < x0
  · go_enter Tryz.func94, Tryz.ntmps94
    go_wp2
    go_ret
    exact ⟨Says.no fun h => by have h1 : x0 ≤ 4 := h.2.1; omega, new_bel _ _⟩
  go_enter Tryz.func94, Tryz.ntmps94
  go_wp2_with fail
  refine (headOf x0 x1 x2 x3 x4 x5 x6 x7 x8 x9 xa xn xc _).mono ?_
  rintro e u ⟨rfl, hb⟩
  have hc := box_cell hb 10 (v := .slice xa xn xc) rfl
  have hB := bel_then (new_bel _ _) hb
  have hr2 := hr.keep hB
  clear hb hr
  have HT : Hid ([x0, x1, x2, x3, x4, x5, x6, x7, x8, x9].length = 10) := rfl
  obtain ⟨t, ht⟩ : ∃ t : List Int, t = [x0, x1, x2, x3, x4, x5, x6, x7, x8, x9] := ⟨_, rfl⟩
  have HR : Hid (Wx.right ⟨x0, x1, x2, x3, x4, x5, x6, x7, x8, x9, l⟩ ↔ (∀ x ∈ t, 0 ≤ x ∧ x ≤ 2147483647) ∧ VecIn l) := by
    show _ ↔ _
    rw [ht]
    exact ⟨fun h => ⟨h.2.2.1, h.2.2.2⟩, fun h => ⟨show 1 ≤ x0 by omega, show x0 ≤ 4 by omega, h.1, h.2⟩⟩
  have HI : Hid (∀ k : Nat, k < 10 → ∀ w : World, (Instr.index 174 (.agg #[.int .i64 x0, .int .i64 x1, .int .i64 x2, .int .i64 x3, .int .i64 x4, .int .i64 x5, .int .i64 x6, .int .i64 x7, .int .i64 x8, .int .i64 x9]) (.int .i64 (k : Int))).run Tryz.prog w = .ok (.int .i64 (t.getD k 0)) w) := by
    intro k hk w
    rw [ht]
    exact index10 x0 x1 x2 x3 x4 x5 x6 x7 x8 x9 k hk w
  rw [← ht] at HT
  clear ht
  go_wp2
  go_loopw [15] (fun i wr => ∃ k : Nat, k ≤ 10 ∧ i = .int .i64 k ∧ wr = u ∧ Hid (∀ x ∈ t.take k, 0 ≤ x ∧ x ≤ 2147483647)) (fun i _ => 10 - (intOf i).toNat)
  case atStart => exact ⟨0, Nat.zero_le _, rfl, rfl, upto_zero⟩
  case round =>
    obtain ⟨k, hk, rfl, hww, HJ⟩ := hrel
    replace hww := hww.symm
    subst hww
    by_cases hlt : k < 10
    · have hli : (k : Int) < 10 := by omega
      have hix := HI.out k hlt
      have HM : Hid (t.getD k 0 ∈ t) := num_mem t k (by have := HT.out; omega)
      have HS : Hid (0 ≤ t.getD k 0 ∧ t.getD k 0 ≤ 2147483647 → ∀ x ∈ t.take (k + 1), 0 ≤ x ∧ x ≤ 2147483647) := fun h => upto_succ (P := fun x => 0 ≤ x ∧ x ≤ 2147483647) (by have := HT.out; omega) HJ.out h
      generalize t.getD k 0 = x at *
      by_cases hx1 : x < 0
      · go_wp2
        go_ret
        exact ⟨Says.no fun h => by have := (HR.out.1 h).1 x HM.out; omega, hB⟩
      · by_cases hx2 : 2147483647 < x
        · go_wp2
          go_ret
          exact ⟨Says.no fun h => by have := (HR.out.1 h).1 x HM.out; omega, hB⟩
        · go_wp2
          go_roundw
          case rel => exact ⟨k + 1, by omega, by go_num, by trivial, HS.out ⟨by omega, by omega⟩⟩
          case measure => simp [intOf]; omega
    · have hli : ¬ (k : Int) < 10 := by omega
      have HA : Hid (∀ x ∈ t, 0 ≤ x ∧ x ≤ 2147483647) := upto_all (by have := HT.out; omega) HJ.out
      go_wp2_with fail
      refine (rightVec xa xn xc l _ hr2).mono ?_
      rintro e u2 ⟨hs, rfl⟩
      rw [hs.form, tell_iff (show VecIn l ↔ Wx.right ⟨x0, x1, x2, x3, x4, x5, x6, x7, x8, x9, l⟩ from ⟨fun h => HR.out.2 ⟨HA.out, h⟩, fun h => (HR.out.1 h).2⟩)]
      go_wp2
      go_ret
      by_cases hp : Wx.right ⟨x0, x1, x2, x3, x4, x5, x6, x7, x8, x9, l⟩
      · rw [tell_yes hp]; exact ⟨Says.yes hp, hB⟩
      · rw [tell_no hp]; exact ⟨Says.no hp, hB⟩

set_option maxRecDepth 100000 in
theorem rightLength (s : ByteArray) (hs : s.size ≤ maxLen) (w : World) : Calls Tryz.prog 90 #[.string s] w fun e w' => Says e (Wx.formed s.data.toList) ∧ Below w.heap.size w w' := by
  have hm : s.size ≤ 9223372036854775807 := hs
  have hl : s.data.toList.length = s.size := by rw [Array.length_toList]; rfl
  have tm : ((s.size : Nat) : Int).tmod 4 = ((s.size % 4 : Nat) : Int) := by rw [Int.tmod_eq_emod_of_nonneg (by omega)]; rfl
  by_cases h1 : 52 ≤ s.size
  · by_cases h2 : s.size % 4 = 0
    · have q1 : (52 : Int) ≤ (s.size : Int) := by omega
      have q2 : (((s.size % 4 : Nat) : Int) == 0) = true := by rw [h2]; rfl
      have hb := Wx.at4_lt s.data.toList 0
      have HF : Hid (Wx.formed s.data.toList ↔ Wx.at4 s.data.toList 0 = s.size - 4) := by
        show _ ↔ _
        unfold Wx.formed
        rw [hl]
        exact ⟨fun h => h.2.1, fun h => ⟨h1, h, h2⟩⟩
      have HC : Hid _ := numberAt s 0 0 ⟨rfl, by omega, hs⟩
      generalize Wx.at4 s.data.toList 0 = x at *
      clear hl
      by_cases h3 : x = s.size - 4
      · have q3 : ((x : Int) == (s.size : Int) - 4) = true := by rw [beq_iff_eq]; omega
        have H3 : Hid (x = s.size - 4) := h3
        clear h3
        go_enter Tryz.func90, Tryz.ntmps90
        go_wp2_with fail
        refine (HC.out _).mono ?_
        rintro e u ⟨rfl, hb⟩
        go_wp2
        go_ret
        exact ⟨Says.yes (HF.out.2 H3.out), hb⟩
      · have q3 : ((x : Int) == (s.size : Int) - 4) = false := by rw [beq_eq_false_iff_ne]; omega
        go_enter Tryz.func90, Tryz.ntmps90
        go_wp2_with fail
        refine (HC.out _).mono ?_
        rintro e u ⟨rfl, hb⟩
        go_wp2
        go_ret
        exact ⟨Says.no fun h => h3 (HF.out.1 h), hb⟩
    · have q1 : (52 : Int) ≤ (s.size : Int) := by omega
      have q2 : (((s.size % 4 : Nat) : Int) == 0) = false := by rw [beq_eq_false_iff_ne]; omega
      have HN : Hid (¬ Wx.formed s.data.toList) := fun h => by have := h.2.2; rw [hl] at this; omega
      clear hl
      go_enter Tryz.func90, Tryz.ntmps90
      go_wp2
      go_ret
      exact ⟨Says.no HN.out, Below.refl _ _⟩
  · have q1 : ¬ (52 : Int) ≤ (s.size : Int) := by omega
    have HN : Hid (¬ Wx.formed s.data.toList) := fun h => by have := h.1; rw [hl] at this; omega
    clear hl
    go_enter Tryz.func90, Tryz.ntmps90
    go_wp2
    go_ret
    exact ⟨Says.no HN.out, Below.refl _ _⟩

end Go.Proofs.YtokfcjgfpchffaaGreatDoor

/- What Put of package wire and what it calls do when called: a message's bytes. -/
namespace Go.Proofs.YtokfcjgfpchffaaGreatDoor
open Go.ChangeShapes Go.WideShapes Go.ChangeAt Go.RowKit

set_option maxRecDepth 100000 in
theorem addNumber (v : Value) (n : Int) (l : List UInt8) (base : Nat) (w : World) (ho : OwnB w base v l) (hb : base ≤ w.heap.size) (hl : l.length ≤ 1000) :
    Calls Tryz.prog 164 #[v, .int .i64 n] w fun e w' => ∃ v', e = .returned v' ∧ OwnB w' base v' (l ++ Wx.four (Wx.un n)) ∧ Below base w w' := by
  obtain ⟨i0, hi0, hz0, hz1, hz2⟩ := info_parts Tryz.infoByte
  have hu : n % 4294967296 = (Wx.un n : Nat) := by unfold Wx.un; omega
  have hlt := Wx.un_lt n
  generalize Wx.un n = m at *
  have k0 : (m : Int) % 256 = ((m % 256 : Nat) : Int) := by omega
  have k1 : (m : Int) / 256 % 256 = ((m / 256 % 256 : Nat) : Int) := by omega
  have k2 : (m : Int) / 65536 % 256 = ((m / 65536 % 256 : Nat) : Int) := by omega
  have k3 : (m : Int) / 16777216 = ((m / 16777216 % 256 : Nat) : Int) := by omega
  have HN : Hid ((Wx.four m).map (fun b => Value.int .u8 (b.toNat : Nat)) = [.int .u8 ((m % 256 : Nat) : Int), .int .u8 ((m / 256 % 256 : Nat) : Int), .int .u8 ((m / 65536 % 256 : Nat) : Int), .int .u8 ((m / 16777216 % 256 : Nat) : Int)]) := by
    show _ = _
    unfold Wx.four
    simp only [List.map_cons, List.map_nil]
    rw [toNat_mod, toNat_mod, toNat_mod, toNat_mod]
  have c0 : m % 256 < 256 := by omega
  have c1 : m / 256 % 256 < 256 := by omega
  have c2 : m / 65536 % 256 < 256 := by omega
  have c3 : m / 16777216 % 256 < 256 := by omega
  generalize m % 256 = y0 at *
  generalize m / 256 % 256 = y1 at *
  generalize m / 65536 % 256 = y2 at *
  generalize m / 16777216 % 256 = y3 at *
  have s1 := four_src w y0 y1 y2 y3
  go_enter Tryz.func164, Tryz.ntmps164
  go_wp2_with (at_builtin; refine wpList_append_own _ rfl (.tmp 8) (.tmp 20) 43 rfl base 5 i0 (.int .u8 0) 1 1 Tryz.underlying43 hi0 hz0 hz1 hz2 rfl Nat.one_pos _ _ _ (by rfl) (ho.keep (new_bel w _)) ⟨w.heap.size, 0, none⟩ 4 4 [.int .u8 (y0 : Int), .int .u8 (y1 : Int), .int .u8 (y2 : Int), .int .u8 (y3 : Int)] (by rfl) rfl s1.1 s1.2 (by unfold maxLen; omega) (by omega) (by simp; omega) ?_; intro v5 w5 ho5 hg5 hn5)
  go_ret
  refine ⟨v5, rfl, ?_, ?_⟩
  · unfold OwnB
    rw [List.length_append, Wx.four_len, List.map_append, HN.out]
    exact ho5
  · exact ((Below.refl base w).alloc hb _).grown hg5 (by simp; omega) (fun g hg => (ho.lt g hg).1)

set_option maxRecDepth 100000 in
theorem bodyOf (x0 x1 x2 x3 x4 x5 x6 x7 x8 x9 : Int) (xa : Option Addr) (xn xc : Nat) (l : List Int) (w : World) (hr : Row .i64 w xa xn l) (hn : xn ≤ 8) :
    Calls Tryz.prog 163 #[.agg #[.int .i64 x0, .int .i64 x1, .int .i64 x2, .int .i64 x3, .int .i64 x4, .int .i64 x5, .int .i64 x6, .int .i64 x7, .int .i64 x8, .int .i64 x9, .slice xa xn xc]] w fun e w' => e = .returned (.string ⟨(Wx.body ⟨x0, x1, x2, x3, x4, x5, x6, x7, x8, x9, l⟩).toArray⟩) ∧ Below w.heap.size w w' := by
  have HL : Hid (l.length = xn) := hr.len
  obtain ⟨B, hB⟩ : ∃ B, B = (w.alloc (.cells #[.int .i64 x0, .int .i64 x1, .int .i64 x2, .int .i64 x3, .int .i64 x4, .int .i64 x5, .int .i64 x6, .int .i64 x7, .int .i64 x8, .int .i64 x9, .slice xa xn xc] 100)).heap.size := ⟨_, rfl⟩
  have HB : Hid (B = (w.alloc (.cells #[.int .i64 x0, .int .i64 x1, .int .i64 x2, .int .i64 x3, .int .i64 x4, .int .i64 x5, .int .i64 x6, .int .i64 x7, .int .i64 x8, .int .i64 x9, .slice xa xn xc] 100)).heap.size) := hB
  have HBW : Hid (w.heap.size ≤ B) := by show _ ≤ _; rw [hB]; simp
  clear hB
  go_enter Tryz.func163, Tryz.ntmps163
  go_wp2_with fail
  refine (headOf x0 x1 x2 x3 x4 x5 x6 x7 x8 x9 xa xn xc _).mono ?_
  rintro e u ⟨rfl, hb⟩
  rw [← HB.out] at hb
  have HT : Hid ([x0, x1, x2, x3, x4, x5, x6, x7, x8, x9].length = 10) := rfl
  obtain ⟨t, ht⟩ : ∃ t : List Int, t = [x0, x1, x2, x3, x4, x5, x6, x7, x8, x9] := ⟨_, rfl⟩
  have HI : Hid (∀ k : Nat, k < 10 → ∀ w : World, (Instr.index 174 (.agg #[.int .i64 x0, .int .i64 x1, .int .i64 x2, .int .i64 x3, .int .i64 x4, .int .i64 x5, .int .i64 x6, .int .i64 x7, .int .i64 x8, .int .i64 x9]) (.int .i64 (k : Int))).run Tryz.prog w = .ok (.int .i64 (t.getD k 0)) w) := by
    intro k hk w
    rw [ht]
    exact index10 x0 x1 x2 x3 x4 x5 x6 x7 x8 x9 k hk w
  have HW : Hid (Wx.body ⟨x0, x1, x2, x3, x4, x5, x6, x7, x8, x9, l⟩ = Wx.F (t.map Wx.un) ++ Wx.four (Wx.un (xn : Int)) ++ Wx.F (l.map Wx.un)) := by
    show _ = _
    rw [ht, ← HL.out, List.append_assoc, ← Wx.F_cons, ← Wx.F_append]
    rfl
  rw [← ht] at HT
  clear ht
  go_wp2
  go_loopw [3, 10] (fun v i wr => ∃ k : Nat, k ≤ 10 ∧ i = .int .i64 k ∧ OwnB wr B v (Wx.F ((t.take k).map Wx.un)) ∧ Below B (w.alloc (.cells #[.int .i64 x0, .int .i64 x1, .int .i64 x2, .int .i64 x3, .int .i64 x4, .int .i64 x5, .int .i64 x6, .int .i64 x7, .int .i64 x8, .int .i64 x9, .slice xa xn xc] 100)) wr ∧ Hid (B ≤ wr.heap.size)) (fun _ i _ => 10 - (intOf i).toNat)
  case atStart => exact ⟨0, Nat.zero_le _, rfl, OwnB.nil _ _, hb, by show _ ≤ _; rw [HB.out]; exact hb.size⟩
  case round =>
    obtain ⟨k, hk, rfl, hown, hbel, HZ⟩ := hrel
    by_cases hlt : k < 10
    · have hli : (k : Int) < 10 := by omega
      have hix := HI.out k hlt
      have HS : Hid _ := F_snoc t k (by have := HT.out; omega)
      have HN : Hid _ := F_take_len t k (by have := HT.out; omega)
      generalize t.getD k 0 = x at *
      go_wp2_with fail
      refine (addNumber _ x _ B _ hown HZ.out (by rw [HN.out]; omega)).mono ?_
      rintro e u3 ⟨v3, rfl, ho3, hb3⟩
      have HZ3 : Hid (B ≤ u3.heap.size) := Nat.le_trans HZ.out hb3.size
      go_wp2
      go_roundw
      case rel => exact ⟨k + 1, by omega, by go_num, by rw [HS.out]; exact ho3, hbel.trans hb3, HZ3⟩
      case measure => simp [intOf]; omega
    · have hk10 : k = 10 := by omega
      subst hk10
      have hli : ¬ ((10 : Nat) : Int) < 10 := by omega
      have HA : Hid (t.take 10 = t) := List.take_of_length_le (by have := HT.out; omega)
      rw [HA.out] at hown
      have hc10 := box_cell (HB.out ▸ hbel) 10 (v := .slice xa xn xc) rfl
      have HN : Hid ((Wx.F (t.map Wx.un)).length = 40) := by show _ = _; rw [Wx.F_len, List.length_map, HT.out]
      go_wp2_with fail
      refine (addNumber _ _ _ B _ hown HZ.out (by rw [HN.out]; omega)).mono ?_
      rintro e u3 ⟨v3, rfl, ho3, hb3⟩
      have HZ3 : Hid (B ≤ u3.heap.size) := Nat.le_trans HZ.out hb3.size
      have hbel3 := hbel.trans hb3
      have hd10 := box_cell (HB.out ▸ hbel3) 10 (v := .slice xa xn xc) rfl
      clear hc10 hbel hown HZ hb3
      go_wp2
      go_loopw [3, 25] (fun v i wr => ∃ k : Nat, k ≤ xn ∧ i = .int .i64 k ∧ OwnB wr B v (Wx.F (t.map Wx.un) ++ Wx.four (Wx.un (xn : Int)) ++ Wx.F ((l.take k).map Wx.un)) ∧ Below B (w.alloc (.cells #[.int .i64 x0, .int .i64 x1, .int .i64 x2, .int .i64 x3, .int .i64 x4, .int .i64 x5, .int .i64 x6, .int .i64 x7, .int .i64 x8, .int .i64 x9, .slice xa xn xc] 100)) wr ∧ Hid (B ≤ wr.heap.size)) (fun _ i _ => xn - (intOf i).toNat)
      case atStart => exact ⟨0, Nat.zero_le _, rfl, by simpa [Wx.F_nil] using ho3, hbel3, HZ3⟩
      case round =>
        obtain ⟨k, hk, rfl, hown, hbel, HZ⟩ := hrel
        have hBel : Below w.heap.size w wr := (new_bel w _).trans (hbel.mono HBW.out)
        by_cases hlt : k < xn
        · have hli : (k : Int) < (xn : Int) := by omega
          obtain ⟨b1, o1, rfl, hb1, hc1⟩ := (hr.keep hBel).at hlt
          have HS : Hid _ := F_snoc l k (by have := HL.out; omega)
          have HM : Hid _ := F_take_len l k (by have := HL.out; omega)
          generalize l.getD k 0 = x at *
          go_wp2_with fail
          refine (addNumber _ x _ B _ hown HZ.out (by rw [List.length_append, List.length_append, Wx.four_len, HN.out, HM.out]; omega)).mono ?_
          rintro e u4 ⟨v4, rfl, ho4, hb4⟩
          have HZ4 : Hid (B ≤ u4.heap.size) := Nat.le_trans HZ.out hb4.size
          go_wp2
          go_roundw
          case rel => exact ⟨k + 1, by omega, by go_num, by rw [HS.out, ← List.append_assoc]; exact ho4, hbel.trans hb4, HZ4⟩
          case measure => simp [intOf]; omega
        · have hkn : k = xn := by omega
          subst hkn
          have hli : ¬ (k : Int) < (k : Int) := by omega
          have HA2 : Hid (l.take k = l) := List.take_of_length_le (by have := HL.out; omega)
          rw [HA2.out, ← HW.out] at hown
          have hback := hown.back (by rw [Wx.body_len]; omega)
          go_wp2
          go_ret
          exact ⟨rfl, hBel⟩

/-- What Put answers. -/
def putS (m : Wx.Msg) : ByteArray := if Wx.right m then ⟨(Wx.put m).toArray⟩ else ⟨#[]⟩
def putE (m : Wx.Msg) : Int := if Wx.right m then 0 else 1
theorem putS_yes {m : Wx.Msg} (h : Wx.right m) : putS m = ⟨(Wx.put m).toArray⟩ := if_pos h
theorem putS_no {m : Wx.Msg} (h : ¬ Wx.right m) : putS m = ⟨#[]⟩ := if_neg h
theorem putE_yes {m : Wx.Msg} (h : Wx.right m) : putE m = 0 := if_pos h
theorem putE_no {m : Wx.Msg} (h : ¬ Wx.right m) : putE m = 1 := if_neg h

set_option maxRecDepth 100000 in
theorem wput (x0 x1 x2 x3 x4 x5 x6 x7 x8 x9 : Int) (xa : Option Addr) (xn xc : Nat) (l : List Int) (w : World) (hr : Row .i64 w xa xn l) :
    Calls Tryz.prog 127 #[.agg #[.int .i64 x0, .int .i64 x1, .int .i64 x2, .int .i64 x3, .int .i64 x4, .int .i64 x5, .int .i64 x6, .int .i64 x7, .int .i64 x8, .int .i64 x9, .slice xa xn xc]] w fun e w' => e = .returned (.tuple #[.string (putS ⟨x0, x1, x2, x3, x4, x5, x6, x7, x8, x9, l⟩), .int .i64 (putE ⟨x0, x1, x2, x3, x4, x5, x6, x7, x8, x9, l⟩)]) ∧ Below w.heap.size w w' := by
  obtain ⟨i0, hi0, hz0, hz1, hz2⟩ := info_parts Tryz.infoByte
  have HL : Hid (l.length = xn) := hr.len
  obtain ⟨B, hB⟩ : ∃ B, B = (w.alloc (.cells #[.int .i64 x0, .int .i64 x1, .int .i64 x2, .int .i64 x3, .int .i64 x4, .int .i64 x5, .int .i64 x6, .int .i64 x7, .int .i64 x8, .int .i64 x9, .slice xa xn xc] 100)).heap.size := ⟨_, rfl⟩
  have HB : Hid (B = (w.alloc (.cells #[.int .i64 x0, .int .i64 x1, .int .i64 x2, .int .i64 x3, .int .i64 x4, .int .i64 x5, .int .i64 x6, .int .i64 x7, .int .i64 x8, .int .i64 x9, .slice xa xn xc] 100)).heap.size) := hB
  have HBW : Hid (w.heap.size ≤ B) := by show _ ≤ _; rw [hB]; simp
  clear hB
  by_cases hp : Wx.right ⟨x0, x1, x2, x3, x4, x5, x6, x7, x8, x9, l⟩
  · rw [putS_yes hp, putE_yes hp]
    have HP : Hid (Wx.right ⟨x0, x1, x2, x3, x4, x5, x6, x7, x8, x9, l⟩) := hp
    go_enter Tryz.func127, Tryz.ntmps127
    go_wp2_with fail
    refine (wright x0 x1 x2 x3 x4 x5 x6 x7 x8 x9 xa xn xc l _ (hr.keep (new_bel w _))).mono ?_
    rintro e u ⟨hs, hb⟩
    have hBel := (new_bel w _).trans (hb.mono (by rw [← HB.out]; exact HBW.out))
    rw [hs.is hp]
    have hn : xn ≤ 8 := by have h8 : l.length ≤ 8 := hp.2.2.2.1; have := HL.out; omega
    have hc0 := box_cell hb 0 (v := .int .i64 x0) rfl
    have hc1 := box_cell hb 1 (v := .int .i64 x1) rfl
    have hc2 := box_cell hb 2 (v := .int .i64 x2) rfl
    have hc3 := box_cell hb 3 (v := .int .i64 x3) rfl
    have hc4 := box_cell hb 4 (v := .int .i64 x4) rfl
    have hc5 := box_cell hb 5 (v := .int .i64 x5) rfl
    have hc6 := box_cell hb 6 (v := .int .i64 x6) rfl
    have hc7 := box_cell hb 7 (v := .int .i64 x7) rfl
    have hc8 := box_cell hb 8 (v := .int .i64 x8) rfl
    have hc9 := box_cell hb 9 (v := .int .i64 x9) rfl
    have hc10 := box_cell hb 10 (v := .slice xa xn xc) rfl
    have hr2 := hr.keep hBel
    clear hp
    rw [← HB.out] at hb
    have HU : Hid (B ≤ u.heap.size) := by show _ ≤ _; rw [HB.out]; exact hb.size
    clear hs hr
    go_wp2_with fail
    refine (bodyOf x0 x1 x2 x3 x4 x5 x6 x7 x8 x9 xa xn xc l _ hr2 hn).mono ?_
    rintro e u2 ⟨rfl, hb2⟩
    have HQ : Hid (Wx.put ⟨x0, x1, x2, x3, x4, x5, x6, x7, x8, x9, l⟩ = Wx.four (Wx.un (44 + 4 * xn + 4 : Nat)) ++ Wx.body ⟨x0, x1, x2, x3, x4, x5, x6, x7, x8, x9, l⟩ ++ Wx.four (Wx.un (Cx.sum (Wx.body ⟨x0, x1, x2, x3, x4, x5, x6, x7, x8, x9, l⟩) : Nat))) := by
      show _ = _
      rw [Wx.un_nat (by omega), Wx.un_nat (Cx.sum_lt _), List.append_assoc]
      unfold Wx.put
      rw [Wx.body_len]
      show Wx.four (44 + 4 * l.length + 4) ++ _ = _
      rw [HL.out]
    have HS0 : Hid ((Wx.body ⟨x0, x1, x2, x3, x4, x5, x6, x7, x8, x9, l⟩).length = 44 + 4 * xn) := by show _ = _; rw [Wx.body_len]; show 44 + 4 * l.length = _; rw [HL.out]
    generalize Wx.body ⟨x0, x1, x2, x3, x4, x5, x6, x7, x8, x9, l⟩ = S at *
    have hz : (⟨S.toArray⟩ : ByteArray).size = 44 + 4 * xn := by show S.toArray.size = _; rw [List.size_toArray]; exact HS0.out
    have HD : Hid ((⟨S.toArray⟩ : ByteArray).data.toList = S) := by show S.toArray.toList = S; simp
    have HC : Hid (crc ⟨S.toArray⟩ = Cx.sum S) := rfl
    generalize (⟨S.toArray⟩ : ByteArray) = D at *
    have hB2 : Below B u u2 := hb2.mono HU.out
    have HU2 : Hid (B ≤ u2.heap.size) := Nat.le_trans HU.out hb2.size
    go_wp2_with fail
    refine (addNumber _ _ [] B _ (OwnB.nil _ _) HU2.out (by simp)).mono ?_
    rintro e u3 ⟨v3, rfl, ho3, hb3⟩
    have HU3 : Hid (B ≤ u3.heap.size) := Nat.le_trans HU2.out hb3.size
    have hB3 := hB2.trans hb3
    have hcs := csum D (by rw [hz]; unfold maxLen; omega)
    go_wp2_with (at_builtin; refine Lib.wpList_append_own_string _ rfl (.tmp 15) (.tmp 16) 43 9 rfl B 5 i0 Tryz.underlying43 Tryz.underlying9 hi0 hz0 hz1 hz2 _ _ _ (by rfl) ho3 _ (by rfl) (by rw [hz]; simp [Wx.four_len]; unfold maxLen; omega) (by rw [hz]; simp [Wx.four_len]; omega) HU3.out ?_; intro v4 u4 ho4 hg4 hn4)
    have hb4 : Below B u3 u4 := (Below.refl _ _).grown hg4 HU3.out (fun g hg => (ho3.lt g hg).1)
    have HU4 : Hid (B ≤ u4.heap.size) := Nat.le_trans HU3.out hb4.size
    have ho5 : OwnB u4 B v4 (Wx.four (Wx.un (44 + 4 * (xn : Int) + 4)) ++ S) := by
      unfold OwnB
      unfold Lib.strCells at ho4
      rw [hz, HD.out, List.nil_append, ← List.map_append] at ho4
      rw [List.length_append, HS0.out]
      exact ho4
    have HN5 : Hid ((Wx.four (Wx.un (44 + 4 * (xn : Int) + 4)) ++ S).length = 48 + 4 * xn) := by show _ = _; rw [List.length_append, HS0.out, Wx.four_len]; omega
    refine by_same (hcs _) ?_
    clear ho3 ho4 hg4 hn4
    go_wp2_with fail
    refine (addNumber _ _ _ B _ ho5 HU4.out (by rw [HN5.out]; omega)).mono ?_
    rintro e u6 ⟨v6, rfl, ho6, hb6⟩
    rw [HC.out, show (44 + 4 * (xn : Int) + 4) = ((44 + 4 * xn + 4 : Nat) : Int) by omega, ← HQ.out] at ho6
    have hback := ho6.back (by rw [HQ.out, List.length_append]; simp [Wx.four_len])
    have hend := hBel.trans (((hB3.trans hb4).trans hb6).mono HBW.out)
    go_wp2
    go_ret2
    exact ⟨rfl, hend⟩
  · rw [putS_no hp, putE_no hp]
    go_enter Tryz.func127, Tryz.ntmps127
    go_wp2_with fail
    refine (wright x0 x1 x2 x3 x4 x5 x6 x7 x8 x9 xa xn xc l _ (hr.keep (new_bel w _))).mono ?_
    rintro e u ⟨hs, hb⟩
    have hBel := (new_bel w _).trans (hb.mono (by rw [← HB.out]; exact HBW.out))
    rw [hs.not hp]
    go_wp2
    go_ret2
    exact ⟨rfl, hBel⟩

end Go.Proofs.YtokfcjgfpchffaaGreatDoor

/- What Take of package wire and what it calls do when called: bytes, as a message. -/
namespace Go.Proofs.YtokfcjgfpchffaaGreatDoor
open Go.ChangeShapes Go.WideShapes Go.ChangeAt Go.RowKit

theorem Box.all11 {u : World} {b : Nat} {t : TypeId} {p0 p1 p2 p3 p4 p5 p6 p7 p8 p9 p10 : Value} (h : Box u b t #[p0, p1, p2, p3, p4, p5, p6, p7, p8, p9, p10]) (v0 v1 v2 v3 v4 v5 v6 v7 v8 v9 v10 : Value) : Box (((((((((((u.setCell ⟨b, 0, none⟩ v0).setCell ⟨b, 1, none⟩ v1).setCell ⟨b, 2, none⟩ v2).setCell ⟨b, 3, none⟩ v3).setCell ⟨b, 4, none⟩ v4).setCell ⟨b, 5, none⟩ v5).setCell ⟨b, 6, none⟩ v6).setCell ⟨b, 7, none⟩ v7).setCell ⟨b, 8, none⟩ v8).setCell ⟨b, 9, none⟩ v9).setCell ⟨b, 10, none⟩ v10) b t #[v0, v1, v2, v3, v4, v5, v6, v7, v8, v9, v10] := by
  have := ((((((((((h.set 0 v0).set 1 v1).set 2 v2).set 3 v3).set 4 v4).set 5 v5).set 6 v6).set 7 v7).set 8 v8).set 9 v9).set 10 v10
  simp only [List.setIfInBounds_toArray, List.set_cons_zero, List.set_cons_succ] at this
  exact this
theorem bel_all11 {B : Nat} {a u : World} (h : Below B a u) {b : Nat} (hb : B ≤ b) (v0 v1 v2 v3 v4 v5 v6 v7 v8 v9 v10 : Value) : Below B a (((((((((((u.setCell ⟨b, 0, none⟩ v0).setCell ⟨b, 1, none⟩ v1).setCell ⟨b, 2, none⟩ v2).setCell ⟨b, 3, none⟩ v3).setCell ⟨b, 4, none⟩ v4).setCell ⟨b, 5, none⟩ v5).setCell ⟨b, 6, none⟩ v6).setCell ⟨b, 7, none⟩ v7).setCell ⟨b, 8, none⟩ v8).setCell ⟨b, 9, none⟩ v9).setCell ⟨b, 10, none⟩ v10) := bel_put (bel_put (bel_put (bel_put (bel_put (bel_put (bel_put (bel_put (bel_put (bel_put (bel_put h hb v0) hb v1) hb v2) hb v3) hb v4) hb v5) hb v6) hb v7) hb v8) hb v9) hb v10

theorem grown_all11 (u : World) (b : Nat) (v0 v1 v2 v3 v4 v5 v6 v7 v8 v9 v10 : Value) : u.grownBy (((((((((((u.setCell ⟨b, 0, none⟩ v0).setCell ⟨b, 1, none⟩ v1).setCell ⟨b, 2, none⟩ v2).setCell ⟨b, 3, none⟩ v3).setCell ⟨b, 4, none⟩ v4).setCell ⟨b, 5, none⟩ v5).setCell ⟨b, 6, none⟩ v6).setCell ⟨b, 7, none⟩ v7).setCell ⟨b, 8, none⟩ v8).setCell ⟨b, 9, none⟩ v9).setCell ⟨b, 10, none⟩ v10) (some b) := grown_then (grown_then (grown_then (grown_then (grown_then (grown_then (grown_then (grown_then (grown_then (grown_then (grown_then (grown_refl u (some b)) (grown_set _ b 0 v0)) (grown_set _ b 1 v1)) (grown_set _ b 2 v2)) (grown_set _ b 3 v3)) (grown_set _ b 4 v4)) (grown_set _ b 5 v5)) (grown_set _ b 6 v6)) (grown_set _ b 7 v7)) (grown_set _ b 8 v8)) (grown_set _ b 9 v9)) (grown_set _ b 10 v10)
theorem Box.set10 {u : World} {b : Nat} {t : TypeId} {p0 p1 p2 p3 p4 p5 p6 p7 p8 p9 p10 : Value} (h : Box u b t #[p0, p1, p2, p3, p4, p5, p6, p7, p8, p9, p10]) (v : Value) : Box (u.setCell ⟨b, 10, none⟩ v) b t #[p0, p1, p2, p3, p4, p5, p6, p7, p8, p9, v] := by
  have := h.set 10 v
  simp only [List.setIfInBounds_toArray, List.set_cons_zero, List.set_cons_succ] at this
  exact this

theorem Tryz.infoMsg : (Tryz.prog.info? 100).map (·.size) = some 11 := by kernel_rfl
/-- A function whose results are a message and one more, the message in a variable. -/
theorem ret_box {fn : Func} {R : Ending → World → Prop} {a : Act} {u : World} {b : Nat} {cs : Array Value} {p q : Tmp} {v2 : Value} (hres : fn.results = #[.cell p 100, .tmp q]) (hd : a.defers = [])
    (hp : a.tmps.getD p undef = .pointer (some ⟨b, 0, none⟩)) (hq : a.tmps.getD q undef = v2) (hB : Box u b 100 cs) (hsz : cs.size = 11) (hR : R (.returned (.tuple #[.agg cs, v2])) u) : bodyPost Tryz.prog fn R .ret a u := by
  have hld := run_loadVar_row (P := Tryz.prog) u b 100 100 cs (0, 0) _ hB Tryz.underlying100 rfl (by rw [Tryz.infoMsg, hsz])
  refine bodyPost_ret (v := .tuple #[.agg cs, v2]) ?_ hd hR
  rw [results_cell_tmp hres, hp, hq]
  simp [asAddr, Result.andThen, hld]

/-- The numbers ahead of Vec, as they are read. -/
def head10 (s : List UInt8) : List Int := (List.range 10).map fun i => (Wx.at4 s (4 * i) : Int)
def bvec (s : List UInt8) : List Int := (List.range (Wx.at4 s 40)).map fun i => Wx.sg (Wx.at4 s (44 + 4 * i))
def Counts (s : List UInt8) : Prop := Wx.at4 s 40 ≤ 8 ∧ s.length = 44 + 4 * Wx.at4 s 40
theorem head10_len (s : List UInt8) : (head10 s).length = 10 := by simp [head10]
theorem head10_at (s : List UInt8) {k : Nat} (h : k < 10) : (head10 s).getD k 0 = (Wx.at4 s (4 * k) : Int) := by
  rw [List.getD_eq_getElem?_getD]; simp [head10, h]
theorem bvec_len (s : List UInt8) : (bvec s).length = Wx.at4 s 40 := by simp [bvec]
theorem bvec_at (s : List UInt8) {k : Nat} (h : k < Wx.at4 s 40) : (bvec s).getD k 0 = Wx.sg (Wx.at4 s (44 + 4 * k)) := by
  rw [List.getD_eq_getElem?_getD]; simp [bvec, h]

theorem ten_of {l : List Int} (h : l.length = 10) : ∃ y0 y1 y2 y3 y4 y5 y6 y7 y8 y9, l = [y0, y1, y2, y3, y4, y5, y6, y7, y8, y9] := by
  match l, h with
  | [y0, y1, y2, y3, y4, y5, y6, y7, y8, y9], _ => exact ⟨y0, y1, y2, y3, y4, y5, y6, y7, y8, y9, rfl⟩

set_option maxRecDepth 100000 in
set_option maxHeartbeats 1000000 in
theorem messageOf (s : ByteArray) (h44 : 44 ≤ s.size) (hs : s.size ≤ maxLen) (w : World) : Calls Tryz.prog 93 #[.string s] w fun e w' => Below w.heap.size w w' ∧
    ((¬ Counts s.data.toList ∧ e = .returned (.tuple #[.agg #[.int .i64 0, .int .i64 0, .int .i64 0, .int .i64 0, .int .i64 0, .int .i64 0, .int .i64 0, .int .i64 0, .int .i64 0, .int .i64 0, .slice none 0 0], .bool false])) ∨
      (Counts s.data.toList ∧ ∃ y0 y1 y2 y3 y4 y5 y6 y7 y8 y9, head10 s.data.toList = [y0, y1, y2, y3, y4, y5, y6, y7, y8, y9] ∧ ∃ ya yn yc, e = .returned (.tuple #[.agg #[.int .i64 y0, .int .i64 y1, .int .i64 y2, .int .i64 y3, .int .i64 y4, .int .i64 y5, .int .i64 y6, .int .i64 y7, .int .i64 y8, .int .i64 y9, .slice ya yn yc], .bool true]) ∧ rowS.rep w' (w.heap.size ≤ ·) [.slice ya yn yc] (bvec s.data.toList))) := by
  have hm : s.size ≤ 9223372036854775807 := hs
  have HSL : Hid (s.data.toList.length = s.size) := by show _ = _; rw [Array.length_toList]; rfl
  obtain ⟨N, hN⟩ : ∃ N, w.heap.size = N := ⟨_, rfl⟩
  go_enter Tryz.func93, Tryz.ntmps93
  go_wp2
  go_loopw [9] (fun i wr => ∃ k : Nat, k ≤ 10 ∧ i = .int .i64 k ∧ Below N w wr ∧ Box wr N 100 #[.int .i64 0, .int .i64 0, .int .i64 0, .int .i64 0, .int .i64 0, .int .i64 0, .int .i64 0, .int .i64 0, .int .i64 0, .int .i64 0, .slice none 0 0] ∧ Box wr (N + 1) 174 ((fill ((head10 s.data.toList).take k) 10).map (Value.int .i64)).toArray) (fun i _ => 10 - (intOf i).toNat)
  case atStart =>
    subst hN
    refine ⟨0, Nat.zero_le _, rfl, bel_alloc (new_bel w _) _, (Box.new w _ _).keep (new_bel _ _), ?_⟩
    have := Box.new (w.alloc (.cells #[.int .i64 0, .int .i64 0, .int .i64 0, .int .i64 0, .int .i64 0, .int .i64 0, .int .i64 0, .int .i64 0, .int .i64 0, .int .i64 0, .slice none 0 0] 100)) 174 #[.int .i64 0, .int .i64 0, .int .i64 0, .int .i64 0, .int .i64 0, .int .i64 0, .int .i64 0, .int .i64 0, .int .i64 0, .int .i64 0]
    simpa [fill, List.replicate] using this
  case round =>
    obtain ⟨k, hk, rfl, hbel, hz, hh⟩ := hrel
    by_cases hlt : k < 10
    · have hli : (k : Int) < 10 := by omega
      have HT : Hid (((head10 s.data.toList).take k).length = k) := by show _ = _; rw [List.length_take, head10_len]; omega
      have HF : Hid ((fill ((head10 s.data.toList).take k) 10).set k (Wx.at4 s.data.toList (4 * k) : Nat) = fill ((head10 s.data.toList).take (k + 1)) 10) := by
        show _ = _
        rw [take_snoc _ _ (by rw [head10_len]; exact hlt), head10_at _ hlt]
        have := fill_set ((head10 s.data.toList).take k) 10 (Wx.at4 s.data.toList (4 * k) : Nat) (by rw [HT.out]; exact hlt)
        rw [HT.out] at this
        exact this
      obtain ⟨z, hzk⟩ := fill_get ((head10 s.data.toList).take k) 10 k hlt (by rw [HT.out]; omega)
      have HZK : Hid (((fill ((head10 s.data.toList).take k) 10).map (Value.int .i64)).toArray[k]? = some (.int .i64 z)) := by show _ = _; simpa using hzk
      clear hzk
      go_wp2_with fail
      refine (numberAt s _ (4 * k) ⟨by omega, by omega, hs⟩ _).mono ?_
      rintro e u3 ⟨rfl, hb3⟩
      have hz3 := hz.keep hb3
      have hh3 := hh.keep hb3
      have hc3 := hh3.cell k HZK.out
      have hf3 := hh3.free k
      have hbel3 := hbel.trans (hb3.mono (by have := hbel.size; omega))
      have hh4 := hh3.set k (.int .i64 (Wx.at4 s.data.toList (4 * k) : Nat))
      have hz4 := hz3.other (b2 := N + 1) (i := k) (.int .i64 (Wx.at4 s.data.toList (4 * k) : Nat)) (by omega)
      have hb4 := bel_put hbel3 (b := N + 1) (i := k) (by omega) (.int .i64 (Wx.at4 s.data.toList (4 * k) : Nat))
      clear hz hh hz3 hh3 hb3 hbel hbel3
      generalize Wx.at4 s.data.toList (4 * k) = x at *
      go_wp2
      go_roundw
      case rel =>
        refine ⟨k + 1, by omega, by go_num, hb4, hz4, ?_⟩
        rw [← HF.out]
        simpa using hh4
      case measure => simp [intOf]; omega
    · have hk10 : k = 10 := by omega
      subst hk10
      have hli : ¬ ((10 : Nat) : Int) < 10 := by omega
      have HA : Hid (fill ((head10 s.data.toList).take 10) 10 = head10 s.data.toList) := by show _ = _; rw [List.take_of_length_le (by rw [head10_len]; exact Nat.le_refl _), fill_full _ _ (head10_len _)]
      rw [HA.out] at hh
      have hx := Wx.at4_lt s.data.toList 40
      have HV : Hid ((bvec s.data.toList).length = Wx.at4 s.data.toList 40) := bvec_len _
      have HW : Hid (∀ k, k < Wx.at4 s.data.toList 40 → (bvec s.data.toList).getD k 0 = Wx.sg (Wx.at4 s.data.toList (44 + 4 * k))) := fun k hk => bvec_at _ hk
      have HC : Hid (Counts s.data.toList ↔ Wx.at4 s.data.toList 40 ≤ 8 ∧ s.size = 44 + 4 * Wx.at4 s.data.toList 40) := by
        show _ ↔ _
        unfold Counts
        rw [HSL.out]
      have HN : Hid _ := numberAt s 40 40 ⟨rfl, by omega, hs⟩
      obtain ⟨n, hn⟩ : ∃ n, n = Wx.at4 s.data.toList 40 := ⟨_, rfl⟩
      rw [← hn] at hx HV HW HC HN
      clear hn
      by_cases h8 : 8 < n
      · have q8 : (8 : Int) < (n : Int) := by omega
        go_wp2_with fail
        refine (HN.out _).mono ?_
        rintro e u3 ⟨rfl, hb3⟩
        have hz3 := hz.keep hb3
        have hbel3 := hbel.trans (hb3.mono (by have := hbel.size; omega))
        have f0 := hz3.free 0
        have f1 := hz3.free 1
        have f2 := hz3.free 2
        have f3 := hz3.free 3
        have f4 := hz3.free 4
        have f5 := hz3.free 5
        have f6 := hz3.free 6
        have f7 := hz3.free 7
        have f8 := hz3.free 8
        have f9 := hz3.free 9
        have f10 := hz3.free 10
        have c0 := hz3.cell 0 rfl
        have c1 := hz3.cell 1 rfl
        have c2 := hz3.cell 2 rfl
        have c3 := hz3.cell 3 rfl
        have c4 := hz3.cell 4 rfl
        have c5 := hz3.cell 5 rfl
        have c6 := hz3.cell 6 rfl
        have c7 := hz3.cell 7 rfl
        have c8 := hz3.cell 8 rfl
        have c9 := hz3.cell 9 rfl
        have c10 := hz3.cell 10 rfl
        go_wp2
        refine ret_box rfl rfl rfl rfl (hz3.all11 _ _ _ _ _ _ _ _ _ _ _) rfl ?_
        exact ⟨hN ▸ bel_all11 hbel3 (Nat.le_refl _) _ _ _ _ _ _ _ _ _ _ _, .inl ⟨fun h => by have := (HC.out.1 h).1; omega, rfl⟩⟩
      have q8 : ¬ (8 : Int) < (n : Int) := by omega
      by_cases hsz : s.size = 44 + 4 * n
      · have qn : (((s.size : Nat) : Int) != 44 + (n : Int) * 4) = false := by rw [bne_eq_false_iff_eq]; omega
        obtain ⟨y0, y1, y2, y3, y4, y5, y6, y7, y8, y9, hy⟩ := ten_of (head10_len s.data.toList)
        have HY : Hid (head10 s.data.toList = [y0, y1, y2, y3, y4, y5, y6, y7, y8, y9]) := hy
        rw [hy] at hh
        have HSZ : Hid (s.size = 44 + 4 * n) := hsz
        clear hy hsz HA
        go_wp2_with fail
        refine (HN.out _).mono ?_
        rintro e u3 ⟨rfl, hb3⟩
        have hz3 := hz.keep hb3
        have hh3 : Box u3 (N + 1) 174 #[.int .i64 y0, .int .i64 y1, .int .i64 y2, .int .i64 y3, .int .i64 y4, .int .i64 y5, .int .i64 y6, .int .i64 y7, .int .i64 y8, .int .i64 y9] := hh.keep hb3
        have hbel3 := hbel.trans (hb3.mono (by have := hbel.size; omega))
        have d0 := hh3.cell 0 rfl
        have d1 := hh3.cell 1 rfl
        have d2 := hh3.cell 2 rfl
        have d3 := hh3.cell 3 rfl
        have d4 := hh3.cell 4 rfl
        have d5 := hh3.cell 5 rfl
        have d6 := hh3.cell 6 rfl
        have d7 := hh3.cell 7 rfl
        have d8 := hh3.cell 8 rfl
        have d9 := hh3.cell 9 rfl
        clear hz hh hb3 hbel
        go_wp2_with fail
        refine (withHead y0 y1 y2 y3 y4 y5 y6 y7 y8 y9 _).mono ?_
        rintro e u4 ⟨rfl, hb4⟩
        have hz4 := hz3.keep hb4
        have hbel4 := hbel3.trans (hb4.mono (by have := hbel3.size; omega))
        clear hz3 hh3 hb4 hbel3 d0 d1 d2 d3 d4 d5 d6 d7 d8 d9
        obtain ⟨M, hM⟩ : ∃ M, u4.heap.size = M := ⟨_, rfl⟩
        have HNM : Hid (N < M) := by show _ < _; rw [← hM]; exact hz4.lt
        obtain ⟨i0, hi0, hi1, hi2, hi3⟩ := info_parts Tryz.infoInt
        go_wp2
        go_loopw [35] (fun i wr => ∃ (k : Nat) (va : Option Addr) (vc : Nat), k ≤ n ∧ i = .int .i64 k ∧ Box wr M 100 #[.int .i64 y0, .int .i64 y1, .int .i64 y2, .int .i64 y3, .int .i64 y4, .int .i64 y5, .int .i64 y6, .int .i64 y7, .int .i64 y8, .int .i64 y9, .slice va k vc] ∧ Own (intS .i64) wr (M + 1) 3 (.slice va k vc) ((bvec s.data.toList).take k) ∧ Below M u4 wr) (fun i _ => n - (intOf i).toNat)
        case atStart =>
          subst hM
          exact ⟨0, none, 0, Nat.zero_le _, rfl, Box.new _ _ _, Own.nil _ _ _ _, new_bel _ _⟩
        case round =>
          obtain ⟨k, va, vc, hk, rfl, hbox, hown, hbl⟩ := hrel
          by_cases hlt : k < n
          · have hli : (k : Int) < (n : Int) := by omega
            have HT : Hid (((bvec s.data.toList).take k).length = k) := by show _ = _; rw [List.length_take, HV.out]; omega
            have HS : Hid ((bvec s.data.toList).take (k + 1) = (bvec s.data.toList).take k ++ [Wx.sg (Wx.at4 s.data.toList (44 + 4 * k))]) := by
              show _ = _
              rw [take_snoc _ _ (by rw [HV.out]; exact hlt), HW.out k hlt]
            have hx4 := Wx.at4_lt s.data.toList (44 + 4 * k)
            have HNA : Hid (∀ i : Int, i = 44 + (k : Int) * 4 → ∀ w, Calls Tryz.prog 91 #[.string s, .int .i64 i] w fun e w' => e = .returned (.int .i64 (Wx.at4 s.data.toList (44 + 4 * k) : Nat)) ∧ Below w.heap.size w w') := fun i hi => numberAt s i (44 + 4 * k) ⟨by omega, by have := HSZ.out; omega, hs⟩
            generalize Wx.at4 s.data.toList (44 + 4 * k) = x at *
            have HSG : Hid _ := signed x hx4
            generalize Wx.sg x = z at *
            have hc0 := hbox.cell 10 rfl
            have wk1 : IntKind.i64.wrap ((k : Int) * 4) = (k : Int) * 4 := by rw [IntKind.wrap_i64]; omega
            have wk2 : IntKind.i64.wrap (44 + (k : Int) * 4) = 44 + (k : Int) * 4 := by rw [IntKind.wrap_i64]; omega
            have hne : some M ≠ Value.ownBlock (.slice va k vc) := fun h => by have := (hown.lt M h.symm).1; omega
            go_wp2
            go_region_law
              (first
                | (refine step_app (intS .i64) (by simp [Region.wanted]) (.tmp 39) (.tmp 46) 31 (by rfl) (M + 1) 3 i0 (.int .i64 0) 8 Tryz.underlying31 hi0 hi1 hi2 hi3 rfl Nat.one_pos (by omega) (by rfl) (ho5.keep (new_bel u5 _)) (by rfl) (ho5.src z).1 (ho5.src z).2 (by rw [HT.out]; omega) (by have := hbox5.lt; simp; omega) (k + 1) (by rw [HT.out]) _ rfl ?_; intro a6 c6 u6 ho6 hg6 hb6 hat6; have hbox6 := (hbox5.keep (new_bel u5 _)).grown hg6 hne; have hc6 := hbox6.cell 10 rfl; have hf6 := hbox6.free 10)
                | (go_simp; go_wp2_with (first
                    | (go_at_call 91; refine (HNA.out _ (by omega) _).mono ?_; rintro e u5 ⟨rfl, hb5'⟩; have hb5 := (Below.refl wr.heap.size wr).drew.trans hb5'; have hbox5 := hbox.keep hb5; have hc5 := hbox5.cell 10 rfl; have hd5 := (hbox5.keep (new_bel u5 (.cells #[.int .i64 z] 3))).cell 10 rfl; have ho5 := hown.keep hb5)
                    | (go_at_call 130; refine by_same (HSG.out _) ?_))))
            all_goals
              go_wp2
              go_roundw
              case rel =>
                refine ⟨k + 1, a6, c6, by omega, by go_num, hbox6.set10 _, ?_, ?_⟩
                · rw [HS.out]
                  exact Own.other ho6 (grown_set u6 M 10 _) (fun b hb h => by have := (ho6.lt b hb).1; have := Option.some.inj h; omega)
                · refine bel_put (hbl.trans ((hb5.mono (by have := hbox.lt; omega)).trans (((Below.refl _ _).alloc (by have := hbox5.lt; omega) _).trans (hb6.mono (by omega))))) (Nat.le_refl _) _
              case measure => simp [intOf]; omega
          · have hkn : k = n := by omega
            subst hkn
            have hli : ¬ (k : Int) < (k : Int) := by omega
            have HA2 : Hid ((bvec s.data.toList).take k = bvec s.data.toList) := List.take_of_length_le (by rw [HV.out]; exact Nat.le_refl _)
            rw [HA2.out] at hown
            have hz5 := hz4.below hbl HNM.out
            have f0 := hz5.free 0
            have f1 := hz5.free 1
            have f2 := hz5.free 2
            have f3 := hz5.free 3
            have f4 := hz5.free 4
            have f5 := hz5.free 5
            have f6 := hz5.free 6
            have f7 := hz5.free 7
            have f8 := hz5.free 8
            have f9 := hz5.free 9
            have f10 := hz5.free 10
            have c0 := hz5.cell 0 rfl
            have c1 := hz5.cell 1 rfl
            have c2 := hz5.cell 2 rfl
            have c3 := hz5.cell 3 rfl
            have c4 := hz5.cell 4 rfl
            have c5 := hz5.cell 5 rfl
            have c6 := hz5.cell 6 rfl
            have c7 := hz5.cell 7 rfl
            have c8 := hz5.cell 8 rfl
            have c9 := hz5.cell 9 rfl
            have c10 := hz5.cell 10 rfl
            have d0 := hbox.cell 0 rfl
            have d1 := hbox.cell 1 rfl
            have d2 := hbox.cell 2 rfl
            have d3 := hbox.cell 3 rfl
            have d4 := hbox.cell 4 rfl
            have d5 := hbox.cell 5 rfl
            have d6 := hbox.cell 6 rfl
            have d7 := hbox.cell 7 rfl
            have d8 := hbox.cell 8 rfl
            have d9 := hbox.cell 9 rfl
            have d10 := hbox.cell 10 rfl
            go_wp2
            refine ret_box rfl rfl rfl rfl (hz5.all11 _ _ _ _ _ _ _ _ _ _ _) rfl ?_
            refine ⟨hN ▸ bel_all11 (hbel4.trans (hbl.mono (Nat.le_of_lt HNM.out))) (Nat.le_refl _) _ _ _ _ _ _ _ _ _ _ _, .inr ⟨HC.out.2 ⟨by omega, HSZ.out⟩, y0, y1, y2, y3, y4, y5, y6, y7, y8, y9, HY.out, va, k, vc, rfl, ?_⟩⟩
            refine Shape.mono _ (Own.high (Own.other hown (grown_all11 wr N _ _ _ _ _ _ _ _ _ _ _) (fun b hb h => by have := (hown.lt b hb).1; have := Option.some.inj h; have := HNM.out; omega))) (fun b hb _ => by have h2 : M + 1 ≤ b := hb; have := HNM.out; show _ ≤ _; omega)
      · have qn : (((s.size : Nat) : Int) != 44 + (n : Int) * 4) = true := by rw [bne_iff_ne]; omega
        go_wp2_with fail
        refine (HN.out _).mono ?_
        rintro e u3 ⟨rfl, hb3⟩
        have hz3 := hz.keep hb3
        have hbel3 := hbel.trans (hb3.mono (by have := hbel.size; omega))
        have f0 := hz3.free 0
        have f1 := hz3.free 1
        have f2 := hz3.free 2
        have f3 := hz3.free 3
        have f4 := hz3.free 4
        have f5 := hz3.free 5
        have f6 := hz3.free 6
        have f7 := hz3.free 7
        have f8 := hz3.free 8
        have f9 := hz3.free 9
        have f10 := hz3.free 10
        have c0 := hz3.cell 0 rfl
        have c1 := hz3.cell 1 rfl
        have c2 := hz3.cell 2 rfl
        have c3 := hz3.cell 3 rfl
        have c4 := hz3.cell 4 rfl
        have c5 := hz3.cell 5 rfl
        have c6 := hz3.cell 6 rfl
        have c7 := hz3.cell 7 rfl
        have c8 := hz3.cell 8 rfl
        have c9 := hz3.cell 9 rfl
        have c10 := hz3.cell 10 rfl
        go_wp2
        refine ret_box rfl rfl rfl rfl (hz3.all11 _ _ _ _ _ _ _ _ _ _ _) rfl ?_
        exact ⟨hN ▸ bel_all11 hbel3 (Nat.le_refl _) _ _ _ _ _ _ _ _ _ _ _, .inl ⟨fun h => hsz (HC.out.1 h).2, rfl⟩⟩

end Go.Proofs.YtokfcjgfpchffaaGreatDoor

/- What Take of package wire does when called. -/
namespace Go.Proofs.YtokfcjgfpchffaaGreatDoor
open Go.ChangeShapes Go.WideShapes Go.ChangeAt Go.RowKit

theorem inner_len (s : List UInt8) : (Wx.inner s).length = s.length - 8 := by unfold Wx.inner; rw [List.length_take, List.length_drop]; omega
theorem at4_inner (s : List UInt8) (i : Nat) (h : i + 12 ≤ s.length) : Wx.at4 (Wx.inner s) i = Wx.at4 s (4 + i) := by
  have e : ∀ k, k + 8 < s.length → (Wx.inner s).getD k 0 = s.getD (4 + k) 0 := by
    intro k hk
    unfold Wx.inner
    rw [List.getD_eq_getElem?_getD, List.getD_eq_getElem?_getD, List.getElem?_take, if_pos (by omega), List.getElem?_drop]
  unfold Wx.at4
  rw [e i (by omega), e (i + 1) (by omega), e (i + 2) (by omega), e (i + 3) (by omega)]
  rfl
theorem head10_inner {s : List UInt8} (h : Wx.formed s) : head10 (Wx.inner s) = Wx.ten (Wx.msgOf s) := by
  have hl := h.1
  have e : ∀ i, i < 10 → Wx.at4 (Wx.inner s) (4 * i) = Wx.at4 s (4 + 4 * i) := fun i hi => at4_inner s _ (by omega)
  show [(Wx.at4 (Wx.inner s) (4 * 0) : Int), Wx.at4 (Wx.inner s) (4 * 1), Wx.at4 (Wx.inner s) (4 * 2), Wx.at4 (Wx.inner s) (4 * 3), Wx.at4 (Wx.inner s) (4 * 4), Wx.at4 (Wx.inner s) (4 * 5), Wx.at4 (Wx.inner s) (4 * 6), Wx.at4 (Wx.inner s) (4 * 7), Wx.at4 (Wx.inner s) (4 * 8), Wx.at4 (Wx.inner s) (4 * 9)] = _
  rw [e 0 (by omega), e 1 (by omega), e 2 (by omega), e 3 (by omega), e 4 (by omega), e 5 (by omega), e 6 (by omega), e 7 (by omega), e 8 (by omega), e 9 (by omega)]
  rfl
theorem counts_inner {s : List UInt8} (h : Wx.formed s) : Counts (Wx.inner s) ↔ Wx.at4 s 44 = (s.length - 52) / 4 ∧ Wx.at4 s 44 ≤ 8 := by
  obtain ⟨h1, _, h3⟩ := h
  unfold Counts
  rw [show Wx.at4 (Wx.inner s) 40 = Wx.at4 s 44 from at4_inner s 40 (by omega), inner_len]
  constructor
  · rintro ⟨a, b⟩; exact ⟨by omega, a⟩
  · rintro ⟨a, b⟩; exact ⟨b, by omega⟩
theorem vecOf_len (s : List UInt8) : (Wx.vecOf s).length = (s.length - 52) / 4 := by simp [Wx.vecOf]
theorem bvec_inner {s : List UInt8} (h : Wx.formed s) (hc : Counts (Wx.inner s)) : bvec (Wx.inner s) = Wx.vecOf s := by
  have h1 := h.1
  obtain ⟨ha, _⟩ := (counts_inner h).1 hc
  unfold bvec Wx.vecOf
  rw [show Wx.at4 (Wx.inner s) 40 = Wx.at4 s 44 from at4_inner s 40 (by omega), ha]
  apply List.map_congr_left
  intro i hi
  have := List.mem_range.1 hi
  rw [at4_inner s (44 + 4 * i) (by omega), show 4 + (44 + 4 * i) = 48 + 4 * i by omega]
theorem told_inner {s : List UInt8} (h : Wx.formed s) : Wx.told s ↔ Counts (Wx.inner s) ∧ Wx.right (Wx.msgOf s) := by
  rw [counts_inner h]
  unfold Wx.told
  rw [vecOf_len]
  constructor
  · rintro ⟨a, b⟩
    have h8 : (Wx.vecOf s).length ≤ 8 := b.2.2.2.1
    rw [vecOf_len] at h8
    exact ⟨⟨a, by omega⟩, b⟩
  · rintro ⟨⟨a, _⟩, b⟩; exact ⟨a, b⟩

/-- The bytes that the sum is of, cut out. -/
theorem cut_inner (s : ByteArray) (h : 52 ≤ s.size) : ∃ D : ByteArray, (∀ w : World, (Instr.slice 9 (.string s) (some (.int .i64 4)) (some (.int .i64 ((s.size : Int) - 4))) none).run Tryz.prog w = .ok (.string D) w) ∧ D.data.toList = Wx.inner s.data.toList ∧ D.size = s.size - 8 := by
  refine ⟨s.extract 4 (s.size - 4), fun w => ?_, ?_, ?_⟩
  · have := run_slice_string (P := Tryz.prog) w 9 s .i64 .i64 4 ((s.size : Int) - 4) Tryz.underlying9 (by omega) (by omega) (by omega)
    rw [show ((s.size : Int) - 4).toNat = s.size - 4 by omega] at this
    exact this
  · have e : s = ByteArray.mk s.data.toList.toArray := by cases s; simp
    have hsz : s.data.toList.length = s.size := by rw [Array.length_toList]; rfl
    conv => lhs; rw [e, ByteArray.extract_mk]
    unfold Wx.inner
    rw [hsz]
    show (List.take (s.size - 4 - 4) (List.drop 4 s.data.toList)).toArray.toList = _
    rw [List.toList_toArray, show s.size - 4 - 4 = s.size - 8 by omega]
  · rw [ByteArray.size_extract]; omega

set_option maxRecDepth 100000 in
theorem wtakeH (s : ByteArray) (hs : s.size ≤ maxLen) (y0 y1 y2 y3 y4 y5 y6 y7 y8 y9 : Int) (l : List Int) (er : Int) (ht : Wx.take s.data.toList = (⟨y0, y1, y2, y3, y4, y5, y6, y7, y8, y9, l⟩, er)) (w : World) : Calls Tryz.prog 52 #[.string s] w fun e w' => Below w.heap.size w w' ∧
    ∃ ya yn yc, e = .returned (.tuple #[.agg #[.int .i64 y0, .int .i64 y1, .int .i64 y2, .int .i64 y3, .int .i64 y4, .int .i64 y5, .int .i64 y6, .int .i64 y7, .int .i64 y8, .int .i64 y9, .slice ya yn yc], .int .i64 er]) ∧ rowS.rep w' (w.heap.size ≤ ·) [.slice ya yn yc] l := by
  have hm : s.size ≤ 9223372036854775807 := hs
  have hsl : s.data.toList.length = s.size := by rw [Array.length_toList]; rfl
  obtain ⟨N, hN⟩ : ∃ N, w.heap.size = N := ⟨_, rfl⟩
  by_cases hf : Wx.formed s.data.toList
  · have h52 : 52 ≤ s.size := by have := hf.1; omega
    have HF : Hid (Wx.formed s.data.toList) := hf
    go_enter Tryz.func52, Tryz.ntmps52
    go_wp2_with fail
    refine (rightLength s hs _).mono ?_
    rintro e u ⟨hsay, hb⟩
    rw [hsay.is hf]
    have hz := (Box.new w 100 #[.int .i64 0, .int .i64 0, .int .i64 0, .int .i64 0, .int .i64 0, .int .i64 0, .int .i64 0, .int .i64 0, .int .i64 0, .int .i64 0, .slice none 0 0]).keep hb
    have hbel := bel_then (new_bel w _) hb
    clear hsay hb hf
    rw [hN] at hz
    obtain ⟨D, hD, hDl, hDs⟩ := cut_inner s h52
    have HDL : Hid (D.data.toList = Wx.inner s.data.toList) := hDl
    have HTI : Hid _ := told_inner HF.out
    have HHI : Hid _ := head10_inner HF.out
    have HBI : Hid _ := bvec_inner HF.out
    have hcs := csum D (by rw [hDs]; omega)
    have HCR : Hid (crc D = Cx.sum (Wx.inner s.data.toList)) := by show Cx.sum D.data.toList = _; rw [hDl]
    have HNA : Hid (∀ i : Int, i = (s.size : Int) - 4 → ∀ w, Calls Tryz.prog 91 #[.string s, .int .i64 i] w fun e w' => e = .returned (.int .i64 (Wx.at4 s.data.toList (s.size - 4) : Nat)) ∧ Below w.heap.size w w') := fun i hi => numberAt s i (s.size - 4) ⟨by omega, by omega, hs⟩
    have HSU : Hid (Wx.summed s.data.toList ↔ Wx.at4 s.data.toList (s.size - 4) = crc D) := by show _ ↔ _; unfold Wx.summed; rw [hsl, HCR.out]
    have hx := Wx.at4_lt s.data.toList (s.size - 4)
    have hy := crc_lt D
    generalize Wx.at4 s.data.toList (s.size - 4) = x at *
    generalize crc D = y at *
    clear hDl HCR
    by_cases hsu : x = y
    · have q : ((x : Int) != (y : Int)) = false := by rw [bne_eq_false_iff_eq]; omega
      have HS : Hid (Wx.summed s.data.toList) := HSU.out.2 hsu
      clear hsu
      go_wp2_with fail
      refine (HNA.out _ (by omega) _).mono ?_
      rintro e u2 ⟨rfl, hb2⟩
      have hz2 := hz.keep hb2
      have hbel2 := bel_then hbel hb2
      clear hz hb2 hbel
      go_wp2_with (go_at_call 92; refine by_same (hcs _) ?_)
      refine (messageOf D (by rw [hDs]; omega) (by rw [hDs]; omega) _).mono ?_
      rintro e u3 ⟨hb3, hcase⟩
      have hz3 := hz2.keep hb3
      have hbel3 := bel_then hbel2 hb3
      have HN2 : Hid (N < u2.heap.size) := hz2.lt
      clear hb3 hz2 hbel2
      rw [HDL.out] at hcase
      rcases hcase with ⟨hnc, rfl⟩ | ⟨hc, z0, z1, z2, z3, z4, z5, z6, z7, z8, z9, hh, za, zn, zc, rfl, hrep⟩
      · have h0 := ht.symm.trans (Wx.take_untold HF.out HS.out (fun h => hnc (HTI.out.1 h).1))
        cases h0
        have hz4 := hz3.keep (new_bel u3 (.cells #[.int .i64 0, .int .i64 0, .int .i64 0, .int .i64 0, .int .i64 0, .int .i64 0, .int .i64 0, .int .i64 0, .int .i64 0, .int .i64 0, .slice none 0 0] 100))
        have hbel4 := bel_alloc hbel3 (.cells #[.int .i64 0, .int .i64 0, .int .i64 0, .int .i64 0, .int .i64 0, .int .i64 0, .int .i64 0, .int .i64 0, .int .i64 0, .int .i64 0, .slice none 0 0] 100)
        have f0 := hz4.free 0
        have f1 := hz4.free 1
        have f2 := hz4.free 2
        have f3 := hz4.free 3
        have f4 := hz4.free 4
        have f5 := hz4.free 5
        have f6 := hz4.free 6
        have f7 := hz4.free 7
        have f8 := hz4.free 8
        have f9 := hz4.free 9
        have f10 := hz4.free 10
        have c0 := hz4.cell 0 rfl
        have c1 := hz4.cell 1 rfl
        have c2 := hz4.cell 2 rfl
        have c3 := hz4.cell 3 rfl
        have c4 := hz4.cell 4 rfl
        have c5 := hz4.cell 5 rfl
        have c6 := hz4.cell 6 rfl
        have c7 := hz4.cell 7 rfl
        have c8 := hz4.cell 8 rfl
        have c9 := hz4.cell 9 rfl
        have c10 := hz4.cell 10 rfl
        go_wp2
        refine ret_box rfl rfl rfl rfl (hz4.all11 _ _ _ _ _ _ _ _ _ _ _) rfl ?_
        exact ⟨bel_all11 hbel4 (by omega) _ _ _ _ _ _ _ _ _ _ _, none, 0, 0, rfl, rep_none _ _ _⟩
      · have HM : Hid (Wx.msgOf s.data.toList = ⟨z0, z1, z2, z3, z4, z5, z6, z7, z8, z9, bvec (Wx.inner s.data.toList)⟩) := by
          show _ = _
          rw [HHI.out] at hh
          rw [HBI.out hc]
          unfold Wx.ten Wx.msgOf at hh
          unfold Wx.msgOf
          injection hh with e0 hh
          injection hh with e1 hh
          injection hh with e2 hh
          injection hh with e3 hh
          injection hh with e4 hh
          injection hh with e5 hh
          injection hh with e6 hh
          injection hh with e7 hh
          injection hh with e8 hh
          injection hh with e9 hh
          simp only at e0 e1 e2 e3 e4 e5 e6 e7 e8 e9
          rw [e0, e1, e2, e3, e4, e5, e6, e7, e8, e9]
        have HT : Hid (Wx.told s.data.toList ↔ Wx.right ⟨z0, z1, z2, z3, z4, z5, z6, z7, z8, z9, bvec (Wx.inner s.data.toList)⟩) := by
          show _ ↔ _
          rw [HTI.out, HM.out]
          exact ⟨fun h => h.2, fun h => ⟨hc, h⟩⟩
        clear hh hc
        generalize bvec (Wx.inner s.data.toList) = r at *
        go_wp2_with fail
        refine (wright z0 z1 z2 z3 z4 z5 z6 z7 z8 z9 za zn zc r _ (Row.of_rep (Shape.below hrep (new_bel u3 _)))).mono ?_
        rintro e u4 ⟨hsay, hb4⟩
        have hz4 := (hz3.keep (new_bel u3 _)).keep hb4
        have hbel4 := bel_then (bel_alloc hbel3 _) hb4
        have hbz := (Box.new u3 100 #[.int .i64 z0, .int .i64 z1, .int .i64 z2, .int .i64 z3, .int .i64 z4, .int .i64 z5, .int .i64 z6, .int .i64 z7, .int .i64 z8, .int .i64 z9, .slice za zn zc]).keep hb4
        have hrep4 := Shape.below (Shape.below hrep (new_bel u3 _)) hb4
        clear hb4 hz3 hbel3 hrep
        by_cases hp : Wx.right ⟨z0, z1, z2, z3, z4, z5, z6, z7, z8, z9, r⟩
        · have h0 := ht.symm.trans (Wx.take_ok HF.out HS.out (HT.out.2 hp))
          rw [HM.out] at h0
          cases h0
          rw [hsay.is hp]
          have f0 := hz4.free 0
          have f1 := hz4.free 1
          have f2 := hz4.free 2
          have f3 := hz4.free 3
          have f4 := hz4.free 4
          have f5 := hz4.free 5
          have f6 := hz4.free 6
          have f7 := hz4.free 7
          have f8 := hz4.free 8
          have f9 := hz4.free 9
          have f10 := hz4.free 10
          have c0 := hz4.cell 0 rfl
          have c1 := hz4.cell 1 rfl
          have c2 := hz4.cell 2 rfl
          have c3 := hz4.cell 3 rfl
          have c4 := hz4.cell 4 rfl
          have c5 := hz4.cell 5 rfl
          have c6 := hz4.cell 6 rfl
          have c7 := hz4.cell 7 rfl
          have c8 := hz4.cell 8 rfl
          have c9 := hz4.cell 9 rfl
          have c10 := hz4.cell 10 rfl
          have d0 := hbz.cell 0 rfl
          have d1 := hbz.cell 1 rfl
          have d2 := hbz.cell 2 rfl
          have d3 := hbz.cell 3 rfl
          have d4 := hbz.cell 4 rfl
          have d5 := hbz.cell 5 rfl
          have d6 := hbz.cell 6 rfl
          have d7 := hbz.cell 7 rfl
          have d8 := hbz.cell 8 rfl
          have d9 := hbz.cell 9 rfl
          have d10 := hbz.cell 10 rfl
          clear hsay hp
          go_wp2
          refine ret_box rfl rfl rfl rfl (hz4.all11 _ _ _ _ _ _ _ _ _ _ _) rfl ?_
          refine ⟨bel_all11 hbel4 (by omega) _ _ _ _ _ _ _ _ _ _ _, za, zn, zc, rfl, ?_⟩
          refine Shape.mono _ (Shape.keep _ hrep4 (fun b hb hlt => (grown_all11 u4 N _ _ _ _ _ _ _ _ _ _ _).block b hlt (fun e => by have h2 := Option.some.inj e; have h3 : u2.heap.size ≤ b := hb; have := HN2.out; omega))) (fun b hb _ => ?_)
          have h3 : u2.heap.size ≤ b := hb
          have := HN2.out
          show w.heap.size ≤ b
          omega
        · have h0 := ht.symm.trans (Wx.take_untold HF.out HS.out (fun h => hp (HT.out.1 h)))
          cases h0
          rw [hsay.not hp]
          have f0 := hz4.free 0
          have f1 := hz4.free 1
          have f2 := hz4.free 2
          have f3 := hz4.free 3
          have f4 := hz4.free 4
          have f5 := hz4.free 5
          have f6 := hz4.free 6
          have f7 := hz4.free 7
          have f8 := hz4.free 8
          have f9 := hz4.free 9
          have f10 := hz4.free 10
          have c0 := hz4.cell 0 rfl
          have c1 := hz4.cell 1 rfl
          have c2 := hz4.cell 2 rfl
          have c3 := hz4.cell 3 rfl
          have c4 := hz4.cell 4 rfl
          have c5 := hz4.cell 5 rfl
          have c6 := hz4.cell 6 rfl
          have c7 := hz4.cell 7 rfl
          have c8 := hz4.cell 8 rfl
          have c9 := hz4.cell 9 rfl
          have c10 := hz4.cell 10 rfl
          clear hsay hp
          go_wp2
          refine ret_box rfl rfl rfl rfl (hz4.all11 _ _ _ _ _ _ _ _ _ _ _) rfl ?_
          exact ⟨bel_all11 hbel4 (by omega) _ _ _ _ _ _ _ _ _ _ _, none, 0, 0, rfl, rep_none _ _ _⟩
    · have q : ((x : Int) != (y : Int)) = true := by rw [bne_iff_ne]; omega
      have h0 := ht.symm.trans (Wx.take_unsummed HF.out (fun h => hsu (HSU.out.1 h)))
      cases h0
      go_wp2_with fail
      refine (HNA.out _ (by omega) _).mono ?_
      rintro e u2 ⟨rfl, hb2⟩
      have hz2 := hz.keep hb2
      have hbel2 := bel_then hbel hb2
      have f0 := hz2.free 0
      have f1 := hz2.free 1
      have f2 := hz2.free 2
      have f3 := hz2.free 3
      have f4 := hz2.free 4
      have f5 := hz2.free 5
      have f6 := hz2.free 6
      have f7 := hz2.free 7
      have f8 := hz2.free 8
      have f9 := hz2.free 9
      have f10 := hz2.free 10
      have c0 := hz2.cell 0 rfl
      have c1 := hz2.cell 1 rfl
      have c2 := hz2.cell 2 rfl
      have c3 := hz2.cell 3 rfl
      have c4 := hz2.cell 4 rfl
      have c5 := hz2.cell 5 rfl
      have c6 := hz2.cell 6 rfl
      have c7 := hz2.cell 7 rfl
      have c8 := hz2.cell 8 rfl
      have c9 := hz2.cell 9 rfl
      have c10 := hz2.cell 10 rfl
      go_wp2_with (go_at_call 92; refine by_same (hcs _) ?_)
      refine ret_box rfl rfl rfl rfl (hz2.all11 _ _ _ _ _ _ _ _ _ _ _) rfl ?_
      exact ⟨bel_all11 hbel2 (by omega) _ _ _ _ _ _ _ _ _ _ _, none, 0, 0, rfl, rep_none _ _ _⟩
  · have h0 := ht.symm.trans (Wx.take_unformed hf)
    cases h0
    go_enter Tryz.func52, Tryz.ntmps52
    go_wp2_with fail
    refine (rightLength s hs _).mono ?_
    rintro e u ⟨hsay, hb⟩
    rw [hsay.not hf]
    have hz := (Box.new w 100 #[.int .i64 0, .int .i64 0, .int .i64 0, .int .i64 0, .int .i64 0, .int .i64 0, .int .i64 0, .int .i64 0, .int .i64 0, .int .i64 0, .slice none 0 0]).keep hb
    have hbel := bel_then (new_bel w _) hb
    rw [hN] at hz
    have f0 := hz.free 0
    have f1 := hz.free 1
    have f2 := hz.free 2
    have f3 := hz.free 3
    have f4 := hz.free 4
    have f5 := hz.free 5
    have f6 := hz.free 6
    have f7 := hz.free 7
    have f8 := hz.free 8
    have f9 := hz.free 9
    have f10 := hz.free 10
    have c0 := hz.cell 0 rfl
    have c1 := hz.cell 1 rfl
    have c2 := hz.cell 2 rfl
    have c3 := hz.cell 3 rfl
    have c4 := hz.cell 4 rfl
    have c5 := hz.cell 5 rfl
    have c6 := hz.cell 6 rfl
    have c7 := hz.cell 7 rfl
    have c8 := hz.cell 8 rfl
    have c9 := hz.cell 9 rfl
    have c10 := hz.cell 10 rfl
    go_wp2
    refine ret_box rfl rfl rfl rfl (hz.all11 _ _ _ _ _ _ _ _ _ _ _) rfl ?_
    exact ⟨bel_all11 hbel (by omega) _ _ _ _ _ _ _ _ _ _ _, none, 0, 0, rfl, rep_none _ _ _⟩
end Go.Proofs.YtokfcjgfpchffaaGreatDoor
