/- What the smaller functions of package wire and the document's 'at' and 'four' do when called: numbers in four bytes. -/
import Derived.Test.YtfidgcanolegfaaGreatJw
import Derived.Test.YtfidgcanolegfaaGreatWx
import Derived.Test.YtfidgcanolegfaaGreatJa
namespace Go.Proofs.YtfidgcanolegfaaGreat
open Go.ChangeShapes Go.WideShapes Go.ChangeAt Go.RowKit

set_option maxRecDepth 100000 in
theorem numberAt (s : ByteArray) (i : Int) (k : Nat) (h : Four s i k) (w : World) : Calls Tryz.prog 92 #[.string s, .int .i64 i] w fun e w' => e = .returned (.int .i64 (Wx.at4 s.data.toList k : Nat)) ∧ Below w.heap.size w w' := by
  obtain ⟨rfl, hk, hf⟩ := h
  have hm : s.size ≤ 9223372036854775807 := hf
  have g0 : (k : Int) < (s.size : Int) := by omega
  have g1 : ((k : Int) + 1) < (s.size : Int) := by omega
  have g2 : ((k : Int) + 2) < (s.size : Int) := by omega
  have g3 : ((k : Int) + 3) < (s.size : Int) := by omega
  have n1 : 0 ≤ (k : Int) + 1 := by omega
  have n2 : 0 ≤ (k : Int) + 2 := by omega
  have n3 : 0 ≤ (k : Int) + 3 := by omega
  clear hk
  have HE : Hid _ := at4_is s (i := k) (by omega)
  have b0 := (s[k]'(by omega)).toNat_lt
  have b1 := (s[k + 1]'(by omega)).toNat_lt
  have b2 := (s[k + 2]'(by omega)).toNat_lt
  have b3 := (s[k + 3]'(by omega)).toNat_lt
  have o1 := or1 (s[k]'(by omega)) (s[k + 1]'(by omega))
  have o2 := or2 (s[k]'(by omega)) (s[k + 1]'(by omega)) (s[k + 2]'(by omega))
  have o3 := or3 (s[k]'(by omega)) (s[k + 1]'(by omega)) (s[k + 2]'(by omega)) (s[k + 3]'(by omega))
  have hne9 : Nonempty (Later w) := Later.there w
  go_enter Tryz.func92, Tryz.ntmps92
  go_wp2
  refine region_later (by kernel_rfl) (by kernel_rfl) ?_
  repeat (go_big_quiet_step (fail))
  refine wpQuiet_nil ?_
  intro x9
  obtain ⟨W9, hb9⟩ := x9
  go_wp2
  go_ret
  exact ⟨ret_int (by rw [HE.out]; omega), hb9⟩

set_option maxRecDepth 100000 in
theorem signed (n : Nat) (hn : n < 4294967296) (w : World) : Calls Tryz.prog 126 #[.int .i64 (n : Int)] w fun e w' => e = .returned (.int .i64 (Wx.sg n)) ∧ w' = w := by
  by_cases h : n > 2147483647
  · have h2 : (2147483647 : Int) < (n : Int) := by omega
    have HE : Hid (Wx.sg n = (n : Int) - 4294967296) := by show _ = _; unfold Wx.sg; rw [if_pos h]
    go_enter Tryz.func126, Tryz.ntmps126
    go_wp2
    go_ret
    exact ⟨ret_int HE.out.symm, rfl⟩
  · have h2 : ¬ (2147483647 : Int) < (n : Int) := by omega
    have HE : Hid (Wx.sg n = (n : Int)) := by show _ = _; unfold Wx.sg; rw [if_neg h]
    go_enter Tryz.func126, Tryz.ntmps126
    go_wp2
    go_ret
    exact ⟨ret_int HE.out.symm, rfl⟩

set_option maxRecDepth 100000 in
theorem headOf (x0 x1 x2 x3 x4 x5 x6 x7 x8 x9 : Int) (xa : Option Addr) (xn xc : Nat) (w : World) : Calls Tryz.prog 127 #[.agg #[.int .i64 x0, .int .i64 x1, .int .i64 x2, .int .i64 x3, .int .i64 x4, .int .i64 x5, .int .i64 x6, .int .i64 x7, .int .i64 x8, .int .i64 x9, .slice xa xn xc]] w fun e w' => e = .returned (.agg #[.int .i64 x0, .int .i64 x1, .int .i64 x2, .int .i64 x3, .int .i64 x4, .int .i64 x5, .int .i64 x6, .int .i64 x7, .int .i64 x8, .int .i64 x9]) ∧ Below w.heap.size w w' := by
  go_enter Tryz.func127, Tryz.ntmps127
  go_wp2
  refine bodyPost_ret (v := .agg #[.int .i64 x0, .int .i64 x1, .int .i64 x2, .int .i64 x3, .int .i64 x4, .int .i64 x5, .int .i64 x6, .int .i64 x7, .int .i64 x8, .int .i64 x9]) (by simp [results, Tryz.results127, go_sem]) rfl ?_
  exact ⟨rfl, (new_bel _ _).alloc (by simp) _⟩

set_option maxRecDepth 100000 in
theorem withHead (x0 x1 x2 x3 x4 x5 x6 x7 x8 x9 : Int) (w : World) : Calls Tryz.prog 125 #[.agg #[.int .i64 x0, .int .i64 x1, .int .i64 x2, .int .i64 x3, .int .i64 x4, .int .i64 x5, .int .i64 x6, .int .i64 x7, .int .i64 x8, .int .i64 x9]] w fun e w' => e = .returned (.agg #[.int .i64 x0, .int .i64 x1, .int .i64 x2, .int .i64 x3, .int .i64 x4, .int .i64 x5, .int .i64 x6, .int .i64 x7, .int .i64 x8, .int .i64 x9, .slice none 0 0]) ∧ Below w.heap.size w w' := by
  go_enter Tryz.func125, Tryz.ntmps125
  go_wp2
  refine bodyPost_ret (v := .agg #[.int .i64 x0, .int .i64 x1, .int .i64 x2, .int .i64 x3, .int .i64 x4, .int .i64 x5, .int .i64 x6, .int .i64 x7, .int .i64 x8, .int .i64 x9, .slice none 0 0]) (by simp [results, Tryz.results125, go_sem]) rfl ?_
  exact ⟨rfl, (new_bel _ _).alloc (by simp) _⟩

/-! ### Of all in a list, one after the other -/
theorem upto_zero {l : List Int} {P : Int → Prop} : ∀ x ∈ l.take 0, P x := by intro x hx; simp at hx
theorem upto_succ {l : List Int} {P : Int → Prop} {k : Nat} (hk : k < l.length) (h : ∀ x ∈ l.take k, P x) (hx : P (l.getD k 0)) : ∀ x ∈ l.take (k + 1), P x := by
  rw [take_snoc l k hk]
  intro x hm
  rcases List.mem_append.1 hm with hm | hm
  · exact h x hm
  · simp at hm; subst hm; simpa using hx
theorem upto_all {l : List Int} {P : Int → Prop} {k : Nat} (hk : l.length ≤ k) (h : ∀ x ∈ l.take k, P x) : ∀ x ∈ l, P x := by rwa [List.take_of_length_le hk] at h
theorem num_mem (l : List Int) (k : Nat) (hk : k < l.length) : l.getD k 0 ∈ l := by rw [List.getD_eq_getElem?_getD, List.getElem?_eq_getElem hk]; exact List.getElem_mem hk

/-- Numbers as they may be in Vec. -/
def VecIn (l : List Int) : Prop := l.length ≤ 8 ∧ ∀ x ∈ l, -2147483648 ≤ x ∧ x ≤ 2147483647

set_option maxRecDepth 100000 in
theorem rightVec (a : Option Addr) (n c : Nat) (l : List Int) (w : World) (hr : Row .i64 w a n l) : Calls Tryz.prog 128 #[.slice a n c] w fun e w' => Says e (VecIn l) ∧ w' = w := by
  have HL : Hid (l.length = n) := hr.len
  by_cases h8 : 8 < n
  · have q : (8 : Int) < (n : Int) := by omega
    go_enter Tryz.func128, Tryz.ntmps128
    go_wp2
    go_ret
    exact ⟨Says.no fun h => by have := h.1; have := HL.out; omega, rfl⟩
  have q : ¬ (8 : Int) < (n : Int) := by omega
  go_enter Tryz.func128, Tryz.ntmps128
  go_wp2
  go_loopw [10] (fun i wr => ∃ k : Nat, k ≤ n ∧ i = .int .i64 k ∧ wr = w ∧ Hid (∀ x ∈ l.take k, -2147483648 ≤ x ∧ x ≤ 2147483647)) (fun i _ => n - (intOf i).toNat)
  case atStart => exact ⟨0, Nat.zero_le _, rfl, rfl, upto_zero⟩
  case round =>
    obtain ⟨k, hk, rfl, rfl, HI⟩ := hrel
    by_cases hlt : k < n
    · obtain ⟨b1, o1, rfl, hb1, hc1⟩ := hr.at hlt
      have hli : (k : Int) < (n : Int) := by omega
      have HM : Hid (l.getD k 0 ∈ l) := num_mem l k (by have := HL.out; omega)
      have HS : Hid (-2147483648 ≤ l.getD k 0 ∧ l.getD k 0 ≤ 2147483647 → ∀ x ∈ l.take (k + 1), -2147483648 ≤ x ∧ x ≤ 2147483647) := fun h => upto_succ (P := fun x => -2147483648 ≤ x ∧ x ≤ 2147483647) (by have := HL.out; omega) HI.out h
      generalize l.getD k 0 = x at *
      by_cases hx1 : x < -2147483648
      · go_wp2
        go_ret
        exact ⟨Says.no fun h => by have := h.2 x HM.out; omega, rfl⟩
      · by_cases hx2 : 2147483647 < x
        · go_wp2
          go_ret
          exact ⟨Says.no fun h => by have := h.2 x HM.out; omega, rfl⟩
        · go_wp2
          go_roundw
          case rel => exact ⟨k + 1, by omega, by go_num, by trivial, HS.out ⟨by omega, by omega⟩⟩
          case measure => simp [intOf]; omega
    · have hli : ¬ (k : Int) < (n : Int) := by omega
      go_wp2
      go_ret
      exact ⟨Says.yes ⟨by have := HL.out; omega, upto_all (by have := HL.out; omega) HI.out⟩, rfl⟩

theorem index10 (x0 x1 x2 x3 x4 x5 x6 x7 x8 x9 : Int) (k : Nat) (hk : k < 10) (w : World) : (Instr.index 164 (.agg #[.int .i64 x0, .int .i64 x1, .int .i64 x2, .int .i64 x3, .int .i64 x4, .int .i64 x5, .int .i64 x6, .int .i64 x7, .int .i64 x8, .int .i64 x9]) (.int .i64 (k : Int))).run Tryz.prog w = .ok (.int .i64 ([x0, x1, x2, x3, x4, x5, x6, x7, x8, x9].getD k 0)) w := by
  have i0 : ∀ w : World, (Instr.index 164 (.agg #[.int .i64 x0, .int .i64 x1, .int .i64 x2, .int .i64 x3, .int .i64 x4, .int .i64 x5, .int .i64 x6, .int .i64 x7, .int .i64 x8, .int .i64 x9]) (.int .i64 0)).run Tryz.prog w = .ok (.int .i64 x0) w := fun _ => by kernel_rfl
  have i1 : ∀ w : World, (Instr.index 164 (.agg #[.int .i64 x0, .int .i64 x1, .int .i64 x2, .int .i64 x3, .int .i64 x4, .int .i64 x5, .int .i64 x6, .int .i64 x7, .int .i64 x8, .int .i64 x9]) (.int .i64 1)).run Tryz.prog w = .ok (.int .i64 x1) w := fun _ => by kernel_rfl
  have i2 : ∀ w : World, (Instr.index 164 (.agg #[.int .i64 x0, .int .i64 x1, .int .i64 x2, .int .i64 x3, .int .i64 x4, .int .i64 x5, .int .i64 x6, .int .i64 x7, .int .i64 x8, .int .i64 x9]) (.int .i64 2)).run Tryz.prog w = .ok (.int .i64 x2) w := fun _ => by kernel_rfl
  have i3 : ∀ w : World, (Instr.index 164 (.agg #[.int .i64 x0, .int .i64 x1, .int .i64 x2, .int .i64 x3, .int .i64 x4, .int .i64 x5, .int .i64 x6, .int .i64 x7, .int .i64 x8, .int .i64 x9]) (.int .i64 3)).run Tryz.prog w = .ok (.int .i64 x3) w := fun _ => by kernel_rfl
  have i4 : ∀ w : World, (Instr.index 164 (.agg #[.int .i64 x0, .int .i64 x1, .int .i64 x2, .int .i64 x3, .int .i64 x4, .int .i64 x5, .int .i64 x6, .int .i64 x7, .int .i64 x8, .int .i64 x9]) (.int .i64 4)).run Tryz.prog w = .ok (.int .i64 x4) w := fun _ => by kernel_rfl
  have i5 : ∀ w : World, (Instr.index 164 (.agg #[.int .i64 x0, .int .i64 x1, .int .i64 x2, .int .i64 x3, .int .i64 x4, .int .i64 x5, .int .i64 x6, .int .i64 x7, .int .i64 x8, .int .i64 x9]) (.int .i64 5)).run Tryz.prog w = .ok (.int .i64 x5) w := fun _ => by kernel_rfl
  have i6 : ∀ w : World, (Instr.index 164 (.agg #[.int .i64 x0, .int .i64 x1, .int .i64 x2, .int .i64 x3, .int .i64 x4, .int .i64 x5, .int .i64 x6, .int .i64 x7, .int .i64 x8, .int .i64 x9]) (.int .i64 6)).run Tryz.prog w = .ok (.int .i64 x6) w := fun _ => by kernel_rfl
  have i7 : ∀ w : World, (Instr.index 164 (.agg #[.int .i64 x0, .int .i64 x1, .int .i64 x2, .int .i64 x3, .int .i64 x4, .int .i64 x5, .int .i64 x6, .int .i64 x7, .int .i64 x8, .int .i64 x9]) (.int .i64 7)).run Tryz.prog w = .ok (.int .i64 x7) w := fun _ => by kernel_rfl
  have i8 : ∀ w : World, (Instr.index 164 (.agg #[.int .i64 x0, .int .i64 x1, .int .i64 x2, .int .i64 x3, .int .i64 x4, .int .i64 x5, .int .i64 x6, .int .i64 x7, .int .i64 x8, .int .i64 x9]) (.int .i64 8)).run Tryz.prog w = .ok (.int .i64 x8) w := fun _ => by kernel_rfl
  have i9 : ∀ w : World, (Instr.index 164 (.agg #[.int .i64 x0, .int .i64 x1, .int .i64 x2, .int .i64 x3, .int .i64 x4, .int .i64 x5, .int .i64 x6, .int .i64 x7, .int .i64 x8, .int .i64 x9]) (.int .i64 9)).run Tryz.prog w = .ok (.int .i64 x9) w := fun _ => by kernel_rfl
  rcases (by omega : k = 0 ∨ k = 1 ∨ k = 2 ∨ k = 3 ∨ k = 4 ∨ k = 5 ∨ k = 6 ∨ k = 7 ∨ k = 8 ∨ k = 9) with rfl | rfl | rfl | rfl | rfl | rfl | rfl | rfl | rfl | rfl
  · exact i0 w
  · exact i1 w
  · exact i2 w
  · exact i3 w
  · exact i4 w
  · exact i5 w
  · exact i6 w
  · exact i7 w
  · exact i8 w
  · exact i9 w

set_option maxRecDepth 100000 in
theorem wright (x0 x1 x2 x3 x4 x5 x6 x7 x8 x9 : Int) (xa : Option Addr) (xn xc : Nat) (l : List Int) (w : World) (hr : Row .i64 w xa xn l) : Calls Tryz.prog 95 #[.agg #[.int .i64 x0, .int .i64 x1, .int .i64 x2, .int .i64 x3, .int .i64 x4, .int .i64 x5, .int .i64 x6, .int .i64 x7, .int .i64 x8, .int .i64 x9, .slice xa xn xc]] w fun e w' => Says e (Wx.right ⟨x0, x1, x2, x3, x4, x5, x6, x7, x8, x9, l⟩) ∧ Below w.heap.size w w' := by
  by_cases hk1 : x0 < 1
  · go_enter Tryz.func95, Tryz.ntmps95
    go_wp2
    go_ret
    exact ⟨Says.no fun h => by have h1 : 1 ≤ x0 := h.1; omega, new_bel _ _⟩
  by_cases hk2 : 4 < x0
  · go_enter Tryz.func95, Tryz.ntmps95
    go_wp2
    go_ret
    exact ⟨Says.no fun h => by have h1 : x0 ≤ 4 := h.2.1; omega, new_bel _ _⟩
  go_enter Tryz.func95, Tryz.ntmps95
  go_wp2_with fail
  refine (headOf x0 x1 x2 x3 x4 x5 x6 x7 x8 x9 xa xn xc _).mono ?_
  rintro e u ⟨rfl, hb⟩
  have hc := box_cell hb 10 (v := .slice xa xn xc) rfl
  have hB := bel_then (new_bel _ _) hb
  have hr2 := hr.keep hB
  clear hb hr
  have HT : Hid ([x0, x1, x2, x3, x4, x5, x6, x7, x8, x9].length = 10) := rfl
  obtain ⟨t, ht⟩ : ∃ t : List Int, t = [x0, x1, x2, x3, x4, x5, x6, x7, x8, x9] := ⟨_, rfl⟩
  have HR : Hid (Wx.right ⟨x0, x1, x2, x3, x4, x5, x6, x7, x8, x9, l⟩ ↔ (∀ x ∈ t, 0 ≤ x ∧ x ≤ 2147483647) ∧ VecIn l) := by
    show _ ↔ _
    rw [ht]
    exact ⟨fun h => ⟨h.2.2.1, h.2.2.2⟩, fun h => ⟨show 1 ≤ x0 by omega, show x0 ≤ 4 by omega, h.1, h.2⟩⟩
  have HI : Hid (∀ k : Nat, k < 10 → ∀ w : World, (Instr.index 164 (.agg #[.int .i64 x0, .int .i64 x1, .int .i64 x2, .int .i64 x3, .int .i64 x4, .int .i64 x5, .int .i64 x6, .int .i64 x7, .int .i64 x8, .int .i64 x9]) (.int .i64 (k : Int))).run Tryz.prog w = .ok (.int .i64 (t.getD k 0)) w) := by
    intro k hk w
    rw [ht]
    exact index10 x0 x1 x2 x3 x4 x5 x6 x7 x8 x9 k hk w
  rw [← ht] at HT
  clear ht
  go_wp2
  go_loopw [15] (fun i wr => ∃ k : Nat, k ≤ 10 ∧ i = .int .i64 k ∧ wr = u ∧ Hid (∀ x ∈ t.take k, 0 ≤ x ∧ x ≤ 2147483647)) (fun i _ => 10 - (intOf i).toNat)
  case atStart => exact ⟨0, Nat.zero_le _, rfl, rfl, upto_zero⟩
  case round =>
    obtain ⟨k, hk, rfl, hww, HJ⟩ := hrel
    replace hww := hww.symm
    subst hww
    by_cases hlt : k < 10
    · have hli : (k : Int) < 10 := by omega
      have hix := HI.out k hlt
      have HM : Hid (t.getD k 0 ∈ t) := num_mem t k (by have := HT.out; omega)
      have HS : Hid (0 ≤ t.getD k 0 ∧ t.getD k 0 ≤ 2147483647 → ∀ x ∈ t.take (k + 1), 0 ≤ x ∧ x ≤ 2147483647) := fun h => upto_succ (P := fun x => 0 ≤ x ∧ x ≤ 2147483647) (by have := HT.out; omega) HJ.out h
      generalize t.getD k 0 = x at *
      by_cases hx1 : x < 0
      · go_wp2
        go_ret
        exact ⟨Says.no fun h => by have := (HR.out.1 h).1 x HM.out; omega, hB⟩
      · by_cases hx2 : 2147483647 < x
        · go_wp2
          go_ret
          exact ⟨Says.no fun h => by have := (HR.out.1 h).1 x HM.out; omega, hB⟩
        · go_wp2
          go_roundw
          case rel => exact ⟨k + 1, by omega, by go_num, by trivial, HS.out ⟨by omega, by omega⟩⟩
          case measure => simp [intOf]; omega
    · have hli : ¬ (k : Int) < 10 := by omega
      have HA : Hid (∀ x ∈ t, 0 ≤ x ∧ x ≤ 2147483647) := upto_all (by have := HT.out; omega) HJ.out
      go_wp2_with fail
      refine (rightVec xa xn xc l _ hr2).mono ?_
      rintro e u2 ⟨hs, rfl⟩
      rw [hs.form, tell_iff (show VecIn l ↔ Wx.right ⟨x0, x1, x2, x3, x4, x5, x6, x7, x8, x9, l⟩ from ⟨fun h => HR.out.2 ⟨HA.out, h⟩, fun h => (HR.out.1 h).2⟩)]
      go_wp2
      go_ret
      by_cases hp : Wx.right ⟨x0, x1, x2, x3, x4, x5, x6, x7, x8, x9, l⟩
      · rw [tell_yes hp]; exact ⟨Says.yes hp, hB⟩
      · rw [tell_no hp]; exact ⟨Says.no hp, hB⟩

set_option maxRecDepth 100000 in
theorem rightLength (s : ByteArray) (hs : s.size ≤ maxLen) (w : World) : Calls Tryz.prog 91 #[.string s] w fun e w' => Says e (Wx.formed s.data.toList) ∧ Below w.heap.size w w' := by
  have hm : s.size ≤ 9223372036854775807 := hs
  have hl : s.data.toList.length = s.size := by rw [Array.length_toList]; rfl
  have tm : ((s.size : Nat) : Int).tmod 4 = ((s.size % 4 : Nat) : Int) := by rw [Int.tmod_eq_emod_of_nonneg (by omega)]; rfl
  by_cases h1 : 52 ≤ s.size
  · by_cases h2 : s.size % 4 = 0
    · have q1 : (52 : Int) ≤ (s.size : Int) := by omega
      have q2 : (((s.size % 4 : Nat) : Int) == 0) = true := by rw [h2]; rfl
      have hb := Wx.at4_lt s.data.toList 0
      have HF : Hid (Wx.formed s.data.toList ↔ Wx.at4 s.data.toList 0 = s.size - 4) := by
        show _ ↔ _
        unfold Wx.formed
        rw [hl]
        exact ⟨fun h => h.2.1, fun h => ⟨h1, h, h2⟩⟩
      have HC : Hid _ := numberAt s 0 0 ⟨rfl, by omega, hs⟩
      generalize Wx.at4 s.data.toList 0 = x at *
      clear hl
      by_cases h3 : x = s.size - 4
      · have q3 : ((x : Int) == (s.size : Int) - 4) = true := by rw [beq_iff_eq]; omega
        have H3 : Hid (x = s.size - 4) := h3
        clear h3
        go_enter Tryz.func91, Tryz.ntmps91
        go_wp2_with fail
        refine (HC.out _).mono ?_
        rintro e u ⟨rfl, hb⟩
        go_wp2
        go_ret
        exact ⟨Says.yes (HF.out.2 H3.out), hb⟩
      · have q3 : ((x : Int) == (s.size : Int) - 4) = false := by rw [beq_eq_false_iff_ne]; omega
        go_enter Tryz.func91, Tryz.ntmps91
        go_wp2_with fail
        refine (HC.out _).mono ?_
        rintro e u ⟨rfl, hb⟩
        go_wp2
        go_ret
        exact ⟨Says.no fun h => h3 (HF.out.1 h), hb⟩
    · have q1 : (52 : Int) ≤ (s.size : Int) := by omega
      have q2 : (((s.size % 4 : Nat) : Int) == 0) = false := by rw [beq_eq_false_iff_ne]; omega
      have HN : Hid (¬ Wx.formed s.data.toList) := fun h => by have := h.2.2; rw [hl] at this; omega
      clear hl
      go_enter Tryz.func91, Tryz.ntmps91
      go_wp2
      go_ret
      exact ⟨Says.no HN.out, Below.refl _ _⟩
  · have q1 : ¬ (52 : Int) ≤ (s.size : Int) := by omega
    have HN : Hid (¬ Wx.formed s.data.toList) := fun h => by have := h.1; rw [hl] at this; omega
    clear hl
    go_enter Tryz.func91, Tryz.ntmps91
    go_wp2
    go_ret
    exact ⟨Says.no HN.out, Below.refl _ _⟩

end Go.Proofs.YtfidgcanolegfaaGreat
