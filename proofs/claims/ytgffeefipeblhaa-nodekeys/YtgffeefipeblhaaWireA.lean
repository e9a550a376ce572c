/- What the smaller functions of package wire and the document's 'at' and 'four' do when called: numbers in four bytes. -/
import Derived.Test.YtgffeefipeblhaaCrcB
import Derived.Test.YtgffeefipeblhaaWx
import Derived.Test.YtgffeefipeblhaaJa
import Derived.Test.YtgffeefipeblhaaWk
namespace Go.Proofs.Ytgffeefipeblhaa
open Go.ChangeShapes Go.WideShapes Go.ChangeAt Go.RowKit

set_option maxRecDepth 100000 in
theorem headOf (x0 x1 x2 x3 x4 x5 x6 x7 x8 x9 : Int) (xa : Option Addr) (xn xc : Nat) (w : World) : Calls Try.prog 49 #[.agg #[.int .i64 x0, .int .i64 x1, .int .i64 x2, .int .i64 x3, .int .i64 x4, .int .i64 x5, .int .i64 x6, .int .i64 x7, .int .i64 x8, .int .i64 x9, .slice xa xn xc]] w fun e w' => e = .returned (.agg #[.int .i64 x0, .int .i64 x1, .int .i64 x2, .int .i64 x3, .int .i64 x4, .int .i64 x5, .int .i64 x6, .int .i64 x7, .int .i64 x8, .int .i64 x9]) ∧ Below w.heap.size w w' := by
  go_enter Try.func49, Try.ntmps49
  go_wp2
  refine bodyPost_ret (v := .agg #[.int .i64 x0, .int .i64 x1, .int .i64 x2, .int .i64 x3, .int .i64 x4, .int .i64 x5, .int .i64 x6, .int .i64 x7, .int .i64 x8, .int .i64 x9]) (by simp [results, Try.results49, go_sem]) rfl ?_
  exact ⟨rfl, (new_bel _ _).alloc (by simp) _⟩

theorem upto_zero {l : List Int} {P : Int → Prop} : ∀ x ∈ l.take 0, P x := by intro x hx; simp at hx
theorem upto_succ {l : List Int} {P : Int → Prop} {k : Nat} (hk : k < l.length) (h : ∀ x ∈ l.take k, P x) (hx : P (l.getD k 0)) : ∀ x ∈ l.take (k + 1), P x := by
  rw [take_snoc l k hk]
  intro x hm
  rcases List.mem_append.1 hm with hm | hm
  · exact h x hm
  · simp at hm; subst hm; simpa using hx
theorem upto_all {l : List Int} {P : Int → Prop} {k : Nat} (hk : l.length ≤ k) (h : ∀ x ∈ l.take k, P x) : ∀ x ∈ l, P x := by rwa [List.take_of_length_le hk] at h
theorem num_mem (l : List Int) (k : Nat) (hk : k < l.length) : l.getD k 0 ∈ l := by rw [List.getD_eq_getElem?_getD, List.getElem?_eq_getElem hk]; exact List.getElem_mem hk

/-- Numbers as they may be in Vec. -/
def VecIn (l : List Int) : Prop := l.length ≤ 8 ∧ ∀ x ∈ l, -2147483648 ≤ x ∧ x ≤ 2147483647

set_option maxRecDepth 100000 in
theorem rightVec (a : Option Addr) (n c : Nat) (l : List Int) (w : World) (hr : Row .i64 w a n l) : Calls Try.prog 50 #[.slice a n c] w fun e w' => Says e (VecIn l) ∧ w' = w := by
  have HL : Hid (l.length = n) := hr.len
  by_cases h8 : 8 < n
  · have q : (8 : Int) < (n : Int) := by omega
    go_enter Try.func50, Try.ntmps50
    go_wp2
    go_ret
    exact ⟨Says.no fun h => by have := h.1; have := HL.out; omega, rfl⟩
  have q : ¬ (8 : Int) < (n : Int) := by omega
  go_enter Try.func50, Try.ntmps50
  go_wp2
  go_loopw [10] (fun i wr => ∃ k : Nat, k ≤ n ∧ i = .int .i64 k ∧ wr = w ∧ Hid (∀ x ∈ l.take k, -2147483648 ≤ x ∧ x ≤ 2147483647)) (fun i _ => n - (intOf i).toNat)
  case atStart => exact ⟨0, Nat.zero_le _, rfl, rfl, upto_zero⟩
  case round =>
    obtain ⟨k, hk, rfl, rfl, HI⟩ := hrel
    by_cases hlt : k < n
    · obtain ⟨b1, o1, rfl, hb1, hc1⟩ := hr.at hlt
      have hli : (k : Int) < (n : Int) := by omega
      have HM : Hid (l.getD k 0 ∈ l) := num_mem l k (by have := HL.out; omega)
      have HS : Hid (-2147483648 ≤ l.getD k 0 ∧ l.getD k 0 ≤ 2147483647 → ∀ x ∈ l.take (k + 1), -2147483648 ≤ x ∧ x ≤ 2147483647) := fun h => upto_succ (P := fun x => -2147483648 ≤ x ∧ x ≤ 2147483647) (by have := HL.out; omega) HI.out h
      generalize l.getD k 0 = x at *
      by_cases hx1 : x < -2147483648
      · go_wp2
        go_ret
        exact ⟨Says.no fun h => by have := h.2 x HM.out; omega, rfl⟩
      · by_cases hx2 : 2147483647 < x
        · go_wp2
          go_ret
          exact ⟨Says.no fun h => by have := h.2 x HM.out; omega, rfl⟩
        · go_wp2
          go_roundw
          case rel => exact ⟨k + 1, by omega, by go_num, by trivial, HS.out ⟨by omega, by omega⟩⟩
          case measure => simp [intOf]; omega
    · have hli : ¬ (k : Int) < (n : Int) := by omega
      go_wp2
      go_ret
      exact ⟨Says.yes ⟨by have := HL.out; omega, upto_all (by have := HL.out; omega) HI.out⟩, rfl⟩

theorem index10 (x0 x1 x2 x3 x4 x5 x6 x7 x8 x9 : Int) (k : Nat) (hk : k < 10) (w : World) : (Instr.index 92 (.agg #[.int .i64 x0, .int .i64 x1, .int .i64 x2, .int .i64 x3, .int .i64 x4, .int .i64 x5, .int .i64 x6, .int .i64 x7, .int .i64 x8, .int .i64 x9]) (.int .i64 (k : Int))).run Try.prog w = .ok (.int .i64 ([x0, x1, x2, x3, x4, x5, x6, x7, x8, x9].getD k 0)) w := by
  have i0 : ∀ w : World, (Instr.index 92 (.agg #[.int .i64 x0, .int .i64 x1, .int .i64 x2, .int .i64 x3, .int .i64 x4, .int .i64 x5, .int .i64 x6, .int .i64 x7, .int .i64 x8, .int .i64 x9]) (.int .i64 0)).run Try.prog w = .ok (.int .i64 x0) w := fun _ => by kernel_rfl
  have i1 : ∀ w : World, (Instr.index 92 (.agg #[.int .i64 x0, .int .i64 x1, .int .i64 x2, .int .i64 x3, .int .i64 x4, .int .i64 x5, .int .i64 x6, .int .i64 x7, .int .i64 x8, .int .i64 x9]) (.int .i64 1)).run Try.prog w = .ok (.int .i64 x1) w := fun _ => by kernel_rfl
  have i2 : ∀ w : World, (Instr.index 92 (.agg #[.int .i64 x0, .int .i64 x1, .int .i64 x2, .int .i64 x3, .int .i64 x4, .int .i64 x5, .int .i64 x6, .int .i64 x7, .int .i64 x8, .int .i64 x9]) (.int .i64 2)).run Try.prog w = .ok (.int .i64 x2) w := fun _ => by kernel_rfl
  have i3 : ∀ w : World, (Instr.index 92 (.agg #[.int .i64 x0, .int .i64 x1, .int .i64 x2, .int .i64 x3, .int .i64 x4, .int .i64 x5, .int .i64 x6, .int .i64 x7, .int .i64 x8, .int .i64 x9]) (.int .i64 3)).run Try.prog w = .ok (.int .i64 x3) w := fun _ => by kernel_rfl
  have i4 : ∀ w : World, (Instr.index 92 (.agg #[.int .i64 x0, .int .i64 x1, .int .i64 x2, .int .i64 x3, .int .i64 x4, .int .i64 x5, .int .i64 x6, .int .i64 x7, .int .i64 x8, .int .i64 x9]) (.int .i64 4)).run Try.prog w = .ok (.int .i64 x4) w := fun _ => by kernel_rfl
  have i5 : ∀ w : World, (Instr.index 92 (.agg #[.int .i64 x0, .int .i64 x1, .int .i64 x2, .int .i64 x3, .int .i64 x4, .int .i64 x5, .int .i64 x6, .int .i64 x7, .int .i64 x8, .int .i64 x9]) (.int .i64 5)).run Try.prog w = .ok (.int .i64 x5) w := fun _ => by kernel_rfl
  have i6 : ∀ w : World, (Instr.index 92 (.agg #[.int .i64 x0, .int .i64 x1, .int .i64 x2, .int .i64 x3, .int .i64 x4, .int .i64 x5, .int .i64 x6, .int .i64 x7, .int .i64 x8, .int .i64 x9]) (.int .i64 6)).run Try.prog w = .ok (.int .i64 x6) w := fun _ => by kernel_rfl
  have i7 : ∀ w : World, (Instr.index 92 (.agg #[.int .i64 x0, .int .i64 x1, .int .i64 x2, .int .i64 x3, .int .i64 x4, .int .i64 x5, .int .i64 x6, .int .i64 x7, .int .i64 x8, .int .i64 x9]) (.int .i64 7)).run Try.prog w = .ok (.int .i64 x7) w := fun _ => by kernel_rfl
  have i8 : ∀ w : World, (Instr.index 92 (.agg #[.int .i64 x0, .int .i64 x1, .int .i64 x2, .int .i64 x3, .int .i64 x4, .int .i64 x5, .int .i64 x6, .int .i64 x7, .int .i64 x8, .int .i64 x9]) (.int .i64 8)).run Try.prog w = .ok (.int .i64 x8) w := fun _ => by kernel_rfl
  have i9 : ∀ w : World, (Instr.index 92 (.agg #[.int .i64 x0, .int .i64 x1, .int .i64 x2, .int .i64 x3, .int .i64 x4, .int .i64 x5, .int .i64 x6, .int .i64 x7, .int .i64 x8, .int .i64 x9]) (.int .i64 9)).run Try.prog w = .ok (.int .i64 x9) w := fun _ => by kernel_rfl
  rcases (by omega : k = 0 ∨ k = 1 ∨ k = 2 ∨ k = 3 ∨ k = 4 ∨ k = 5 ∨ k = 6 ∨ k = 7 ∨ k = 8 ∨ k = 9) with rfl | rfl | rfl | rfl | rfl | rfl | rfl | rfl | rfl | rfl
  · exact i0 w
  · exact i1 w
  · exact i2 w
  · exact i3 w
  · exact i4 w
  · exact i5 w
  · exact i6 w
  · exact i7 w
  · exact i8 w
  · exact i9 w

set_option maxRecDepth 100000 in
theorem wright (x0 x1 x2 x3 x4 x5 x6 x7 x8 x9 : Int) (xa : Option Addr) (xn xc : Nat) (l : List Int) (w : World) (hr : Row .i64 w xa xn l) : Calls Try.prog 34 #[.agg #[.int .i64 x0, .int .i64 x1, .int .i64 x2, .int .i64 x3, .int .i64 x4, .int .i64 x5, .int .i64 x6, .int .i64 x7, .int .i64 x8, .int .i64 x9, .slice xa xn xc]] w fun e w' => Says e (Wx.right ⟨x0, x1, x2, x3, x4, x5, x6, x7, x8, x9, l⟩) ∧ Below w.heap.size w w' := by
  by_cases hk1 : x0 < 1
  · go_enter Try.func34, Try.ntmps34
    go_wp2
    go_ret
    exact ⟨Says.no fun h => by have h1 : 1 ≤ x0 := h.1; omega, new_bel _ _⟩
  by_cases hk2 : 4 < x0
  · go_enter Try.func34, Try.ntmps34
    go_wp2
    go_ret
    exact ⟨Says.no fun h => by have h1 : x0 ≤ 4 := h.2.1; omega, new_bel _ _⟩
  go_enter Try.func34, Try.ntmps34
  go_wp2_with fail
  refine (headOf x0 x1 x2 x3 x4 x5 x6 x7 x8 x9 xa xn xc _).mono ?_
  rintro e u ⟨rfl, hb⟩
  have hc := box_cell hb 10 (v := .slice xa xn xc) rfl
  have hB := bel_then (new_bel _ _) hb
  have hr2 := hr.keep hB
  clear hb hr
  have HT : Hid ([x0, x1, x2, x3, x4, x5, x6, x7, x8, x9].length = 10) := rfl
  obtain ⟨t, ht⟩ : ∃ t : List Int, t = [x0, x1, x2, x3, x4, x5, x6, x7, x8, x9] := ⟨_, rfl⟩
  have HR : Hid (Wx.right ⟨x0, x1, x2, x3, x4, x5, x6, x7, x8, x9, l⟩ ↔ (∀ x ∈ t, 0 ≤ x ∧ x ≤ 2147483647) ∧ VecIn l) := by
    show _ ↔ _
    rw [ht]
    exact ⟨fun h => ⟨h.2.2.1, h.2.2.2⟩, fun h => ⟨show 1 ≤ x0 by omega, show x0 ≤ 4 by omega, h.1, h.2⟩⟩
  have HI : Hid (∀ k : Nat, k < 10 → ∀ w : World, (Instr.index 92 (.agg #[.int .i64 x0, .int .i64 x1, .int .i64 x2, .int .i64 x3, .int .i64 x4, .int .i64 x5, .int .i64 x6, .int .i64 x7, .int .i64 x8, .int .i64 x9]) (.int .i64 (k : Int))).run Try.prog w = .ok (.int .i64 (t.getD k 0)) w) := by
    intro k hk w
    rw [ht]
    exact index10 x0 x1 x2 x3 x4 x5 x6 x7 x8 x9 k hk w
  rw [← ht] at HT
  clear ht
  go_wp2
  go_loopw [15] (fun i wr => ∃ k : Nat, k ≤ 10 ∧ i = .int .i64 k ∧ wr = u ∧ Hid (∀ x ∈ t.take k, 0 ≤ x ∧ x ≤ 2147483647)) (fun i _ => 10 - (intOf i).toNat)
  case atStart => exact ⟨0, Nat.zero_le _, rfl, rfl, upto_zero⟩
  case round =>
    obtain ⟨k, hk, rfl, hww, HJ⟩ := hrel
    replace hww := hww.symm
    subst hww
    by_cases hlt : k < 10
    · have hli : (k : Int) < 10 := by omega
      have hix := HI.out k hlt
      have HM : Hid (t.getD k 0 ∈ t) := num_mem t k (by have := HT.out; omega)
      have HS : Hid (0 ≤ t.getD k 0 ∧ t.getD k 0 ≤ 2147483647 → ∀ x ∈ t.take (k + 1), 0 ≤ x ∧ x ≤ 2147483647) := fun h => upto_succ (P := fun x => 0 ≤ x ∧ x ≤ 2147483647) (by have := HT.out; omega) HJ.out h
      generalize t.getD k 0 = x at *
      by_cases hx1 : x < 0
      · go_wp2
        go_ret
        exact ⟨Says.no fun h => by have := (HR.out.1 h).1 x HM.out; omega, hB⟩
      · by_cases hx2 : 2147483647 < x
        · go_wp2
          go_ret
          exact ⟨Says.no fun h => by have := (HR.out.1 h).1 x HM.out; omega, hB⟩
        · go_wp2
          go_roundw
          case rel => exact ⟨k + 1, by omega, by go_num, by trivial, HS.out ⟨by omega, by omega⟩⟩
          case measure => simp [intOf]; omega
    · have hli : ¬ (k : Int) < 10 := by omega
      have HA : Hid (∀ x ∈ t, 0 ≤ x ∧ x ≤ 2147483647) := upto_all (by have := HT.out; omega) HJ.out
      go_wp2_with fail
      refine (rightVec xa xn xc l _ hr2).mono ?_
      rintro e u2 ⟨hs, rfl⟩
      rw [hs.form, tell_iff (show VecIn l ↔ Wx.right ⟨x0, x1, x2, x3, x4, x5, x6, x7, x8, x9, l⟩ from ⟨fun h => HR.out.2 ⟨HA.out, h⟩, fun h => (HR.out.1 h).2⟩)]
      go_wp2
      go_ret
      by_cases hp : Wx.right ⟨x0, x1, x2, x3, x4, x5, x6, x7, x8, x9, l⟩
      · rw [tell_yes hp]; exact ⟨Says.yes hp, hB⟩
      · rw [tell_no hp]; exact ⟨Says.no hp, hB⟩

end Go.Proofs.Ytgffeefipeblhaa
