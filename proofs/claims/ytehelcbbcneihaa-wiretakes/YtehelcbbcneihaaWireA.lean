/- What the smaller functions of package wire and the document's 'at' and 'four' do when called: numbers in four bytes. -/
import Derived.Test.YtehelcbbcneihaaCrcB
import Derived.Test.YtehelcbbcneihaaWx
import Derived.Test.YtehelcbbcneihaaStruct
namespace Go.Proofs.Ytehelcbbcneihaa
open Go.ChangeShapes Go.WideShapes Go.ChangeAt Go.RowKit

theorem i64_or_nat (a b : Nat) (ha : a < 4294967296) (hb : b < 4294967296) : bits .or .i64 (a : Int) (b : Int) = ((a ||| b : Nat) : Int) := by
  have hx : a ||| b < 2 ^ 32 := Nat.or_lt_two_pow (by omega) (by omega)
  show IntKind.i64.wrap ((BitVec.ofInt 64 (a : Int) ||| BitVec.ofInt 64 (b : Int)).toNat : Int) = _
  rw [BitVec.toNat_or, ofInt_u64 a (by omega), ofInt_u64 b (by omega), IntKind.wrap_i64]
  omega
theorem or1 (x y : UInt8) : bits .or .i64 (x.toNat : Nat) ((y.toNat : Nat) * 256 : Int) = (x.toNat : Nat) + 256 * (y.toNat : Nat) := by
  have hx := x.toNat_lt
  have hy := y.toNat_lt
  rw [show ((y.toNat : Nat) * 256 : Int) = ((256 * y.toNat : Nat) : Int) by omega, i64_or_nat _ _ (by omega) (by omega), Nat.or_comm, nat_join 8 _ _ (by omega) (by omega)]
  omega
theorem or2 (x y z : UInt8) : bits .or .i64 ((x.toNat : Nat) + 256 * (y.toNat : Nat)) ((z.toNat : Nat) * 65536 : Int) = (x.toNat : Nat) + 256 * (y.toNat : Nat) + 65536 * (z.toNat : Nat) := by
  have hx := x.toNat_lt
  have hy := y.toNat_lt
  have hz := z.toNat_lt
  rw [show ((z.toNat : Nat) * 65536 : Int) = ((65536 * z.toNat : Nat) : Int) by omega, show ((x.toNat : Nat) + 256 * (y.toNat : Nat) : Int) = ((x.toNat + 256 * y.toNat : Nat) : Int) by omega, i64_or_nat _ _ (by omega) (by omega), Nat.or_comm, nat_join 16 _ _ (by omega) (by omega)]
  omega
theorem or3 (x y z u : UInt8) : bits .or .i64 ((x.toNat : Nat) + 256 * (y.toNat : Nat) + 65536 * (z.toNat : Nat)) ((u.toNat : Nat) * 16777216 : Int) = (x.toNat : Nat) + 256 * (y.toNat : Nat) + 65536 * (z.toNat : Nat) + 16777216 * (u.toNat : Nat) := by
  have hx := x.toNat_lt
  have hy := y.toNat_lt
  have hz := z.toNat_lt
  have hu := u.toNat_lt
  rw [show ((u.toNat : Nat) * 16777216 : Int) = ((16777216 * u.toNat : Nat) : Int) by omega, show ((x.toNat : Nat) + 256 * (y.toNat : Nat) + 65536 * (z.toNat : Nat) : Int) = ((x.toNat + 256 * y.toNat + 65536 * z.toNat : Nat) : Int) by omega,
    i64_or_nat _ _ (by omega) (by omega), Nat.or_comm, nat_join 24 _ _ (by omega) (by omega)]
  omega
theorem at4_is (s : ByteArray) {i : Nat} (h : i + 3 < s.size) : Wx.at4 s.data.toList i = (s[i]).toNat + 256 * (s[i + 1]).toNat + 65536 * (s[i + 2]).toNat + 16777216 * (s[i + 3]).toNat := by
  have e : ∀ k (hk : k < s.size), s.data.toList.getD k 0 = s[k] := by
    intro k hk
    have hk2 : k < s.data.toList.length := by rw [Array.length_toList]; exact hk
    rw [List.getD_eq_getElem?_getD, List.getElem?_eq_getElem hk2]
    rfl
  unfold Wx.at4
  rw [e i (by omega), e (i + 1) (by omega), e (i + 2) (by omega), e (i + 3) (by omega)]

/-- A place at which four bytes of a string stand. -/
structure Four (s : ByteArray) (i : Int) (k : Nat) : Prop where
  eq : i = (k : Int)
  le : k + 3 < s.size
  fit : s.size ≤ maxLen

theorem numberAt (s : ByteArray) (i : Int) (k : Nat) (h : Four s i k) (w : World) : Calls Try.prog 24 #[.string s, .int .i64 i] w fun e w' => e = .returned (.int .i64 (Wx.at4 s.data.toList k : Nat)) ∧ Below w.heap.size w w' := by
  obtain ⟨rfl, hk, hf⟩ := h
  have hm : s.size ≤ 9223372036854775807 := hf
  have g0 : (k : Int) < (s.size : Int) := by omega
  have g1 : ((k : Int) + 1) < (s.size : Int) := by omega
  have g2 : ((k : Int) + 2) < (s.size : Int) := by omega
  have g3 : ((k : Int) + 3) < (s.size : Int) := by omega
  have n1 : 0 ≤ (k : Int) + 1 := by omega
  have n2 : 0 ≤ (k : Int) + 2 := by omega
  have n3 : 0 ≤ (k : Int) + 3 := by omega
  clear hk
  have HE : Hid _ := at4_is s (i := k) (by omega)
  have b0 := (s[k]'(by omega)).toNat_lt
  have b1 := (s[k + 1]'(by omega)).toNat_lt
  have b2 := (s[k + 2]'(by omega)).toNat_lt
  have b3 := (s[k + 3]'(by omega)).toNat_lt
  have o1 := or1 (s[k]'(by omega)) (s[k + 1]'(by omega))
  have o2 := or2 (s[k]'(by omega)) (s[k + 1]'(by omega)) (s[k + 2]'(by omega))
  have o3 := or3 (s[k]'(by omega)) (s[k + 1]'(by omega)) (s[k + 2]'(by omega)) (s[k + 3]'(by omega))
  have hne9 : Nonempty (Later w) := Later.there w
  go_enter Try.func24, Try.ntmps24
  go_wp2
  refine region_later (by kernel_rfl) (by kernel_rfl) ?_
  repeat (go_big_quiet_step (fail))
  refine wpQuiet_nil ?_
  intro x9
  obtain ⟨W9, hb9⟩ := x9
  go_wp2
  go_ret
  exact ⟨ret_int (by rw [HE.out]; omega), hb9⟩

theorem rat (s : ByteArray) (i : Int) (k : Nat) (h : Four s i k) (w : World) : Calls Try.prog 28 #[.string s, .int .i64 i] w fun e w' => e = .returned (.int .i64 (Wx.at4 s.data.toList k : Nat)) ∧ Below w.heap.size w w' := by
  obtain ⟨rfl, hk, hf⟩ := h
  have hm : s.size ≤ 9223372036854775807 := hf
  have g0 : (k : Int) < (s.size : Int) := by omega
  have g1 : ((k : Int) + 1) < (s.size : Int) := by omega
  have g2 : ((k : Int) + 2) < (s.size : Int) := by omega
  have g3 : ((k : Int) + 3) < (s.size : Int) := by omega
  have n1 : 0 ≤ (k : Int) + 1 := by omega
  have n2 : 0 ≤ (k : Int) + 2 := by omega
  have n3 : 0 ≤ (k : Int) + 3 := by omega
  clear hk
  have HE : Hid _ := at4_is s (i := k) (by omega)
  have b0 := (s[k]'(by omega)).toNat_lt
  have b1 := (s[k + 1]'(by omega)).toNat_lt
  have b2 := (s[k + 2]'(by omega)).toNat_lt
  have b3 := (s[k + 3]'(by omega)).toNat_lt
  have hne9 : Nonempty (Later w) := Later.there w
  go_enter Try.func28, Try.ntmps28
  go_wp2
  refine region_later (by kernel_rfl) (by kernel_rfl) ?_
  repeat (go_big_quiet_step (fail))
  refine wpQuiet_nil ?_
  intro x9
  obtain ⟨W9, hb9⟩ := x9
  go_wp2
  go_ret
  exact ⟨ret_int (by rw [HE.out]; omega), hb9⟩

theorem signed (n : Nat) (hn : n < 4294967296) (w : World) : Calls Try.prog 31 #[.int .i64 (n : Int)] w fun e w' => e = .returned (.int .i64 (Wx.sg n)) ∧ w' = w := by
  by_cases h : n > 2147483647
  · have h2 : (2147483647 : Int) < (n : Int) := by omega
    have HE : Hid (Wx.sg n = (n : Int) - 4294967296) := by show _ = _; unfold Wx.sg; rw [if_pos h]
    go_enter Try.func31, Try.ntmps31
    go_wp2
    go_ret
    exact ⟨ret_int HE.out.symm, rfl⟩
  · have h2 : ¬ (2147483647 : Int) < (n : Int) := by omega
    have HE : Hid (Wx.sg n = (n : Int)) := by show _ = _; unfold Wx.sg; rw [if_neg h]
    go_enter Try.func31, Try.ntmps31
    go_wp2
    go_ret
    exact ⟨ret_int HE.out.symm, rfl⟩

theorem headOf (x0 x1 x2 x3 x4 x5 x6 x7 x8 x9 : Int) (xa : Option Addr) (xn xc : Nat) (w : World) : Calls Try.prog 21 #[.agg #[.int .i64 x0, .int .i64 x1, .int .i64 x2, .int .i64 x3, .int .i64 x4, .int .i64 x5, .int .i64 x6, .int .i64 x7, .int .i64 x8, .int .i64 x9, .slice xa xn xc]] w fun e w' => e = .returned (.agg #[.int .i64 x0, .int .i64 x1, .int .i64 x2, .int .i64 x3, .int .i64 x4, .int .i64 x5, .int .i64 x6, .int .i64 x7, .int .i64 x8, .int .i64 x9]) ∧ Below w.heap.size w w' := by
  go_enter Try.func21, Try.ntmps21
  go_wp2
  refine bodyPost_ret (v := .agg #[.int .i64 x0, .int .i64 x1, .int .i64 x2, .int .i64 x3, .int .i64 x4, .int .i64 x5, .int .i64 x6, .int .i64 x7, .int .i64 x8, .int .i64 x9]) (by simp [results, Try.results21, go_sem]) rfl ?_
  exact ⟨rfl, (new_bel _ _).alloc (by simp) _⟩

theorem withHead (x0 x1 x2 x3 x4 x5 x6 x7 x8 x9 : Int) (w : World) : Calls Try.prog 30 #[.agg #[.int .i64 x0, .int .i64 x1, .int .i64 x2, .int .i64 x3, .int .i64 x4, .int .i64 x5, .int .i64 x6, .int .i64 x7, .int .i64 x8, .int .i64 x9]] w fun e w' => e = .returned (.agg #[.int .i64 x0, .int .i64 x1, .int .i64 x2, .int .i64 x3, .int .i64 x4, .int .i64 x5, .int .i64 x6, .int .i64 x7, .int .i64 x8, .int .i64 x9, .slice none 0 0]) ∧ Below w.heap.size w w' := by
  go_enter Try.func30, Try.ntmps30
  go_wp2
  refine bodyPost_ret (v := .agg #[.int .i64 x0, .int .i64 x1, .int .i64 x2, .int .i64 x3, .int .i64 x4, .int .i64 x5, .int .i64 x6, .int .i64 x7, .int .i64 x8, .int .i64 x9, .slice none 0 0]) (by simp [results, Try.results30, go_sem]) rfl ?_
  exact ⟨rfl, (new_bel _ _).alloc (by simp) _⟩

/-! ### Of all in a list, one after the other -/
theorem upto_zero {l : List Int} {P : Int → Prop} : ∀ x ∈ l.take 0, P x := by intro x hx; simp at hx
theorem upto_succ {l : List Int} {P : Int → Prop} {k : Nat} (hk : k < l.length) (h : ∀ x ∈ l.take k, P x) (hx : P (l.getD k 0)) : ∀ x ∈ l.take (k + 1), P x := by
  rw [take_snoc l k hk]
  intro x hm
  rcases List.mem_append.1 hm with hm | hm
  · exact h x hm
  · simp at hm; subst hm; simpa using hx
theorem upto_all {l : List Int} {P : Int → Prop} {k : Nat} (hk : l.length ≤ k) (h : ∀ x ∈ l.take k, P x) : ∀ x ∈ l, P x := by rwa [List.take_of_length_le hk] at h
theorem num_mem (l : List Int) (k : Nat) (hk : k < l.length) : l.getD k 0 ∈ l := by rw [List.getD_eq_getElem?_getD, List.getElem?_eq_getElem hk]; exact List.getElem_mem hk

/-- Numbers as they may be in Vec. -/
def VecIn (l : List Int) : Prop := l.length ≤ 8 ∧ ∀ x ∈ l, -2147483648 ≤ x ∧ x ≤ 2147483647

theorem rightVec (a : Option Addr) (n c : Nat) (l : List Int) (w : World) (hr : Row .i64 w a n l) : Calls Try.prog 22 #[.slice a n c] w fun e w' => Says e (VecIn l) ∧ w' = w := by
  have HL : Hid (l.length = n) := hr.len
  by_cases h8 : 8 < n
  · have q : (8 : Int) < (n : Int) := by omega
    go_enter Try.func22, Try.ntmps22
    go_wp2
    go_ret
    exact ⟨Says.no fun h => by have := h.1; have := HL.out; omega, rfl⟩
  have q : ¬ (8 : Int) < (n : Int) := by omega
  go_enter Try.func22, Try.ntmps22
  go_wp2
  go_loopw [10] (fun i wr => ∃ k : Nat, k ≤ n ∧ i = .int .i64 k ∧ wr = w ∧ Hid (∀ x ∈ l.take k, -2147483648 ≤ x ∧ x ≤ 2147483647)) (fun i _ => n - (intOf i).toNat)
  case atStart => exact ⟨0, Nat.zero_le _, rfl, rfl, upto_zero⟩
  case round =>
    obtain ⟨k, hk, rfl, rfl, HI⟩ := hrel
    by_cases hlt : k < n
    · obtain ⟨b1, o1, rfl, hb1, hc1⟩ := hr.at hlt
      have hli : (k : Int) < (n : Int) := by omega
      have HM : Hid (l.getD k 0 ∈ l) := num_mem l k (by have := HL.out; omega)
      have HS : Hid (-2147483648 ≤ l.getD k 0 ∧ l.getD k 0 ≤ 2147483647 → ∀ x ∈ l.take (k + 1), -2147483648 ≤ x ∧ x ≤ 2147483647) := fun h => upto_succ (P := fun x => -2147483648 ≤ x ∧ x ≤ 2147483647) (by have := HL.out; omega) HI.out h
      generalize l.getD k 0 = x at *
      by_cases hx1 : x < -2147483648
      · go_wp2
        go_ret
        exact ⟨Says.no fun h => by have := h.2 x HM.out; omega, rfl⟩
      · by_cases hx2 : 2147483647 < x
        · go_wp2
          go_ret
          exact ⟨Says.no fun h => by have := h.2 x HM.out; omega, rfl⟩
        · go_wp2
          go_roundw
          case rel => exact ⟨k + 1, by omega, by go_num, by trivial, HS.out ⟨by omega, by omega⟩⟩
          case measure => simp [intOf]; omega
    · have hli : ¬ (k : Int) < (n : Int) := by omega
      go_wp2
      go_ret
      exact ⟨Says.yes ⟨by have := HL.out; omega, upto_all (by have := HL.out; omega) HI.out⟩, rfl⟩

theorem index10 (x0 x1 x2 x3 x4 x5 x6 x7 x8 x9 : Int) (k : Nat) (hk : k < 10) (w : World) : (Instr.index 45 (.agg #[.int .i64 x0, .int .i64 x1, .int .i64 x2, .int .i64 x3, .int .i64 x4, .int .i64 x5, .int .i64 x6, .int .i64 x7, .int .i64 x8, .int .i64 x9]) (.int .i64 (k : Int))).run Try.prog w = .ok (.int .i64 ([x0, x1, x2, x3, x4, x5, x6, x7, x8, x9].getD k 0)) w := by
  have i0 : ∀ w : World, (Instr.index 45 (.agg #[.int .i64 x0, .int .i64 x1, .int .i64 x2, .int .i64 x3, .int .i64 x4, .int .i64 x5, .int .i64 x6, .int .i64 x7, .int .i64 x8, .int .i64 x9]) (.int .i64 0)).run Try.prog w = .ok (.int .i64 x0) w := fun _ => by kernel_rfl
  have i1 : ∀ w : World, (Instr.index 45 (.agg #[.int .i64 x0, .int .i64 x1, .int .i64 x2, .int .i64 x3, .int .i64 x4, .int .i64 x5, .int .i64 x6, .int .i64 x7, .int .i64 x8, .int .i64 x9]) (.int .i64 1)).run Try.prog w = .ok (.int .i64 x1) w := fun _ => by kernel_rfl
  have i2 : ∀ w : World, (Instr.index 45 (.agg #[.int .i64 x0, .int .i64 x1, .int .i64 x2, .int .i64 x3, .int .i64 x4, .int .i64 x5, .int .i64 x6, .int .i64 x7, .int .i64 x8, .int .i64 x9]) (.int .i64 2)).run Try.prog w = .ok (.int .i64 x2) w := fun _ => by kernel_rfl
  have i3 : ∀ w : World, (Instr.index 45 (.agg #[.int .i64 x0, .int .i64 x1, .int .i64 x2, .int .i64 x3, .int .i64 x4, .int .i64 x5, .int .i64 x6, .int .i64 x7, .int .i64 x8, .int .i64 x9]) (.int .i64 3)).run Try.prog w = .ok (.int .i64 x3) w := fun _ => by kernel_rfl
  have i4 : ∀ w : World, (Instr.index 45 (.agg #[.int .i64 x0, .int .i64 x1, .int .i64 x2, .int .i64 x3, .int .i64 x4, .int .i64 x5, .int .i64 x6, .int .i64 x7, .int .i64 x8, .int .i64 x9]) (.int .i64 4)).run Try.prog w = .ok (.int .i64 x4) w := fun _ => by kernel_rfl
  have i5 : ∀ w : World, (Instr.index 45 (.agg #[.int .i64 x0, .int .i64 x1, .int .i64 x2, .int .i64 x3, .int .i64 x4, .int .i64 x5, .int .i64 x6, .int .i64 x7, .int .i64 x8, .int .i64 x9]) (.int .i64 5)).run Try.prog w = .ok (.int .i64 x5) w := fun _ => by kernel_rfl
  have i6 : ∀ w : World, (Instr.index 45 (.agg #[.int .i64 x0, .int .i64 x1, .int .i64 x2, .int .i64 x3, .int .i64 x4, .int .i64 x5, .int .i64 x6, .int .i64 x7, .int .i64 x8, .int .i64 x9]) (.int .i64 6)).run Try.prog w = .ok (.int .i64 x6) w := fun _ => by kernel_rfl
  have i7 : ∀ w : World, (Instr.index 45 (.agg #[.int .i64 x0, .int .i64 x1, .int .i64 x2, .int .i64 x3, .int .i64 x4, .int .i64 x5, .int .i64 x6, .int .i64 x7, .int .i64 x8, .int .i64 x9]) (.int .i64 7)).run Try.prog w = .ok (.int .i64 x7) w := fun _ => by kernel_rfl
  have i8 : ∀ w : World, (Instr.index 45 (.agg #[.int .i64 x0, .int .i64 x1, .int .i64 x2, .int .i64 x3, .int .i64 x4, .int .i64 x5, .int .i64 x6, .int .i64 x7, .int .i64 x8, .int .i64 x9]) (.int .i64 8)).run Try.prog w = .ok (.int .i64 x8) w := fun _ => by kernel_rfl
  have i9 : ∀ w : World, (Instr.index 45 (.agg #[.int .i64 x0, .int .i64 x1, .int .i64 x2, .int .i64 x3, .int .i64 x4, .int .i64 x5, .int .i64 x6, .int .i64 x7, .int .i64 x8, .int .i64 x9]) (.int .i64 9)).run Try.prog w = .ok (.int .i64 x9) w := fun _ => by kernel_rfl
  rcases (by omega : k = 0 ∨ k = 1 ∨ k = 2 ∨ k = 3 ∨ k = 4 ∨ k = 5 ∨ k = 6 ∨ k = 7 ∨ k = 8 ∨ k = 9) with rfl | rfl | rfl | rfl | rfl | rfl | rfl | rfl | rfl | rfl
  · exact i0 w
  · exact i1 w
  · exact i2 w
  · exact i3 w
  · exact i4 w
  · exact i5 w
  · exact i6 w
  · exact i7 w
  · exact i8 w
  · exact i9 w

/-- A variable's cell, in whatever world comes of that in which it was laid. -/
theorem box_cell {w u : World} {cs : Array Value} {t : TypeId} (hb : Below (w.alloc (.cells cs t)).heap.size (w.alloc (.cells cs t)) u) (i : Nat) {v : Value} (hv : cs[i]? = some v) : u.cell? ⟨w.heap.size, i, none⟩ = some v := by
  refine (hb.cell (p := ⟨w.heap.size, i, none⟩) (by simp)).trans ?_
  rw [cell_of_row _ w.heap.size i cs t (0, 0) (heap_alloc_new w _)]
  exact hv

theorem wright (x0 x1 x2 x3 x4 x5 x6 x7 x8 x9 : Int) (xa : Option Addr) (xn xc : Nat) (l : List Int) (w : World) (hr : Row .i64 w xa xn l) : Calls Try.prog 12 #[.agg #[.int .i64 x0, .int .i64 x1, .int .i64 x2, .int .i64 x3, .int .i64 x4, .int .i64 x5, .int .i64 x6, .int .i64 x7, .int .i64 x8, .int .i64 x9, .slice xa xn xc]] w fun e w' => Says e (Wx.right ⟨x0, x1, x2, x3, x4, x5, x6, x7, x8, x9, l⟩) ∧ Below w.heap.size w w' := by
  by_cases hk1 : x0 < 1
  · go_enter Try.func12, Try.ntmps12
    go_wp2
    go_ret
    exact ⟨Says.no fun h => by have h1 : 1 ≤ x0 := h.1; omega, new_bel _ _⟩
  by_cases hk2 : 4 < x0
  · go_enter Try.func12, Try.ntmps12
    go_wp2
    go_ret
    exact ⟨Says.no fun h => by have h1 : x0 ≤ 4 := h.2.1; omega, new_bel _ _⟩
  go_enter Try.func12, Try.ntmps12
  go_wp2_with fail
  refine (headOf x0 x1 x2 x3 x4 x5 x6 x7 x8 x9 xa xn xc _).mono ?_
  rintro e u ⟨rfl, hb⟩
  have hc := box_cell hb 10 (v := .slice xa xn xc) rfl
  have hB := bel_then (new_bel _ _) hb
  have hr2 := hr.keep hB
  clear hb hr
  have HT : Hid ([x0, x1, x2, x3, x4, x5, x6, x7, x8, x9].length = 10) := rfl
  obtain ⟨t, ht⟩ : ∃ t : List Int, t = [x0, x1, x2, x3, x4, x5, x6, x7, x8, x9] := ⟨_, rfl⟩
  have HR : Hid (Wx.right ⟨x0, x1, x2, x3, x4, x5, x6, x7, x8, x9, l⟩ ↔ (∀ x ∈ t, 0 ≤ x ∧ x ≤ 2147483647) ∧ VecIn l) := by
    show _ ↔ _
    rw [ht]
    exact ⟨fun h => ⟨h.2.2.1, h.2.2.2⟩, fun h => ⟨show 1 ≤ x0 by omega, show x0 ≤ 4 by omega, h.1, h.2⟩⟩
  have HI : Hid (∀ k : Nat, k < 10 → ∀ w : World, (Instr.index 45 (.agg #[.int .i64 x0, .int .i64 x1, .int .i64 x2, .int .i64 x3, .int .i64 x4, .int .i64 x5, .int .i64 x6, .int .i64 x7, .int .i64 x8, .int .i64 x9]) (.int .i64 (k : Int))).run Try.prog w = .ok (.int .i64 (t.getD k 0)) w) := by
    intro k hk w
    rw [ht]
    exact index10 x0 x1 x2 x3 x4 x5 x6 x7 x8 x9 k hk w
  rw [← ht] at HT
  clear ht
  go_wp2
  go_loopw [15] (fun i wr => ∃ k : Nat, k ≤ 10 ∧ i = .int .i64 k ∧ wr = u ∧ Hid (∀ x ∈ t.take k, 0 ≤ x ∧ x ≤ 2147483647)) (fun i _ => 10 - (intOf i).toNat)
  case atStart => exact ⟨0, Nat.zero_le _, rfl, rfl, upto_zero⟩
  case round =>
    obtain ⟨k, hk, rfl, hww, HJ⟩ := hrel
    replace hww := hww.symm
    subst hww
    by_cases hlt : k < 10
    · have hli : (k : Int) < 10 := by omega
      have hix := HI.out k hlt
      have HM : Hid (t.getD k 0 ∈ t) := num_mem t k (by have := HT.out; omega)
      have HS : Hid (0 ≤ t.getD k 0 ∧ t.getD k 0 ≤ 2147483647 → ∀ x ∈ t.take (k + 1), 0 ≤ x ∧ x ≤ 2147483647) := fun h => upto_succ (P := fun x => 0 ≤ x ∧ x ≤ 2147483647) (by have := HT.out; omega) HJ.out h
      generalize t.getD k 0 = x at *
      by_cases hx1 : x < 0
      · go_wp2
        go_ret
        exact ⟨Says.no fun h => by have := (HR.out.1 h).1 x HM.out; omega, hB⟩
      · by_cases hx2 : 2147483647 < x
        · go_wp2
          go_ret
          exact ⟨Says.no fun h => by have := (HR.out.1 h).1 x HM.out; omega, hB⟩
        · go_wp2
          go_roundw
          case rel => exact ⟨k + 1, by omega, by go_num, by trivial, HS.out ⟨by omega, by omega⟩⟩
          case measure => simp [intOf]; omega
    · have hli : ¬ (k : Int) < 10 := by omega
      have HA : Hid (∀ x ∈ t, 0 ≤ x ∧ x ≤ 2147483647) := upto_all (by have := HT.out; omega) HJ.out
      go_wp2_with fail
      refine (rightVec xa xn xc l _ hr2).mono ?_
      rintro e u2 ⟨hs, rfl⟩
      rw [hs.form, tell_iff (show VecIn l ↔ Wx.right ⟨x0, x1, x2, x3, x4, x5, x6, x7, x8, x9, l⟩ from ⟨fun h => HR.out.2 ⟨HA.out, h⟩, fun h => (HR.out.1 h).2⟩)]
      go_wp2
      go_ret
      by_cases hp : Wx.right ⟨x0, x1, x2, x3, x4, x5, x6, x7, x8, x9, l⟩
      · rw [tell_yes hp]; exact ⟨Says.yes hp, hB⟩
      · rw [tell_no hp]; exact ⟨Says.no hp, hB⟩

theorem rightLength (s : ByteArray) (hs : s.size ≤ maxLen) (w : World) : Calls Try.prog 23 #[.string s] w fun e w' => Says e (Wx.formed s.data.toList) ∧ Below w.heap.size w w' := by
  have hm : s.size ≤ 9223372036854775807 := hs
  have hl : s.data.toList.length = s.size := by rw [Array.length_toList]; rfl
  have tm : ((s.size : Nat) : Int).tmod 4 = ((s.size % 4 : Nat) : Int) := by rw [Int.tmod_eq_emod_of_nonneg (by omega)]; rfl
  by_cases h1 : 52 ≤ s.size
  · by_cases h2 : s.size % 4 = 0
    · have q1 : (52 : Int) ≤ (s.size : Int) := by omega
      have q2 : (((s.size % 4 : Nat) : Int) == 0) = true := by rw [h2]; rfl
      have hb := Wx.at4_lt s.data.toList 0
      have HF : Hid (Wx.formed s.data.toList ↔ Wx.at4 s.data.toList 0 = s.size - 4) := by
        show _ ↔ _
        unfold Wx.formed
        rw [hl]
        exact ⟨fun h => h.2.1, fun h => ⟨h1, h, h2⟩⟩
      have HC : Hid _ := numberAt s 0 0 ⟨rfl, by omega, hs⟩
      generalize Wx.at4 s.data.toList 0 = x at *
      clear hl
      by_cases h3 : x = s.size - 4
      · have q3 : ((x : Int) == (s.size : Int) - 4) = true := by rw [beq_iff_eq]; omega
        have H3 : Hid (x = s.size - 4) := h3
        clear h3
        go_enter Try.func23, Try.ntmps23
        go_wp2_with fail
        refine (HC.out _).mono ?_
        rintro e u ⟨rfl, hb⟩
        go_wp2
        go_ret
        exact ⟨Says.yes (HF.out.2 H3.out), hb⟩
      · have q3 : ((x : Int) == (s.size : Int) - 4) = false := by rw [beq_eq_false_iff_ne]; omega
        go_enter Try.func23, Try.ntmps23
        go_wp2_with fail
        refine (HC.out _).mono ?_
        rintro e u ⟨rfl, hb⟩
        go_wp2
        go_ret
        exact ⟨Says.no fun h => h3 (HF.out.1 h), hb⟩
    · have q1 : (52 : Int) ≤ (s.size : Int) := by omega
      have q2 : (((s.size % 4 : Nat) : Int) == 0) = false := by rw [beq_eq_false_iff_ne]; omega
      have HN : Hid (¬ Wx.formed s.data.toList) := fun h => by have := h.2.2; rw [hl] at this; omega
      clear hl
      go_enter Try.func23, Try.ntmps23
      go_wp2
      go_ret
      exact ⟨Says.no HN.out, Below.refl _ _⟩
  · have q1 : ¬ (52 : Int) ≤ (s.size : Int) := by omega
    have HN : Hid (¬ Wx.formed s.data.toList) := fun h => by have := h.1; rw [hl] at this; omega
    clear hl
    go_enter Try.func23, Try.ntmps23
    go_wp2
    go_ret
    exact ⟨Says.no HN.out, Below.refl _ _⟩

end Go.Proofs.Ytehelcbbcneihaa
