/- What the functions of package crc, the document's answers for layer 6, and the laws' fixed answer do when called: the sums of Cx, the world as it was. -/
import Derived.Test.YtpfhjdlmjehfnaaBase
import Derived.Test.YtpfhjdlmjehfnaaCx
import Derived.Laws.BitsAllLaws
import Derived.Laws.Concat
import Derived.Laws.IdiomStrings
namespace Go.Proofs.Ytpfhjdlmjehfnaa
open Go.ChangeShapes Go.WideShapes Go.ChangeAt Go.RowKit

theorem odd_and {x : Nat} (hx : x < 4294967296) (h : x % 2 = 1) : bits .and .u32 (x : Int) 1 = 1 := by
  have := u32_and_nat x 1 hx (by omega)
  rw [Nat.and_one_is_mod, h] at this
  exact this
theorem even_and {x : Nat} (hx : x < 4294967296) (h : ¬ x % 2 = 1) : bits .and .u32 (x : Int) 1 = 0 := by
  have := u32_and_nat x 1 hx (by omega)
  rw [Nat.and_one_is_mod, show x % 2 = 0 by omega] at this
  exact this
theorem laid {x : Nat} (hx : x < 4294967296) (h : x % 2 = 1) : bits .xor .u32 ((x : Int) / 2) 3988292384 = (Cx.step x : Nat) := by
  have := u32_xor_nat (x / 2) 3988292384 (by omega) (by omega)
  rw [Cx.step_odd h, ← this]
  rfl

set_option maxRecDepth 100000 in
theorem eight (c : Nat) (hc : c < 4294967296) (w : World) : Calls Try.prog 47 #[.int .u32 (c : Int)] w fun e w' => e = .returned (.int .u32 (Cx.steps 8 c : Nat)) ∧ w' = w := by
  go_enter Try.func47, Try.ntmps47
  go_wp2
  go_loopw [0, 4] (fun s i wr => ∃ (k : Nat), k ≤ 8 ∧ i = .int .i64 k ∧ s = .int .u32 (Cx.steps k c : Nat) ∧ wr = w) (fun _ i _ => 8 - (intOf i).toNat)
  case atStart => exact ⟨0, by omega, rfl, rfl, rfl⟩
  case round =>
    obtain ⟨k, hk, rfl, rfl, hww⟩ := hrel
    replace hww := hww.symm
    subst hww
    have hx := Cx.steps_lt hc k
    by_cases hlt : k < 8
    · have hli : (k : Int) < 8 := by omega
      have HS : Hid (Cx.steps (k + 1) c = Cx.step (Cx.steps k c)) := rfl
      generalize Cx.steps k c = x at *
      by_cases ho : x % 2 = 1
      · have e1 := odd_and hx ho
        have e2 := laid hx ho
        go_wp2
        go_roundw
        case rel => exact ⟨k + 1, by omega, by go_num, by rw [HS.out], by trivial⟩
        case measure => simp [intOf]; omega
      · have e1 := even_and hx ho
        have HE : Hid (Cx.step x = x / 2) := Cx.step_even ho
        go_wp2
        go_roundw
        case rel => exact ⟨k + 1, by omega, by go_num, by rw [HS.out, HE.out]; rfl, by trivial⟩
        case measure => simp [intOf]; omega
    · have hkn : k = 8 := by omega
      subst hkn
      go_wp2
      go_ret
      exact ⟨rfl, rfl⟩

def crc (s : ByteArray) : Nat := Cx.sum s.data.toList
theorem crc_lt (s : ByteArray) : crc s < 4294967296 := Cx.sum_lt _
theorem take_run (s : ByteArray) {k : Nat} (h : k < s.size) : Cx.run 4294967295 (s.data.toList.take (k + 1)) = Cx.byte (Cx.run 4294967295 (s.data.toList.take k)) (s[k]).toNat := by
  have hl : k < s.data.toList.length := by rw [Array.length_toList]; exact h
  rw [List.take_succ_eq_append_getElem hl, Cx.run_append, Cx.run_cons, Cx.run_nil]
  rfl
/-- The sum of a string. -/
theorem take_all (s : ByteArray) : Cx.run 4294967295 (s.data.toList.take s.size) ^^^ 4294967295 = crc s := by
  rw [List.take_of_length_le (by rw [Array.length_toList]; exact Nat.le_refl _)]; rfl

set_option maxRecDepth 100000 in
theorem csum (s : ByteArray) (hs : s.size ≤ maxLen) (w : World) : Calls Try.prog 31 #[.string s] w fun e w' => e = .returned (.int .i64 (crc s : Nat)) ∧ w' = w := by
  have hm : s.size ≤ 9223372036854775807 := hs
  go_enter Try.func31, Try.ntmps31
  go_wp2
  go_loopw [3, 7] (fun v i wr => ∃ (k : Nat), k ≤ s.size ∧ i = .int .i64 k ∧ v = .int .u32 (Cx.run 4294967295 (s.data.toList.take k) : Nat) ∧ wr = w) (fun _ i _ => s.size - (intOf i).toNat)
  case atStart => exact ⟨0, by omega, rfl, rfl, rfl⟩
  case round =>
    obtain ⟨k, hk, rfl, rfl, hww⟩ := hrel
    replace hww := hww.symm
    subst hww
    have hx : Cx.run 4294967295 (s.data.toList.take k) < 4294967296 := Cx.run_lt (by omega) _
    by_cases hlt : k < s.size
    · have hli : (k : Int) < (s.size : Int) := by omega
      have HS : Hid _ := take_run s hlt
      generalize Cx.run 4294967295 (s.data.toList.take k) = x at *
      have hb := (s[k]).toNat_lt
      have e1 := u32_xor_nat x (s[k]).toNat hx (by omega)
      have hE := eight (x ^^^ (s[k]).toNat) (Cx.xor_lt hx (by omega)) w
      go_wp2_with (go_at_call 47; refine by_same hE ?_)
      go_roundw
      case rel => exact ⟨k + 1, by omega, by go_num, by rw [HS.out]; rfl, by trivial⟩
      case measure => simp [intOf]; omega
    · have hkn : k = s.size := by omega
      subst hkn
      have e1 : bits .xor .u32 ((Cx.run 4294967295 (s.data.toList.take s.size) : Nat) : Int) 4294967295 = (crc s : Nat) := by rw [← take_all]; exact u32_xor_nat _ 4294967295 hx (by omega)
      have hc := crc_lt s
      go_wp2
      go_ret
      exact ⟨rfl, rfl⟩

/-! ### The document's -/
set_option maxRecDepth 100000 in
theorem over (a b : Nat) (ha : a < 4294967296) (hb : b < 4294967296) (w : World) : Calls Try.prog 48 #[.int .i64 (a : Int), .int .i64 (b : Int)] w fun e w' => e = .returned (.int .i64 (a ^^^ b : Nat)) ∧ w' = w := by
  have hr := Cx.xor_lt ha hb
  obtain ⟨r, hr0⟩ : ∃ r, a ^^^ b = r := ⟨_, rfl⟩
  have HA : Hid (0 + 1 * (a ^^^ b) = r) := by show _ = _; omega
  have HB : Hid (a * 1 < 4294967296) := by show _ < _; omega
  have HC : Hid (b * 1 < 4294967296) := by show _ < _; omega
  rw [hr0] at hr
  rw [hr0]
  clear hr0
  go_enter Try.func48, Try.ntmps48
  go_wp2
  go_loopw [0, 1, 5, 6] (fun x y o t wr => ∃ (a b out bit : Nat), x = .int .i64 a ∧ y = .int .i64 b ∧ o = .int .i64 out ∧ t = .int .i64 bit ∧ a < 4294967296 ∧ b < 4294967296 ∧ bit < 8589934592 ∧ out + bit * (a ^^^ b) = r ∧ a * bit < 4294967296 ∧ b * bit < 4294967296 ∧ wr = w)
    (fun x y _ _ _ => (intOf x).toNat + (intOf y).toNat)
  case atStart => exact ⟨a, b, 0, 1, rfl, rfl, rfl, rfl, ha, hb, by omega, HA.out, HB.out, HC.out, rfl⟩
  case round =>
    obtain ⟨a, b, out, bit, rfl, rfl, rfl, rfl, ha, hb, ht, he, h1, h2, hww⟩ := hrel
    replace hww := hww.symm
    subst hww
    have HE : Hid (out + bit * (a ^^^ b) = r) := he
    have ho : out ≤ r := by omega
    have H1 : Hid (a * bit < 4294967296) := h1
    have H2 : Hid (b * bit < 4294967296) := h2
    clear he h1 h2 HA HB HC
    by_cases h0 : 0 < a ∨ 0 < b
    · have ht2 : bit < 4294967296 := by
        rcases h0 with h | h
        · exact Cx.over_bit H1.out h
        · exact Cx.over_bit H2.out h
      have hm : a / 2 + b / 2 < a + b := by omega
      have ta : (a : Int).tmod 2 = (a % 2 : Nat) := by rw [Int.tmod_eq_emod_of_nonneg (by omega)]; rfl
      have tb : (b : Int).tmod 2 = (b % 2 : Nat) := by rw [Int.tmod_eq_emod_of_nonneg (by omega)]; rfl
      have da : (a : Int).tdiv 2 = (a / 2 : Nat) := by rw [Int.tdiv_eq_ediv_of_nonneg (by omega)]; rfl
      have db : (b : Int).tdiv 2 = (b / 2 : Nat) := by rw [Int.tdiv_eq_ediv_of_nonneg (by omega)]; rfl
      have K1 : Hid (a / 2 * (2 * bit) < 4294967296) := Cx.over_half H1.out
      have K2 : Hid (b / 2 * (2 * bit) < 4294967296) := Cx.over_half H2.out
      by_cases hp : a % 2 = b % 2
      · have KE : Hid (out + 2 * bit * (a / 2 ^^^ b / 2) = r) := Cx.over_like HE.out hp
        have hq : (((a % 2 : Nat) : Int) != ((b % 2 : Nat) : Int)) = false := by simp [hp]
        by_cases hz : (0 : Int) < (a : Int)
        · go_wp2
          go_roundw
          case rel => exact ⟨a / 2, b / 2, out, 2 * bit, by go_num, by go_num, rfl, by go_num, by omega, by omega, by omega, KE.out, K1.out, K2.out, by trivial⟩
          case measure => simp [intOf]; omega
        · have hz2 : (0 : Int) < (b : Int) := by omega
          go_wp2
          go_roundw
          case rel => exact ⟨a / 2, b / 2, out, 2 * bit, by go_num, by go_num, rfl, by go_num, by omega, by omega, by omega, KE.out, K1.out, K2.out, by trivial⟩
          case measure => simp [intOf]; omega
      · have KE : Hid (out + bit + 2 * bit * (a / 2 ^^^ b / 2) = r) := Cx.over_unlike HE.out hp
        have hq : (((a % 2 : Nat) : Int) != ((b % 2 : Nat) : Int)) = true := by simp; omega
        by_cases hz : (0 : Int) < (a : Int)
        · go_wp2
          go_roundw
          case rel => exact ⟨a / 2, b / 2, out + bit, 2 * bit, by go_num, by go_num, by go_num, by go_num, by omega, by omega, by omega, KE.out, K1.out, K2.out, by trivial⟩
          case measure => simp [intOf]; omega
        · have hz2 : (0 : Int) < (b : Int) := by omega
          go_wp2
          go_roundw
          case rel => exact ⟨a / 2, b / 2, out + bit, 2 * bit, by go_num, by go_num, by go_num, by go_num, by omega, by omega, by omega, KE.out, K1.out, K2.out, by trivial⟩
          case measure => simp [intOf]; omega
    · have h3 : a = 0 := by omega
      have h4 : b = 0 := by omega
      subst h3
      subst h4
      have hr2 : out = r := by have := HE.out; simpa using this
      subst hr2
      clear HE H1 H2
      go_wp2
      go_ret
      exact ⟨rfl, rfl⟩

set_option maxRecDepth 100000 in
theorem rsum (s : ByteArray) (hs : s.size ≤ maxLen) (w : World) : Calls Try.prog 34 #[.string s] w fun e w' => e = .returned (.int .i64 (crc s : Nat)) ∧ w' = w := by
  have hm : s.size ≤ 9223372036854775807 := hs
  go_enter Try.func34, Try.ntmps34
  go_wp2
  go_loopw [3, 4] (fun v i wr => ∃ (k : Nat), k ≤ s.size ∧ i = .int .i64 k ∧ v = .int .i64 (Cx.run 4294967295 (s.data.toList.take k) : Nat) ∧ wr = w) (fun _ i _ => s.size - (intOf i).toNat)
  case atStart => exact ⟨0, by omega, rfl, rfl, rfl⟩
  case round =>
    obtain ⟨k, hk, rfl, rfl, hww⟩ := hrel
    replace hww := hww.symm
    subst hww
    have hx : Cx.run 4294967295 (s.data.toList.take k) < 4294967296 := Cx.run_lt (by omega) _
    by_cases hlt : k < s.size
    · have hli : (k : Int) < (s.size : Int) := by omega
      have HS : Hid _ := take_run s hlt
      generalize Cx.run 4294967295 (s.data.toList.take k) = x at *
      have hb := (s[k]).toNat_lt
      have hE := over x (s[k]).toNat hx (by omega) w
      have hy := Cx.xor_lt hx (show (s[k]).toNat < 4294967296 by omega)
      have HY : Hid (Cx.byte x (s[k]).toNat = Cx.steps 8 (x ^^^ (s[k]).toNat)) := rfl
      generalize x ^^^ (s[k]).toNat = y at *
      go_wp2_with (go_at_call 48; refine by_same hE ?_)
      go_loopw [3, 5] (fun v i wr => ∃ (j : Nat), j ≤ 8 ∧ i = .int .i64 j ∧ v = .int .i64 (Cx.steps j y : Nat) ∧ wr = w) (fun _ i _ => 8 - (intOf i).toNat)
      case atStart => exact ⟨0, by omega, rfl, rfl, rfl⟩
      case round =>
        obtain ⟨j, hj, rfl, rfl, hww⟩ := hrel
        replace hww := hww.symm
        subst hww
        have hz := Cx.steps_lt hy j
        by_cases hjt : j < 8
        · have hji : (j : Int) < 8 := by omega
          have HZ : Hid (Cx.steps (j + 1) y = Cx.step (Cx.steps j y)) := rfl
          generalize Cx.steps j y = z at *
          have tz : (z : Int).tmod 2 = (z % 2 : Nat) := by rw [Int.tmod_eq_emod_of_nonneg (by omega)]; rfl
          have dz : (z : Int).tdiv 2 = (z / 2 : Nat) := by rw [Int.tdiv_eq_ediv_of_nonneg (by omega)]; rfl
          by_cases ho : z % 2 = 1
          · have hO := over (z / 2) 3988292384 (by omega) (by omega) w
            rw [← Cx.step_odd ho] at hO
            have hq : (((z % 2 : Nat) : Int) == 1) = true := by simp; omega
            go_wp2_with (go_at_call 48; refine by_same hO ?_)
            go_roundw
            case rel => exact ⟨j + 1, by omega, by go_num, by rw [HZ.out], by trivial⟩
            case measure => simp [intOf]; omega
          · have HW : Hid (Cx.step z = z / 2) := Cx.step_even ho
            have hq : (((z % 2 : Nat) : Int) == 1) = false := by simp; omega
            go_wp2
            go_roundw
            case rel => exact ⟨j + 1, by omega, by go_num, by rw [HZ.out, HW.out]; rfl, by trivial⟩
            case measure => simp [intOf]; omega
        · have hjn : j = 8 := by omega
          subst hjn
          go_wp2
          go_roundw
          case rel => exact ⟨k + 1, by omega, by go_num, by rw [HS.out, HY.out], by trivial⟩
          case measure => simp [intOf]; omega
    · have hkn : k = s.size := by omega
      subst hkn
      have hO := over (Cx.run 4294967295 (s.data.toList.take s.size)) 4294967295 hx (by omega) w
      rw [take_all] at hO
      go_wp2_with (go_at_call 48; refine by_same hO ?_)
      go_ret
      exact ⟨rfl, rfl⟩

theorem crc_digits : crc ⟨#[49, 50, 51, 52, 53, 54, 55, 56, 57]⟩ = 3421780262 := by decide +kernel
theorem crc_a : crc ⟨#[97]⟩ = 3904355907 := by decide +kernel
theorem crc_b : crc ⟨#[98]⟩ = 1908338681 := by decide +kernel
end Go.Proofs.Ytpfhjdlmjehfnaa
