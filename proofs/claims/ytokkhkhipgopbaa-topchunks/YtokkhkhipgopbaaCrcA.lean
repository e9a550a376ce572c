/- What the functions of package crc, the document's answers for layer 6, and the laws' fixed answer do when called: the sums of Cx, the world as it was. -/
import Derived.Test.YtokkhkhipgopbaaBase
import Derived.Test.YtokkhkhipgopbaaCx
import Derived.Laws.BitsAllLaws
import Derived.Laws.Concat
import Derived.Laws.IdiomStrings
namespace Go.Proofs.Ytokkhkhipgopbaa
open Go.ChangeShapes Go.WideShapes Go.ChangeAt Go.RowKit

theorem odd_and {x : Nat} (hx : x < 4294967296) (h : x % 2 = 1) : bits .and .u32 (x : Int) 1 = 1 := by
  have := u32_and_nat x 1 hx (by omega)
  rw [Nat.and_one_is_mod, h] at this
  exact this
theorem even_and {x : Nat} (hx : x < 4294967296) (h : ¬ x % 2 = 1) : bits .and .u32 (x : Int) 1 = 0 := by
  have := u32_and_nat x 1 hx (by omega)
  rw [Nat.and_one_is_mod, show x % 2 = 0 by omega] at this
  exact this
theorem laid {x : Nat} (hx : x < 4294967296) (h : x % 2 = 1) : bits .xor .u32 ((x : Int) / 2) 3988292384 = (Cx.step x : Nat) := by
  have := u32_xor_nat (x / 2) 3988292384 (by omega) (by omega)
  rw [Cx.step_odd h, ← this]
  rfl

set_option maxRecDepth 100000 in
theorem eight (c : Nat) (hc : c < 4294967296) (w : World) : Calls Try.prog 31 #[.int .u32 (c : Int)] w fun e w' => e = .returned (.int .u32 (Cx.steps 8 c : Nat)) ∧ w' = w := by
  go_enter Try.func31, Try.ntmps31
  go_wp2
  go_loopw [0, 4] (fun s i wr => ∃ (k : Nat), k ≤ 8 ∧ i = .int .i64 k ∧ s = .int .u32 (Cx.steps k c : Nat) ∧ wr = w) (fun _ i _ => 8 - (intOf i).toNat)
  case atStart => exact ⟨0, by omega, rfl, rfl, rfl⟩
  case round =>
    obtain ⟨k, hk, rfl, rfl, hww⟩ := hrel
    replace hww := hww.symm
    subst hww
    have hx := Cx.steps_lt hc k
    by_cases hlt : k < 8
    · have hli : (k : Int) < 8 := by omega
      have HS : Hid (Cx.steps (k + 1) c = Cx.step (Cx.steps k c)) := rfl
      generalize Cx.steps k c = x at *
      by_cases ho : x % 2 = 1
      · have e1 := odd_and hx ho
        have e2 := laid hx ho
        go_wp2
        go_roundw
        case rel => exact ⟨k + 1, by omega, by go_num, by rw [HS.out], by trivial⟩
        case measure => simp [intOf]; omega
      · have e1 := even_and hx ho
        have HE : Hid (Cx.step x = x / 2) := Cx.step_even ho
        go_wp2
        go_roundw
        case rel => exact ⟨k + 1, by omega, by go_num, by rw [HS.out, HE.out]; rfl, by trivial⟩
        case measure => simp [intOf]; omega
    · have hkn : k = 8 := by omega
      subst hkn
      go_wp2
      go_ret
      exact ⟨rfl, rfl⟩

def crc (s : ByteArray) : Nat := Cx.sum s.data.toList
theorem crc_lt (s : ByteArray) : crc s < 4294967296 := Cx.sum_lt _
theorem take_run (s : ByteArray) {k : Nat} (h : k < s.size) : Cx.run 4294967295 (s.data.toList.take (k + 1)) = Cx.byte (Cx.run 4294967295 (s.data.toList.take k)) (s[k]).toNat := by
  have hl : k < s.data.toList.length := by rw [Array.length_toList]; exact h
  rw [List.take_succ_eq_append_getElem hl, Cx.run_append, Cx.run_cons, Cx.run_nil]
  rfl
/-- The sum of a string. -/
theorem take_all (s : ByteArray) : Cx.run 4294967295 (s.data.toList.take s.size) ^^^ 4294967295 = crc s := by
  rw [List.take_of_length_le (by rw [Array.length_toList]; exact Nat.le_refl _)]; rfl

set_option maxRecDepth 100000 in
theorem csum (s : ByteArray) (hs : s.size ≤ maxLen) (w : World) : Calls Try.prog 19 #[.string s] w fun e w' => e = .returned (.int .i64 (crc s : Nat)) ∧ w' = w := by
  have hm : s.size ≤ 9223372036854775807 := hs
  go_enter Try.func19, Try.ntmps19
  go_wp2
  go_loopw [3, 7] (fun v i wr => ∃ (k : Nat), k ≤ s.size ∧ i = .int .i64 k ∧ v = .int .u32 (Cx.run 4294967295 (s.data.toList.take k) : Nat) ∧ wr = w) (fun _ i _ => s.size - (intOf i).toNat)
  case atStart => exact ⟨0, by omega, rfl, rfl, rfl⟩
  case round =>
    obtain ⟨k, hk, rfl, rfl, hww⟩ := hrel
    replace hww := hww.symm
    subst hww
    have hx : Cx.run 4294967295 (s.data.toList.take k) < 4294967296 := Cx.run_lt (by omega) _
    by_cases hlt : k < s.size
    · have hli : (k : Int) < (s.size : Int) := by omega
      have HS : Hid _ := take_run s hlt
      generalize Cx.run 4294967295 (s.data.toList.take k) = x at *
      have hb := (s[k]).toNat_lt
      have e1 := u32_xor_nat x (s[k]).toNat hx (by omega)
      have hE := eight (x ^^^ (s[k]).toNat) (Cx.xor_lt hx (by omega)) w
      go_wp2_with (go_at_call 31; refine by_same hE ?_)
      go_roundw
      case rel => exact ⟨k + 1, by omega, by go_num, by rw [HS.out]; rfl, by trivial⟩
      case measure => simp [intOf]; omega
    · have hkn : k = s.size := by omega
      subst hkn
      have e1 : bits .xor .u32 ((Cx.run 4294967295 (s.data.toList.take s.size) : Nat) : Int) 4294967295 = (crc s : Nat) := by rw [← take_all]; exact u32_xor_nat _ 4294967295 hx (by omega)
      have hc := crc_lt s
      go_wp2
      go_ret
      exact ⟨rfl, rfl⟩

/-! ### The document's -/


theorem crc_digits : crc ⟨#[49, 50, 51, 52, 53, 54, 55, 56, 57]⟩ = 3421780262 := by decide +kernel
theorem crc_a : crc ⟨#[97]⟩ = 3904355907 := by decide +kernel
theorem crc_b : crc ⟨#[98]⟩ = 1908338681 := by decide +kernel
end Go.Proofs.Ytokkhkhipgopbaa
