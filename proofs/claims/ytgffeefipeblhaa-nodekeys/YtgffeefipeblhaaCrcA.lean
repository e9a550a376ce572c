/- What the functions of package crc, the document's answers for layer 6, and the laws' fixed answer do when called: the sums of Cx, the world as it was. -/
import Derived.Test.YtgffeefipeblhaaBase
import Derived.Test.YtgffeefipeblhaaCx
import Derived.Laws.BitsAllLaws
import Derived.Laws.Concat
import Derived.Laws.IdiomStrings
namespace Go.Proofs.Ytgffeefipeblhaa
open Go.ChangeShapes Go.WideShapes Go.ChangeAt Go.RowKit

theorem odd_and {x : Nat} (hx : x < 4294967296) (h : x % 2 = 1) : bits .and .u32 (x : Int) 1 = 1 := by
  have := u32_and_nat x 1 hx (by omega)
  rw [Nat.and_one_is_mod, h] at this
  exact this
theorem even_and {x : Nat} (hx : x < 4294967296) (h : ¬ x % 2 = 1) : bits .and .u32 (x : Int) 1 = 0 := by
  have := u32_and_nat x 1 hx (by omega)
  rw [Nat.and_one_is_mod, show x % 2 = 0 by omega] at this
  exact this
theorem laid {x : Nat} (hx : x < 4294967296) (h : x % 2 = 1) : bits .xor .u32 ((x : Int) / 2) 3988292384 = (Cx.step x : Nat) := by
  have := u32_xor_nat (x / 2) 3988292384 (by omega) (by omega)
  rw [Cx.step_odd h, ← this]
  rfl


def crc (s : ByteArray) : Nat := Cx.sum s.data.toList
theorem crc_lt (s : ByteArray) : crc s < 4294967296 := Cx.sum_lt _

/-! ### The document's -/


theorem crc_digits : crc ⟨#[49, 50, 51, 52, 53, 54, 55, 56, 57]⟩ = 3421780262 := by decide +kernel
theorem crc_a : crc ⟨#[97]⟩ = 3904355907 := by decide +kernel
theorem crc_b : crc ⟨#[98]⟩ = 1908338681 := by decide +kernel
end Go.Proofs.Ytgffeefipeblhaa
