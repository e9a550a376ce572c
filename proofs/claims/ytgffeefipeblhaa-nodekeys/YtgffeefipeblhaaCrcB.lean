/- Bytes that a conversion of a string has laid, stores into them, and the string that they are again. -/
import Derived.Test.YtgffeefipeblhaaCrcA
namespace Go.Proofs.Ytgffeefipeblhaa
open Go.ChangeShapes Go.WideShapes Go.ChangeAt Go.RowKit

/-- From the head of block b on lie the bytes l, and they may be written. -/
def Bytes (u : World) (b : Nat) (l : List UInt8) : Prop := ∀ j (h : j < l.length), u.cell? ⟨b, j, none⟩ = some (.int .u8 (l[j].toNat : Nat)) ∧ u.frozen? ⟨b, j, none⟩ = false

theorem Bytes.store {u : World} {b : Nat} {l : List UInt8} (h : Bytes u b l) {j : Nat} (hj : j < l.length) (v : UInt8) : Bytes (u.setCell ⟨b, j, none⟩ (.int .u8 (v.toNat : Nat))) b (l.set j v) := by
  intro i hi
  have hi2 : i < l.length := by simpa using hi
  constructor
  · by_cases hij : j = i
    · subst hij
      rw [World.cell?_setCell_same _ _ _ (h j hj).1, List.getElem_set_self]
    · rw [World.cell?_setCell_other _ _ _ _ (by simp <;> omega), List.getElem_set_ne hij]
      exact (h i hi2).1
  · rw [World.frozen?_setCell]; exact (h i hi2).2

theorem crc_list (l : List UInt8) : crc ⟨l.toArray⟩ = Cx.sum l := rfl

theorem u8_laid (x a : UInt8) : bits .xor .u8 (x.toNat : Nat) (a.toNat : Nat) = ((x ^^^ a).toNat : Nat) := by
  rw [UInt8.toNat_xor]; exact u8_xor_nat _ _ x.toNat_lt a.toNat_lt
theorem u8_of {a : Int} (h0 : 0 ≤ a) (h1 : a < 256) : ∃ x : UInt8, a = (x.toNat : Nat) := ⟨UInt8.ofNat a.toNat, by rw [UInt8.toNat_ofNat']; omega⟩

theorem below_set {w u : World} (h : Below w.heap.size w u) {b j : Nat} {v : Value} (hb : w.heap.size ≤ b) : Below w.heap.size w (u.setCell ⟨b, j, none⟩ v) := h.setCell hb v

theorem crc_snoc (s : ByteArray) (x : UInt8) : crc (s ++ ⟨#[x]⟩) = Cx.sum (s.data.toList ++ [x]) := by
  unfold crc
  rw [ByteArray.data_append]
  simp
theorem crc_last (s : ByteArray) (x y : UInt8) : crc (s ++ ⟨#[x]⟩) = crc (s ++ ⟨#[y]⟩) ↔ x = y := by rw [crc_snoc, crc_snoc]; exact Cx.sum_last _ _ _

end Go.Proofs.Ytgffeefipeblhaa
