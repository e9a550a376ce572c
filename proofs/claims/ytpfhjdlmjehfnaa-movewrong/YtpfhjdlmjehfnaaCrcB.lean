/- Bytes that a conversion of a string has laid, stores into them, and the string that they are again. -/
import Derived.Test.YtpfhjdlmjehfnaaCrcA
namespace Go.Proofs.Ytpfhjdlmjehfnaa
open Go.ChangeShapes Go.WideShapes Go.ChangeAt Go.RowKit

/-- From the head of block b on lie the bytes l, and they may be written. -/
def Bytes (u : World) (b : Nat) (l : List UInt8) : Prop := ∀ j (h : j < l.length), u.cell? ⟨b, j, none⟩ = some (.int .u8 (l[j].toNat : Nat)) ∧ u.frozen? ⟨b, j, none⟩ = false

theorem bytes_made (w : World) (s : ByteArray) : ∃ cap u, (convert 9 62 (.string s)).run Try.prog w = .ok (.slice (some ⟨w.heap.size, 0, none⟩) s.size cap) u ∧ Below w.heap.size w u ∧ Bytes u w.heap.size s.data.toList := by
  refine ⟨_, _, run_bytes_of_string (P := Try.prog) w 9 62 5 s Try.underlying9 Try.underlying62 Try.underlying5, (Below.refl _ w).drew.alloc (Nat.le_refl _) _, ?_⟩
  intro j h
  have hj : j < s.data.size := by rw [Array.length_toList] at h; exact h
  constructor
  · have := World.cell?_alloc_mark w.drew (bytesRow s (grownCap w s.size 0 5)) 5 ((bytesRow s (grownCap w s.size 0 5)).size, (bytesRow s (grownCap w s.size 0 5)).size + 1) j
    rw [bytesRow_at s _ j hj] at this
    exact this
  · have hz : j < (bytesRow s (grownCap w s.size 0 5)).size := by unfold bytesRow; rw [Array.size_append, Array.size_map]; omega
    have := World.frozen?_alloc_mark w.drew (bytesRow s (grownCap w s.size 0 5)) 5 (bytesRow s (grownCap w s.size 0 5)).size ((bytesRow s (grownCap w s.size 0 5)).size + 1) j
    refine Eq.trans this ?_
    have h0 : ¬ (bytesRow s (grownCap w s.size 0 5)).size ≤ j := by omega
    simp [h0]

theorem Bytes.store {u : World} {b : Nat} {l : List UInt8} (h : Bytes u b l) {j : Nat} (hj : j < l.length) (v : UInt8) : Bytes (u.setCell ⟨b, j, none⟩ (.int .u8 (v.toNat : Nat))) b (l.set j v) := by
  intro i hi
  have hi2 : i < l.length := by simpa using hi
  constructor
  · by_cases hij : j = i
    · subst hij
      rw [World.cell?_setCell_same _ _ _ (h j hj).1, List.getElem_set_self]
    · rw [World.cell?_setCell_other _ _ _ _ (by simp <;> omega), List.getElem_set_ne hij]
      exact (h i hi2).1
  · rw [World.frozen?_setCell]; exact (h i hi2).2

theorem Bytes.back {u : World} {b : Nat} {l : List UInt8} (h : Bytes u b l) (cap : Nat) : (convert 62 9 (.slice (some ⟨b, 0, none⟩) l.length cap)).run Try.prog u = .ok (.string ⟨l.toArray⟩) u := by
  refine run_convert_bytes_back (P := Try.prog) u 62 9 5 ⟨b, 0, none⟩ cap l Try.underlying62 Try.underlying5 Try.underlying9 fun j hj => ?_
  rw [show (⟨b, 0, none⟩ : Addr).add j = ⟨b, j, none⟩ by unfold Addr.add; split <;> simp_all]
  exact (h j hj).1

/-- A string that can be read. -/
structure Fits (s : ByteArray) : Prop where
  le : s.size ≤ maxLen
theorem fsum (s : ByteArray) (hs : Fits s) (w : World) : Calls Try.prog 31 #[.string s] w fun e w' => e = .returned (.int .i64 (crc s : Nat)) ∧ w' = w := csum s hs.le w

theorem crc_list (l : List UInt8) : crc ⟨l.toArray⟩ = Cx.sum l := rfl

theorem u8_laid (x a : UInt8) : bits .xor .u8 (x.toNat : Nat) (a.toNat : Nat) = ((x ^^^ a).toNat : Nat) := by
  rw [UInt8.toNat_xor]; exact u8_xor_nat _ _ x.toNat_lt a.toNat_lt
theorem u8_of {a : Int} (h0 : 0 ≤ a) (h1 : a < 256) : ∃ x : UInt8, a = (x.toNat : Nat) := ⟨UInt8.ofNat a.toNat, by rw [UInt8.toNat_ofNat']; omega⟩

theorem below_set {w u : World} (h : Below w.heap.size w u) {b j : Nat} {v : Value} (hb : w.heap.size ≤ b) : Below w.heap.size w (u.setCell ⟨b, j, none⟩ v) := h.setCell hb v

/-- 'string([]byte{x})': a block of one byte, and the string that it is. -/
theorem one_back {W : World} {b : Nat} {x : UInt8} (h : W.heap[b]? = some (.cells #[.int .u8 (x.toNat : Nat)] 5 (0, 0))) : (convert 62 9 (.slice (some ⟨b, 0, none⟩) 1 1)).run Try.prog W = .ok (.string ⟨#[x]⟩) W := by
  refine run_convert_bytes_back (P := Try.prog) W 62 9 5 ⟨b, 0, none⟩ 1 [x] Try.underlying62 Try.underlying5 Try.underlying9 fun j hj => ?_
  rw [show (⟨b, 0, none⟩ : Addr).add j = ⟨b, j, none⟩ by unfold Addr.add; split <;> simp_all, cell_of_row W b j _ _ _ h]
  match j, hj with
  | 0, _ => rfl
theorem crc_snoc (s : ByteArray) (x : UInt8) : crc (s ++ ⟨#[x]⟩) = Cx.sum (s.data.toList ++ [x]) := by
  unfold crc
  rw [ByteArray.data_append]
  simp
theorem crc_last (s : ByteArray) (x y : UInt8) : crc (s ++ ⟨#[x]⟩) = crc (s ++ ⟨#[y]⟩) ↔ x = y := by rw [crc_snoc, crc_snoc]; exact Cx.sum_last _ _ _

end Go.Proofs.Ytpfhjdlmjehfnaa
