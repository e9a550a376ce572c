/- Small things for the walks of layer 16. -/
import Derived.Test.YtokkhkhipgopbaaChkH
import Derived.Test.YtokkhkhipgopbaaChkD
namespace Go.Proofs.Ytokkhkhipgopbaa
open Go.ChangeShapes Go.WideShapes Go.ChangeAt Go.RowKit

theorem texts_get (l : List (List UInt8)) {k : Nat} (hk : k < l.length) : (texts l).getD k noText = ⟨(l.getD k []).toArray⟩ := by
  unfold texts
  rw [List.getD_eq_getElem?_getD, List.getElem?_map, List.getD_eq_getElem?_getD, List.getElem?_eq_getElem hk]
  rfl
theorem cut_get (s : ByteArray) {z n k : Nat} (hn : Ck.num s.size z = n) (hk : k < n) : (texts (Ck.cut s.data.toList z)).getD k noText = ⟨(Ck.piece s.data.toList z k).toArray⟩ := by
  have hl : Ck.num s.data.toList.length z = n := by rw [list_size]; exact hn
  rw [texts_get _ (by rw [Ck.cut_len, hl]; exact hk), Ck.cut_at (by rw [hl]; exact hk)]
theorem cut_len (s : ByteArray) {z n : Nat} (hn : Ck.num s.size z = n) : (texts (Ck.cut s.data.toList z)).length = n := by rw [texts_len, Ck.cut_len, list_size, hn]
theorem joined (s : ByteArray) {z : Nat} (hz : 0 < z) : (⟨(lists (texts (Ck.cut s.data.toList z))).flatten.toArray⟩ : ByteArray) = s := by rw [lists_texts, Ck.join_cut hz, text_of]
theorem joined_len (s : ByteArray) {z : Nat} (hz : 0 < z) : (lists (texts (Ck.cut s.data.toList z))).flatten.length = s.size := by rw [lists_texts, Ck.join_cut hz, list_size]
theorem num_le_size {n z : Nat} (hz : 1 ≤ z) : Ck.num n z ≤ n := by
  unfold Ck.num
  rcases Nat.eq_zero_or_pos n with h | h
  · rw [h, Nat.div_eq_of_lt (by omega)]
    omega
  · refine Nat.div_le_of_le_mul ?_
    have h2 := Nat.mul_le_mul_right (z - 1) h
    have h3 : z * n = n * z := Nat.mul_comm _ _
    have h4 : n * z = n * (z - 1) + n := by
      have h5 : n * (z - 1 + 1) = n * (z - 1) + n := Nat.mul_succ n (z - 1)
      rwa [Nat.sub_add_cancel hz] at h5
    omega
theorem pow_mask {t : Nat} (ht : t < 8) : ∃ M : UInt8, ((2 : Int) ^ t % 256) = (M.toNat : Nat) ∧ M ≠ 0 := by
  refine ⟨UInt8.ofNat (2 ^ t), ?_⟩
  match t, ht with
  | 0, _ => decide
  | 1, _ => decide
  | 2, _ => decide
  | 3, _ => decide
  | 4, _ => decide
  | 5, _ => decide
  | 6, _ => decide
  | 7, _ => decide
theorem xor_other {b M : UInt8} (hM : M ≠ 0) : b ≠ b ^^^ M := by
  intro e
  apply hM
  have := congrArg UInt8.toNat e
  rw [UInt8.toNat_xor] at this
  apply UInt8.toNat_inj.1
  exact (Cx.xor_inj_left (c := b.toNat) (show _ ^^^ 0 = _ ^^^ _ by rw [Nat.xor_zero]; exact this)).symm
theorem exp_list (mi mo : List (List Int)) (dim : Int) : (⟨(Ck.exp mi mo dim).toArray⟩ : ByteArray).data.toList = Ck.exp mi mo dim := by simp
theorem exp_size {mi mo : List (List Int)} {dim : Int} (h : Ex.Right mi mo dim) : (⟨(Ck.exp mi mo dim).toArray⟩ : ByteArray).size = 12 + 8 * (mi.length * dim.toNat) := by rw [bsize, Ck.exp_len h]
theorem exp_short {mi mo : List (List Int)} {dim : Int} (h : Ex.Right mi mo dim) : 12 ≤ (⟨(Ck.exp mi mo dim).toArray⟩ : ByteArray).size ∧ (⟨(Ck.exp mi mo dim).toArray⟩ : ByteArray).size ≤ 600 := by
  rw [exp_size h]
  have h1 := h.2.1
  have h2 := h.1
  have : mi.length * dim.toNat ≤ 8 * 8 := Nat.mul_le_mul (by omega) (by omega)
  omega

end Go.Proofs.Ytokkhkhipgopbaa
