/- How scripts and lines are cut by the library's functions; decimal numerals (no program in sight). -/
import Derived.Test.YtokfcjgfpchffaaGreatDoorKs
import Derived.Lib.Split
import Derived.Lib.ItoaNum
namespace Go.Proofs.YtokfcjgfpchffaaGreatDoor.Sc
open Go.Proofs.YtokfcjgfpchffaaGreatDoor Go.Proofs.YtokfcjgfpchffaaGreatDoor.Sh

theorem index_none {c : UInt8} : ∀ {s : List UInt8}, (∀ x ∈ s, x ≠ c) → Lib.index s [c] = -1
  | [], _ => rfl
  | b :: l, h => by
    have h1 : ([c].isPrefixOf (b :: l)) = false := by
      have := h b List.mem_cons_self
      simp [List.isPrefixOf]
      exact fun e => this e.symm
    unfold Lib.index
    rw [h1, index_none (fun x hx => h x (List.mem_cons_of_mem _ hx))]
    rfl
theorem index_at {c : UInt8} {r : List UInt8} : ∀ {p : List UInt8}, (∀ x ∈ p, x ≠ c) → Lib.index (p ++ c :: r) [c] = p.length
  | [], _ => by
    show Lib.index (c :: r) [c] = 0
    unfold Lib.index
    rw [if_pos (by simp [List.isPrefixOf])]
  | b :: l, h => by
    have h1 : ([c].isPrefixOf (b :: (l ++ c :: r))) = false := by
      have := h b List.mem_cons_self
      simp [List.isPrefixOf]
      exact fun e => this e.symm
    have h2 := index_at (r := r) (fun x hx => h x (List.mem_cons_of_mem _ hx) : ∀ x ∈ l, x ≠ c)
    show Lib.index (b :: (l ++ c :: r)) [c] = _
    unfold Lib.index
    rw [h1, h2]
    have h3 : ((l.length : Int) == -1) = false := by rw [beq_eq_false_iff_ne]; omega
    simp [h3]
/-- The first of c, or none. -/
theorem first_of (c : UInt8) : ∀ s : List UInt8, (∀ x ∈ s, x ≠ c) ∨ ∃ p r, s = p ++ c :: r ∧ ∀ x ∈ p, x ≠ c
  | [] => .inl (fun x hx => by cases hx)
  | b :: l => by
    by_cases h : b = c
    · exact .inr ⟨[], l, by rw [h]; rfl, fun x hx => by cases hx⟩
    · rcases first_of c l with h1 | ⟨p, r, h1, h2⟩
      · exact .inl (fun x hx => by
          rcases List.mem_cons.1 hx with h3 | h3
          · rw [h3]; exact h
          · exact h1 x h3)
      · exact .inr ⟨b :: p, r, by rw [h1]; rfl, fun x hx => by
          rcases List.mem_cons.1 hx with h3 | h3
          · rw [h3]; exact h
          · exact h2 x h3⟩
theorem cut_none {c : UInt8} {s : List UInt8} (h : ∀ x ∈ s, x ≠ c) : Lib.cut s [c] = (s, [], false) := by
  unfold Lib.cut
  rw [index_none h, if_neg (by decide)]
theorem cut_at {c : UInt8} {p r : List UInt8} (h : ∀ x ∈ p, x ≠ c) : Lib.cut (p ++ c :: r) [c] = (p, r, true) := by
  unfold Lib.cut
  rw [index_at h, if_pos (by omega)]
  have e : ((p.length : Int)).toNat = p.length := by omega
  rw [e]
  refine Prod.ext ?_ (Prod.ext ?_ rfl)
  · show (p ++ c :: r).take p.length = p
    rw [List.take_left]
  · show (p ++ c :: r).drop (p.length + 1) = r
    rw [List.drop_append]
    simp
theorem cut_less {t : List UInt8} (h : t ≠ []) : (Lib.cut t [10]).2.1.length < t.length ∧ (Lib.cut t [10]).1.length ≤ t.length := by
  rcases first_of 10 t with h1 | ⟨p, r, rfl, h1⟩
  · rw [cut_none h1]
    exact ⟨List.length_pos_iff.2 h, Nat.le_refl _⟩
  · rw [cut_at h1, List.length_append, List.length_cons]
    show r.length < _ ∧ p.length ≤ _
    omega

/-! ### A line's words -/
def words (l : List UInt8) : List (List UInt8) := Lib.splitN l [32] 3
theorem splitK_none {c : UInt8} {s : List UInt8} (h : ∀ x ∈ s, x ≠ c) (k : Nat) : Lib.splitK [c] 0 k s = [s] := by
  cases k with
  | zero => rfl
  | succ k =>
    unfold Lib.splitK
    rw [index_none h]
    rfl
theorem splitK_at {c : UInt8} {p r : List UInt8} (h : ∀ x ∈ p, x ≠ c) (k : Nat) : Lib.splitK [c] 0 (k + 1) (p ++ c :: r) = p :: Lib.splitK [c] 0 k r := by
  rw [Lib.splitK, index_at h, if_neg (by simp)]
  have e : ((p.length : Int)).toNat = p.length := by omega
  rw [e]
  have e1 : (p ++ c :: r).take (p.length + 0) = p := by rw [Nat.add_zero, List.take_left]
  have e2 : (p ++ c :: r).drop (p.length + [c].length) = r := by rw [List.drop_append]; simp
  rw [e1, e2]
theorem num_no32 {l : List UInt8} (h : Num l) : ∀ x ∈ l, x ≠ 32 := fun x hx e => by
  have := (h.2.2.2 x hx).1
  rw [e] at this
  exact absurd this (by decide)
theorem words_is (l : List UInt8) : words l = Lib.splitK [32] 0 2 l := by
  unfold words Lib.splitN
  rcases Nat.lt_or_ge l.length 2 with h | h
  · match l, h with
    | [], _ => rfl
    | [x], _ =>
      show Lib.splitK [32] 0 1 [x] = Lib.splitK [32] 0 2 [x]
      by_cases hx : x = 32
      · subst hx
        rfl
      · have h1 : ∀ y ∈ [x], y ≠ (32 : UInt8) := fun y hy => by rw [List.mem_singleton.1 hy]; exact hx
        rw [splitK_none h1, splitK_none h1]
  · rw [show min 3 (l.length + 1) - 1 = 2 by omega]
theorem words_size (l : List UInt8) : ∀ x ∈ words l, x.length ≤ l.length := by
  have aux : ∀ (k : Nat) (s : List UInt8), ∀ x ∈ Lib.splitK [32] 0 k s, x.length ≤ s.length := by
    intro k
    induction k with
    | zero => intro s x hx; rw [List.mem_singleton.1 hx]; exact Nat.le_refl _
    | succ k ih =>
      intro s x hx
      unfold Lib.splitK at hx
      split at hx
      · rw [List.mem_singleton.1 hx]; exact Nat.le_refl _
      · rcases List.mem_cons.1 hx with h | h
        · rw [h, List.length_take]; omega
        · have := ih _ x h
          rw [List.length_drop] at this
          omega
  exact aux _ l

/-! ### Numerals -/
theorem itoa_is (n : Nat) : Lib.itoa (n : Int) = dig n := by
  have h : ∀ u, Lib.decDigits u = dig u := by
    intro u
    induction u using Nat.strongRecOn with
    | ind u ih =>
      by_cases h : u ≤ 9
      · rw [dig_low h, Lib.decDigits, dif_pos (by omega)]
      · rw [dig_high h, Lib.decDigits, dif_neg (by omega), ih (u / 10) (by omega)]
  unfold Lib.itoa
  rw [if_neg (by omega), show ((n : Int)).toNat = n by omega]
  exact h n


/-! ### Words -/
def okW : List UInt8 := [111, 107]
def errW : List UInt8 := [101, 114, 114, 111, 114, 32]
def askW : List UInt8 := [97, 115, 107]
def deliverW : List UInt8 := [100, 101, 108, 105, 118, 101, 114]
def dropW : List UInt8 := [100, 114, 111, 112]
def twiceW : List UInt8 := [116, 119, 105, 99, 101]
def addW : List UInt8 := [97, 100, 100]
def retireW : List UInt8 := [114, 101, 116, 105, 114, 101]
def bagW : List UInt8 := [98, 97, 103]
def doneW : List UInt8 := [100, 111, 110, 101]

end Go.Proofs.YtokfcjgfpchffaaGreatDoor.Sc
