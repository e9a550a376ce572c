/- Who works on a token, on lists (no program in sight): what Choose answers, and the laws that the statements of layer 13 rest on. -/
import Derived.Test.YtpfhjdlmjehfnaaMx
import Derived.Test.YtpfhjdlmjehfnaaTx
import Derived.Test.YtpfhjdlmjehfnaaSx
namespace Go.Proofs.Ytpfhjdlmjehfnaa.Gx
open Go.Proofs.Ytpfhjdlmjehfnaa

/-- The first one's share, of scores. -/
def part (s : List Int) : Int := if Tx.second s < 0 then 65536 else Sx.share (s.getD (Tx.best s).toNat 0) (s.getD (Tx.second s).toNat 0)
/-- What Choose answers: First, Second, W1, W2, and whether there is a choice. -/
def Is (m : List (List Int)) (v : List Int) (p q r t : Int) (b : Bool) : Prop :=
  (b = false ∧ ¬ (Mx.Fits m v.length ∧ m ≠ []) ∧ p = 0 ∧ q = 0 ∧ r = 0 ∧ t = 0) ∨
  (b = true ∧ Mx.Fits m v.length ∧ m ≠ [] ∧ p = Tx.best (Mx.app m v) ∧ q = Tx.second (Mx.app m v) ∧ r = part (Mx.app m v) ∧ t = 65536 - part (Mx.app m v))

theorem there (m : List (List Int)) (v : List Int) : ∃ p q r t b, Is m v p q r t b := by
  by_cases h : Mx.Fits m v.length ∧ m ≠ []
  · exact ⟨_, _, _, _, true, .inr ⟨rfl, h.1, h.2, rfl, rfl, rfl, rfl⟩⟩
  · exact ⟨0, 0, 0, 0, false, .inl ⟨rfl, h, rfl, rfl, rfl, rfl⟩⟩
theorem Is.no {m : List (List Int)} {v : List Int} {p q r t : Int} (h : Is m v p q r t false) : ¬ (Mx.Fits m v.length ∧ m ≠ []) ∧ p = 0 ∧ q = 0 ∧ r = 0 ∧ t = 0 := by
  rcases h with h | ⟨h, _⟩
  · exact h.2
  · cases h
theorem Is.yes {m : List (List Int)} {v : List Int} {p q r t : Int} (h : Is m v p q r t true) : Mx.Fits m v.length ∧ m ≠ [] ∧ p = Tx.best (Mx.app m v) ∧ q = Tx.second (Mx.app m v) ∧ r = part (Mx.app m v) ∧ t = 65536 - part (Mx.app m v) := by
  rcases h with ⟨h, _⟩ | h
  · cases h
  · exact h.2

/-- One row alone. -/
theorem part_one {s : List Int} (h : s.length = 1) : part s = 65536 := by
  unfold part
  rw [Tx.second_none (by omega), if_pos (by decide)]
theorem part_two {s : List Int} {i j : Nat} (hi : Tx.best s = i) (hj : Tx.second s = j) : part s = Sx.share (s.getD i 0) (s.getD j 0) := by
  unfold part
  rw [hi, hj, if_neg (by omega)]
  simp

/-- What the two ways of a choice that there is are. -/
theorem Is.form {m : List (List Int)} {v : List Int} {p q r t : Int} (h : Is m v p q r t true) :
    (m.length = 1 ∧ p = 0 ∧ q = -1 ∧ r = 65536 ∧ t = 0) ∨
    (2 ≤ m.length ∧ ∃ i j : Nat, i < m.length ∧ j < m.length ∧ i ≠ j ∧ p = i ∧ q = j ∧ Tx.best (Mx.app m v) = i ∧ Tx.second (Mx.app m v) = j ∧ (Mx.app m v).getD j 0 ≤ (Mx.app m v).getD i 0 ∧ r = Sx.share ((Mx.app m v).getD i 0) ((Mx.app m v).getD j 0) ∧ t = 65536 - r) := by
  obtain ⟨_, hne, hp, hq, hr, ht⟩ := h.yes
  have hl := Mx.app_length m v
  have hpos : 1 ≤ m.length := by
    rcases Nat.eq_zero_or_pos m.length with h0 | h0
    · exact absurd (List.eq_nil_of_length_eq_zero h0) hne
    · exact h0
  by_cases h1 : m.length = 1
  · left
    rw [Tx.best_one (by omega)] at hp
    rw [Tx.second_none (by omega)] at hq
    rw [part_one (by omega)] at hr ht
    exact ⟨h1, hp, hq, hr, by omega⟩
  · right
    obtain ⟨i, hi, ei, hgi⟩ := Tx.best_at (l := Mx.app m v) (by omega)
    obtain ⟨j, hj, ej, hne', hgj⟩ := Tx.second_at (l := Mx.app m v) (by omega) ei
    rw [part_two ei ej] at hr ht
    exact ⟨by omega, i, j, by omega, by omega, fun c => hne' c.symm, by rw [hp, ei], by rw [hq, ej], ei, ej, (hgi j hj).1, hr, by rw [ht, hr]⟩

/-- Shares are One together; the first one's is not less. -/
theorem Is.fair {m : List (List Int)} {v : List Int} {p q r t : Int} (h : Is m v p q r t true) :
    r + t = 65536 ∧ t ≤ r ∧ 0 ≤ t ∧ 0 ≤ p ∧ p < m.length ∧ q < m.length ∧ p ≠ q ∧ -1 ≤ q ∧ (0 ≤ q ↔ 1 < m.length) ∧ t ≤ 65536 := by
  rcases h.form with ⟨h1, hp, hq, hr, ht⟩ | ⟨h2, i, j, hi, hj, hne, hp, hq, _, _, hle, hr, ht⟩
  · omega
  · have h3 := Sx.share_half (Sx.part_mono hle)
    have h4 := Sx.share_hi ((Mx.app m v).getD i 0) ((Mx.app m v).getD j 0)
    have h5 := Sx.share_lo ((Mx.app m v).getD i 0) ((Mx.app m v).getD j 0)
    rw [← hr] at h3 h4 h5
    omega

/-! ### Rows twice as long, by noughts -/
def wide (m : List (List Int)) (n : Nat) : List (List Int) := m.map fun l => l ++ List.replicate n 0
theorem wide_length (m : List (List Int)) (n : Nat) : (wide m n).length = m.length := by simp [wide]
theorem wide_succ (m : List (List Int)) (n k : Nat) (h : k < m.length) : wide (m.take (k + 1)) n = wide (m.take k) n ++ [m.getD k [] ++ List.replicate n 0] := by
  rw [Mx.take_row m k h]; simp [wide]
theorem wide_fits (m : List (List Int)) (n : Nat) : Mx.Fits (wide m n) (n + n) ↔ Mx.Fits m n := by
  constructor
  · intro h l hl
    have := h (l ++ List.replicate n 0) (List.mem_map.2 ⟨l, hl, rfl⟩)
    rw [List.length_append, List.length_replicate] at this
    omega
  · intro h l hl
    obtain ⟨l', hl', rfl⟩ := List.mem_map.1 hl
    have := h l' hl'
    rw [List.length_append, List.length_replicate]
    omega
theorem dotFrom_append (s : Int) (a b c d : List Int) (h : a.length = b.length) : Vx.dotFrom s (a ++ c) (b ++ d) = Vx.dotFrom (Vx.dotFrom s a b) c d := by
  induction a generalizing s b with
  | nil => cases b with
    | nil => rfl
    | cons _ _ => simp at h
  | cons z a ih => cases b with
    | nil => simp at h
    | cons u b => exact ih _ b (by simpa using h)
theorem dot_wide (l v : List Int) (h : l.length = v.length) : Vx.dot (l ++ List.replicate v.length 0) (v ++ v) = Vx.dot l v := by
  unfold Vx.dot
  rw [dotFrom_append 0 _ _ _ _ h, Vx.dotFrom_comm]
  exact Vx.dotFrom_zeros _ v (Vx.dot_lo l v) (Vx.dot_hi l v)
theorem app_wide (m : List (List Int)) (v : List Int) (h : Mx.Fits m v.length) : Mx.app (wide m v.length) (v ++ v) = Mx.app m v := by
  unfold Mx.app wide
  rw [List.map_map]
  exact List.map_congr_left fun l hl => dot_wide l v (h l hl)
theorem Is.wide {m : List (List Int)} {v : List Int} {p q r t : Int} {b : Bool} (h : Is m v p q r t b) : Is (wide m v.length) (v ++ v) p q r t b := by
  have hl : (v ++ v).length = v.length + v.length := List.length_append
  have hn : Gx.wide m v.length ≠ [] ↔ m ≠ [] := by unfold Gx.wide; simp
  rcases h with ⟨h1, h2, h3⟩ | ⟨h1, h2, h3, h4⟩
  · refine .inl ⟨h1, fun hc => h2 ?_, h3⟩
    rw [hl, wide_fits, hn] at hc
    exact hc
  · refine .inr ⟨h1, by rw [hl, wide_fits]; exact h2, hn.2 h3, ?_⟩
    rw [app_wide m v h2]
    exact h4

/-! ### One row, and two that are the same -/
theorem ones_no {row v : List Int} (h : row.length ≠ v.length) : Is [row] v 0 0 0 0 false ∧ Is [row, row] v 0 0 0 0 false :=
  ⟨.inl ⟨rfl, fun hc => h (hc.1 row (by simp)), rfl, rfl, rfl, rfl⟩, .inl ⟨rfl, fun hc => h (hc.1 row (by simp)), rfl, rfl, rfl, rfl⟩⟩
theorem ones_one {row v : List Int} (h : row.length = v.length) : Is [row] v 0 (-1) 65536 0 true := by
  have hf : Mx.Fits [row] v.length := fun l hl => by rw [List.mem_singleton.1 hl]; exact h
  have hl : (Mx.app [row] v).length = 1 := rfl
  refine .inr ⟨rfl, hf, by simp, ?_, ?_, ?_, ?_⟩
  · exact (Tx.best_one hl).symm
  · exact (Tx.second_none (by omega)).symm
  · exact (part_one hl).symm
  · rw [part_one hl]; rfl
theorem same_two (d : Int) : Tx.best [d, d] = ((0 : Nat) : Int) ∧ Tx.second [d, d] = ((1 : Nat) : Int) := by
  obtain ⟨i, hi, ei, hgi⟩ := Tx.best_at (l := [d, d]) (by simp)
  have h0 : i = 0 := by
    have hi2 : i < 2 := hi
    rcases (by omega : i = 0 ∨ i = 1) with e | e
    · exact e
    · subst e
      have := (hgi 0 (by simp)).2 (by omega)
      simp at this
  subst h0
  obtain ⟨j, hj, ej, hne, _⟩ := Tx.second_at (l := [d, d]) (by simp) ei
  have hj2 : j < 2 := hj
  obtain rfl : j = 1 := by omega
  exact ⟨ei, ej⟩
theorem ones_two {row v : List Int} (h : row.length = v.length) : Is [row, row] v 0 1 32768 32768 true := by
  have hf : Mx.Fits [row, row] v.length := fun l hl => by
    have : l = row := by simpa using hl
    rw [this]; exact h
  have e : Mx.app [row, row] v = [Vx.dot row v, Vx.dot row v] := rfl
  obtain ⟨h1, h2⟩ := same_two (Vx.dot row v)
  have h3 := part_two h1 h2
  rw [show ([Vx.dot row v, Vx.dot row v] : List Int).getD 0 0 = Vx.dot row v from rfl, show ([Vx.dot row v, Vx.dot row v] : List Int).getD 1 0 = Vx.dot row v from rfl, Sx.share_even rfl] at h3
  refine .inr ⟨rfl, hf, by simp, ?_, ?_, ?_, ?_⟩
  · rw [e, h1]; rfl
  · rw [e, h2]; rfl
  · rw [e, h3]
  · rw [e, h3]; rfl
theorem none_is : Is [] [] 0 0 0 0 false := .inl ⟨rfl, fun h => h.2 rfl, rfl, rfl, rfl, rfl⟩
/-- The document's example. -/
theorem example_is : Is [[65536], [131072]] [65536] 1 0 43690 21846 true := by
  have e : Mx.app [[65536], [131072]] [65536] = [65536, 131072] := by decide
  refine .inr ⟨rfl, fun l hl => ?_, by simp, ?_, ?_, ?_, ?_⟩
  · have : l = [65536] ∨ l = [131072] := by simpa using hl
    rcases this with rfl | rfl <;> rfl
  · rw [e]; decide
  · rw [e]; decide
  · rw [e]; decide
  · rw [e]; decide

end Go.Proofs.Ytpfhjdlmjehfnaa.Gx
