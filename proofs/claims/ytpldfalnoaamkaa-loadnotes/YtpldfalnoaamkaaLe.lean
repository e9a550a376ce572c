/- What follows of loads, as lists: the laws of layer 21 (no program in sight). -/
import Derived.Test.YtpldfalnoaamkaaLd
namespace Go.Proofs.Ytpldfalnoaamkaa.Ld
open Go.Proofs.Ytpldfalnoaamkaa

/-! ### One more, or one less, of a node -/
theorem held_set {m : List (List Int)} {x : Nat} (hx : x < m.length) (r : List Int) (n : Int) : held (m.set x r) n + (if (m.getD x []).contains n then 1 else 0) = held m n + (if r.contains n then 1 else 0) := by
  have aux : ∀ (m : List (List Int)) (x : Nat), x < m.length → held (m.set x r) n + (if (m.getD x []).contains n then 1 else 0) = held m n + (if r.contains n then 1 else 0) := by
    intro m
    induction m with
    | nil => intro x h; exact absurd h (Nat.not_lt_zero _)
    | cons a l ih =>
      intro x h
      unfold held at ih ⊢
      cases x with
      | zero =>
        show List.countP _ (r :: l) + (if a.contains n then 1 else 0) = List.countP _ (a :: l) + _
        rw [List.countP_cons, List.countP_cons]
        omega
      | succ x =>
        have h9 := ih x (by simpa using h)
        show List.countP _ (a :: l.set x r) + (if (l.getD x []).contains n then 1 else 0) = List.countP _ (a :: l) + _
        rw [List.countP_cons, List.countP_cons]
        omega
  exact aux m x hx
theorem weight_added {m : List (List Int)} {x n : Int} (hx : 0 ≤ x ∧ x < (m.length : Int)) (hn : 1 ≤ n ∧ n ≤ 4) (h : n ∉ m.getD x.toNat []) : weight (Pl.turn m x n true) n = weight m n + 1 := by
  rw [weight_in _ hn, weight_in _ hn]
  have h9 := held_set (m := m) (x := x.toNat) (by omega) (Pl.keep (m.getD x.toNat []) n true) n
  have h1 : (m.getD x.toNat []).contains n = false := by
    rw [Bool.eq_false_iff]
    exact fun k => h (List.contains_iff_mem.1 k)
  have h2 : (Pl.keep (m.getD x.toNat []) n true).contains n = true := List.contains_iff_mem.2 (Pl.mem_keep.2 ⟨hn, by rw [if_pos rfl]⟩)
  rw [h1, h2] at h9
  exact h9
theorem weight_retired {m : List (List Int)} {x n : Int} (hx : 0 ≤ x ∧ x < (m.length : Int)) (hn : 1 ≤ n ∧ n ≤ 4) (h : n ∈ m.getD x.toNat []) : weight (Pl.turn m x n false) n + 1 = weight m n := by
  rw [weight_in _ hn, weight_in _ hn]
  have h9 := held_set (m := m) (x := x.toNat) (by omega) (Pl.keep (m.getD x.toNat []) n false) n
  have h1 : (m.getD x.toNat []).contains n = true := List.contains_iff_mem.2 h
  have h2 : (Pl.keep (m.getD x.toNat []) n false).contains n = false := by
    rw [Bool.eq_false_iff]
    intro k
    have := (Pl.mem_keep.1 (List.contains_iff_mem.1 k)).2
    rw [if_pos rfl] at this
    cases this
  rw [h1, h2] at h9
  exact h9

/-! ### All weights together -/
def all (m : List (List Int)) : Nat := (m.map List.length).sum
theorem row_four {l : List Int} (h : Pl.RowOk l) : ((if l.contains 1 then 1 else 0) + (if l.contains 2 then 1 else 0) + (if l.contains 3 then 1 else 0) + (if l.contains 4 then 1 else 0) : Nat) = l.length := by
  have : ∀ l ∈ Pl.rows, ((if l.contains 1 then 1 else 0) + (if l.contains 2 then 1 else 0) + (if l.contains 3 then 1 else 0) + (if l.contains 4 then 1 else 0) : Nat) = l.length := by decide
  exact this l (Pl.row_there h)
theorem held_all (m : List (List Int)) (h : ∀ l ∈ m, Pl.RowOk l) : held m 1 + held m 2 + held m 3 + held m 4 = all m := by
  induction m with
  | nil => rfl
  | cons a l ih =>
    have h1 := row_four (h a List.mem_cons_self)
    have h2 := ih (fun x hx => h x (List.mem_cons_of_mem _ hx))
    unfold held all at h2 ⊢
    rw [List.countP_cons, List.countP_cons, List.countP_cons, List.countP_cons, List.map_cons, List.sum_cons]
    omega
theorem all_step (m : List (List Int)) {k : Nat} (h : k < m.length) : all (m.take (k + 1)) = all (m.take k) + (m.getD k []).length := by
  unfold all
  rw [Mx.take_row m k h, List.map_append, List.sum_append]
  simp

/-! ### Calm -/
theorem count_le {l : List Int} {b : Int} (hb : 0 ≤ b) (h : ∀ x ∈ l, x ≤ b) (k : Nat) : count l (k : Int) ≤ b := by
  by_cases hk : k < l.length
  · rw [count_in hk]
    exact h _ (Mx.num_mem l k hk)
  · rw [count_out (by omega)]
    exact hb
theorem calm_hot {l : List Int} {e : Int} {m : List (List Int)} {b X N : Int} {B : Bool} (hb : 1 ≤ b) (hl : ∀ x ∈ l, x ≤ b) (h : Hot l e m b X N B) : B = false := by
  cases B with
  | false => rfl
  | true =>
    obtain ⟨h1, x, h2, _⟩ := h.ok
    have hx := h2.1.1
    have hr : Pl.RowOk (m.getD x []) := h1.1.2.2 _ (Mx.getD_mem m x hx)
    have hn := (Pl.row_len hr).1
    have h3 := h2.1.2.1
    have h4 := count_le (by omega) hl x
    have h5 : b * 1 ≤ b * ((m.getD x []).length : Int) := Int.mul_le_mul_of_nonneg_left (by omega) (by omega)
    omega
theorem calm_cold {e : Int} {m : List (List Int)} {b X N : Int} {B : Bool} (hb : 1 ≤ b) (h : Cold (List.replicate m.length (4 * b)) e m b X N B) : B = false := by
  cases B with
  | false => rfl
  | true =>
    obtain ⟨h1, x, h2, _⟩ := h.ok
    have hx := h2.1.1
    have hr : Pl.RowOk (m.getD x []) := h1.1.2.2 _ (Mx.getD_mem m x hx)
    have hn := (Pl.row_len hr).2
    have h3 := h2.1.2.2
    rw [count_nat, List.getD_eq_getElem?_getD, List.getElem?_replicate, if_pos hx] at h3
    have h4 : (some (4 * b)).getD 0 = 4 * b := rfl
    rw [h4] at h3
    have h5 : b * (((m.getD x []).length : Int) - 1) ≤ b * 3 := Int.mul_le_mul_of_nonneg_left (by omega) (by omega)
    omega

/-! ### One more of the hottest -/
theorem more {l : List Int} {e : Int} {m : List (List Int)} {high X N : Int} (h : Hot l e m high X N true) (hc : count l X < 2147483647) : Hot (note l X) e m high X N true := by
  obtain ⟨h1, x, h2, rfl, h4⟩ := h.ok
  have hx := h2.1.1
  have h8 := h1.1.2.1
  have hy := count_note (l := l) (x := (x : Int)) ⟨⟨by omega, by omega⟩, hc⟩
  have hxx := hy x
  rw [if_pos rfl] at hxx
  refine .inr ⟨h1, x, ⟨⟨hx, ?_, h2.1.2.2⟩, fun y hP => ?_⟩, rfl, h4, rfl⟩
  · have := h2.1.2.1
    rw [hxx]
    omega
  · show count (note l (x : Int)) (y : Int) < count (note l (x : Int)) (x : Int) ∨ count (note l (x : Int)) (y : Int) = count (note l (x : Int)) (x : Int) ∧ x ≤ y
    by_cases e : y = x
    · rw [e]; exact .inr ⟨rfl, Nat.le_refl _⟩
    · have hyy := hy y
      rw [if_neg (by omega)] at hyy
      have h3 := h2.2 y ⟨hP.1, by have h9 := hP.2.1; rw [hyy] at h9; exact h9, hP.2.2⟩
      have h3' : count l (y : Int) < count l (x : Int) ∨ count l (y : Int) = count l (x : Int) ∧ x ≤ y := h3
      rw [hyy, hxx]
      omega

/-! ### Noted one by one -/
/-- How many of the first numbers are x. -/
def noted : List Nat → List Int
  | [] => []
  | x :: r => note (noted r) (x : Int)
theorem noted_few (L : List Nat) : (noted L).length ≤ 8 ∧ ∀ y : Nat, 0 ≤ count (noted L) (y : Int) ∧ count (noted L) (y : Int) ≤ (L.length : Int) := by
  induction L with
  | nil => exact ⟨Nat.zero_le _, fun y => by rw [show noted [] = [] from rfl, count_out (by simp)]; simp⟩
  | cons x r ih =>
    refine ⟨Nat.le_trans (note_len _ _) (by have := ih.1; omega), fun y => ?_⟩
    show 0 ≤ count (note (noted r) (x : Int)) (y : Int) ∧ count (note (noted r) (x : Int)) (y : Int) ≤ ((r.length + 1 : Nat) : Int)
    have h1 := ih.2 y
    have h2 := ih.2 x
    by_cases h : (0 ≤ (x : Int) ∧ (x : Int) ≤ 7) ∧ count (noted r) (x : Int) < 2147483647
    · rw [count_note h]
      split <;> omega
    · rw [note_no h]
      omega
theorem noted_counts (L : List Nat) (h : L.length ≤ 1000) (y : Nat) (hy : y ≤ 7) : count (noted L) (y : Int) = (L.count y : Nat) := by
  induction L with
  | nil => rw [show noted [] = [] from rfl, count_out (by simp)]; rfl
  | cons x r ih =>
    have hl : r.length ≤ 1000 := by simp only [List.length_cons] at h; omega
    have h1 := ih hl
    have h2 := (noted_few r).2 x
    show count (note (noted r) (x : Int)) (y : Int) = _
    rw [List.count_cons]
    by_cases hx : x ≤ 7
    · rw [count_note ⟨⟨by omega, by omega⟩, by omega⟩]
      by_cases e : y = x
      · subst e
        rw [if_pos rfl, h1]
        simp
      · rw [if_neg (by omega), h1]
        have : (x == y) = false := by rw [beq_eq_false_iff_ne]; exact fun k => e k.symm
        rw [this]
        simp
    · rw [note_no (by omega), h1]
      have : (x == y) = false := by rw [beq_eq_false_iff_ne]; omega
      rw [this]
      simp

end Go.Proofs.Ytpldfalnoaamkaa.Ld
