/- Windows, number by number, as the code asks them; what stands between the code's steps and Nx (no program in sight). -/
import Derived.Test.YtlfbponacoombaaNx
namespace Go.Proofs.Ytlfbponacoombaa
namespace Nx

/-! ### right, number by number -/
def least (low : Int) (l : List Int) (k : Nat) : Int := if k = 0 then low else l.getD (k - 1) 0 + 1
/-- The j-th number, as Right asks it. -/
def Good (low : Int) (l : List Int) (j : Nat) : Prop := least low l j ≤ l.getD j 0 ∧ l.getD j 0 ≤ 2147483647
theorem least_zero (low : Int) (l : List Int) : least low l 0 = low := rfl
theorem least_succ (low : Int) (l : List Int) (k : Nat) : least low l (k + 1) = l.getD k 0 + 1 := by unfold least; rw [if_neg (by omega)]; rfl
theorem getD_mem {l : List Int} {j : Nat} (h : j < l.length) : l.getD j 0 ∈ l := by
  rw [List.getD_eq_getElem?_getD, List.getElem?_eq_getElem h]; exact List.getElem_mem h
theorem mem_getD {l : List Int} {x : Int} (h : x ∈ l) : ∃ j, j < l.length ∧ l.getD j 0 = x := by
  obtain ⟨j, hj, e⟩ := List.getElem_of_mem h
  exact ⟨j, hj, by rw [List.getD_eq_getElem?_getD, List.getElem?_eq_getElem hj]; exact e⟩
theorem good_low {low : Int} {l : List Int} (h : ∀ j, j < l.length → Good low l j) : ∀ j, j < l.length → low ≤ l.getD j 0 := by
  intro j
  induction j with
  | zero => intro hj; have := (h 0 hj).1; rw [least_zero] at this; exact this
  | succ j ih =>
    intro hj
    have h1 := ih (by omega)
    have h2 := (h (j + 1) hj).1
    rw [least_succ] at h2
    omega
theorem good_rise {low : Int} {l : List Int} (h : ∀ j, j < l.length → Good low l j) (i : Nat) : ∀ j, i < j → j < l.length → l.getD i 0 < l.getD j 0 := by
  intro j
  induction j with
  | zero => intro hi; omega
  | succ j ih =>
    intro hi hj
    have h2 := (h (j + 1) hj).1
    rw [least_succ] at h2
    by_cases e : i = j
    · subst e; omega
    · have := ih (by omega) (by omega); omega
theorem right_good {low : Int} {l : List Int} (h0 : 0 ≤ low) (h1 : low ≤ 2147483647) (h2 : l.length ≤ 32) : Right ⟨low, l⟩ ↔ ∀ j, j < l.length → Good low l j := by
  constructor
  · rintro ⟨_, _, _, hb, hp⟩ j hj
    refine ⟨?_, (hb _ (getD_mem hj)).2⟩
    cases j with
    | zero => rw [least_zero]; exact (hb _ (getD_mem hj)).1
    | succ j =>
      rw [least_succ]
      have := List.pairwise_iff_getElem.1 hp j (j + 1) (by exact Nat.lt_of_succ_lt hj) hj (by omega)
      rw [List.getD_eq_getElem?_getD, List.getD_eq_getElem?_getD, List.getElem?_eq_getElem hj, List.getElem?_eq_getElem (show j < l.length by omega)]
      exact this
  · intro h
    refine ⟨h0, h1, h2, fun x hx => ?_, List.pairwise_iff_getElem.2 fun i j hi hj hij => ?_⟩
    · obtain ⟨j, hj, rfl⟩ := mem_getD hx
      exact ⟨good_low h j hj, (h j hj).2⟩
    · have := good_rise h i j hij hj
      rw [List.getD_eq_getElem?_getD, List.getD_eq_getElem?_getD, List.getElem?_eq_getElem hi, List.getElem?_eq_getElem hj] at this
      exact this
/-- The j-th number, as the document's Right asks it. -/
def Fine (low : Int) (l : List Int) (j : Nat) : Prop := low ≤ l.getD j 0 ∧ l.getD j 0 ≤ 2147483647 ∧ (0 < j → l.getD (j - 1) 0 < l.getD j 0)
theorem right_fine {low : Int} {l : List Int} (h0 : 0 ≤ low) (h1 : low ≤ 2147483647) (h2 : l.length ≤ 32) : Right ⟨low, l⟩ ↔ ∀ j, j < l.length → Fine low l j := by
  rw [right_good h0 h1 h2]
  constructor
  · intro h j hj
    refine ⟨good_low h j hj, (h j hj).2, fun hp => good_rise h (j - 1) j (by omega) hj⟩
  · intro h j hj
    refine ⟨?_, (h j hj).2.1⟩
    cases j with
    | zero => rw [least_zero]; exact (h 0 hj).1
    | succ j => rw [least_succ]; have := (h (j + 1) hj).2.2 (by omega); rw [show j + 1 - 1 = j by omega] at this; omega

/-! ### the place of a number -/
theorem ins_place {x : Int} {l : List Int} (hp : l.Pairwise (· < ·)) (hx : x ∉ l) : l.take (l.countP (· < x)) ++ x :: l.drop (l.countP (· < x)) = ins x l := by
  induction l with
  | nil => rfl
  | cons y l ih =>
    obtain ⟨h1, h2⟩ := List.pairwise_cons.1 hp
    unfold ins
    by_cases hlt : x < y
    · have h0 : (y :: l).countP (· < x) = 0 := by
        rw [List.countP_eq_zero]
        intro z hz
        rcases List.mem_cons.1 hz with rfl | hz
        · simp; omega
        · have := h1 z hz; simp; omega
      rw [h0, if_pos hlt]
      rfl
    · have hne : x ≠ y := fun e => hx (e ▸ List.mem_cons_self)
      have h0 : (y :: l).countP (· < x) = l.countP (· < x) + 1 := by rw [List.countP_cons_of_pos (by simp; omega)]
      rw [h0, if_neg hlt]
      show y :: (l.take (l.countP (· < x)) ++ x :: l.drop (l.countP (· < x))) = _
      rw [ih h2 fun h => hx (List.mem_cons_of_mem _ h)]

/-! ### settling, step by step -/
theorem cut_long {low : Int} {l : List Int} (h : l.length = 33) : cut low l = cut (l.getD 0 0 + 1) l.tail := by
  cases l with
  | nil => simp at h
  | cons x l =>
    unfold cut
    rw [if_pos h, if_neg (by simp at h; simp [h])]
    rfl
theorem cut_short {low : Int} {l : List Int} (h : l.length ≤ 32) : cut low l = ⟨low, l⟩ := by unfold cut; rw [if_neg (by omega)]
theorem run_step {low : Int} {l : List Int} (h : 0 < l.length) (e : l.getD 0 0 = low) : run low l = run (low + 1) l.tail := by
  cases l with
  | nil => simp at h
  | cons x l =>
    have e' : x = low := e
    show (if x = low then _ else _) = _
    rw [if_pos e']
    rfl
theorem run_stop {low : Int} {l : List Int} (h : l.length = 0 ∨ l.getD 0 0 ≠ low) : run low l = ⟨low, l⟩ := by
  cases l with
  | nil => rfl
  | cons x l =>
    have e' : x ≠ low := by
      rcases h with h | h
      · simp at h
      · exact h
    show (if x = low then _ else _) = _
    rw [if_neg e']
def settled (low : Int) (l : List Int) : Win := run (cut low l).low (cut low l).seen
theorem put_settled (w : Win) (n : Int) : put w n = settled w.low (ins n w.seen) := rfl
theorem ins_snoc {n x : Int} {a : List Int} (h : ∃ y, y ∈ a ∧ n < y) : ins n (a ++ [x]) = ins n a ++ [x] := by
  induction a with
  | nil => obtain ⟨y, hy, _⟩ := h; cases hy
  | cons z a ih =>
    show (if n < z then _ else _) = (if n < z then _ else _) ++ [x]
    by_cases hlt : n < z
    · rw [if_pos hlt, if_pos hlt]; rfl
    · rw [if_neg hlt, if_neg hlt]
      show z :: ins n (a ++ [x]) = _
      rw [ih]
      · rfl
      · obtain ⟨y, hy, hn⟩ := h
        rcases List.mem_cons.1 hy with rfl | hy
        · exact absurd hn hlt
        · exact ⟨y, hy, hn⟩
theorem ins_ahead {n x : Int} {a : List Int} (h : ∀ y ∈ a, y < n) (hx : n < x) : ins n (a ++ [x]) = a ++ [n] ++ [x] := by
  induction a with
  | nil => show (if n < x then _ else _) = _; rw [if_pos hx]; rfl
  | cons z a ih =>
    show (if n < z then _ else _) = _
    have hz := h z List.mem_cons_self
    rw [if_neg (by omega)]
    show z :: ins n (a ++ [x]) = _
    rw [ih fun y hy => h y (List.mem_cons_of_mem _ hy)]
    rfl
/-- What the document's Accept has behind j numbers: whether n is among them, and the numbers. -/
def Half (l : List Int) (n : Int) (j : Nat) (b : Bool) (xs : List Int) : Prop :=
  (b = false ∧ (∀ y ∈ l.take j, y < n) ∧ xs = l.take j) ∨ (b = true ∧ (∃ y, y ∈ l.take j ∧ n < y) ∧ xs = ins n (l.take j))
theorem half_zero (l : List Int) (n : Int) : Half l n 0 false [] := .inl ⟨rfl, by simp, rfl⟩
theorem take_more {l : List Int} {j : Nat} (h : j < l.length) : l.take (j + 1) = l.take j ++ [l.getD j 0] := by
  rw [List.take_succ_eq_append_getElem h, List.getD_eq_getElem?_getD, List.getElem?_eq_getElem h]; rfl
theorem half_in {l : List Int} {n : Int} {j : Nat} {xs : List Int} (hj : j < l.length) (h : Half l n j true xs) : Half l n (j + 1) true (xs ++ [l.getD j 0]) := by
  rcases h with ⟨h, _⟩ | ⟨_, hy, rfl⟩
  · cases h
  · refine .inr ⟨rfl, ?_, ?_⟩
    · obtain ⟨y, hy, hn⟩ := hy; exact ⟨y, by rw [take_more hj]; exact List.mem_append_left _ hy, hn⟩
    · rw [take_more hj, ins_snoc hy]
theorem half_put {l : List Int} {n : Int} {j : Nat} {xs : List Int} (hj : j < l.length) (hn : n < l.getD j 0) (h : Half l n j false xs) : Half l n (j + 1) true (xs ++ [n] ++ [l.getD j 0]) := by
  rcases h with ⟨_, ha, rfl⟩ | ⟨h, _⟩
  · refine .inr ⟨rfl, ⟨l.getD j 0, by rw [take_more hj]; simp, hn⟩, ?_⟩
    rw [take_more hj, ins_ahead ha hn]
  · cases h
theorem half_out {l : List Int} {n : Int} {j : Nat} {xs : List Int} (hj : j < l.length) (hn : l.getD j 0 < n) (h : Half l n j false xs) : Half l n (j + 1) false (xs ++ [l.getD j 0]) := by
  rcases h with ⟨_, ha, rfl⟩ | ⟨h, _⟩
  · refine .inl ⟨rfl, fun y hy => ?_, by rw [take_more hj]⟩
    rw [take_more hj] at hy
    rcases List.mem_append.1 hy with hy | hy
    · exact ha y hy
    · rw [List.mem_singleton.1 hy]; exact hn
  · cases h
theorem half_true {l : List Int} {n : Int} {xs : List Int} (h : Half l n l.length true xs) : xs = ins n l := by
  rcases h with ⟨h, _⟩ | ⟨_, _, rfl⟩
  · cases h
  · rw [List.take_length]
theorem half_false {l : List Int} {n : Int} {xs : List Int} (h : Half l n l.length false xs) : xs ++ [n] = ins n l := by
  rcases h with ⟨_, ha, rfl⟩ | ⟨h, _⟩
  · rw [List.take_length] at ha ⊢
    exact (ins_last fun x hx => Int.le_of_lt (ha x hx)).symm
  · cases h
theorem half_len {l : List Int} {n : Int} {j : Nat} {b : Bool} {xs : List Int} (h : Half l n j b xs) : xs.length ≤ l.length + 1 := by
  rcases h with ⟨_, _, rfl⟩ | ⟨_, _, rfl⟩
  · rw [List.length_take]; omega
  · rw [ins_length, List.length_take]; omega
end Nx
end Go.Proofs.Ytlfbponacoombaa
