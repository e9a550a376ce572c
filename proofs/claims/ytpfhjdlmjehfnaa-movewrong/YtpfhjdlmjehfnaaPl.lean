/- Maps of who holds what, as lists (no program in sight): right ones, holders that are added and retired. -/
import Derived.Test.YtpfhjdlmjehfnaaMx
namespace Go.Proofs.Ytpfhjdlmjehfnaa.Pl
open Go.Proofs.Ytpfhjdlmjehfnaa

/-! ### A row of holders -/
def RowOk (l : List Int) : Prop := l ≠ [] ∧ (∀ x ∈ l, 1 ≤ x ∧ x ≤ 4) ∧ l.Pairwise (· < ·)
/-- The nodes that hold, n among them or not. -/
def keep (l : List Int) (n : Int) (add : Bool) : List Int := [1, 2, 3, 4].filter fun y => if y = n then add else decide (y ∈ l)
def filt (l : List Int) : List Int := [1, 2, 3, 4].filter fun y => decide (y ∈ l)
/-- All rows of holders. -/
def rows : List (List Int) := [[1], [2], [3], [4], [1, 2], [1, 3], [1, 4], [2, 3], [2, 4], [3, 4], [1, 2, 3], [1, 2, 4], [1, 3, 4], [2, 3, 4], [1, 2, 3, 4]]

theorem sorted_ext {l k : List Int} (hl : l.Pairwise (· < ·)) (hk : k.Pairwise (· < ·)) (h : ∀ x, x ∈ l ↔ x ∈ k) : l = k := by
  induction l generalizing k with
  | nil =>
    cases k with
    | nil => rfl
    | cons b k => exact absurd ((h b).2 (by simp)) (by simp)
  | cons a l ih =>
    cases k with
    | nil => exact absurd ((h a).1 (by simp)) (by simp)
    | cons b k =>
      obtain ⟨ha, hl2⟩ := List.pairwise_cons.1 hl
      obtain ⟨hb, hk2⟩ := List.pairwise_cons.1 hk
      have hab : a = b := by
        rcases List.mem_cons.1 ((h a).1 (by simp)) with h1 | h1
        · exact h1
        · rcases List.mem_cons.1 ((h b).2 (by simp)) with h2 | h2
          · exact h2.symm
          · have := hb a h1
            have := ha b h2
            omega
      subst hab
      congr 1
      refine ih hl2 hk2 fun x => ?_
      constructor
      · intro hx
        have := ha x hx
        rcases List.mem_cons.1 ((h x).1 (by simp [hx])) with h1 | h1
        · omega
        · exact h1
      · intro hx
        have := hb x hx
        rcases List.mem_cons.1 ((h x).2 (by simp [hx])) with h1 | h1
        · omega
        · exact h1
theorem four_sorted : ([1, 2, 3, 4] : List Int).Pairwise (· < ·) := by decide
theorem filt_eq {l : List Int} (h : RowOk l) : filt l = l := by
  refine sorted_ext (four_sorted.sublist List.filter_sublist) h.2.2 fun x => ?_
  unfold filt
  rw [List.mem_filter]
  constructor
  · rintro ⟨_, h2⟩
    simpa using h2
  · intro hx
    have := h.2.1 x hx
    refine ⟨?_, by simpa using hx⟩
    have : x = 1 ∨ x = 2 ∨ x = 3 ∨ x = 4 := by omega
    simpa using this
theorem row_there {l : List Int} (h : RowOk l) : l ∈ rows := by
  have hf := filt_eq h
  have hne := h.1
  rw [← hf] at hne ⊢
  unfold filt at *
  by_cases h1 : (1 : Int) ∈ l <;> by_cases h2 : (2 : Int) ∈ l <;> by_cases h3 : (3 : Int) ∈ l <;> by_cases h4 : (4 : Int) ∈ l <;> simp [h1, h2, h3, h4] at hne ⊢ <;> decide
theorem rows_ok {l : List Int} (h : l ∈ rows) : RowOk l := by
  have : ∀ l ∈ rows, l ≠ [] ∧ (∀ x ∈ l, 1 ≤ x ∧ x ≤ 4) ∧ l.Pairwise (· < ·) := by decide
  exact this l h
theorem node_there {n : Int} (h1 : 1 ≤ n) (h2 : n ≤ 4) : n ∈ ([1, 2, 3, 4] : List Int) := by
  have : n = 1 ∨ n = 2 ∨ n = 3 ∨ n = 4 := by omega
  simpa using this
theorem row_len {l : List Int} (h : RowOk l) : 1 ≤ l.length ∧ l.length ≤ 4 := by
  have : ∀ l ∈ rows, 1 ≤ l.length ∧ l.length ≤ 4 := by decide
  exact this l (row_there h)
theorem mem_keep {l : List Int} {n y : Int} {add : Bool} : y ∈ keep l n add ↔ (1 ≤ y ∧ y ≤ 4) ∧ (if y = n then add = true else y ∈ l) := by
  unfold keep
  rw [List.mem_filter]
  constructor
  · rintro ⟨h1, h2⟩
    have h3 : y = 1 ∨ y = 2 ∨ y = 3 ∨ y = 4 := by simpa using h1
    refine ⟨by omega, ?_⟩
    by_cases hy : y = n
    · rw [if_pos hy] at h2 ⊢; exact h2
    · rw [if_neg hy] at h2 ⊢; simpa using h2
  · rintro ⟨h1, h2⟩
    refine ⟨node_there h1.1 h1.2, ?_⟩
    by_cases hy : y = n
    · rw [if_pos hy] at h2 ⊢; exact h2
    · rw [if_neg hy] at h2 ⊢; simpa using h2
theorem keep_sorted (l : List Int) (n : Int) (add : Bool) : (keep l n add).Pairwise (· < ·) := four_sorted.sublist List.filter_sublist
theorem add_ok {l : List Int} {n : Int} (h1 : 1 ≤ n) (h2 : n ≤ 4) : RowOk (keep l n true) := by
  refine ⟨fun e => ?_, fun x hx => (mem_keep.1 hx).1, keep_sorted _ _ _⟩
  have : n ∈ keep l n true := mem_keep.2 ⟨⟨h1, h2⟩, by rw [if_pos rfl]⟩
  rw [e] at this
  cases this
theorem retire_ok {l : List Int} {n : Int} (h : RowOk l) (hl : l.length ≠ 1) : RowOk (keep l n false) := by
  refine ⟨fun e => ?_, fun x hx => (mem_keep.1 hx).1, keep_sorted _ _ _⟩
  match l, h, hl with
  | [], h, _ => exact h.1 rfl
  | [_], _, hl => exact hl rfl
  | a :: b :: t, h, _ =>
    have hab := (List.pairwise_cons.1 h.2.2).1 b (by simp)
    have ha := h.2.1 a (by simp)
    have hb := h.2.1 b (by simp)
    by_cases hn : a = n
    · have : b ∈ keep (a :: b :: t) n false := mem_keep.2 ⟨hb, by rw [if_neg (by omega)]; simp⟩
      rw [e] at this
      cases this
    · have : a ∈ keep (a :: b :: t) n false := mem_keep.2 ⟨ha, by rw [if_neg hn]; simp⟩
      rw [e] at this
      cases this
theorem keep_back {l : List Int} {n : Int} (h : RowOk l) (hn : n ∉ l) : keep (keep l n true) n false = l := by
  refine sorted_ext (keep_sorted _ _ _) h.2.2 fun x => ?_
  rw [mem_keep]
  by_cases hx : x = n
  · rw [if_pos hx]
    constructor
    · rintro ⟨_, h2⟩; cases h2
    · intro h2; rw [hx] at h2; exact absurd h2 hn
  · rw [if_neg hx, mem_keep, if_neg hx]
    exact ⟨fun h2 => h2.2.2, fun h2 => ⟨h.2.1 x h2, h.2.1 x h2, h2⟩⟩
/-- One who is added stands among them at its place. -/
theorem keep_add {l : List Int} {n : Int} (h : RowOk l) (h1 : 1 ≤ n) (h2 : n ≤ 4) (hn : n ∉ l) : keep l n true = l.take (l.countP (· < n)) ++ n :: l.drop (l.countP (· < n)) := by
  have : ∀ l ∈ rows, ∀ n ∈ ([1, 2, 3, 4] : List Int), n ∉ l → keep l n true = l.take (l.countP (· < n)) ++ n :: l.drop (l.countP (· < n)) := by decide
  exact this l (row_there h) n (node_there h1 h2) hn
/-- One who is retired is taken out. -/
theorem keep_retire {l : List Int} {n : Int} (h : RowOk l) : keep l n false = l.filter (· ≠ n) := by
  refine sorted_ext (keep_sorted _ _ _) (h.2.2.sublist List.filter_sublist) fun x => ?_
  rw [mem_keep, List.mem_filter]
  by_cases hx : x = n
  · rw [if_pos hx]; simp [hx]
  · rw [if_neg hx]
    simp only [ne_eq, hx, not_false_eq_true, decide_true, and_true]
    exact ⟨fun h2 => h2.2, fun h2 => ⟨h.2.1 x h2, h2⟩⟩
theorem keep_retire_at {l : List Int} {n : Int} {i : Nat} (h : RowOk l) (hi : i < l.length) (hn : l.getD i 0 = n) : keep l n false = l.take i ++ l.drop (i + 1) := by
  have : ∀ l ∈ rows, ∀ i ∈ List.range 4, i < l.length → keep l (l.getD i 0) false = l.take i ++ l.drop (i + 1) := by decide
  rw [← hn]
  exact this l (row_there h) i (List.mem_range.2 (by have := (row_len h).2; omega)) hi
/-- Who is picked. -/
def pick (l : List Int) (key : Nat) : Int := l.getD (key % l.length) 0
theorem pick_holds {l : List Int} (h : RowOk l) (key : Nat) : pick l key ∈ l := Mx.num_mem l _ (Nat.mod_lt _ (row_len h).1)
theorem pick_all {l : List Int} (h : RowOk l) (n : Int) : n ∈ l ↔ pick l 0 = n ∨ pick l 1 = n ∨ pick l 2 = n ∨ pick l 3 = n := by
  constructor
  · intro hn
    have : ∀ l ∈ rows, ∀ n ∈ l, pick l 0 = n ∨ pick l 1 = n ∨ pick l 2 = n ∨ pick l 3 = n := by decide
    exact this l (row_there h) n hn
  · rintro (h1 | h1 | h1 | h1) <;> (rw [← h1]; exact pick_holds h _)

/-! ### Maps -/
def Right (e : Int) (m : List (List Int)) : Prop := (0 ≤ e ∧ e ≤ 2147483647) ∧ m.length ≤ 8 ∧ ∀ l ∈ m, RowOk l
def Holds (m : List (List Int)) (x n : Int) : Prop := (0 ≤ x ∧ x < (m.length : Int)) ∧ n ∈ m.getD x.toNat []
def Wrong (e : Int) (m : List (List Int)) (x n : Int) : Prop := ¬ Right e m ∨ ¬ (0 ≤ x ∧ x < (m.length : Int)) ∨ ¬ (1 ≤ n ∧ n ≤ 4) ∨ e = 2147483647
open Classical in
noncomputable def addE (e : Int) (m : List (List Int)) (x n : Int) : Int := if Wrong e m x n then 1 else if Holds m x n then 5 else 0
open Classical in
noncomputable def retE (e : Int) (m : List (List Int)) (x n : Int) : Int := if Wrong e m x n then 1 else if ¬ Holds m x n then 4 else if (m.getD x.toNat []).length = 1 then 7 else 0
/-- The map behind it. -/
def turn (m : List (List Int)) (x n : Int) (add : Bool) : List (List Int) := m.set x.toNat (keep (m.getD x.toNat []) n add)
section
variable {e : Int} {m : List (List Int)} {x n : Int}
theorem Right.row (h : Right e m) {i : Nat} (hi : i < m.length) : RowOk (m.getD i []) := h.2.2 _ (Mx.getD_mem m i hi)
theorem addE_wrong (h : Wrong e m x n) : addE e m x n = 1 := if_pos h
theorem addE_there (h : ¬ Wrong e m x n) (h2 : Holds m x n) : addE e m x n = 5 := by unfold addE; rw [if_neg h, if_pos h2]
theorem addE_ok (h : ¬ Wrong e m x n) (h2 : ¬ Holds m x n) : addE e m x n = 0 := by unfold addE; rw [if_neg h, if_neg h2]
theorem retE_wrong (h : Wrong e m x n) : retE e m x n = 1 := if_pos h
theorem retE_none (h : ¬ Wrong e m x n) (h2 : ¬ Holds m x n) : retE e m x n = 4 := by unfold retE; rw [if_neg h, if_pos h2]
theorem retE_last (h : ¬ Wrong e m x n) (h2 : Holds m x n) (h3 : (m.getD x.toNat []).length = 1) : retE e m x n = 7 := by unfold retE; rw [if_neg h, if_neg (by simpa using h2), if_pos h3]
theorem retE_ok (h : ¬ Wrong e m x n) (h2 : Holds m x n) (h3 : (m.getD x.toNat []).length ≠ 1) : retE e m x n = 0 := by unfold retE; rw [if_neg h, if_neg (by simpa using h2), if_neg h3]
theorem not_wrong (h : ¬ Wrong e m x n) : Right e m ∧ (0 ≤ x ∧ x < (m.length : Int)) ∧ (1 ≤ n ∧ n ≤ 4) ∧ e ≠ 2147483647 := by
  unfold Wrong at h
  refine ⟨Classical.byContradiction fun h1 => h (Or.inl h1), Classical.byContradiction fun h1 => h (Or.inr (Or.inl h1)), Classical.byContradiction fun h1 => h (Or.inr (Or.inr (Or.inl h1))), fun h1 => h (Or.inr (Or.inr (Or.inr h1)))⟩
theorem turn_len (m : List (List Int)) (x n : Int) (add : Bool) : (turn m x n add).length = m.length := by unfold turn; rw [List.length_set]
theorem turn_at (hx : 0 ≤ x ∧ x < (m.length : Int)) (add : Bool) (i : Nat) : (turn m x n add).getD i [] = if i = x.toNat then keep (m.getD x.toNat []) n add else m.getD i [] := by
  unfold turn
  rw [List.getD_eq_getElem?_getD, List.getElem?_set]
  by_cases h : i = x.toNat
  · rw [if_pos h.symm, if_pos h, if_pos (by omega)]
    rfl
  · rw [if_neg (fun h2 => h h2.symm), if_neg h, List.getD_eq_getElem?_getD]
theorem turn_right (h : Right e m) (he : e ≠ 2147483647) {add : Bool} (hk : RowOk (keep (m.getD x.toNat []) n add)) : Right (e + 1) (turn m x n add) := by
  have h1 := h.1
  refine ⟨by omega, by rw [turn_len]; exact h.2.1, fun l hl => ?_⟩
  unfold turn at hl
  rcases List.mem_or_eq_of_mem_set hl with h2 | h2
  · exact h.2.2 l h2
  · rw [h2]; exact hk
theorem add_right (h : ¬ Wrong e m x n) : Right (e + 1) (turn m x n true) := by
  obtain ⟨h1, _, h3, h4⟩ := not_wrong h
  exact turn_right h1 h4 (add_ok h3.1 h3.2)
theorem ret_right (h : ¬ Wrong e m x n) (h5 : (m.getD x.toNat []).length ≠ 1) : Right (e + 1) (turn m x n false) := by
  obtain ⟨h1, h2, _, h4⟩ := not_wrong h
  exact turn_right h1 h4 (retire_ok (h1.row (by omega)) h5)
/-- Who holds what behind it. -/
theorem turn_holds (hx : 0 ≤ x ∧ x < (m.length : Int)) (hn : 1 ≤ n ∧ n ≤ 4) (hR : Right e m) (add : Bool) (y k : Int) : Holds (turn m x n add) y k ↔ if y = x ∧ k = n then add = true else Holds m y k := by
  unfold Holds
  rw [turn_len]
  by_cases hy : 0 ≤ y ∧ y < (m.length : Int)
  · rw [turn_at hx]
    by_cases h1 : y = x
    · subst h1
      rw [if_pos rfl, mem_keep]
      by_cases h2 : k = n
      · subst h2
        simp [hy, hn]
      · rw [if_neg h2, if_neg (fun h3 => h2 h3.2)]
        exact ⟨fun h3 => ⟨hy, h3.2.2⟩, fun h3 => ⟨hy, (hR.row (by omega)).2.1 k h3.2, h3.2⟩⟩
    · rw [if_neg (by omega), if_neg (fun h3 => h1 h3.1)]
  · rw [if_neg (fun h3 => hy (by rw [h3.1]; exact hx))]
    exact ⟨fun h3 => absurd h3.1 hy, fun h3 => absurd h3.1 hy⟩
theorem turn_back (hR : Right e m) (hx : 0 ≤ x ∧ x < (m.length : Int)) (hn : ¬ Holds m x n) : turn (turn m x n true) x n false = m := by
  have h1 : n ∉ m.getD x.toNat [] := fun h => hn ⟨hx, h⟩
  have h2 := turn_at (n := n) hx true x.toNat
  rw [if_pos rfl] at h2
  have h3 : turn (turn m x n true) x n false = (turn m x n true).set x.toNat (keep ((turn m x n true).getD x.toNat []) n false) := rfl
  rw [h3, h2, keep_back (hR.row (by omega)) h1]
  unfold turn
  rw [List.set_set]
  have hlt : x.toNat < m.length := by omega
  rw [List.getD_eq_getElem?_getD, List.getElem?_eq_getElem hlt]
  exact List.set_getElem_self hlt
/-- The document's way: every row anew. -/
theorem turn_rows (hR : Right e m) (add : Bool) : turn m x n add = (List.range m.length).map fun i => if i = x.toNat then keep (m.getD i []) n add else filt (m.getD i []) := by
  apply List.ext_getElem?
  intro i
  unfold turn
  rw [List.getElem?_set, List.getElem?_map]
  by_cases hi : i < m.length
  · have e1 : m.getD i [] = m[i] := by rw [List.getD_eq_getElem?_getD, List.getElem?_eq_getElem hi]; rfl
    rw [List.getElem?_range hi]
    by_cases hx : x.toNat = i
    · rw [if_pos hx, if_pos (by omega)]
      simp [hx]
    · rw [if_neg hx, List.getElem?_eq_getElem hi]
      show some m[i] = some (if i = x.toNat then _ else _)
      rw [if_neg (fun h => hx h.symm), filt_eq (hR.row hi), e1]
  · have e2 : (List.range m.length)[i]? = none := List.getElem?_eq_none (by rw [List.length_range]; omega)
    have e3 : m[i]? = none := List.getElem?_eq_none (by omega)
    rw [e2, e3]
    by_cases hx : x.toNat = i
    · rw [if_pos hx, if_neg (by omega)]; rfl
    · rw [if_neg hx]; rfl
end

/-! ### Rows, number by number -/
theorem take_one {l : List Int} {k : Nat} (h : k < l.length) : l.take (k + 1) = l.take k ++ [l.getD k 0] := by
  rw [List.take_succ_eq_append_getElem h, List.getD_eq_getElem?_getD, List.getElem?_eq_getElem h]; rfl
/-- The first k are as they should be. -/
def Upto (l : List Int) (k : Nat) : Prop := (∀ x ∈ l.take k, 1 ≤ x ∧ x ≤ 4) ∧ (l.take k).Pairwise (· < ·)
/-- And the one at k too. -/
def Next (l : List Int) (k : Nat) : Prop := (1 ≤ l.getD k 0 ∧ l.getD k 0 ≤ 4) ∧ (0 < k → l.getD (k - 1) 0 < l.getD k 0)
theorem upto_zero (l : List Int) : Upto l 0 := ⟨fun x hx => by simp at hx, by simp⟩
theorem Upto.last {l : List Int} {k : Nat} (h : Upto l k) (hk : k ≤ l.length) (h0 : 0 < k) : 1 ≤ l.getD (k - 1) 0 ∧ l.getD (k - 1) 0 ≤ 4 := by
  refine h.1 _ ?_
  have := take_one (l := l) (k := k - 1) (by omega)
  rw [show k - 1 + 1 = k by omega] at this
  rw [this]
  simp
theorem Upto.most {l : List Int} {k : Nat} (h : Upto l k) (hk : k ≤ l.length) {x : Int} (hx : x ∈ l.take k) : x ≤ l.getD (k - 1) 0 := by
  have h0 : 0 < k := by
    rcases Nat.eq_zero_or_pos k with h0 | h0
    · subst h0; simp at hx
    · exact h0
  have e := take_one (l := l) (k := k - 1) (by omega)
  rw [show k - 1 + 1 = k by omega] at e
  have h2 := h.2
  rw [e] at hx h2
  rcases List.mem_append.1 hx with h3 | h3
  · have := (List.pairwise_append.1 h2).2.2 x h3 (l.getD (k - 1) 0) (by simp); omega
  · rw [List.mem_singleton.1 h3]; exact Int.le_refl _
theorem Upto.next {l : List Int} {k : Nat} (h : Upto l k) (hk : k < l.length) (hn : Next l k) : Upto l (k + 1) := by
  unfold Upto
  rw [take_one hk]
  refine ⟨fun x hx => ?_, List.pairwise_append.2 ⟨h.2, by simp, fun x hx y hy => ?_⟩⟩
  · rcases List.mem_append.1 hx with h1 | h1
    · exact h.1 x h1
    · rw [List.mem_singleton.1 h1]; exact hn.1
  · rw [List.mem_singleton.1 hy]
    have h1 := h.most (by omega) hx
    have h0 : 0 < k := by
      rcases Nat.eq_zero_or_pos k with h0 | h0
      · subst h0; simp at hx
      · exact h0
    have := hn.2 h0
    omega
theorem not_next {l : List Int} {k : Nat} (hk : k < l.length) (hn : ¬ Next l k) : ¬ RowOk l := by
  rintro ⟨_, h1, h2⟩
  refine hn ⟨h1 _ (Mx.num_mem l k hk), fun h0 => ?_⟩
  have := List.pairwise_iff_getElem.1 h2 (k - 1) k (by omega) hk (by omega)
  rwa [List.getD_eq_getElem?_getD, List.getD_eq_getElem?_getD, List.getElem?_eq_getElem hk, List.getElem?_eq_getElem (by omega : k - 1 < l.length)]
theorem Upto.all {l : List Int} (h : Upto l l.length) (hl : l.length ≠ 0) : RowOk l := by
  unfold Upto at h
  rw [List.take_length] at h
  exact ⟨fun e => hl (by rw [e]; rfl), h.1, h.2⟩
theorem not_nil : ¬ RowOk [] := fun h => h.1 rfl
/-! ### What BinarySearch tells -/
theorem found_at {l : List Int} {n : Int} (h : RowOk l) (hn : n ∈ l) : l.countP (· < n) < l.length ∧ l.getD (l.countP (· < n)) 0 = n := by
  have : ∀ l ∈ rows, ∀ n ∈ l, l.countP (· < n) < l.length ∧ l.getD (l.countP (· < n)) 0 = n := by decide
  exact this l (row_there h) n hn
theorem right_all {e : Int} {m : List (List Int)} (h1 : 0 ≤ e ∧ e ≤ 2147483647) (h2 : m.length ≤ 8) (h3 : ∀ j, j < m.length → RowOk (m.getD j [])) : Right e m := by
  refine ⟨h1, h2, fun l hl => ?_⟩
  obtain ⟨j, hj, rfl⟩ := List.mem_iff_getElem.1 hl
  have := h3 j hj
  rwa [List.getD_eq_getElem?_getD, List.getElem?_eq_getElem hj] at this
theorem right_sized {e : Int} {m : List (List Int)} (h : Right e m) : ∀ l ∈ m, l.length ≤ 4 := fun l hl => (row_len (h.2.2 l hl)).2

/-! ### What Add and Retire answer: the epoch E, the holders M, the error X -/
def Add (e : Int) (m : List (List Int)) (x n E : Int) (M : List (List Int)) (X : Int) : Prop :=
  (Wrong e m x n ∧ e = E ∧ m = M ∧ 1 = X) ∨ (¬ Wrong e m x n ∧ Holds m x n ∧ e = E ∧ m = M ∧ 5 = X) ∨ (¬ Wrong e m x n ∧ ¬ Holds m x n ∧ e + 1 = E ∧ turn m x n true = M ∧ 0 = X)
def Ret (e : Int) (m : List (List Int)) (x n E : Int) (M : List (List Int)) (X : Int) : Prop :=
  (Wrong e m x n ∧ e = E ∧ m = M ∧ 1 = X) ∨ (¬ Wrong e m x n ∧ ¬ Holds m x n ∧ e = E ∧ m = M ∧ 4 = X) ∨ (¬ Wrong e m x n ∧ Holds m x n ∧ (m.getD x.toNat []).length = 1 ∧ e = E ∧ m = M ∧ 7 = X) ∨ (¬ Wrong e m x n ∧ Holds m x n ∧ (m.getD x.toNat []).length ≠ 1 ∧ e + 1 = E ∧ turn m x n false = M ∧ 0 = X)
theorem add_there (e : Int) (m : List (List Int)) (x n : Int) : ∃ E M X, Add e m x n E M X := by
  by_cases h1 : Wrong e m x n
  · exact ⟨e, m, 1, .inl ⟨h1, rfl, rfl, rfl⟩⟩
  by_cases h2 : Holds m x n
  · exact ⟨e, m, 5, .inr (.inl ⟨h1, h2, rfl, rfl, rfl⟩)⟩
  · exact ⟨e + 1, turn m x n true, 0, .inr (.inr ⟨h1, h2, rfl, rfl, rfl⟩)⟩
theorem ret_there (e : Int) (m : List (List Int)) (x n : Int) : ∃ E M X, Ret e m x n E M X := by
  by_cases h1 : Wrong e m x n
  · exact ⟨e, m, 1, .inl ⟨h1, rfl, rfl, rfl⟩⟩
  by_cases h2 : Holds m x n
  · by_cases h3 : (m.getD x.toNat []).length = 1
    · exact ⟨e, m, 7, .inr (.inr (.inl ⟨h1, h2, h3, rfl, rfl, rfl⟩))⟩
    · exact ⟨e + 1, turn m x n false, 0, .inr (.inr (.inr ⟨h1, h2, h3, rfl, rfl, rfl⟩))⟩
  · exact ⟨e, m, 4, .inr (.inl ⟨h1, h2, rfl, rfl, rfl⟩)⟩
section
variable {e : Int} {m : List (List Int)} {x n E : Int} {M : List (List Int)} {X : Int}
theorem Add.len (h : Add e m x n E M X) : M.length = m.length := by
  rcases h with ⟨_, _, rfl, _⟩ | ⟨_, _, _, rfl, _⟩ | ⟨_, _, _, rfl, _⟩
  · rfl
  · rfl
  · exact turn_len _ _ _ _
theorem Ret.len (h : Ret e m x n E M X) : M.length = m.length := by
  rcases h with ⟨_, _, rfl, _⟩ | ⟨_, _, _, rfl, _⟩ | ⟨_, _, _, _, rfl, _⟩ | ⟨_, _, _, _, rfl, _⟩
  · rfl
  · rfl
  · rfl
  · exact turn_len _ _ _ _
theorem Add.right (h : Add e m x n E M X) (hR : Right e m) : Right E M := by
  rcases h with ⟨_, rfl, rfl, _⟩ | ⟨_, _, rfl, rfl, _⟩ | ⟨hw, _, rfl, rfl, _⟩
  · exact hR
  · exact hR
  · exact add_right hw
theorem Ret.right (h : Ret e m x n E M X) (hR : Right e m) : Right E M := by
  rcases h with ⟨_, rfl, rfl, _⟩ | ⟨_, _, rfl, rfl, _⟩ | ⟨_, _, _, rfl, rfl, _⟩ | ⟨hw, _, h3, rfl, rfl, _⟩
  · exact hR
  · exact hR
  · exact hR
  · exact ret_right hw h3
end

/-! ### The document's way, node by node -/
def cand (i : Nat) (x y : Int) (add : Bool) (l : List Int) (q : Int) : Bool := if (i : Int) = x ∧ q = y then add else l.contains q
def some4 (i : Nat) (x y : Int) (add : Bool) (l : List Int) (j : Nat) : List Int := ([1, 2, 3, 4].take j).filter fun q => cand i x y add l q
section
variable {i : Nat} {x y : Int} {add : Bool} {l : List Int} {j : Nat}
theorem some4_zero : some4 i x y add l 0 = [] := rfl
theorem four_at (h : j < 4) : ([1, 2, 3, 4] : List Int).take (j + 1) = ([1, 2, 3, 4] : List Int).take j ++ [((j + 1 : Nat) : Int)] := by
  have : ∀ j ∈ List.range 4, ([1, 2, 3, 4] : List Int).take (j + 1) = ([1, 2, 3, 4] : List Int).take j ++ [((j + 1 : Nat) : Int)] := by decide
  exact this j (List.mem_range.2 h)
theorem some4_yes (h : j < 4) (hc : cand i x y add l ((j + 1 : Nat) : Int) = true) : some4 i x y add l j ++ [((j + 1 : Nat) : Int)] = some4 i x y add l (j + 1) := by
  unfold some4
  rw [four_at h, List.filter_append]
  congr 1
  simp only [List.filter_cons, hc, if_true, List.filter_nil]
theorem some4_no (h : j < 4) (hc : cand i x y add l ((j + 1 : Nat) : Int) = false) : some4 i x y add l j = some4 i x y add l (j + 1) := by
  unfold some4
  rw [four_at h, List.filter_append]
  simp only [List.filter_cons, hc, Bool.false_eq_true, if_false, List.filter_nil, List.append_nil]
theorem some4_len : (some4 i x y add l j).length ≤ 4 := by
  unfold some4
  refine Nat.le_trans (List.length_filter_le _ _) ?_
  rw [List.length_take]
  exact Nat.min_le_right _ _
end
theorem some4_all {e : Int} {m : List (List Int)} {x y : Int} {i : Nat} (hR : Right e m) (hx : 0 ≤ x) (hi : i < m.length) (add : Bool) : some4 i x y add (m.getD i []) 4 = (turn m x y add).getD i [] := by
  rw [turn_rows hR add, List.getD_eq_getElem?_getD (l := (List.range m.length).map _), List.getElem?_map, List.getElem?_range hi]
  show _ = if i = x.toNat then keep (m.getD i []) y add else filt (m.getD i [])
  by_cases h : i = x.toNat
  · rw [if_pos h]
    unfold some4 keep
    show List.filter _ [1, 2, 3, 4] = _
    refine List.filter_congr fun q _ => ?_
    unfold cand
    by_cases hq : q = y
    · rw [if_pos ⟨by omega, hq⟩, if_pos hq]
    · rw [if_neg (fun h2 => hq h2.2), if_neg hq]
      exact (List.elem_eq_contains).symm.trans (List.elem_eq_mem _ _)
  · rw [if_neg h]
    unfold some4 filt
    show List.filter _ [1, 2, 3, 4] = _
    refine List.filter_congr fun q _ => ?_
    unfold cand
    rw [if_neg (fun h2 => h (by omega))]
    exact (List.elem_eq_contains).symm.trans (List.elem_eq_mem _ _)

theorem some4_next {i p : Nat} {x y : Int} {add : Bool} {l : List Int} (h1 : 1 ≤ p) (h4 : p ≤ 4) (hc : cand i x y add l (p : Int) = true) : some4 i x y add l (p - 1) ++ [(p : Int)] = some4 i x y add l (p + 1 - 1) := by
  have := some4_yes (i := i) (x := x) (y := y) (add := add) (l := l) (j := p - 1) (by omega) (by rw [show p - 1 + 1 = p by omega]; exact hc)
  rw [show p - 1 + 1 = p by omega] at this
  exact this
theorem some4_skip {i p : Nat} {x y : Int} {add : Bool} {l : List Int} (h1 : 1 ≤ p) (h4 : p ≤ 4) (hc : cand i x y add l (p : Int) = false) : some4 i x y add l (p - 1) = some4 i x y add l (p + 1 - 1) := by
  have := some4_no (i := i) (x := x) (y := y) (add := add) (l := l) (j := p - 1) (by omega) (by rw [show p - 1 + 1 = p by omega]; exact hc)
  rw [show p - 1 + 1 = p by omega] at this
  exact this
theorem cand_ways (i k p : Nat) (y : Int) (add v : Bool) (l : List Int) (hv : l.contains (p : Int) = v) : ∃ B, cand i (k : Int) y add l (p : Int) = B ∧ ((((i : Int) == (k : Int)) = true ∧ ((p : Int) == y) = true ∧ B = add) ∨ (((i : Int) == (k : Int)) = true ∧ ((p : Int) == y) = false ∧ B = v) ∨ (((i : Int) == (k : Int)) = false ∧ B = v)) := by
  unfold cand
  by_cases h1 : (i : Int) = (k : Int)
  · by_cases h2 : (p : Int) = y
    · exact ⟨add, if_pos ⟨h1, h2⟩, .inl ⟨by simpa using h1, by simpa using h2, rfl⟩⟩
    · exact ⟨v, by rw [if_neg (fun h => h2 h.2)]; exact hv, .inr (.inl ⟨by simpa using h1, by simpa using h2, rfl⟩)⟩
  · exact ⟨v, by rw [if_neg (fun h => h1 h.1)]; exact hv, .inr (.inr ⟨by simpa using h1, rfl⟩)⟩

end Go.Proofs.Ytpfhjdlmjehfnaa.Pl
