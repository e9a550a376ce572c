/- The greatest of numbers, and the greatest of the others, as functions on lists (no program in sight), and the laws that the statements of layer 4 rest on. -/
import Derived.Test.YtpfhjdlmjehfnaaRow
namespace Go.Proofs.Ytpfhjdlmjehfnaa.Tx
open Go.Proofs.Ytpfhjdlmjehfnaa

/-- The place of the first greatest one of the first k numbers, but for one place; -1: there is none. -/
def pick (l : List Int) (but : Int) : Nat → Int
  | 0 => -1
  | k + 1 => if (k : Int) ≠ but ∧ (pick l but k = -1 ∨ l.getD (pick l but k).toNat 0 < l.getD k 0) then (k : Int) else pick l but k

/-- What that is, by its property alone. -/
def Is (g : Nat → Int) (but : Int) (k : Nat) (r : Int) : Prop :=
  (r = -1 ∧ ∀ i : Nat, i < k → (i : Int) = but) ∨ ∃ j : Nat, j < k ∧ r = j ∧ (j : Int) ≠ but ∧ ∀ i : Nat, i < k → (i : Int) ≠ but → g i ≤ g j ∧ (i < j → g i < g j)

theorem Is.eq {g : Nat → Int} {but : Int} {k : Nat} {r s : Int} (h : Is g but k r) (h' : Is g but k s) : r = s := by
  rcases h with ⟨rfl, h⟩ | ⟨j, hj, rfl, hb, h⟩
  · rcases h' with ⟨rfl, _⟩ | ⟨j', hj', rfl, hb', _⟩
    · rfl
    · exact absurd (h j' hj') hb'
  · rcases h' with ⟨rfl, h'⟩ | ⟨j', hj', rfl, hb', h'⟩
    · exact absurd (h' j hj) hb
    · have h1 := h j' hj' hb'
      have h2 := h' j hj hb
      have : j = j' := by
        rcases Nat.lt_trichotomy j j' with c | c | c
        · have := h2.2 c; have := h1.1; omega
        · exact c
        · have := h1.2 c; have := h2.1; omega
      rw [this]

theorem Is.mono {g g' : Nat → Int} {but : Int} {k : Nat} {r : Int} (h : Is g but k r) (hg : ∀ i : Nat, i < k → g' i = g i) : Is g' but k r := by
  rcases h with h | ⟨j, hj, rfl, hb, h⟩
  · exact .inl h
  · refine .inr ⟨j, hj, rfl, hb, fun i hi hbi => ?_⟩
    rw [hg i hi, hg j hj]; exact h i hi hbi

/-- One number more. -/
theorem Is.skip {g : Nat → Int} {but : Int} {k : Nat} {r : Int} (h : Is g but k r) (hb : (k : Int) = but) : Is g but (k + 1) r := by
  rcases h with ⟨rfl, h⟩ | ⟨j, hj, rfl, hbj, h⟩
  · refine .inl ⟨rfl, fun i hi => ?_⟩
    by_cases c : i < k
    · exact h i c
    · have : i = k := by omega
      rw [this]; exact hb
  · refine .inr ⟨j, by omega, rfl, hbj, fun i hi hbi => ?_⟩
    by_cases c : i < k
    · exact h i c hbi
    · have : i = k := by omega
      rw [this] at hbi; exact absurd hb hbi
theorem Is.stay {g : Nat → Int} {but : Int} {k j : Nat} (h : Is g but k j) (hl : g k ≤ g j) : Is g but (k + 1) j := by
  rcases h with ⟨h, _⟩ | ⟨j', hj, e, hbj, h⟩
  · omega
  · have : j = j' := by omega
    subst this
    refine .inr ⟨j, by omega, rfl, hbj, fun i hi hbi => ?_⟩
    by_cases c : i < k
    · exact h i c hbi
    · have : i = k := by omega
      subst this; exact ⟨hl, fun c => by omega⟩
theorem Is.next {g : Nat → Int} {but : Int} {k : Nat} {r : Int} (h : Is g but k r) (hb : (k : Int) ≠ but) (hl : r = -1 ∨ ∃ j : Nat, r = j ∧ g j < g k) : Is g but (k + 1) k := by
  refine .inr ⟨k, by omega, rfl, hb, fun i hi hbi => ?_⟩
  by_cases c : i < k
  · rcases h with ⟨_, h⟩ | ⟨j, hj, rfl, _, h⟩
    · exact absurd (h i c) hbi
    · rcases hl with hl | ⟨j', e, hl⟩
      · omega
      · have : j = j' := by omega
        subst this
        have := (h i c hbi).1
        exact ⟨by omega, fun _ => by omega⟩
  · have : i = k := by omega
    subst this; exact ⟨Int.le_refl _, fun c => by omega⟩

theorem pick_is (l : List Int) (but : Int) (k : Nat) : Is (fun i => l.getD i 0) but k (pick l but k) := by
  induction k with
  | zero => exact .inl ⟨rfl, fun i hi => by omega⟩
  | succ k ih =>
    have hc : pick l but k = -1 ∨ ∃ j : Nat, pick l but k = j := by
      rcases ih with ⟨h, _⟩ | ⟨j, _, h, _⟩
      · exact .inl h
      · exact .inr ⟨j, h⟩
    unfold pick
    by_cases hb : (k : Int) = but
    · rw [if_neg (fun h => h.1 hb)]; exact ih.skip hb
    · rcases hc with hm | ⟨j, hj⟩
      · rw [if_pos ⟨hb, .inl hm⟩]; exact ih.next hb (.inl hm)
      · by_cases hl : l.getD j 0 < l.getD k 0
        · rw [if_pos ⟨hb, .inr (by rw [hj]; exact hl)⟩]; exact ih.next hb (.inr ⟨j, hj, hl⟩)
        · rw [if_neg (fun h => by
            rcases h.2 with h | h
            · omega
            · rw [hj] at h; exact hl h), hj]
          rw [hj] at ih
          exact ih.stay (by omega)

/-- As the loop takes it. -/
theorem pick_but {l : List Int} {but : Int} {k : Nat} (h : (k : Int) = but) : pick l but (k + 1) = pick l but k := by
  rw [pick, if_neg (fun c => c.1 h)]
theorem pick_one {l : List Int} {but : Int} {k : Nat} (h : (k : Int) ≠ but) (hm : pick l but k = -1) : pick l but (k + 1) = k := by
  rw [pick, if_pos ⟨h, .inl hm⟩]
theorem pick_more {l : List Int} {but : Int} {k j : Nat} (h : (k : Int) ≠ but) (hj : pick l but k = j) (hl : l.getD j 0 < l.getD k 0) : pick l but (k + 1) = k := by
  rw [pick, if_pos ⟨h, .inr (by rw [hj]; exact hl)⟩]
theorem pick_stay {l : List Int} {but : Int} {k j : Nat} (hj : pick l but k = j) (hl : ¬ l.getD j 0 < l.getD k 0) : pick l but (k + 1) = pick l but k := by
  rw [pick, if_neg]
  intro h
  rcases h.2 with h | h
  · omega
  · rw [hj] at h; exact hl h
theorem pick_or (l : List Int) (but : Int) (k : Nat) : pick l but k = -1 ∨ ∃ j : Nat, j < k ∧ pick l but k = j := by
  rcases pick_is l but k with ⟨h, _⟩ | ⟨j, hj, h, _⟩
  · exact .inl h
  · exact .inr ⟨j, hj, h⟩

/-- The greatest one's place, and the greatest other one's. -/
def best (l : List Int) : Int := pick l (-1) l.length
def second (l : List Int) : Int := pick l (best l) l.length

theorem best_is (l : List Int) : Is (fun i => l.getD i 0) (-1) l.length (best l) := pick_is _ _ _
theorem second_is (l : List Int) : Is (fun i => l.getD i 0) (best l) l.length (second l) := pick_is _ _ _

theorem best_at {l : List Int} (h : 1 ≤ l.length) : ∃ j : Nat, j < l.length ∧ best l = j ∧ ∀ i : Nat, i < l.length → l.getD i 0 ≤ l.getD j 0 ∧ (i < j → l.getD i 0 < l.getD j 0) := by
  rcases best_is l with ⟨_, h0⟩ | ⟨j, hj, e, _, h1⟩
  · have := h0 0 (by omega); omega
  · exact ⟨j, hj, e, fun i hi => h1 i hi (by omega)⟩
theorem best_none {l : List Int} (h : l.length = 0) : best l = -1 := by unfold best; rw [h]; rfl
theorem second_at {l : List Int} (h : 2 ≤ l.length) {a : Nat} (ha : best l = a) : ∃ j : Nat, j < l.length ∧ second l = j ∧ j ≠ a ∧ ∀ i : Nat, i < l.length → i ≠ a → l.getD i 0 ≤ l.getD j 0 ∧ (i < j → l.getD i 0 < l.getD j 0) := by
  have hs := second_is l
  rw [ha] at hs
  rcases hs with ⟨_, h0⟩ | ⟨j, hj, e, hb, h1⟩
  · have := h0 0 (by omega); have := h0 1 (by omega); omega
  · exact ⟨j, hj, e, fun c => hb (by rw [c]), fun i hi hia => h1 i hi (by omega)⟩
theorem best_one {l : List Int} (h : l.length = 1) : best l = 0 := by
  obtain ⟨j, hj, e, _⟩ := best_at (l := l) (by omega)
  rw [e]; omega
theorem second_none {l : List Int} (h : l.length < 2) : second l = -1 := by
  rcases second_is l with ⟨e, _⟩ | ⟨j, hj, e, hb, _⟩
  · exact e
  · have := best_one (l := l) (by omega); omega

/-! ### The document's -/
/-- Whether what stands at i stands ahead of what stands at c. -/
def Ahead (l : List Int) (c i : Nat) : Prop := l.getD c 0 < l.getD i 0 ∨ (l.getD i 0 = l.getD c 0 ∧ i < c)
instance (l : List Int) (c i : Nat) : Decidable (Ahead l c i) := by unfold Ahead; exact inferInstance
/-- How many of the first k do. -/
def rank (l : List Int) (c : Nat) : Nat → Nat
  | 0 => 0
  | k + 1 => rank l c k + if Ahead l c k then 1 else 0

theorem rank_le (l : List Int) (c k : Nat) : rank l c k ≤ k := by
  induction k with
  | zero => exact Nat.le_refl _
  | succ k ih => unfold rank; split <;> omega
theorem rank_yes {l : List Int} {c k : Nat} (h : Ahead l c k) : rank l c (k + 1) = rank l c k + 1 := by rw [rank, if_pos h]
theorem rank_no {l : List Int} {c k : Nat} (h : ¬ Ahead l c k) : rank l c (k + 1) = rank l c k := by rw [rank, if_neg h, Nat.add_zero]
theorem rank_zero {l : List Int} {c k : Nat} (h : ∀ i, i < k → ¬ Ahead l c i) : rank l c k = 0 := by
  induction k with
  | zero => rfl
  | succ k ih => rw [rank_no (h k (by omega)), ih fun i hi => h i (by omega)]
theorem rank_grows {l : List Int} {c j : Nat} (k : Nat) (h : j ≤ k) : rank l c j ≤ rank l c k := by
  induction k with
  | zero => have : j = 0 := by omega
            subst this; exact Nat.le_refl _
  | succ k ih =>
    by_cases e : j = k + 1
    · subst e; exact Nat.le_refl _
    · have := ih (by omega)
      have e2 : rank l c (k + 1) = rank l c k + (if Ahead l c k then 1 else 0) := rfl
      omega
theorem rank_some {l : List Int} {c j k : Nat} (h : Ahead l c j) (hj : j < k) : rank l c j + 1 ≤ rank l c k := by
  have := rank_grows (l := l) (c := c) k (show j + 1 ≤ k by omega)
  rw [rank_yes h] at this; exact this
theorem rank_two {l : List Int} {c i j k : Nat} (h : Ahead l c i) (h' : Ahead l c j) (hi : i < k) (hj : j < k) (hne : i ≠ j) : 2 ≤ rank l c k := by
  rcases Nat.lt_or_gt_of_ne hne with o | o
  · have := rank_some h o; have := rank_some h' hj; omega
  · have := rank_some h' o; have := rank_some h hi; omega
theorem rank_one {l : List Int} {c a k : Nat} (h : Ahead l c a) (ha : a < k) (ho : ∀ i, i < k → i ≠ a → ¬ Ahead l c i) : rank l c k = 1 := by
  induction k with
  | zero => omega
  | succ k ih =>
    by_cases e : a = k
    · subst e
      rw [rank_yes h, rank_zero fun i hi => ho i (by omega) (by omega)]
    · rw [rank_no (ho k (by omega) (fun c => e c.symm)), ih (by omega) fun i hi hia => ho i (by omega) hia]

/-- The places of the ranks 0 and 1. -/
theorem rank_best {l : List Int} {n : Nat} (hn : l.length = n) (i : Nat) (hi : i < n) : rank l i n = 0 ↔ (i : Int) = best l := by
  subst hn
  obtain ⟨a, ha, e, h⟩ := best_at (l := l) (by omega)
  rw [e]
  constructor
  · intro h0
    by_cases c : i = a
    · rw [c]
    · have hA : Ahead l i a := by
        have := h i hi
        unfold Ahead
        rcases Nat.lt_or_gt_of_ne c with o | o
        · exact .inl (this.2 o)
        · by_cases q : l.getD i 0 < l.getD a 0
          · exact .inl q
          · exact .inr ⟨by have := this.1; omega, o⟩
      have := rank_some hA ha
      omega
  · intro hia
    have : i = a := by omega
    subst this
    refine rank_zero fun j hj hA => ?_
    have hj' := h j hj
    rcases hA with hA | ⟨hA, o⟩
    · have := hj'.1; omega
    · have := hj'.2 o; omega
theorem rank_second {l : List Int} {n : Nat} (hn : l.length = n) (i : Nat) (hi : i < n) : rank l i n = 1 ↔ (i : Int) = second l := by
  subst hn
  obtain ⟨a, ha, e, h⟩ := best_at (l := l) (by omega)
  have hA : ∀ k, k < l.length → k ≠ a → Ahead l k a := by
    intro k hk c
    have := h k hk
    unfold Ahead
    rcases Nat.lt_or_gt_of_ne c with o | o
    · exact .inl (this.2 o)
    · by_cases q : l.getD k 0 < l.getD a 0
      · exact .inl q
      · exact .inr ⟨by have := this.1; omega, o⟩
  by_cases h2 : 2 ≤ l.length
  · obtain ⟨b, hb, e2, hba, h'⟩ := second_at h2 e
    rw [e2]
    constructor
    · intro h1
      by_cases c : i = b
      · rw [c]
      · exfalso
        by_cases ca : i = a
        · have := (rank_best rfl i hi).2 (by rw [e, ca]); omega
        · have hB : Ahead l i b := by
            have := h' i hi ca
            unfold Ahead
            rcases Nat.lt_or_gt_of_ne c with o | o
            · exact .inl (this.2 o)
            · by_cases q : l.getD i 0 < l.getD b 0
              · exact .inl q
              · exact .inr ⟨by have := this.1; omega, o⟩
          have := rank_two (hA i hi ca) hB ha hb (fun c => hba c.symm)
          omega
    · intro hib
      have : i = b := by omega
      subst this
      refine rank_one (hA i hb hba) ha fun j hj hja hj' => ?_
      have hj2 := h' j hj hja
      rcases hj' with hj' | ⟨hj', o⟩
      · have := hj2.1; omega
      · have := hj2.2 o; omega
  · rw [second_none (by omega)]
    constructor
    · intro h1
      have : i = a := by omega
      have := (rank_best rfl i hi).2 (by rw [e, this]); omega
    · intro; omega

/-! ### The laws -/
theorem get_app1 {l : List Int} {x : Int} {i : Nat} (h : i < l.length) : (l ++ [x]).getD i 0 = l.getD i 0 := by
  rw [List.getD_eq_getElem?_getD, List.getD_eq_getElem?_getD, List.getElem?_append_left h]
theorem get_app2 {l : List Int} {x : Int} : (l ++ [x]).getD l.length 0 = x := by
  rw [List.getD_eq_getElem?_getD, List.getElem?_append_right (Nat.le_refl _), Nat.sub_self]; rfl

/-- One more that is not greater than the second one. -/
theorem more_same {l : List Int} (h : 2 ≤ l.length) {a b : Nat} (ha : best l = a) (hb : second l = b) (x : Int) (hx : x = l.getD b 0) : best (l ++ [x]) = a ∧ second (l ++ [x]) = b := by
  obtain ⟨a', hal, ha', h1⟩ := best_at (l := l) (by omega)
  obtain rfl : a' = a := by omega
  obtain ⟨b', hbl, hb', hne, h2⟩ := second_at h ha
  obtain rfl : b' = b := by omega
  have hl : (l ++ [x]).length = l.length + 1 := by simp
  have e1 : best (l ++ [x]) = a' := by
    have k := best_is (l ++ [x])
    rw [hl] at k
    refine k.eq ?_
    have h0 : Is (fun i => (l ++ [x]).getD i 0) (-1) l.length a' := by
      rw [← ha]; exact (best_is l).mono fun i hi => get_app1 hi
    refine h0.stay ?_
    show (l ++ [x]).getD l.length 0 ≤ (l ++ [x]).getD a' 0
    rw [get_app2, get_app1 hal, hx]
    exact (h1 b' hbl).1
  refine ⟨e1, ?_⟩
  have k := second_is (l ++ [x])
  rw [hl, e1] at k
  refine k.eq ?_
  have h0 : Is (fun i => (l ++ [x]).getD i 0) a' l.length b' := by
    rw [← ha, ← hb]; exact (second_is l).mono fun i hi => get_app1 hi
  refine h0.stay ?_
  show (l ++ [x]).getD l.length 0 ≤ (l ++ [x]).getD b' 0
  rw [get_app2, get_app1 hbl, hx]
  exact Int.le_refl _
/-- One more that is greater than all. -/
theorem more_top {l : List Int} (h : 1 ≤ l.length) {a : Nat} (ha : best l = a) (x : Int) (hx : x = l.getD a 0 + 1) : best (l ++ [x]) = l.length ∧ second (l ++ [x]) = a := by
  obtain ⟨a', hal, ha', h1⟩ := best_at (l := l) h
  obtain rfl : a' = a := by omega
  have hl : (l ++ [x]).length = l.length + 1 := by simp
  have e1 : best (l ++ [x]) = l.length := by
    have k := best_is (l ++ [x])
    rw [hl] at k
    refine k.eq ?_
    have h0 : Is (fun i => (l ++ [x]).getD i 0) (-1) l.length a' := by
      rw [← ha]; exact (best_is l).mono fun i hi => get_app1 hi
    refine h0.next (by omega) (.inr ⟨a', rfl, ?_⟩)
    show (l ++ [x]).getD a' 0 < (l ++ [x]).getD l.length 0
    rw [get_app2, get_app1 hal, hx]
    omega
  refine ⟨e1, ?_⟩
  have k := second_is (l ++ [x])
  rw [hl, e1] at k
  refine k.eq ?_
  refine .inr ⟨a', by omega, rfl, by omega, fun i hi hne => ?_⟩
  have hi' : i < l.length := by omega
  show (l ++ [x]).getD i 0 ≤ (l ++ [x]).getD a' 0 ∧ (i < a' → (l ++ [x]).getD i 0 < (l ++ [x]).getD a' 0)
  rw [get_app1 hi', get_app1 hal]
  exact h1 i hi'

/-- A number that is added to all. -/
theorem shift_get {l : List Int} {k : Int} {i : Nat} (h : i < l.length) : (l.map (· + k)).getD i 0 = l.getD i 0 + k := by
  rw [List.getD_eq_getElem?_getD, List.getD_eq_getElem?_getD, List.getElem?_map, List.getElem?_eq_getElem h]; rfl
theorem Is.shift {l : List Int} {but k : Int} {r : Int} (h : Is (fun i => l.getD i 0) but l.length r) : Is (fun i => (l.map (· + k)).getD i 0) but l.length r := by
  rcases h with h | ⟨j, hj, e, hb, h⟩
  · exact .inl h
  · refine .inr ⟨j, hj, e, hb, fun i hi hbi => ?_⟩
    show (l.map (· + k)).getD i 0 ≤ (l.map (· + k)).getD j 0 ∧ (i < j → (l.map (· + k)).getD i 0 < (l.map (· + k)).getD j 0)
    rw [shift_get hi, shift_get hj]
    have this : l.getD i 0 ≤ l.getD j 0 ∧ (i < j → l.getD i 0 < l.getD j 0) := h i hi hbi
    exact ⟨by have := this.1; omega, fun c => by have := this.2 c; omega⟩
theorem shift_best (l : List Int) (k : Int) : best (l.map (· + k)) = best l := by
  have h := best_is (l.map (· + k))
  rw [List.length_map] at h
  exact h.eq (best_is l).shift
theorem shift_second (l : List Int) (k : Int) : second (l.map (· + k)) = second l := by
  have h := second_is (l.map (· + k))
  rw [List.length_map, shift_best] at h
  exact h.eq (second_is l).shift

/-- Two rows, one behind the other. -/
theorem join {l m : List Int} (hl : 1 ≤ l.length) (hm : 1 ≤ m.length) {x y : Nat} (hx : best l = x) (hy : best m = y) :
    best (l ++ m) = if l.getD x 0 < m.getD y 0 then ((l.length + y : Nat) : Int) else x := by
  obtain ⟨x', hxl, hx', h1⟩ := best_at hl
  obtain rfl : x' = x := by omega
  obtain ⟨y', hyl, hy', h2⟩ := best_at hm
  obtain rfl : y' = y := by omega
  have k := best_is (l ++ m)
  rw [List.length_append] at k
  have g1 : ∀ i, i < l.length → (l ++ m).getD i 0 = l.getD i 0 := fun i hi => by
    rw [List.getD_eq_getElem?_getD, List.getD_eq_getElem?_getD, List.getElem?_append_left hi]
  have g2 : ∀ i, l.length ≤ i → (l ++ m).getD i 0 = m.getD (i - l.length) 0 := fun i hi => by
    rw [List.getD_eq_getElem?_getD, List.getD_eq_getElem?_getD, List.getElem?_append_right hi]
  refine k.eq ?_
  split
  case isTrue hlt =>
    refine .inr ⟨l.length + y', by omega, rfl, by omega, fun i hi _ => ?_⟩
    show (l ++ m).getD i 0 ≤ (l ++ m).getD (l.length + y') 0 ∧ (i < l.length + y' → (l ++ m).getD i 0 < (l ++ m).getD (l.length + y') 0)
    rw [g2 (l.length + y') (by omega), Nat.add_sub_cancel_left]
    by_cases c : i < l.length
    · rw [g1 i c]
      have := (h1 i c).1
      exact ⟨by omega, fun _ => by omega⟩
    · rw [g2 i (by omega)]
      have := h2 (i - l.length) (by omega)
      exact ⟨this.1, fun o => this.2 (by omega)⟩
  case isFalse hlt =>
    refine .inr ⟨x', by omega, rfl, by omega, fun i hi _ => ?_⟩
    show (l ++ m).getD i 0 ≤ (l ++ m).getD x' 0 ∧ (i < x' → (l ++ m).getD i 0 < (l ++ m).getD x' 0)
    rw [g1 x' hxl]
    by_cases c : i < l.length
    · rw [g1 i c]; exact h1 i c
    · rw [g2 i (by omega)]
      have := (h2 (i - l.length) (by omega)).1
      exact ⟨by omega, fun o => by omega⟩

end Go.Proofs.Ytpfhjdlmjehfnaa.Tx
