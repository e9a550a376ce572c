/- Windows as a number and a list (no program in sight): what is accepted, and what follows. -/
namespace Go.Proofs.Ytlfbponacoombaa

structure Win where
  low : Int
  seen : List Int

namespace Nx

def Right (w : Win) : Prop := 0 ≤ w.low ∧ w.low ≤ 2147483647 ∧ w.seen.length ≤ 32 ∧ (∀ x ∈ w.seen, w.low ≤ x ∧ x ≤ 2147483647) ∧ w.seen.Pairwise (· < ·)
/-- n is taken. -/
def Fresh (w : Win) (n : Int) : Prop := Right w ∧ w.low ≤ n ∧ n ≤ 2147483647 ∧ n ∉ w.seen
/-- At its place. -/
def ins (n : Int) : List Int → List Int
  | [] => [n]
  | x :: l => if n < x then n :: x :: l else x :: ins n l
/-- As long as Low is among them. -/
def run (low : Int) : List Int → Win
  | [] => ⟨low, []⟩
  | x :: l => if x = low then run (low + 1) l else ⟨low, x :: l⟩
/-- More than 32: the least is given up. -/
def cut (low : Int) (l : List Int) : Win := if l.length = 33 then ⟨l.headD 0 + 1, l.tail⟩ else ⟨low, l⟩
/-- With n among them. -/
def put (w : Win) (n : Int) : Win := run (cut w.low (ins n w.seen)).low (cut w.low (ins n w.seen)).seen
noncomputable def acc (w : Win) (n : Int) : Win := @ite _ (Fresh w n) (Classical.propDecidable _) (put w n) w
theorem acc_yes {w : Win} {n : Int} (h : Fresh w n) : acc w n = put w n := by unfold acc; rw [if_pos h]
theorem acc_no {w : Win} {n : Int} (h : ¬ Fresh w n) : acc w n = w := by unfold acc; rw [if_neg h]

/-! ### insertion -/
theorem ins_length (n : Int) (l : List Int) : (ins n l).length = l.length + 1 := by
  induction l with
  | nil => rfl
  | cons x l ih => unfold ins; split <;> simp [ih]
theorem ins_mem {n : Int} {l : List Int} {x : Int} : x ∈ ins n l ↔ x = n ∨ x ∈ l := by
  induction l with
  | nil => simp [ins]
  | cons y l ih =>
    unfold ins
    split
    · simp
    · rw [List.mem_cons, ih, List.mem_cons]
      constructor
      · rintro (h | h | h)
        · exact .inr (.inl h)
        · exact .inl h
        · exact .inr (.inr h)
      · rintro (h | h | h)
        · exact .inr (.inl h)
        · exact .inl h
        · exact .inr (.inr h)
theorem ins_sorted {n : Int} {l : List Int} (hl : l.Pairwise (· < ·)) (hn : n ∉ l) : (ins n l).Pairwise (· < ·) := by
  induction l with
  | nil => simp [ins]
  | cons y l ih =>
    obtain ⟨h1, h2⟩ := List.pairwise_cons.1 hl
    unfold ins
    split
    · rename_i hlt
      refine List.pairwise_cons.2 ⟨fun x hx => ?_, hl⟩
      rcases List.mem_cons.1 hx with rfl | hx
      · exact hlt
      · have := h1 x hx; omega
    · rename_i hlt
      refine List.pairwise_cons.2 ⟨fun x hx => ?_, ih h2 fun h => hn (List.mem_cons_of_mem _ h)⟩
      rcases ins_mem.1 hx with rfl | hx
      · have : x ≠ y := fun e => hn (e ▸ List.mem_cons_self)
        omega
      · exact h1 x hx
theorem ins_last {n : Int} {l : List Int} (h : ∀ x ∈ l, x ≤ n) : ins n l = l ++ [n] := by
  induction l with
  | nil => rfl
  | cons y l ih =>
    unfold ins
    rw [if_neg (by have := h y List.mem_cons_self; omega), ih fun x hx => h x (List.mem_cons_of_mem _ hx)]
    rfl
/-- Rising numbers from a on and below b are at most b - a. -/
theorem rising_length {l : List Int} {a b : Int} (hl : l.Pairwise (· < ·)) (h : ∀ x ∈ l, a ≤ x ∧ x < b) (hab : a ≤ b) : (l.length : Int) ≤ b - a := by
  induction l generalizing a with
  | nil => simp; omega
  | cons x l ih =>
    obtain ⟨h1, h2⟩ := List.pairwise_cons.1 hl
    have hx := h x List.mem_cons_self
    have := ih h2 (a := x + 1) (fun y hy => ⟨by have := h1 y hy; omega, (h y (List.mem_cons_of_mem _ hy)).2⟩) (by omega)
    simp only [List.length_cons]
    omega

/-! ### the run from Low on -/
theorem run_low (low : Int) (l : List Int) : low ≤ (run low l).low := by
  induction l generalizing low with
  | nil => exact Int.le_refl _
  | cons x l ih =>
    unfold run
    split
    · have := ih (low + 1); omega
    · exact Int.le_refl _
theorem run_cover {low : Int} {l : List Int} {x : Int} (h : x < low ∨ x ∈ l) : x < (run low l).low ∨ x ∈ (run low l).seen := by
  induction l generalizing low with
  | nil => rcases h with h | h
           · exact .inl h
           · cases h
  | cons y l ih =>
    unfold run
    split
    · rename_i e
      refine ih ?_
      rcases h with h | h
      · exact .inl (by omega)
      · rcases List.mem_cons.1 h with rfl | h
        · exact .inl (by omega)
        · exact .inr h
    · exact h
theorem run_seen {low : Int} {l : List Int} {x : Int} (h : x ∈ (run low l).seen) : x ∈ l := by
  induction l generalizing low with
  | nil => exact h
  | cons y l ih =>
    unfold run at h
    split at h
    · exact List.mem_cons_of_mem _ (ih h)
    · exact h
theorem run_length (low : Int) (l : List Int) : (run low l).seen.length ≤ l.length := by
  induction l generalizing low with
  | nil => exact Nat.le_refl _
  | cons y l ih =>
    unfold run
    split
    · have := ih (low + 1); simp only [List.length_cons]; omega
    · exact Nat.le_refl _
/-- What it is of rising numbers from Low on. -/
theorem run_right {low : Int} {l : List Int} (hl : l.Pairwise (· < ·)) (h : ∀ x ∈ l, low ≤ x) : (run low l).seen.Pairwise (· < ·) ∧ ∀ x ∈ (run low l).seen, (run low l).low < x := by
  induction l generalizing low with
  | nil => exact ⟨List.Pairwise.nil, fun x hx => by cases hx⟩
  | cons y l ih =>
    obtain ⟨h1, h2⟩ := List.pairwise_cons.1 hl
    unfold run
    split
    · rename_i e
      exact ih h2 fun x hx => by have := h1 x hx; omega
    · rename_i e
      refine ⟨hl, fun x hx => ?_⟩
      have hy := h y List.mem_cons_self
      rcases List.mem_cons.1 hx with rfl | hx
      · show low < x; omega
      · have := h1 x hx; show low < x; omega
theorem run_below {low B : Int} {l : List Int} (h : ∀ x ∈ l, x ≤ B) (hlow : low ≤ B + 1) : (run low l).low ≤ B + 1 := by
  induction l generalizing low with
  | nil => exact hlow
  | cons y l ih =>
    unfold run
    split
    · rename_i e
      have := h y List.mem_cons_self
      exact ih (fun x hx => h x (List.mem_cons_of_mem _ hx)) (by omega)
    · exact hlow
/-- What was not there is not passed over. -/
theorem run_stays {low : Int} {l : List Int} {x : Int} (hx : low ≤ x) (hn : x ∉ l) : (run low l).low ≤ x := by
  induction l generalizing low with
  | nil => exact hx
  | cons y l ih =>
    unfold run
    split
    · rename_i e
      have : x ≠ y := fun e => hn (e ▸ List.mem_cons_self)
      exact ih (by omega) fun h => hn (List.mem_cons_of_mem _ h)
    · exact hx

/-! ### a number that is taken -/
section
variable {w : Win} {n : Int}
theorem sorted (h : Fresh w n) : (ins n w.seen).Pairwise (· < ·) := ins_sorted h.1.2.2.2.2 h.2.2.2
theorem from_low (h : Fresh w n) : ∀ x ∈ ins n w.seen, w.low ≤ x := fun x hx => by
  rcases ins_mem.1 hx with rfl | hx
  · exact h.2.1
  · exact (h.1.2.2.2.1 x hx).1
/-- What is cut: rising, from its Low on, at most 32. -/
theorem cut_right (h : Fresh w n) : (cut w.low (ins n w.seen)).seen.Pairwise (· < ·) ∧ (∀ x ∈ (cut w.low (ins n w.seen)).seen, (cut w.low (ins n w.seen)).low ≤ x) ∧ (cut w.low (ins n w.seen)).seen.length ≤ 32 ∧ w.low ≤ (cut w.low (ins n w.seen)).low := by
  have hs := sorted h
  have hf := from_low h
  have hlen := ins_length n w.seen
  have h32 := h.1.2.2.1
  unfold cut
  split
  · rename_i e
    cases hl : ins n w.seen with
    | nil => rw [hl] at e; simp at e
    | cons x l =>
      rw [hl] at hs hf e
      obtain ⟨h1, h2⟩ := List.pairwise_cons.1 hs
      refine ⟨h2, fun y hy => ?_, by simp at e; simp [e], ?_⟩
      · have := h1 y hy; show x + 1 ≤ y; omega
      · have := hf x List.mem_cons_self; show w.low ≤ x + 1; omega
  · rename_i e
    exact ⟨hs, hf, by show (ins n w.seen).length ≤ 32; omega, Int.le_refl _⟩
theorem cut_cover {low : Int} {l : List Int} {x : Int} (hs : l.Pairwise (· < ·)) (hf : ∀ y ∈ l, low ≤ y) (h : x < low ∨ x ∈ l) : x < (cut low l).low ∨ x ∈ (cut low l).seen := by
  unfold cut
  split
  · rename_i e
    cases l with
    | nil => simp at e
    | cons y l =>
      have hy := hf y List.mem_cons_self
      rcases h with h | h
      · exact .inl (by show x < y + 1; omega)
      · rcases List.mem_cons.1 h with rfl | h
        · exact .inl (by show x < x + 1; omega)
        · exact .inr h
  · exact h
theorem cut_seen {low : Int} {l : List Int} {x : Int} (h : x ∈ (cut low l).seen) : x ∈ l := by
  unfold cut at h
  split at h
  · exact List.mem_of_mem_tail h
  · exact h
/-- What came is behind, or among them. -/
theorem put_cover (h : Fresh w n) {x : Int} (hx : x < w.low ∨ x ∈ w.seen ∨ x = n) : x < (put w n).low ∨ x ∈ (put w n).seen := by
  refine run_cover (cut_cover (sorted h) (from_low h) ?_)
  rcases hx with hx | hx | hx
  · exact .inl hx
  · exact .inr (ins_mem.2 (.inr hx))
  · exact .inr (ins_mem.2 (.inl hx))
theorem put_seen {x : Int} (hx : x ∈ (put w n).seen) : x = n ∨ x ∈ w.seen := ins_mem.1 (cut_seen (run_seen hx))
theorem put_low (h : Fresh w n) : w.low ≤ (put w n).low := Int.le_trans (cut_right h).2.2.2 (run_low _ _)
theorem cut_below {low B : Int} {l : List Int} (h : ∀ x ∈ l, x ≤ B) (hlow : low ≤ B + 1) : (cut low l).low ≤ B + 1 := by
  unfold cut
  split
  · rename_i e
    cases l with
    | nil => simp at e
    | cons y l => have := h y List.mem_cons_self; show y + 1 ≤ B + 1; omega
  · exact hlow
/-- It is right again, as long as no number is the greatest. -/
theorem put_right (h : Fresh w n) {B : Int} (hB : B < 2147483647) (hn : n ≤ B) (hw : ∀ x ∈ w.seen, x ≤ B) (hlow : w.low ≤ B + 1) : Right (put w n) ∧ (put w n).low ≤ B + 1 ∧ (∀ x ∈ (put w n).seen, x ≤ B) ∧ (put w n).low ∉ (put w n).seen := by
  obtain ⟨c1, c2, c3, c4⟩ := cut_right h
  have hall : ∀ x ∈ ins n w.seen, x ≤ B := fun x hx => by
    rcases ins_mem.1 hx with rfl | hx
    · exact hn
    · exact hw x hx
  have hcut : ∀ x ∈ (cut w.low (ins n w.seen)).seen, x ≤ B := fun x hx => hall x (cut_seen hx)
  have hb : (put w n).low ≤ B + 1 := run_below hcut (cut_below hall hlow)
  have hs : ∀ x ∈ (put w n).seen, x ≤ B := fun x hx => hcut x (run_seen hx)
  obtain ⟨r1, r2⟩ := run_right c1 c2
  refine ⟨⟨?_, by omega, ?_, fun x hx => ⟨?_, ?_⟩, r1⟩, hb, hs, fun hc => ?_⟩
  · have := put_low h; have := h.1.1; omega
  · exact Nat.le_trans (run_length _ _) c3
  · have := r2 x hx; exact Int.le_of_lt this
  · have := hs x hx; omega
  · have := r2 _ hc; exact absurd this (Int.lt_irrefl _)
end
/-- No number that came is fresh. -/
theorem came {w : Win} {n : Int} (h : n < w.low ∨ n ∈ w.seen) : ¬ Fresh w n := fun hf => by
  rcases h with h | h
  · have := hf.2.1; omega
  · exact hf.2.2.2 h

/-! ### in a row -/
def row (a : Int) (k : Nat) : List Int := (List.range k).map fun (i : Nat) => a + (i : Int)
theorem row_succ (a : Int) (k : Nat) : row a (k + 1) = row a k ++ [a + k] := by unfold row; rw [List.range_succ, List.map_append]; rfl
theorem row_cons (a : Int) (k : Nat) : row a (k + 1) = a :: row (a + 1) k := by
  unfold row
  rw [List.range_succ_eq_map, List.map_cons, List.map_map]
  congr 1
  · omega
  · apply List.map_congr_left
    intro i _
    show a + ((i + 1 : Nat) : Int) = a + 1 + (i : Int)
    omega
theorem row_mem {a : Int} {k : Nat} {x : Int} : x ∈ row a k ↔ a ≤ x ∧ x < a + k := by
  unfold row
  rw [List.mem_map]
  constructor
  · rintro ⟨i, hi, rfl⟩
    have := List.mem_range.1 hi
    omega
  · rintro ⟨h1, h2⟩
    exact ⟨(x - a).toNat, List.mem_range.2 (by omega), by omega⟩
theorem row_length (a : Int) (k : Nat) : (row a k).length = k := by unfold row; rw [List.length_map, List.length_range]
theorem row_sorted (a : Int) (k : Nat) : (row a k).Pairwise (· < ·) := by
  induction k generalizing a with
  | zero => exact List.Pairwise.nil
  | succ k ih =>
    rw [row_cons]
    exact List.pairwise_cons.2 ⟨fun x hx => by have := row_mem.1 hx; omega, ih _⟩
theorem run_row (a : Int) (k : Nat) : run a (row a k) = ⟨a + k, []⟩ := by
  induction k generalizing a with
  | zero => show (⟨a, []⟩ : Win) = ⟨a + ((0 : Nat) : Int), []⟩; rw [show a + ((0 : Nat) : Int) = a by omega]
  | succ k ih =>
    rw [row_cons]
    unfold run
    rw [if_pos rfl, ih, show a + 1 + (k : Int) = a + ((k + 1 : Nat) : Int) by omega]
theorem run_apart {a b : Int} {l : List Int} (h : b ≠ a) : run a (b :: l) = ⟨a, b :: l⟩ := by unfold run; rw [if_neg h]

/-- Behind a gap at g: the k numbers from g + 1 on. -/
def gap (g : Int) (k : Nat) : Win := if k ≤ 32 then ⟨g, row (g + 1) k⟩ else ⟨g + 1 + k, []⟩
theorem gap_right {g : Int} {k : Nat} (hg : 0 ≤ g ∧ g ≤ 1000) (hk : k ≤ 1000) : Right (gap g k) := by
  unfold gap
  split
  · rename_i h
    refine ⟨hg.1, by show g ≤ _; omega, by rw [row_length]; exact h, fun x hx => ?_, row_sorted _ _⟩
    have := row_mem.1 hx
    exact ⟨by show g ≤ x; omega, by omega⟩
  · refine ⟨by show 0 ≤ g + 1 + (k : Int); omega, by show g + 1 + (k : Int) ≤ _; omega, by simp, fun x hx => absurd hx (by simp), List.Pairwise.nil⟩
theorem gap_fresh {g : Int} {k : Nat} (hg : 0 ≤ g ∧ g ≤ 1000) (hk : k ≤ 1000) : Fresh (gap g k) (g + 1 + k) := by
  refine ⟨gap_right hg hk, ?_, by omega, ?_⟩
  · unfold gap; split
    · show g ≤ _; omega
    · exact Int.le_refl _
  · unfold gap; split
    · intro h; have := row_mem.1 h; omega
    · intro h; cases h
theorem gap_put {g : Int} {k : Nat} : put (gap g k) (g + 1 + k) = gap g (k + 1) := by
  unfold put gap
  by_cases h : k ≤ 32
  · rw [if_pos h]
    show run (cut g (ins (g + 1 + k) (row (g + 1) k))).low _ = _
    have e : ins (g + 1 + (k : Int)) (row (g + 1) k) = row (g + 1) (k + 1) := by
      rw [ins_last fun x hx => by have := row_mem.1 hx; omega, row_succ]
    rw [e]
    by_cases h2 : k + 1 ≤ 32
    · rw [if_pos h2]
      unfold cut
      rw [if_neg (by rw [row_length]; omega)]
      show run g (row (g + 1) (k + 1)) = _
      rw [row_cons]
      exact run_apart (by omega)
    · have hk : k = 32 := by omega
      subst hk
      rw [if_neg h2]
      unfold cut
      rw [if_pos (by rw [row_length])]
      rw [row_cons]
      show run (g + 1 + 1) (row (g + 1 + 1) 32) = _
      rw [run_row]
      show (⟨_, _⟩ : Win) = ⟨_, _⟩
      congr 1
      omega
  · rw [if_neg h, if_neg (by omega)]
    show run (cut (g + 1 + k) [g + 1 + (k : Int)]).low _ = _
    unfold cut
    rw [if_neg (by simp)]
    show run (g + 1 + (k : Int)) [g + 1 + (k : Int)] = _
    unfold run
    rw [if_pos rfl]
    show (⟨_, _⟩ : Win) = ⟨_, _⟩
    congr 1
    omega
/-- The one that was left out comes behind. -/
theorem gap_fill {g : Int} {k : Nat} (h : k ≤ 32) : put (gap g k) g = if k = 32 then ⟨g + 33, []⟩ else ⟨g + k + 1, []⟩ := by
  have e : ins g (row (g + 1) k) = row g (k + 1) := by
    rw [row_cons]
    cases k with
    | zero => rfl
    | succ k => rw [row_cons]; unfold ins; rw [if_pos (by omega)]
  unfold put gap
  rw [if_pos h]
  show run (cut g (ins g (row (g + 1) k))).low _ = _
  rw [e]
  by_cases h2 : k = 32
  · subst h2
    rw [if_pos rfl]
    unfold cut
    rw [if_pos (by rw [row_length]), row_cons]
    show run (g + 1) (row (g + 1) 32) = _
    rw [run_row]
    show (⟨_, _⟩ : Win) = ⟨_, _⟩
    congr 1
    omega
  · rw [if_neg h2]
    unfold cut
    rw [if_neg (by rw [row_length]; omega)]
    show run g (row g (k + 1)) = _
    rw [run_row]
    show (⟨_, _⟩ : Win) = ⟨_, _⟩
    congr 1
    omega
theorem gap_fill' {g : Int} {k : Nat} (h : k ≤ 32) : put (gap g k) g = ⟨g + k + 1, []⟩ := by
  rw [gap_fill h]
  split
  · rename_i e; subst e; show (⟨_, _⟩ : Win) = ⟨_, _⟩; congr 1; omega
  · rfl
theorem gap_own {g : Int} {k : Nat} (hg : 0 ≤ g ∧ g ≤ 1000) (h : k ≤ 32) : Fresh (gap g k) g := by
  refine ⟨gap_right hg (by omega), ?_, by omega, ?_⟩
  · unfold gap; rw [if_pos h]; exact Int.le_refl _
  · unfold gap; rw [if_pos h]; intro hm; have := row_mem.1 hm; omega
/-- All in order. -/
theorem in_order {n : Int} (h : 0 ≤ n ∧ n ≤ 1000000) : Fresh ⟨n, []⟩ n ∧ put ⟨n, []⟩ n = ⟨n + 1, []⟩ := by
  refine ⟨⟨⟨h.1, by show n ≤ _; omega, by simp, fun x hx => absurd hx (by simp), List.Pairwise.nil⟩, Int.le_refl _, by omega, by simp⟩, ?_⟩
  show run (cut n [n]).low (cut n [n]).seen = _
  unfold cut
  rw [if_neg (by simp)]
  show run n [n] = _
  unfold run
  rw [if_pos rfl]
  rfl

/-! ### numbers below 32, each once -/
/-- Of the numbers below 32 just those of S came, and none was given up. -/
def Came (S : Nat → Prop) (w : Win) : Prop := Right w ∧ w.low ≤ 32 ∧ (∀ x ∈ w.seen, x < 32) ∧ w.low ∉ w.seen ∧ ∀ n : Nat, n < 32 → (S n ↔ (n : Int) < w.low ∨ (n : Int) ∈ w.seen)
theorem came_none : Came (fun _ => False) ⟨0, []⟩ := by
  refine ⟨⟨by decide, by decide, by simp, fun x hx => absurd hx (by simp), List.Pairwise.nil⟩, by decide, fun x hx => absurd hx (by simp), by simp, fun n _ => ?_⟩
  constructor
  · exact fun h => h.elim
  · rintro (h | h)
    · have h' : (n : Int) < 0 := h; omega
    · exact absurd h (by simp)
theorem came_one {S : Nat → Prop} {w : Win} {n : Nat} (h : Came S w) (hn : n < 32) (hs : ¬ S n) : Fresh w n ∧ Came (fun m => S m ∨ m = n) (put w n) ∧ ¬ Fresh (put w n) n := by
  obtain ⟨hr, h32, hb, hl, hS⟩ := h
  have hno : ¬ ((n : Int) < w.low ∨ (n : Int) ∈ w.seen) := fun h => hs ((hS n hn).2 h)
  have hf : Fresh w n := ⟨hr, by omega, by omega, fun h => hno (.inr h)⟩
  have hlen := rising_length (sorted hf) (a := w.low) (b := 32) (fun x hx => ⟨from_low hf x hx, by
    rcases ins_mem.1 hx with rfl | hx
    · omega
    · exact hb x hx⟩) h32
  have hcut : cut w.low (ins n w.seen) = ⟨w.low, ins n w.seen⟩ := by unfold cut; rw [if_neg (by have := hr.1; omega)]
  have hput : put w n = run w.low (ins n w.seen) := by unfold put; rw [hcut]
  obtain ⟨p1, p2, p3, p4⟩ := put_right hf (B := 31) (by omega) (by omega) (fun x hx => by have := hb x hx; omega) (by omega)
  refine ⟨hf, ⟨p1, by omega, fun x hx => by have := p3 x hx; omega, p4, fun m hm => ⟨?_, ?_⟩⟩, came (put_cover hf (.inr (.inr rfl)))⟩
  · rintro (h | rfl)
    · rcases (hS m hm).1 h with h | h
      · exact put_cover hf (.inl h)
      · exact put_cover hf (.inr (.inl h))
    · exact put_cover hf (.inr (.inr rfl))
  · intro h
    have hx : (m : Int) < w.low ∨ (m : Int) ∈ ins n w.seen := by
      rw [hput] at h
      rcases h with h | h
      · by_cases h1 : (m : Int) < w.low
        · exact .inl h1
        · by_cases h2 : (m : Int) ∈ ins n w.seen
          · exact .inr h2
          · have := run_stays (low := w.low) (by omega) h2; omega
      · exact .inr (run_seen h)
    rcases hx with hx | hx
    · exact .inl ((hS m hm).2 (.inl hx))
    · rcases ins_mem.1 hx with e | hx
      · exact .inr (by omega)
      · exact .inl ((hS m hm).2 (.inr hx))
theorem came_all {S : Nat → Prop} {w : Win} (h : Came S w) (hs : ∀ n, n < 32 → S n) : w.low = 32 ∧ w.seen = [] := by
  obtain ⟨hr, h32, hb, hl, hS⟩ := h
  have h0 := hr.1
  have hlow : w.low = 32 := by
    rcases Int.lt_or_le w.low 32 with h | h
    · exfalso
      have hn : ((w.low.toNat : Nat) : Int) = w.low := by omega
      rcases (hS w.low.toNat (by omega)).1 (hs _ (by omega)) with h | h
      · omega
      · rw [hn] at h; exact hl h
    · omega
  refine ⟨hlow, ?_⟩
  cases hse : w.seen with
  | nil => rfl
  | cons x l =>
    have h1 : x ∈ w.seen := by rw [hse]; exact List.mem_cons_self
    have := hb x h1
    have := (hr.2.2.2.1 x h1).1
    omega

/-- The i-th number, from f on, by an odd step. -/
def turn (f s i : Nat) : Nat := (f + i * (2 * s + 1)) % 32
theorem turn_lt (f s i : Nat) : turn f s i < 32 := Nat.mod_lt _ (by omega)
set_option maxRecDepth 100000 in
theorem odd_all : ∀ r, r < 16 → ∀ d, d < 32 → ∃ i, i < 32 ∧ (i * (2 * r + 1)) % 32 = d := by decide
set_option maxRecDepth 100000 in
theorem odd_once : ∀ r, r < 16 → ∀ d, d < 32 → (d * (2 * r + 1)) % 32 = 0 → d = 0 := by decide
theorem odd_mod (s i : Nat) : (i * (2 * s + 1)) % 32 = (i * (2 * (s % 16) + 1)) % 32 := by
  rw [Nat.mul_mod i (2 * s + 1), Nat.mul_mod i (2 * (s % 16) + 1), show (2 * s + 1) % 32 = (2 * (s % 16) + 1) % 32 by omega]
theorem turn_all (f s t : Nat) (ht : t < 32) : ∃ i, i < 32 ∧ turn f s i = t := by
  obtain ⟨i, hi, h⟩ := odd_all (s % 16) (by omega) ((t + 32 - f % 32) % 32) (by omega)
  refine ⟨i, hi, ?_⟩
  have h2 := odd_mod s i
  unfold turn
  rw [h] at h2
  generalize i * (2 * s + 1) = X at *
  omega
theorem turn_once {f s i j : Nat} (hi : i < j) (hj : j < 32) : turn f s i ≠ turn f s j := by
  intro h
  unfold turn at h
  have h1 : ((j - i) * (2 * s + 1)) % 32 = 0 := by
    rw [Nat.sub_mul]
    have hle : i * (2 * s + 1) ≤ j * (2 * s + 1) := Nat.mul_le_mul_right _ (by omega)
    generalize i * (2 * s + 1) = X at *
    generalize j * (2 * s + 1) = Y at *
    omega
  rw [odd_mod] at h1
  have := odd_once (s % 16) (by omega) (j - i) (by omega) h1
  omega
theorem turn_next (f s i : Nat) : (turn f s i + 2 * s + 1) % 32 = turn f s (i + 1) := by
  unfold turn
  rw [Nat.add_mul, Nat.one_mul]
  generalize i * (2 * s + 1) = X
  omega

end Nx

end Go.Proofs.Ytlfbponacoombaa
