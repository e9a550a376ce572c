/- 14 texts as one, in their order: Fx, Vx, Vy, Mx, Ex, Tx, Sx, Gx, Fl, Md, Me, Mo, Pl, Pm. -/
import Derived.Test.YtokfcjgfpchffaaGreatDoorKa
import Derived.Laws.OwnMore

/- Plain arithmetic of numbers with 16 bits behind the point (no program in sight): what Hold, Add, Sub and Mul are as functions on integers, their bounds, and the laws that the statements of layer 1 rest on. -/
namespace Go.Proofs.YtokfcjgfpchffaaGreatDoor.Fx

def hold (n : Int) : Int := if 2147483647 < n then 2147483647 else if n < -2147483647 then -2147483647 else n
def add (a b : Int) : Int := hold (hold a + hold b)
def mul (a b : Int) : Int := hold ((hold a * hold b).tdiv 65536)

theorem hold_lo (n : Int) : -2147483647 ≤ hold n := by unfold hold; split <;> (try split) <;> omega
theorem hold_hi (n : Int) : hold n ≤ 2147483647 := by unfold hold; split <;> (try split) <;> omega
theorem hold_id {n : Int} (h1 : -2147483647 ≤ n) (h2 : n ≤ 2147483647) : hold n = n := by unfold hold; split <;> (try split) <;> omega
theorem hold_big {n : Int} (h : 2147483647 < n) : hold n = 2147483647 := by unfold hold; rw [if_pos h]
theorem hold_small {n : Int} (h : n < -2147483647) : hold n = -2147483647 := by unfold hold; rw [if_neg (by omega), if_pos h]
theorem hold_hold (n : Int) : hold (hold n) = hold n := hold_id (hold_lo n) (hold_hi n)
theorem hold_neg (n : Int) : hold (-n) = -hold n := by unfold hold; split <;> split <;> (try split) <;> (try split) <;> omega
theorem add_lo (a b : Int) : -2147483647 ≤ add a b := hold_lo _
theorem add_hi (a b : Int) : add a b ≤ 2147483647 := hold_hi _
theorem mul_lo (a b : Int) : -2147483647 ≤ mul a b := hold_lo _
theorem mul_hi (a b : Int) : mul a b ≤ 2147483647 := hold_hi _

theorem abs_prod (x y : Int) (hx1 : -2147483647 ≤ x) (hx2 : x ≤ 2147483647) (hy1 : -2147483647 ≤ y) (hy2 : y ≤ 2147483647) :
    -4611686014132420609 ≤ x * y ∧ x * y ≤ 4611686014132420609 := by
  have hx : x.natAbs ≤ 2147483647 := by omega
  have hy : y.natAbs ≤ 2147483647 := by omega
  have h : (x * y).natAbs ≤ 2147483647 * 2147483647 := by rw [Int.natAbs_mul]; exact Nat.mul_le_mul hx hy
  omega
theorem prod_bd (a b : Int) : -4611686014132420609 ≤ hold a * hold b ∧ hold a * hold b ≤ 4611686014132420609 :=
  abs_prod _ _ (hold_lo a) (hold_hi a) (hold_lo b) (hold_hi b)

theorem tdiv_bd {x : Int} (h1 : -4611686014132420609 ≤ x) (h2 : x ≤ 4611686014132420609) : -4611686014132420609 ≤ x.tdiv 65536 ∧ x.tdiv 65536 ≤ 4611686014132420609 := by
  by_cases h : 0 ≤ x
  · rw [Int.tdiv_eq_ediv_of_nonneg h]; omega
  · have e : x = -(-x) := by omega
    rw [e, Int.neg_tdiv, Int.tdiv_eq_ediv_of_nonneg (by omega)]; omega
theorem mul_nn (a b : Int) : hold ((-hold a * -hold b).tdiv 65536) = mul a b := by
  unfold mul; rw [Int.neg_mul_neg]
theorem mul_np (a b : Int) : hold (-(-hold a * hold b).tdiv 65536) = mul a b := by
  unfold mul; rw [Int.neg_mul, Int.neg_tdiv, Int.neg_neg]
theorem mul_pn (a b : Int) : hold (-(hold a * -hold b).tdiv 65536) = mul a b := by
  unfold mul; rw [Int.mul_neg, Int.neg_tdiv, Int.neg_neg]

theorem add_comm (a b : Int) : add a b = add b a := by unfold add; rw [Int.add_comm]
theorem mul_comm (a b : Int) : mul a b = mul b a := by unfold mul; rw [Int.mul_comm]
theorem mul_one (a : Int) : mul a 65536 = hold a := by
  unfold mul
  rw [show hold 65536 = 65536 from rfl, Int.mul_tdiv_cancel _ (by omega), hold_hold]
theorem mul_neg (a b : Int) : mul (-hold a) b = -mul a b := by
  unfold mul
  rw [hold_neg, hold_hold, Int.neg_mul, Int.neg_tdiv, hold_neg]
theorem mul_zero (a : Int) : mul a 0 = 0 := by
  unfold mul
  rw [show hold 0 = 0 from rfl, Int.mul_zero]; rfl

end Go.Proofs.YtokfcjgfpchffaaGreatDoor.Fx

/- Rows of numbers as lists (no program in sight): what Dot, Add, Scale and Relu are as functions on lists of integers, one number more at a time, and the laws that the statements of layer 2 rest on. -/
namespace Go.Proofs.YtokfcjgfpchffaaGreatDoor.Vx
open Go.Proofs.YtokfcjgfpchffaaGreatDoor

def dotFrom (s : Int) : List Int → List Int → Int
  | x :: a, y :: b => dotFrom (Fx.add s (Fx.mul x y)) a b
  | _, _ => s
def dot (a b : List Int) : Int := dotFrom 0 a b
def add (a b : List Int) : List Int := List.zipWith Fx.add a b
def scale (a : List Int) (k : Int) : List Int := a.map fun n => Fx.mul n k
def rel (n : Int) : Int := if Fx.hold n < 0 then 0 else Fx.hold n
def relu (a : List Int) : List Int := a.map rel

theorem dotFrom_snoc (s : Int) (a b : List Int) (x y : Int) (h : a.length = b.length) : dotFrom s (a ++ [x]) (b ++ [y]) = Fx.add (dotFrom s a b) (Fx.mul x y) := by
  induction a generalizing s b with
  | nil => cases b with
    | nil => rfl
    | cons _ _ => simp at h
  | cons z a ih => cases b with
    | nil => simp at h
    | cons u b => exact ih _ b (by simpa using h)
theorem dot_succ (a b : List Int) (k : Nat) (ha : k < a.length) (hb : k < b.length) : dot (a.take (k + 1)) (b.take (k + 1)) = Fx.add (dot (a.take k) (b.take k)) (Fx.mul (a.getD k 0) (b.getD k 0)) := by
  rw [take_snoc a k ha, take_snoc b k hb]
  exact dotFrom_snoc 0 _ _ _ _ (by simp; omega)
theorem dotFrom_held (s : Int) (a b : List Int) (h1 : -2147483647 ≤ s) (h2 : s ≤ 2147483647) : -2147483647 ≤ dotFrom s a b ∧ dotFrom s a b ≤ 2147483647 := by
  induction a generalizing s b with
  | nil => exact ⟨h1, h2⟩
  | cons z a ih => cases b with
    | nil => exact ⟨h1, h2⟩
    | cons u b => exact ih _ b (Fx.add_lo _ _) (Fx.add_hi _ _)
theorem dot_lo (a b : List Int) : -2147483647 ≤ dot a b := (dotFrom_held 0 a b (by omega) (by omega)).1
theorem dot_hi (a b : List Int) : dot a b ≤ 2147483647 := (dotFrom_held 0 a b (by omega) (by omega)).2
/-- The document's step: the sum of a held number and a product, held. -/
theorem hold_step (a b : List Int) (x y : Int) : Fx.hold (dot a b + Fx.mul x y) = Fx.add (dot a b) (Fx.mul x y) := by
  unfold Fx.add
  rw [Fx.hold_id (dot_lo a b) (dot_hi a b), Fx.hold_id (Fx.mul_lo x y) (Fx.mul_hi x y)]
theorem dotFrom_comm (s : Int) (a b : List Int) : dotFrom s a b = dotFrom s b a := by
  induction a generalizing s b with
  | nil => cases b <;> rfl
  | cons z a ih => cases b with
    | nil => rfl
    | cons u b => show dotFrom (Fx.add s (Fx.mul z u)) a b = dotFrom (Fx.add s (Fx.mul u z)) b a; rw [Fx.mul_comm z u]; exact ih _ b
theorem add_comm (a b : List Int) : add a b = add b a := List.zipWith_comm_of_comm Fx.add_comm
theorem add_length (a b : List Int) (h : a.length = b.length) : (add a b).length = a.length := by simp [add]; omega
theorem add_succ (a b : List Int) (k : Nat) (ha : k < a.length) (hb : k < b.length) : add (a.take (k + 1)) (b.take (k + 1)) = add (a.take k) (b.take k) ++ [Fx.add (a.getD k 0) (b.getD k 0)] := by
  rw [take_snoc a k ha, take_snoc b k hb]
  unfold add
  rw [List.zipWith_append (by simp; omega)]
  rfl
theorem scale_succ (a : List Int) (c : Int) (k : Nat) (ha : k < a.length) : scale (a.take (k + 1)) c = scale (a.take k) c ++ [Fx.mul (a.getD k 0) c] := by
  rw [take_snoc a k ha]; simp [scale]
theorem relu_succ (a : List Int) (k : Nat) (ha : k < a.length) : relu (a.take (k + 1)) = relu (a.take k) ++ [rel (a.getD k 0)] := by
  rw [take_snoc a k ha]; simp [relu]
theorem scale_length (a : List Int) (c : Int) : (scale a c).length = a.length := by simp [scale]
theorem relu_length (a : List Int) : (relu a).length = a.length := by simp [relu]

end Go.Proofs.YtokfcjgfpchffaaGreatDoor.Vx

/- Laws on rows of numbers as lists (no program in sight) that the statements of layer 2 rest on: noughts, One, and rows put together. -/
namespace Go.Proofs.YtokfcjgfpchffaaGreatDoor.Vx
open Go.Proofs.YtokfcjgfpchffaaGreatDoor

theorem dotFrom_zeros (s : Int) (a : List Int) (h1 : -2147483647 ≤ s) (h2 : s ≤ 2147483647) : dotFrom s a (List.replicate a.length 0) = s := by
  induction a generalizing s with
  | nil => rfl
  | cons x a ih =>
    show dotFrom (Fx.add s (Fx.mul x 0)) a (List.replicate a.length 0) = s
    have e : Fx.add s (Fx.mul x 0) = s := by
      rw [Fx.mul_zero]; unfold Fx.add
      rw [show Fx.hold 0 = 0 from rfl, Int.add_zero, Fx.hold_hold, Fx.hold_id h1 h2]
    rw [e]; exact ih s h1 h2
end Go.Proofs.YtokfcjgfpchffaaGreatDoor.Vx

/- Rows of rows of numbers as lists (no program in sight): what Small, Right and Apply are as functions on lists, and the laws that the statements of layer 3 rest on. -/
namespace Go.Proofs.YtokfcjgfpchffaaGreatDoor.Mx
open Go.Proofs.YtokfcjgfpchffaaGreatDoor

def In (l : List Int) : Prop := ∀ n ∈ l, Fx.hold n = n
def Right (m : List (List Int)) (rows columns : Int) : Prop := (m.length : Int) = rows ∧ ∀ l ∈ m, (l.length : Int) = columns ∧ In l
def Fits (m : List (List Int)) (n : Nat) : Prop := ∀ l ∈ m, l.length = n
def app (m : List (List Int)) (v : List Int) : List Int := m.map fun l => Vx.dot l v

theorem app_length (m : List (List Int)) (v : List Int) : (app m v).length = m.length := by simp [app]
theorem take_row (m : List (List Int)) (j : Nat) (h : j < m.length) : m.take (j + 1) = m.take j ++ [m.getD j []] := by
  rw [List.take_succ_eq_append_getElem h, List.getD_eq_getElem?_getD, List.getElem?_eq_getElem h]; rfl
theorem app_succ (m : List (List Int)) (v : List Int) (k : Nat) (h : k < m.length) : app (m.take (k + 1)) v = app (m.take k) v ++ [Vx.dot (m.getD k []) v] := by
  rw [take_row m k h]; simp [app]
theorem getD_mem (m : List (List Int)) (k : Nat) (h : k < m.length) : m.getD k [] ∈ m := by
  rw [List.getD_eq_getElem?_getD, List.getElem?_eq_getElem h]; exact List.getElem_mem h
theorem num_mem (l : List Int) (k : Nat) (h : k < l.length) : l.getD k 0 ∈ l := by
  rw [List.getD_eq_getElem?_getD, List.getElem?_eq_getElem h]; exact List.getElem_mem h
/-- One more. -/
theorem all_succ {α : Type} {P : α → Prop} {m : List α} {k : Nat} {d : α} (h : k < m.length) (h1 : ∀ x ∈ m.take k, P x) (h2 : P (m.getD k d)) : ∀ x ∈ m.take (k + 1), P x := by
  intro x hx
  rw [List.take_succ_eq_append_getElem h] at hx
  rcases List.mem_append.1 hx with hx | hx
  · exact h1 x hx
  · have e : x = m[k] := by simpa using hx
    rw [List.getD_eq_getElem?_getD, List.getElem?_eq_getElem h] at h2
    subst e; exact h2
theorem all_full {α : Type} {P : α → Prop} {m : List α} {k : Nat} (h : m.length ≤ k) (h1 : ∀ x ∈ m.take k, P x) : ∀ x ∈ m, P x := by
  rwa [List.take_of_length_le h] at h1
theorem all_zero {α : Type} {P : α → Prop} {m : List α} : ∀ x ∈ m.take 0, P x := by simp
end Go.Proofs.YtokfcjgfpchffaaGreatDoor.Mx

/- Experts as lists of rows (no program in sight): what Right and Run are as functions on lists, and the laws that the statements of layer 11 rest on. -/
namespace Go.Proofs.YtokfcjgfpchffaaGreatDoor.Ex
open Go.Proofs.YtokfcjgfpchffaaGreatDoor

def Right (mi mo : List (List Int)) (dim : Int) : Prop := (1 ≤ dim ∧ dim ≤ 8) ∧ (1 ≤ mi.length ∧ mi.length ≤ 8) ∧ Mx.Right mi mi.length dim ∧ Mx.Right mo dim mi.length
def run (mi mo : List (List Int)) (v : List Int) : List Int := Mx.app mo (Vx.relu (Mx.app mi v))
/-- No more than can be walked. -/
def Sized (m : List (List Int)) : Prop := m.length ≤ 100000 ∧ ∀ l ∈ m, l.length ≤ 100000

section
variable {mi mo : List (List Int)} {n : Nat}
theorem Right.fitsIn (h : Right mi mo n) : Mx.Fits mi n := fun l hl => by have := (h.2.2.1.2 l hl).1; omega
theorem Right.fitsOut (h : Right mi mo n) : Mx.Fits mo mi.length := fun l hl => by have := (h.2.2.2.2 l hl).1; omega
theorem Right.len (h : Right mi mo n) : mo.length = n := by have := h.2.2.2.1; omega
theorem Right.pos (h : Right mi mo n) : 1 ≤ n ∧ n ≤ 8 := by have := h.1; omega
theorem run_length (v : List Int) (h : Right mi mo n) : (run mi mo v).length = n := by unfold run; rw [Mx.app_length]; exact h.len
/-- For one number of numbers alone. -/
theorem Right.other (h : Right mi mo n) {k : Int} (hk : k ≠ n) : ¬ Right mi mo k := fun g => by
  have := g.2.2.2.1; have := h.2.2.2.1; omega
theorem app_held (m : List (List Int)) (v : List Int) : ∀ x ∈ Mx.app m v, x ≤ 2147483647 ∧ -2147483647 ≤ x := by
  intro x hx
  obtain ⟨l, _, rfl⟩ := List.mem_map.1 hx
  exact ⟨Vx.dot_hi l v, Vx.dot_lo l v⟩
theorem run_held (mi mo : List (List Int)) (v : List Int) : ∀ x ∈ run mi mo v, x ≤ 2147483647 ∧ -2147483647 ≤ x := app_held _ _

/-- Out's first row as noughts. -/
theorem in_zeros (k : Nat) : Mx.In (List.replicate k 0) := fun x hx => by rw [List.eq_of_mem_replicate hx]; rfl
theorem Right.none (h : Right mi mo n) : Right mi (mo.set 0 (List.replicate mi.length 0)) n := by
  refine ⟨h.1, h.2.1, h.2.2.1, by rw [List.length_set]; exact h.2.2.2.1, fun l hl => ?_⟩
  rcases List.mem_or_eq_of_mem_set hl with hl | rfl
  · exact h.2.2.2.2 l hl
  · exact ⟨by simp, in_zeros _⟩
end

end Go.Proofs.YtokfcjgfpchffaaGreatDoor.Ex

/- The greatest of numbers, and the greatest of the others, as functions on lists (no program in sight), and the laws that the statements of layer 4 rest on. -/
namespace Go.Proofs.YtokfcjgfpchffaaGreatDoor.Tx
open Go.Proofs.YtokfcjgfpchffaaGreatDoor

/-- The place of the first greatest one of the first k numbers, but for one place; -1: there is none. -/
def pick (l : List Int) (but : Int) : Nat → Int
  | 0 => -1
  | k + 1 => if (k : Int) ≠ but ∧ (pick l but k = -1 ∨ l.getD (pick l but k).toNat 0 < l.getD k 0) then (k : Int) else pick l but k

/-- What that is, by its property alone. -/
def Is (g : Nat → Int) (but : Int) (k : Nat) (r : Int) : Prop :=
  (r = -1 ∧ ∀ i : Nat, i < k → (i : Int) = but) ∨ ∃ j : Nat, j < k ∧ r = j ∧ (j : Int) ≠ but ∧ ∀ i : Nat, i < k → (i : Int) ≠ but → g i ≤ g j ∧ (i < j → g i < g j)

theorem Is.eq {g : Nat → Int} {but : Int} {k : Nat} {r s : Int} (h : Is g but k r) (h' : Is g but k s) : r = s := by
  rcases h with ⟨rfl, h⟩ | ⟨j, hj, rfl, hb, h⟩
  · rcases h' with ⟨rfl, _⟩ | ⟨j', hj', rfl, hb', _⟩
    · rfl
    · exact absurd (h j' hj') hb'
  · rcases h' with ⟨rfl, h'⟩ | ⟨j', hj', rfl, hb', h'⟩
    · exact absurd (h' j hj) hb
    · have h1 := h j' hj' hb'
      have h2 := h' j hj hb
      have : j = j' := by
        rcases Nat.lt_trichotomy j j' with c | c | c
        · have := h2.2 c; have := h1.1; omega
        · exact c
        · have := h1.2 c; have := h2.1; omega
      rw [this]

theorem Is.mono {g g' : Nat → Int} {but : Int} {k : Nat} {r : Int} (h : Is g but k r) (hg : ∀ i : Nat, i < k → g' i = g i) : Is g' but k r := by
  rcases h with h | ⟨j, hj, rfl, hb, h⟩
  · exact .inl h
  · refine .inr ⟨j, hj, rfl, hb, fun i hi hbi => ?_⟩
    rw [hg i hi, hg j hj]; exact h i hi hbi

/-- One number more. -/
theorem Is.skip {g : Nat → Int} {but : Int} {k : Nat} {r : Int} (h : Is g but k r) (hb : (k : Int) = but) : Is g but (k + 1) r := by
  rcases h with ⟨rfl, h⟩ | ⟨j, hj, rfl, hbj, h⟩
  · refine .inl ⟨rfl, fun i hi => ?_⟩
    by_cases c : i < k
    · exact h i c
    · have : i = k := by omega
      rw [this]; exact hb
  · refine .inr ⟨j, by omega, rfl, hbj, fun i hi hbi => ?_⟩
    by_cases c : i < k
    · exact h i c hbi
    · have : i = k := by omega
      rw [this] at hbi; exact absurd hb hbi
theorem Is.stay {g : Nat → Int} {but : Int} {k j : Nat} (h : Is g but k j) (hl : g k ≤ g j) : Is g but (k + 1) j := by
  rcases h with ⟨h, _⟩ | ⟨j', hj, e, hbj, h⟩
  · omega
  · have : j = j' := by omega
    subst this
    refine .inr ⟨j, by omega, rfl, hbj, fun i hi hbi => ?_⟩
    by_cases c : i < k
    · exact h i c hbi
    · have : i = k := by omega
      subst this; exact ⟨hl, fun c => by omega⟩
theorem Is.next {g : Nat → Int} {but : Int} {k : Nat} {r : Int} (h : Is g but k r) (hb : (k : Int) ≠ but) (hl : r = -1 ∨ ∃ j : Nat, r = j ∧ g j < g k) : Is g but (k + 1) k := by
  refine .inr ⟨k, by omega, rfl, hb, fun i hi hbi => ?_⟩
  by_cases c : i < k
  · rcases h with ⟨_, h⟩ | ⟨j, hj, rfl, _, h⟩
    · exact absurd (h i c) hbi
    · rcases hl with hl | ⟨j', e, hl⟩
      · omega
      · have : j = j' := by omega
        subst this
        have := (h i c hbi).1
        exact ⟨by omega, fun _ => by omega⟩
  · have : i = k := by omega
    subst this; exact ⟨Int.le_refl _, fun c => by omega⟩

theorem pick_is (l : List Int) (but : Int) (k : Nat) : Is (fun i => l.getD i 0) but k (pick l but k) := by
  induction k with
  | zero => exact .inl ⟨rfl, fun i hi => by omega⟩
  | succ k ih =>
    have hc : pick l but k = -1 ∨ ∃ j : Nat, pick l but k = j := by
      rcases ih with ⟨h, _⟩ | ⟨j, _, h, _⟩
      · exact .inl h
      · exact .inr ⟨j, h⟩
    unfold pick
    by_cases hb : (k : Int) = but
    · rw [if_neg (fun h => h.1 hb)]; exact ih.skip hb
    · rcases hc with hm | ⟨j, hj⟩
      · rw [if_pos ⟨hb, .inl hm⟩]; exact ih.next hb (.inl hm)
      · by_cases hl : l.getD j 0 < l.getD k 0
        · rw [if_pos ⟨hb, .inr (by rw [hj]; exact hl)⟩]; exact ih.next hb (.inr ⟨j, hj, hl⟩)
        · rw [if_neg (fun h => by
            rcases h.2 with h | h
            · omega
            · rw [hj] at h; exact hl h), hj]
          rw [hj] at ih
          exact ih.stay (by omega)

/-- As the loop takes it. -/
theorem pick_but {l : List Int} {but : Int} {k : Nat} (h : (k : Int) = but) : pick l but (k + 1) = pick l but k := by
  rw [pick, if_neg (fun c => c.1 h)]
theorem pick_one {l : List Int} {but : Int} {k : Nat} (h : (k : Int) ≠ but) (hm : pick l but k = -1) : pick l but (k + 1) = k := by
  rw [pick, if_pos ⟨h, .inl hm⟩]
theorem pick_more {l : List Int} {but : Int} {k j : Nat} (h : (k : Int) ≠ but) (hj : pick l but k = j) (hl : l.getD j 0 < l.getD k 0) : pick l but (k + 1) = k := by
  rw [pick, if_pos ⟨h, .inr (by rw [hj]; exact hl)⟩]
theorem pick_stay {l : List Int} {but : Int} {k j : Nat} (hj : pick l but k = j) (hl : ¬ l.getD j 0 < l.getD k 0) : pick l but (k + 1) = pick l but k := by
  rw [pick, if_neg]
  intro h
  rcases h.2 with h | h
  · omega
  · rw [hj] at h; exact hl h
theorem pick_or (l : List Int) (but : Int) (k : Nat) : pick l but k = -1 ∨ ∃ j : Nat, j < k ∧ pick l but k = j := by
  rcases pick_is l but k with ⟨h, _⟩ | ⟨j, hj, h, _⟩
  · exact .inl h
  · exact .inr ⟨j, hj, h⟩

/-- The greatest one's place, and the greatest other one's. -/
def best (l : List Int) : Int := pick l (-1) l.length
def second (l : List Int) : Int := pick l (best l) l.length

theorem best_is (l : List Int) : Is (fun i => l.getD i 0) (-1) l.length (best l) := pick_is _ _ _
theorem second_is (l : List Int) : Is (fun i => l.getD i 0) (best l) l.length (second l) := pick_is _ _ _

theorem best_at {l : List Int} (h : 1 ≤ l.length) : ∃ j : Nat, j < l.length ∧ best l = j ∧ ∀ i : Nat, i < l.length → l.getD i 0 ≤ l.getD j 0 ∧ (i < j → l.getD i 0 < l.getD j 0) := by
  rcases best_is l with ⟨_, h0⟩ | ⟨j, hj, e, _, h1⟩
  · have := h0 0 (by omega); omega
  · exact ⟨j, hj, e, fun i hi => h1 i hi (by omega)⟩
theorem second_at {l : List Int} (h : 2 ≤ l.length) {a : Nat} (ha : best l = a) : ∃ j : Nat, j < l.length ∧ second l = j ∧ j ≠ a ∧ ∀ i : Nat, i < l.length → i ≠ a → l.getD i 0 ≤ l.getD j 0 ∧ (i < j → l.getD i 0 < l.getD j 0) := by
  have hs := second_is l
  rw [ha] at hs
  rcases hs with ⟨_, h0⟩ | ⟨j, hj, e, hb, h1⟩
  · have := h0 0 (by omega); have := h0 1 (by omega); omega
  · exact ⟨j, hj, e, fun c => hb (by rw [c]), fun i hi hia => h1 i hi (by omega)⟩
theorem best_one {l : List Int} (h : l.length = 1) : best l = 0 := by
  obtain ⟨j, hj, e, _⟩ := best_at (l := l) (by omega)
  rw [e]; omega
theorem second_none {l : List Int} (h : l.length < 2) : second l = -1 := by
  rcases second_is l with ⟨e, _⟩ | ⟨j, hj, e, hb, _⟩
  · exact e
  · have := best_one (l := l) (by omega); omega

/-! ### The document's -/
/-- Whether what stands at i stands ahead of what stands at c. -/
def Ahead (l : List Int) (c i : Nat) : Prop := l.getD c 0 < l.getD i 0 ∨ (l.getD i 0 = l.getD c 0 ∧ i < c)
instance (l : List Int) (c i : Nat) : Decidable (Ahead l c i) := by unfold Ahead; exact inferInstance
/-- How many of the first k do. -/
def rank (l : List Int) (c : Nat) : Nat → Nat
  | 0 => 0
  | k + 1 => rank l c k + if Ahead l c k then 1 else 0

theorem rank_le (l : List Int) (c k : Nat) : rank l c k ≤ k := by
  induction k with
  | zero => exact Nat.le_refl _
  | succ k ih => unfold rank; split <;> omega
theorem rank_yes {l : List Int} {c k : Nat} (h : Ahead l c k) : rank l c (k + 1) = rank l c k + 1 := by rw [rank, if_pos h]
theorem rank_no {l : List Int} {c k : Nat} (h : ¬ Ahead l c k) : rank l c (k + 1) = rank l c k := by rw [rank, if_neg h, Nat.add_zero]
theorem rank_zero {l : List Int} {c k : Nat} (h : ∀ i, i < k → ¬ Ahead l c i) : rank l c k = 0 := by
  induction k with
  | zero => rfl
  | succ k ih => rw [rank_no (h k (by omega)), ih fun i hi => h i (by omega)]
theorem rank_grows {l : List Int} {c j : Nat} (k : Nat) (h : j ≤ k) : rank l c j ≤ rank l c k := by
  induction k with
  | zero => have : j = 0 := by omega
            subst this; exact Nat.le_refl _
  | succ k ih =>
    by_cases e : j = k + 1
    · subst e; exact Nat.le_refl _
    · have := ih (by omega)
      have e2 : rank l c (k + 1) = rank l c k + (if Ahead l c k then 1 else 0) := rfl
      omega
theorem rank_some {l : List Int} {c j k : Nat} (h : Ahead l c j) (hj : j < k) : rank l c j + 1 ≤ rank l c k := by
  have := rank_grows (l := l) (c := c) k (show j + 1 ≤ k by omega)
  rw [rank_yes h] at this; exact this
theorem rank_two {l : List Int} {c i j k : Nat} (h : Ahead l c i) (h' : Ahead l c j) (hi : i < k) (hj : j < k) (hne : i ≠ j) : 2 ≤ rank l c k := by
  rcases Nat.lt_or_gt_of_ne hne with o | o
  · have := rank_some h o; have := rank_some h' hj; omega
  · have := rank_some h' o; have := rank_some h hi; omega
theorem rank_one {l : List Int} {c a k : Nat} (h : Ahead l c a) (ha : a < k) (ho : ∀ i, i < k → i ≠ a → ¬ Ahead l c i) : rank l c k = 1 := by
  induction k with
  | zero => omega
  | succ k ih =>
    by_cases e : a = k
    · subst e
      rw [rank_yes h, rank_zero fun i hi => ho i (by omega) (by omega)]
    · rw [rank_no (ho k (by omega) (fun c => e c.symm)), ih (by omega) fun i hi hia => ho i (by omega) hia]

/-- The places of the ranks 0 and 1. -/
theorem rank_best {l : List Int} {n : Nat} (hn : l.length = n) (i : Nat) (hi : i < n) : rank l i n = 0 ↔ (i : Int) = best l := by
  subst hn
  obtain ⟨a, ha, e, h⟩ := best_at (l := l) (by omega)
  rw [e]
  constructor
  · intro h0
    by_cases c : i = a
    · rw [c]
    · have hA : Ahead l i a := by
        have := h i hi
        unfold Ahead
        rcases Nat.lt_or_gt_of_ne c with o | o
        · exact .inl (this.2 o)
        · by_cases q : l.getD i 0 < l.getD a 0
          · exact .inl q
          · exact .inr ⟨by have := this.1; omega, o⟩
      have := rank_some hA ha
      omega
  · intro hia
    have : i = a := by omega
    subst this
    refine rank_zero fun j hj hA => ?_
    have hj' := h j hj
    rcases hA with hA | ⟨hA, o⟩
    · have := hj'.1; omega
    · have := hj'.2 o; omega
theorem rank_second {l : List Int} {n : Nat} (hn : l.length = n) (i : Nat) (hi : i < n) : rank l i n = 1 ↔ (i : Int) = second l := by
  subst hn
  obtain ⟨a, ha, e, h⟩ := best_at (l := l) (by omega)
  have hA : ∀ k, k < l.length → k ≠ a → Ahead l k a := by
    intro k hk c
    have := h k hk
    unfold Ahead
    rcases Nat.lt_or_gt_of_ne c with o | o
    · exact .inl (this.2 o)
    · by_cases q : l.getD k 0 < l.getD a 0
      · exact .inl q
      · exact .inr ⟨by have := this.1; omega, o⟩
  by_cases h2 : 2 ≤ l.length
  · obtain ⟨b, hb, e2, hba, h'⟩ := second_at h2 e
    rw [e2]
    constructor
    · intro h1
      by_cases c : i = b
      · rw [c]
      · exfalso
        by_cases ca : i = a
        · have := (rank_best rfl i hi).2 (by rw [e, ca]); omega
        · have hB : Ahead l i b := by
            have := h' i hi ca
            unfold Ahead
            rcases Nat.lt_or_gt_of_ne c with o | o
            · exact .inl (this.2 o)
            · by_cases q : l.getD i 0 < l.getD b 0
              · exact .inl q
              · exact .inr ⟨by have := this.1; omega, o⟩
          have := rank_two (hA i hi ca) hB ha hb (fun c => hba c.symm)
          omega
    · intro hib
      have : i = b := by omega
      subst this
      refine rank_one (hA i hb hba) ha fun j hj hja hj' => ?_
      have hj2 := h' j hj hja
      rcases hj' with hj' | ⟨hj', o⟩
      · have := hj2.1; omega
      · have := hj2.2 o; omega
  · rw [second_none (by omega)]
    constructor
    · intro h1
      have : i = a := by omega
      have := (rank_best rfl i hi).2 (by rw [e, this]); omega
    · intro; omega

/-! ### The laws -/
end Go.Proofs.YtokfcjgfpchffaaGreatDoor.Tx

/- Two shares of One, as plain integers (no program in sight): what a number counts, its share, and what follows of it. -/
namespace Go.Proofs.YtokfcjgfpchffaaGreatDoor.Sx

def part (n : Int) : Int := if n < 0 then 1 else if 2147483647 < n then 2147483648 else n + 1
def share (a b : Int) : Int := part a * 65536 / (part a + part b)

theorem part_neg {n : Int} (h : n < 0) : part n = 1 := by unfold part; rw [if_pos h]
theorem part_big {n : Int} (h : 2147483647 < n) : part n = 2147483648 := by unfold part; rw [if_neg (by omega), if_pos h]
theorem part_mid {n : Int} (h : 0 ≤ n) (g : n ≤ 2147483647) : part n = n + 1 := by unfold part; rw [if_neg (by omega), if_neg (by omega)]
theorem part_lo (n : Int) : 1 ≤ part n := by unfold part; split <;> (try split) <;> omega
theorem part_hi (n : Int) : part n ≤ 2147483648 := by unfold part; split <;> (try split) <;> omega
theorem part_mono {a b : Int} (h : a ≤ b) : part a ≤ part b := by unfold part; split <;> split <;> (try split) <;> (try split) <;> omega

theorem share_tdiv (a b : Int) : (part a * 65536).tdiv (part a + part b) = share a b := by
  have := part_lo a
  exact Int.tdiv_eq_ediv_of_nonneg (by omega)

/-- As often as it is told x + y is in x times One, and once more it is not. -/
theorem share_le (a b : Int) : share a b * (part a + part b) ≤ part a * 65536 :=
  Int.ediv_mul_le _ (by have := part_lo a; have := part_lo b; omega)
theorem le_share {a b q : Int} (h : q * (part a + part b) ≤ part a * 65536) : q ≤ share a b :=
  Int.le_ediv_of_mul_le (by have := part_lo a; have := part_lo b; omega) h
theorem share_lo (a b : Int) : 0 ≤ share a b := le_share (by have := part_lo a; omega)
theorem share_hi (a b : Int) : share a b ≤ 65536 := by
  have hs := part_lo a; have ht := part_lo b
  refine Int.le_of_lt_add_one (Int.lt_of_mul_lt_mul_right (a := part a + part b) ?_ (by omega))
  have := share_le a b
  omega

/-- The quotient, told by what is left. -/
theorem share_eq {a b q left : Int} (h : q * (part a + part b) + left = part a * 65536) (h0 : 0 ≤ left) (h1 : left < part a + part b) : q = share a b := by
  have hs := part_lo a; have ht := part_lo b
  refine Int.le_antisymm (le_share (by omega)) (Int.le_of_lt_add_one (Int.lt_of_mul_lt_mul_right (a := part a + part b) ?_ (by omega)))
  have := share_le a b
  rw [Int.add_mul]
  omega

theorem share_half {a b : Int} (h : part b ≤ part a) : 32768 ≤ share a b := le_share (by omega)
theorem share_same {a b u v : Int} (hu : part u = part a) (hv : part v = part b) : share u v = share a b := by unfold share; rw [hu, hv]

/-- What the stage's theorem asks of one pair: M and m the greater and the less one, u and v both where what is below 0 is 0. -/
theorem fair {a b M m u v : Int} (hm : part m ≤ part M) (hu : part u = part a) (hv : part v = part b) :
    65536 - share M m ≤ share M m ∧ (share a b == share u v) = true ∧ (65536 - share a b == 65536 - share u v) = true ∧ (share M m + (65536 - share M m) == 65536) = true := by
  have h1 := share_half hm
  rw [share_same hu hv]
  refine ⟨by omega, by simp, by simp, by simp; omega⟩

theorem step_no {x s q l : Int} {k : Nat} (h : q * s + l = x * 2 ^ k) : 2 * q * s + 2 * l = x * 2 ^ (k + 1) := by
  rw [Int.pow_succ, ← Int.mul_assoc x, ← h, Int.mul_assoc]; omega
theorem step_yes {x s q l : Int} {k : Nat} (h : q * s + l = x * 2 ^ k) : (2 * q + 1) * s + (2 * l - s) = x * 2 ^ (k + 1) := by
  rw [← step_no h, Int.add_mul]; omega
theorem pow_hi {k : Nat} (h : k ≤ 16) : (2 : Int) ^ k ≤ 65536 := by
  have g : (2 : Nat) ^ k ≤ 2 ^ 16 := Nat.pow_le_pow_right (by omega) h
  have e : ((2 ^ k : Nat) : Int) = (2 : Int) ^ k := Int.natCast_pow 2 k
  rw [← e]
  have g2 : (2 : Nat) ^ k ≤ 65536 := g
  exact Int.ofNat_le.mpr g2

end Go.Proofs.YtokfcjgfpchffaaGreatDoor.Sx

/- Who works on a token, on lists (no program in sight): what Choose answers, and the laws that the statements of layer 13 rest on. -/
namespace Go.Proofs.YtokfcjgfpchffaaGreatDoor.Gx
open Go.Proofs.YtokfcjgfpchffaaGreatDoor

/-- The first one's share, of scores. -/
def part (s : List Int) : Int := if Tx.second s < 0 then 65536 else Sx.share (s.getD (Tx.best s).toNat 0) (s.getD (Tx.second s).toNat 0)
/-- What Choose answers: First, Second, W1, W2, and whether there is a choice. -/
def Is (m : List (List Int)) (v : List Int) (p q r t : Int) (b : Bool) : Prop :=
  (b = false ∧ ¬ (Mx.Fits m v.length ∧ m ≠ []) ∧ p = 0 ∧ q = 0 ∧ r = 0 ∧ t = 0) ∨
  (b = true ∧ Mx.Fits m v.length ∧ m ≠ [] ∧ p = Tx.best (Mx.app m v) ∧ q = Tx.second (Mx.app m v) ∧ r = part (Mx.app m v) ∧ t = 65536 - part (Mx.app m v))

theorem there (m : List (List Int)) (v : List Int) : ∃ p q r t b, Is m v p q r t b := by
  by_cases h : Mx.Fits m v.length ∧ m ≠ []
  · exact ⟨_, _, _, _, true, .inr ⟨rfl, h.1, h.2, rfl, rfl, rfl, rfl⟩⟩
  · exact ⟨0, 0, 0, 0, false, .inl ⟨rfl, h, rfl, rfl, rfl, rfl⟩⟩
theorem Is.no {m : List (List Int)} {v : List Int} {p q r t : Int} (h : Is m v p q r t false) : ¬ (Mx.Fits m v.length ∧ m ≠ []) ∧ p = 0 ∧ q = 0 ∧ r = 0 ∧ t = 0 := by
  rcases h with h | ⟨h, _⟩
  · exact h.2
  · cases h
theorem Is.yes {m : List (List Int)} {v : List Int} {p q r t : Int} (h : Is m v p q r t true) : Mx.Fits m v.length ∧ m ≠ [] ∧ p = Tx.best (Mx.app m v) ∧ q = Tx.second (Mx.app m v) ∧ r = part (Mx.app m v) ∧ t = 65536 - part (Mx.app m v) := by
  rcases h with ⟨h, _⟩ | h
  · cases h
  · exact h.2

/-- One row alone. -/
theorem part_one {s : List Int} (h : s.length = 1) : part s = 65536 := by
  unfold part
  rw [Tx.second_none (by omega), if_pos (by decide)]
theorem part_two {s : List Int} {i j : Nat} (hi : Tx.best s = i) (hj : Tx.second s = j) : part s = Sx.share (s.getD i 0) (s.getD j 0) := by
  unfold part
  rw [hi, hj, if_neg (by omega)]
  simp

/-- What the two ways of a choice that there is are. -/
theorem Is.form {m : List (List Int)} {v : List Int} {p q r t : Int} (h : Is m v p q r t true) :
    (m.length = 1 ∧ p = 0 ∧ q = -1 ∧ r = 65536 ∧ t = 0) ∨
    (2 ≤ m.length ∧ ∃ i j : Nat, i < m.length ∧ j < m.length ∧ i ≠ j ∧ p = i ∧ q = j ∧ Tx.best (Mx.app m v) = i ∧ Tx.second (Mx.app m v) = j ∧ (Mx.app m v).getD j 0 ≤ (Mx.app m v).getD i 0 ∧ r = Sx.share ((Mx.app m v).getD i 0) ((Mx.app m v).getD j 0) ∧ t = 65536 - r) := by
  obtain ⟨_, hne, hp, hq, hr, ht⟩ := h.yes
  have hl := Mx.app_length m v
  have hpos : 1 ≤ m.length := by
    rcases Nat.eq_zero_or_pos m.length with h0 | h0
    · exact absurd (List.eq_nil_of_length_eq_zero h0) hne
    · exact h0
  by_cases h1 : m.length = 1
  · left
    rw [Tx.best_one (by omega)] at hp
    rw [Tx.second_none (by omega)] at hq
    rw [part_one (by omega)] at hr ht
    exact ⟨h1, hp, hq, hr, by omega⟩
  · right
    obtain ⟨i, hi, ei, hgi⟩ := Tx.best_at (l := Mx.app m v) (by omega)
    obtain ⟨j, hj, ej, hne', hgj⟩ := Tx.second_at (l := Mx.app m v) (by omega) ei
    rw [part_two ei ej] at hr ht
    exact ⟨by omega, i, j, by omega, by omega, fun c => hne' c.symm, by rw [hp, ei], by rw [hq, ej], ei, ej, (hgi j hj).1, hr, by rw [ht, hr]⟩

/-- Shares are One together; the first one's is not less. -/
theorem Is.fair {m : List (List Int)} {v : List Int} {p q r t : Int} (h : Is m v p q r t true) :
    r + t = 65536 ∧ t ≤ r ∧ 0 ≤ t ∧ 0 ≤ p ∧ p < m.length ∧ q < m.length ∧ p ≠ q ∧ -1 ≤ q ∧ (0 ≤ q ↔ 1 < m.length) ∧ t ≤ 65536 := by
  rcases h.form with ⟨h1, hp, hq, hr, ht⟩ | ⟨h2, i, j, hi, hj, hne, hp, hq, _, _, hle, hr, ht⟩
  · omega
  · have h3 := Sx.share_half (Sx.part_mono hle)
    have h4 := Sx.share_hi ((Mx.app m v).getD i 0) ((Mx.app m v).getD j 0)
    have h5 := Sx.share_lo ((Mx.app m v).getD i 0) ((Mx.app m v).getD j 0)
    rw [← hr] at h3 h4 h5
    omega

/-! ### Rows twice as long, by noughts -/
def wide (m : List (List Int)) (n : Nat) : List (List Int) := m.map fun l => l ++ List.replicate n 0
theorem wide_fits (m : List (List Int)) (n : Nat) : Mx.Fits (wide m n) (n + n) ↔ Mx.Fits m n := by
  constructor
  · intro h l hl
    have := h (l ++ List.replicate n 0) (List.mem_map.2 ⟨l, hl, rfl⟩)
    rw [List.length_append, List.length_replicate] at this
    omega
  · intro h l hl
    obtain ⟨l', hl', rfl⟩ := List.mem_map.1 hl
    have := h l' hl'
    rw [List.length_append, List.length_replicate]
    omega
theorem dotFrom_append (s : Int) (a b c d : List Int) (h : a.length = b.length) : Vx.dotFrom s (a ++ c) (b ++ d) = Vx.dotFrom (Vx.dotFrom s a b) c d := by
  induction a generalizing s b with
  | nil => cases b with
    | nil => rfl
    | cons _ _ => simp at h
  | cons z a ih => cases b with
    | nil => simp at h
    | cons u b => exact ih _ b (by simpa using h)
theorem dot_wide (l v : List Int) (h : l.length = v.length) : Vx.dot (l ++ List.replicate v.length 0) (v ++ v) = Vx.dot l v := by
  unfold Vx.dot
  rw [dotFrom_append 0 _ _ _ _ h, Vx.dotFrom_comm]
  exact Vx.dotFrom_zeros _ v (Vx.dot_lo l v) (Vx.dot_hi l v)
theorem app_wide (m : List (List Int)) (v : List Int) (h : Mx.Fits m v.length) : Mx.app (wide m v.length) (v ++ v) = Mx.app m v := by
  unfold Mx.app wide
  rw [List.map_map]
  exact List.map_congr_left fun l hl => dot_wide l v (h l hl)
theorem Is.wide {m : List (List Int)} {v : List Int} {p q r t : Int} {b : Bool} (h : Is m v p q r t b) : Is (wide m v.length) (v ++ v) p q r t b := by
  have hl : (v ++ v).length = v.length + v.length := List.length_append
  have hn : Gx.wide m v.length ≠ [] ↔ m ≠ [] := by unfold Gx.wide; simp
  rcases h with ⟨h1, h2, h3⟩ | ⟨h1, h2, h3, h4⟩
  · refine .inl ⟨h1, fun hc => h2 ?_, h3⟩
    rw [hl, wide_fits, hn] at hc
    exact hc
  · refine .inr ⟨h1, by rw [hl, wide_fits]; exact h2, hn.2 h3, ?_⟩
    rw [app_wide m v h2]
    exact h4

/-! ### One row, and two that are the same -/
end Go.Proofs.YtokfcjgfpchffaaGreatDoor.Gx

/- Pairs of numbers in memory, as one row of numbers, and slots on lists (no program in sight). -/
namespace Go.Proofs.YtokfcjgfpchffaaGreatDoor
open Go.ChangeShapes Go.WideShapes Go.ChangeAt Go.RowKit

/-! ### Pairs in memory -/
abbrev Pr := Int × Int × Unit
abbrev prS : Shape Pr := consS (intS .i64) (consS (intS .i64) noneS)
abbrev prsS : Shape (List Pr) := sliceS prS

/-- 'a' leads in w to n pairs, the numbers l one behind the other (where n is 0: to whatever). -/
def Flat (w : World) (a : Option Addr) (n : Nat) (l : List Int) : Prop :=
  l.length = n * 2 ∧ (n = 0 ∨ ∃ b off, a = some ⟨b, off, none⟩ ∧ b < w.heap.size ∧ ∀ i, i < n * 2 → w.cell? ⟨b, off + i, none⟩ = some (.int .i64 (l.getD i 0)))
section
variable {w w' : World} {a : Option Addr} {n : Nat} {l : List Int}
theorem Flat.len (h : Flat w a n l) : l.length = n * 2 := h.1
theorem Flat.keep (h : Flat w a n l) (hb : Below w.heap.size w w') : Flat w' a n l := by
  refine ⟨h.1, ?_⟩
  rcases h.2 with h0 | ⟨b, off, ha, hlt, hc⟩
  · exact .inl h0
  · exact .inr ⟨b, off, ha, Nat.lt_of_lt_of_le hlt hb.size, fun i hi => (hb.cell (by exact hlt)).trans (hc i hi)⟩
/-- Pair j. -/
theorem Flat.at (h : Flat w a n l) {j : Nat} (hj : j < n) : ∃ b off, a = some ⟨b, off, none⟩ ∧ b < w.heap.size ∧ w.cell? ⟨b, off + j * 2, none⟩ = some (.int .i64 (l.getD (j * 2) 0)) ∧ w.cell? ⟨b, off + j * 2 + 1, none⟩ = some (.int .i64 (l.getD (j * 2 + 1) 0)) := by
  rcases h.2 with h0 | ⟨b, off, ha, hlt, hc⟩
  · omega
  · exact ⟨b, off, ha, hlt, hc (j * 2) (by omega), by have := hc (j * 2 + 1) (by omega); rwa [← Nat.add_assoc] at this⟩
/-- Number k of pair j. -/
theorem Flat.one (h : Flat w a n l) {j k : Nat} (hj : j < n) (hk : k < 2) : ∃ b off, a = some ⟨b, off, none⟩ ∧ b < w.heap.size ∧ w.cell? ⟨b, off + j * 2 + k, none⟩ = some (.int .i64 (l.getD (j * 2 + k) 0)) := by
  rcases h.2 with h0 | ⟨b, off, ha, hlt, hc⟩
  · omega
  · exact ⟨b, off, ha, hlt, by have := hc (j * 2 + k) (by omega); rwa [← Nat.add_assoc] at this⟩
/-- 's[:k]' -/
theorem Flat.take (h : Flat w a n l) {k : Nat} (hk : k ≤ n) : Flat w a k (l.take (k * 2)) := by
  refine ⟨by rw [List.length_take, h.1]; omega, ?_⟩
  rcases h.2 with h0 | ⟨b, off, ha, hlt, hc⟩
  · exact .inl (by omega)
  · refine .inr ⟨b, off, ha, hlt, fun i hi => ?_⟩
    rw [hc i (by omega), List.getD_eq_getElem?_getD, List.getD_eq_getElem?_getD, List.getElem?_take, if_pos hi]
/-- Out of one block. -/
theorem Flat.of_block {g : Nat} {e : TypeId} {cur : Array Value} (hl : l.length = n * 2) (hg : w.heap[g]? = some (.cells cur e (0, 0))) (hc : cur.toList = l.map (Value.int .i64)) : Flat w (some ⟨g, 0, none⟩) n l := by
  refine ⟨hl, .inr ⟨g, 0, rfl, (Array.getElem?_eq_some_iff.1 hg).1, fun j hj => ?_⟩⟩
  rw [cell_of_row w g (0 + j) cur e (0, 0) hg]
  have hlj : l[j]? = some (l.getD j 0) := by rw [List.getD_eq_getElem?_getD, List.getElem?_eq_getElem (by omega)]; rfl
  have : cur.toList[j]? = some (.int .i64 (l.getD j 0)) := by rw [hc, List.getElem?_map, hlj]; rfl
  simpa using this
/-- Out of pairs that the call owns. -/
theorem Flat.of_owns {base g c : Nat} {e : TypeId} (h : w.ownsRow base e 2 (.slice (some ⟨g, 0, none⟩) n c) n (l.map (Value.int .i64))) : Flat w (some ⟨g, 0, none⟩) n l := by
  have hl : l.length = n * 2 := by simpa using h.1
  refine ⟨hl, .inr ⟨g, 0, rfl, (h.lt g rfl).2, fun j hj => ?_⟩⟩
  rw [h.cellAt (0 + j) (by omega), Nat.zero_add, List.getElem?_map, List.getD_eq_getElem?_getD, List.getElem?_eq_getElem (by omega)]
  rfl
end

/-- Pairs as one row. -/
def flat (m : List Pr) : List Int := m.flatMap fun x => [x.1, x.2.1]
theorem flat_length (m : List Pr) : (flat m).length = m.length * 2 := by
  induction m with
  | nil => rfl
  | cons x m ih => show (x.1 :: x.2.1 :: flat m).length = _; simp only [List.length_cons, ih]; omega
theorem pr_is {w : World} {F : Nat → Prop} {cs : List Value} {x : Pr} (h : prS.rep w F cs x) : cs = [.int .i64 x.1, .int .i64 x.2.1] := by
  obtain ⟨d, rfl, h2⟩ := consS_int h
  obtain ⟨d', rfl, h3⟩ := consS_int h2
  rw [noneS_nil h3]
theorem prs_flat {w : World} {F : Nat → Prop} {css : List (List Value)} {m : List Pr} (h : prS.all w F css m) : css.flatten = (flat m).map (Value.int .i64) := by
  induction m generalizing css with
  | nil => have := List.eq_nil_of_length_eq_zero h.1; subst this; rfl
  | cons x m ih =>
    match css, h with
    | [], h => exact absurd h.1 (by simp)
    | c :: css, h =>
      have h1 := pr_is (h.2 0 c x rfl rfl)
      have h2 := ih (css := css) ⟨by simpa using h.1, fun j d y hd hy => h.2 (j + 1) d y (by simpa using hd) (by simpa using hy)⟩
      rw [List.flatten_cons, h1, h2]
      rfl
theorem Flat.of_rep {w : World} {F : Nat → Prop} {a : Option Addr} {n c : Nat} {m : List Pr} (h : prsS.rep w F [.slice a n c] m) : Flat w a n (flat m) := by
  obtain ⟨a', c', css, he, h1, h2, hall, hcell⟩ := h
  simp at he
  obtain ⟨rfl, rfl, rfl⟩ := he
  refine ⟨flat_length m, ?_⟩
  rw [prs_flat hall] at hcell
  rcases hcell with h0 | ⟨b, off, ha, _, hb, hc⟩
  · left
    have := flat_length m
    have h3 : (flat m).length = 0 := by
      have h4 := congrArg List.length h0
      rw [List.length_map] at h4
      exact h4
    omega
  · refine .inr ⟨b, off, ha, hb, fun i hi => hc i _ ?_⟩
    rw [List.getElem?_map, List.getD_eq_getElem?_getD, List.getElem?_eq_getElem (by rw [flat_length]; exact hi)]
    rfl
theorem made_pairs (n : Nat) : (madeCells #[.int .i64 0, .int .i64 0] (n * 2)).toList = (List.replicate (n * 2) (0 : Int)).map (Value.int .i64) := by
  apply List.ext_getElem?
  intro i
  by_cases hi : i < n * 2
  · have h3 : (madeCells #[.int .i64 0, .int .i64 0] (n * 2)).toList[i]? = some (#[Value.int .i64 0, .int .i64 0][i % 2]!) := by simp [madeCells, hi]
    rw [h3]
    rcases (by omega : i % 2 = 0 ∨ i % 2 = 1) with h | h <;> simp [h, hi]
  · rw [List.getElem?_eq_none (by rw [Array.length_toList, size_madeCells]; omega), List.getElem?_eq_none (by simp; omega)]

/-! ### Slots on lists -/
namespace Sl
theorem num_mem {l : List Int} {i : Nat} (h : i < l.length) : l.getD i 0 ∈ l := by rw [List.getD_eq_getElem?_getD, List.getElem?_eq_getElem h]; exact List.getElem_mem h
/-- How many of the first i numbers are x. -/
def cnt (l : List Int) (x : Int) (i : Nat) : Nat := (l.take i).count x
theorem cnt_zero (l : List Int) (x : Int) : cnt l x 0 = 0 := by simp [cnt]
theorem cnt_step {l : List Int} (x : Int) {i : Nat} (h : i < l.length) : cnt l x (i + 1) = cnt l x i + (if l.getD i 0 = x then 1 else 0) := by
  unfold cnt
  rw [take_snoc l i h, List.count_append]
  by_cases e : l.getD i 0 = x
  · rw [if_pos e, e]; simp
  · rw [if_neg e, List.count_cons_of_ne e]; simp
theorem cnt_yes {l : List Int} {x : Int} {i : Nat} (h : i < l.length) (e : l.getD i 0 = x) : cnt l x (i + 1) = cnt l x i + 1 := by rw [cnt_step x h, if_pos e]
theorem cnt_no {l : List Int} {x : Int} {i : Nat} (h : i < l.length) (e : l.getD i 0 ≠ x) : cnt l x (i + 1) = cnt l x i := by rw [cnt_step x h, if_neg e]; rfl
theorem cnt_le (l : List Int) (x : Int) (i : Nat) : cnt l x i ≤ i := by
  unfold cnt
  have h1 := List.count_le_length (a := x) (l := l.take i)
  rw [List.length_take] at h1
  omega
/-- The slot of part i, or -1. -/
def slot (l : List Int) (E C : Int) (i : Nat) : Int := if 0 ≤ l.getD i 0 ∧ l.getD i 0 < E ∧ (cnt l (l.getD i 0) i : Int) < C then (cnt l (l.getD i 0) i : Int) else -1
/-- Those of the first i parts. -/
def upto (l : List Int) (E C : Int) (i : Nat) : List Int := (List.range i).map (slot l E C)
/-- All. -/
def slots (l : List Int) (E C : Int) : List Int := upto l E C l.length
theorem upto_len (l : List Int) (E C : Int) (i : Nat) : (upto l E C i).length = i := by simp [upto]
theorem upto_succ (l : List Int) (E C : Int) (i : Nat) : upto l E C (i + 1) = upto l E C i ++ [slot l E C i] := by simp [upto, List.range_succ]
theorem slots_at {l : List Int} (E C : Int) {i : Nat} (h : i < l.length) : (slots l E C).getD i 0 = slot l E C i := by
  unfold slots upto
  rw [List.getD_eq_getElem?_getD, List.getElem?_map, List.getElem?_range h]
  rfl

/-- What is given to x by the first i parts. -/
def giv (l : List Int) (E C : Int) (i : Nat) (x : Int) : Int := if 0 ≤ x ∧ x < E then min (cnt l x i : Int) (max C 0) else 0
theorem giv_zero (l : List Int) (E C x : Int) : giv l E C 0 x = 0 := by
  unfold giv
  split
  · rw [cnt_zero]; omega
  · rfl
theorem giv_le (l : List Int) (E C x : Int) (i : Nat) : 0 ≤ giv l E C i x ∧ giv l E C i x ≤ i := by
  unfold giv
  have := cnt_le l x i
  split <;> omega
theorem giv_other {l : List Int} {E C : Int} {i : Nat} (h : i < l.length) {x : Int} (hx : x ≠ l.getD i 0) : giv l E C (i + 1) x = giv l E C i x := by
  unfold giv
  rw [cnt_no h (fun e => hx e.symm)]
theorem giv_yes {l : List Int} {E C : Int} {i : Nat} (h : i < l.length) {x : Int} (hx : l.getD i 0 = x) (h0 : 0 ≤ x) (h1 : x < E) (h2 : giv l E C i x < C) : giv l E C (i + 1) x = giv l E C i x + 1 := by
  unfold giv at *
  rw [if_pos ⟨h0, h1⟩] at *
  rw [cnt_yes h hx]
  rw [if_pos ⟨h0, h1⟩]
  omega
theorem giv_no {l : List Int} {E C : Int} {i : Nat} (h : i < l.length) {x : Int} (hx : l.getD i 0 = x) (h2 : ¬ (0 ≤ x ∧ x < E ∧ giv l E C i x < C)) : giv l E C (i + 1) x = giv l E C i x := by
  unfold giv at *
  by_cases hin : 0 ≤ x ∧ x < E
  · rw [if_pos hin] at *
    rw [if_pos hin, cnt_yes h hx]
    omega
  · rw [if_neg hin, if_neg hin]
theorem slot_yes {l : List Int} {E C : Int} {i : Nat} {x : Int} (hx : l.getD i 0 = x) (h0 : 0 ≤ x) (h1 : x < E) (h2 : giv l E C i x < C) : slot l E C i = giv l E C i x := by
  have e : giv l E C i x = min (cnt l x i : Int) (max C 0) := by unfold giv; rw [if_pos ⟨h0, h1⟩]
  rw [e] at h2 ⊢
  unfold slot
  rw [hx, if_pos (by omega)]
  omega
theorem slot_no {l : List Int} {E C : Int} {i : Nat} {x : Int} (hx : l.getD i 0 = x) (h2 : ¬ (0 ≤ x ∧ x < E ∧ giv l E C i x < C)) : slot l E C i = -1 := by
  unfold slot
  rw [hx]
  by_cases hin : 0 ≤ x ∧ x < E
  · have e : giv l E C i x = min (cnt l x i : Int) (max C 0) := by unfold giv; rw [if_pos hin]
    rw [e] at h2
    rw [if_neg (by omega)]
  · rw [if_neg (by omega)]

/-- Filled from the head on. -/
theorem put_one {done : List Int} {n : Nat} {y x : Int} (h : done.length < n) : ((fill done n).set done.length y).set done.length x = fill (done ++ [x]) n := by
  rw [List.set_set, fill_set done n x h]

/-! The laws. -/
theorem slot_full (l : List Int) (E : Int) (i : Nat) : slot l E 0 i = -1 := by unfold slot; rw [if_neg (by omega)]
theorem slot_none (l : List Int) (C : Int) (i : Nat) : slot l 0 C i = -1 := by unfold slot; rw [if_neg (by omega)]
end Sl

end Go.Proofs.YtokfcjgfpchffaaGreatDoor

/- Models as lists (no program in sight): what Right, Tokens, Parts, Combine and Forward of layer 15 are as functions on lists, and the laws that its statements rest on. -/
namespace Go.Proofs.YtokfcjgfpchffaaGreatDoor

abbrev Xp := List (List Int) × List (List Int) × Unit
abbrev Ly := List (List Int) × List Xp × Int × Unit
abbrev Pt := Int × Int × Int × Int × Unit
def xp0 : Xp := ([], [], ())
def ly0 : Ly := ([], [], 0, ())
def pt (t r e w : Int) : Pt := (t, r, e, w, ())
def pt0 : Pt := pt 0 0 0 0

namespace Md

/-! ### Right ones -/
def LRight (l : Ly) (dim : Int) : Prop := 1 ≤ l.2.1.length ∧ l.2.1.length ≤ 8 ∧ Mx.Right l.1 l.2.1.length dim ∧ 1 ≤ l.2.2.1 ∧ l.2.2.1 ≤ 32 ∧ ∀ x ∈ l.2.1, Ex.Right x.1 x.2.1 dim
def Right (dim : Int) (ls : List Ly) : Prop := 1 ≤ dim ∧ dim ≤ 8 ∧ 1 ≤ ls.length ∧ ls.length ≤ 4 ∧ ∀ l ∈ ls, LRight l dim
def TRight (dim : Int) (ts : List (List Int)) : Prop := 1 ≤ ts.length ∧ ts.length ≤ 16 ∧ Mx.Right ts ts.length dim
section
variable {dim : Int} {ts : List (List Int)} {l : Ly} {ls : List Ly}
theorem TRight.row (h : TRight dim ts) {t : Nat} (ht : t < ts.length) : ((ts.getD t []).length : Int) = dim ∧ Mx.In (ts.getD t []) := h.2.2.2 _ (Mx.getD_mem ts t ht)
theorem LRight.fits (h : LRight l dim) {v : List Int} (hv : (v.length : Int) = dim) : Mx.Fits l.1 v.length := fun r hr => by have := (h.2.2.1.2 r hr).1; omega
theorem LRight.gate (h : LRight l dim) : l.1.length = l.2.1.length := by have := h.2.2.1.1; omega
theorem LRight.some (h : LRight l dim) : l.1 ≠ [] := fun e => by have h1 := h.gate; have h2 := h.1; rw [e] at h1; simp at h1; omega
theorem TRight.take (h : TRight dim ts) {k : Nat} (h1 : 1 ≤ k) (h2 : k ≤ ts.length) : TRight dim (ts.take k) := by
  have hl : (ts.take k).length = k := by rw [List.length_take]; omega
  refine ⟨by omega, by have := h.2.1; omega, rfl, fun r hr => h.2.2.2 r (List.mem_of_mem_take hr)⟩
theorem TRight.one (h : TRight dim ts) {t : Nat} (ht : t < ts.length) : TRight dim [ts.getD t []] := ⟨by simp, by simp, rfl, fun r hr => by rw [List.mem_singleton.1 hr]; exact h.row ht⟩
end

/-! ### Two numbers of each row -/
def duo (f g : List Int → Int) (ts : List (List Int)) : List Int := ts.flatMap fun v => [f v, g v]
section
variable (f g : List Int → Int)
theorem duo_length (ts : List (List Int)) : (duo f g ts).length = ts.length * 2 := by
  induction ts with
  | nil => rfl
  | cons v ts ih => show (f v :: g v :: duo f g ts).length = _; simp only [List.length_cons, ih]; omega
theorem duo_even (ts : List (List Int)) {t : Nat} (h : t < ts.length) : (duo f g ts).getD (t * 2) 0 = f (ts.getD t []) := by
  induction ts generalizing t with
  | nil => simp at h
  | cons v ts ih =>
    cases t with
    | zero => rfl
    | succ t =>
      show (f v :: g v :: duo f g ts).getD ((t + 1) * 2) 0 = _
      rw [show (t + 1) * 2 = t * 2 + 1 + 1 by omega, List.getD_cons_succ, List.getD_cons_succ, List.getD_cons_succ]
      exact ih (by simpa using h)
theorem duo_odd (ts : List (List Int)) {t : Nat} (h : t < ts.length) : (duo f g ts).getD (t * 2 + 1) 0 = g (ts.getD t []) := by
  induction ts generalizing t with
  | nil => simp at h
  | cons v ts ih =>
    cases t with
    | zero => rfl
    | succ t =>
      show (f v :: g v :: duo f g ts).getD ((t + 1) * 2 + 1) 0 = _
      rw [show (t + 1) * 2 + 1 = (t * 2 + 1) + 1 + 1 by omega, List.getD_cons_succ, List.getD_cons_succ, List.getD_cons_succ]
      exact ih (by simpa using h)
end

/-! ### Parts -/
def first (m : List (List Int)) (v : List Int) : Int := Tx.best (Mx.app m v)
def second (m : List (List Int)) (v : List Int) : Int := Tx.second (Mx.app m v)
def w1 (m : List (List Int)) (v : List Int) : Int := Gx.part (Mx.app m v)
def w2 (m : List (List Int)) (v : List Int) : Int := 65536 - Gx.part (Mx.app m v)
def wants (m : List (List Int)) (ts : List (List Int)) : List Int := duo (first m) (second m) ts
def wts (m : List (List Int)) (ts : List (List Int)) : List Int := duo (w1 m) (w2 m) ts
def slot (l : Ly) (ts : List (List Int)) (i : Nat) : Int := Sl.slot (wants l.1 ts) (l.2.1.length : Int) l.2.2.1 i
/-- The part at the flat place i, if it has a slot. -/
def one (l : Ly) (ts : List (List Int)) (i : Nat) : List Pt := if 0 ≤ slot l ts i then [pt ((i / 2 : Nat) : Int) ((i % 2 : Nat) : Int) ((wants l.1 ts).getD i 0) ((wts l.1 ts).getD i 0)] else []
def upto (l : Ly) (ts : List (List Int)) (i : Nat) : List Pt := (List.range i).flatMap (one l ts)
def parts (l : Ly) (ts : List (List Int)) : List Pt := upto l ts (ts.length * 2)

section
variable {dim : Int} {ts : List (List Int)} {l : Ly}
theorem choice_is (hl : LRight l dim) {v : List Int} (hv : (v.length : Int) = dim) : Gx.Is l.1 v (first l.1 v) (second l.1 v) (w1 l.1 v) (w2 l.1 v) true :=
  .inr ⟨rfl, hl.fits hv, hl.some, rfl, rfl, rfl, rfl⟩
theorem wants_length (m : List (List Int)) (ts : List (List Int)) : (wants m ts).length = ts.length * 2 := duo_length _ _ _
theorem upto_zero (l : Ly) (ts : List (List Int)) : upto l ts 0 = [] := rfl
theorem upto_succ (l : Ly) (ts : List (List Int)) (i : Nat) : upto l ts (i + 1) = upto l ts i ++ one l ts i := by simp [upto, List.range_succ]
theorem upto_token (l : Ly) (ts : List (List Int)) (t : Nat) : upto l ts ((t + 1) * 2) = upto l ts (t * 2) ++ (one l ts (t * 2) ++ one l ts (t * 2 + 1)) := by
  rw [show (t + 1) * 2 = t * 2 + 1 + 1 by omega, upto_succ, upto_succ, List.append_assoc]
theorem one_even (l : Ly) {ts : List (List Int)} {t : Nat} (h : t < ts.length) : one l ts (t * 2) = if 0 ≤ slot l ts (t * 2) then [pt t 0 (first l.1 (ts.getD t [])) (w1 l.1 (ts.getD t []))] else [] := by
  unfold one wants wts
  rw [duo_even _ _ ts h, duo_even _ _ ts h, show t * 2 / 2 = t by omega, show t * 2 % 2 = 0 by omega]
  rfl
theorem one_odd (l : Ly) {ts : List (List Int)} {t : Nat} (h : t < ts.length) : one l ts (t * 2 + 1) = if 0 ≤ slot l ts (t * 2 + 1) then [pt t 1 (second l.1 (ts.getD t [])) (w2 l.1 (ts.getD t []))] else [] := by
  unfold one wants wts
  rw [duo_odd _ _ ts h, duo_odd _ _ ts h, show (t * 2 + 1) / 2 = t by omega, show (t * 2 + 1) % 2 = 1 by omega]
  rfl
theorem one_len (l : Ly) (ts : List (List Int)) (i : Nat) : (one l ts i).length ≤ 1 := by unfold one; split <;> simp
theorem upto_len (l : Ly) (ts : List (List Int)) (i : Nat) : (upto l ts i).length ≤ i := by
  induction i with
  | zero => simp [upto]
  | succ i ih => rw [upto_succ, List.length_append]; have := one_len l ts i; omega
/-- What a part is. -/
theorem mem_one {p : Pt} {i : Nat} (h : p ∈ one l ts i) : p = pt ((i / 2 : Nat) : Int) ((i % 2 : Nat) : Int) ((wants l.1 ts).getD i 0) ((wts l.1 ts).getD i 0) ∧ 0 ≤ slot l ts i := by
  unfold one at h
  split at h
  · rename_i h2; exact ⟨List.mem_singleton.1 h, h2⟩
  · simp at h
theorem mem_upto {p : Pt} {n : Nat} (h : p ∈ upto l ts n) : ∃ i, i < n ∧ p ∈ one l ts i := by
  obtain ⟨i, hi, hp⟩ := List.mem_flatMap.1 h
  exact ⟨i, List.mem_range.1 hi, hp⟩
theorem slot_expert {i : Nat} (h : 0 ≤ slot l ts i) : 0 ≤ (wants l.1 ts).getD i 0 ∧ (wants l.1 ts).getD i 0 < (l.2.1.length : Int) := by
  unfold slot Sl.slot at h
  split at h
  · rename_i h2; exact ⟨h2.1, h2.2.1⟩
  · omega
theorem part_fits {p : Pt} (h : p ∈ parts l ts) : 0 ≤ p.1 ∧ p.1 < (ts.length : Int) ∧ 0 ≤ p.2.2.1 ∧ p.2.2.1 < (l.2.1.length : Int) := by
  obtain ⟨i, hi, hp⟩ := mem_upto h
  obtain ⟨rfl, hs⟩ := mem_one hp
  have he := slot_expert hs
  refine ⟨?_, ?_, he.1, he.2⟩
  · show (0 : Int) ≤ ((i / 2 : Nat) : Int); omega
  · show ((i / 2 : Nat) : Int) < _; omega

/-! ### Those of one token -/
theorem filter_one (l : Ly) (ts : List (List Int)) (i t : Nat) : (one l ts i).filter (fun p => p.1 == (t : Int)) = if i / 2 = t then one l ts i else [] := by
  unfold one
  split
  · by_cases h : i / 2 = t
    · rw [if_pos h, List.filter_cons_of_pos (by show (((i / 2 : Nat) : Int) == (t : Int)) = true; rw [h]; simp)]; rfl
    · rw [if_neg h, List.filter_cons_of_neg (by show ¬ (((i / 2 : Nat) : Int) == (t : Int)) = true; simp; omega)]; rfl
  · split <;> rfl
theorem filter_upto (l : Ly) (ts : List (List Int)) (n t : Nat) : (upto l ts (n * 2)).filter (fun p => p.1 == (t : Int)) = if t < n then one l ts (t * 2) ++ one l ts (t * 2 + 1) else [] := by
  induction n with
  | zero => simp [upto]
  | succ n ih =>
    rw [upto_token, List.filter_append, List.filter_append, ih, filter_one, filter_one, show n * 2 / 2 = n by omega, show (n * 2 + 1) / 2 = n by omega]
    by_cases h : n = t
    · subst h; rw [if_neg (by omega), if_pos rfl, if_pos rfl, if_pos (by omega)]; rfl
    · rw [if_neg h, if_neg h]
      by_cases h2 : t < n
      · rw [if_pos h2, if_pos (by omega)]; simp
      · rw [if_neg h2, if_neg (by omega)]; rfl
theorem filter_parts (l : Ly) {ts : List (List Int)} {t : Nat} (h : t < ts.length) : (parts l ts).filter (fun p => p.1 == (t : Int)) = one l ts (t * 2) ++ one l ts (t * 2 + 1) := by
  unfold parts; rw [filter_upto, if_pos h]
end

/-! ### Forward -/
/-- What expert e makes of v. -/
def ans (l : Ly) (v : List Int) (e : Int) : List Int := Ex.run (l.2.1.getD e.toNat xp0).1 (l.2.1.getD e.toNat xp0).2.1 v
def grow (l : Ly) (v0 v : List Int) (p : Pt) : List Int := Vx.add v (Vx.scale (ans l v0 p.2.2.1) p.2.2.2.1)
def out (l : Ly) (ts : List (List Int)) (t : Nat) : List Int := (one l ts (t * 2) ++ one l ts (t * 2 + 1)).foldl (grow l (ts.getD t [])) (ts.getD t [])
def stepTo (l : Ly) (ts : List (List Int)) (k : Nat) : List (List Int) := (List.range k).map (out l ts)
def step (l : Ly) (ts : List (List Int)) : List (List Int) := stepTo l ts ts.length
def forward (ls : List Ly) (ts : List (List Int)) : List (List Int) := ls.foldl (fun ts l => step l ts) ts

section
variable {dim : Int} {ts : List (List Int)} {l : Ly} {ls : List Ly}
theorem stepTo_len (l : Ly) (ts : List (List Int)) (k : Nat) : (stepTo l ts k).length = k := by simp [stepTo]
theorem stepTo_succ (l : Ly) (ts : List (List Int)) (k : Nat) : stepTo l ts (k + 1) = stepTo l ts k ++ [out l ts k] := by simp [stepTo, List.range_succ]
theorem step_len (l : Ly) (ts : List (List Int)) : (step l ts).length = ts.length := stepTo_len _ _ _
theorem step_at (l : Ly) {ts : List (List Int)} {t : Nat} (h : t < ts.length) : (step l ts).getD t [] = out l ts t := by
  unfold step stepTo
  rw [List.getD_eq_getElem?_getD, List.getElem?_map, List.getElem?_range h]
  rfl
theorem forward_len (ls : List Ly) (ts : List (List Int)) : (forward ls ts).length = ts.length := by
  induction ls generalizing ts with
  | nil => rfl
  | cons l ls ih => exact (ih (step l ts)).trans (step_len l ts)
theorem forward_append (ls ms : List Ly) (ts : List (List Int)) : forward (ls ++ ms) ts = forward ms (forward ls ts) := List.foldl_append ..
theorem forward_snoc (ls : List Ly) (l : Ly) (ts : List (List Int)) : forward (ls ++ [l]) ts = step l (forward ls ts) := forward_append _ _ _

/-- What is added is held, and as long as it was. -/
theorem add_in {a b : List Int} : Mx.In (Vx.add a b) := by
  intro n hn
  unfold Vx.add at hn
  rw [List.mem_iff_getElem] at hn
  obtain ⟨i, hi, rfl⟩ := hn
  rw [List.getElem_zipWith]
  unfold Fx.add
  exact Fx.hold_id (Fx.hold_lo _) (Fx.hold_hi _)
theorem ans_len (hl : LRight l dim) {v : List Int} (hv : (v.length : Int) = dim) {e : Int} (h0 : 0 ≤ e) (h1 : e < (l.2.1.length : Int)) : (ans l v e).length = v.length := by
  have hm : l.2.1.getD e.toNat xp0 ∈ l.2.1 := by rw [List.getD_eq_getElem?_getD, List.getElem?_eq_getElem (by omega)]; exact List.getElem_mem _
  have hR := hl.2.2.2.2.2 _ hm
  rw [← hv] at hR
  exact Ex.run_length v hR
theorem grows (hl : LRight l dim) {v0 : List Int} (hv : (v0.length : Int) = dim) (ps : List Pt) (hp : ∀ p ∈ ps, 0 ≤ p.2.2.1 ∧ p.2.2.1 < (l.2.1.length : Int)) (v : List Int) (hlen : v.length = v0.length) (hin : Mx.In v) :
    (ps.foldl (grow l v0) v).length = v0.length ∧ Mx.In (ps.foldl (grow l v0) v) := by
  induction ps generalizing v with
  | nil => exact ⟨hlen, hin⟩
  | cons p ps ih =>
    have h1 := hp p (by simp)
    refine ih (fun q hq => hp q (by simp [hq])) (grow l v0 v p) ?_ add_in
    unfold grow
    rw [Vx.add_length _ _ (by rw [Vx.scale_length, ans_len hl hv h1.1 h1.2, hlen]), hlen]
theorem one_experts {i : Nat} : ∀ p ∈ one l ts i, 0 ≤ p.2.2.1 ∧ p.2.2.1 < (l.2.1.length : Int) := by
  intro p hp
  obtain ⟨rfl, hs⟩ := mem_one hp
  exact slot_expert hs
theorem two_experts {i j : Nat} : ∀ p ∈ one l ts i ++ one l ts j, 0 ≤ p.2.2.1 ∧ p.2.2.1 < (l.2.1.length : Int) := by
  intro p hp
  rcases List.mem_append.1 hp with hp | hp
  · exact one_experts p hp
  · exact one_experts p hp
theorem out_right (hl : LRight l dim) (ht : TRight dim ts) {t : Nat} (h : t < ts.length) : ((out l ts t).length : Int) = dim ∧ Mx.In (out l ts t) := by
  have h1 := ht.row h
  have h2 := grows hl h1.1 (one l ts (t * 2) ++ one l ts (t * 2 + 1)) two_experts (ts.getD t []) rfl h1.2
  exact ⟨by unfold out; rw [h2.1]; exact h1.1, h2.2⟩
theorem step_right (hl : LRight l dim) (ht : TRight dim ts) : TRight dim (step l ts) := by
  refine ⟨by rw [step_len]; exact ht.1, by rw [step_len]; exact ht.2.1, rfl, fun r hr => ?_⟩
  obtain ⟨t, h, rfl⟩ := List.mem_map.1 hr
  exact out_right hl ht (List.mem_range.1 h)
theorem forward_right (hl : ∀ l ∈ ls, LRight l dim) (ht : TRight dim ts) : TRight dim (forward ls ts) := by
  induction ls generalizing ts with
  | nil => exact ht
  | cons l ls ih => exact ih (fun m hm => hl m (by simp [hm])) (step_right (hl l (by simp)) ht)
end

/-! ### Combine -/
def put (o : List (List Int)) (p : Pt) (a : List Int) : List (List Int) :=
  if 0 ≤ p.1 ∧ p.1 < (o.length : Int) ∧ (o.getD p.1.toNat []).length = a.length then o.set p.1.toNat (Vx.add (o.getD p.1.toNat []) (Vx.scale a p.2.2.2.1)) else o
def puts (o : List (List Int)) (xs : List (Pt × List Int)) : List (List Int) := xs.foldl (fun o x => put o x.1 x.2) o
def combine (ts : List (List Int)) (ps : List Pt) (as : List (List Int)) : List (List Int) := puts ts (ps.zip as)
section
variable {dim : Int} {ts : List (List Int)} {l : Ly}
theorem put_len (o : List (List Int)) (p : Pt) (a : List Int) : (put o p a).length = o.length := by unfold put; split <;> simp
theorem puts_len (o : List (List Int)) (xs : List (Pt × List Int)) : (puts o xs).length = o.length := by
  induction xs generalizing o with
  | nil => rfl
  | cons x xs ih => exact (ih (put o x.1 x.2)).trans (put_len _ _ _)
theorem puts_snoc (o : List (List Int)) (xs : List (Pt × List Int)) (x : Pt × List Int) : puts o (xs ++ [x]) = put (puts o xs) x.1 x.2 := by unfold puts; rw [List.foldl_append]; rfl
theorem put_at {o : List (List Int)} {p : Pt} {a : List Int} {t : Nat} (h0 : 0 ≤ p.1) (h1 : p.1 < (o.length : Int)) (h2 : (o.getD p.1.toNat []).length = a.length) :
    (put o p a).getD t [] = if p.1 == (t : Int) then Vx.add (o.getD t []) (Vx.scale a p.2.2.2.1) else o.getD t [] := by
  unfold put
  rw [if_pos ⟨h0, h1, h2⟩]
  by_cases h : p.1 = (t : Int)
  · rw [if_pos (by simpa using h)]
    have e : p.1.toNat = t := by omega
    rw [e, List.getD_eq_getElem?_getD, List.getElem?_set_self (by omega)]
    rfl
  · rw [if_neg (by simpa using h), List.getD_eq_getElem?_getD, List.getElem?_set_ne (by omega), List.getD_eq_getElem?_getD]
theorem puts_at {n : Nat} {o : List (List Int)} (hn : ∀ t, t < o.length → (o.getD t []).length = n) (xs : List (Pt × List Int)) (hx : ∀ x ∈ xs, 0 ≤ x.1.1 ∧ x.1.1 < (o.length : Int) ∧ x.2.length = n) {t : Nat} (ht : t < o.length) :
    (puts o xs).getD t [] = (xs.filter fun x => x.1.1 == (t : Int)).foldl (fun v x => Vx.add v (Vx.scale x.2 x.1.2.2.2.1)) (o.getD t []) := by
  induction xs generalizing o with
  | nil => rfl
  | cons x xs ih =>
    obtain ⟨h0, h1, h2⟩ := hx x (by simp)
    have h3 : (o.getD x.1.1.toNat []).length = x.2.length := by rw [hn _ (by omega), h2]
    have hp := fun t => put_at (t := t) h0 h1 h3
    have ih' := ih (o := put o x.1 x.2) (fun s hs => by
      rw [put_len] at hs
      rw [hp s]
      split
      · rw [Vx.add_length _ _ (by rw [Vx.scale_length, h2, hn s hs]), hn s hs]
      · exact hn s hs) (fun y hy => by rw [put_len]; exact hx y (by simp [hy])) (by rw [put_len]; exact ht)
    show (puts (put o x.1 x.2) xs).getD t [] = _
    rw [ih', hp t]
    by_cases h : (x.1.1 == (t : Int)) = true
    · rw [if_pos h, List.filter_cons_of_pos (p := fun x : Pt × List Int => x.1.1 == (t : Int)) h]; rfl
    · rw [if_neg h, List.filter_cons_of_neg (p := fun x : Pt × List Int => x.1.1 == (t : Int)) h]
theorem list_ext {a b : List (List Int)} (hl : a.length = b.length) (h : ∀ t, t < a.length → a.getD t [] = b.getD t []) : a = b := by
  apply List.ext_getElem hl
  intro i h1 h2
  have := h i h1
  rw [List.getD_eq_getElem?_getD, List.getD_eq_getElem?_getD, List.getElem?_eq_getElem h1, List.getElem?_eq_getElem h2] at this
  exact this
theorem zip_map {α β : Type} (ps : List α) (f : α → β) : ps.zip (ps.map f) = ps.map fun p => (p, f p) := by
  induction ps with
  | nil => rfl
  | cons p ps ih => simp [ih]
/-- The answers of parts. -/
def answers (l : Ly) (ts : List (List Int)) (ps : List Pt) : List (List Int) := ps.map fun p => ans l (ts.getD p.1.toNat []) p.2.2.1
theorem foldl_same (l : Ly) (ts : List (List Int)) (t : Nat) (ps : List Pt) (h : ∀ p ∈ ps, p.1 = (t : Int)) (v : List Int) :
    (ps.map fun p => (p, ans l (ts.getD p.1.toNat []) p.2.2.1)).foldl (fun v (x : Pt × List Int) => Vx.add v (Vx.scale x.2 x.1.2.2.2.1)) v = ps.foldl (grow l (ts.getD t [])) v := by
  induction ps generalizing v with
  | nil => rfl
  | cons p ps ih =>
    have e : p.1.toNat = t := by have := h p (by simp); omega
    show (ps.map _).foldl _ (Vx.add v (Vx.scale (ans l (ts.getD p.1.toNat []) p.2.2.1) p.2.2.2.1)) = ps.foldl _ (grow l (ts.getD t []) v p)
    rw [ih (fun q hq => h q (by simp [hq])), e]
    rfl
theorem combine_step (hl : LRight l dim) (ht : TRight dim ts) : combine ts (parts l ts) (answers l ts (parts l ts)) = step l ts := by
  unfold combine answers
  rw [zip_map]
  refine list_ext (by rw [puts_len, step_len]) fun t h => ?_
  rw [puts_len] at h
  rw [puts_at (n := dim.toNat) (fun s hs => by have := (ht.row hs).1; omega) _ (fun x hx => ?_) h, step_at l h]
  · rw [List.filter_map]
    have e : (fun x : Pt × List Int => x.1.1 == (t : Int)) ∘ (fun p : Pt => (p, ans l (ts.getD p.1.toNat []) p.2.2.1)) = fun p => p.1 == (t : Int) := rfl
    rw [e, foldl_same l ts t _ (fun p hp => by have := (List.mem_filter.1 hp).2; simpa using this), filter_parts l h]
    rfl
  · obtain ⟨p, hp, rfl⟩ := List.mem_map.1 hx
    obtain ⟨h0, h1, h2, h3⟩ := part_fits hp
    have h4 := (ht.row (t := p.1.toNat) (by omega)).1
    refine ⟨h0, h1, ?_⟩
    show (ans l (ts.getD p.1.toNat []) p.2.2.1).length = _
    rw [ans_len hl h4 h2 h3]
    omega
end

end Md
end Go.Proofs.YtokfcjgfpchffaaGreatDoor

/- The laws on models as lists that the statements of layer 15 rest on (no program in sight). -/
namespace Go.Proofs.YtokfcjgfpchffaaGreatDoor.Md
open Go.Proofs.YtokfcjgfpchffaaGreatDoor

section
variable {dim : Int} {ts : List (List Int)} {l : Ly} {ls : List Ly}

/-! ### A beginning of the tokens -/
/-- What is made of a token whose parts all have room. -/
def alone (l : Ly) (v : List Int) : List Int :=
  ((if 0 ≤ first l.1 v ∧ first l.1 v < (l.2.1.length : Int) then [pt 0 0 (first l.1 v) (w1 l.1 v)] else []) ++ (if 0 ≤ second l.1 v ∧ second l.1 v < (l.2.1.length : Int) then [pt 0 1 (second l.1 v) (w2 l.1 v)] else [])).foldl (grow l v) v
/-- How many of the parts are of expert e. -/
def many (ps : List Pt) (e : Int) : Nat := (ps.filter fun p => p.2.2.1 == e).length
/-- They rise. -/
def at2 (p : Pt) : Int := 2 * p.1 + p.2.1
theorem at2_one {p : Pt} {i : Nat} (h : p ∈ one l ts i) : at2 p = i := by
  obtain ⟨rfl, _⟩ := mem_one h
  show 2 * ((i / 2 : Nat) : Int) + ((i % 2 : Nat) : Int) = i
  omega
theorem rises (l : Ly) (ts : List (List Int)) (n : Nat) : (upto l ts n).Pairwise (fun p q => at2 p < at2 q) := by
  induction n with
  | zero => exact List.Pairwise.nil
  | succ n ih =>
    rw [upto_succ, List.pairwise_append]
    refine ⟨ih, ?_, fun p hp q hq => ?_⟩
    · unfold one; split
      · exact List.pairwise_singleton _ _
      · exact List.Pairwise.nil
    · obtain ⟨i, hi, hp⟩ := mem_upto hp
      rw [at2_one hp, at2_one hq]
      omega
theorem part_is (hl : LRight l dim) (ht : TRight dim ts) {p : Pt} (h : p ∈ parts l ts) : 0 ≤ p.1 ∧ p.1 < (ts.length : Int) ∧ 0 ≤ p.2.1 ∧ p.2.1 ≤ 1 ∧ 0 ≤ p.2.2.1 ∧ p.2.2.1 < (l.2.1.length : Int) ∧ 0 ≤ p.2.2.2.1 ∧ p.2.2.2.1 ≤ 65536 := by
  obtain ⟨f0, f1, f2, f3⟩ := part_fits h
  obtain ⟨i, hi, hp⟩ := mem_upto h
  obtain ⟨rfl, hs⟩ := mem_one hp
  have ht2 : i / 2 < ts.length := by omega
  have hv := (ht.row ht2).1
  have hf := (choice_is hl hv).fair
  refine ⟨f0, f1, ?_, ?_, f2, f3, ?_⟩
  · show (0 : Int) ≤ ((i % 2 : Nat) : Int); omega
  · show ((i % 2 : Nat) : Int) ≤ 1; omega
  · show 0 ≤ (wts l.1 ts).getD i 0 ∧ (wts l.1 ts).getD i 0 ≤ 65536
    unfold wts
    rcases (by omega : i % 2 = 0 ∨ i % 2 = 1) with e | e
    · have e2 : i = i / 2 * 2 := by omega
      rw [e2, duo_even _ _ ts ht2]
      omega
    · have e2 : i = i / 2 * 2 + 1 := by omega
      rw [e2, duo_odd _ _ ts ht2]
      omega
theorem parts_some (hl : LRight l dim) (ht : TRight dim ts) : 1 ≤ (parts l ts).length := by
  have h0 : 0 < ts.length := ht.1
  have hv := (ht.row h0).1
  have hf := (choice_is hl hv).fair
  have hg := hl.gate
  have hc := hl.2.2.2.1
  have hw : (wants l.1 ts).getD 0 0 = first l.1 (ts.getD 0 []) := duo_even (first l.1) (second l.1) ts (t := 0) h0
  have hs : 0 ≤ slot l ts 0 := by
    unfold slot Sl.slot
    rw [hw, Sl.cnt_zero, if_pos (by omega)]
    exact Int.le_refl _
  have h1 : one l ts 0 = [pt ((0 / 2 : Nat) : Int) ((0 % 2 : Nat) : Int) ((wants l.1 ts).getD 0 0) ((wts l.1 ts).getD 0 0)] := by unfold one; rw [if_pos hs]
  have h2 : upto l ts 1 = one l ts 0 := by rw [upto_succ, upto_zero]; rfl
  have h3 : ∀ n, 1 ≤ n → 1 ≤ (upto l ts n).length := by
    intro n
    induction n with
    | zero => intro h; omega
    | succ n ih =>
      intro _
      rcases Nat.eq_zero_or_pos n with e | e
      · subst e; rw [h2, h1]; exact Nat.le_refl _
      · rw [upto_succ, List.length_append]; have := ih e; omega
  exact h3 _ (by omega)
end

end Go.Proofs.YtokfcjgfpchffaaGreatDoor.Md

/- Models in memory (no program in sight): experts in two cells, layers in three, parts in four, in slices. -/
namespace Go.Proofs.YtokfcjgfpchffaaGreatDoor
open Go.ChangeShapes Go.WideShapes Go.ChangeAt Go.RowKit

abbrev xpS : Shape Xp := consS matS (consS matS noneS)
abbrev xpsS : Shape (List Xp) := sliceS xpS
abbrev lyS : Shape Ly := consS matS (consS xpsS (consS (intS .i64) noneS))
abbrev lysS : Shape (List Ly) := sliceS lyS
abbrev ptS : Shape Pt := consS (intS .i64) (consS (intS .i64) (consS (intS .i64) (consS (intS .i64) noneS)))
abbrev ptsS : Shape (List Pt) := sliceS ptS

theorem get_of {α : Type} {l : List α} {j : Nat} (h : j < l.length) (d : α) : l.getD j d = l[j] := by rw [List.getD_eq_getElem?_getD, List.getElem?_eq_getElem h]; rfl
theorem in_of {α : Type} {l : List α} {j : Nat} (h : j < l.length) (d : α) : l.getD j d ∈ l := by rw [get_of h]; exact List.getElem_mem h

section
variable {w : World} {F : Nat → Prop} {a : Option Addr} {n c : Nat}

theorem xp_is {cs : List Value} {x : Xp} (h : xpS.rep w F cs x) : ∃ ai ni ci ao no co, cs = [.slice ai ni ci, .slice ao no co] ∧ matS.rep w F [.slice ai ni ci] x.1 ∧ matS.rep w F [.slice ao no co] x.2.1 := by
  obtain ⟨ai, ni, ci, d, rfl, h1, h2⟩ := consS_slice h
  obtain ⟨ao, no, co, d', rfl, h3, h4⟩ := consS_slice h2
  rw [noneS_nil h4]
  exact ⟨ai, ni, ci, ao, no, co, rfl, h1, h3⟩
theorem xp_rep {ai : Option Addr} {ni ci : Nat} {ao : Option Addr} {no co : Nat} {mi mo : List (List Int)} (hi : matS.rep w F [.slice ai ni ci] mi) (ho : matS.rep w F [.slice ao no co] mo) : xpS.rep w F [.slice ai ni ci, .slice ao no co] (mi, mo, ()) :=
  ⟨[_], [_], rfl, hi, [_], [], rfl, ho, rfl⟩
/-- Expert j. -/
theorem xp_at {xs : List Xp} (h : xpsS.rep w F [.slice a n c] xs) {j : Nat} (hj : j < n) :
    ∃ b off ai ni ci ao no co, a = some ⟨b, off, none⟩ ∧ F b ∧ b < w.heap.size ∧ matS.rep w F [.slice ai ni ci] (xs.getD j xp0).1 ∧ matS.rep w F [.slice ao no co] (xs.getD j xp0).2.1 ∧
      w.cell? ⟨b, off + j * 2, none⟩ = some (.slice ai ni ci) ∧ w.cell? ⟨b, off + j * 2 + 1, none⟩ = some (.slice ao no co) := by
  have hl := (sliceS_len h).1
  obtain ⟨b, off, cs, ha, hF, hb, hc, hr⟩ := sliceS_at h (by show 0 < 2; omega) (j := j) (by omega)
  rw [get_of (by omega)]
  obtain ⟨ai, ni, ci, ao, no, co, rfl, h1, h2⟩ := xp_is hr
  exact ⟨b, off, ai, ni, ci, ao, no, co, ha, hF, hb, h1, h2, hc 0 _ rfl, hc 1 _ rfl⟩

theorem ly_is {cs : List Value} {x : Ly} (h : lyS.rep w F cs x) : ∃ ag ng cg ax nx cx, cs = [.slice ag ng cg, .slice ax nx cx, .int .i64 x.2.2.1] ∧ matS.rep w F [.slice ag ng cg] x.1 ∧ xpsS.rep w F [.slice ax nx cx] x.2.1 := by
  obtain ⟨ag, ng, cg, d, rfl, h1, h2⟩ := consS_slice h
  obtain ⟨ax, nx, cx, d', rfl, h3, h4⟩ := consS_slice h2
  obtain ⟨d'', rfl, h5⟩ := consS_int h4
  rw [noneS_nil h5]
  exact ⟨ag, ng, cg, ax, nx, cx, rfl, h1, h3⟩
theorem ly_rep {ag : Option Addr} {ng cg : Nat} {ax : Option Addr} {nx cx : Nat} {g : List (List Int)} {xs : List Xp} (cap : Int) (hg : matS.rep w F [.slice ag ng cg] g) (hx : xpsS.rep w F [.slice ax nx cx] xs) : lyS.rep w F [.slice ag ng cg, .slice ax nx cx, .int .i64 cap] (g, xs, cap, ()) :=
  ⟨[_], [_, _], rfl, hg, [_], [_], rfl, hx, [_], [], rfl, rfl, rfl⟩
/-- Layer j. -/
theorem ly_at {ls : List Ly} (h : lysS.rep w F [.slice a n c] ls) {j : Nat} (hj : j < n) :
    ∃ b off ag ng cg ax nx cx, a = some ⟨b, off, none⟩ ∧ F b ∧ b < w.heap.size ∧ matS.rep w F [.slice ag ng cg] (ls.getD j ly0).1 ∧ xpsS.rep w F [.slice ax nx cx] (ls.getD j ly0).2.1 ∧
      w.cell? ⟨b, off + j * 3, none⟩ = some (.slice ag ng cg) ∧ w.cell? ⟨b, off + j * 3 + 1, none⟩ = some (.slice ax nx cx) ∧ w.cell? ⟨b, off + j * 3 + 2, none⟩ = some (.int .i64 (ls.getD j ly0).2.2.1) := by
  have hl := (sliceS_len h).1
  obtain ⟨b, off, cs, ha, hF, hb, hc, hr⟩ := sliceS_at h (by show 0 < 3; omega) (j := j) (by omega)
  rw [get_of (by omega)]
  obtain ⟨ag, ng, cg, ax, nx, cx, rfl, h1, h2⟩ := ly_is hr
  exact ⟨b, off, ag, ng, cg, ax, nx, cx, ha, hF, hb, h1, h2, hc 0 _ rfl, hc 1 _ rfl, hc 2 _ rfl⟩

theorem pt_is {cs : List Value} {x : Pt} (h : ptS.rep w F cs x) : cs = [.int .i64 x.1, .int .i64 x.2.1, .int .i64 x.2.2.1, .int .i64 x.2.2.2.1] := by
  obtain ⟨d1, rfl, h1⟩ := consS_int h
  obtain ⟨d2, rfl, h2⟩ := consS_int h1
  obtain ⟨d3, rfl, h3⟩ := consS_int h2
  obtain ⟨d4, rfl, h4⟩ := consS_int h3
  rw [noneS_nil h4]
theorem pt_rep (w : World) (F : Nat → Prop) (t r e k : Int) : ptS.rep w F [.int .i64 t, .int .i64 r, .int .i64 e, .int .i64 k] (pt t r e k) := ⟨[_], [_, _, _], rfl, rfl, [_], [_, _], rfl, rfl, [_], [_], rfl, rfl, [_], [], rfl, rfl, rfl⟩
/-- Part j. -/
theorem pt_at {ps : List Pt} (h : ptsS.rep w F [.slice a n c] ps) {j : Nat} (hj : j < n) :
    ∃ b off, a = some ⟨b, off, none⟩ ∧ F b ∧ b < w.heap.size ∧ w.cell? ⟨b, off + j * 4, none⟩ = some (.int .i64 (ps.getD j pt0).1) ∧ w.cell? ⟨b, off + j * 4 + 1, none⟩ = some (.int .i64 (ps.getD j pt0).2.1) ∧
      w.cell? ⟨b, off + j * 4 + 2, none⟩ = some (.int .i64 (ps.getD j pt0).2.2.1) ∧ w.cell? ⟨b, off + j * 4 + 3, none⟩ = some (.int .i64 (ps.getD j pt0).2.2.2.1) := by
  have hl := (sliceS_len h).1
  obtain ⟨b, off, cs, ha, hF, hb, hc, hr⟩ := sliceS_at h (by show 0 < 4; omega) (j := j) (by omega)
  rw [get_of (by omega)]
  have hcs := pt_is hr
  subst hcs
  exact ⟨b, off, ha, hF, hb, hc 0 _ rfl, hc 1 _ rfl, hc 2 _ rfl, hc 3 _ rfl⟩
end

namespace Md
/-- The first k of the layers, one more. -/
theorem take_ly {ls : List Ly} {k : Nat} (h : k < ls.length) : ls.take (k + 1) = ls.take k ++ [ls.getD k ly0] := by rw [List.take_succ_eq_append_getElem h, get_of h]
theorem take_pt {ps : List Pt} {k : Nat} (h : k < ps.length) : ps.take (k + 1) = ps.take k ++ [ps.getD k pt0] := by rw [List.take_succ_eq_append_getElem h, get_of h]
theorem forward_next {ls : List Ly} {k : Nat} (h : k < ls.length) (ts : List (List Int)) : forward (ls.take (k + 1)) ts = step (ls.getD k ly0) (forward (ls.take k) ts) := by rw [take_ly h, forward_snoc]
/-- The sums of one token, along the parts. -/
def along (l : Ly) (ts : List (List Int)) (t : Nat) (ps : List Pt) : List Int := (ps.filter fun p => p.1 == (t : Int)).foldl (grow l (ts.getD t [])) (ts.getD t [])
theorem along_nil (l : Ly) (ts : List (List Int)) (t : Nat) : along l ts t [] = ts.getD t [] := rfl
theorem along_yes {l : Ly} {ts : List (List Int)} {t : Nat} {ps : List Pt} {k : Nat} (h : k < ps.length) (e : (ps.getD k pt0).1 = (t : Int)) : along l ts t (ps.take (k + 1)) = grow l (ts.getD t []) (along l ts t (ps.take k)) (ps.getD k pt0) := by
  unfold along
  rw [take_pt h, List.filter_append, List.foldl_append, List.filter_cons_of_pos (by simpa using e)]
  rfl
theorem along_no {l : Ly} {ts : List (List Int)} {t : Nat} {ps : List Pt} {k : Nat} (h : k < ps.length) (e : (ps.getD k pt0).1 ≠ (t : Int)) : along l ts t (ps.take (k + 1)) = along l ts t (ps.take k) := by
  unfold along
  rw [take_pt h, List.filter_append, List.filter_cons_of_neg (by simpa using e), List.filter_nil, List.append_nil]
theorem along_all (l : Ly) {ts : List (List Int)} {t : Nat} (h : t < ts.length) : along l ts t (parts l ts) = out l ts t := by
  unfold along
  rw [filter_parts l h]
  rfl
end Md

end Go.Proofs.YtokfcjgfpchffaaGreatDoor

/- Maps of who holds what, as lists (no program in sight): right ones, holders that are added and retired. -/
namespace Go.Proofs.YtokfcjgfpchffaaGreatDoor.Pl
open Go.Proofs.YtokfcjgfpchffaaGreatDoor

/-! ### A row of holders -/
def RowOk (l : List Int) : Prop := l ≠ [] ∧ (∀ x ∈ l, 1 ≤ x ∧ x ≤ 4) ∧ l.Pairwise (· < ·)
/-- The nodes that hold, n among them or not. -/
def keep (l : List Int) (n : Int) (add : Bool) : List Int := [1, 2, 3, 4].filter fun y => if y = n then add else decide (y ∈ l)
def filt (l : List Int) : List Int := [1, 2, 3, 4].filter fun y => decide (y ∈ l)
/-- All rows of holders. -/
def rows : List (List Int) := [[1], [2], [3], [4], [1, 2], [1, 3], [1, 4], [2, 3], [2, 4], [3, 4], [1, 2, 3], [1, 2, 4], [1, 3, 4], [2, 3, 4], [1, 2, 3, 4]]

theorem sorted_ext {l k : List Int} (hl : l.Pairwise (· < ·)) (hk : k.Pairwise (· < ·)) (h : ∀ x, x ∈ l ↔ x ∈ k) : l = k := by
  induction l generalizing k with
  | nil =>
    cases k with
    | nil => rfl
    | cons b k => exact absurd ((h b).2 (by simp)) (by simp)
  | cons a l ih =>
    cases k with
    | nil => exact absurd ((h a).1 (by simp)) (by simp)
    | cons b k =>
      obtain ⟨ha, hl2⟩ := List.pairwise_cons.1 hl
      obtain ⟨hb, hk2⟩ := List.pairwise_cons.1 hk
      have hab : a = b := by
        rcases List.mem_cons.1 ((h a).1 (by simp)) with h1 | h1
        · exact h1
        · rcases List.mem_cons.1 ((h b).2 (by simp)) with h2 | h2
          · exact h2.symm
          · have := hb a h1
            have := ha b h2
            omega
      subst hab
      congr 1
      refine ih hl2 hk2 fun x => ?_
      constructor
      · intro hx
        have := ha x hx
        rcases List.mem_cons.1 ((h x).1 (by simp [hx])) with h1 | h1
        · omega
        · exact h1
      · intro hx
        have := hb x hx
        rcases List.mem_cons.1 ((h x).2 (by simp [hx])) with h1 | h1
        · omega
        · exact h1
theorem four_sorted : ([1, 2, 3, 4] : List Int).Pairwise (· < ·) := by decide
theorem filt_eq {l : List Int} (h : RowOk l) : filt l = l := by
  refine sorted_ext (four_sorted.sublist List.filter_sublist) h.2.2 fun x => ?_
  unfold filt
  rw [List.mem_filter]
  constructor
  · rintro ⟨_, h2⟩
    simpa using h2
  · intro hx
    have := h.2.1 x hx
    refine ⟨?_, by simpa using hx⟩
    have : x = 1 ∨ x = 2 ∨ x = 3 ∨ x = 4 := by omega
    simpa using this
theorem row_there {l : List Int} (h : RowOk l) : l ∈ rows := by
  have hf := filt_eq h
  have hne := h.1
  rw [← hf] at hne ⊢
  unfold filt at *
  by_cases h1 : (1 : Int) ∈ l <;> by_cases h2 : (2 : Int) ∈ l <;> by_cases h3 : (3 : Int) ∈ l <;> by_cases h4 : (4 : Int) ∈ l <;> simp [h1, h2, h3, h4] at hne ⊢ <;> decide
theorem rows_ok {l : List Int} (h : l ∈ rows) : RowOk l := by
  have : ∀ l ∈ rows, l ≠ [] ∧ (∀ x ∈ l, 1 ≤ x ∧ x ≤ 4) ∧ l.Pairwise (· < ·) := by decide
  exact this l h
theorem node_there {n : Int} (h1 : 1 ≤ n) (h2 : n ≤ 4) : n ∈ ([1, 2, 3, 4] : List Int) := by
  have : n = 1 ∨ n = 2 ∨ n = 3 ∨ n = 4 := by omega
  simpa using this
theorem row_len {l : List Int} (h : RowOk l) : 1 ≤ l.length ∧ l.length ≤ 4 := by
  have : ∀ l ∈ rows, 1 ≤ l.length ∧ l.length ≤ 4 := by decide
  exact this l (row_there h)
theorem mem_keep {l : List Int} {n y : Int} {add : Bool} : y ∈ keep l n add ↔ (1 ≤ y ∧ y ≤ 4) ∧ (if y = n then add = true else y ∈ l) := by
  unfold keep
  rw [List.mem_filter]
  constructor
  · rintro ⟨h1, h2⟩
    have h3 : y = 1 ∨ y = 2 ∨ y = 3 ∨ y = 4 := by simpa using h1
    refine ⟨by omega, ?_⟩
    by_cases hy : y = n
    · rw [if_pos hy] at h2 ⊢; exact h2
    · rw [if_neg hy] at h2 ⊢; simpa using h2
  · rintro ⟨h1, h2⟩
    refine ⟨node_there h1.1 h1.2, ?_⟩
    by_cases hy : y = n
    · rw [if_pos hy] at h2 ⊢; exact h2
    · rw [if_neg hy] at h2 ⊢; simpa using h2
theorem keep_sorted (l : List Int) (n : Int) (add : Bool) : (keep l n add).Pairwise (· < ·) := four_sorted.sublist List.filter_sublist
theorem add_ok {l : List Int} {n : Int} (h1 : 1 ≤ n) (h2 : n ≤ 4) : RowOk (keep l n true) := by
  refine ⟨fun e => ?_, fun x hx => (mem_keep.1 hx).1, keep_sorted _ _ _⟩
  have : n ∈ keep l n true := mem_keep.2 ⟨⟨h1, h2⟩, by rw [if_pos rfl]⟩
  rw [e] at this
  cases this
theorem retire_ok {l : List Int} {n : Int} (h : RowOk l) (hl : l.length ≠ 1) : RowOk (keep l n false) := by
  refine ⟨fun e => ?_, fun x hx => (mem_keep.1 hx).1, keep_sorted _ _ _⟩
  match l, h, hl with
  | [], h, _ => exact h.1 rfl
  | [_], _, hl => exact hl rfl
  | a :: b :: t, h, _ =>
    have hab := (List.pairwise_cons.1 h.2.2).1 b (by simp)
    have ha := h.2.1 a (by simp)
    have hb := h.2.1 b (by simp)
    by_cases hn : a = n
    · have : b ∈ keep (a :: b :: t) n false := mem_keep.2 ⟨hb, by rw [if_neg (by omega)]; simp⟩
      rw [e] at this
      cases this
    · have : a ∈ keep (a :: b :: t) n false := mem_keep.2 ⟨ha, by rw [if_neg hn]; simp⟩
      rw [e] at this
      cases this
theorem keep_back {l : List Int} {n : Int} (h : RowOk l) (hn : n ∉ l) : keep (keep l n true) n false = l := by
  refine sorted_ext (keep_sorted _ _ _) h.2.2 fun x => ?_
  rw [mem_keep]
  by_cases hx : x = n
  · rw [if_pos hx]
    constructor
    · rintro ⟨_, h2⟩; cases h2
    · intro h2; rw [hx] at h2; exact absurd h2 hn
  · rw [if_neg hx, mem_keep, if_neg hx]
    exact ⟨fun h2 => h2.2.2, fun h2 => ⟨h.2.1 x h2, h.2.1 x h2, h2⟩⟩
/-- One who is added stands among them at its place. -/
theorem keep_add {l : List Int} {n : Int} (h : RowOk l) (h1 : 1 ≤ n) (h2 : n ≤ 4) (hn : n ∉ l) : keep l n true = l.take (l.countP (· < n)) ++ n :: l.drop (l.countP (· < n)) := by
  have : ∀ l ∈ rows, ∀ n ∈ ([1, 2, 3, 4] : List Int), n ∉ l → keep l n true = l.take (l.countP (· < n)) ++ n :: l.drop (l.countP (· < n)) := by decide
  exact this l (row_there h) n (node_there h1 h2) hn
theorem keep_retire_at {l : List Int} {n : Int} {i : Nat} (h : RowOk l) (hi : i < l.length) (hn : l.getD i 0 = n) : keep l n false = l.take i ++ l.drop (i + 1) := by
  have : ∀ l ∈ rows, ∀ i ∈ List.range 4, i < l.length → keep l (l.getD i 0) false = l.take i ++ l.drop (i + 1) := by decide
  rw [← hn]
  exact this l (row_there h) i (List.mem_range.2 (by have := (row_len h).2; omega)) hi
/-- Who is picked. -/
def pick (l : List Int) (key : Nat) : Int := l.getD (key % l.length) 0
theorem pick_holds {l : List Int} (h : RowOk l) (key : Nat) : pick l key ∈ l := Mx.num_mem l _ (Nat.mod_lt _ (row_len h).1)
def Right (e : Int) (m : List (List Int)) : Prop := (0 ≤ e ∧ e ≤ 2147483647) ∧ m.length ≤ 8 ∧ ∀ l ∈ m, RowOk l
def Holds (m : List (List Int)) (x n : Int) : Prop := (0 ≤ x ∧ x < (m.length : Int)) ∧ n ∈ m.getD x.toNat []
def Wrong (e : Int) (m : List (List Int)) (x n : Int) : Prop := ¬ Right e m ∨ ¬ (0 ≤ x ∧ x < (m.length : Int)) ∨ ¬ (1 ≤ n ∧ n ≤ 4) ∨ e = 2147483647
/-- The map behind it. -/
def turn (m : List (List Int)) (x n : Int) (add : Bool) : List (List Int) := m.set x.toNat (keep (m.getD x.toNat []) n add)
section
variable {e : Int} {m : List (List Int)} {x n : Int}
theorem Right.row (h : Right e m) {i : Nat} (hi : i < m.length) : RowOk (m.getD i []) := h.2.2 _ (Mx.getD_mem m i hi)
theorem not_wrong (h : ¬ Wrong e m x n) : Right e m ∧ (0 ≤ x ∧ x < (m.length : Int)) ∧ (1 ≤ n ∧ n ≤ 4) ∧ e ≠ 2147483647 := by
  unfold Wrong at h
  refine ⟨Classical.byContradiction fun h1 => h (Or.inl h1), Classical.byContradiction fun h1 => h (Or.inr (Or.inl h1)), Classical.byContradiction fun h1 => h (Or.inr (Or.inr (Or.inl h1))), fun h1 => h (Or.inr (Or.inr (Or.inr h1)))⟩
theorem turn_len (m : List (List Int)) (x n : Int) (add : Bool) : (turn m x n add).length = m.length := by unfold turn; rw [List.length_set]
theorem turn_at (hx : 0 ≤ x ∧ x < (m.length : Int)) (add : Bool) (i : Nat) : (turn m x n add).getD i [] = if i = x.toNat then keep (m.getD x.toNat []) n add else m.getD i [] := by
  unfold turn
  rw [List.getD_eq_getElem?_getD, List.getElem?_set]
  by_cases h : i = x.toNat
  · rw [if_pos h.symm, if_pos h, if_pos (by omega)]
    rfl
  · rw [if_neg (fun h2 => h h2.symm), if_neg h, List.getD_eq_getElem?_getD]
theorem turn_right (h : Right e m) (he : e ≠ 2147483647) {add : Bool} (hk : RowOk (keep (m.getD x.toNat []) n add)) : Right (e + 1) (turn m x n add) := by
  have h1 := h.1
  refine ⟨by omega, by rw [turn_len]; exact h.2.1, fun l hl => ?_⟩
  unfold turn at hl
  rcases List.mem_or_eq_of_mem_set hl with h2 | h2
  · exact h.2.2 l h2
  · rw [h2]; exact hk
theorem add_right (h : ¬ Wrong e m x n) : Right (e + 1) (turn m x n true) := by
  obtain ⟨h1, _, h3, h4⟩ := not_wrong h
  exact turn_right h1 h4 (add_ok h3.1 h3.2)
theorem ret_right (h : ¬ Wrong e m x n) (h5 : (m.getD x.toNat []).length ≠ 1) : Right (e + 1) (turn m x n false) := by
  obtain ⟨h1, h2, _, h4⟩ := not_wrong h
  exact turn_right h1 h4 (retire_ok (h1.row (by omega)) h5)
/-- Who holds what behind it. -/
theorem turn_holds (hx : 0 ≤ x ∧ x < (m.length : Int)) (hn : 1 ≤ n ∧ n ≤ 4) (hR : Right e m) (add : Bool) (y k : Int) : Holds (turn m x n add) y k ↔ if y = x ∧ k = n then add = true else Holds m y k := by
  unfold Holds
  rw [turn_len]
  by_cases hy : 0 ≤ y ∧ y < (m.length : Int)
  · rw [turn_at hx]
    by_cases h1 : y = x
    · subst h1
      rw [if_pos rfl, mem_keep]
      by_cases h2 : k = n
      · subst h2
        simp [hy, hn]
      · rw [if_neg h2, if_neg (fun h3 => h2 h3.2)]
        exact ⟨fun h3 => ⟨hy, h3.2.2⟩, fun h3 => ⟨hy, (hR.row (by omega)).2.1 k h3.2, h3.2⟩⟩
    · rw [if_neg (by omega), if_neg (fun h3 => h1 h3.1)]
  · rw [if_neg (fun h3 => hy (by rw [h3.1]; exact hx))]
    exact ⟨fun h3 => absurd h3.1 hy, fun h3 => absurd h3.1 hy⟩
theorem turn_back (hR : Right e m) (hx : 0 ≤ x ∧ x < (m.length : Int)) (hn : ¬ Holds m x n) : turn (turn m x n true) x n false = m := by
  have h1 : n ∉ m.getD x.toNat [] := fun h => hn ⟨hx, h⟩
  have h2 := turn_at (n := n) hx true x.toNat
  rw [if_pos rfl] at h2
  have h3 : turn (turn m x n true) x n false = (turn m x n true).set x.toNat (keep ((turn m x n true).getD x.toNat []) n false) := rfl
  rw [h3, h2, keep_back (hR.row (by omega)) h1]
  unfold turn
  rw [List.set_set]
  have hlt : x.toNat < m.length := by omega
  rw [List.getD_eq_getElem?_getD, List.getElem?_eq_getElem hlt]
  exact List.set_getElem_self hlt
end

/-! ### Rows, number by number -/
theorem take_one {l : List Int} {k : Nat} (h : k < l.length) : l.take (k + 1) = l.take k ++ [l.getD k 0] := by
  rw [List.take_succ_eq_append_getElem h, List.getD_eq_getElem?_getD, List.getElem?_eq_getElem h]; rfl
/-- The first k are as they should be. -/
def Upto (l : List Int) (k : Nat) : Prop := (∀ x ∈ l.take k, 1 ≤ x ∧ x ≤ 4) ∧ (l.take k).Pairwise (· < ·)
/-- And the one at k too. -/
def Next (l : List Int) (k : Nat) : Prop := (1 ≤ l.getD k 0 ∧ l.getD k 0 ≤ 4) ∧ (0 < k → l.getD (k - 1) 0 < l.getD k 0)
theorem upto_zero (l : List Int) : Upto l 0 := ⟨fun x hx => by simp at hx, by simp⟩
theorem Upto.last {l : List Int} {k : Nat} (h : Upto l k) (hk : k ≤ l.length) (h0 : 0 < k) : 1 ≤ l.getD (k - 1) 0 ∧ l.getD (k - 1) 0 ≤ 4 := by
  refine h.1 _ ?_
  have := take_one (l := l) (k := k - 1) (by omega)
  rw [show k - 1 + 1 = k by omega] at this
  rw [this]
  simp
theorem Upto.most {l : List Int} {k : Nat} (h : Upto l k) (hk : k ≤ l.length) {x : Int} (hx : x ∈ l.take k) : x ≤ l.getD (k - 1) 0 := by
  have h0 : 0 < k := by
    rcases Nat.eq_zero_or_pos k with h0 | h0
    · subst h0; simp at hx
    · exact h0
  have e := take_one (l := l) (k := k - 1) (by omega)
  rw [show k - 1 + 1 = k by omega] at e
  have h2 := h.2
  rw [e] at hx h2
  rcases List.mem_append.1 hx with h3 | h3
  · have := (List.pairwise_append.1 h2).2.2 x h3 (l.getD (k - 1) 0) (by simp); omega
  · rw [List.mem_singleton.1 h3]; exact Int.le_refl _
theorem Upto.next {l : List Int} {k : Nat} (h : Upto l k) (hk : k < l.length) (hn : Next l k) : Upto l (k + 1) := by
  unfold Upto
  rw [take_one hk]
  refine ⟨fun x hx => ?_, List.pairwise_append.2 ⟨h.2, by simp, fun x hx y hy => ?_⟩⟩
  · rcases List.mem_append.1 hx with h1 | h1
    · exact h.1 x h1
    · rw [List.mem_singleton.1 h1]; exact hn.1
  · rw [List.mem_singleton.1 hy]
    have h1 := h.most (by omega) hx
    have h0 : 0 < k := by
      rcases Nat.eq_zero_or_pos k with h0 | h0
      · subst h0; simp at hx
      · exact h0
    have := hn.2 h0
    omega
theorem not_next {l : List Int} {k : Nat} (hk : k < l.length) (hn : ¬ Next l k) : ¬ RowOk l := by
  rintro ⟨_, h1, h2⟩
  refine hn ⟨h1 _ (Mx.num_mem l k hk), fun h0 => ?_⟩
  have := List.pairwise_iff_getElem.1 h2 (k - 1) k (by omega) hk (by omega)
  rwa [List.getD_eq_getElem?_getD, List.getD_eq_getElem?_getD, List.getElem?_eq_getElem hk, List.getElem?_eq_getElem (by omega : k - 1 < l.length)]
theorem Upto.all {l : List Int} (h : Upto l l.length) (hl : l.length ≠ 0) : RowOk l := by
  unfold Upto at h
  rw [List.take_length] at h
  exact ⟨fun e => hl (by rw [e]; rfl), h.1, h.2⟩
theorem not_nil : ¬ RowOk [] := fun h => h.1 rfl
/-! ### What BinarySearch tells -/
theorem found_at {l : List Int} {n : Int} (h : RowOk l) (hn : n ∈ l) : l.countP (· < n) < l.length ∧ l.getD (l.countP (· < n)) 0 = n := by
  have : ∀ l ∈ rows, ∀ n ∈ l, l.countP (· < n) < l.length ∧ l.getD (l.countP (· < n)) 0 = n := by decide
  exact this l (row_there h) n hn
theorem right_all {e : Int} {m : List (List Int)} (h1 : 0 ≤ e ∧ e ≤ 2147483647) (h2 : m.length ≤ 8) (h3 : ∀ j, j < m.length → RowOk (m.getD j [])) : Right e m := by
  refine ⟨h1, h2, fun l hl => ?_⟩
  obtain ⟨j, hj, rfl⟩ := List.mem_iff_getElem.1 hl
  have := h3 j hj
  rwa [List.getD_eq_getElem?_getD, List.getElem?_eq_getElem hj] at this
theorem right_sized {e : Int} {m : List (List Int)} (h : Right e m) : ∀ l ∈ m, l.length ≤ 4 := fun l hl => (row_len (h.2.2 l hl)).2

/-! ### What Add and Retire answer: the epoch E, the holders M, the error X -/
def Add (e : Int) (m : List (List Int)) (x n E : Int) (M : List (List Int)) (X : Int) : Prop :=
  (Wrong e m x n ∧ e = E ∧ m = M ∧ 1 = X) ∨ (¬ Wrong e m x n ∧ Holds m x n ∧ e = E ∧ m = M ∧ 5 = X) ∨ (¬ Wrong e m x n ∧ ¬ Holds m x n ∧ e + 1 = E ∧ turn m x n true = M ∧ 0 = X)
def Ret (e : Int) (m : List (List Int)) (x n E : Int) (M : List (List Int)) (X : Int) : Prop :=
  (Wrong e m x n ∧ e = E ∧ m = M ∧ 1 = X) ∨ (¬ Wrong e m x n ∧ ¬ Holds m x n ∧ e = E ∧ m = M ∧ 4 = X) ∨ (¬ Wrong e m x n ∧ Holds m x n ∧ (m.getD x.toNat []).length = 1 ∧ e = E ∧ m = M ∧ 7 = X) ∨ (¬ Wrong e m x n ∧ Holds m x n ∧ (m.getD x.toNat []).length ≠ 1 ∧ e + 1 = E ∧ turn m x n false = M ∧ 0 = X)
section
variable {e : Int} {m : List (List Int)} {x n E : Int} {M : List (List Int)} {X : Int}
theorem Add.len (h : Add e m x n E M X) : M.length = m.length := by
  rcases h with ⟨_, _, rfl, _⟩ | ⟨_, _, _, rfl, _⟩ | ⟨_, _, _, rfl, _⟩
  · rfl
  · rfl
  · exact turn_len _ _ _ _
theorem Ret.len (h : Ret e m x n E M X) : M.length = m.length := by
  rcases h with ⟨_, _, rfl, _⟩ | ⟨_, _, _, rfl, _⟩ | ⟨_, _, _, _, rfl, _⟩ | ⟨_, _, _, _, rfl, _⟩
  · rfl
  · rfl
  · rfl
  · exact turn_len _ _ _ _
theorem Add.right (h : Add e m x n E M X) (hR : Right e m) : Right E M := by
  rcases h with ⟨_, rfl, rfl, _⟩ | ⟨_, _, rfl, rfl, _⟩ | ⟨hw, _, rfl, rfl, _⟩
  · exact hR
  · exact hR
  · exact add_right hw
theorem Ret.right (h : Ret e m x n E M X) (hR : Right e m) : Right E M := by
  rcases h with ⟨_, rfl, rfl, _⟩ | ⟨_, _, rfl, rfl, _⟩ | ⟨_, _, _, rfl, rfl, _⟩ | ⟨hw, _, h3, rfl, rfl, _⟩
  · exact hR
  · exact hR
  · exact hR
  · exact ret_right hw h3
end

/-! ### The document's way, node by node -/
section
variable {i : Nat} {x y : Int} {add : Bool} {l : List Int} {j : Nat}
end
end Go.Proofs.YtokfcjgfpchffaaGreatDoor.Pl

/- What follows of the answers of Add and Retire, as lists (no program in sight). -/
namespace Go.Proofs.YtokfcjgfpchffaaGreatDoor.Pl
open Go.Proofs.YtokfcjgfpchffaaGreatDoor

theorem keep_len (l : List Int) (n : Int) (add : Bool) : (keep l n add).length ≤ 4 := by
  unfold keep
  exact Nat.le_trans (List.length_filter_le _ _) (by simp)
section
variable {e : Int} {m : List (List Int)} {x n E E2 : Int} {M M2 : List (List Int)} {X X2 : Int}
theorem turn_rows_le {K : Nat} (hK : 4 ≤ K) (hm : ∀ l ∈ m, l.length ≤ K) (add : Bool) : ∀ l ∈ turn m x n add, l.length ≤ K := by
  intro l hl
  unfold turn at hl
  rcases List.mem_or_eq_of_mem_set hl with h2 | h2
  · exact hm l h2
  · rw [h2]; exact Nat.le_trans (keep_len _ _ _) hK
theorem Add.rows (h : Add e m x n E M X) {K : Nat} (hK : 4 ≤ K) (hm : ∀ l ∈ m, l.length ≤ K) : ∀ l ∈ M, l.length ≤ K := by
  rcases h with ⟨_, _, rfl, _⟩ | ⟨_, _, _, rfl, _⟩ | ⟨_, _, _, rfl, _⟩
  · exact hm
  · exact hm
  · exact turn_rows_le hK hm true
theorem Ret.rows (h : Ret e m x n E M X) {K : Nat} (hK : 4 ≤ K) (hm : ∀ l ∈ m, l.length ≤ K) : ∀ l ∈ M, l.length ≤ K := by
  rcases h with ⟨_, _, rfl, _⟩ | ⟨_, _, _, rfl, _⟩ | ⟨_, _, _, _, rfl, _⟩ | ⟨_, _, _, _, rfl, _⟩
  · exact hm
  · exact hm
  · exact hm
  · exact turn_rows_le hK hm false
theorem add_two {l : List Int} {n : Int} (h : RowOk l) (h1 : 1 ≤ n) (h2 : n ≤ 4) (hn : n ∉ l) : (keep l n true).length ≠ 1 := by
  have : ∀ l ∈ rows, ∀ n ∈ ([1, 2, 3, 4] : List Int), n ∉ l → (keep l n true).length ≠ 1 := by decide
  exact this l (row_there h) n (node_there h1 h2) hn
theorem back (hw : ¬ Wrong e m x n) (hh : ¬ Holds m x n) (he : e < 2147483646) (h : Ret (e + 1) (turn m x n true) x n E2 M2 X2) : e + 2 = E2 ∧ m = M2 ∧ 0 = X2 := by
  obtain ⟨hR, hx, hn, _⟩ := not_wrong hw
  have hw2 : ¬ Wrong (e + 1) (turn m x n true) x n := by
    rintro (h1 | h1 | h1 | h1)
    · exact h1 (add_right hw)
    · rw [turn_len] at h1; exact h1 hx
    · exact h1 hn
    · omega
  have hh2 : Holds (turn m x n true) x n := (turn_holds hx hn hR true x n).2 (by rw [if_pos ⟨rfl, rfl⟩])
  have h3 : ((turn m x n true).getD x.toNat []).length ≠ 1 := by
    rw [turn_at hx, if_pos rfl]
    exact add_two (hR.row (by omega)) hn.1 hn.2 fun h4 => hh ⟨hx, h4⟩
  rcases h with ⟨h1, _⟩ | ⟨_, h1, _⟩ | ⟨_, _, h1, _⟩ | ⟨_, _, _, h4, h5, h6⟩
  · exact absurd h1 hw2
  · exact absurd hh2 h1
  · exact absurd h1 h3
  · exact ⟨by omega, by rw [← h5]; exact (turn_back hR hx hh).symm, h6⟩
theorem Add.done (h : Add e m x n E M X) (h0 : X = 0) : E = e + 1 ∧ Holds M x n := by
  rcases h with ⟨_, _, _, rfl⟩ | ⟨_, _, _, _, rfl⟩ | ⟨hw, _, rfl, rfl, _⟩
  · omega
  · omega
  · obtain ⟨hR, hx, hn, _⟩ := not_wrong hw
    exact ⟨rfl, (turn_holds hx hn hR true x n).2 (by rw [if_pos ⟨rfl, rfl⟩])⟩
theorem Ret.done (h : Ret e m x n E M X) (h0 : X = 0) : E = e + 1 ∧ ¬ Holds M x n := by
  rcases h with ⟨_, _, _, rfl⟩ | ⟨_, _, _, _, rfl⟩ | ⟨_, _, _, _, _, rfl⟩ | ⟨hw, _, _, rfl, rfl, _⟩
  · omega
  · omega
  · omega
  · obtain ⟨hR, hx, hn, _⟩ := not_wrong hw
    exact ⟨rfl, fun h1 => by have := (turn_holds hx hn hR false x n).1 h1; rw [if_pos ⟨rfl, rfl⟩] at this; cases this⟩
theorem Add.still (h : Add e m x n E M X) (h0 : X ≠ 0) : E = e := by
  rcases h with ⟨_, rfl, _, _⟩ | ⟨_, _, rfl, _, _⟩ | ⟨_, _, _, _, rfl⟩
  · rfl
  · rfl
  · exact absurd rfl h0
theorem Ret.still (h : Ret e m x n E M X) (h0 : X ≠ 0) : E = e := by
  rcases h with ⟨_, rfl, _, _⟩ | ⟨_, _, rfl, _, _⟩ | ⟨_, _, _, rfl, _, _⟩ | ⟨_, _, _, _, _, rfl⟩
  · rfl
  · rfl
  · rfl
  · exact absurd rfl h0
end
end Go.Proofs.YtokfcjgfpchffaaGreatDoor.Pl
