/- 13 texts as one, in their order: Vx, Vy, Mx, Ex, Tx, Sx, Gx, Fl, Md, Me, Mo, Pl, Pm. -/
import Derived.Test.YtfidgcanolegfaaGreatFx
import Derived.Test.YtfidgcanolegfaaGreatJa
import Derived.Laws.OwnMore

/- Rows of numbers as lists (no program in sight): what Dot, Add, Scale and Relu are as functions on lists of integers, one number more at a time, and the laws that the statements of layer 2 rest on. -/
namespace Go.Proofs.YtfidgcanolegfaaGreat.Vx
open Go.Proofs.YtfidgcanolegfaaGreat

def dotFrom (s : Int) : List Int → List Int → Int
  | x :: a, y :: b => dotFrom (Fx.add s (Fx.mul x y)) a b
  | _, _ => s
def dot (a b : List Int) : Int := dotFrom 0 a b
def add (a b : List Int) : List Int := List.zipWith Fx.add a b
def scale (a : List Int) (k : Int) : List Int := a.map fun n => Fx.mul n k
def rel (n : Int) : Int := if Fx.hold n < 0 then 0 else Fx.hold n
def relu (a : List Int) : List Int := a.map rel

def little (a : List Int) : List Int := a.map fun n => n.tmod 1048576

theorem dotFrom_snoc (s : Int) (a b : List Int) (x y : Int) (h : a.length = b.length) : dotFrom s (a ++ [x]) (b ++ [y]) = Fx.add (dotFrom s a b) (Fx.mul x y) := by
  induction a generalizing s b with
  | nil => cases b with
    | nil => rfl
    | cons _ _ => simp at h
  | cons z a ih => cases b with
    | nil => simp at h
    | cons u b => exact ih _ b (by simpa using h)
theorem dot_succ (a b : List Int) (k : Nat) (ha : k < a.length) (hb : k < b.length) : dot (a.take (k + 1)) (b.take (k + 1)) = Fx.add (dot (a.take k) (b.take k)) (Fx.mul (a.getD k 0) (b.getD k 0)) := by
  rw [take_snoc a k ha, take_snoc b k hb]
  exact dotFrom_snoc 0 _ _ _ _ (by simp; omega)
theorem dotFrom_held (s : Int) (a b : List Int) (h1 : -2147483647 ≤ s) (h2 : s ≤ 2147483647) : -2147483647 ≤ dotFrom s a b ∧ dotFrom s a b ≤ 2147483647 := by
  induction a generalizing s b with
  | nil => exact ⟨h1, h2⟩
  | cons z a ih => cases b with
    | nil => exact ⟨h1, h2⟩
    | cons u b => exact ih _ b (Fx.add_lo _ _) (Fx.add_hi _ _)
theorem dot_lo (a b : List Int) : -2147483647 ≤ dot a b := (dotFrom_held 0 a b (by omega) (by omega)).1
theorem dot_hi (a b : List Int) : dot a b ≤ 2147483647 := (dotFrom_held 0 a b (by omega) (by omega)).2
/-- The document's step: the sum of a held number and a product, held. -/
theorem hold_step (a b : List Int) (x y : Int) : Fx.hold (dot a b + Fx.mul x y) = Fx.add (dot a b) (Fx.mul x y) := by
  unfold Fx.add
  rw [Fx.hold_id (dot_lo a b) (dot_hi a b), Fx.hold_id (Fx.mul_lo x y) (Fx.mul_hi x y)]
theorem dotFrom_comm (s : Int) (a b : List Int) : dotFrom s a b = dotFrom s b a := by
  induction a generalizing s b with
  | nil => cases b <;> rfl
  | cons z a ih => cases b with
    | nil => rfl
    | cons u b => show dotFrom (Fx.add s (Fx.mul z u)) a b = dotFrom (Fx.add s (Fx.mul u z)) b a; rw [Fx.mul_comm z u]; exact ih _ b
theorem dot_comm (a b : List Int) : dot a b = dot b a := dotFrom_comm 0 a b
theorem add_comm (a b : List Int) : add a b = add b a := List.zipWith_comm_of_comm Fx.add_comm
theorem add_length (a b : List Int) (h : a.length = b.length) : (add a b).length = a.length := by simp [add]; omega
theorem add_succ (a b : List Int) (k : Nat) (ha : k < a.length) (hb : k < b.length) : add (a.take (k + 1)) (b.take (k + 1)) = add (a.take k) (b.take k) ++ [Fx.add (a.getD k 0) (b.getD k 0)] := by
  rw [take_snoc a k ha, take_snoc b k hb]
  unfold add
  rw [List.zipWith_append (by simp; omega)]
  rfl
theorem add_take_length (a b : List Int) (k : Nat) (ha : k ≤ a.length) (hb : k ≤ b.length) : (add (a.take k) (b.take k)).length = k := by simp [add]; omega
theorem scale_succ (a : List Int) (c : Int) (k : Nat) (ha : k < a.length) : scale (a.take (k + 1)) c = scale (a.take k) c ++ [Fx.mul (a.getD k 0) c] := by
  rw [take_snoc a k ha]; simp [scale]
theorem relu_succ (a : List Int) (k : Nat) (ha : k < a.length) : relu (a.take (k + 1)) = relu (a.take k) ++ [rel (a.getD k 0)] := by
  rw [take_snoc a k ha]; simp [relu]
theorem little_succ (a : List Int) (k : Nat) (ha : k < a.length) : little (a.take (k + 1)) = little (a.take k) ++ [(a.getD k 0).tmod 1048576] := by
  rw [take_snoc a k ha]; simp [little]
theorem scale_length (a : List Int) (c : Int) : (scale a c).length = a.length := by simp [scale]
theorem relu_length (a : List Int) : (relu a).length = a.length := by simp [relu]

theorem add_nonneg {a b : Int} (ha : 0 ≤ a) (hb : 0 ≤ b) : 0 ≤ Fx.add a b := by
  have h1 := Fx.hold_mono ha; have h2 := Fx.hold_mono hb
  have h0 : Fx.hold 0 = 0 := rfl
  have h : Fx.hold 0 ≤ Fx.add a b := Fx.hold_mono (by omega)
  omega
theorem dotFrom_self (s : Int) (a : List Int) (h : 0 ≤ s) : 0 ≤ dotFrom s a a := by
  induction a generalizing s with
  | nil => exact h
  | cons x a ih => exact ih _ (add_nonneg h (Fx.mul_self x))
theorem dot_self (a : List Int) : 0 ≤ dot a a := dotFrom_self 0 a (Int.le_refl _)

end Go.Proofs.YtfidgcanolegfaaGreat.Vx

/- Laws on rows of numbers as lists (no program in sight) that the statements of layer 2 rest on: noughts, One, and rows put together. -/
namespace Go.Proofs.YtfidgcanolegfaaGreat.Vx
open Go.Proofs.YtfidgcanolegfaaGreat

theorem dotFrom_zeros (s : Int) (a : List Int) (h1 : -2147483647 ≤ s) (h2 : s ≤ 2147483647) : dotFrom s a (List.replicate a.length 0) = s := by
  induction a generalizing s with
  | nil => rfl
  | cons x a ih =>
    show dotFrom (Fx.add s (Fx.mul x 0)) a (List.replicate a.length 0) = s
    have e : Fx.add s (Fx.mul x 0) = s := by
      rw [Fx.mul_zero]; unfold Fx.add
      rw [show Fx.hold 0 = 0 from rfl, Int.add_zero, Fx.hold_hold, Fx.hold_id h1 h2]
    rw [e]; exact ih s h1 h2
theorem dot_zeros (a : List Int) : dot a (List.replicate a.length 0) = 0 := dotFrom_zeros 0 a (by omega) (by omega)
theorem rel_lo (n : Int) : 0 ≤ rel n := by unfold rel; split <;> omega
theorem rel_hi (n : Int) : rel n ≤ 2147483647 := by unfold rel; have := Fx.hold_hi n; split <;> omega
theorem hold_rel (n : Int) : Fx.hold (rel n) = rel n := Fx.hold_id (by have := rel_lo n; omega) (rel_hi n)
theorem rel_rel (n : Int) : rel (rel n) = rel n := by
  have h := rel_lo n
  show (if Fx.hold (rel n) < 0 then 0 else Fx.hold (rel n)) = rel n
  rw [hold_rel, if_neg (by omega)]
theorem relu_relu (a : List Int) : relu (relu a) = relu a := by
  simp [relu, rel_rel]
theorem add_relu_zeros (a : List Int) : add (relu a) (List.replicate a.length 0) = relu a := by
  induction a with
  | nil => rfl
  | cons x a ih =>
    show Fx.add (rel x) 0 :: add (relu a) (List.replicate a.length 0) = rel x :: relu a
    have e : Fx.add (rel x) 0 = rel x := by
      unfold Fx.add
      rw [show Fx.hold 0 = 0 from rfl, Int.add_zero, Fx.hold_hold, hold_rel]
    rw [e, ih]

theorem dotFrom_unit (s : Int) (a : List Int) (i : Nat) (h1 : -2147483647 ≤ s) (h2 : s ≤ 2147483647) (hi : i < a.length) :
    dotFrom s a ((List.replicate a.length 0).set i 65536) = Fx.add s (Fx.mul (a.getD i 0) 65536) := by
  induction a generalizing s i with
  | nil => simp at hi
  | cons x a ih =>
    cases i with
    | zero =>
      show dotFrom (Fx.add s (Fx.mul x 65536)) a (List.replicate a.length 0) = Fx.add s (Fx.mul x 65536)
      exact dotFrom_zeros _ a (Fx.add_lo _ _) (Fx.add_hi _ _)
    | succ i =>
      show dotFrom (Fx.add s (Fx.mul x 0)) a ((List.replicate a.length 0).set i 65536) = Fx.add s (Fx.mul (a.getD i 0) 65536)
      have e : Fx.add s (Fx.mul x 0) = s := by
        rw [Fx.mul_zero]; unfold Fx.add
        rw [show Fx.hold 0 = 0 from rfl, Int.add_zero, Fx.hold_hold, Fx.hold_id h1 h2]
      rw [e]; exact ih s i h1 h2 (by simpa using hi)
theorem dot_unit (a : List Int) (i : Nat) (hi : i < a.length) : dot a ((List.replicate a.length 0).set i 65536) = Fx.hold (a.getD i 0) := by
  unfold dot
  rw [dotFrom_unit 0 a i (by omega) (by omega) hi, Fx.mul_one]
  unfold Fx.add
  rw [show Fx.hold 0 = 0 from rfl, Int.zero_add, Fx.hold_hold, Fx.hold_hold]
theorem scale_at (a : List Int) (c : Int) (i : Nat) (hi : i < a.length) : (scale a c).getD i 0 = Fx.mul (a.getD i 0) c := by
  rw [List.getD_eq_getElem?_getD, List.getD_eq_getElem?_getD]
  simp [scale, List.getElem?_eq_getElem hi]

end Go.Proofs.YtfidgcanolegfaaGreat.Vx

/- Rows of rows of numbers as lists (no program in sight): what Small, Right and Apply are as functions on lists, and the laws that the statements of layer 3 rest on. -/
namespace Go.Proofs.YtfidgcanolegfaaGreat.Mx
open Go.Proofs.YtfidgcanolegfaaGreat

def Small (m : List (List Int)) : Prop := m.length ≤ 30 ∧ ∀ l ∈ m, l.length ≤ 30
def In (l : List Int) : Prop := ∀ n ∈ l, Fx.hold n = n
def Right (m : List (List Int)) (rows columns : Int) : Prop := (m.length : Int) = rows ∧ ∀ l ∈ m, (l.length : Int) = columns ∧ In l
def Fits (m : List (List Int)) (n : Nat) : Prop := ∀ l ∈ m, l.length = n
def app (m : List (List Int)) (v : List Int) : List Int := m.map fun l => Vx.dot l v

theorem app_length (m : List (List Int)) (v : List Int) : (app m v).length = m.length := by simp [app]
theorem take_row (m : List (List Int)) (j : Nat) (h : j < m.length) : m.take (j + 1) = m.take j ++ [m.getD j []] := by
  rw [List.take_succ_eq_append_getElem h, List.getD_eq_getElem?_getD, List.getElem?_eq_getElem h]; rfl
theorem app_succ (m : List (List Int)) (v : List Int) (k : Nat) (h : k < m.length) : app (m.take (k + 1)) v = app (m.take k) v ++ [Vx.dot (m.getD k []) v] := by
  rw [take_row m k h]; simp [app]
theorem getD_mem (m : List (List Int)) (k : Nat) (h : k < m.length) : m.getD k [] ∈ m := by
  rw [List.getD_eq_getElem?_getD, List.getElem?_eq_getElem h]; exact List.getElem_mem h
theorem num_mem (l : List Int) (k : Nat) (h : k < l.length) : l.getD k 0 ∈ l := by
  rw [List.getD_eq_getElem?_getD, List.getElem?_eq_getElem h]; exact List.getElem_mem h
/-- One more. -/
theorem all_succ {α : Type} {P : α → Prop} {m : List α} {k : Nat} {d : α} (h : k < m.length) (h1 : ∀ x ∈ m.take k, P x) (h2 : P (m.getD k d)) : ∀ x ∈ m.take (k + 1), P x := by
  intro x hx
  rw [List.take_succ_eq_append_getElem h] at hx
  rcases List.mem_append.1 hx with hx | hx
  · exact h1 x hx
  · have e : x = m[k] := by simpa using hx
    rw [List.getD_eq_getElem?_getD, List.getElem?_eq_getElem h] at h2
    subst e; exact h2
theorem all_full {α : Type} {P : α → Prop} {m : List α} {k : Nat} (h : m.length ≤ k) (h1 : ∀ x ∈ m.take k, P x) : ∀ x ∈ m, P x := by
  rwa [List.take_of_length_le h] at h1
theorem all_zero {α : Type} {P : α → Prop} {m : List α} : ∀ x ∈ m.take 0, P x := by simp
theorem hold_iff (n : Int) : Fx.hold n = n ↔ ¬ (2147483647 < n ∨ n < -2147483647) := by
  constructor
  · intro h hh
    have h1 := Fx.hold_lo n; have h2 := Fx.hold_hi n
    omega
  · intro h; exact Fx.hold_id (by omega) (by omega)

end Go.Proofs.YtfidgcanolegfaaGreat.Mx

/- Experts as lists of rows (no program in sight): what Right and Run are as functions on lists, and the laws that the statements of layer 11 rest on. -/
namespace Go.Proofs.YtfidgcanolegfaaGreat.Ex
open Go.Proofs.YtfidgcanolegfaaGreat

def Right (mi mo : List (List Int)) (dim : Int) : Prop := (1 ≤ dim ∧ dim ≤ 8) ∧ (1 ≤ mi.length ∧ mi.length ≤ 8) ∧ Mx.Right mi mi.length dim ∧ Mx.Right mo dim mi.length
def run (mi mo : List (List Int)) (v : List Int) : List Int := Mx.app mo (Vx.relu (Mx.app mi v))
/-- No more than can be walked. -/
def Sized (m : List (List Int)) : Prop := m.length ≤ 100000 ∧ ∀ l ∈ m, l.length ≤ 100000

section
variable {mi mo : List (List Int)} {n : Nat}
theorem Right.fitsIn (h : Right mi mo n) : Mx.Fits mi n := fun l hl => by have := (h.2.2.1.2 l hl).1; omega
theorem Right.fitsOut (h : Right mi mo n) : Mx.Fits mo mi.length := fun l hl => by have := (h.2.2.2.2 l hl).1; omega
theorem Right.len (h : Right mi mo n) : mo.length = n := by have := h.2.2.2.1; omega
theorem Right.pos (h : Right mi mo n) : 1 ≤ n ∧ n ≤ 8 := by have := h.1; omega
theorem run_length (v : List Int) (h : Right mi mo n) : (run mi mo v).length = n := by unfold run; rw [Mx.app_length]; exact h.len
/-- For one number of numbers alone. -/
theorem Right.other (h : Right mi mo n) {k : Int} (hk : k ≠ n) : ¬ Right mi mo k := fun g => by
  have := g.2.2.2.1; have := h.2.2.2.1; omega
theorem small_sized {m : List (List Int)} (h : Mx.Small m) : Sized m := ⟨by have := h.1; omega, fun l hl => by have := h.2 l hl; omega⟩

theorem app_held (m : List (List Int)) (v : List Int) : ∀ x ∈ Mx.app m v, x ≤ 2147483647 ∧ -2147483647 ≤ x := by
  intro x hx
  obtain ⟨l, _, rfl⟩ := List.mem_map.1 hx
  exact ⟨Vx.dot_hi l v, Vx.dot_lo l v⟩
theorem run_held (mi mo : List (List Int)) (v : List Int) : ∀ x ∈ run mi mo v, x ≤ 2147483647 ∧ -2147483647 ≤ x := app_held _ _

theorem app_zeros {m : List (List Int)} {n : Nat} (h : Mx.Fits m n) : Mx.app m (List.replicate n 0) = List.replicate m.length 0 := by
  induction m with
  | nil => rfl
  | cons l m ih =>
    have e : l.length = n := h l (by simp)
    have i := ih fun k hk => h k (by simp [hk])
    show Vx.dot l (List.replicate n 0) :: Mx.app m (List.replicate n 0) = List.replicate (m.length + 1) 0
    rw [i, List.replicate_succ, ← e, Vx.dot_zeros]
theorem relu_zeros (n : Nat) : Vx.relu (List.replicate n 0) = List.replicate n 0 := by
  unfold Vx.relu; rw [List.map_replicate]; rfl
theorem run_zeros (h : Right mi mo n) : run mi mo (List.replicate n 0) = List.replicate n 0 := by
  unfold run; rw [app_zeros h.fitsIn, relu_zeros, app_zeros h.fitsOut, h.len]

/-- Out's first row as noughts. -/
theorem in_zeros (k : Nat) : Mx.In (List.replicate k 0) := fun x hx => by rw [List.eq_of_mem_replicate hx]; rfl
theorem Right.none (h : Right mi mo n) : Right mi (mo.set 0 (List.replicate mi.length 0)) n := by
  refine ⟨h.1, h.2.1, h.2.2.1, by rw [List.length_set]; exact h.2.2.2.1, fun l hl => ?_⟩
  rcases List.mem_or_eq_of_mem_set hl with hl | rfl
  · exact h.2.2.2.2 l hl
  · exact ⟨by simp, in_zeros _⟩
theorem set_sized {m : List (List Int)} (h : Sized m) {k : Nat} (hk : k ≤ 100000) : Sized (m.set 0 (List.replicate k 0)) := by
  refine ⟨by rw [List.length_set]; exact h.1, fun l hl => ?_⟩
  rcases List.mem_or_eq_of_mem_set hl with hl | rfl
  · exact h.2 l hl
  · simpa using hk
theorem dot_none (v : List Int) : Vx.dot (List.replicate v.length 0) v = 0 := by rw [Vx.dot_comm]; exact Vx.dot_zeros v
theorem run_none (v : List Int) (h : Right mi mo n) : (run mi (mo.set 0 (List.replicate mi.length 0)) v).getD 0 0 = 0 := by
  have hl := h.len
  have hp := h.pos
  cases mo with
  | nil => simp at hl; omega
  | cons l m =>
    have e : (Vx.relu (Mx.app mi v)).length = mi.length := by rw [Vx.relu_length, Mx.app_length]
    show (Vx.dot (List.replicate mi.length 0) (Vx.relu (Mx.app mi v)) :: Mx.app m (Vx.relu (Mx.app mi v))).getD 0 0 = 0
    rw [← e, dot_none]; rfl

/-- Two experts side by side. -/
theorem hold_mul (a b : Int) : Fx.hold (Fx.mul a b) = Fx.mul a b := Fx.hold_id (Fx.mul_lo a b) (Fx.mul_hi a b)
theorem add_zero_mul (a b : Int) : Fx.add 0 (Fx.mul a b) = Fx.mul a b := by
  unfold Fx.add
  rw [hold_mul, show Fx.hold 0 = 0 from rfl, Int.zero_add, hold_mul]
theorem run_one (a b v : Int) : run [[a]] [[b]] [v] = [Fx.mul b (Vx.rel (Fx.mul a v))] := by
  show [Fx.add 0 (Fx.mul b (Vx.rel (Fx.add 0 (Fx.mul a v))))] = _
  rw [add_zero_mul, add_zero_mul]
theorem run_joined (a b c d v : Int) : run [[a], [c]] [[b, d]] [v] = Vx.add (run [[a]] [[b]] [v]) (run [[c]] [[d]] [v]) := by
  rw [run_one, run_one]
  show [Fx.add (Fx.add 0 (Fx.mul b (Vx.rel (Fx.add 0 (Fx.mul a v))))) (Fx.mul d (Vx.rel (Fx.add 0 (Fx.mul c v))))] = [Fx.add (Fx.mul b (Vx.rel (Fx.mul a v))) (Fx.mul d (Vx.rel (Fx.mul c v)))]
  rw [add_zero_mul, add_zero_mul, add_zero_mul]
theorem in_one {a : Int} (h : Fx.hold a = a) : Mx.In [a] := fun x hx => by simp at hx; subst hx; exact h
theorem in_two {a b : Int} (h : Fx.hold a = a) (k : Fx.hold b = b) : Mx.In [a, b] := fun x hx => by
  simp at hx
  rcases hx with rfl | rfl
  · exact h
  · exact k
theorem right_one {a b : Int} (h : Fx.hold a = a) (k : Fx.hold b = b) : Right [[a]] [[b]] 1 := by
  refine ⟨by omega, by simp, ⟨rfl, fun l hl => ?_⟩, ⟨rfl, fun l hl => ?_⟩⟩
  · simp at hl; subst hl; exact ⟨rfl, in_one h⟩
  · simp at hl; subst hl; exact ⟨rfl, in_one k⟩
theorem right_joined {a b c d : Int} (ha : Fx.hold a = a) (hb : Fx.hold b = b) (hc : Fx.hold c = c) (hd : Fx.hold d = d) : Right [[a], [c]] [[b, d]] 1 := by
  refine ⟨by omega, by simp, ⟨rfl, fun l hl => ?_⟩, ⟨rfl, fun l hl => ?_⟩⟩
  · simp at hl
    rcases hl with rfl | rfl
    · exact ⟨rfl, in_one ha⟩
    · exact ⟨rfl, in_one hc⟩
  · simp at hl; subst hl; exact ⟨rfl, in_two hb hd⟩
end

end Go.Proofs.YtfidgcanolegfaaGreat.Ex

/- The greatest of numbers, and the greatest of the others, as functions on lists (no program in sight), and the laws that the statements of layer 4 rest on. -/
namespace Go.Proofs.YtfidgcanolegfaaGreat.Tx
open Go.Proofs.YtfidgcanolegfaaGreat

/-- The place of the first greatest one of the first k numbers, but for one place; -1: there is none. -/
def pick (l : List Int) (but : Int) : Nat → Int
  | 0 => -1
  | k + 1 => if (k : Int) ≠ but ∧ (pick l but k = -1 ∨ l.getD (pick l but k).toNat 0 < l.getD k 0) then (k : Int) else pick l but k

/-- What that is, by its property alone. -/
def Is (g : Nat → Int) (but : Int) (k : Nat) (r : Int) : Prop :=
  (r = -1 ∧ ∀ i : Nat, i < k → (i : Int) = but) ∨ ∃ j : Nat, j < k ∧ r = j ∧ (j : Int) ≠ but ∧ ∀ i : Nat, i < k → (i : Int) ≠ but → g i ≤ g j ∧ (i < j → g i < g j)

theorem Is.eq {g : Nat → Int} {but : Int} {k : Nat} {r s : Int} (h : Is g but k r) (h' : Is g but k s) : r = s := by
  rcases h with ⟨rfl, h⟩ | ⟨j, hj, rfl, hb, h⟩
  · rcases h' with ⟨rfl, _⟩ | ⟨j', hj', rfl, hb', _⟩
    · rfl
    · exact absurd (h j' hj') hb'
  · rcases h' with ⟨rfl, h'⟩ | ⟨j', hj', rfl, hb', h'⟩
    · exact absurd (h' j hj) hb
    · have h1 := h j' hj' hb'
      have h2 := h' j hj hb
      have : j = j' := by
        rcases Nat.lt_trichotomy j j' with c | c | c
        · have := h2.2 c; have := h1.1; omega
        · exact c
        · have := h1.2 c; have := h2.1; omega
      rw [this]

theorem Is.mono {g g' : Nat → Int} {but : Int} {k : Nat} {r : Int} (h : Is g but k r) (hg : ∀ i : Nat, i < k → g' i = g i) : Is g' but k r := by
  rcases h with h | ⟨j, hj, rfl, hb, h⟩
  · exact .inl h
  · refine .inr ⟨j, hj, rfl, hb, fun i hi hbi => ?_⟩
    rw [hg i hi, hg j hj]; exact h i hi hbi

/-- One number more. -/
theorem Is.skip {g : Nat → Int} {but : Int} {k : Nat} {r : Int} (h : Is g but k r) (hb : (k : Int) = but) : Is g but (k + 1) r := by
  rcases h with ⟨rfl, h⟩ | ⟨j, hj, rfl, hbj, h⟩
  · refine .inl ⟨rfl, fun i hi => ?_⟩
    by_cases c : i < k
    · exact h i c
    · have : i = k := by omega
      rw [this]; exact hb
  · refine .inr ⟨j, by omega, rfl, hbj, fun i hi hbi => ?_⟩
    by_cases c : i < k
    · exact h i c hbi
    · have : i = k := by omega
      rw [this] at hbi; exact absurd hb hbi
theorem Is.stay {g : Nat → Int} {but : Int} {k j : Nat} (h : Is g but k j) (hl : g k ≤ g j) : Is g but (k + 1) j := by
  rcases h with ⟨h, _⟩ | ⟨j', hj, e, hbj, h⟩
  · omega
  · have : j = j' := by omega
    subst this
    refine .inr ⟨j, by omega, rfl, hbj, fun i hi hbi => ?_⟩
    by_cases c : i < k
    · exact h i c hbi
    · have : i = k := by omega
      subst this; exact ⟨hl, fun c => by omega⟩
theorem Is.next {g : Nat → Int} {but : Int} {k : Nat} {r : Int} (h : Is g but k r) (hb : (k : Int) ≠ but) (hl : r = -1 ∨ ∃ j : Nat, r = j ∧ g j < g k) : Is g but (k + 1) k := by
  refine .inr ⟨k, by omega, rfl, hb, fun i hi hbi => ?_⟩
  by_cases c : i < k
  · rcases h with ⟨_, h⟩ | ⟨j, hj, rfl, _, h⟩
    · exact absurd (h i c) hbi
    · rcases hl with hl | ⟨j', e, hl⟩
      · omega
      · have : j = j' := by omega
        subst this
        have := (h i c hbi).1
        exact ⟨by omega, fun _ => by omega⟩
  · have : i = k := by omega
    subst this; exact ⟨Int.le_refl _, fun c => by omega⟩

theorem pick_is (l : List Int) (but : Int) (k : Nat) : Is (fun i => l.getD i 0) but k (pick l but k) := by
  induction k with
  | zero => exact .inl ⟨rfl, fun i hi => by omega⟩
  | succ k ih =>
    have hc : pick l but k = -1 ∨ ∃ j : Nat, pick l but k = j := by
      rcases ih with ⟨h, _⟩ | ⟨j, _, h, _⟩
      · exact .inl h
      · exact .inr ⟨j, h⟩
    unfold pick
    by_cases hb : (k : Int) = but
    · rw [if_neg (fun h => h.1 hb)]; exact ih.skip hb
    · rcases hc with hm | ⟨j, hj⟩
      · rw [if_pos ⟨hb, .inl hm⟩]; exact ih.next hb (.inl hm)
      · by_cases hl : l.getD j 0 < l.getD k 0
        · rw [if_pos ⟨hb, .inr (by rw [hj]; exact hl)⟩]; exact ih.next hb (.inr ⟨j, hj, hl⟩)
        · rw [if_neg (fun h => by
            rcases h.2 with h | h
            · omega
            · rw [hj] at h; exact hl h), hj]
          rw [hj] at ih
          exact ih.stay (by omega)

/-- As the loop takes it. -/
theorem pick_but {l : List Int} {but : Int} {k : Nat} (h : (k : Int) = but) : pick l but (k + 1) = pick l but k := by
  rw [pick, if_neg (fun c => c.1 h)]
theorem pick_one {l : List Int} {but : Int} {k : Nat} (h : (k : Int) ≠ but) (hm : pick l but k = -1) : pick l but (k + 1) = k := by
  rw [pick, if_pos ⟨h, .inl hm⟩]
theorem pick_more {l : List Int} {but : Int} {k j : Nat} (h : (k : Int) ≠ but) (hj : pick l but k = j) (hl : l.getD j 0 < l.getD k 0) : pick l but (k + 1) = k := by
  rw [pick, if_pos ⟨h, .inr (by rw [hj]; exact hl)⟩]
theorem pick_stay {l : List Int} {but : Int} {k j : Nat} (hj : pick l but k = j) (hl : ¬ l.getD j 0 < l.getD k 0) : pick l but (k + 1) = pick l but k := by
  rw [pick, if_neg]
  intro h
  rcases h.2 with h | h
  · omega
  · rw [hj] at h; exact hl h
theorem pick_or (l : List Int) (but : Int) (k : Nat) : pick l but k = -1 ∨ ∃ j : Nat, j < k ∧ pick l but k = j := by
  rcases pick_is l but k with ⟨h, _⟩ | ⟨j, hj, h, _⟩
  · exact .inl h
  · exact .inr ⟨j, hj, h⟩

/-- The greatest one's place, and the greatest other one's. -/
def best (l : List Int) : Int := pick l (-1) l.length
def second (l : List Int) : Int := pick l (best l) l.length

theorem best_is (l : List Int) : Is (fun i => l.getD i 0) (-1) l.length (best l) := pick_is _ _ _
theorem second_is (l : List Int) : Is (fun i => l.getD i 0) (best l) l.length (second l) := pick_is _ _ _

theorem best_at {l : List Int} (h : 1 ≤ l.length) : ∃ j : Nat, j < l.length ∧ best l = j ∧ ∀ i : Nat, i < l.length → l.getD i 0 ≤ l.getD j 0 ∧ (i < j → l.getD i 0 < l.getD j 0) := by
  rcases best_is l with ⟨_, h0⟩ | ⟨j, hj, e, _, h1⟩
  · have := h0 0 (by omega); omega
  · exact ⟨j, hj, e, fun i hi => h1 i hi (by omega)⟩
theorem best_none {l : List Int} (h : l.length = 0) : best l = -1 := by unfold best; rw [h]; rfl
theorem second_at {l : List Int} (h : 2 ≤ l.length) {a : Nat} (ha : best l = a) : ∃ j : Nat, j < l.length ∧ second l = j ∧ j ≠ a ∧ ∀ i : Nat, i < l.length → i ≠ a → l.getD i 0 ≤ l.getD j 0 ∧ (i < j → l.getD i 0 < l.getD j 0) := by
  have hs := second_is l
  rw [ha] at hs
  rcases hs with ⟨_, h0⟩ | ⟨j, hj, e, hb, h1⟩
  · have := h0 0 (by omega); have := h0 1 (by omega); omega
  · exact ⟨j, hj, e, fun c => hb (by rw [c]), fun i hi hia => h1 i hi (by omega)⟩
theorem best_one {l : List Int} (h : l.length = 1) : best l = 0 := by
  obtain ⟨j, hj, e, _⟩ := best_at (l := l) (by omega)
  rw [e]; omega
theorem second_none {l : List Int} (h : l.length < 2) : second l = -1 := by
  rcases second_is l with ⟨e, _⟩ | ⟨j, hj, e, hb, _⟩
  · exact e
  · have := best_one (l := l) (by omega); omega

/-! ### The document's -/
/-- Whether what stands at i stands ahead of what stands at c. -/
def Ahead (l : List Int) (c i : Nat) : Prop := l.getD c 0 < l.getD i 0 ∨ (l.getD i 0 = l.getD c 0 ∧ i < c)
instance (l : List Int) (c i : Nat) : Decidable (Ahead l c i) := by unfold Ahead; exact inferInstance
/-- How many of the first k do. -/
def rank (l : List Int) (c : Nat) : Nat → Nat
  | 0 => 0
  | k + 1 => rank l c k + if Ahead l c k then 1 else 0

theorem rank_le (l : List Int) (c k : Nat) : rank l c k ≤ k := by
  induction k with
  | zero => exact Nat.le_refl _
  | succ k ih => unfold rank; split <;> omega
theorem rank_yes {l : List Int} {c k : Nat} (h : Ahead l c k) : rank l c (k + 1) = rank l c k + 1 := by rw [rank, if_pos h]
theorem rank_no {l : List Int} {c k : Nat} (h : ¬ Ahead l c k) : rank l c (k + 1) = rank l c k := by rw [rank, if_neg h, Nat.add_zero]
theorem rank_zero {l : List Int} {c k : Nat} (h : ∀ i, i < k → ¬ Ahead l c i) : rank l c k = 0 := by
  induction k with
  | zero => rfl
  | succ k ih => rw [rank_no (h k (by omega)), ih fun i hi => h i (by omega)]
theorem rank_grows {l : List Int} {c j : Nat} (k : Nat) (h : j ≤ k) : rank l c j ≤ rank l c k := by
  induction k with
  | zero => have : j = 0 := by omega
            subst this; exact Nat.le_refl _
  | succ k ih =>
    by_cases e : j = k + 1
    · subst e; exact Nat.le_refl _
    · have := ih (by omega)
      have e2 : rank l c (k + 1) = rank l c k + (if Ahead l c k then 1 else 0) := rfl
      omega
theorem rank_some {l : List Int} {c j k : Nat} (h : Ahead l c j) (hj : j < k) : rank l c j + 1 ≤ rank l c k := by
  have := rank_grows (l := l) (c := c) k (show j + 1 ≤ k by omega)
  rw [rank_yes h] at this; exact this
theorem rank_two {l : List Int} {c i j k : Nat} (h : Ahead l c i) (h' : Ahead l c j) (hi : i < k) (hj : j < k) (hne : i ≠ j) : 2 ≤ rank l c k := by
  rcases Nat.lt_or_gt_of_ne hne with o | o
  · have := rank_some h o; have := rank_some h' hj; omega
  · have := rank_some h' o; have := rank_some h hi; omega
theorem rank_one {l : List Int} {c a k : Nat} (h : Ahead l c a) (ha : a < k) (ho : ∀ i, i < k → i ≠ a → ¬ Ahead l c i) : rank l c k = 1 := by
  induction k with
  | zero => omega
  | succ k ih =>
    by_cases e : a = k
    · subst e
      rw [rank_yes h, rank_zero fun i hi => ho i (by omega) (by omega)]
    · rw [rank_no (ho k (by omega) (fun c => e c.symm)), ih (by omega) fun i hi hia => ho i (by omega) hia]

/-- The places of the ranks 0 and 1. -/
theorem rank_best {l : List Int} {n : Nat} (hn : l.length = n) (i : Nat) (hi : i < n) : rank l i n = 0 ↔ (i : Int) = best l := by
  subst hn
  obtain ⟨a, ha, e, h⟩ := best_at (l := l) (by omega)
  rw [e]
  constructor
  · intro h0
    by_cases c : i = a
    · rw [c]
    · have hA : Ahead l i a := by
        have := h i hi
        unfold Ahead
        rcases Nat.lt_or_gt_of_ne c with o | o
        · exact .inl (this.2 o)
        · by_cases q : l.getD i 0 < l.getD a 0
          · exact .inl q
          · exact .inr ⟨by have := this.1; omega, o⟩
      have := rank_some hA ha
      omega
  · intro hia
    have : i = a := by omega
    subst this
    refine rank_zero fun j hj hA => ?_
    have hj' := h j hj
    rcases hA with hA | ⟨hA, o⟩
    · have := hj'.1; omega
    · have := hj'.2 o; omega
theorem rank_second {l : List Int} {n : Nat} (hn : l.length = n) (i : Nat) (hi : i < n) : rank l i n = 1 ↔ (i : Int) = second l := by
  subst hn
  obtain ⟨a, ha, e, h⟩ := best_at (l := l) (by omega)
  have hA : ∀ k, k < l.length → k ≠ a → Ahead l k a := by
    intro k hk c
    have := h k hk
    unfold Ahead
    rcases Nat.lt_or_gt_of_ne c with o | o
    · exact .inl (this.2 o)
    · by_cases q : l.getD k 0 < l.getD a 0
      · exact .inl q
      · exact .inr ⟨by have := this.1; omega, o⟩
  by_cases h2 : 2 ≤ l.length
  · obtain ⟨b, hb, e2, hba, h'⟩ := second_at h2 e
    rw [e2]
    constructor
    · intro h1
      by_cases c : i = b
      · rw [c]
      · exfalso
        by_cases ca : i = a
        · have := (rank_best rfl i hi).2 (by rw [e, ca]); omega
        · have hB : Ahead l i b := by
            have := h' i hi ca
            unfold Ahead
            rcases Nat.lt_or_gt_of_ne c with o | o
            · exact .inl (this.2 o)
            · by_cases q : l.getD i 0 < l.getD b 0
              · exact .inl q
              · exact .inr ⟨by have := this.1; omega, o⟩
          have := rank_two (hA i hi ca) hB ha hb (fun c => hba c.symm)
          omega
    · intro hib
      have : i = b := by omega
      subst this
      refine rank_one (hA i hb hba) ha fun j hj hja hj' => ?_
      have hj2 := h' j hj hja
      rcases hj' with hj' | ⟨hj', o⟩
      · have := hj2.1; omega
      · have := hj2.2 o; omega
  · rw [second_none (by omega)]
    constructor
    · intro h1
      have : i = a := by omega
      have := (rank_best rfl i hi).2 (by rw [e, this]); omega
    · intro; omega

/-! ### The laws -/
theorem get_app1 {l : List Int} {x : Int} {i : Nat} (h : i < l.length) : (l ++ [x]).getD i 0 = l.getD i 0 := by
  rw [List.getD_eq_getElem?_getD, List.getD_eq_getElem?_getD, List.getElem?_append_left h]
theorem get_app2 {l : List Int} {x : Int} : (l ++ [x]).getD l.length 0 = x := by
  rw [List.getD_eq_getElem?_getD, List.getElem?_append_right (Nat.le_refl _), Nat.sub_self]; rfl

/-- One more that is not greater than the second one. -/
theorem more_same {l : List Int} (h : 2 ≤ l.length) {a b : Nat} (ha : best l = a) (hb : second l = b) (x : Int) (hx : x = l.getD b 0) : best (l ++ [x]) = a ∧ second (l ++ [x]) = b := by
  obtain ⟨a', hal, ha', h1⟩ := best_at (l := l) (by omega)
  obtain rfl : a' = a := by omega
  obtain ⟨b', hbl, hb', hne, h2⟩ := second_at h ha
  obtain rfl : b' = b := by omega
  have hl : (l ++ [x]).length = l.length + 1 := by simp
  have e1 : best (l ++ [x]) = a' := by
    have k := best_is (l ++ [x])
    rw [hl] at k
    refine k.eq ?_
    have h0 : Is (fun i => (l ++ [x]).getD i 0) (-1) l.length a' := by
      rw [← ha]; exact (best_is l).mono fun i hi => get_app1 hi
    refine h0.stay ?_
    show (l ++ [x]).getD l.length 0 ≤ (l ++ [x]).getD a' 0
    rw [get_app2, get_app1 hal, hx]
    exact (h1 b' hbl).1
  refine ⟨e1, ?_⟩
  have k := second_is (l ++ [x])
  rw [hl, e1] at k
  refine k.eq ?_
  have h0 : Is (fun i => (l ++ [x]).getD i 0) a' l.length b' := by
    rw [← ha, ← hb]; exact (second_is l).mono fun i hi => get_app1 hi
  refine h0.stay ?_
  show (l ++ [x]).getD l.length 0 ≤ (l ++ [x]).getD b' 0
  rw [get_app2, get_app1 hbl, hx]
  exact Int.le_refl _
/-- One more that is greater than all. -/
theorem more_top {l : List Int} (h : 1 ≤ l.length) {a : Nat} (ha : best l = a) (x : Int) (hx : x = l.getD a 0 + 1) : best (l ++ [x]) = l.length ∧ second (l ++ [x]) = a := by
  obtain ⟨a', hal, ha', h1⟩ := best_at (l := l) h
  obtain rfl : a' = a := by omega
  have hl : (l ++ [x]).length = l.length + 1 := by simp
  have e1 : best (l ++ [x]) = l.length := by
    have k := best_is (l ++ [x])
    rw [hl] at k
    refine k.eq ?_
    have h0 : Is (fun i => (l ++ [x]).getD i 0) (-1) l.length a' := by
      rw [← ha]; exact (best_is l).mono fun i hi => get_app1 hi
    refine h0.next (by omega) (.inr ⟨a', rfl, ?_⟩)
    show (l ++ [x]).getD a' 0 < (l ++ [x]).getD l.length 0
    rw [get_app2, get_app1 hal, hx]
    omega
  refine ⟨e1, ?_⟩
  have k := second_is (l ++ [x])
  rw [hl, e1] at k
  refine k.eq ?_
  refine .inr ⟨a', by omega, rfl, by omega, fun i hi hne => ?_⟩
  have hi' : i < l.length := by omega
  show (l ++ [x]).getD i 0 ≤ (l ++ [x]).getD a' 0 ∧ (i < a' → (l ++ [x]).getD i 0 < (l ++ [x]).getD a' 0)
  rw [get_app1 hi', get_app1 hal]
  exact h1 i hi'

/-- A number that is added to all. -/
theorem shift_get {l : List Int} {k : Int} {i : Nat} (h : i < l.length) : (l.map (· + k)).getD i 0 = l.getD i 0 + k := by
  rw [List.getD_eq_getElem?_getD, List.getD_eq_getElem?_getD, List.getElem?_map, List.getElem?_eq_getElem h]; rfl
theorem Is.shift {l : List Int} {but k : Int} {r : Int} (h : Is (fun i => l.getD i 0) but l.length r) : Is (fun i => (l.map (· + k)).getD i 0) but l.length r := by
  rcases h with h | ⟨j, hj, e, hb, h⟩
  · exact .inl h
  · refine .inr ⟨j, hj, e, hb, fun i hi hbi => ?_⟩
    show (l.map (· + k)).getD i 0 ≤ (l.map (· + k)).getD j 0 ∧ (i < j → (l.map (· + k)).getD i 0 < (l.map (· + k)).getD j 0)
    rw [shift_get hi, shift_get hj]
    have this : l.getD i 0 ≤ l.getD j 0 ∧ (i < j → l.getD i 0 < l.getD j 0) := h i hi hbi
    exact ⟨by have := this.1; omega, fun c => by have := this.2 c; omega⟩
theorem shift_best (l : List Int) (k : Int) : best (l.map (· + k)) = best l := by
  have h := best_is (l.map (· + k))
  rw [List.length_map] at h
  exact h.eq (best_is l).shift
theorem shift_second (l : List Int) (k : Int) : second (l.map (· + k)) = second l := by
  have h := second_is (l.map (· + k))
  rw [List.length_map, shift_best] at h
  exact h.eq (second_is l).shift

/-- Two rows, one behind the other. -/
theorem join {l m : List Int} (hl : 1 ≤ l.length) (hm : 1 ≤ m.length) {x y : Nat} (hx : best l = x) (hy : best m = y) :
    best (l ++ m) = if l.getD x 0 < m.getD y 0 then ((l.length + y : Nat) : Int) else x := by
  obtain ⟨x', hxl, hx', h1⟩ := best_at hl
  obtain rfl : x' = x := by omega
  obtain ⟨y', hyl, hy', h2⟩ := best_at hm
  obtain rfl : y' = y := by omega
  have k := best_is (l ++ m)
  rw [List.length_append] at k
  have g1 : ∀ i, i < l.length → (l ++ m).getD i 0 = l.getD i 0 := fun i hi => by
    rw [List.getD_eq_getElem?_getD, List.getD_eq_getElem?_getD, List.getElem?_append_left hi]
  have g2 : ∀ i, l.length ≤ i → (l ++ m).getD i 0 = m.getD (i - l.length) 0 := fun i hi => by
    rw [List.getD_eq_getElem?_getD, List.getD_eq_getElem?_getD, List.getElem?_append_right hi]
  refine k.eq ?_
  split
  case isTrue hlt =>
    refine .inr ⟨l.length + y', by omega, rfl, by omega, fun i hi _ => ?_⟩
    show (l ++ m).getD i 0 ≤ (l ++ m).getD (l.length + y') 0 ∧ (i < l.length + y' → (l ++ m).getD i 0 < (l ++ m).getD (l.length + y') 0)
    rw [g2 (l.length + y') (by omega), Nat.add_sub_cancel_left]
    by_cases c : i < l.length
    · rw [g1 i c]
      have := (h1 i c).1
      exact ⟨by omega, fun _ => by omega⟩
    · rw [g2 i (by omega)]
      have := h2 (i - l.length) (by omega)
      exact ⟨this.1, fun o => this.2 (by omega)⟩
  case isFalse hlt =>
    refine .inr ⟨x', by omega, rfl, by omega, fun i hi _ => ?_⟩
    show (l ++ m).getD i 0 ≤ (l ++ m).getD x' 0 ∧ (i < x' → (l ++ m).getD i 0 < (l ++ m).getD x' 0)
    rw [g1 x' hxl]
    by_cases c : i < l.length
    · rw [g1 i c]; exact h1 i c
    · rw [g2 i (by omega)]
      have := (h2 (i - l.length) (by omega)).1
      exact ⟨by omega, fun o => by omega⟩

end Go.Proofs.YtfidgcanolegfaaGreat.Tx

/- Two shares of One, as plain integers (no program in sight): what a number counts, its share, and what follows of it. -/
namespace Go.Proofs.YtfidgcanolegfaaGreat.Sx

def part (n : Int) : Int := if n < 0 then 1 else if 2147483647 < n then 2147483648 else n + 1
def share (a b : Int) : Int := part a * 65536 / (part a + part b)

theorem part_neg {n : Int} (h : n < 0) : part n = 1 := by unfold part; rw [if_pos h]
theorem part_big {n : Int} (h : 2147483647 < n) : part n = 2147483648 := by unfold part; rw [if_neg (by omega), if_pos h]
theorem part_mid {n : Int} (h : 0 ≤ n) (g : n ≤ 2147483647) : part n = n + 1 := by unfold part; rw [if_neg (by omega), if_neg (by omega)]
theorem part_lo (n : Int) : 1 ≤ part n := by unfold part; split <;> (try split) <;> omega
theorem part_hi (n : Int) : part n ≤ 2147483648 := by unfold part; split <;> (try split) <;> omega
theorem part_mono {a b : Int} (h : a ≤ b) : part a ≤ part b := by unfold part; split <;> split <;> (try split) <;> (try split) <;> omega

/-- Of what is below 0 the share is that of 0. -/
theorem part_low {n : Int} (h : n < 0) : part n = part 0 := by rw [part_neg h]; rfl

theorem share_tdiv (a b : Int) : (part a * 65536).tdiv (part a + part b) = share a b := by
  have := part_lo a
  exact Int.tdiv_eq_ediv_of_nonneg (by omega)

/-- As often as it is told x + y is in x times One, and once more it is not. -/
theorem share_le (a b : Int) : share a b * (part a + part b) ≤ part a * 65536 :=
  Int.ediv_mul_le _ (by have := part_lo a; have := part_lo b; omega)
theorem share_lt (a b : Int) : part a * 65536 < (share a b + 1) * (part a + part b) :=
  Int.lt_ediv_add_one_mul_self _ (by have := part_lo a; have := part_lo b; omega)
theorem le_share {a b q : Int} (h : q * (part a + part b) ≤ part a * 65536) : q ≤ share a b :=
  Int.le_ediv_of_mul_le (by have := part_lo a; have := part_lo b; omega) h
theorem share_lo (a b : Int) : 0 ≤ share a b := le_share (by have := part_lo a; omega)
theorem share_hi (a b : Int) : share a b ≤ 65536 := by
  have hs := part_lo a; have ht := part_lo b
  refine Int.le_of_lt_add_one (Int.lt_of_mul_lt_mul_right (a := part a + part b) ?_ (by omega))
  have := share_le a b
  omega

/-- The quotient, told by what is left. -/
theorem share_eq {a b q left : Int} (h : q * (part a + part b) + left = part a * 65536) (h0 : 0 ≤ left) (h1 : left < part a + part b) : q = share a b := by
  have hs := part_lo a; have ht := part_lo b
  refine Int.le_antisymm (le_share (by omega)) (Int.le_of_lt_add_one (Int.lt_of_mul_lt_mul_right (a := part a + part b) ?_ (by omega)))
  have := share_le a b
  rw [Int.add_mul]
  omega

theorem share_half {a b : Int} (h : part b ≤ part a) : 32768 ≤ share a b := le_share (by omega)
theorem share_even {a b : Int} (h : part a = part b) : share a b = 32768 := by
  refine (share_eq (left := 0) (by omega) (by omega) ?_).symm
  have := part_lo a; have := part_lo b; omega

theorem share_more {a c : Int} (b : Int) (h : part a ≤ part c) : share a b ≤ share c b := by
  have hs := part_lo a; have ht := part_lo b
  refine le_share ?_
  have h1 := share_le a b
  have h2 := Int.mul_le_mul_of_nonneg_right (share_hi a b) (show 0 ≤ part c - part a by omega)
  have e : share a b * (part c + part b) = share a b * (part a + part b) + share a b * (part c - part a) := by rw [← Int.mul_add]; congr 1; omega
  rw [e]
  omega

theorem share_both (a b : Int) : share a b + share b a ≤ 65536 ∧ 65535 ≤ share a b + share b a := by
  have hs := part_lo a; have ht := part_lo b
  have h1 := share_le a b; have h2 := share_le b a
  have h3 := share_lt a b; have h4 := share_lt b a
  rw [Int.add_comm (part b) (part a)] at h2 h4
  constructor
  · refine Int.le_of_lt_add_one (Int.lt_of_mul_lt_mul_right (a := part a + part b) ?_ (by omega))
    rw [Int.add_mul]
    omega
  · have : 65536 < share a b + 1 + (share b a + 1) := by
      refine Int.lt_of_mul_lt_mul_right (a := part a + part b) ?_ (by omega)
      rw [Int.add_mul (share a b + 1)]
      omega
    omega

theorem share_ten {k : Int} (h : 9 ≤ k) (g : k ≤ 67108872) : 11 * share (10 * k) k ≤ 655360 ∧ 589824 ≤ 11 * share (10 * k) k := by
  have h1 := share_le (10 * k) k
  have h3 := share_lt (10 * k) k
  rw [part_mid (n := 10 * k) (by omega) (by omega), part_mid (n := k) (by omega) (by omega)] at h1 h3
  generalize share (10 * k) k = s at *
  constructor
  · refine Int.le_of_lt_add_one (Int.lt_of_mul_lt_mul_right (a := 10 * k + 1 + (k + 1)) ?_ (by omega))
    rw [Int.mul_assoc]
    omega
  · refine Int.not_lt.mp fun hc => ?_
    have h5 := Int.mul_le_mul_of_nonneg_right (show 11 * (s + 1) ≤ 589834 by omega) (show 0 ≤ 10 * k + 1 + (k + 1) by omega)
    rw [Int.mul_assoc] at h5
    omega

theorem share_same {a b u v : Int} (hu : part u = part a) (hv : part v = part b) : share u v = share a b := by unfold share; rw [hu, hv]

/-- What the stage's theorem asks of one pair: M and m the greater and the less one, u and v both where what is below 0 is 0. -/
theorem fair {a b M m u v : Int} (hm : part m ≤ part M) (hu : part u = part a) (hv : part v = part b) :
    65536 - share M m ≤ share M m ∧ (share a b == share u v) = true ∧ (65536 - share a b == 65536 - share u v) = true ∧ (share M m + (65536 - share M m) == 65536) = true := by
  have h1 := share_half hm
  rw [share_same hu hv]
  refine ⟨by omega, by simp, by simp, by simp; omega⟩

theorem step_no {x s q l : Int} {k : Nat} (h : q * s + l = x * 2 ^ k) : 2 * q * s + 2 * l = x * 2 ^ (k + 1) := by
  rw [Int.pow_succ, ← Int.mul_assoc x, ← h, Int.mul_assoc]; omega
theorem step_yes {x s q l : Int} {k : Nat} (h : q * s + l = x * 2 ^ k) : (2 * q + 1) * s + (2 * l - s) = x * 2 ^ (k + 1) := by
  rw [← step_no h, Int.add_mul]; omega
theorem pow_hi {k : Nat} (h : k ≤ 16) : (2 : Int) ^ k ≤ 65536 := by
  have g : (2 : Nat) ^ k ≤ 2 ^ 16 := Nat.pow_le_pow_right (by omega) h
  have e : ((2 ^ k : Nat) : Int) = (2 : Int) ^ k := Int.natCast_pow 2 k
  rw [← e]
  have g2 : (2 : Nat) ^ k ≤ 65536 := g
  exact Int.ofNat_le.mpr g2

end Go.Proofs.YtfidgcanolegfaaGreat.Sx

/- Who works on a token, on lists (no program in sight): what Choose answers, and the laws that the statements of layer 13 rest on. -/
namespace Go.Proofs.YtfidgcanolegfaaGreat.Gx
open Go.Proofs.YtfidgcanolegfaaGreat

/-- The first one's share, of scores. -/
def part (s : List Int) : Int := if Tx.second s < 0 then 65536 else Sx.share (s.getD (Tx.best s).toNat 0) (s.getD (Tx.second s).toNat 0)
/-- What Choose answers: First, Second, W1, W2, and whether there is a choice. -/
def Is (m : List (List Int)) (v : List Int) (p q r t : Int) (b : Bool) : Prop :=
  (b = false ∧ ¬ (Mx.Fits m v.length ∧ m ≠ []) ∧ p = 0 ∧ q = 0 ∧ r = 0 ∧ t = 0) ∨
  (b = true ∧ Mx.Fits m v.length ∧ m ≠ [] ∧ p = Tx.best (Mx.app m v) ∧ q = Tx.second (Mx.app m v) ∧ r = part (Mx.app m v) ∧ t = 65536 - part (Mx.app m v))

theorem there (m : List (List Int)) (v : List Int) : ∃ p q r t b, Is m v p q r t b := by
  by_cases h : Mx.Fits m v.length ∧ m ≠ []
  · exact ⟨_, _, _, _, true, .inr ⟨rfl, h.1, h.2, rfl, rfl, rfl, rfl⟩⟩
  · exact ⟨0, 0, 0, 0, false, .inl ⟨rfl, h, rfl, rfl, rfl, rfl⟩⟩
theorem Is.no {m : List (List Int)} {v : List Int} {p q r t : Int} (h : Is m v p q r t false) : ¬ (Mx.Fits m v.length ∧ m ≠ []) ∧ p = 0 ∧ q = 0 ∧ r = 0 ∧ t = 0 := by
  rcases h with h | ⟨h, _⟩
  · exact h.2
  · cases h
theorem Is.yes {m : List (List Int)} {v : List Int} {p q r t : Int} (h : Is m v p q r t true) : Mx.Fits m v.length ∧ m ≠ [] ∧ p = Tx.best (Mx.app m v) ∧ q = Tx.second (Mx.app m v) ∧ r = part (Mx.app m v) ∧ t = 65536 - part (Mx.app m v) := by
  rcases h with ⟨h, _⟩ | h
  · cases h
  · exact h.2

/-- One row alone. -/
theorem part_one {s : List Int} (h : s.length = 1) : part s = 65536 := by
  unfold part
  rw [Tx.second_none (by omega), if_pos (by decide)]
theorem part_two {s : List Int} {i j : Nat} (hi : Tx.best s = i) (hj : Tx.second s = j) : part s = Sx.share (s.getD i 0) (s.getD j 0) := by
  unfold part
  rw [hi, hj, if_neg (by omega)]
  simp

/-- What the two ways of a choice that there is are. -/
theorem Is.form {m : List (List Int)} {v : List Int} {p q r t : Int} (h : Is m v p q r t true) :
    (m.length = 1 ∧ p = 0 ∧ q = -1 ∧ r = 65536 ∧ t = 0) ∨
    (2 ≤ m.length ∧ ∃ i j : Nat, i < m.length ∧ j < m.length ∧ i ≠ j ∧ p = i ∧ q = j ∧ Tx.best (Mx.app m v) = i ∧ Tx.second (Mx.app m v) = j ∧ (Mx.app m v).getD j 0 ≤ (Mx.app m v).getD i 0 ∧ r = Sx.share ((Mx.app m v).getD i 0) ((Mx.app m v).getD j 0) ∧ t = 65536 - r) := by
  obtain ⟨_, hne, hp, hq, hr, ht⟩ := h.yes
  have hl := Mx.app_length m v
  have hpos : 1 ≤ m.length := by
    rcases Nat.eq_zero_or_pos m.length with h0 | h0
    · exact absurd (List.eq_nil_of_length_eq_zero h0) hne
    · exact h0
  by_cases h1 : m.length = 1
  · left
    rw [Tx.best_one (by omega)] at hp
    rw [Tx.second_none (by omega)] at hq
    rw [part_one (by omega)] at hr ht
    exact ⟨h1, hp, hq, hr, by omega⟩
  · right
    obtain ⟨i, hi, ei, hgi⟩ := Tx.best_at (l := Mx.app m v) (by omega)
    obtain ⟨j, hj, ej, hne', hgj⟩ := Tx.second_at (l := Mx.app m v) (by omega) ei
    rw [part_two ei ej] at hr ht
    exact ⟨by omega, i, j, by omega, by omega, fun c => hne' c.symm, by rw [hp, ei], by rw [hq, ej], ei, ej, (hgi j hj).1, hr, by rw [ht, hr]⟩

/-- Shares are One together; the first one's is not less. -/
theorem Is.fair {m : List (List Int)} {v : List Int} {p q r t : Int} (h : Is m v p q r t true) :
    r + t = 65536 ∧ t ≤ r ∧ 0 ≤ t ∧ 0 ≤ p ∧ p < m.length ∧ q < m.length ∧ p ≠ q ∧ -1 ≤ q ∧ (0 ≤ q ↔ 1 < m.length) ∧ t ≤ 65536 := by
  rcases h.form with ⟨h1, hp, hq, hr, ht⟩ | ⟨h2, i, j, hi, hj, hne, hp, hq, _, _, hle, hr, ht⟩
  · omega
  · have h3 := Sx.share_half (Sx.part_mono hle)
    have h4 := Sx.share_hi ((Mx.app m v).getD i 0) ((Mx.app m v).getD j 0)
    have h5 := Sx.share_lo ((Mx.app m v).getD i 0) ((Mx.app m v).getD j 0)
    rw [← hr] at h3 h4 h5
    omega

/-! ### Rows twice as long, by noughts -/
def wide (m : List (List Int)) (n : Nat) : List (List Int) := m.map fun l => l ++ List.replicate n 0
theorem wide_length (m : List (List Int)) (n : Nat) : (wide m n).length = m.length := by simp [wide]
theorem wide_succ (m : List (List Int)) (n k : Nat) (h : k < m.length) : wide (m.take (k + 1)) n = wide (m.take k) n ++ [m.getD k [] ++ List.replicate n 0] := by
  rw [Mx.take_row m k h]; simp [wide]
theorem wide_fits (m : List (List Int)) (n : Nat) : Mx.Fits (wide m n) (n + n) ↔ Mx.Fits m n := by
  constructor
  · intro h l hl
    have := h (l ++ List.replicate n 0) (List.mem_map.2 ⟨l, hl, rfl⟩)
    rw [List.length_append, List.length_replicate] at this
    omega
  · intro h l hl
    obtain ⟨l', hl', rfl⟩ := List.mem_map.1 hl
    have := h l' hl'
    rw [List.length_append, List.length_replicate]
    omega
theorem dotFrom_append (s : Int) (a b c d : List Int) (h : a.length = b.length) : Vx.dotFrom s (a ++ c) (b ++ d) = Vx.dotFrom (Vx.dotFrom s a b) c d := by
  induction a generalizing s b with
  | nil => cases b with
    | nil => rfl
    | cons _ _ => simp at h
  | cons z a ih => cases b with
    | nil => simp at h
    | cons u b => exact ih _ b (by simpa using h)
theorem dot_wide (l v : List Int) (h : l.length = v.length) : Vx.dot (l ++ List.replicate v.length 0) (v ++ v) = Vx.dot l v := by
  unfold Vx.dot
  rw [dotFrom_append 0 _ _ _ _ h, Vx.dotFrom_comm]
  exact Vx.dotFrom_zeros _ v (Vx.dot_lo l v) (Vx.dot_hi l v)
theorem app_wide (m : List (List Int)) (v : List Int) (h : Mx.Fits m v.length) : Mx.app (wide m v.length) (v ++ v) = Mx.app m v := by
  unfold Mx.app wide
  rw [List.map_map]
  exact List.map_congr_left fun l hl => dot_wide l v (h l hl)
theorem Is.wide {m : List (List Int)} {v : List Int} {p q r t : Int} {b : Bool} (h : Is m v p q r t b) : Is (wide m v.length) (v ++ v) p q r t b := by
  have hl : (v ++ v).length = v.length + v.length := List.length_append
  have hn : Gx.wide m v.length ≠ [] ↔ m ≠ [] := by unfold Gx.wide; simp
  rcases h with ⟨h1, h2, h3⟩ | ⟨h1, h2, h3, h4⟩
  · refine .inl ⟨h1, fun hc => h2 ?_, h3⟩
    rw [hl, wide_fits, hn] at hc
    exact hc
  · refine .inr ⟨h1, by rw [hl, wide_fits]; exact h2, hn.2 h3, ?_⟩
    rw [app_wide m v h2]
    exact h4

/-! ### One row, and two that are the same -/
theorem ones_no {row v : List Int} (h : row.length ≠ v.length) : Is [row] v 0 0 0 0 false ∧ Is [row, row] v 0 0 0 0 false :=
  ⟨.inl ⟨rfl, fun hc => h (hc.1 row (by simp)), rfl, rfl, rfl, rfl⟩, .inl ⟨rfl, fun hc => h (hc.1 row (by simp)), rfl, rfl, rfl, rfl⟩⟩
theorem ones_one {row v : List Int} (h : row.length = v.length) : Is [row] v 0 (-1) 65536 0 true := by
  have hf : Mx.Fits [row] v.length := fun l hl => by rw [List.mem_singleton.1 hl]; exact h
  have hl : (Mx.app [row] v).length = 1 := rfl
  refine .inr ⟨rfl, hf, by simp, ?_, ?_, ?_, ?_⟩
  · exact (Tx.best_one hl).symm
  · exact (Tx.second_none (by omega)).symm
  · exact (part_one hl).symm
  · rw [part_one hl]; rfl
theorem same_two (d : Int) : Tx.best [d, d] = ((0 : Nat) : Int) ∧ Tx.second [d, d] = ((1 : Nat) : Int) := by
  obtain ⟨i, hi, ei, hgi⟩ := Tx.best_at (l := [d, d]) (by simp)
  have h0 : i = 0 := by
    have hi2 : i < 2 := hi
    rcases (by omega : i = 0 ∨ i = 1) with e | e
    · exact e
    · subst e
      have := (hgi 0 (by simp)).2 (by omega)
      simp at this
  subst h0
  obtain ⟨j, hj, ej, hne, _⟩ := Tx.second_at (l := [d, d]) (by simp) ei
  have hj2 : j < 2 := hj
  obtain rfl : j = 1 := by omega
  exact ⟨ei, ej⟩
theorem ones_two {row v : List Int} (h : row.length = v.length) : Is [row, row] v 0 1 32768 32768 true := by
  have hf : Mx.Fits [row, row] v.length := fun l hl => by
    have : l = row := by simpa using hl
    rw [this]; exact h
  have e : Mx.app [row, row] v = [Vx.dot row v, Vx.dot row v] := rfl
  obtain ⟨h1, h2⟩ := same_two (Vx.dot row v)
  have h3 := part_two h1 h2
  rw [show ([Vx.dot row v, Vx.dot row v] : List Int).getD 0 0 = Vx.dot row v from rfl, show ([Vx.dot row v, Vx.dot row v] : List Int).getD 1 0 = Vx.dot row v from rfl, Sx.share_even rfl] at h3
  refine .inr ⟨rfl, hf, by simp, ?_, ?_, ?_, ?_⟩
  · rw [e, h1]; rfl
  · rw [e, h2]; rfl
  · rw [e, h3]
  · rw [e, h3]; rfl
theorem none_is : Is [] [] 0 0 0 0 false := .inl ⟨rfl, fun h => h.2 rfl, rfl, rfl, rfl, rfl⟩
/-- The document's example. -/
theorem example_is : Is [[65536], [131072]] [65536] 1 0 43690 21846 true := by
  have e : Mx.app [[65536], [131072]] [65536] = [65536, 131072] := by decide
  refine .inr ⟨rfl, fun l hl => ?_, by simp, ?_, ?_, ?_, ?_⟩
  · have : l = [65536] ∨ l = [131072] := by simpa using hl
    rcases this with rfl | rfl <;> rfl
  · rw [e]; decide
  · rw [e]; decide
  · rw [e]; decide
  · rw [e]; decide

end Go.Proofs.YtfidgcanolegfaaGreat.Gx

/- Pairs of numbers in memory, as one row of numbers, and slots on lists (no program in sight). -/
namespace Go.Proofs.YtfidgcanolegfaaGreat
open Go.ChangeShapes Go.WideShapes Go.ChangeAt Go.RowKit

/-! ### Pairs in memory -/
abbrev Pr := Int × Int × Unit
abbrev prS : Shape Pr := consS (intS .i64) (consS (intS .i64) noneS)
abbrev prsS : Shape (List Pr) := sliceS prS

/-- 'a' leads in w to n pairs, the numbers l one behind the other (where n is 0: to whatever). -/
def Flat (w : World) (a : Option Addr) (n : Nat) (l : List Int) : Prop :=
  l.length = n * 2 ∧ (n = 0 ∨ ∃ b off, a = some ⟨b, off, none⟩ ∧ b < w.heap.size ∧ ∀ i, i < n * 2 → w.cell? ⟨b, off + i, none⟩ = some (.int .i64 (l.getD i 0)))
section
variable {w w' : World} {a : Option Addr} {n : Nat} {l : List Int}
theorem Flat.len (h : Flat w a n l) : l.length = n * 2 := h.1
theorem Flat.keep (h : Flat w a n l) (hb : Below w.heap.size w w') : Flat w' a n l := by
  refine ⟨h.1, ?_⟩
  rcases h.2 with h0 | ⟨b, off, ha, hlt, hc⟩
  · exact .inl h0
  · exact .inr ⟨b, off, ha, Nat.lt_of_lt_of_le hlt hb.size, fun i hi => (hb.cell (by exact hlt)).trans (hc i hi)⟩
/-- Pair j. -/
theorem Flat.at (h : Flat w a n l) {j : Nat} (hj : j < n) : ∃ b off, a = some ⟨b, off, none⟩ ∧ b < w.heap.size ∧ w.cell? ⟨b, off + j * 2, none⟩ = some (.int .i64 (l.getD (j * 2) 0)) ∧ w.cell? ⟨b, off + j * 2 + 1, none⟩ = some (.int .i64 (l.getD (j * 2 + 1) 0)) := by
  rcases h.2 with h0 | ⟨b, off, ha, hlt, hc⟩
  · omega
  · exact ⟨b, off, ha, hlt, hc (j * 2) (by omega), by have := hc (j * 2 + 1) (by omega); rwa [← Nat.add_assoc] at this⟩
/-- Number k of pair j. -/
theorem Flat.one (h : Flat w a n l) {j k : Nat} (hj : j < n) (hk : k < 2) : ∃ b off, a = some ⟨b, off, none⟩ ∧ b < w.heap.size ∧ w.cell? ⟨b, off + j * 2 + k, none⟩ = some (.int .i64 (l.getD (j * 2 + k) 0)) := by
  rcases h.2 with h0 | ⟨b, off, ha, hlt, hc⟩
  · omega
  · exact ⟨b, off, ha, hlt, by have := hc (j * 2 + k) (by omega); rwa [← Nat.add_assoc] at this⟩
/-- 's[:k]' -/
theorem Flat.take (h : Flat w a n l) {k : Nat} (hk : k ≤ n) : Flat w a k (l.take (k * 2)) := by
  refine ⟨by rw [List.length_take, h.1]; omega, ?_⟩
  rcases h.2 with h0 | ⟨b, off, ha, hlt, hc⟩
  · exact .inl (by omega)
  · refine .inr ⟨b, off, ha, hlt, fun i hi => ?_⟩
    rw [hc i (by omega), List.getD_eq_getElem?_getD, List.getD_eq_getElem?_getD, List.getElem?_take, if_pos hi]
/-- Out of one block. -/
theorem Flat.of_block {g : Nat} {e : TypeId} {cur : Array Value} (hl : l.length = n * 2) (hg : w.heap[g]? = some (.cells cur e (0, 0))) (hc : cur.toList = l.map (Value.int .i64)) : Flat w (some ⟨g, 0, none⟩) n l := by
  refine ⟨hl, .inr ⟨g, 0, rfl, (Array.getElem?_eq_some_iff.1 hg).1, fun j hj => ?_⟩⟩
  rw [cell_of_row w g (0 + j) cur e (0, 0) hg]
  have hlj : l[j]? = some (l.getD j 0) := by rw [List.getD_eq_getElem?_getD, List.getElem?_eq_getElem (by omega)]; rfl
  have : cur.toList[j]? = some (.int .i64 (l.getD j 0)) := by rw [hc, List.getElem?_map, hlj]; rfl
  simpa using this
/-- Out of pairs that the call owns. -/
theorem Flat.of_owns {base g c : Nat} {e : TypeId} (h : w.ownsRow base e 2 (.slice (some ⟨g, 0, none⟩) n c) n (l.map (Value.int .i64))) : Flat w (some ⟨g, 0, none⟩) n l := by
  have hl : l.length = n * 2 := by simpa using h.1
  refine ⟨hl, .inr ⟨g, 0, rfl, (h.lt g rfl).2, fun j hj => ?_⟩⟩
  rw [h.cellAt (0 + j) (by omega), Nat.zero_add, List.getElem?_map, List.getD_eq_getElem?_getD, List.getElem?_eq_getElem (by omega)]
  rfl
end

/-- Pairs as one row. -/
def flat (m : List Pr) : List Int := m.flatMap fun x => [x.1, x.2.1]
theorem flat_length (m : List Pr) : (flat m).length = m.length * 2 := by
  induction m with
  | nil => rfl
  | cons x m ih => show (x.1 :: x.2.1 :: flat m).length = _; simp only [List.length_cons, ih]; omega
theorem pr_is {w : World} {F : Nat → Prop} {cs : List Value} {x : Pr} (h : prS.rep w F cs x) : cs = [.int .i64 x.1, .int .i64 x.2.1] := by
  obtain ⟨d, rfl, h2⟩ := consS_int h
  obtain ⟨d', rfl, h3⟩ := consS_int h2
  rw [noneS_nil h3]
theorem prs_flat {w : World} {F : Nat → Prop} {css : List (List Value)} {m : List Pr} (h : prS.all w F css m) : css.flatten = (flat m).map (Value.int .i64) := by
  induction m generalizing css with
  | nil => have := List.eq_nil_of_length_eq_zero h.1; subst this; rfl
  | cons x m ih =>
    match css, h with
    | [], h => exact absurd h.1 (by simp)
    | c :: css, h =>
      have h1 := pr_is (h.2 0 c x rfl rfl)
      have h2 := ih (css := css) ⟨by simpa using h.1, fun j d y hd hy => h.2 (j + 1) d y (by simpa using hd) (by simpa using hy)⟩
      rw [List.flatten_cons, h1, h2]
      rfl
theorem Flat.of_rep {w : World} {F : Nat → Prop} {a : Option Addr} {n c : Nat} {m : List Pr} (h : prsS.rep w F [.slice a n c] m) : Flat w a n (flat m) := by
  obtain ⟨a', c', css, he, h1, h2, hall, hcell⟩ := h
  simp at he
  obtain ⟨rfl, rfl, rfl⟩ := he
  refine ⟨flat_length m, ?_⟩
  rw [prs_flat hall] at hcell
  rcases hcell with h0 | ⟨b, off, ha, _, hb, hc⟩
  · left
    have := flat_length m
    have h3 : (flat m).length = 0 := by
      have h4 := congrArg List.length h0
      rw [List.length_map] at h4
      exact h4
    omega
  · refine .inr ⟨b, off, ha, hb, fun i hi => hc i _ ?_⟩
    rw [List.getElem?_map, List.getD_eq_getElem?_getD, List.getElem?_eq_getElem (by rw [flat_length]; exact hi)]
    rfl
theorem flat_fit {m : List Pr} (h : ∀ x ∈ m, (Lit.int .i64 x.1).wf = true ∧ (Lit.int .i64 x.2.1).wf = true ∧ True) : ∀ x ∈ flat m, (Lit.int .i64 x).wf = true := by
  intro x hx
  obtain ⟨p, hp, hx⟩ := List.mem_flatMap.1 hx
  have := h p hp
  simp only [List.mem_cons, List.not_mem_nil, or_false] at hx
  rcases hx with rfl | rfl
  · exact this.1
  · exact this.2.1

theorem made_pairs (n : Nat) : (madeCells #[.int .i64 0, .int .i64 0] (n * 2)).toList = (List.replicate (n * 2) (0 : Int)).map (Value.int .i64) := by
  apply List.ext_getElem?
  intro i
  by_cases hi : i < n * 2
  · have h3 : (madeCells #[.int .i64 0, .int .i64 0] (n * 2)).toList[i]? = some (#[Value.int .i64 0, .int .i64 0][i % 2]!) := by simp [madeCells, hi]
    rw [h3]
    rcases (by omega : i % 2 = 0 ∨ i % 2 = 1) with h | h <;> simp [h, hi]
  · rw [List.getElem?_eq_none (by rw [Array.length_toList, size_madeCells]; omega), List.getElem?_eq_none (by simp; omega)]

/-! ### Slots on lists -/
namespace Sl
theorem num_mem {l : List Int} {i : Nat} (h : i < l.length) : l.getD i 0 ∈ l := by rw [List.getD_eq_getElem?_getD, List.getElem?_eq_getElem h]; exact List.getElem_mem h
/-- How many of the first i numbers are x. -/
def cnt (l : List Int) (x : Int) (i : Nat) : Nat := (l.take i).count x
theorem cnt_zero (l : List Int) (x : Int) : cnt l x 0 = 0 := by simp [cnt]
theorem cnt_step {l : List Int} (x : Int) {i : Nat} (h : i < l.length) : cnt l x (i + 1) = cnt l x i + (if l.getD i 0 = x then 1 else 0) := by
  unfold cnt
  rw [take_snoc l i h, List.count_append]
  by_cases e : l.getD i 0 = x
  · rw [if_pos e, e]; simp
  · rw [if_neg e, List.count_cons_of_ne e]; simp
theorem cnt_yes {l : List Int} {x : Int} {i : Nat} (h : i < l.length) (e : l.getD i 0 = x) : cnt l x (i + 1) = cnt l x i + 1 := by rw [cnt_step x h, if_pos e]
theorem cnt_no {l : List Int} {x : Int} {i : Nat} (h : i < l.length) (e : l.getD i 0 ≠ x) : cnt l x (i + 1) = cnt l x i := by rw [cnt_step x h, if_neg e]; rfl
theorem cnt_le (l : List Int) (x : Int) (i : Nat) : cnt l x i ≤ i := by
  unfold cnt
  have h1 := List.count_le_length (a := x) (l := l.take i)
  rw [List.length_take] at h1
  omega
theorem cnt_mono {l : List Int} {x : Int} {i j : Nat} (h : i ≤ j) (hj : j ≤ l.length) : cnt l x i ≤ cnt l x j := by
  induction j with
  | zero => have : i = 0 := by omega
            subst this; exact Nat.le_refl _
  | succ j ih =>
    by_cases e : i = j + 1
    · subst e; exact Nat.le_refl _
    · have h1 := ih (by omega) (by omega)
      have h2 := cnt_step (l := l) x (i := j) (by omega)
      omega
theorem cnt_take {l : List Int} {x : Int} {i k : Nat} (h : i ≤ k) : cnt (l.take k) x i = cnt l x i := by
  unfold cnt
  rw [List.take_take, Nat.min_eq_left h]

/-- The slot of part i, or -1. -/
def slot (l : List Int) (E C : Int) (i : Nat) : Int := if 0 ≤ l.getD i 0 ∧ l.getD i 0 < E ∧ (cnt l (l.getD i 0) i : Int) < C then (cnt l (l.getD i 0) i : Int) else -1
/-- Those of the first i parts. -/
def upto (l : List Int) (E C : Int) (i : Nat) : List Int := (List.range i).map (slot l E C)
/-- All. -/
def slots (l : List Int) (E C : Int) : List Int := upto l E C l.length
theorem upto_len (l : List Int) (E C : Int) (i : Nat) : (upto l E C i).length = i := by simp [upto]
theorem upto_succ (l : List Int) (E C : Int) (i : Nat) : upto l E C (i + 1) = upto l E C i ++ [slot l E C i] := by simp [upto, List.range_succ]
theorem slots_len (l : List Int) (E C : Int) : (slots l E C).length = l.length := upto_len _ _ _ _
theorem slots_at {l : List Int} (E C : Int) {i : Nat} (h : i < l.length) : (slots l E C).getD i 0 = slot l E C i := by
  unfold slots upto
  rw [List.getD_eq_getElem?_getD, List.getElem?_map, List.getElem?_range h]
  rfl

/-- What is given to x by the first i parts. -/
def giv (l : List Int) (E C : Int) (i : Nat) (x : Int) : Int := if 0 ≤ x ∧ x < E then min (cnt l x i : Int) (max C 0) else 0
theorem giv_zero (l : List Int) (E C x : Int) : giv l E C 0 x = 0 := by
  unfold giv
  split
  · rw [cnt_zero]; omega
  · rfl
theorem giv_le (l : List Int) (E C x : Int) (i : Nat) : 0 ≤ giv l E C i x ∧ giv l E C i x ≤ i := by
  unfold giv
  have := cnt_le l x i
  split <;> omega
theorem giv_other {l : List Int} {E C : Int} {i : Nat} (h : i < l.length) {x : Int} (hx : x ≠ l.getD i 0) : giv l E C (i + 1) x = giv l E C i x := by
  unfold giv
  rw [cnt_no h (fun e => hx e.symm)]
theorem giv_yes {l : List Int} {E C : Int} {i : Nat} (h : i < l.length) {x : Int} (hx : l.getD i 0 = x) (h0 : 0 ≤ x) (h1 : x < E) (h2 : giv l E C i x < C) : giv l E C (i + 1) x = giv l E C i x + 1 := by
  unfold giv at *
  rw [if_pos ⟨h0, h1⟩] at *
  rw [cnt_yes h hx]
  rw [if_pos ⟨h0, h1⟩]
  omega
theorem giv_no {l : List Int} {E C : Int} {i : Nat} (h : i < l.length) {x : Int} (hx : l.getD i 0 = x) (h2 : ¬ (0 ≤ x ∧ x < E ∧ giv l E C i x < C)) : giv l E C (i + 1) x = giv l E C i x := by
  unfold giv at *
  by_cases hin : 0 ≤ x ∧ x < E
  · rw [if_pos hin] at *
    rw [if_pos hin, cnt_yes h hx]
    omega
  · rw [if_neg hin, if_neg hin]
theorem slot_yes {l : List Int} {E C : Int} {i : Nat} {x : Int} (hx : l.getD i 0 = x) (h0 : 0 ≤ x) (h1 : x < E) (h2 : giv l E C i x < C) : slot l E C i = giv l E C i x := by
  have e : giv l E C i x = min (cnt l x i : Int) (max C 0) := by unfold giv; rw [if_pos ⟨h0, h1⟩]
  rw [e] at h2 ⊢
  unfold slot
  rw [hx, if_pos (by omega)]
  omega
theorem slot_no {l : List Int} {E C : Int} {i : Nat} {x : Int} (hx : l.getD i 0 = x) (h2 : ¬ (0 ≤ x ∧ x < E ∧ giv l E C i x < C)) : slot l E C i = -1 := by
  unfold slot
  rw [hx]
  by_cases hin : 0 ≤ x ∧ x < E
  · have e : giv l E C i x = min (cnt l x i : Int) (max C 0) := by unfold giv; rw [if_pos hin]
    rw [e] at h2
    rw [if_neg (by omega)]
  · rw [if_neg (by omega)]

/-- Filled from the head on. -/
theorem put_one {done : List Int} {n : Nat} {y x : Int} (h : done.length < n) : ((fill done n).set done.length y).set done.length x = fill (done ++ [x]) n := by
  rw [List.set_set, fill_set done n x h]

/-! The laws. -/
theorem slot_ge {l : List Int} {E C : Int} {i : Nat} : -1 ≤ slot l E C i := by unfold slot; split <;> omega
theorem slot_room {l : List Int} {E C : Int} {i : Nat} (h : 0 ≤ slot l E C i) : slot l E C i < C := by
  unfold slot at *
  split at h
  · rename_i h2; rw [if_pos h2]; exact h2.2.2
  · omega
theorem slot_is {l : List Int} {E C : Int} {i : Nat} (h : 0 ≤ slot l E C i) : slot l E C i = (cnt l (l.getD i 0) i : Int) := by
  unfold slot at *
  split at h
  · rename_i h2; rw [if_pos h2]
  · omega
theorem slot_unlike {l : List Int} {E C : Int} {i j : Nat} (hj : j < i) (hi : i < l.length) (h : 0 ≤ slot l E C i) (he : slot l E C i = slot l E C j) : l.getD i 0 ≠ l.getD j 0 := by
  intro hx
  have h1 := slot_is h
  have h2 := slot_is (l := l) (E := E) (C := C) (i := j) (by omega)
  have h3 := cnt_yes (l := l) (x := l.getD i 0) (i := j) (by omega) hx.symm
  have h4 := cnt_mono (l := l) (x := l.getD i 0) (i := j + 1) (j := i) (by omega) (by omega)
  rw [← hx] at h2
  omega
theorem slot_take {l : List Int} {E C : Int} {i k : Nat} (h : i < k) : slot (l.take k) E C i = slot l E C i := by
  have e : (l.take k).getD i 0 = l.getD i 0 := by rw [List.getD_eq_getElem?_getD, List.getD_eq_getElem?_getD, List.getElem?_take, if_pos h]
  unfold slot
  rw [e, cnt_take (by omega)]
theorem slot_more {l : List Int} {E C C' : Int} {i : Nat} (h : 0 ≤ slot l E C i) (hC : C ≤ C') : slot l E C' i = slot l E C i := by
  have h1 := slot_room h
  have h2 := slot_is h
  unfold slot at h ⊢
  split at h
  · rename_i h3
    rw [if_pos h3, if_pos (by omega)]
  · omega
theorem slot_all {l : List Int} {E C : Int} {i : Nat} (hC : (i : Int) < C) : 0 ≤ slot l E C i ↔ 0 ≤ l.getD i 0 ∧ l.getD i 0 < E := by
  have := cnt_le l (l.getD i 0) i
  unfold slot
  by_cases h : 0 ≤ l.getD i 0 ∧ l.getD i 0 < E
  · rw [if_pos (by omega)]
    exact ⟨fun _ => h, fun _ => by omega⟩
  · rw [if_neg (by omega)]
    exact ⟨fun h2 => by omega, fun h2 => absurd h2 h⟩
theorem slot_full (l : List Int) (E : Int) (i : Nat) : slot l E 0 i = -1 := by unfold slot; rw [if_neg (by omega)]
theorem slot_none (l : List Int) (C : Int) (i : Nat) : slot l 0 C i = -1 := by unfold slot; rw [if_neg (by omega)]
theorem cnt_zeros {n i : Nat} (h : i ≤ n) : cnt (List.replicate n (0 : Int)) 0 i = i := by
  unfold cnt
  rw [List.take_replicate, List.count_replicate_self]
  omega
theorem slot_zeros {n i : Nat} (h : i < n) : slot (List.replicate n (0 : Int)) 1 (n : Int) i = (i : Int) := by
  have e : (List.replicate n (0 : Int)).getD i 0 = 0 := by rw [List.getD_eq_getElem?_getD, List.getElem?_replicate, if_pos h]; rfl
  unfold slot
  rw [e, cnt_zeros (by omega), if_pos (by omega)]
end Sl

end Go.Proofs.YtfidgcanolegfaaGreat

/- Models as lists (no program in sight): what Right, Tokens, Parts, Combine and Forward of layer 15 are as functions on lists, and the laws that its statements rest on. -/
namespace Go.Proofs.YtfidgcanolegfaaGreat

abbrev Xp := List (List Int) × List (List Int) × Unit
abbrev Ly := List (List Int) × List Xp × Int × Unit
abbrev Pt := Int × Int × Int × Int × Unit
def xp0 : Xp := ([], [], ())
def ly0 : Ly := ([], [], 0, ())
def pt (t r e w : Int) : Pt := (t, r, e, w, ())
def pt0 : Pt := pt 0 0 0 0

namespace Md

/-! ### Right ones -/
def LRight (l : Ly) (dim : Int) : Prop := 1 ≤ l.2.1.length ∧ l.2.1.length ≤ 8 ∧ Mx.Right l.1 l.2.1.length dim ∧ 1 ≤ l.2.2.1 ∧ l.2.2.1 ≤ 32 ∧ ∀ x ∈ l.2.1, Ex.Right x.1 x.2.1 dim
def Right (dim : Int) (ls : List Ly) : Prop := 1 ≤ dim ∧ dim ≤ 8 ∧ 1 ≤ ls.length ∧ ls.length ≤ 4 ∧ ∀ l ∈ ls, LRight l dim
def TRight (dim : Int) (ts : List (List Int)) : Prop := 1 ≤ ts.length ∧ ts.length ≤ 16 ∧ Mx.Right ts ts.length dim
/-- Short enough to be gone through. -/
def LSmall (l : Ly) : Prop := l.2.1.length ≤ 9 ∧ Mx.Small l.1 ∧ ∀ x ∈ l.2.1, Mx.Small x.1 ∧ Mx.Small x.2.1
def Small (ls : List Ly) : Prop := ls.length ≤ 5 ∧ ∀ l ∈ ls, LSmall l

section
variable {dim : Int} {ts : List (List Int)} {l : Ly} {ls : List Ly}
theorem TRight.row (h : TRight dim ts) {t : Nat} (ht : t < ts.length) : ((ts.getD t []).length : Int) = dim ∧ Mx.In (ts.getD t []) := h.2.2.2 _ (Mx.getD_mem ts t ht)
theorem LRight.fits (h : LRight l dim) {v : List Int} (hv : (v.length : Int) = dim) : Mx.Fits l.1 v.length := fun r hr => by have := (h.2.2.1.2 r hr).1; omega
theorem LRight.gate (h : LRight l dim) : l.1.length = l.2.1.length := by have := h.2.2.1.1; omega
theorem LRight.some (h : LRight l dim) : l.1 ≠ [] := fun e => by have h1 := h.gate; have h2 := h.1; rw [e] at h1; simp at h1; omega
theorem TRight.take (h : TRight dim ts) {k : Nat} (h1 : 1 ≤ k) (h2 : k ≤ ts.length) : TRight dim (ts.take k) := by
  have hl : (ts.take k).length = k := by rw [List.length_take]; omega
  refine ⟨by omega, by have := h.2.1; omega, rfl, fun r hr => h.2.2.2 r (List.mem_of_mem_take hr)⟩
theorem TRight.one (h : TRight dim ts) {t : Nat} (ht : t < ts.length) : TRight dim [ts.getD t []] := ⟨by simp, by simp, rfl, fun r hr => by rw [List.mem_singleton.1 hr]; exact h.row ht⟩
end

/-! ### Two numbers of each row -/
def duo (f g : List Int → Int) (ts : List (List Int)) : List Int := ts.flatMap fun v => [f v, g v]
section
variable (f g : List Int → Int)
theorem duo_length (ts : List (List Int)) : (duo f g ts).length = ts.length * 2 := by
  induction ts with
  | nil => rfl
  | cons v ts ih => show (f v :: g v :: duo f g ts).length = _; simp only [List.length_cons, ih]; omega
theorem duo_snoc (ts : List (List Int)) (v : List Int) : duo f g (ts ++ [v]) = duo f g ts ++ [f v, g v] := by simp [duo]
theorem duo_even (ts : List (List Int)) {t : Nat} (h : t < ts.length) : (duo f g ts).getD (t * 2) 0 = f (ts.getD t []) := by
  induction ts generalizing t with
  | nil => simp at h
  | cons v ts ih =>
    cases t with
    | zero => rfl
    | succ t =>
      show (f v :: g v :: duo f g ts).getD ((t + 1) * 2) 0 = _
      rw [show (t + 1) * 2 = t * 2 + 1 + 1 by omega, List.getD_cons_succ, List.getD_cons_succ, List.getD_cons_succ]
      exact ih (by simpa using h)
theorem duo_odd (ts : List (List Int)) {t : Nat} (h : t < ts.length) : (duo f g ts).getD (t * 2 + 1) 0 = g (ts.getD t []) := by
  induction ts generalizing t with
  | nil => simp at h
  | cons v ts ih =>
    cases t with
    | zero => rfl
    | succ t =>
      show (f v :: g v :: duo f g ts).getD ((t + 1) * 2 + 1) 0 = _
      rw [show (t + 1) * 2 + 1 = (t * 2 + 1) + 1 + 1 by omega, List.getD_cons_succ, List.getD_cons_succ, List.getD_cons_succ]
      exact ih (by simpa using h)
theorem duo_take (ts : List (List Int)) (k : Nat) : duo f g (ts.take k) = (duo f g ts).take (k * 2) := by
  induction ts generalizing k with
  | nil => simp [duo]
  | cons v ts ih =>
    cases k with
    | zero => simp [duo]
    | succ k =>
      show f v :: g v :: duo f g (ts.take k) = (f v :: g v :: duo f g ts).take ((k + 1) * 2)
      rw [show (k + 1) * 2 = k * 2 + 1 + 1 by omega, List.take_succ_cons, List.take_succ_cons, ih]
end

/-! ### Parts -/
def first (m : List (List Int)) (v : List Int) : Int := Tx.best (Mx.app m v)
def second (m : List (List Int)) (v : List Int) : Int := Tx.second (Mx.app m v)
def w1 (m : List (List Int)) (v : List Int) : Int := Gx.part (Mx.app m v)
def w2 (m : List (List Int)) (v : List Int) : Int := 65536 - Gx.part (Mx.app m v)
def wants (m : List (List Int)) (ts : List (List Int)) : List Int := duo (first m) (second m) ts
def wts (m : List (List Int)) (ts : List (List Int)) : List Int := duo (w1 m) (w2 m) ts
def slot (l : Ly) (ts : List (List Int)) (i : Nat) : Int := Sl.slot (wants l.1 ts) (l.2.1.length : Int) l.2.2.1 i
/-- The part at the flat place i, if it has a slot. -/
def one (l : Ly) (ts : List (List Int)) (i : Nat) : List Pt := if 0 ≤ slot l ts i then [pt ((i / 2 : Nat) : Int) ((i % 2 : Nat) : Int) ((wants l.1 ts).getD i 0) ((wts l.1 ts).getD i 0)] else []
def upto (l : Ly) (ts : List (List Int)) (i : Nat) : List Pt := (List.range i).flatMap (one l ts)
def parts (l : Ly) (ts : List (List Int)) : List Pt := upto l ts (ts.length * 2)

section
variable {dim : Int} {ts : List (List Int)} {l : Ly}
theorem choice_is (hl : LRight l dim) {v : List Int} (hv : (v.length : Int) = dim) : Gx.Is l.1 v (first l.1 v) (second l.1 v) (w1 l.1 v) (w2 l.1 v) true :=
  .inr ⟨rfl, hl.fits hv, hl.some, rfl, rfl, rfl, rfl⟩
theorem wants_length (m : List (List Int)) (ts : List (List Int)) : (wants m ts).length = ts.length * 2 := duo_length _ _ _
theorem wts_length (m : List (List Int)) (ts : List (List Int)) : (wts m ts).length = ts.length * 2 := duo_length _ _ _
theorem upto_zero (l : Ly) (ts : List (List Int)) : upto l ts 0 = [] := rfl
theorem upto_succ (l : Ly) (ts : List (List Int)) (i : Nat) : upto l ts (i + 1) = upto l ts i ++ one l ts i := by simp [upto, List.range_succ]
theorem upto_token (l : Ly) (ts : List (List Int)) (t : Nat) : upto l ts ((t + 1) * 2) = upto l ts (t * 2) ++ (one l ts (t * 2) ++ one l ts (t * 2 + 1)) := by
  rw [show (t + 1) * 2 = t * 2 + 1 + 1 by omega, upto_succ, upto_succ, List.append_assoc]
theorem one_even (l : Ly) {ts : List (List Int)} {t : Nat} (h : t < ts.length) : one l ts (t * 2) = if 0 ≤ slot l ts (t * 2) then [pt t 0 (first l.1 (ts.getD t [])) (w1 l.1 (ts.getD t []))] else [] := by
  unfold one wants wts
  rw [duo_even _ _ ts h, duo_even _ _ ts h, show t * 2 / 2 = t by omega, show t * 2 % 2 = 0 by omega]
  rfl
theorem one_odd (l : Ly) {ts : List (List Int)} {t : Nat} (h : t < ts.length) : one l ts (t * 2 + 1) = if 0 ≤ slot l ts (t * 2 + 1) then [pt t 1 (second l.1 (ts.getD t [])) (w2 l.1 (ts.getD t []))] else [] := by
  unfold one wants wts
  rw [duo_odd _ _ ts h, duo_odd _ _ ts h, show (t * 2 + 1) / 2 = t by omega, show (t * 2 + 1) % 2 = 1 by omega]
  rfl
theorem one_len (l : Ly) (ts : List (List Int)) (i : Nat) : (one l ts i).length ≤ 1 := by unfold one; split <;> simp
theorem upto_len (l : Ly) (ts : List (List Int)) (i : Nat) : (upto l ts i).length ≤ i := by
  induction i with
  | zero => simp [upto]
  | succ i ih => rw [upto_succ, List.length_append]; have := one_len l ts i; omega
/-- What a part is. -/
theorem mem_one {p : Pt} {i : Nat} (h : p ∈ one l ts i) : p = pt ((i / 2 : Nat) : Int) ((i % 2 : Nat) : Int) ((wants l.1 ts).getD i 0) ((wts l.1 ts).getD i 0) ∧ 0 ≤ slot l ts i := by
  unfold one at h
  split at h
  · rename_i h2; exact ⟨List.mem_singleton.1 h, h2⟩
  · simp at h
theorem mem_upto {p : Pt} {n : Nat} (h : p ∈ upto l ts n) : ∃ i, i < n ∧ p ∈ one l ts i := by
  obtain ⟨i, hi, hp⟩ := List.mem_flatMap.1 h
  exact ⟨i, List.mem_range.1 hi, hp⟩
theorem slot_expert {i : Nat} (h : 0 ≤ slot l ts i) : 0 ≤ (wants l.1 ts).getD i 0 ∧ (wants l.1 ts).getD i 0 < (l.2.1.length : Int) := by
  unfold slot Sl.slot at h
  split at h
  · rename_i h2; exact ⟨h2.1, h2.2.1⟩
  · omega
theorem part_fits {p : Pt} (h : p ∈ parts l ts) : 0 ≤ p.1 ∧ p.1 < (ts.length : Int) ∧ 0 ≤ p.2.2.1 ∧ p.2.2.1 < (l.2.1.length : Int) := by
  obtain ⟨i, hi, hp⟩ := mem_upto h
  obtain ⟨rfl, hs⟩ := mem_one hp
  have he := slot_expert hs
  refine ⟨?_, ?_, he.1, he.2⟩
  · show (0 : Int) ≤ ((i / 2 : Nat) : Int); omega
  · show ((i / 2 : Nat) : Int) < _; omega

/-! ### Those of one token -/
theorem filter_one (l : Ly) (ts : List (List Int)) (i t : Nat) : (one l ts i).filter (fun p => p.1 == (t : Int)) = if i / 2 = t then one l ts i else [] := by
  unfold one
  split
  · by_cases h : i / 2 = t
    · rw [if_pos h, List.filter_cons_of_pos (by show (((i / 2 : Nat) : Int) == (t : Int)) = true; rw [h]; simp)]; rfl
    · rw [if_neg h, List.filter_cons_of_neg (by show ¬ (((i / 2 : Nat) : Int) == (t : Int)) = true; simp; omega)]; rfl
  · split <;> rfl
theorem filter_upto (l : Ly) (ts : List (List Int)) (n t : Nat) : (upto l ts (n * 2)).filter (fun p => p.1 == (t : Int)) = if t < n then one l ts (t * 2) ++ one l ts (t * 2 + 1) else [] := by
  induction n with
  | zero => simp [upto]
  | succ n ih =>
    rw [upto_token, List.filter_append, List.filter_append, ih, filter_one, filter_one, show n * 2 / 2 = n by omega, show (n * 2 + 1) / 2 = n by omega]
    by_cases h : n = t
    · subst h; rw [if_neg (by omega), if_pos rfl, if_pos rfl, if_pos (by omega)]; rfl
    · rw [if_neg h, if_neg h]
      by_cases h2 : t < n
      · rw [if_pos h2, if_pos (by omega)]; simp
      · rw [if_neg h2, if_neg (by omega)]; rfl
theorem filter_parts (l : Ly) {ts : List (List Int)} {t : Nat} (h : t < ts.length) : (parts l ts).filter (fun p => p.1 == (t : Int)) = one l ts (t * 2) ++ one l ts (t * 2 + 1) := by
  unfold parts; rw [filter_upto, if_pos h]
end

/-! ### Forward -/
/-- What expert e makes of v. -/
def ans (l : Ly) (v : List Int) (e : Int) : List Int := Ex.run (l.2.1.getD e.toNat xp0).1 (l.2.1.getD e.toNat xp0).2.1 v
def grow (l : Ly) (v0 v : List Int) (p : Pt) : List Int := Vx.add v (Vx.scale (ans l v0 p.2.2.1) p.2.2.2.1)
def out (l : Ly) (ts : List (List Int)) (t : Nat) : List Int := (one l ts (t * 2) ++ one l ts (t * 2 + 1)).foldl (grow l (ts.getD t [])) (ts.getD t [])
def stepTo (l : Ly) (ts : List (List Int)) (k : Nat) : List (List Int) := (List.range k).map (out l ts)
def step (l : Ly) (ts : List (List Int)) : List (List Int) := stepTo l ts ts.length
def forward (ls : List Ly) (ts : List (List Int)) : List (List Int) := ls.foldl (fun ts l => step l ts) ts

section
variable {dim : Int} {ts : List (List Int)} {l : Ly} {ls : List Ly}
theorem stepTo_len (l : Ly) (ts : List (List Int)) (k : Nat) : (stepTo l ts k).length = k := by simp [stepTo]
theorem stepTo_succ (l : Ly) (ts : List (List Int)) (k : Nat) : stepTo l ts (k + 1) = stepTo l ts k ++ [out l ts k] := by simp [stepTo, List.range_succ]
theorem step_len (l : Ly) (ts : List (List Int)) : (step l ts).length = ts.length := stepTo_len _ _ _
theorem step_at (l : Ly) {ts : List (List Int)} {t : Nat} (h : t < ts.length) : (step l ts).getD t [] = out l ts t := by
  unfold step stepTo
  rw [List.getD_eq_getElem?_getD, List.getElem?_map, List.getElem?_range h]
  rfl
theorem forward_len (ls : List Ly) (ts : List (List Int)) : (forward ls ts).length = ts.length := by
  induction ls generalizing ts with
  | nil => rfl
  | cons l ls ih => exact (ih (step l ts)).trans (step_len l ts)
theorem forward_cons (l : Ly) (ls : List Ly) (ts : List (List Int)) : forward (l :: ls) ts = forward ls (step l ts) := rfl
theorem forward_append (ls ms : List Ly) (ts : List (List Int)) : forward (ls ++ ms) ts = forward ms (forward ls ts) := List.foldl_append ..
theorem forward_snoc (ls : List Ly) (l : Ly) (ts : List (List Int)) : forward (ls ++ [l]) ts = step l (forward ls ts) := forward_append _ _ _

/-- What is added is held, and as long as it was. -/
theorem add_in {a b : List Int} : Mx.In (Vx.add a b) := by
  intro n hn
  unfold Vx.add at hn
  rw [List.mem_iff_getElem] at hn
  obtain ⟨i, hi, rfl⟩ := hn
  rw [List.getElem_zipWith]
  unfold Fx.add
  exact Fx.hold_id (Fx.hold_lo _) (Fx.hold_hi _)
theorem ans_len (hl : LRight l dim) {v : List Int} (hv : (v.length : Int) = dim) {e : Int} (h0 : 0 ≤ e) (h1 : e < (l.2.1.length : Int)) : (ans l v e).length = v.length := by
  have hm : l.2.1.getD e.toNat xp0 ∈ l.2.1 := by rw [List.getD_eq_getElem?_getD, List.getElem?_eq_getElem (by omega)]; exact List.getElem_mem _
  have hR := hl.2.2.2.2.2 _ hm
  rw [← hv] at hR
  exact Ex.run_length v hR
theorem ans_right (hl : LRight l dim) {e : Int} (h0 : 0 ≤ e) (h1 : e < (l.2.1.length : Int)) : Ex.Right (l.2.1.getD e.toNat xp0).1 (l.2.1.getD e.toNat xp0).2.1 dim := by
  have hm : l.2.1.getD e.toNat xp0 ∈ l.2.1 := by rw [List.getD_eq_getElem?_getD, List.getElem?_eq_getElem (by omega)]; exact List.getElem_mem _
  exact hl.2.2.2.2.2 _ hm
theorem grows (hl : LRight l dim) {v0 : List Int} (hv : (v0.length : Int) = dim) (ps : List Pt) (hp : ∀ p ∈ ps, 0 ≤ p.2.2.1 ∧ p.2.2.1 < (l.2.1.length : Int)) (v : List Int) (hlen : v.length = v0.length) (hin : Mx.In v) :
    (ps.foldl (grow l v0) v).length = v0.length ∧ Mx.In (ps.foldl (grow l v0) v) := by
  induction ps generalizing v with
  | nil => exact ⟨hlen, hin⟩
  | cons p ps ih =>
    have h1 := hp p (by simp)
    refine ih (fun q hq => hp q (by simp [hq])) (grow l v0 v p) ?_ add_in
    unfold grow
    rw [Vx.add_length _ _ (by rw [Vx.scale_length, ans_len hl hv h1.1 h1.2, hlen]), hlen]
theorem one_experts {i : Nat} : ∀ p ∈ one l ts i, 0 ≤ p.2.2.1 ∧ p.2.2.1 < (l.2.1.length : Int) := by
  intro p hp
  obtain ⟨rfl, hs⟩ := mem_one hp
  exact slot_expert hs
theorem two_experts {i j : Nat} : ∀ p ∈ one l ts i ++ one l ts j, 0 ≤ p.2.2.1 ∧ p.2.2.1 < (l.2.1.length : Int) := by
  intro p hp
  rcases List.mem_append.1 hp with hp | hp
  · exact one_experts p hp
  · exact one_experts p hp
theorem out_right (hl : LRight l dim) (ht : TRight dim ts) {t : Nat} (h : t < ts.length) : ((out l ts t).length : Int) = dim ∧ Mx.In (out l ts t) := by
  have h1 := ht.row h
  have h2 := grows hl h1.1 (one l ts (t * 2) ++ one l ts (t * 2 + 1)) two_experts (ts.getD t []) rfl h1.2
  exact ⟨by unfold out; rw [h2.1]; exact h1.1, h2.2⟩
theorem step_right (hl : LRight l dim) (ht : TRight dim ts) : TRight dim (step l ts) := by
  refine ⟨by rw [step_len]; exact ht.1, by rw [step_len]; exact ht.2.1, rfl, fun r hr => ?_⟩
  obtain ⟨t, h, rfl⟩ := List.mem_map.1 hr
  exact out_right hl ht (List.mem_range.1 h)
theorem forward_right (hl : ∀ l ∈ ls, LRight l dim) (ht : TRight dim ts) : TRight dim (forward ls ts) := by
  induction ls generalizing ts with
  | nil => exact ht
  | cons l ls ih => exact ih (fun m hm => hl m (by simp [hm])) (step_right (hl l (by simp)) ht)
end

/-! ### Combine -/
def put (o : List (List Int)) (p : Pt) (a : List Int) : List (List Int) :=
  if 0 ≤ p.1 ∧ p.1 < (o.length : Int) ∧ (o.getD p.1.toNat []).length = a.length then o.set p.1.toNat (Vx.add (o.getD p.1.toNat []) (Vx.scale a p.2.2.2.1)) else o
def puts (o : List (List Int)) (xs : List (Pt × List Int)) : List (List Int) := xs.foldl (fun o x => put o x.1 x.2) o
def combine (ts : List (List Int)) (ps : List Pt) (as : List (List Int)) : List (List Int) := puts ts (ps.zip as)
section
variable {dim : Int} {ts : List (List Int)} {l : Ly}
theorem combine_none (ts : List (List Int)) (ps : List Pt) : combine ts ps [] = ts := by unfold combine; rw [List.zip_nil_right]; rfl
theorem put_len (o : List (List Int)) (p : Pt) (a : List Int) : (put o p a).length = o.length := by unfold put; split <;> simp
theorem puts_len (o : List (List Int)) (xs : List (Pt × List Int)) : (puts o xs).length = o.length := by
  induction xs generalizing o with
  | nil => rfl
  | cons x xs ih => exact (ih (put o x.1 x.2)).trans (put_len _ _ _)
theorem puts_snoc (o : List (List Int)) (xs : List (Pt × List Int)) (x : Pt × List Int) : puts o (xs ++ [x]) = put (puts o xs) x.1 x.2 := by unfold puts; rw [List.foldl_append]; rfl
theorem put_at {o : List (List Int)} {p : Pt} {a : List Int} {t : Nat} (h0 : 0 ≤ p.1) (h1 : p.1 < (o.length : Int)) (h2 : (o.getD p.1.toNat []).length = a.length) :
    (put o p a).getD t [] = if p.1 == (t : Int) then Vx.add (o.getD t []) (Vx.scale a p.2.2.2.1) else o.getD t [] := by
  unfold put
  rw [if_pos ⟨h0, h1, h2⟩]
  by_cases h : p.1 = (t : Int)
  · rw [if_pos (by simpa using h)]
    have e : p.1.toNat = t := by omega
    rw [e, List.getD_eq_getElem?_getD, List.getElem?_set_self (by omega)]
    rfl
  · rw [if_neg (by simpa using h), List.getD_eq_getElem?_getD, List.getElem?_set_ne (by omega), List.getD_eq_getElem?_getD]
theorem puts_at {n : Nat} {o : List (List Int)} (hn : ∀ t, t < o.length → (o.getD t []).length = n) (xs : List (Pt × List Int)) (hx : ∀ x ∈ xs, 0 ≤ x.1.1 ∧ x.1.1 < (o.length : Int) ∧ x.2.length = n) {t : Nat} (ht : t < o.length) :
    (puts o xs).getD t [] = (xs.filter fun x => x.1.1 == (t : Int)).foldl (fun v x => Vx.add v (Vx.scale x.2 x.1.2.2.2.1)) (o.getD t []) := by
  induction xs generalizing o with
  | nil => rfl
  | cons x xs ih =>
    obtain ⟨h0, h1, h2⟩ := hx x (by simp)
    have h3 : (o.getD x.1.1.toNat []).length = x.2.length := by rw [hn _ (by omega), h2]
    have hp := fun t => put_at (t := t) h0 h1 h3
    have ih' := ih (o := put o x.1 x.2) (fun s hs => by
      rw [put_len] at hs
      rw [hp s]
      split
      · rw [Vx.add_length _ _ (by rw [Vx.scale_length, h2, hn s hs]), hn s hs]
      · exact hn s hs) (fun y hy => by rw [put_len]; exact hx y (by simp [hy])) (by rw [put_len]; exact ht)
    show (puts (put o x.1 x.2) xs).getD t [] = _
    rw [ih', hp t]
    by_cases h : (x.1.1 == (t : Int)) = true
    · rw [if_pos h, List.filter_cons_of_pos (p := fun x : Pt × List Int => x.1.1 == (t : Int)) h]; rfl
    · rw [if_neg h, List.filter_cons_of_neg (p := fun x : Pt × List Int => x.1.1 == (t : Int)) h]
theorem list_ext {a b : List (List Int)} (hl : a.length = b.length) (h : ∀ t, t < a.length → a.getD t [] = b.getD t []) : a = b := by
  apply List.ext_getElem hl
  intro i h1 h2
  have := h i h1
  rw [List.getD_eq_getElem?_getD, List.getD_eq_getElem?_getD, List.getElem?_eq_getElem h1, List.getElem?_eq_getElem h2] at this
  exact this
theorem zip_map {α β : Type} (ps : List α) (f : α → β) : ps.zip (ps.map f) = ps.map fun p => (p, f p) := by
  induction ps with
  | nil => rfl
  | cons p ps ih => simp [ih]
/-- The answers of parts. -/
def answers (l : Ly) (ts : List (List Int)) (ps : List Pt) : List (List Int) := ps.map fun p => ans l (ts.getD p.1.toNat []) p.2.2.1
theorem foldl_same (l : Ly) (ts : List (List Int)) (t : Nat) (ps : List Pt) (h : ∀ p ∈ ps, p.1 = (t : Int)) (v : List Int) :
    (ps.map fun p => (p, ans l (ts.getD p.1.toNat []) p.2.2.1)).foldl (fun v (x : Pt × List Int) => Vx.add v (Vx.scale x.2 x.1.2.2.2.1)) v = ps.foldl (grow l (ts.getD t [])) v := by
  induction ps generalizing v with
  | nil => rfl
  | cons p ps ih =>
    have e : p.1.toNat = t := by have := h p (by simp); omega
    show (ps.map _).foldl _ (Vx.add v (Vx.scale (ans l (ts.getD p.1.toNat []) p.2.2.1) p.2.2.2.1)) = ps.foldl _ (grow l (ts.getD t []) v p)
    rw [ih (fun q hq => h q (by simp [hq])), e]
    rfl
theorem combine_step (hl : LRight l dim) (ht : TRight dim ts) : combine ts (parts l ts) (answers l ts (parts l ts)) = step l ts := by
  unfold combine answers
  rw [zip_map]
  refine list_ext (by rw [puts_len, step_len]) fun t h => ?_
  rw [puts_len] at h
  rw [puts_at (n := dim.toNat) (fun s hs => by have := (ht.row hs).1; omega) _ (fun x hx => ?_) h, step_at l h]
  · rw [List.filter_map]
    have e : (fun x : Pt × List Int => x.1.1 == (t : Int)) ∘ (fun p : Pt => (p, ans l (ts.getD p.1.toNat []) p.2.2.1)) = fun p => p.1 == (t : Int) := rfl
    rw [e, foldl_same l ts t _ (fun p hp => by have := (List.mem_filter.1 hp).2; simpa using this), filter_parts l h]
    rfl
  · obtain ⟨p, hp, rfl⟩ := List.mem_map.1 hx
    obtain ⟨h0, h1, h2, h3⟩ := part_fits hp
    have h4 := (ht.row (t := p.1.toNat) (by omega)).1
    refine ⟨h0, h1, ?_⟩
    show (ans l (ts.getD p.1.toNat []) p.2.2.1).length = _
    rw [ans_len hl h4 h2 h3]
    omega
end

end Md
end Go.Proofs.YtfidgcanolegfaaGreat

/- The laws on models as lists that the statements of layer 15 rest on (no program in sight). -/
namespace Go.Proofs.YtfidgcanolegfaaGreat.Md
open Go.Proofs.YtfidgcanolegfaaGreat

section
variable {dim : Int} {ts : List (List Int)} {l : Ly} {ls : List Ly}

/-! ### A beginning of the tokens -/
theorem wants_take (m ts : List (List Int)) (k : Nat) : wants m (ts.take k) = (wants m ts).take (k * 2) := duo_take _ _ _ _
theorem slot_take (l : Ly) (ts : List (List Int)) {i k : Nat} (h : i < k * 2) : slot l (ts.take k) i = slot l ts i := by
  unfold slot
  rw [wants_take, Sl.slot_take h]
theorem take_getD (ts : List (List Int)) {t k : Nat} (h : t < k) : (ts.take k).getD t [] = ts.getD t [] := by
  rw [List.getD_eq_getElem?_getD, List.getD_eq_getElem?_getD, List.getElem?_take, if_pos h]
theorem out_take (l : Ly) {ts : List (List Int)} {t k : Nat} (h : t < k) (hk : k ≤ ts.length) : out l (ts.take k) t = out l ts t := by
  have hl : (ts.take k).length = k := by rw [List.length_take]; omega
  unfold out
  rw [one_even l (by omega), one_odd l (by omega), one_even l (by omega), one_odd l (by omega), slot_take l ts (by omega), slot_take l ts (by omega), take_getD ts h]
theorem step_take (l : Ly) {ts : List (List Int)} {k : Nat} (hk : k ≤ ts.length) : step l (ts.take k) = (step l ts).take k := by
  have hl : (ts.take k).length = k := by rw [List.length_take]; omega
  refine list_ext (by rw [step_len, hl, List.length_take, step_len]; omega) fun t h => ?_
  rw [step_len, hl] at h
  rw [step_at l (by omega), out_take l h hk, take_getD _ h, step_at l (by omega)]
theorem forward_take (ls : List Ly) {ts : List (List Int)} {k : Nat} (hk : k ≤ ts.length) : forward ls (ts.take k) = (forward ls ts).take k := by
  induction ls generalizing ts with
  | nil => rfl
  | cons l ls ih => rw [forward_cons, forward_cons, step_take l hk]; exact ih (by rw [step_len]; exact hk)

/-! ### Experts that make noughts -/
def stillX (x : Xp) : Xp := (x.1, List.replicate x.2.1.length (List.replicate x.1.length 0), ())
def stillL (l : Ly) : Ly := (l.1, l.2.1.map stillX, l.2.2.1, ())
theorem stillX_right {x : Xp} {n : Nat} (h : Ex.Right x.1 x.2.1 n) : Ex.Right (stillX x).1 (stillX x).2.1 n := by
  refine ⟨h.1, h.2.1, h.2.2.1, ?_, fun r hr => ?_⟩
  · show ((List.replicate x.2.1.length (List.replicate x.1.length (0 : Int))).length : Int) = n
    rw [List.length_replicate]; exact h.2.2.2.1
  · rw [List.eq_of_mem_replicate hr]
    exact ⟨by show ((List.replicate x.1.length (0 : Int)).length : Int) = _; rw [List.length_replicate]; rfl, Ex.in_zeros _⟩
theorem stillL_right {n : Nat} (h : LRight l n) : LRight (stillL l) n := by
  have hn : (stillL l).2.1.length = l.2.1.length := by show (l.2.1.map stillX).length = _; rw [List.length_map]
  refine ⟨by rw [hn]; exact h.1, by rw [hn]; exact h.2.1, by rw [hn]; exact h.2.2.1, h.2.2.2.1, h.2.2.2.2.1, fun x hx => ?_⟩
  obtain ⟨y, hy, rfl⟩ := List.mem_map.1 hx
  exact stillX_right (h.2.2.2.2.2 y hy)
theorem app_noughts (k n : Nat) (v : List Int) (h : v.length = n) : Mx.app (List.replicate k (List.replicate n 0)) v = List.replicate k 0 := by
  unfold Mx.app
  rw [List.map_replicate, ← h, Ex.dot_none]
theorem still_run {x : Xp} {n : Nat} (h : Ex.Right x.1 x.2.1 n) (v : List Int) : Ex.run (stillX x).1 (stillX x).2.1 v = List.replicate n 0 := by
  show Mx.app (List.replicate x.2.1.length (List.replicate x.1.length 0)) (Vx.relu (Mx.app x.1 v)) = _
  rw [app_noughts _ _ _ (by rw [Vx.relu_length, Mx.app_length]), h.len]
theorem scale_noughts (n : Nat) (k : Int) : Vx.scale (List.replicate n 0) k = List.replicate n 0 := by
  unfold Vx.scale
  rw [List.map_replicate, show Fx.mul 0 k = 0 by simp [Fx.mul, Fx.hold]]
theorem add_noughts {v : List Int} (h : Mx.In v) : Vx.add v (List.replicate v.length 0) = v := by
  induction v with
  | nil => rfl
  | cons x v ih =>
    have h1 := h x (by simp)
    show Fx.add x 0 :: Vx.add v (List.replicate v.length 0) = _
    rw [ih fun y hy => h y (by simp [hy])]
    congr 1
    unfold Fx.add
    rw [show Fx.hold 0 = 0 from rfl, Int.add_zero, h1, h1]
theorem still_fold {n : Nat} (hl : LRight l n) {v0 : List Int} (hv : v0.length = n) (hin : Mx.In v0) (ps : List Pt) (hp : ∀ p ∈ ps, 0 ≤ p.2.2.1 ∧ p.2.2.1 < (l.2.1.length : Int)) : ps.foldl (grow (stillL l) v0) v0 = v0 := by
  induction ps with
  | nil => rfl
  | cons p ps ih =>
    obtain ⟨h0, h1⟩ := hp p (by simp)
    have e : (stillL l).2.1.getD p.2.2.1.toNat xp0 = stillX (l.2.1.getD p.2.2.1.toNat xp0) := by
      show (l.2.1.map stillX).getD p.2.2.1.toNat xp0 = _
      rw [List.getD_eq_getElem?_getD, List.getElem?_map, List.getD_eq_getElem?_getD, List.getElem?_eq_getElem (by omega)]
      rfl
    have hg : grow (stillL l) v0 v0 p = v0 := by
      unfold grow ans
      rw [e, still_run (ans_right hl h0 h1), scale_noughts, ← hv, add_noughts hin]
    show ps.foldl _ (grow (stillL l) v0 v0 p) = v0
    rw [hg]
    exact ih fun q hq => hp q (by simp [hq])
theorem still_step {n : Nat} (hl : LRight l n) (ht : TRight n ts) : step (stillL l) ts = ts := by
  refine list_ext (step_len _ _) fun t h => ?_
  rw [step_len] at h
  rw [step_at _ h]
  have h1 := ht.row h
  unfold out
  refine still_fold hl (by omega) h1.2 _ fun p hp => ?_
  have h2 := two_experts p hp
  have hn : (stillL l).2.1.length = l.2.1.length := by show (l.2.1.map stillX).length = _; rw [List.length_map]
  rw [hn] at h2
  exact h2
theorem still_forward {n : Nat} (hl : ∀ l ∈ ls, LRight l n) (ht : TRight n ts) : forward (ls.map stillL) ts = ts := by
  induction ls with
  | nil => rfl
  | cons l ls ih =>
    rw [List.map_cons, forward_cons, still_step (hl l (by simp)) ht]
    exact ih fun m hm => hl m (by simp [hm])

/-! ### Room for all -/
def wideL (l : Ly) : Ly := (l.1, l.2.1, 32, ())
theorem wideL_right (h : LRight l dim) : LRight (wideL l) dim := ⟨h.1, h.2.1, h.2.2.1, by show (1 : Int) ≤ 32; omega, by show (32 : Int) ≤ 32; omega, h.2.2.2.2.2⟩
theorem wide_slot (l : Ly) {ts : List (List Int)} {i : Nat} (hi : i < 32) : 0 ≤ slot (wideL l) ts i ↔ 0 ≤ (wants l.1 ts).getD i 0 ∧ (wants l.1 ts).getD i 0 < (l.2.1.length : Int) :=
  Sl.slot_all (l := wants l.1 ts) (E := (l.2.1.length : Int)) (C := 32) (i := i) (by omega)
/-- What is made of a token whose parts all have room. -/
def alone (l : Ly) (v : List Int) : List Int :=
  ((if 0 ≤ first l.1 v ∧ first l.1 v < (l.2.1.length : Int) then [pt 0 0 (first l.1 v) (w1 l.1 v)] else []) ++ (if 0 ≤ second l.1 v ∧ second l.1 v < (l.2.1.length : Int) then [pt 0 1 (second l.1 v) (w2 l.1 v)] else [])).foldl (grow l v) v
theorem out_wide (l : Ly) {ts : List (List Int)} {t : Nat} (h : t < ts.length) (hn : ts.length ≤ 16) : out (wideL l) ts t = alone l (ts.getD t []) := by
  have s0 := wide_slot l (ts := ts) (i := t * 2) (by omega)
  have s1 := wide_slot l (ts := ts) (i := t * 2 + 1) (by omega)
  unfold wants at s0 s1
  rw [duo_even _ _ ts h] at s0
  rw [duo_odd _ _ ts h] at s1
  unfold out alone
  rw [one_even (wideL l) h, one_odd (wideL l) h]
  by_cases c0 : 0 ≤ first l.1 (ts.getD t []) ∧ first l.1 (ts.getD t []) < (l.2.1.length : Int)
  · rw [if_pos c0, if_pos (s0.2 c0)]
    by_cases c1 : 0 ≤ second l.1 (ts.getD t []) ∧ second l.1 (ts.getD t []) < (l.2.1.length : Int)
    · rw [if_pos c1, if_pos (s1.2 c1)]; rfl
    · rw [if_neg c1, if_neg (fun h => c1 (s1.1 h))]; rfl
  · rw [if_neg c0, if_neg (fun h => c0 (s0.1 h))]
    by_cases c1 : 0 ≤ second l.1 (ts.getD t []) ∧ second l.1 (ts.getD t []) < (l.2.1.length : Int)
    · rw [if_pos c1, if_pos (s1.2 c1)]; rfl
    · rw [if_neg c1, if_neg (fun h => c1 (s1.1 h))]; rfl
theorem step_alone (l : Ly) {ts : List (List Int)} {t : Nat} (h : t < ts.length) (hn : ts.length ≤ 16) : [(step (wideL l) ts).getD t []] = step (wideL l) [ts.getD t []] := by
  have e : step (wideL l) [ts.getD t []] = [out (wideL l) [ts.getD t []] 0] := rfl
  rw [e, step_at _ h, out_wide l h hn, out_wide l (ts := [ts.getD t []]) (t := 0) (by simp) (by simp)]
  rfl
theorem forward_alone (ls : List Ly) {ts : List (List Int)} {t : Nat} (h : t < ts.length) (hn : ts.length ≤ 16) : forward (ls.map wideL) [ts.getD t []] = [(forward (ls.map wideL) ts).getD t []] := by
  induction ls generalizing ts with
  | nil => rfl
  | cons l ls ih =>
    rw [List.map_cons, forward_cons, forward_cons, ← step_alone l h hn]
    exact ih (by rw [step_len]; exact h) (by rw [step_len]; exact hn)

/-! ### What parts are -/
/-- How many of the parts are of expert e. -/
def many (ps : List Pt) (e : Int) : Nat := (ps.filter fun p => p.2.2.1 == e).length
theorem many_append (ps qs : List Pt) (e : Int) : many (ps ++ qs) e = many ps e + many qs e := by unfold many; rw [List.filter_append, List.length_append]
theorem many_upto (l : Ly) (ts : List (List Int)) (e : Int) (h0 : 0 ≤ e) (h1 : e < (l.2.1.length : Int)) {i : Nat} (hi : i ≤ ts.length * 2) : (many (upto l ts i) e : Int) = Sl.giv (wants l.1 ts) (l.2.1.length : Int) l.2.2.1 i e := by
  induction i with
  | zero => rw [Sl.giv_zero]; rfl
  | succ i ih =>
    have hl : i < (wants l.1 ts).length := by rw [wants_length]; omega
    rw [upto_succ, many_append]
    have ih' := ih (by omega)
    by_cases hx : (wants l.1 ts).getD i 0 = e
    · by_cases hg : Sl.giv (wants l.1 ts) (l.2.1.length : Int) l.2.2.1 i e < l.2.2.1
      · have hs : slot l ts i = Sl.giv (wants l.1 ts) (l.2.1.length : Int) l.2.2.1 i e := Sl.slot_yes hx h0 h1 hg
        have hp := (Sl.giv_le (wants l.1 ts) (l.2.1.length : Int) l.2.2.1 e i).1
        have h9 : many (one l ts i) e = 1 := by
          unfold one many
          rw [if_pos (by omega), List.filter_cons_of_pos (by show ((wants l.1 ts).getD i 0 == e) = true; rw [hx]; simp)]
          rfl
        rw [h9, Sl.giv_yes hl hx h0 h1 hg]
        omega
      · have hs : slot l ts i = -1 := Sl.slot_no hx (fun h => hg h.2.2)
        have h9 : many (one l ts i) e = 0 := by
          unfold one
          rw [if_neg (by omega)]
          rfl
        rw [h9, Sl.giv_no hl hx (fun h => hg h.2.2)]
        omega
    · have h9 : many (one l ts i) e = 0 := by
        unfold one many
        split
        · rw [List.filter_cons_of_neg (by show ¬ ((wants l.1 ts).getD i 0 == e) = true; simpa using hx)]
          rfl
        · rfl
      rw [h9, Sl.giv_other hl (fun h => hx h.symm)]
      omega
theorem many_parts (l : Ly) (ts : List (List Int)) (e : Int) (h0 : 0 ≤ e) (h1 : e < (l.2.1.length : Int)) (hc : 0 ≤ l.2.2.1) : (many (parts l ts) e : Int) ≤ l.2.2.1 := by
  unfold parts
  rw [many_upto l ts e h0 h1 (Nat.le_refl _)]
  unfold Sl.giv
  split <;> omega
theorem many_take (ps : List Pt) (e : Int) (k : Nat) : many (ps.take k) e ≤ many ps e := by
  have h := many_append (ps.take k) (ps.drop k) e
  rw [List.take_append_drop] at h
  omega
/-- They rise. -/
def at2 (p : Pt) : Int := 2 * p.1 + p.2.1
theorem at2_one {p : Pt} {i : Nat} (h : p ∈ one l ts i) : at2 p = i := by
  obtain ⟨rfl, _⟩ := mem_one h
  show 2 * ((i / 2 : Nat) : Int) + ((i % 2 : Nat) : Int) = i
  omega
theorem rises (l : Ly) (ts : List (List Int)) (n : Nat) : (upto l ts n).Pairwise (fun p q => at2 p < at2 q) := by
  induction n with
  | zero => exact List.Pairwise.nil
  | succ n ih =>
    rw [upto_succ, List.pairwise_append]
    refine ⟨ih, ?_, fun p hp q hq => ?_⟩
    · unfold one; split
      · exact List.pairwise_singleton _ _
      · exact List.Pairwise.nil
    · obtain ⟨i, hi, hp⟩ := mem_upto hp
      rw [at2_one hp, at2_one hq]
      omega
theorem part_is (hl : LRight l dim) (ht : TRight dim ts) {p : Pt} (h : p ∈ parts l ts) : 0 ≤ p.1 ∧ p.1 < (ts.length : Int) ∧ 0 ≤ p.2.1 ∧ p.2.1 ≤ 1 ∧ 0 ≤ p.2.2.1 ∧ p.2.2.1 < (l.2.1.length : Int) ∧ 0 ≤ p.2.2.2.1 ∧ p.2.2.2.1 ≤ 65536 := by
  obtain ⟨f0, f1, f2, f3⟩ := part_fits h
  obtain ⟨i, hi, hp⟩ := mem_upto h
  obtain ⟨rfl, hs⟩ := mem_one hp
  have ht2 : i / 2 < ts.length := by omega
  have hv := (ht.row ht2).1
  have hf := (choice_is hl hv).fair
  refine ⟨f0, f1, ?_, ?_, f2, f3, ?_⟩
  · show (0 : Int) ≤ ((i % 2 : Nat) : Int); omega
  · show ((i % 2 : Nat) : Int) ≤ 1; omega
  · show 0 ≤ (wts l.1 ts).getD i 0 ∧ (wts l.1 ts).getD i 0 ≤ 65536
    unfold wts
    rcases (by omega : i % 2 = 0 ∨ i % 2 = 1) with e | e
    · have e2 : i = i / 2 * 2 := by omega
      rw [e2, duo_even _ _ ts ht2]
      omega
    · have e2 : i = i / 2 * 2 + 1 := by omega
      rw [e2, duo_odd _ _ ts ht2]
      omega
theorem parts_some (hl : LRight l dim) (ht : TRight dim ts) : 1 ≤ (parts l ts).length := by
  have h0 : 0 < ts.length := ht.1
  have hv := (ht.row h0).1
  have hf := (choice_is hl hv).fair
  have hg := hl.gate
  have hc := hl.2.2.2.1
  have hw : (wants l.1 ts).getD 0 0 = first l.1 (ts.getD 0 []) := duo_even (first l.1) (second l.1) ts (t := 0) h0
  have hs : 0 ≤ slot l ts 0 := by
    unfold slot Sl.slot
    rw [hw, Sl.cnt_zero, if_pos (by omega)]
    exact Int.le_refl _
  have h1 : one l ts 0 = [pt ((0 / 2 : Nat) : Int) ((0 % 2 : Nat) : Int) ((wants l.1 ts).getD 0 0) ((wts l.1 ts).getD 0 0)] := by unfold one; rw [if_pos hs]
  have h2 : upto l ts 1 = one l ts 0 := by rw [upto_succ, upto_zero]; rfl
  have h3 : ∀ n, 1 ≤ n → 1 ≤ (upto l ts n).length := by
    intro n
    induction n with
    | zero => intro h; omega
    | succ n ih =>
      intro _
      rcases Nat.eq_zero_or_pos n with e | e
      · subst e; rw [h2, h1]; exact Nat.le_refl _
      · rw [upto_succ, List.length_append]; have := ih e; omega
  exact h3 _ (by omega)
end

end Go.Proofs.YtfidgcanolegfaaGreat.Md

/- Models in memory (no program in sight): experts in two cells, layers in three, parts in four, in slices. -/
namespace Go.Proofs.YtfidgcanolegfaaGreat
open Go.ChangeShapes Go.WideShapes Go.ChangeAt Go.RowKit

abbrev xpS : Shape Xp := consS matS (consS matS noneS)
abbrev xpsS : Shape (List Xp) := sliceS xpS
abbrev lyS : Shape Ly := consS matS (consS xpsS (consS (intS .i64) noneS))
abbrev lysS : Shape (List Ly) := sliceS lyS
abbrev ptS : Shape Pt := consS (intS .i64) (consS (intS .i64) (consS (intS .i64) (consS (intS .i64) noneS)))
abbrev ptsS : Shape (List Pt) := sliceS ptS

theorem get_of {α : Type} {l : List α} {j : Nat} (h : j < l.length) (d : α) : l.getD j d = l[j] := by rw [List.getD_eq_getElem?_getD, List.getElem?_eq_getElem h]; rfl
theorem in_of {α : Type} {l : List α} {j : Nat} (h : j < l.length) (d : α) : l.getD j d ∈ l := by rw [get_of h]; exact List.getElem_mem h

section
variable {w : World} {F : Nat → Prop} {a : Option Addr} {n c : Nat}

theorem xp_is {cs : List Value} {x : Xp} (h : xpS.rep w F cs x) : ∃ ai ni ci ao no co, cs = [.slice ai ni ci, .slice ao no co] ∧ matS.rep w F [.slice ai ni ci] x.1 ∧ matS.rep w F [.slice ao no co] x.2.1 := by
  obtain ⟨ai, ni, ci, d, rfl, h1, h2⟩ := consS_slice h
  obtain ⟨ao, no, co, d', rfl, h3, h4⟩ := consS_slice h2
  rw [noneS_nil h4]
  exact ⟨ai, ni, ci, ao, no, co, rfl, h1, h3⟩
theorem xp_rep {ai : Option Addr} {ni ci : Nat} {ao : Option Addr} {no co : Nat} {mi mo : List (List Int)} (hi : matS.rep w F [.slice ai ni ci] mi) (ho : matS.rep w F [.slice ao no co] mo) : xpS.rep w F [.slice ai ni ci, .slice ao no co] (mi, mo, ()) :=
  ⟨[_], [_], rfl, hi, [_], [], rfl, ho, rfl⟩
/-- Expert j. -/
theorem xp_at {xs : List Xp} (h : xpsS.rep w F [.slice a n c] xs) {j : Nat} (hj : j < n) :
    ∃ b off ai ni ci ao no co, a = some ⟨b, off, none⟩ ∧ F b ∧ b < w.heap.size ∧ matS.rep w F [.slice ai ni ci] (xs.getD j xp0).1 ∧ matS.rep w F [.slice ao no co] (xs.getD j xp0).2.1 ∧
      w.cell? ⟨b, off + j * 2, none⟩ = some (.slice ai ni ci) ∧ w.cell? ⟨b, off + j * 2 + 1, none⟩ = some (.slice ao no co) := by
  have hl := (sliceS_len h).1
  obtain ⟨b, off, cs, ha, hF, hb, hc, hr⟩ := sliceS_at h (by show 0 < 2; omega) (j := j) (by omega)
  rw [get_of (by omega)]
  obtain ⟨ai, ni, ci, ao, no, co, rfl, h1, h2⟩ := xp_is hr
  exact ⟨b, off, ai, ni, ci, ao, no, co, ha, hF, hb, h1, h2, hc 0 _ rfl, hc 1 _ rfl⟩

theorem ly_is {cs : List Value} {x : Ly} (h : lyS.rep w F cs x) : ∃ ag ng cg ax nx cx, cs = [.slice ag ng cg, .slice ax nx cx, .int .i64 x.2.2.1] ∧ matS.rep w F [.slice ag ng cg] x.1 ∧ xpsS.rep w F [.slice ax nx cx] x.2.1 := by
  obtain ⟨ag, ng, cg, d, rfl, h1, h2⟩ := consS_slice h
  obtain ⟨ax, nx, cx, d', rfl, h3, h4⟩ := consS_slice h2
  obtain ⟨d'', rfl, h5⟩ := consS_int h4
  rw [noneS_nil h5]
  exact ⟨ag, ng, cg, ax, nx, cx, rfl, h1, h3⟩
theorem ly_rep {ag : Option Addr} {ng cg : Nat} {ax : Option Addr} {nx cx : Nat} {g : List (List Int)} {xs : List Xp} (cap : Int) (hg : matS.rep w F [.slice ag ng cg] g) (hx : xpsS.rep w F [.slice ax nx cx] xs) : lyS.rep w F [.slice ag ng cg, .slice ax nx cx, .int .i64 cap] (g, xs, cap, ()) :=
  ⟨[_], [_, _], rfl, hg, [_], [_], rfl, hx, [_], [], rfl, rfl, rfl⟩
/-- Layer j. -/
theorem ly_at {ls : List Ly} (h : lysS.rep w F [.slice a n c] ls) {j : Nat} (hj : j < n) :
    ∃ b off ag ng cg ax nx cx, a = some ⟨b, off, none⟩ ∧ F b ∧ b < w.heap.size ∧ matS.rep w F [.slice ag ng cg] (ls.getD j ly0).1 ∧ xpsS.rep w F [.slice ax nx cx] (ls.getD j ly0).2.1 ∧
      w.cell? ⟨b, off + j * 3, none⟩ = some (.slice ag ng cg) ∧ w.cell? ⟨b, off + j * 3 + 1, none⟩ = some (.slice ax nx cx) ∧ w.cell? ⟨b, off + j * 3 + 2, none⟩ = some (.int .i64 (ls.getD j ly0).2.2.1) := by
  have hl := (sliceS_len h).1
  obtain ⟨b, off, cs, ha, hF, hb, hc, hr⟩ := sliceS_at h (by show 0 < 3; omega) (j := j) (by omega)
  rw [get_of (by omega)]
  obtain ⟨ag, ng, cg, ax, nx, cx, rfl, h1, h2⟩ := ly_is hr
  exact ⟨b, off, ag, ng, cg, ax, nx, cx, ha, hF, hb, h1, h2, hc 0 _ rfl, hc 1 _ rfl, hc 2 _ rfl⟩

theorem pt_is {cs : List Value} {x : Pt} (h : ptS.rep w F cs x) : cs = [.int .i64 x.1, .int .i64 x.2.1, .int .i64 x.2.2.1, .int .i64 x.2.2.2.1] := by
  obtain ⟨d1, rfl, h1⟩ := consS_int h
  obtain ⟨d2, rfl, h2⟩ := consS_int h1
  obtain ⟨d3, rfl, h3⟩ := consS_int h2
  obtain ⟨d4, rfl, h4⟩ := consS_int h3
  rw [noneS_nil h4]
theorem pt_rep (w : World) (F : Nat → Prop) (t r e k : Int) : ptS.rep w F [.int .i64 t, .int .i64 r, .int .i64 e, .int .i64 k] (pt t r e k) := ⟨[_], [_, _, _], rfl, rfl, [_], [_, _], rfl, rfl, [_], [_], rfl, rfl, [_], [], rfl, rfl, rfl⟩
/-- Part j. -/
theorem pt_at {ps : List Pt} (h : ptsS.rep w F [.slice a n c] ps) {j : Nat} (hj : j < n) :
    ∃ b off, a = some ⟨b, off, none⟩ ∧ F b ∧ b < w.heap.size ∧ w.cell? ⟨b, off + j * 4, none⟩ = some (.int .i64 (ps.getD j pt0).1) ∧ w.cell? ⟨b, off + j * 4 + 1, none⟩ = some (.int .i64 (ps.getD j pt0).2.1) ∧
      w.cell? ⟨b, off + j * 4 + 2, none⟩ = some (.int .i64 (ps.getD j pt0).2.2.1) ∧ w.cell? ⟨b, off + j * 4 + 3, none⟩ = some (.int .i64 (ps.getD j pt0).2.2.2.1) := by
  have hl := (sliceS_len h).1
  obtain ⟨b, off, cs, ha, hF, hb, hc, hr⟩ := sliceS_at h (by show 0 < 4; omega) (j := j) (by omega)
  rw [get_of (by omega)]
  have hcs := pt_is hr
  subst hcs
  exact ⟨b, off, ha, hF, hb, hc 0 _ rfl, hc 1 _ rfl, hc 2 _ rfl, hc 3 _ rfl⟩
end

namespace Md
/-- The first k of the layers, one more. -/
theorem take_ly {ls : List Ly} {k : Nat} (h : k < ls.length) : ls.take (k + 1) = ls.take k ++ [ls.getD k ly0] := by rw [List.take_succ_eq_append_getElem h, get_of h]
theorem take_xp {xs : List Xp} {k : Nat} (h : k < xs.length) : xs.take (k + 1) = xs.take k ++ [xs.getD k xp0] := by rw [List.take_succ_eq_append_getElem h, get_of h]
theorem take_pt {ps : List Pt} {k : Nat} (h : k < ps.length) : ps.take (k + 1) = ps.take k ++ [ps.getD k pt0] := by rw [List.take_succ_eq_append_getElem h, get_of h]
theorem forward_next {ls : List Ly} {k : Nat} (h : k < ls.length) (ts : List (List Int)) : forward (ls.take (k + 1)) ts = step (ls.getD k ly0) (forward (ls.take k) ts) := by rw [take_ly h, forward_snoc]
theorem many_next {ps : List Pt} {k : Nat} (h : k < ps.length) (e : Int) : many (ps.take (k + 1)) e = many (ps.take k) e + (if (ps.getD k pt0).2.2.1 = e then 1 else 0) := by
  rw [take_pt h, many_append]
  congr 1
  unfold many
  by_cases c : (ps.getD k pt0).2.2.1 = e
  · rw [if_pos c, List.filter_cons_of_pos (by simpa using c)]; rfl
  · rw [if_neg c, List.filter_cons_of_neg (by simpa using c)]; rfl
/-- The sums of one token, along the parts. -/
def along (l : Ly) (ts : List (List Int)) (t : Nat) (ps : List Pt) : List Int := (ps.filter fun p => p.1 == (t : Int)).foldl (grow l (ts.getD t [])) (ts.getD t [])
theorem along_nil (l : Ly) (ts : List (List Int)) (t : Nat) : along l ts t [] = ts.getD t [] := rfl
theorem along_yes {l : Ly} {ts : List (List Int)} {t : Nat} {ps : List Pt} {k : Nat} (h : k < ps.length) (e : (ps.getD k pt0).1 = (t : Int)) : along l ts t (ps.take (k + 1)) = grow l (ts.getD t []) (along l ts t (ps.take k)) (ps.getD k pt0) := by
  unfold along
  rw [take_pt h, List.filter_append, List.foldl_append, List.filter_cons_of_pos (by simpa using e)]
  rfl
theorem along_no {l : Ly} {ts : List (List Int)} {t : Nat} {ps : List Pt} {k : Nat} (h : k < ps.length) (e : (ps.getD k pt0).1 ≠ (t : Int)) : along l ts t (ps.take (k + 1)) = along l ts t (ps.take k) := by
  unfold along
  rw [take_pt h, List.filter_append, List.filter_cons_of_neg (by simpa using e), List.filter_nil, List.append_nil]
theorem along_all (l : Ly) {ts : List (List Int)} {t : Nat} (h : t < ts.length) : along l ts t (parts l ts) = out l ts t := by
  unfold along
  rw [filter_parts l h]
  rfl
theorem along_len {dim : Int} {l : Ly} {ts : List (List Int)} (hl : LRight l dim) (ht : TRight dim ts) {t : Nat} (h : t < ts.length) (k : Nat) : (along l ts t ((parts l ts).take k)).length = (ts.getD t []).length := by
  have h1 := ht.row h
  refine (grows hl h1.1 _ (fun p hp => ?_) (ts.getD t []) rfl h1.2).1
  have hm := List.mem_of_mem_take (List.mem_filter.1 hp).1
  have := part_fits hm
  exact ⟨this.2.2.1, this.2.2.2⟩
end Md

end Go.Proofs.YtfidgcanolegfaaGreat

/- Maps of who holds what, as lists (no program in sight): right ones, holders that are added and retired. -/
namespace Go.Proofs.YtfidgcanolegfaaGreat.Pl
open Go.Proofs.YtfidgcanolegfaaGreat

/-! ### A row of holders -/
def RowOk (l : List Int) : Prop := l ≠ [] ∧ (∀ x ∈ l, 1 ≤ x ∧ x ≤ 4) ∧ l.Pairwise (· < ·)
/-- The nodes that hold, n among them or not. -/
def keep (l : List Int) (n : Int) (add : Bool) : List Int := [1, 2, 3, 4].filter fun y => if y = n then add else decide (y ∈ l)
def filt (l : List Int) : List Int := [1, 2, 3, 4].filter fun y => decide (y ∈ l)
/-- All rows of holders. -/
def rows : List (List Int) := [[1], [2], [3], [4], [1, 2], [1, 3], [1, 4], [2, 3], [2, 4], [3, 4], [1, 2, 3], [1, 2, 4], [1, 3, 4], [2, 3, 4], [1, 2, 3, 4]]

theorem sorted_ext {l k : List Int} (hl : l.Pairwise (· < ·)) (hk : k.Pairwise (· < ·)) (h : ∀ x, x ∈ l ↔ x ∈ k) : l = k := by
  induction l generalizing k with
  | nil =>
    cases k with
    | nil => rfl
    | cons b k => exact absurd ((h b).2 (by simp)) (by simp)
  | cons a l ih =>
    cases k with
    | nil => exact absurd ((h a).1 (by simp)) (by simp)
    | cons b k =>
      obtain ⟨ha, hl2⟩ := List.pairwise_cons.1 hl
      obtain ⟨hb, hk2⟩ := List.pairwise_cons.1 hk
      have hab : a = b := by
        rcases List.mem_cons.1 ((h a).1 (by simp)) with h1 | h1
        · exact h1
        · rcases List.mem_cons.1 ((h b).2 (by simp)) with h2 | h2
          · exact h2.symm
          · have := hb a h1
            have := ha b h2
            omega
      subst hab
      congr 1
      refine ih hl2 hk2 fun x => ?_
      constructor
      · intro hx
        have := ha x hx
        rcases List.mem_cons.1 ((h x).1 (by simp [hx])) with h1 | h1
        · omega
        · exact h1
      · intro hx
        have := hb x hx
        rcases List.mem_cons.1 ((h x).2 (by simp [hx])) with h1 | h1
        · omega
        · exact h1
theorem four_sorted : ([1, 2, 3, 4] : List Int).Pairwise (· < ·) := by decide
theorem filt_eq {l : List Int} (h : RowOk l) : filt l = l := by
  refine sorted_ext (four_sorted.sublist List.filter_sublist) h.2.2 fun x => ?_
  unfold filt
  rw [List.mem_filter]
  constructor
  · rintro ⟨_, h2⟩
    simpa using h2
  · intro hx
    have := h.2.1 x hx
    refine ⟨?_, by simpa using hx⟩
    have : x = 1 ∨ x = 2 ∨ x = 3 ∨ x = 4 := by omega
    simpa using this
theorem row_there {l : List Int} (h : RowOk l) : l ∈ rows := by
  have hf := filt_eq h
  have hne := h.1
  rw [← hf] at hne ⊢
  unfold filt at *
  by_cases h1 : (1 : Int) ∈ l <;> by_cases h2 : (2 : Int) ∈ l <;> by_cases h3 : (3 : Int) ∈ l <;> by_cases h4 : (4 : Int) ∈ l <;> simp [h1, h2, h3, h4] at hne ⊢ <;> decide
theorem rows_ok {l : List Int} (h : l ∈ rows) : RowOk l := by
  have : ∀ l ∈ rows, l ≠ [] ∧ (∀ x ∈ l, 1 ≤ x ∧ x ≤ 4) ∧ l.Pairwise (· < ·) := by decide
  exact this l h
theorem node_there {n : Int} (h1 : 1 ≤ n) (h2 : n ≤ 4) : n ∈ ([1, 2, 3, 4] : List Int) := by
  have : n = 1 ∨ n = 2 ∨ n = 3 ∨ n = 4 := by omega
  simpa using this
theorem row_len {l : List Int} (h : RowOk l) : 1 ≤ l.length ∧ l.length ≤ 4 := by
  have : ∀ l ∈ rows, 1 ≤ l.length ∧ l.length ≤ 4 := by decide
  exact this l (row_there h)
theorem mem_keep {l : List Int} {n y : Int} {add : Bool} : y ∈ keep l n add ↔ (1 ≤ y ∧ y ≤ 4) ∧ (if y = n then add = true else y ∈ l) := by
  unfold keep
  rw [List.mem_filter]
  constructor
  · rintro ⟨h1, h2⟩
    have h3 : y = 1 ∨ y = 2 ∨ y = 3 ∨ y = 4 := by simpa using h1
    refine ⟨by omega, ?_⟩
    by_cases hy : y = n
    · rw [if_pos hy] at h2 ⊢; exact h2
    · rw [if_neg hy] at h2 ⊢; simpa using h2
  · rintro ⟨h1, h2⟩
    refine ⟨node_there h1.1 h1.2, ?_⟩
    by_cases hy : y = n
    · rw [if_pos hy] at h2 ⊢; exact h2
    · rw [if_neg hy] at h2 ⊢; simpa using h2
theorem keep_sorted (l : List Int) (n : Int) (add : Bool) : (keep l n add).Pairwise (· < ·) := four_sorted.sublist List.filter_sublist
theorem add_ok {l : List Int} {n : Int} (h1 : 1 ≤ n) (h2 : n ≤ 4) : RowOk (keep l n true) := by
  refine ⟨fun e => ?_, fun x hx => (mem_keep.1 hx).1, keep_sorted _ _ _⟩
  have : n ∈ keep l n true := mem_keep.2 ⟨⟨h1, h2⟩, by rw [if_pos rfl]⟩
  rw [e] at this
  cases this
theorem retire_ok {l : List Int} {n : Int} (h : RowOk l) (hl : l.length ≠ 1) : RowOk (keep l n false) := by
  refine ⟨fun e => ?_, fun x hx => (mem_keep.1 hx).1, keep_sorted _ _ _⟩
  match l, h, hl with
  | [], h, _ => exact h.1 rfl
  | [_], _, hl => exact hl rfl
  | a :: b :: t, h, _ =>
    have hab := (List.pairwise_cons.1 h.2.2).1 b (by simp)
    have ha := h.2.1 a (by simp)
    have hb := h.2.1 b (by simp)
    by_cases hn : a = n
    · have : b ∈ keep (a :: b :: t) n false := mem_keep.2 ⟨hb, by rw [if_neg (by omega)]; simp⟩
      rw [e] at this
      cases this
    · have : a ∈ keep (a :: b :: t) n false := mem_keep.2 ⟨ha, by rw [if_neg hn]; simp⟩
      rw [e] at this
      cases this
theorem keep_back {l : List Int} {n : Int} (h : RowOk l) (hn : n ∉ l) : keep (keep l n true) n false = l := by
  refine sorted_ext (keep_sorted _ _ _) h.2.2 fun x => ?_
  rw [mem_keep]
  by_cases hx : x = n
  · rw [if_pos hx]
    constructor
    · rintro ⟨_, h2⟩; cases h2
    · intro h2; rw [hx] at h2; exact absurd h2 hn
  · rw [if_neg hx, mem_keep, if_neg hx]
    exact ⟨fun h2 => h2.2.2, fun h2 => ⟨h.2.1 x h2, h.2.1 x h2, h2⟩⟩
/-- One who is added stands among them at its place. -/
theorem keep_add {l : List Int} {n : Int} (h : RowOk l) (h1 : 1 ≤ n) (h2 : n ≤ 4) (hn : n ∉ l) : keep l n true = l.take (l.countP (· < n)) ++ n :: l.drop (l.countP (· < n)) := by
  have : ∀ l ∈ rows, ∀ n ∈ ([1, 2, 3, 4] : List Int), n ∉ l → keep l n true = l.take (l.countP (· < n)) ++ n :: l.drop (l.countP (· < n)) := by decide
  exact this l (row_there h) n (node_there h1 h2) hn
/-- One who is retired is taken out. -/
theorem keep_retire {l : List Int} {n : Int} (h : RowOk l) : keep l n false = l.filter (· ≠ n) := by
  refine sorted_ext (keep_sorted _ _ _) (h.2.2.sublist List.filter_sublist) fun x => ?_
  rw [mem_keep, List.mem_filter]
  by_cases hx : x = n
  · rw [if_pos hx]; simp [hx]
  · rw [if_neg hx]
    simp only [ne_eq, hx, not_false_eq_true, decide_true, and_true]
    exact ⟨fun h2 => h2.2, fun h2 => ⟨h.2.1 x h2, h2⟩⟩
theorem keep_retire_at {l : List Int} {n : Int} {i : Nat} (h : RowOk l) (hi : i < l.length) (hn : l.getD i 0 = n) : keep l n false = l.take i ++ l.drop (i + 1) := by
  have : ∀ l ∈ rows, ∀ i ∈ List.range 4, i < l.length → keep l (l.getD i 0) false = l.take i ++ l.drop (i + 1) := by decide
  rw [← hn]
  exact this l (row_there h) i (List.mem_range.2 (by have := (row_len h).2; omega)) hi
/-- Who is picked. -/
def pick (l : List Int) (key : Nat) : Int := l.getD (key % l.length) 0
theorem pick_holds {l : List Int} (h : RowOk l) (key : Nat) : pick l key ∈ l := Mx.num_mem l _ (Nat.mod_lt _ (row_len h).1)
theorem pick_all {l : List Int} (h : RowOk l) (n : Int) : n ∈ l ↔ pick l 0 = n ∨ pick l 1 = n ∨ pick l 2 = n ∨ pick l 3 = n := by
  constructor
  · intro hn
    have : ∀ l ∈ rows, ∀ n ∈ l, pick l 0 = n ∨ pick l 1 = n ∨ pick l 2 = n ∨ pick l 3 = n := by decide
    exact this l (row_there h) n hn
  · rintro (h1 | h1 | h1 | h1) <;> (rw [← h1]; exact pick_holds h _)

/-! ### Maps -/
def Right (e : Int) (m : List (List Int)) : Prop := (0 ≤ e ∧ e ≤ 2147483647) ∧ m.length ≤ 8 ∧ ∀ l ∈ m, RowOk l
def Holds (m : List (List Int)) (x n : Int) : Prop := (0 ≤ x ∧ x < (m.length : Int)) ∧ n ∈ m.getD x.toNat []
def Wrong (e : Int) (m : List (List Int)) (x n : Int) : Prop := ¬ Right e m ∨ ¬ (0 ≤ x ∧ x < (m.length : Int)) ∨ ¬ (1 ≤ n ∧ n ≤ 4) ∨ e = 2147483647
open Classical in
noncomputable def addE (e : Int) (m : List (List Int)) (x n : Int) : Int := if Wrong e m x n then 1 else if Holds m x n then 5 else 0
open Classical in
noncomputable def retE (e : Int) (m : List (List Int)) (x n : Int) : Int := if Wrong e m x n then 1 else if ¬ Holds m x n then 4 else if (m.getD x.toNat []).length = 1 then 7 else 0
/-- The map behind it. -/
def turn (m : List (List Int)) (x n : Int) (add : Bool) : List (List Int) := m.set x.toNat (keep (m.getD x.toNat []) n add)
section
variable {e : Int} {m : List (List Int)} {x n : Int}
theorem Right.row (h : Right e m) {i : Nat} (hi : i < m.length) : RowOk (m.getD i []) := h.2.2 _ (Mx.getD_mem m i hi)
theorem addE_wrong (h : Wrong e m x n) : addE e m x n = 1 := if_pos h
theorem addE_there (h : ¬ Wrong e m x n) (h2 : Holds m x n) : addE e m x n = 5 := by unfold addE; rw [if_neg h, if_pos h2]
theorem addE_ok (h : ¬ Wrong e m x n) (h2 : ¬ Holds m x n) : addE e m x n = 0 := by unfold addE; rw [if_neg h, if_neg h2]
theorem retE_wrong (h : Wrong e m x n) : retE e m x n = 1 := if_pos h
theorem retE_none (h : ¬ Wrong e m x n) (h2 : ¬ Holds m x n) : retE e m x n = 4 := by unfold retE; rw [if_neg h, if_pos h2]
theorem retE_last (h : ¬ Wrong e m x n) (h2 : Holds m x n) (h3 : (m.getD x.toNat []).length = 1) : retE e m x n = 7 := by unfold retE; rw [if_neg h, if_neg (by simpa using h2), if_pos h3]
theorem retE_ok (h : ¬ Wrong e m x n) (h2 : Holds m x n) (h3 : (m.getD x.toNat []).length ≠ 1) : retE e m x n = 0 := by unfold retE; rw [if_neg h, if_neg (by simpa using h2), if_neg h3]
theorem not_wrong (h : ¬ Wrong e m x n) : Right e m ∧ (0 ≤ x ∧ x < (m.length : Int)) ∧ (1 ≤ n ∧ n ≤ 4) ∧ e ≠ 2147483647 := by
  unfold Wrong at h
  refine ⟨Classical.byContradiction fun h1 => h (Or.inl h1), Classical.byContradiction fun h1 => h (Or.inr (Or.inl h1)), Classical.byContradiction fun h1 => h (Or.inr (Or.inr (Or.inl h1))), fun h1 => h (Or.inr (Or.inr (Or.inr h1)))⟩
theorem turn_len (m : List (List Int)) (x n : Int) (add : Bool) : (turn m x n add).length = m.length := by unfold turn; rw [List.length_set]
theorem turn_at (hx : 0 ≤ x ∧ x < (m.length : Int)) (add : Bool) (i : Nat) : (turn m x n add).getD i [] = if i = x.toNat then keep (m.getD x.toNat []) n add else m.getD i [] := by
  unfold turn
  rw [List.getD_eq_getElem?_getD, List.getElem?_set]
  by_cases h : i = x.toNat
  · rw [if_pos h.symm, if_pos h, if_pos (by omega)]
    rfl
  · rw [if_neg (fun h2 => h h2.symm), if_neg h, List.getD_eq_getElem?_getD]
theorem turn_right (h : Right e m) (he : e ≠ 2147483647) {add : Bool} (hk : RowOk (keep (m.getD x.toNat []) n add)) : Right (e + 1) (turn m x n add) := by
  have h1 := h.1
  refine ⟨by omega, by rw [turn_len]; exact h.2.1, fun l hl => ?_⟩
  unfold turn at hl
  rcases List.mem_or_eq_of_mem_set hl with h2 | h2
  · exact h.2.2 l h2
  · rw [h2]; exact hk
theorem add_right (h : ¬ Wrong e m x n) : Right (e + 1) (turn m x n true) := by
  obtain ⟨h1, _, h3, h4⟩ := not_wrong h
  exact turn_right h1 h4 (add_ok h3.1 h3.2)
theorem ret_right (h : ¬ Wrong e m x n) (h5 : (m.getD x.toNat []).length ≠ 1) : Right (e + 1) (turn m x n false) := by
  obtain ⟨h1, h2, _, h4⟩ := not_wrong h
  exact turn_right h1 h4 (retire_ok (h1.row (by omega)) h5)
/-- Who holds what behind it. -/
theorem turn_holds (hx : 0 ≤ x ∧ x < (m.length : Int)) (hn : 1 ≤ n ∧ n ≤ 4) (hR : Right e m) (add : Bool) (y k : Int) : Holds (turn m x n add) y k ↔ if y = x ∧ k = n then add = true else Holds m y k := by
  unfold Holds
  rw [turn_len]
  by_cases hy : 0 ≤ y ∧ y < (m.length : Int)
  · rw [turn_at hx]
    by_cases h1 : y = x
    · subst h1
      rw [if_pos rfl, mem_keep]
      by_cases h2 : k = n
      · subst h2
        simp [hy, hn]
      · rw [if_neg h2, if_neg (fun h3 => h2 h3.2)]
        exact ⟨fun h3 => ⟨hy, h3.2.2⟩, fun h3 => ⟨hy, (hR.row (by omega)).2.1 k h3.2, h3.2⟩⟩
    · rw [if_neg (by omega), if_neg (fun h3 => h1 h3.1)]
  · rw [if_neg (fun h3 => hy (by rw [h3.1]; exact hx))]
    exact ⟨fun h3 => absurd h3.1 hy, fun h3 => absurd h3.1 hy⟩
theorem turn_back (hR : Right e m) (hx : 0 ≤ x ∧ x < (m.length : Int)) (hn : ¬ Holds m x n) : turn (turn m x n true) x n false = m := by
  have h1 : n ∉ m.getD x.toNat [] := fun h => hn ⟨hx, h⟩
  have h2 := turn_at (n := n) hx true x.toNat
  rw [if_pos rfl] at h2
  have h3 : turn (turn m x n true) x n false = (turn m x n true).set x.toNat (keep ((turn m x n true).getD x.toNat []) n false) := rfl
  rw [h3, h2, keep_back (hR.row (by omega)) h1]
  unfold turn
  rw [List.set_set]
  have hlt : x.toNat < m.length := by omega
  rw [List.getD_eq_getElem?_getD, List.getElem?_eq_getElem hlt]
  exact List.set_getElem_self hlt
/-- The document's way: every row anew. -/
theorem turn_rows (hR : Right e m) (add : Bool) : turn m x n add = (List.range m.length).map fun i => if i = x.toNat then keep (m.getD i []) n add else filt (m.getD i []) := by
  apply List.ext_getElem?
  intro i
  unfold turn
  rw [List.getElem?_set, List.getElem?_map]
  by_cases hi : i < m.length
  · have e1 : m.getD i [] = m[i] := by rw [List.getD_eq_getElem?_getD, List.getElem?_eq_getElem hi]; rfl
    rw [List.getElem?_range hi]
    by_cases hx : x.toNat = i
    · rw [if_pos hx, if_pos (by omega)]
      simp [hx]
    · rw [if_neg hx, List.getElem?_eq_getElem hi]
      show some m[i] = some (if i = x.toNat then _ else _)
      rw [if_neg (fun h => hx h.symm), filt_eq (hR.row hi), e1]
  · have e2 : (List.range m.length)[i]? = none := List.getElem?_eq_none (by rw [List.length_range]; omega)
    have e3 : m[i]? = none := List.getElem?_eq_none (by omega)
    rw [e2, e3]
    by_cases hx : x.toNat = i
    · rw [if_pos hx, if_neg (by omega)]; rfl
    · rw [if_neg hx]; rfl
end

/-! ### Rows, number by number -/
theorem take_one {l : List Int} {k : Nat} (h : k < l.length) : l.take (k + 1) = l.take k ++ [l.getD k 0] := by
  rw [List.take_succ_eq_append_getElem h, List.getD_eq_getElem?_getD, List.getElem?_eq_getElem h]; rfl
/-- The first k are as they should be. -/
def Upto (l : List Int) (k : Nat) : Prop := (∀ x ∈ l.take k, 1 ≤ x ∧ x ≤ 4) ∧ (l.take k).Pairwise (· < ·)
/-- And the one at k too. -/
def Next (l : List Int) (k : Nat) : Prop := (1 ≤ l.getD k 0 ∧ l.getD k 0 ≤ 4) ∧ (0 < k → l.getD (k - 1) 0 < l.getD k 0)
theorem upto_zero (l : List Int) : Upto l 0 := ⟨fun x hx => by simp at hx, by simp⟩
theorem Upto.last {l : List Int} {k : Nat} (h : Upto l k) (hk : k ≤ l.length) (h0 : 0 < k) : 1 ≤ l.getD (k - 1) 0 ∧ l.getD (k - 1) 0 ≤ 4 := by
  refine h.1 _ ?_
  have := take_one (l := l) (k := k - 1) (by omega)
  rw [show k - 1 + 1 = k by omega] at this
  rw [this]
  simp
theorem Upto.most {l : List Int} {k : Nat} (h : Upto l k) (hk : k ≤ l.length) {x : Int} (hx : x ∈ l.take k) : x ≤ l.getD (k - 1) 0 := by
  have h0 : 0 < k := by
    rcases Nat.eq_zero_or_pos k with h0 | h0
    · subst h0; simp at hx
    · exact h0
  have e := take_one (l := l) (k := k - 1) (by omega)
  rw [show k - 1 + 1 = k by omega] at e
  have h2 := h.2
  rw [e] at hx h2
  rcases List.mem_append.1 hx with h3 | h3
  · have := (List.pairwise_append.1 h2).2.2 x h3 (l.getD (k - 1) 0) (by simp); omega
  · rw [List.mem_singleton.1 h3]; exact Int.le_refl _
theorem Upto.next {l : List Int} {k : Nat} (h : Upto l k) (hk : k < l.length) (hn : Next l k) : Upto l (k + 1) := by
  unfold Upto
  rw [take_one hk]
  refine ⟨fun x hx => ?_, List.pairwise_append.2 ⟨h.2, by simp, fun x hx y hy => ?_⟩⟩
  · rcases List.mem_append.1 hx with h1 | h1
    · exact h.1 x h1
    · rw [List.mem_singleton.1 h1]; exact hn.1
  · rw [List.mem_singleton.1 hy]
    have h1 := h.most (by omega) hx
    have h0 : 0 < k := by
      rcases Nat.eq_zero_or_pos k with h0 | h0
      · subst h0; simp at hx
      · exact h0
    have := hn.2 h0
    omega
theorem not_next {l : List Int} {k : Nat} (hk : k < l.length) (hn : ¬ Next l k) : ¬ RowOk l := by
  rintro ⟨_, h1, h2⟩
  refine hn ⟨h1 _ (Mx.num_mem l k hk), fun h0 => ?_⟩
  have := List.pairwise_iff_getElem.1 h2 (k - 1) k (by omega) hk (by omega)
  rwa [List.getD_eq_getElem?_getD, List.getD_eq_getElem?_getD, List.getElem?_eq_getElem hk, List.getElem?_eq_getElem (by omega : k - 1 < l.length)]
theorem Upto.all {l : List Int} (h : Upto l l.length) (hl : l.length ≠ 0) : RowOk l := by
  unfold Upto at h
  rw [List.take_length] at h
  exact ⟨fun e => hl (by rw [e]; rfl), h.1, h.2⟩
theorem not_nil : ¬ RowOk [] := fun h => h.1 rfl
/-! ### What BinarySearch tells -/
theorem found_at {l : List Int} {n : Int} (h : RowOk l) (hn : n ∈ l) : l.countP (· < n) < l.length ∧ l.getD (l.countP (· < n)) 0 = n := by
  have : ∀ l ∈ rows, ∀ n ∈ l, l.countP (· < n) < l.length ∧ l.getD (l.countP (· < n)) 0 = n := by decide
  exact this l (row_there h) n hn
theorem right_all {e : Int} {m : List (List Int)} (h1 : 0 ≤ e ∧ e ≤ 2147483647) (h2 : m.length ≤ 8) (h3 : ∀ j, j < m.length → RowOk (m.getD j [])) : Right e m := by
  refine ⟨h1, h2, fun l hl => ?_⟩
  obtain ⟨j, hj, rfl⟩ := List.mem_iff_getElem.1 hl
  have := h3 j hj
  rwa [List.getD_eq_getElem?_getD, List.getElem?_eq_getElem hj] at this
theorem right_sized {e : Int} {m : List (List Int)} (h : Right e m) : ∀ l ∈ m, l.length ≤ 4 := fun l hl => (row_len (h.2.2 l hl)).2

/-! ### What Add and Retire answer: the epoch E, the holders M, the error X -/
def Add (e : Int) (m : List (List Int)) (x n E : Int) (M : List (List Int)) (X : Int) : Prop :=
  (Wrong e m x n ∧ e = E ∧ m = M ∧ 1 = X) ∨ (¬ Wrong e m x n ∧ Holds m x n ∧ e = E ∧ m = M ∧ 5 = X) ∨ (¬ Wrong e m x n ∧ ¬ Holds m x n ∧ e + 1 = E ∧ turn m x n true = M ∧ 0 = X)
def Ret (e : Int) (m : List (List Int)) (x n E : Int) (M : List (List Int)) (X : Int) : Prop :=
  (Wrong e m x n ∧ e = E ∧ m = M ∧ 1 = X) ∨ (¬ Wrong e m x n ∧ ¬ Holds m x n ∧ e = E ∧ m = M ∧ 4 = X) ∨ (¬ Wrong e m x n ∧ Holds m x n ∧ (m.getD x.toNat []).length = 1 ∧ e = E ∧ m = M ∧ 7 = X) ∨ (¬ Wrong e m x n ∧ Holds m x n ∧ (m.getD x.toNat []).length ≠ 1 ∧ e + 1 = E ∧ turn m x n false = M ∧ 0 = X)
theorem add_there (e : Int) (m : List (List Int)) (x n : Int) : ∃ E M X, Add e m x n E M X := by
  by_cases h1 : Wrong e m x n
  · exact ⟨e, m, 1, .inl ⟨h1, rfl, rfl, rfl⟩⟩
  by_cases h2 : Holds m x n
  · exact ⟨e, m, 5, .inr (.inl ⟨h1, h2, rfl, rfl, rfl⟩)⟩
  · exact ⟨e + 1, turn m x n true, 0, .inr (.inr ⟨h1, h2, rfl, rfl, rfl⟩)⟩
theorem ret_there (e : Int) (m : List (List Int)) (x n : Int) : ∃ E M X, Ret e m x n E M X := by
  by_cases h1 : Wrong e m x n
  · exact ⟨e, m, 1, .inl ⟨h1, rfl, rfl, rfl⟩⟩
  by_cases h2 : Holds m x n
  · by_cases h3 : (m.getD x.toNat []).length = 1
    · exact ⟨e, m, 7, .inr (.inr (.inl ⟨h1, h2, h3, rfl, rfl, rfl⟩))⟩
    · exact ⟨e + 1, turn m x n false, 0, .inr (.inr (.inr ⟨h1, h2, h3, rfl, rfl, rfl⟩))⟩
  · exact ⟨e, m, 4, .inr (.inl ⟨h1, h2, rfl, rfl, rfl⟩)⟩
section
variable {e : Int} {m : List (List Int)} {x n E : Int} {M : List (List Int)} {X : Int}
theorem Add.len (h : Add e m x n E M X) : M.length = m.length := by
  rcases h with ⟨_, _, rfl, _⟩ | ⟨_, _, _, rfl, _⟩ | ⟨_, _, _, rfl, _⟩
  · rfl
  · rfl
  · exact turn_len _ _ _ _
theorem Ret.len (h : Ret e m x n E M X) : M.length = m.length := by
  rcases h with ⟨_, _, rfl, _⟩ | ⟨_, _, _, rfl, _⟩ | ⟨_, _, _, _, rfl, _⟩ | ⟨_, _, _, _, rfl, _⟩
  · rfl
  · rfl
  · rfl
  · exact turn_len _ _ _ _
theorem Add.right (h : Add e m x n E M X) (hR : Right e m) : Right E M := by
  rcases h with ⟨_, rfl, rfl, _⟩ | ⟨_, _, rfl, rfl, _⟩ | ⟨hw, _, rfl, rfl, _⟩
  · exact hR
  · exact hR
  · exact add_right hw
theorem Ret.right (h : Ret e m x n E M X) (hR : Right e m) : Right E M := by
  rcases h with ⟨_, rfl, rfl, _⟩ | ⟨_, _, rfl, rfl, _⟩ | ⟨_, _, _, rfl, rfl, _⟩ | ⟨hw, _, h3, rfl, rfl, _⟩
  · exact hR
  · exact hR
  · exact hR
  · exact ret_right hw h3
end

/-! ### The document's way, node by node -/
def cand (i : Nat) (x y : Int) (add : Bool) (l : List Int) (q : Int) : Bool := if (i : Int) = x ∧ q = y then add else l.contains q
def some4 (i : Nat) (x y : Int) (add : Bool) (l : List Int) (j : Nat) : List Int := ([1, 2, 3, 4].take j).filter fun q => cand i x y add l q
section
variable {i : Nat} {x y : Int} {add : Bool} {l : List Int} {j : Nat}
theorem some4_zero : some4 i x y add l 0 = [] := rfl
theorem four_at (h : j < 4) : ([1, 2, 3, 4] : List Int).take (j + 1) = ([1, 2, 3, 4] : List Int).take j ++ [((j + 1 : Nat) : Int)] := by
  have : ∀ j ∈ List.range 4, ([1, 2, 3, 4] : List Int).take (j + 1) = ([1, 2, 3, 4] : List Int).take j ++ [((j + 1 : Nat) : Int)] := by decide
  exact this j (List.mem_range.2 h)
theorem some4_yes (h : j < 4) (hc : cand i x y add l ((j + 1 : Nat) : Int) = true) : some4 i x y add l j ++ [((j + 1 : Nat) : Int)] = some4 i x y add l (j + 1) := by
  unfold some4
  rw [four_at h, List.filter_append]
  congr 1
  simp only [List.filter_cons, hc, if_true, List.filter_nil]
theorem some4_no (h : j < 4) (hc : cand i x y add l ((j + 1 : Nat) : Int) = false) : some4 i x y add l j = some4 i x y add l (j + 1) := by
  unfold some4
  rw [four_at h, List.filter_append]
  simp only [List.filter_cons, hc, Bool.false_eq_true, if_false, List.filter_nil, List.append_nil]
theorem some4_len : (some4 i x y add l j).length ≤ 4 := by
  unfold some4
  refine Nat.le_trans (List.length_filter_le _ _) ?_
  rw [List.length_take]
  exact Nat.min_le_right _ _
end
theorem some4_all {e : Int} {m : List (List Int)} {x y : Int} {i : Nat} (hR : Right e m) (hx : 0 ≤ x) (hi : i < m.length) (add : Bool) : some4 i x y add (m.getD i []) 4 = (turn m x y add).getD i [] := by
  rw [turn_rows hR add, List.getD_eq_getElem?_getD (l := (List.range m.length).map _), List.getElem?_map, List.getElem?_range hi]
  show _ = if i = x.toNat then keep (m.getD i []) y add else filt (m.getD i [])
  by_cases h : i = x.toNat
  · rw [if_pos h]
    unfold some4 keep
    show List.filter _ [1, 2, 3, 4] = _
    refine List.filter_congr fun q _ => ?_
    unfold cand
    by_cases hq : q = y
    · rw [if_pos ⟨by omega, hq⟩, if_pos hq]
    · rw [if_neg (fun h2 => hq h2.2), if_neg hq]
      exact (List.elem_eq_contains).symm.trans (List.elem_eq_mem _ _)
  · rw [if_neg h]
    unfold some4 filt
    show List.filter _ [1, 2, 3, 4] = _
    refine List.filter_congr fun q _ => ?_
    unfold cand
    rw [if_neg (fun h2 => h (by omega))]
    exact (List.elem_eq_contains).symm.trans (List.elem_eq_mem _ _)

theorem some4_next {i p : Nat} {x y : Int} {add : Bool} {l : List Int} (h1 : 1 ≤ p) (h4 : p ≤ 4) (hc : cand i x y add l (p : Int) = true) : some4 i x y add l (p - 1) ++ [(p : Int)] = some4 i x y add l (p + 1 - 1) := by
  have := some4_yes (i := i) (x := x) (y := y) (add := add) (l := l) (j := p - 1) (by omega) (by rw [show p - 1 + 1 = p by omega]; exact hc)
  rw [show p - 1 + 1 = p by omega] at this
  exact this
theorem some4_skip {i p : Nat} {x y : Int} {add : Bool} {l : List Int} (h1 : 1 ≤ p) (h4 : p ≤ 4) (hc : cand i x y add l (p : Int) = false) : some4 i x y add l (p - 1) = some4 i x y add l (p + 1 - 1) := by
  have := some4_no (i := i) (x := x) (y := y) (add := add) (l := l) (j := p - 1) (by omega) (by rw [show p - 1 + 1 = p by omega]; exact hc)
  rw [show p - 1 + 1 = p by omega] at this
  exact this
theorem cand_ways (i k p : Nat) (y : Int) (add v : Bool) (l : List Int) (hv : l.contains (p : Int) = v) : ∃ B, cand i (k : Int) y add l (p : Int) = B ∧ ((((i : Int) == (k : Int)) = true ∧ ((p : Int) == y) = true ∧ B = add) ∨ (((i : Int) == (k : Int)) = true ∧ ((p : Int) == y) = false ∧ B = v) ∨ (((i : Int) == (k : Int)) = false ∧ B = v)) := by
  unfold cand
  by_cases h1 : (i : Int) = (k : Int)
  · by_cases h2 : (p : Int) = y
    · exact ⟨add, if_pos ⟨h1, h2⟩, .inl ⟨by simpa using h1, by simpa using h2, rfl⟩⟩
    · exact ⟨v, by rw [if_neg (fun h => h2 h.2)]; exact hv, .inr (.inl ⟨by simpa using h1, by simpa using h2, rfl⟩)⟩
  · exact ⟨v, by rw [if_neg (fun h => h1 h.1)]; exact hv, .inr (.inr ⟨by simpa using h1, rfl⟩)⟩

end Go.Proofs.YtfidgcanolegfaaGreat.Pl

/- What follows of the answers of Add and Retire, as lists (no program in sight). -/
namespace Go.Proofs.YtfidgcanolegfaaGreat.Pl
open Go.Proofs.YtfidgcanolegfaaGreat

theorem keep_len (l : List Int) (n : Int) (add : Bool) : (keep l n add).length ≤ 4 := by
  unfold keep
  exact Nat.le_trans (List.length_filter_le _ _) (by simp)
section
variable {e : Int} {m : List (List Int)} {x n E E2 : Int} {M M2 : List (List Int)} {X X2 : Int}
theorem turn_rows_le {K : Nat} (hK : 4 ≤ K) (hm : ∀ l ∈ m, l.length ≤ K) (add : Bool) : ∀ l ∈ turn m x n add, l.length ≤ K := by
  intro l hl
  unfold turn at hl
  rcases List.mem_or_eq_of_mem_set hl with h2 | h2
  · exact hm l h2
  · rw [h2]; exact Nat.le_trans (keep_len _ _ _) hK
theorem Add.rows (h : Add e m x n E M X) {K : Nat} (hK : 4 ≤ K) (hm : ∀ l ∈ m, l.length ≤ K) : ∀ l ∈ M, l.length ≤ K := by
  rcases h with ⟨_, _, rfl, _⟩ | ⟨_, _, _, rfl, _⟩ | ⟨_, _, _, rfl, _⟩
  · exact hm
  · exact hm
  · exact turn_rows_le hK hm true
theorem Ret.rows (h : Ret e m x n E M X) {K : Nat} (hK : 4 ≤ K) (hm : ∀ l ∈ m, l.length ≤ K) : ∀ l ∈ M, l.length ≤ K := by
  rcases h with ⟨_, _, rfl, _⟩ | ⟨_, _, _, rfl, _⟩ | ⟨_, _, _, _, rfl, _⟩ | ⟨_, _, _, _, rfl, _⟩
  · exact hm
  · exact hm
  · exact hm
  · exact turn_rows_le hK hm false
theorem add_two {l : List Int} {n : Int} (h : RowOk l) (h1 : 1 ≤ n) (h2 : n ≤ 4) (hn : n ∉ l) : (keep l n true).length ≠ 1 := by
  have : ∀ l ∈ rows, ∀ n ∈ ([1, 2, 3, 4] : List Int), n ∉ l → (keep l n true).length ≠ 1 := by decide
  exact this l (row_there h) n (node_there h1 h2) hn
theorem back (hw : ¬ Wrong e m x n) (hh : ¬ Holds m x n) (he : e < 2147483646) (h : Ret (e + 1) (turn m x n true) x n E2 M2 X2) : e + 2 = E2 ∧ m = M2 ∧ 0 = X2 := by
  obtain ⟨hR, hx, hn, _⟩ := not_wrong hw
  have hw2 : ¬ Wrong (e + 1) (turn m x n true) x n := by
    rintro (h1 | h1 | h1 | h1)
    · exact h1 (add_right hw)
    · rw [turn_len] at h1; exact h1 hx
    · exact h1 hn
    · omega
  have hh2 : Holds (turn m x n true) x n := (turn_holds hx hn hR true x n).2 (by rw [if_pos ⟨rfl, rfl⟩])
  have h3 : ((turn m x n true).getD x.toNat []).length ≠ 1 := by
    rw [turn_at hx, if_pos rfl]
    exact add_two (hR.row (by omega)) hn.1 hn.2 fun h4 => hh ⟨hx, h4⟩
  rcases h with ⟨h1, _⟩ | ⟨_, h1, _⟩ | ⟨_, _, h1, _⟩ | ⟨_, _, _, h4, h5, h6⟩
  · exact absurd h1 hw2
  · exact absurd hh2 h1
  · exact absurd h1 h3
  · exact ⟨by omega, by rw [← h5]; exact (turn_back hR hx hh).symm, h6⟩
theorem not_both (hA : Add e m x n E M X) (hR : Ret e m x n E2 M2 X2) (h0 : X = 0) : X2 ≠ 0 := by
  rcases hA with ⟨_, _, _, rfl⟩ | ⟨_, _, _, _, rfl⟩ | ⟨hw, hh, _, _, _⟩
  · omega
  · omega
  · rcases hR with ⟨_, _, _, rfl⟩ | ⟨_, _, _, _, rfl⟩ | ⟨_, h1, _⟩ | ⟨_, h1, _⟩
    · omega
    · omega
    · exact absurd h1 hh
    · exact absurd h1 hh
theorem Add.others (h : Add e m x n E M X) {y k : Int} (hne : ¬ (y = x ∧ k = n)) : Holds M y k ↔ Holds m y k := by
  rcases h with ⟨_, _, rfl, _⟩ | ⟨_, _, _, rfl, _⟩ | ⟨hw, _, _, rfl, _⟩
  · exact Iff.rfl
  · exact Iff.rfl
  · obtain ⟨hR, hx, hn, _⟩ := not_wrong hw
    rw [turn_holds hx hn hR true y k, if_neg hne]
theorem Ret.others (h : Ret e m x n E M X) {y k : Int} (hne : ¬ (y = x ∧ k = n)) : Holds M y k ↔ Holds m y k := by
  rcases h with ⟨_, _, rfl, _⟩ | ⟨_, _, _, rfl, _⟩ | ⟨_, _, _, _, rfl, _⟩ | ⟨hw, _, _, _, rfl, _⟩
  · exact Iff.rfl
  · exact Iff.rfl
  · exact Iff.rfl
  · obtain ⟨hR, hx, hn, _⟩ := not_wrong hw
    rw [turn_holds hx hn hR false y k, if_neg hne]
theorem Add.done (h : Add e m x n E M X) (h0 : X = 0) : E = e + 1 ∧ Holds M x n := by
  rcases h with ⟨_, _, _, rfl⟩ | ⟨_, _, _, _, rfl⟩ | ⟨hw, _, rfl, rfl, _⟩
  · omega
  · omega
  · obtain ⟨hR, hx, hn, _⟩ := not_wrong hw
    exact ⟨rfl, (turn_holds hx hn hR true x n).2 (by rw [if_pos ⟨rfl, rfl⟩])⟩
theorem Ret.done (h : Ret e m x n E M X) (h0 : X = 0) : E = e + 1 ∧ ¬ Holds M x n := by
  rcases h with ⟨_, _, _, rfl⟩ | ⟨_, _, _, _, rfl⟩ | ⟨_, _, _, _, _, rfl⟩ | ⟨hw, _, _, rfl, rfl, _⟩
  · omega
  · omega
  · omega
  · obtain ⟨hR, hx, hn, _⟩ := not_wrong hw
    exact ⟨rfl, fun h1 => by have := (turn_holds hx hn hR false x n).1 h1; rw [if_pos ⟨rfl, rfl⟩] at this; cases this⟩
theorem Add.still (h : Add e m x n E M X) (h0 : X ≠ 0) : E = e := by
  rcases h with ⟨_, rfl, _, _⟩ | ⟨_, _, rfl, _, _⟩ | ⟨_, _, _, _, rfl⟩
  · rfl
  · rfl
  · exact absurd rfl h0
theorem Ret.still (h : Ret e m x n E M X) (h0 : X ≠ 0) : E = e := by
  rcases h with ⟨_, rfl, _, _⟩ | ⟨_, _, rfl, _, _⟩ | ⟨_, _, _, rfl, _, _⟩ | ⟨_, _, _, _, _, rfl⟩
  · rfl
  · rfl
  · rfl
  · exact absurd rfl h0
end
end Go.Proofs.YtfidgcanolegfaaGreat.Pl
