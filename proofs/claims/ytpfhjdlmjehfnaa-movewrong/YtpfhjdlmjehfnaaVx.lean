/- Rows of numbers as lists (no program in sight): what Dot, Add, Scale and Relu are as functions on lists of integers, one number more at a time, and the laws that the statements of layer 2 rest on. -/
import Derived.Test.YtpfhjdlmjehfnaaFx
import Derived.Test.YtpfhjdlmjehfnaaRow
namespace Go.Proofs.Ytpfhjdlmjehfnaa.Vx
open Go.Proofs.Ytpfhjdlmjehfnaa

def dotFrom (s : Int) : List Int → List Int → Int
  | x :: a, y :: b => dotFrom (Fx.add s (Fx.mul x y)) a b
  | _, _ => s
def dot (a b : List Int) : Int := dotFrom 0 a b
def add (a b : List Int) : List Int := List.zipWith Fx.add a b
def scale (a : List Int) (k : Int) : List Int := a.map fun n => Fx.mul n k
def rel (n : Int) : Int := if Fx.hold n < 0 then 0 else Fx.hold n
def relu (a : List Int) : List Int := a.map rel

def little (a : List Int) : List Int := a.map fun n => n.tmod 1048576

theorem dotFrom_snoc (s : Int) (a b : List Int) (x y : Int) (h : a.length = b.length) : dotFrom s (a ++ [x]) (b ++ [y]) = Fx.add (dotFrom s a b) (Fx.mul x y) := by
  induction a generalizing s b with
  | nil => cases b with
    | nil => rfl
    | cons _ _ => simp at h
  | cons z a ih => cases b with
    | nil => simp at h
    | cons u b => exact ih _ b (by simpa using h)
theorem dot_succ (a b : List Int) (k : Nat) (ha : k < a.length) (hb : k < b.length) : dot (a.take (k + 1)) (b.take (k + 1)) = Fx.add (dot (a.take k) (b.take k)) (Fx.mul (a.getD k 0) (b.getD k 0)) := by
  rw [take_snoc a k ha, take_snoc b k hb]
  exact dotFrom_snoc 0 _ _ _ _ (by simp; omega)
theorem dotFrom_held (s : Int) (a b : List Int) (h1 : -2147483647 ≤ s) (h2 : s ≤ 2147483647) : -2147483647 ≤ dotFrom s a b ∧ dotFrom s a b ≤ 2147483647 := by
  induction a generalizing s b with
  | nil => exact ⟨h1, h2⟩
  | cons z a ih => cases b with
    | nil => exact ⟨h1, h2⟩
    | cons u b => exact ih _ b (Fx.add_lo _ _) (Fx.add_hi _ _)
theorem dot_lo (a b : List Int) : -2147483647 ≤ dot a b := (dotFrom_held 0 a b (by omega) (by omega)).1
theorem dot_hi (a b : List Int) : dot a b ≤ 2147483647 := (dotFrom_held 0 a b (by omega) (by omega)).2
/-- The document's step: the sum of a held number and a product, held. -/
theorem hold_step (a b : List Int) (x y : Int) : Fx.hold (dot a b + Fx.mul x y) = Fx.add (dot a b) (Fx.mul x y) := by
  unfold Fx.add
  rw [Fx.hold_id (dot_lo a b) (dot_hi a b), Fx.hold_id (Fx.mul_lo x y) (Fx.mul_hi x y)]
theorem dotFrom_comm (s : Int) (a b : List Int) : dotFrom s a b = dotFrom s b a := by
  induction a generalizing s b with
  | nil => cases b <;> rfl
  | cons z a ih => cases b with
    | nil => rfl
    | cons u b => show dotFrom (Fx.add s (Fx.mul z u)) a b = dotFrom (Fx.add s (Fx.mul u z)) b a; rw [Fx.mul_comm z u]; exact ih _ b
theorem dot_comm (a b : List Int) : dot a b = dot b a := dotFrom_comm 0 a b
theorem add_comm (a b : List Int) : add a b = add b a := List.zipWith_comm_of_comm Fx.add_comm
theorem add_length (a b : List Int) (h : a.length = b.length) : (add a b).length = a.length := by simp [add]; omega
theorem add_succ (a b : List Int) (k : Nat) (ha : k < a.length) (hb : k < b.length) : add (a.take (k + 1)) (b.take (k + 1)) = add (a.take k) (b.take k) ++ [Fx.add (a.getD k 0) (b.getD k 0)] := by
  rw [take_snoc a k ha, take_snoc b k hb]
  unfold add
  rw [List.zipWith_append (by simp; omega)]
  rfl
theorem add_take_length (a b : List Int) (k : Nat) (ha : k ≤ a.length) (hb : k ≤ b.length) : (add (a.take k) (b.take k)).length = k := by simp [add]; omega
theorem scale_succ (a : List Int) (c : Int) (k : Nat) (ha : k < a.length) : scale (a.take (k + 1)) c = scale (a.take k) c ++ [Fx.mul (a.getD k 0) c] := by
  rw [take_snoc a k ha]; simp [scale]
theorem relu_succ (a : List Int) (k : Nat) (ha : k < a.length) : relu (a.take (k + 1)) = relu (a.take k) ++ [rel (a.getD k 0)] := by
  rw [take_snoc a k ha]; simp [relu]
theorem little_succ (a : List Int) (k : Nat) (ha : k < a.length) : little (a.take (k + 1)) = little (a.take k) ++ [(a.getD k 0).tmod 1048576] := by
  rw [take_snoc a k ha]; simp [little]
theorem scale_length (a : List Int) (c : Int) : (scale a c).length = a.length := by simp [scale]
theorem relu_length (a : List Int) : (relu a).length = a.length := by simp [relu]

theorem add_nonneg {a b : Int} (ha : 0 ≤ a) (hb : 0 ≤ b) : 0 ≤ Fx.add a b := by
  have h1 := Fx.hold_mono ha; have h2 := Fx.hold_mono hb
  have h0 : Fx.hold 0 = 0 := rfl
  have h : Fx.hold 0 ≤ Fx.add a b := Fx.hold_mono (by omega)
  omega
theorem dotFrom_self (s : Int) (a : List Int) (h : 0 ≤ s) : 0 ≤ dotFrom s a a := by
  induction a generalizing s with
  | nil => exact h
  | cons x a ih => exact ih _ (add_nonneg h (Fx.mul_self x))
theorem dot_self (a : List Int) : 0 ≤ dot a a := dotFrom_self 0 a (Int.le_refl _)

end Go.Proofs.Ytpfhjdlmjehfnaa.Vx
