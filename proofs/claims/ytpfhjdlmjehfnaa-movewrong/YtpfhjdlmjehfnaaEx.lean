/- Experts as lists of rows (no program in sight): what Right and Run are as functions on lists, and the laws that the statements of layer 11 rest on. -/
import Derived.Test.YtpfhjdlmjehfnaaMx
namespace Go.Proofs.Ytpfhjdlmjehfnaa.Ex
open Go.Proofs.Ytpfhjdlmjehfnaa

def Right (mi mo : List (List Int)) (dim : Int) : Prop := (1 ≤ dim ∧ dim ≤ 8) ∧ (1 ≤ mi.length ∧ mi.length ≤ 8) ∧ Mx.Right mi mi.length dim ∧ Mx.Right mo dim mi.length
def run (mi mo : List (List Int)) (v : List Int) : List Int := Mx.app mo (Vx.relu (Mx.app mi v))
/-- No more than can be walked. -/
def Sized (m : List (List Int)) : Prop := m.length ≤ 100000 ∧ ∀ l ∈ m, l.length ≤ 100000

section
variable {mi mo : List (List Int)} {n : Nat}
theorem Right.fitsIn (h : Right mi mo n) : Mx.Fits mi n := fun l hl => by have := (h.2.2.1.2 l hl).1; omega
theorem Right.fitsOut (h : Right mi mo n) : Mx.Fits mo mi.length := fun l hl => by have := (h.2.2.2.2 l hl).1; omega
theorem Right.len (h : Right mi mo n) : mo.length = n := by have := h.2.2.2.1; omega
theorem Right.pos (h : Right mi mo n) : 1 ≤ n ∧ n ≤ 8 := by have := h.1; omega
theorem run_length (v : List Int) (h : Right mi mo n) : (run mi mo v).length = n := by unfold run; rw [Mx.app_length]; exact h.len
/-- For one number of numbers alone. -/
theorem Right.other (h : Right mi mo n) {k : Int} (hk : k ≠ n) : ¬ Right mi mo k := fun g => by
  have := g.2.2.2.1; have := h.2.2.2.1; omega
theorem small_sized {m : List (List Int)} (h : Mx.Small m) : Sized m := ⟨by have := h.1; omega, fun l hl => by have := h.2 l hl; omega⟩

theorem app_held (m : List (List Int)) (v : List Int) : ∀ x ∈ Mx.app m v, x ≤ 2147483647 ∧ -2147483647 ≤ x := by
  intro x hx
  obtain ⟨l, _, rfl⟩ := List.mem_map.1 hx
  exact ⟨Vx.dot_hi l v, Vx.dot_lo l v⟩
theorem run_held (mi mo : List (List Int)) (v : List Int) : ∀ x ∈ run mi mo v, x ≤ 2147483647 ∧ -2147483647 ≤ x := app_held _ _

theorem app_zeros {m : List (List Int)} {n : Nat} (h : Mx.Fits m n) : Mx.app m (List.replicate n 0) = List.replicate m.length 0 := by
  induction m with
  | nil => rfl
  | cons l m ih =>
    have e : l.length = n := h l (by simp)
    have i := ih fun k hk => h k (by simp [hk])
    show Vx.dot l (List.replicate n 0) :: Mx.app m (List.replicate n 0) = List.replicate (m.length + 1) 0
    rw [i, List.replicate_succ, ← e, Vx.dot_zeros]
theorem relu_zeros (n : Nat) : Vx.relu (List.replicate n 0) = List.replicate n 0 := by
  unfold Vx.relu; rw [List.map_replicate]; rfl
theorem run_zeros (h : Right mi mo n) : run mi mo (List.replicate n 0) = List.replicate n 0 := by
  unfold run; rw [app_zeros h.fitsIn, relu_zeros, app_zeros h.fitsOut, h.len]

/-- Out's first row as noughts. -/
theorem in_zeros (k : Nat) : Mx.In (List.replicate k 0) := fun x hx => by rw [List.eq_of_mem_replicate hx]; rfl
theorem Right.none (h : Right mi mo n) : Right mi (mo.set 0 (List.replicate mi.length 0)) n := by
  refine ⟨h.1, h.2.1, h.2.2.1, by rw [List.length_set]; exact h.2.2.2.1, fun l hl => ?_⟩
  rcases List.mem_or_eq_of_mem_set hl with hl | rfl
  · exact h.2.2.2.2 l hl
  · exact ⟨by simp, in_zeros _⟩
theorem set_sized {m : List (List Int)} (h : Sized m) {k : Nat} (hk : k ≤ 100000) : Sized (m.set 0 (List.replicate k 0)) := by
  refine ⟨by rw [List.length_set]; exact h.1, fun l hl => ?_⟩
  rcases List.mem_or_eq_of_mem_set hl with hl | rfl
  · exact h.2 l hl
  · simpa using hk
theorem dot_none (v : List Int) : Vx.dot (List.replicate v.length 0) v = 0 := by rw [Vx.dot_comm]; exact Vx.dot_zeros v
theorem run_none (v : List Int) (h : Right mi mo n) : (run mi (mo.set 0 (List.replicate mi.length 0)) v).getD 0 0 = 0 := by
  have hl := h.len
  have hp := h.pos
  cases mo with
  | nil => simp at hl; omega
  | cons l m =>
    have e : (Vx.relu (Mx.app mi v)).length = mi.length := by rw [Vx.relu_length, Mx.app_length]
    show (Vx.dot (List.replicate mi.length 0) (Vx.relu (Mx.app mi v)) :: Mx.app m (Vx.relu (Mx.app mi v))).getD 0 0 = 0
    rw [← e, dot_none]; rfl

/-- Two experts side by side. -/
theorem hold_mul (a b : Int) : Fx.hold (Fx.mul a b) = Fx.mul a b := Fx.hold_id (Fx.mul_lo a b) (Fx.mul_hi a b)
theorem add_zero_mul (a b : Int) : Fx.add 0 (Fx.mul a b) = Fx.mul a b := by
  unfold Fx.add
  rw [hold_mul, show Fx.hold 0 = 0 from rfl, Int.zero_add, hold_mul]
theorem run_one (a b v : Int) : run [[a]] [[b]] [v] = [Fx.mul b (Vx.rel (Fx.mul a v))] := by
  show [Fx.add 0 (Fx.mul b (Vx.rel (Fx.add 0 (Fx.mul a v))))] = _
  rw [add_zero_mul, add_zero_mul]
theorem run_joined (a b c d v : Int) : run [[a], [c]] [[b, d]] [v] = Vx.add (run [[a]] [[b]] [v]) (run [[c]] [[d]] [v]) := by
  rw [run_one, run_one]
  show [Fx.add (Fx.add 0 (Fx.mul b (Vx.rel (Fx.add 0 (Fx.mul a v))))) (Fx.mul d (Vx.rel (Fx.add 0 (Fx.mul c v))))] = [Fx.add (Fx.mul b (Vx.rel (Fx.mul a v))) (Fx.mul d (Vx.rel (Fx.mul c v)))]
  rw [add_zero_mul, add_zero_mul, add_zero_mul]
theorem in_one {a : Int} (h : Fx.hold a = a) : Mx.In [a] := fun x hx => by simp at hx; subst hx; exact h
theorem in_two {a b : Int} (h : Fx.hold a = a) (k : Fx.hold b = b) : Mx.In [a, b] := fun x hx => by
  simp at hx
  rcases hx with rfl | rfl
  · exact h
  · exact k
theorem right_one {a b : Int} (h : Fx.hold a = a) (k : Fx.hold b = b) : Right [[a]] [[b]] 1 := by
  refine ⟨by omega, by simp, ⟨rfl, fun l hl => ?_⟩, ⟨rfl, fun l hl => ?_⟩⟩
  · simp at hl; subst hl; exact ⟨rfl, in_one h⟩
  · simp at hl; subst hl; exact ⟨rfl, in_one k⟩
theorem right_joined {a b c d : Int} (ha : Fx.hold a = a) (hb : Fx.hold b = b) (hc : Fx.hold c = c) (hd : Fx.hold d = d) : Right [[a], [c]] [[b, d]] 1 := by
  refine ⟨by omega, by simp, ⟨rfl, fun l hl => ?_⟩, ⟨rfl, fun l hl => ?_⟩⟩
  · simp at hl
    rcases hl with rfl | rfl
    · exact ⟨rfl, in_one ha⟩
    · exact ⟨rfl, in_one hc⟩
  · simp at hl; subst hl; exact ⟨rfl, in_two hb hd⟩
end

end Go.Proofs.Ytpfhjdlmjehfnaa.Ex
