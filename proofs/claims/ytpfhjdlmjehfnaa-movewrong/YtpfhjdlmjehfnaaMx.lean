/- Rows of rows of numbers as lists (no program in sight): what Small, Right and Apply are as functions on lists, and the laws that the statements of layer 3 rest on. -/
import Derived.Test.YtpfhjdlmjehfnaaVy
import Derived.Test.YtpfhjdlmjehfnaaShape
namespace Go.Proofs.Ytpfhjdlmjehfnaa.Mx
open Go.Proofs.Ytpfhjdlmjehfnaa

def Small (m : List (List Int)) : Prop := m.length ≤ 30 ∧ ∀ l ∈ m, l.length ≤ 30
def In (l : List Int) : Prop := ∀ n ∈ l, Fx.hold n = n
def Right (m : List (List Int)) (rows columns : Int) : Prop := (m.length : Int) = rows ∧ ∀ l ∈ m, (l.length : Int) = columns ∧ In l
def Fits (m : List (List Int)) (n : Nat) : Prop := ∀ l ∈ m, l.length = n
def app (m : List (List Int)) (v : List Int) : List Int := m.map fun l => Vx.dot l v

theorem app_length (m : List (List Int)) (v : List Int) : (app m v).length = m.length := by simp [app]
theorem take_row (m : List (List Int)) (j : Nat) (h : j < m.length) : m.take (j + 1) = m.take j ++ [m.getD j []] := by
  rw [List.take_succ_eq_append_getElem h, List.getD_eq_getElem?_getD, List.getElem?_eq_getElem h]; rfl
theorem app_succ (m : List (List Int)) (v : List Int) (k : Nat) (h : k < m.length) : app (m.take (k + 1)) v = app (m.take k) v ++ [Vx.dot (m.getD k []) v] := by
  rw [take_row m k h]; simp [app]
theorem getD_mem (m : List (List Int)) (k : Nat) (h : k < m.length) : m.getD k [] ∈ m := by
  rw [List.getD_eq_getElem?_getD, List.getElem?_eq_getElem h]; exact List.getElem_mem h
theorem num_mem (l : List Int) (k : Nat) (h : k < l.length) : l.getD k 0 ∈ l := by
  rw [List.getD_eq_getElem?_getD, List.getElem?_eq_getElem h]; exact List.getElem_mem h
/-- One more. -/
theorem all_succ {α : Type} {P : α → Prop} {m : List α} {k : Nat} {d : α} (h : k < m.length) (h1 : ∀ x ∈ m.take k, P x) (h2 : P (m.getD k d)) : ∀ x ∈ m.take (k + 1), P x := by
  intro x hx
  rw [List.take_succ_eq_append_getElem h] at hx
  rcases List.mem_append.1 hx with hx | hx
  · exact h1 x hx
  · have e : x = m[k] := by simpa using hx
    rw [List.getD_eq_getElem?_getD, List.getElem?_eq_getElem h] at h2
    subst e; exact h2
theorem all_full {α : Type} {P : α → Prop} {m : List α} {k : Nat} (h : m.length ≤ k) (h1 : ∀ x ∈ m.take k, P x) : ∀ x ∈ m, P x := by
  rwa [List.take_of_length_le h] at h1
theorem all_zero {α : Type} {P : α → Prop} {m : List α} : ∀ x ∈ m.take 0, P x := by simp
theorem hold_iff (n : Int) : Fx.hold n = n ↔ ¬ (2147483647 < n ∨ n < -2147483647) := by
  constructor
  · intro h hh
    have h1 := Fx.hold_lo n; have h2 := Fx.hold_hi n
    omega
  · intro h; exact Fx.hold_id (by omega) (by omega)

end Go.Proofs.Ytpfhjdlmjehfnaa.Mx
