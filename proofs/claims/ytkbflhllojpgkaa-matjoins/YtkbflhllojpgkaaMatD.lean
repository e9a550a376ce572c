/- How the walks of layer 3's laws take the contracts, and 'append' of rows of rows. -/
import Derived.Test.YtkbflhllojpgkaaMatC
import Derived.Test.YtkbflhllojpgkaaVp
import Derived.Deep.RegionHeld3
import Derived.Deep.DrawnRows
import Derived.Deep.CutRange
namespace Go.Proofs.Ytkbflhllojpgkaa
open Go.ChangeShapes Go.WideShapes Go.ChangeAt Go.RowKit

theorem Try.infoRow : (Try.prog.info? 23).map (fun i => (i.zero, i.size, i.bytes)) = some (some (.slice none 0 0), 1, 24) := by kernel_rfl

/-- Whether p, as a bool. -/
noncomputable def tell (p : Prop) : Bool := @decide p (Classical.propDecidable p)
theorem tell_yes {p : Prop} (h : p) : tell p = true := by unfold tell; simp [h]
theorem tell_no {p : Prop} (h : ¬ p) : tell p = false := by unfold tell; simp [h]
theorem tell_iff {p q : Prop} (h : p ↔ q) : tell p = tell q := by
  by_cases hp : p
  · rw [tell_yes hp, tell_yes (h.1 hp)]
  · rw [tell_no hp, tell_no (fun hq => hp (h.2 hq))]
theorem Says.form {e : Ending} {p : Prop} (h : Says e p) : e = .returned (.bool (tell p)) := by
  by_cases hp : p
  · rw [tell_yes hp]; exact h.is hp
  · rw [tell_no hp]; exact h.not hp

theorem by_says {P : Program} {f : FuncId} {args : Array Value} {w : World} {p : Prop} {Q : Ending → World → Prop} (h : Calls P f args w fun e w' => Says e p ∧ w' = w) (hy : p → Q (.returned (.bool true)) w) (hn : ¬ p → Q (.returned (.bool false)) w) : Calls P f args w Q :=
  h.mono (by
    rintro e w' ⟨hs, rfl⟩
    by_cases hp : p
    · rw [hs.is hp]; exact hy hp
    · rw [hs.not hp]; exact hn hp)
theorem by_form {P : Program} {f : FuncId} {args : Array Value} {w : World} {p : Prop} {Q : Ending → World → Prop} (h : Calls P f args w fun e w' => Says e p ∧ w' = w) (hq : Q (.returned (.bool (tell p))) w) : Calls P f args w Q :=
  h.mono (by rintro e w' ⟨hs, rfl⟩; rw [hs.form]; exact hq)

/-- What Apply answers, as one form for both its ways. -/
noncomputable def outLen (p : Prop) (n : Nat) : Nat := @ite _ p (Classical.propDecidable p) n 0
noncomputable def outRow (p : Prop) (l : List Int) : List Int := @ite _ p (Classical.propDecidable p) l []
theorem outLen_le (p : Prop) (n : Nat) : outLen p n ≤ n := by unfold outLen; split <;> omega
theorem Gives.form {e : Ending} {w' : World} {n : Nat} {l : List Int} {p : Prop} (h : Gives e w' n l p) :
    ∃ a c, e = .returned (.tuple #[.slice a (outLen p n) c, .bool (tell p)]) ∧ rowS.rep w' everywhere [.slice a (outLen p n) c] (outRow p l) := by
  rcases h with ⟨hp, a, c, he, hr⟩ | ⟨hp, he⟩
  · refine ⟨a, c, ?_, ?_⟩
    · rw [tell_yes hp]; unfold outLen; rw [if_pos hp]; exact he
    · unfold outLen outRow; rw [if_pos hp, if_pos hp]; exact hr
  · refine ⟨none, 0, ?_, ?_⟩
    · rw [tell_no hp]; unfold outLen; rw [if_neg hp]; exact he
    · unfold outLen outRow; rw [if_neg hp, if_neg hp]; exact rep_none _ _ _

/-- What came in is there in whatever world comes of the first. -/
theorem Shape.now {α : Type} {A : Shape α} {w u : World} {cs : List Value} {x : α} (h : A.rep w (· < w.heap.size) cs x) (hb : Below w.heap.size w u) : A.rep u (· < w.heap.size) cs x :=
  A.keep h fun b hlt _ => hb.block b hlt

theorem Own.empty {α : Type} (A : Shape α) (w : World) (e : TypeId) : Own A (w.alloc (.cells #[] e)) w.heap.size e (.slice (some ⟨w.heap.size, 0, none⟩) 0 0) [] :=
  ⟨[], World.ownsRow_made w #[] 0 (Nat.le_refl _) (by simp [maxLen]) (by simp), Shape.all_nil⟩

theorem Own.is {α : Type} {A : Shape α} {w : World} {base : Nat} {e : TypeId} {a : Option Addr} {n c : Nat} {xs : List α} (h : Own A w base e (.slice a n c) xs) : (sliceS A).rep w everywhere [.slice a n c] xs := by
  obtain ⟨a', c', he, hr⟩ := h.rep
  cases he
  exact hr
theorem Gives.yes {e : Ending} {w' : World} {n : Nat} {l : List Int} {p : Prop} (h : Gives e w' n l p) (hp : p) : ∃ a c, e = .returned (.tuple #[.slice a n c, .bool true]) ∧ rowS.rep w' everywhere [.slice a n c] l := by
  rcases h with ⟨_, h⟩ | ⟨hn, _⟩
  · exact h
  · exact absurd hp hn
theorem Gives.no {e : Ending} {w' : World} {n : Nat} {l : List Int} {p : Prop} (h : Gives e w' n l p) (hp : ¬ p) : e = .returned (.tuple #[.slice none 0 0, .bool false]) := by
  rcases h with ⟨hy, _⟩ | ⟨_, h⟩
  · exact absurd hy hp
  · exact h
namespace Mx
theorem fits_append (a b : List (List Int)) (n : Nat) : Fits (a ++ b) n ↔ Fits a n ∧ Fits b n := by
  constructor
  · intro h; exact ⟨fun l hl => h l (List.mem_append.2 (.inl hl)), fun l hl => h l (List.mem_append.2 (.inr hl))⟩
  · intro h l hl
    rcases List.mem_append.1 hl with hl | hl
    · exact h.1 l hl
    · exact h.2 l hl
theorem app_append (a b : List (List Int)) (v : List Int) : app (a ++ b) v = app a v ++ app b v := by simp [app]
end Mx

end Go.Proofs.Ytkbflhllojpgkaa
