/- A region that draws its order, whose operations only read what was there and whose callees make at most new memory: ONE walk in the order of the text serves every order. The class of worlds: those that come of the first by new memory alone. -/
import Derived.Test.YtkbflhllojpgkaaMatD
import Derived.BigQuiet
namespace Go.Proofs.Ytkbflhllojpgkaa
open Go.ChangeShapes Go.WideShapes Go.ChangeAt Go.RowKit

/-- A world that comes of w by new memory alone. -/
structure Later (w : World) where
  u : World
  h : Below w.heap.size w u

theorem Later.there (w : World) : Nonempty (Later w) := ⟨⟨w, Below.refl _ w⟩⟩
theorem Later.cell {w : World} {p : Addr} {v : Value} (hc : w.cell? p = some v) (x : Later w) : x.u.cell? p = some v := (x.h.cell (World.block_lt_of_cell? w _ hc)).trans hc
theorem Later.call {P : Program} {f : FuncId} {args : Array Value} {w : World} {v : Value} {x : Later w} (h : Calls P f args x.u fun e w' => e = .returned v ∧ Below x.u.heap.size x.u w') :
    Calls P f args x.u fun e w'' => e = .returned v ∧ ∃ y : Later w, w'' = y.u :=
  h.mono fun _ w'' ⟨he, hb⟩ => ⟨he, ⟨w'', x.h.trans (hb.mono x.h.size)⟩, rfl⟩
theorem Later.same {P : Program} {f : FuncId} {args : Array Value} {w : World} {v : Value} {x : Later w} (h : Calls P f args x.u fun e w' => e = .returned v ∧ w' = x.u) :
    Calls P f args x.u fun e w'' => e = .returned v ∧ ∃ y : Later w, w'' = y.u :=
  h.mono fun _ _ ⟨he, hb⟩ => ⟨he, x, hb⟩

theorem region_later {P : Program} {id : Nat} {Q : Exit → Act → World → Prop} {a : Act} {w : World} {l : List Oper} (hm : P.follows .mixedOrders = true) (hB : Region.lexB .any l.toArray = true)
    (h : wpQuiet P l.toArray (fun w' => ∃ x : Later w, w' = x.u) (fun a' => ∀ x : Later w, Q .normal a' x.u) l a) : (Code.region id l.toArray true).wp P Q a w := by
  refine wp_region_quiet (C := fun w' => ∃ x : Later w, w' = x.u) hm hB ⟨⟨_, (Below.refl _ w).drew⟩, rfl⟩ ?_
  have e : (fun a' => ∀ w', (∃ x : Later w, w' = x.u) → Q .normal a' w') = fun a' => ∀ x : Later w, Q .normal a' x.u := by
    funext a'
    apply propext
    constructor
    · intro h x; exact h _ ⟨x, rfl⟩
    · rintro h w' ⟨x, rfl⟩; exact h x
  rw [e]
  simpa using h

/-! ### A store into a slice that the call owns -/
theorem Own.form {α : Type} {A : Shape α} {w : World} {base : Nat} {e : TypeId} {a : Option Addr} {n c : Nat} {xs : List α} (h : Own A w base e (.slice a n c) xs) (hn : 0 < n) : ∃ g, a = some ⟨g, 0, none⟩ ∧ base ≤ g ∧ g < w.heap.size ∧ xs.length = n := by
  have hl := (sliceS_len h.is).1
  obtain ⟨css, ⟨_, h1⟩, _⟩ := h
  rcases h1 with ⟨he, h0⟩ | ⟨g, cap, cur, he, hb, hg, _⟩
  · omega
  · cases he
    exact ⟨g, rfl, hb, (Array.getElem?_eq_some_iff.1 hg).1, hl⟩
theorem flat_set1 {css : List (List Value)} (h : ∀ c ∈ css, c.length = 1) (j : Nat) (v : Value) : (css.set j [v]).flatten = css.flatten.set j v := by
  induction css generalizing j with
  | nil => simp
  | cons c css ih =>
    have h1 := h c (by simp)
    have h2 := ih fun d hd => h d (by simp [hd])
    obtain ⟨u, rfl⟩ : ∃ u, c = [u] := List.length_eq_one_iff.1 h1
    cases j with
    | zero => simp
    | succ j => simp [h2 j]
theorem Own.store {α : Type} {A : Shape α} {w : World} {base : Nat} {e : TypeId} {g n c : Nat} {xs : List α} (hs : A.size = 1) (h : Own A w base e (.slice (some ⟨g, 0, none⟩) n c) xs) {j : Nat} (hj : j < n) {v : Value} {x : α} {F : Nat → Prop} (hx : A.rep w F [v] x) (hF : ∀ b, F b → b ≠ g) :
    (∃ z, w.cell? ⟨g, j, none⟩ = some z) ∧ w.frozen? ⟨g, j, none⟩ = false ∧ Own A (w.setCell ⟨g, j, none⟩ v) base e (.slice (some ⟨g, 0, none⟩) n c) (xs.set j x) := by
  have hl := (sliceS_len h.is).1
  obtain ⟨css, hrow, hall⟩ := h
  subst hl
  have hlen := Shape.all_len hall
  rw [hs] at hlen
  have hfl : css.flatten.length = xs.length := by rw [flat_len hlen, hall.1, Nat.mul_one]
  refine ⟨⟨css.flatten[j]'(by omega), ?_⟩, hrow.frozenAt j, css.set j [v], ?_, ?_⟩
  · rw [hrow.cellAt j (by rw [hs, Nat.mul_one]; exact hj)]; exact List.getElem?_eq_getElem (by omega)
  · rw [flat_set1 hlen, List.length_set]; exact (hrow.stored j v).1
  · have k1 := Shape.all_set (j := j) hall (A.mono hx fun b hb _ => show some b ≠ Value.ownBlock (.slice (some ⟨g, 0, none⟩) xs.length c) from fun e => hF b hb (by injection e))
    exact Shape.all_keep k1 fun b hb _ => Below.heap_setCell w _ v b (fun e => hb (by rw [e]; rfl))

/-- A row of numbers that the call owns, among its own blocks. -/
theorem rep_high {k : IntKind} {w : World} {base : Nat} {e : TypeId} {a : Option Addr} {n c : Nat} {l : List Int} (h : w.ownsRow base e 1 (.slice a n c) n (l.map (Value.int k))) : (sliceS (intS k)).rep w (base ≤ ·) [.slice a n c] l := by
  obtain ⟨a', c', he, hr⟩ := rep_of_row h
  cases he
  obtain ⟨hl, hc, hm⟩ := sliceS_len hr
  refine (Row.of_rep hr).rep hc hm (fun b off hb => ?_)
  subst hb
  exact (h.lt b rfl).1

end Go.Proofs.Ytkbflhllojpgkaa
