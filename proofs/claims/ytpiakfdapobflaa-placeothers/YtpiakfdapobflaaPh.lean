/- Holds of several maps, as one contract. -/
import Derived.Test.YtpiakfdapobflaaPlcG
namespace Go.Proofs.Ytpiakfdapobflaa
open Go.ChangeShapes Go.WideShapes Go.ChangeAt Go.RowKit

/-- A map that lies there, and whether y holds x there. -/
structure HoldsIn (W : World) (n : Nat) (x y : Int) (v : Bool) (a : Option Addr) (c : Nat) : Prop where
  ex : ∃ m, matS.rep W everywhere [.slice a n c] m ∧ Ex.Sized m ∧ tell (Pl.Holds m x y) = v
theorem holdsIn {W : World} {n : Nat} {x y : Int} {v : Bool} {a : Option Addr} {c : Nat} (h : HoldsIn W n x y v a c) (e : Int) (u : World) (hu : Below W.heap.size W u) :
    Calls Try.prog 18 #[.agg #[.int .i64 e, .slice a n c], .int .i64 x, .int .i64 y] u fun r w' => r = .returned (.bool v) ∧ Below u.heap.size u w' := by
  obtain ⟨m, h1, h2, h3⟩ := h.ex
  exact pholds e a n c m x y v u (Shape.below h1 hu) h2 h3

end Go.Proofs.Ytpiakfdapobflaa
