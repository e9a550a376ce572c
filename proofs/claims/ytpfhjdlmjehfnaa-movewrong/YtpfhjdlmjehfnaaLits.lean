/- Rows, and rows of rows, that a literal lays. -/
import Derived.Test.YtpfhjdlmjehfnaaBase
namespace Go.Proofs.Ytpfhjdlmjehfnaa
open Go.ChangeShapes Go.WideShapes Go.ChangeAt Go.RowKit

theorem mat_one (w : World) (p : Int) : matS.rep ((w.alloc (.cells #[.int .i64 p] 3)).alloc (.cells #[.slice (some ⟨w.heap.size, 0, none⟩) 1 1] 67)) everywhere [.slice (some ⟨w.heap.size + 1, 0, none⟩) 1 1] [[p]] := by
  have h := rep_lit [[.slice (some ⟨w.heap.size, 0, none⟩) 1 1]] [[p]] 67 (Shape.all_one (row_lit w [p] 3 (by simp [maxLen]))) (by simp [maxLen])
  rw [show (w.alloc (.cells ([p].map (Value.int .i64)).toArray 3)).heap.size = w.heap.size + 1 by simp] at h
  exact h
theorem bel_two (w : World) (o1 o2 : Obj) : Below w.heap.size w ((w.alloc o1).alloc o2) := bel_alloc (new_bel _ _) _
/-- A row of one number. -/
theorem one_row (w : World) (p : Int) : Row .i64 (w.alloc (.cells #[.int .i64 p] 3)) (some ⟨w.heap.size, 0, none⟩) 1 [p] := Row.of_rep (row_lit w [p] 3 (by simp [maxLen]))
/-- Two rows of one number each. -/
theorem mat_two (w : World) (a c : Int) :
    matS.rep (((w.alloc (.cells #[.int .i64 a] 3)).alloc (.cells #[.int .i64 c] 3)).alloc (.cells #[.slice (some ⟨w.heap.size, 0, none⟩) 1 1, .slice (some ⟨w.heap.size + 1, 0, none⟩) 1 1] 67)) everywhere [.slice (some ⟨w.heap.size + 1 + 1, 0, none⟩) 2 2] [[a], [c]] := by
  have r1 : rowS.rep ((w.alloc (.cells #[.int .i64 a] 3)).alloc (.cells #[.int .i64 c] 3)) everywhere [.slice (some ⟨w.heap.size, 0, none⟩) 1 1] [a] := Shape.below (row_lit w [a] 3 (by simp [maxLen])) (new_bel _ _)
  have r2 : rowS.rep ((w.alloc (.cells #[.int .i64 a] 3)).alloc (.cells #[.int .i64 c] 3)) everywhere [.slice (some ⟨w.heap.size + 1, 0, none⟩) 1 1] [c] := by
    have h := row_lit (w.alloc (.cells #[.int .i64 a] 3)) [c] 3 (by simp [maxLen])
    rw [show (w.alloc (.cells #[.int .i64 a] 3)).heap.size = w.heap.size + 1 by simp] at h
    exact h
  have hs : ((w.alloc (.cells #[.int .i64 a] 3)).alloc (.cells #[.int .i64 c] 3)).heap.size = w.heap.size + 1 + 1 := by simp
  generalize ((w.alloc (.cells #[.int .i64 a] 3)).alloc (.cells #[.int .i64 c] 3)) = W at *
  have m1 := rep_lit [[.slice (some ⟨w.heap.size, 0, none⟩) 1 1], [.slice (some ⟨w.heap.size + 1, 0, none⟩) 1 1]] [[a], [c]] 67 (Shape.all_append (Shape.all_one r1) (Shape.all_one r2)) (by simp [maxLen])
  rw [hs] at m1
  exact m1
/-- Rows that are there, laid by a literal of one or two of them. -/
theorem rows_one {w : World} {F : Nat → Prop} {a : Option Addr} {n c : Nat} {l : List Int} (h : rowS.rep w F [.slice a n c] l) :
    matS.rep (w.alloc (.cells #[.slice a n c] 67)) everywhere [.slice (some ⟨w.heap.size, 0, none⟩) 1 1] [l] :=
  rep_lit [[.slice a n c]] [l] 67 (Shape.all_one h) (by simp [maxLen])
theorem rows_two {w : World} {F : Nat → Prop} {a b : Option Addr} {n c m d : Nat} {l k : List Int} (h : rowS.rep w F [.slice a n c] l) (g : rowS.rep w F [.slice b m d] k) :
    matS.rep (w.alloc (.cells #[.slice a n c, .slice b m d] 67)) everywhere [.slice (some ⟨w.heap.size, 0, none⟩) 2 2] [l, k] :=
  rep_lit [[.slice a n c], [.slice b m d]] [l, k] 67 (Shape.all_append (Shape.all_one h) (Shape.all_one g)) (by simp [maxLen])

end Go.Proofs.Ytpfhjdlmjehfnaa
