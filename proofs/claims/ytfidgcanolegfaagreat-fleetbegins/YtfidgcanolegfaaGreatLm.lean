/- A model of one layer with one expert, which literals lay (out of MdlW). -/
import Derived.Test.YtfidgcanolegfaaGreatMdlA
import Derived.Test.YtfidgcanolegfaaGreatLits
namespace Go.Proofs.YtfidgcanolegfaaGreat
open Go.ChangeShapes Go.WideShapes Go.ChangeAt Go.RowKit

namespace Md
def lyA : Ly := ([[65536]], [([[65536]], [[65536]], ())], 1, ())
theorem oneRight : Mx.Right [[65536]] 1 1 := ⟨rfl, fun l hl => by rw [List.mem_singleton.1 hl]; exact ⟨rfl, fun n hn => by rw [List.mem_singleton.1 hn]; rfl⟩⟩
theorem lyA_right : LRight lyA 1 := ⟨by decide, by decide, oneRight, by decide, by decide, fun x hx => by rw [List.mem_singleton.1 hx]; exact ⟨by decide, by decide, oneRight, oneRight⟩⟩
theorem modA_right : Right 1 [lyA] := ⟨by decide, by decide, by decide, by decide, fun l hl => by rw [List.mem_singleton.1 hl]; exact lyA_right⟩
theorem tokA_right : TRight 1 [[7]] := ⟨by decide, by decide, rfl, fun l hl => by rw [List.mem_singleton.1 hl]; exact ⟨rfl, fun n hn => by rw [List.mem_singleton.1 hn]; rfl⟩⟩
end Md

/-- A model of one layer with one expert, which literals lay. -/
theorem laid_model {w : World} {A : Nat} {m : List (List Int)} (h : matS.rep w everywhere [.slice (some ⟨A, 0, none⟩) 1 1] m) (cap : Int) :
    lysS.rep ((w.alloc (.cells #[.slice (some ⟨A, 0, none⟩) 1 1, .slice (some ⟨A, 0, none⟩) 1 1] 69)).alloc (.cells #[.slice (some ⟨A, 0, none⟩) 1 1, .slice (some ⟨w.heap.size, 0, none⟩) 1 1, .int .i64 cap] 65)) everywhere [.slice (some ⟨w.heap.size + 1, 0, none⟩) 1 1] [(m, [(m, m, ())], cap, ())] := by
  have h1 := rep_lit [[.slice (some ⟨A, 0, none⟩) 1 1, .slice (some ⟨A, 0, none⟩) 1 1]] [((m, m, ()) : Xp)] 69 (Shape.all_one (xp_rep h h)) (by simp [maxLen])
  have h2 := Shape.below h (new_bel w (.cells #[.slice (some ⟨A, 0, none⟩) 1 1, .slice (some ⟨A, 0, none⟩) 1 1] 69))
  have hs : (w.alloc (.cells #[.slice (some ⟨A, 0, none⟩) 1 1, .slice (some ⟨A, 0, none⟩) 1 1] 69)).heap.size = w.heap.size + 1 := by simp
  have h1' : xpsS.rep (w.alloc (.cells #[.slice (some ⟨A, 0, none⟩) 1 1, .slice (some ⟨A, 0, none⟩) 1 1] 69)) everywhere [.slice (some ⟨w.heap.size, 0, none⟩) 1 1] [(m, m, ())] := h1
  generalize (w.alloc (.cells #[.slice (some ⟨A, 0, none⟩) 1 1, .slice (some ⟨A, 0, none⟩) 1 1] 69)) = W at *
  have h3 := rep_lit [[.slice (some ⟨A, 0, none⟩) 1 1, .slice (some ⟨w.heap.size, 0, none⟩) 1 1, .int .i64 cap]] [((m, [(m, m, ())], cap, ()) : Ly)] 65 (Shape.all_one (ly_rep cap h2 h1')) (by simp [maxLen])
  rw [hs] at h3
  exact h3

/-! ### The same, and where they lie -/
theorem rep_litF {α : Type} {A : Shape α} {w : World} {F : Nat → Prop} (css : List (List Value)) (xs : List α) (e : TypeId) (h : A.all w F css xs) (hF : F w.heap.size) (hm : xs.length ≤ maxLen) :
    (sliceS A).rep (w.alloc (.cells css.flatten.toArray e)) F [.slice (some ⟨w.heap.size, 0, none⟩) xs.length xs.length] xs := by
  refine ⟨_, _, css, rfl, Nat.le_refl _, hm, Shape.all_keep h fun b _ hlt => Below.heap_alloc w _ b hlt, .inr ⟨w.heap.size, 0, rfl, hF, by simp, fun j v hv => ?_⟩⟩
  rw [cell_of_row _ w.heap.size (0 + j) css.flatten.toArray e (0, 0) (heap_alloc_new w _)]
  simpa using hv
theorem row_oneF (w : World) (p : Int) {B : Nat} (hB : B ≤ w.heap.size) : rowS.rep (w.alloc (.cells #[.int .i64 p] 3)) (B ≤ ·) [.slice (some ⟨w.heap.size, 0, none⟩) 1 1] [p] :=
  rep_litF (A := intS .i64) [[.int .i64 p]] [p] 3 (Shape.all_one rfl) hB (by simp [maxLen])
theorem rows_oneF {w : World} {B : Nat} {a : Option Addr} {n c : Nat} {l : List Int} (h : rowS.rep w (B ≤ ·) [.slice a n c] l) (hB : B ≤ w.heap.size) : matS.rep (w.alloc (.cells #[.slice a n c] 42)) (B ≤ ·) [.slice (some ⟨w.heap.size, 0, none⟩) 1 1] [l] :=
  rep_litF [[.slice a n c]] [l] 42 (Shape.all_one h) hB (by simp [maxLen])
theorem mat_oneF (w : World) (p : Int) {B : Nat} (hB : B ≤ w.heap.size) : matS.rep ((w.alloc (.cells #[.int .i64 p] 3)).alloc (.cells #[.slice (some ⟨w.heap.size, 0, none⟩) 1 1] 42)) (B ≤ ·) [.slice (some ⟨w.heap.size + 1, 0, none⟩) 1 1] [[p]] := by
  have h := rows_oneF (row_oneF w p hB) (by simp; omega)
  rw [show (w.alloc (.cells #[.int .i64 p] 3)).heap.size = w.heap.size + 1 by simp] at h
  exact h
theorem laid_modelF {w : World} {A B : Nat} {m : List (List Int)} (h : matS.rep w (B ≤ ·) [.slice (some ⟨A, 0, none⟩) 1 1] m) (hB : B ≤ w.heap.size) (cap : Int) :
    lysS.rep ((w.alloc (.cells #[.slice (some ⟨A, 0, none⟩) 1 1, .slice (some ⟨A, 0, none⟩) 1 1] 69)).alloc (.cells #[.slice (some ⟨A, 0, none⟩) 1 1, .slice (some ⟨w.heap.size, 0, none⟩) 1 1, .int .i64 cap] 65)) (B ≤ ·) [.slice (some ⟨w.heap.size + 1, 0, none⟩) 1 1] [(m, [(m, m, ())], cap, ())] := by
  have h1 := rep_litF [[.slice (some ⟨A, 0, none⟩) 1 1, .slice (some ⟨A, 0, none⟩) 1 1]] [((m, m, ()) : Xp)] 69 (Shape.all_one (xp_rep h h)) hB (by simp [maxLen])
  have h2 := Shape.below h (new_bel w (.cells #[.slice (some ⟨A, 0, none⟩) 1 1, .slice (some ⟨A, 0, none⟩) 1 1] 69))
  have hs : (w.alloc (.cells #[.slice (some ⟨A, 0, none⟩) 1 1, .slice (some ⟨A, 0, none⟩) 1 1] 69)).heap.size = w.heap.size + 1 := by simp
  have h1' : xpsS.rep (w.alloc (.cells #[.slice (some ⟨A, 0, none⟩) 1 1, .slice (some ⟨A, 0, none⟩) 1 1] 69)) (B ≤ ·) [.slice (some ⟨w.heap.size, 0, none⟩) 1 1] [(m, m, ())] := h1
  generalize (w.alloc (.cells #[.slice (some ⟨A, 0, none⟩) 1 1, .slice (some ⟨A, 0, none⟩) 1 1] 69)) = W at *
  have h3 := rep_litF [[.slice (some ⟨A, 0, none⟩) 1 1, .slice (some ⟨w.heap.size, 0, none⟩) 1 1, .int .i64 cap]] [((m, [(m, m, ())], cap, ()) : Ly)] 65 (Shape.all_one (ly_rep cap h2 h1')) (by omega) (by simp [maxLen])
  rw [hs] at h3
  exact h3

end Go.Proofs.YtfidgcanolegfaaGreat
