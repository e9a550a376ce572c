/- What the statements of layer 15 want besides the contracts. -/
import Derived.Test.YtmechoeoaadfeaaMdlW
namespace Go.Proofs.Ytmechoeoaadfeaa
open Go.ChangeShapes Go.WideShapes Go.ChangeAt Go.RowKit

theorem Try.infoLayer : (Try.prog.info? 37).map (fun i => (i.zero, i.size, i.bytes)) = some (some (.agg #[.slice none 0 0, .slice none 0 0, .int .i64 0]), 3, 56) := by kernel_rfl
theorem Try.infoExpert : (Try.prog.info? 46).map (fun i => (i.zero, i.size, i.bytes)) = some (some (.agg #[.slice none 0 0, .slice none 0 0]), 2, 48) := by kernel_rfl

namespace Md
theorem right_take {dim : Int} {ls : List Ly} (h : Right dim ls) {k : Nat} (h1 : 1 ≤ k) (h2 : k ≤ ls.length) : Right dim (ls.take k) :=
  ⟨h.1, h.2.1, by rw [List.length_take]; omega, by rw [List.length_take]; have := h.2.2.2.1; omega, fun l hl => h.2.2.2.2 l (List.mem_of_mem_take hl)⟩
theorem right_drop {dim : Int} {ls : List Ly} (h : Right dim ls) {k : Nat} (h2 : k < ls.length) : Right dim (ls.drop k) :=
  ⟨h.1, h.2.1, by rw [List.length_drop]; omega, by rw [List.length_drop]; have := h.2.2.2.1; omega, fun l hl => h.2.2.2.2 l (List.mem_of_mem_drop hl)⟩
theorem forward_parts (ls : List Ly) (k : Nat) (ts : List (List Int)) : forward (ls.drop k) (forward (ls.take k) ts) = forward ls ts := by rw [← forward_append, List.take_append_drop]
theorem right_sizes {dim : Int} {ls : List Ly} (h : Right dim ls) : ∀ l ∈ ls, LSized l := fun l hl => right_lsized (h.2.2.2.2 l hl) h.2.1
theorem no_tokens {dim : Int} : ¬ TRight dim [] := fun h => by have := h.1; simp at this
theorem many_tokens {dim : Int} : ¬ TRight dim (List.replicate 17 []) := fun h => by have := h.2.1; rw [List.length_replicate] at this; omega
theorem sized_many : Ex.Sized (List.replicate 17 []) := ⟨by rw [List.length_replicate]; omega, fun l hl => by rw [List.eq_of_mem_replicate hl]; simp⟩
end Md

theorem rows17 (w : World) : matS.rep (w.alloc (.cells (madeCells #[.slice none 0 0] 17) 47)) everywhere [.slice (some ⟨w.heap.size, 0, none⟩) 17 17] (List.replicate 17 []) := by
  have h : rowS.all w everywhere (List.replicate 17 [.slice none 0 0]) (List.replicate 17 []) := by
    refine ⟨by rw [List.length_replicate, List.length_replicate], fun j c x hc hx => ?_⟩
    rw [List.getElem?_replicate] at hc hx
    split at hc
    · rename_i hj; rw [if_pos hj] at hx; cases hc; cases hx; exact rep_none _ _ _
    · cases hc
  have h2 := rep_lit _ _ 47 h (by rw [List.length_replicate]; simp [maxLen])
  rw [List.length_replicate] at h2
  have e : (List.replicate 17 [Value.slice none 0 0]).flatten.toArray = madeCells #[.slice none 0 0] 17 := by
    rw [← made_flat [.slice none 0 0] (by simp) 17, Array.toArray_toList]
    rfl
  rw [e] at h2
  exact h2

end Go.Proofs.Ytmechoeoaadfeaa
