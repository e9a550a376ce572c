/- 3 texts as one, in their order: MdlW, MdlX, MdlZ. -/
import Derived.Test.YtfidgcanolegfaaGreatMdlF
import Derived.Test.YtfidgcanolegfaaGreatLm

/- The fixed answer of layer 15's statements. -/
namespace Go.Proofs.YtfidgcanolegfaaGreat
open Go.ChangeShapes Go.WideShapes Go.ChangeAt Go.RowKit

namespace Md
theorem modA_is : forward [lyA] [[7]] = [[14]] := by decide +kernel
theorem none_right {dim : Int} : ¬ Right dim [] := fun h => by have := h.2.2.1; simp at this
end Md

end Go.Proofs.YtfidgcanolegfaaGreat

/- What the statements of layer 15 want besides the contracts. -/
namespace Go.Proofs.YtfidgcanolegfaaGreat
open Go.ChangeShapes Go.WideShapes Go.ChangeAt Go.RowKit

theorem Tryz.infoLayer : (Tryz.prog.info? 65).map (fun i => (i.zero, i.size, i.bytes)) = some (some (.agg #[.slice none 0 0, .slice none 0 0, .int .i64 0]), 3, 56) := by kernel_rfl
theorem Tryz.infoExpert : (Tryz.prog.info? 69).map (fun i => (i.zero, i.size, i.bytes)) = some (some (.agg #[.slice none 0 0, .slice none 0 0]), 2, 48) := by kernel_rfl

namespace Md
theorem right_take {dim : Int} {ls : List Ly} (h : Right dim ls) {k : Nat} (h1 : 1 ≤ k) (h2 : k ≤ ls.length) : Right dim (ls.take k) :=
  ⟨h.1, h.2.1, by rw [List.length_take]; omega, by rw [List.length_take]; have := h.2.2.2.1; omega, fun l hl => h.2.2.2.2 l (List.mem_of_mem_take hl)⟩
theorem right_drop {dim : Int} {ls : List Ly} (h : Right dim ls) {k : Nat} (h2 : k < ls.length) : Right dim (ls.drop k) :=
  ⟨h.1, h.2.1, by rw [List.length_drop]; omega, by rw [List.length_drop]; have := h.2.2.2.1; omega, fun l hl => h.2.2.2.2 l (List.mem_of_mem_drop hl)⟩
theorem forward_parts (ls : List Ly) (k : Nat) (ts : List (List Int)) : forward (ls.drop k) (forward (ls.take k) ts) = forward ls ts := by rw [← forward_append, List.take_append_drop]
theorem right_sizes {dim : Int} {ls : List Ly} (h : Right dim ls) : ∀ l ∈ ls, LSized l := fun l hl => right_lsized (h.2.2.2.2 l hl) h.2.1
theorem no_tokens {dim : Int} : ¬ TRight dim [] := fun h => by have := h.1; simp at this
theorem many_tokens {dim : Int} : ¬ TRight dim (List.replicate 17 []) := fun h => by have := h.2.1; rw [List.length_replicate] at this; omega
theorem sized_many : Ex.Sized (List.replicate 17 []) := ⟨by rw [List.length_replicate]; omega, fun l hl => by rw [List.eq_of_mem_replicate hl]; simp⟩
end Md

theorem rows17 (w : World) : matS.rep (w.alloc (.cells (madeCells #[.slice none 0 0] 17) 42)) everywhere [.slice (some ⟨w.heap.size, 0, none⟩) 17 17] (List.replicate 17 []) := by
  have h : rowS.all w everywhere (List.replicate 17 [.slice none 0 0]) (List.replicate 17 []) := by
    refine ⟨by rw [List.length_replicate, List.length_replicate], fun j c x hc hx => ?_⟩
    rw [List.getElem?_replicate] at hc hx
    split at hc
    · rename_i hj; rw [if_pos hj] at hx; cases hc; cases hx; exact rep_none _ _ _
    · cases hc
  have h2 := rep_lit _ _ 42 h (by rw [List.length_replicate]; simp [maxLen])
  rw [List.length_replicate] at h2
  have e : (List.replicate 17 [Value.slice none 0 0]).flatten.toArray = madeCells #[.slice none 0 0] 17 := by
    rw [← made_flat [.slice none 0 0] (by simp) 17, Array.toArray_toList]
    rfl
  rw [e] at h2
  exact h2

end Go.Proofs.YtfidgcanolegfaaGreat

/- Slices that the call owns, within structs in variables (no program in sight): what is written into a variable leaves the slices whose elements lead elsewhere; a piece of one element. -/
namespace Go.Proofs.YtfidgcanolegfaaGreat
open Go.ChangeShapes Go.WideShapes Go.ChangeAt Go.RowKit

theorem Box.set1 {u : World} {b : Nat} {t : TypeId} {p0 p1 : Value} (h : Box u b t #[p0, p1]) (v : Value) : Box (u.setCell ⟨b, 1, none⟩ v) b t #[p0, v] := by
  have := h.set 1 v
  simp only [List.setIfInBounds_toArray, List.set_cons_zero, List.set_cons_succ] at this
  exact this
theorem Box.set1of3 {u : World} {b : Nat} {t : TypeId} {p0 p1 p2 : Value} (h : Box u b t #[p0, p1, p2]) (v : Value) : Box (u.setCell ⟨b, 1, none⟩ v) b t #[p0, v, p2] := by
  have := h.set 1 v
  simp only [List.setIfInBounds_toArray, List.set_cons_zero, List.set_cons_succ] at this
  exact this

/-- 's[t:t+1]' -/
theorem rep_piece {w : World} {F : Nat → Prop} {a : Option Addr} {n c : Nat} {m : List (List Int)} (h : matS.rep w F [.slice a n c] m) {t : Nat} (ht : t < n) :
    matS.rep w F [.slice (if c = t then a else a.map (·.add (t * 1))) 1 (c - t)] [m.getD t []] := by
  have hl := (sliceS_len h).1
  have h1 := rep_drop h (k := t) (by omega)
  have h2 := rep_take h1 (k := 1) (by omega)
  have e : (m.drop t).take 1 = [m.getD t []] := by
    rw [get_of (by omega), List.drop_eq_getElem_cons (by omega)]
    rfl
  rw [e] at h2
  exact h2

/-- What 'make([]int, n)' lays. -/
theorem row_made (w : World) (n : Nat) (hn : n ≤ 100000) : rowS.rep (w.alloc (.cells (madeCells #[.int .i64 0] n) 3)) (w.heap.size ≤ ·) [.slice (some ⟨w.heap.size, 0, none⟩) n n] (List.replicate n 0) :=
  (Row.made (e := 3) w n).rep (Nat.le_refl _) (by unfold maxLen; omega) (fun b off h => by injection h with h; injection h with h1 h2 h3; subst h1; exact Nat.le_refl _)

namespace Md
theorem still_all {dim : Int} {ls : List Ly} {ts : List (List Int)} (h : Right dim ls) (ht : TRight dim ts) : Right dim (ls.map stillL) ∧ forward (ls.map stillL) ts = ts := by
  obtain ⟨n, rfl⟩ : ∃ n : Nat, dim = n := ⟨dim.toNat, by have := h.1; omega⟩
  refine ⟨⟨h.1, h.2.1, by rw [List.length_map]; exact h.2.2.1, by rw [List.length_map]; exact h.2.2.2.1, fun l hl => ?_⟩, still_forward h.2.2.2.2 ht⟩
  obtain ⟨x, hx, rfl⟩ := List.mem_map.1 hl
  exact stillL_right (h.2.2.2.2 x hx)
theorem wides_take (ls : List Ly) {k : Nat} (h : k < ls.length) {l : Ly} (hE : ls.getD k ly0 = l) : (ls.map wideL).take k ++ [wideL l] = (ls.map wideL).take (k + 1) := by
  rw [List.take_succ_eq_append_getElem (by rw [List.length_map]; exact h), List.getElem_map, ← hE, get_of h]
theorem wides_right {dim : Int} {ls : List Ly} (h : Right dim ls) : Right dim (ls.map wideL) :=
  ⟨h.1, h.2.1, by rw [List.length_map]; exact h.2.2.1, by rw [List.length_map]; exact h.2.2.2.1, fun l hl => by obtain ⟨x, hx, rfl⟩ := List.mem_map.1 hl; exact wideL_right (h.2.2.2.2 x hx)⟩
theorem stills_take (ls : List Ly) {k : Nat} (h : k < ls.length) {l : Ly} (hE : ls.getD k ly0 = l) : (ls.map stillL).take k ++ [stillL l] = (ls.map stillL).take (k + 1) := by
  rw [List.take_succ_eq_append_getElem (by rw [List.length_map]; exact h), List.getElem_map, ← hE, get_of h]
theorem stillX_take (xs : List Xp) {k : Nat} (h : k < xs.length) {x : Xp} (hE : xs.getD k xp0 = x) : (xs.map stillX).take k ++ [stillX x] = (xs.map stillX).take (k + 1) := by
  rw [List.take_succ_eq_append_getElem (by rw [List.length_map]; exact h), List.getElem_map, ← hE, get_of h]
end Md

end Go.Proofs.YtfidgcanolegfaaGreat
