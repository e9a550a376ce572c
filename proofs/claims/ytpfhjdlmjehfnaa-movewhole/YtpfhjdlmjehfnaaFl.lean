/- Pairs of numbers in memory, as one row of numbers, and slots on lists (no program in sight). -/
import Derived.Test.YtpfhjdlmjehfnaaStruct
import Derived.Test.YtpfhjdlmjehfnaaSlot
import Derived.Laws.OwnMore
namespace Go.Proofs.Ytpfhjdlmjehfnaa
open Go.ChangeShapes Go.WideShapes Go.ChangeAt Go.RowKit

/-! ### Pairs in memory -/
abbrev Pr := Int × Int × Unit
abbrev prS : Shape Pr := consS (intS .i64) (consS (intS .i64) noneS)
abbrev prsS : Shape (List Pr) := sliceS prS

/-- 'a' leads in w to n pairs, the numbers l one behind the other (where n is 0: to whatever). -/
def Flat (w : World) (a : Option Addr) (n : Nat) (l : List Int) : Prop :=
  l.length = n * 2 ∧ (n = 0 ∨ ∃ b off, a = some ⟨b, off, none⟩ ∧ b < w.heap.size ∧ ∀ i, i < n * 2 → w.cell? ⟨b, off + i, none⟩ = some (.int .i64 (l.getD i 0)))
section
variable {w w' : World} {a : Option Addr} {n : Nat} {l : List Int}
theorem Flat.len (h : Flat w a n l) : l.length = n * 2 := h.1
theorem Flat.keep (h : Flat w a n l) (hb : Below w.heap.size w w') : Flat w' a n l := by
  refine ⟨h.1, ?_⟩
  rcases h.2 with h0 | ⟨b, off, ha, hlt, hc⟩
  · exact .inl h0
  · exact .inr ⟨b, off, ha, Nat.lt_of_lt_of_le hlt hb.size, fun i hi => (hb.cell (by exact hlt)).trans (hc i hi)⟩
/-- Pair j. -/
theorem Flat.at (h : Flat w a n l) {j : Nat} (hj : j < n) : ∃ b off, a = some ⟨b, off, none⟩ ∧ b < w.heap.size ∧ w.cell? ⟨b, off + j * 2, none⟩ = some (.int .i64 (l.getD (j * 2) 0)) ∧ w.cell? ⟨b, off + j * 2 + 1, none⟩ = some (.int .i64 (l.getD (j * 2 + 1) 0)) := by
  rcases h.2 with h0 | ⟨b, off, ha, hlt, hc⟩
  · omega
  · exact ⟨b, off, ha, hlt, hc (j * 2) (by omega), by have := hc (j * 2 + 1) (by omega); rwa [← Nat.add_assoc] at this⟩
/-- Number k of pair j. -/
theorem Flat.one (h : Flat w a n l) {j k : Nat} (hj : j < n) (hk : k < 2) : ∃ b off, a = some ⟨b, off, none⟩ ∧ b < w.heap.size ∧ w.cell? ⟨b, off + j * 2 + k, none⟩ = some (.int .i64 (l.getD (j * 2 + k) 0)) := by
  rcases h.2 with h0 | ⟨b, off, ha, hlt, hc⟩
  · omega
  · exact ⟨b, off, ha, hlt, by have := hc (j * 2 + k) (by omega); rwa [← Nat.add_assoc] at this⟩
/-- 's[:k]' -/
theorem Flat.take (h : Flat w a n l) {k : Nat} (hk : k ≤ n) : Flat w a k (l.take (k * 2)) := by
  refine ⟨by rw [List.length_take, h.1]; omega, ?_⟩
  rcases h.2 with h0 | ⟨b, off, ha, hlt, hc⟩
  · exact .inl (by omega)
  · refine .inr ⟨b, off, ha, hlt, fun i hi => ?_⟩
    rw [hc i (by omega), List.getD_eq_getElem?_getD, List.getD_eq_getElem?_getD, List.getElem?_take, if_pos hi]
/-- Out of one block. -/
theorem Flat.of_block {g : Nat} {e : TypeId} {cur : Array Value} (hl : l.length = n * 2) (hg : w.heap[g]? = some (.cells cur e (0, 0))) (hc : cur.toList = l.map (Value.int .i64)) : Flat w (some ⟨g, 0, none⟩) n l := by
  refine ⟨hl, .inr ⟨g, 0, rfl, (Array.getElem?_eq_some_iff.1 hg).1, fun j hj => ?_⟩⟩
  rw [cell_of_row w g (0 + j) cur e (0, 0) hg]
  have hlj : l[j]? = some (l.getD j 0) := by rw [List.getD_eq_getElem?_getD, List.getElem?_eq_getElem (by omega)]; rfl
  have : cur.toList[j]? = some (.int .i64 (l.getD j 0)) := by rw [hc, List.getElem?_map, hlj]; rfl
  simpa using this
/-- Out of pairs that the call owns. -/
theorem Flat.of_owns {base g c : Nat} {e : TypeId} (h : w.ownsRow base e 2 (.slice (some ⟨g, 0, none⟩) n c) n (l.map (Value.int .i64))) : Flat w (some ⟨g, 0, none⟩) n l := by
  have hl : l.length = n * 2 := by simpa using h.1
  refine ⟨hl, .inr ⟨g, 0, rfl, (h.lt g rfl).2, fun j hj => ?_⟩⟩
  rw [h.cellAt (0 + j) (by omega), Nat.zero_add, List.getElem?_map, List.getD_eq_getElem?_getD, List.getElem?_eq_getElem (by omega)]
  rfl
end

/-- Pairs as one row. -/
def flat (m : List Pr) : List Int := m.flatMap fun x => [x.1, x.2.1]
theorem flat_length (m : List Pr) : (flat m).length = m.length * 2 := by
  induction m with
  | nil => rfl
  | cons x m ih => show (x.1 :: x.2.1 :: flat m).length = _; simp only [List.length_cons, ih]; omega
theorem pr_is {w : World} {F : Nat → Prop} {cs : List Value} {x : Pr} (h : prS.rep w F cs x) : cs = [.int .i64 x.1, .int .i64 x.2.1] := by
  obtain ⟨d, rfl, h2⟩ := consS_int h
  obtain ⟨d', rfl, h3⟩ := consS_int h2
  rw [noneS_nil h3]
theorem prs_flat {w : World} {F : Nat → Prop} {css : List (List Value)} {m : List Pr} (h : prS.all w F css m) : css.flatten = (flat m).map (Value.int .i64) := by
  induction m generalizing css with
  | nil => have := List.eq_nil_of_length_eq_zero h.1; subst this; rfl
  | cons x m ih =>
    match css, h with
    | [], h => exact absurd h.1 (by simp)
    | c :: css, h =>
      have h1 := pr_is (h.2 0 c x rfl rfl)
      have h2 := ih (css := css) ⟨by simpa using h.1, fun j d y hd hy => h.2 (j + 1) d y (by simpa using hd) (by simpa using hy)⟩
      rw [List.flatten_cons, h1, h2]
      rfl
theorem Flat.of_rep {w : World} {F : Nat → Prop} {a : Option Addr} {n c : Nat} {m : List Pr} (h : prsS.rep w F [.slice a n c] m) : Flat w a n (flat m) := by
  obtain ⟨a', c', css, he, h1, h2, hall, hcell⟩ := h
  simp at he
  obtain ⟨rfl, rfl, rfl⟩ := he
  refine ⟨flat_length m, ?_⟩
  rw [prs_flat hall] at hcell
  rcases hcell with h0 | ⟨b, off, ha, _, hb, hc⟩
  · left
    have := flat_length m
    have h3 : (flat m).length = 0 := by
      have h4 := congrArg List.length h0
      rw [List.length_map] at h4
      exact h4
    omega
  · refine .inr ⟨b, off, ha, hb, fun i hi => hc i _ ?_⟩
    rw [List.getElem?_map, List.getD_eq_getElem?_getD, List.getElem?_eq_getElem (by rw [flat_length]; exact hi)]
    rfl
theorem flat_fit {m : List Pr} (h : ∀ x ∈ m, (Lit.int .i64 x.1).wf = true ∧ (Lit.int .i64 x.2.1).wf = true ∧ True) : ∀ x ∈ flat m, (Lit.int .i64 x).wf = true := by
  intro x hx
  obtain ⟨p, hp, hx⟩ := List.mem_flatMap.1 hx
  have := h p hp
  simp only [List.mem_cons, List.not_mem_nil, or_false] at hx
  rcases hx with rfl | rfl
  · exact this.1
  · exact this.2.1

theorem made_pairs (n : Nat) : (madeCells #[.int .i64 0, .int .i64 0] (n * 2)).toList = (List.replicate (n * 2) (0 : Int)).map (Value.int .i64) := by
  apply List.ext_getElem?
  intro i
  by_cases hi : i < n * 2
  · have h3 : (madeCells #[.int .i64 0, .int .i64 0] (n * 2)).toList[i]? = some (#[Value.int .i64 0, .int .i64 0][i % 2]!) := by simp [madeCells, hi]
    rw [h3]
    rcases (by omega : i % 2 = 0 ∨ i % 2 = 1) with h | h <;> simp [h, hi]
  · rw [List.getElem?_eq_none (by rw [Array.length_toList, size_madeCells]; omega), List.getElem?_eq_none (by simp; omega)]

/-! ### Slots on lists -/
namespace Sl
theorem num_mem {l : List Int} {i : Nat} (h : i < l.length) : l.getD i 0 ∈ l := by rw [List.getD_eq_getElem?_getD, List.getElem?_eq_getElem h]; exact List.getElem_mem h
/-- How many of the first i numbers are x. -/
def cnt (l : List Int) (x : Int) (i : Nat) : Nat := (l.take i).count x
theorem cnt_zero (l : List Int) (x : Int) : cnt l x 0 = 0 := by simp [cnt]
theorem cnt_step {l : List Int} (x : Int) {i : Nat} (h : i < l.length) : cnt l x (i + 1) = cnt l x i + (if l.getD i 0 = x then 1 else 0) := by
  unfold cnt
  rw [take_snoc l i h, List.count_append]
  by_cases e : l.getD i 0 = x
  · rw [if_pos e, e]; simp
  · rw [if_neg e, List.count_cons_of_ne e]; simp
theorem cnt_yes {l : List Int} {x : Int} {i : Nat} (h : i < l.length) (e : l.getD i 0 = x) : cnt l x (i + 1) = cnt l x i + 1 := by rw [cnt_step x h, if_pos e]
theorem cnt_no {l : List Int} {x : Int} {i : Nat} (h : i < l.length) (e : l.getD i 0 ≠ x) : cnt l x (i + 1) = cnt l x i := by rw [cnt_step x h, if_neg e]; rfl
theorem cnt_le (l : List Int) (x : Int) (i : Nat) : cnt l x i ≤ i := by
  unfold cnt
  have h1 := List.count_le_length (a := x) (l := l.take i)
  rw [List.length_take] at h1
  omega
theorem cnt_mono {l : List Int} {x : Int} {i j : Nat} (h : i ≤ j) (hj : j ≤ l.length) : cnt l x i ≤ cnt l x j := by
  induction j with
  | zero => have : i = 0 := by omega
            subst this; exact Nat.le_refl _
  | succ j ih =>
    by_cases e : i = j + 1
    · subst e; exact Nat.le_refl _
    · have h1 := ih (by omega) (by omega)
      have h2 := cnt_step (l := l) x (i := j) (by omega)
      omega
theorem cnt_take {l : List Int} {x : Int} {i k : Nat} (h : i ≤ k) : cnt (l.take k) x i = cnt l x i := by
  unfold cnt
  rw [List.take_take, Nat.min_eq_left h]

/-- The slot of part i, or -1. -/
def slot (l : List Int) (E C : Int) (i : Nat) : Int := if 0 ≤ l.getD i 0 ∧ l.getD i 0 < E ∧ (cnt l (l.getD i 0) i : Int) < C then (cnt l (l.getD i 0) i : Int) else -1
/-- Those of the first i parts. -/
def upto (l : List Int) (E C : Int) (i : Nat) : List Int := (List.range i).map (slot l E C)
/-- All. -/
def slots (l : List Int) (E C : Int) : List Int := upto l E C l.length
theorem upto_len (l : List Int) (E C : Int) (i : Nat) : (upto l E C i).length = i := by simp [upto]
theorem upto_succ (l : List Int) (E C : Int) (i : Nat) : upto l E C (i + 1) = upto l E C i ++ [slot l E C i] := by simp [upto, List.range_succ]
theorem slots_len (l : List Int) (E C : Int) : (slots l E C).length = l.length := upto_len _ _ _ _
theorem slots_at {l : List Int} (E C : Int) {i : Nat} (h : i < l.length) : (slots l E C).getD i 0 = slot l E C i := by
  unfold slots upto
  rw [List.getD_eq_getElem?_getD, List.getElem?_map, List.getElem?_range h]
  rfl

/-- What is given to x by the first i parts. -/
def giv (l : List Int) (E C : Int) (i : Nat) (x : Int) : Int := if 0 ≤ x ∧ x < E then min (cnt l x i : Int) (max C 0) else 0
theorem giv_zero (l : List Int) (E C x : Int) : giv l E C 0 x = 0 := by
  unfold giv
  split
  · rw [cnt_zero]; omega
  · rfl
theorem giv_le (l : List Int) (E C x : Int) (i : Nat) : 0 ≤ giv l E C i x ∧ giv l E C i x ≤ i := by
  unfold giv
  have := cnt_le l x i
  split <;> omega
theorem giv_other {l : List Int} {E C : Int} {i : Nat} (h : i < l.length) {x : Int} (hx : x ≠ l.getD i 0) : giv l E C (i + 1) x = giv l E C i x := by
  unfold giv
  rw [cnt_no h (fun e => hx e.symm)]
theorem giv_yes {l : List Int} {E C : Int} {i : Nat} (h : i < l.length) {x : Int} (hx : l.getD i 0 = x) (h0 : 0 ≤ x) (h1 : x < E) (h2 : giv l E C i x < C) : giv l E C (i + 1) x = giv l E C i x + 1 := by
  unfold giv at *
  rw [if_pos ⟨h0, h1⟩] at *
  rw [cnt_yes h hx]
  rw [if_pos ⟨h0, h1⟩]
  omega
theorem giv_no {l : List Int} {E C : Int} {i : Nat} (h : i < l.length) {x : Int} (hx : l.getD i 0 = x) (h2 : ¬ (0 ≤ x ∧ x < E ∧ giv l E C i x < C)) : giv l E C (i + 1) x = giv l E C i x := by
  unfold giv at *
  by_cases hin : 0 ≤ x ∧ x < E
  · rw [if_pos hin] at *
    rw [if_pos hin, cnt_yes h hx]
    omega
  · rw [if_neg hin, if_neg hin]
theorem slot_yes {l : List Int} {E C : Int} {i : Nat} {x : Int} (hx : l.getD i 0 = x) (h0 : 0 ≤ x) (h1 : x < E) (h2 : giv l E C i x < C) : slot l E C i = giv l E C i x := by
  have e : giv l E C i x = min (cnt l x i : Int) (max C 0) := by unfold giv; rw [if_pos ⟨h0, h1⟩]
  rw [e] at h2 ⊢
  unfold slot
  rw [hx, if_pos (by omega)]
  omega
theorem slot_no {l : List Int} {E C : Int} {i : Nat} {x : Int} (hx : l.getD i 0 = x) (h2 : ¬ (0 ≤ x ∧ x < E ∧ giv l E C i x < C)) : slot l E C i = -1 := by
  unfold slot
  rw [hx]
  by_cases hin : 0 ≤ x ∧ x < E
  · have e : giv l E C i x = min (cnt l x i : Int) (max C 0) := by unfold giv; rw [if_pos hin]
    rw [e] at h2
    rw [if_neg (by omega)]
  · rw [if_neg (by omega)]

/-- Filled from the head on. -/
theorem put_one {done : List Int} {n : Nat} {y x : Int} (h : done.length < n) : ((fill done n).set done.length y).set done.length x = fill (done ++ [x]) n := by
  rw [List.set_set, fill_set done n x h]

/-! The laws. -/
theorem slot_ge {l : List Int} {E C : Int} {i : Nat} : -1 ≤ slot l E C i := by unfold slot; split <;> omega
theorem slot_room {l : List Int} {E C : Int} {i : Nat} (h : 0 ≤ slot l E C i) : slot l E C i < C := by
  unfold slot at *
  split at h
  · rename_i h2; rw [if_pos h2]; exact h2.2.2
  · omega
theorem slot_is {l : List Int} {E C : Int} {i : Nat} (h : 0 ≤ slot l E C i) : slot l E C i = (cnt l (l.getD i 0) i : Int) := by
  unfold slot at *
  split at h
  · rename_i h2; rw [if_pos h2]
  · omega
theorem slot_unlike {l : List Int} {E C : Int} {i j : Nat} (hj : j < i) (hi : i < l.length) (h : 0 ≤ slot l E C i) (he : slot l E C i = slot l E C j) : l.getD i 0 ≠ l.getD j 0 := by
  intro hx
  have h1 := slot_is h
  have h2 := slot_is (l := l) (E := E) (C := C) (i := j) (by omega)
  have h3 := cnt_yes (l := l) (x := l.getD i 0) (i := j) (by omega) hx.symm
  have h4 := cnt_mono (l := l) (x := l.getD i 0) (i := j + 1) (j := i) (by omega) (by omega)
  rw [← hx] at h2
  omega
theorem slot_take {l : List Int} {E C : Int} {i k : Nat} (h : i < k) : slot (l.take k) E C i = slot l E C i := by
  have e : (l.take k).getD i 0 = l.getD i 0 := by rw [List.getD_eq_getElem?_getD, List.getD_eq_getElem?_getD, List.getElem?_take, if_pos h]
  unfold slot
  rw [e, cnt_take (by omega)]
theorem slot_more {l : List Int} {E C C' : Int} {i : Nat} (h : 0 ≤ slot l E C i) (hC : C ≤ C') : slot l E C' i = slot l E C i := by
  have h1 := slot_room h
  have h2 := slot_is h
  unfold slot at h ⊢
  split at h
  · rename_i h3
    rw [if_pos h3, if_pos (by omega)]
  · omega
theorem slot_all {l : List Int} {E C : Int} {i : Nat} (hC : (i : Int) < C) : 0 ≤ slot l E C i ↔ 0 ≤ l.getD i 0 ∧ l.getD i 0 < E := by
  have := cnt_le l (l.getD i 0) i
  unfold slot
  by_cases h : 0 ≤ l.getD i 0 ∧ l.getD i 0 < E
  · rw [if_pos (by omega)]
    exact ⟨fun _ => h, fun _ => by omega⟩
  · rw [if_neg (by omega)]
    exact ⟨fun h2 => by omega, fun h2 => absurd h2 h⟩
theorem slot_full (l : List Int) (E : Int) (i : Nat) : slot l E 0 i = -1 := by unfold slot; rw [if_neg (by omega)]
theorem slot_none (l : List Int) (C : Int) (i : Nat) : slot l 0 C i = -1 := by unfold slot; rw [if_neg (by omega)]
theorem cnt_zeros {n i : Nat} (h : i ≤ n) : cnt (List.replicate n (0 : Int)) 0 i = i := by
  unfold cnt
  rw [List.take_replicate, List.count_replicate_self]
  omega
theorem slot_zeros {n i : Nat} (h : i < n) : slot (List.replicate n (0 : Int)) 1 (n : Int) i = (i : Int) := by
  have e : (List.replicate n (0 : Int)).getD i 0 = 0 := by rw [List.getD_eq_getElem?_getD, List.getElem?_replicate, if_pos h]; rfl
  unfold slot
  rw [e, cnt_zeros (by omega), if_pos (by omega)]
end Sl

end Go.Proofs.Ytpfhjdlmjehfnaa
