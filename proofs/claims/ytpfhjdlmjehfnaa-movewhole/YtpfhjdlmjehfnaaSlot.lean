/- Variables of a struct's type as blocks, what is written into them, and slices that are cut (no program in sight). -/
import Derived.Test.YtpfhjdlmjehfnaaKit
import Derived.Lib.SmallJoins
import Derived.Laws.ResultCell
import Derived.Laws.Rows
namespace Go.Proofs.Ytpfhjdlmjehfnaa
open Go.ChangeShapes Go.WideShapes Go.ChangeAt Go.RowKit

/-- A variable of a struct's or an array's type: block b holds the cells cs. -/
def Box (u : World) (b : Nat) (t : TypeId) (cs : Array Value) : Prop := u.heap[b]? = some (.cells cs t (0, 0))
section
variable {u u' : World} {b : Nat} {t : TypeId} {cs : Array Value}
theorem Box.lt (h : Box u b t cs) : b < u.heap.size := (Array.getElem?_eq_some_iff.1 h).1
theorem Box.cell (h : Box u b t cs) (i : Nat) {v : Value} (hv : cs[i]? = some v) : u.cell? ⟨b, i, none⟩ = some v := (Joins.cell_of_block h i).trans hv
theorem Box.free (h : Box u b t cs) (i : Nat) : u.frozen? ⟨b, i, none⟩ = false := Joins.unfrozen_of_block h i
theorem Box.keep (h : Box u b t cs) (hb : Below u.heap.size u u') : Box u' b t cs := (hb.block b h.lt).trans h
theorem Box.below (h : Box u b t cs) {B : Nat} (hb : Below B u u') (hB : b < B) : Box u' b t cs := (hb.block b hB).trans h
theorem Box.grown (h : Box u b t cs) {row : Option Nat} (hg : u.grownBy u' row) (hr : some b ≠ row) : Box u' b t cs := (hg.block b h.lt hr).trans h
theorem Box.set (h : Box u b t cs) (i : Nat) (v : Value) : Box (u.setCell ⟨b, i, none⟩ v) b t (cs.setIfInBounds i v) := Joins.block_setCell h v
theorem Box.other (h : Box u b t cs) {b2 i : Nat} (v : Value) (hne : b ≠ b2) : Box (u.setCell ⟨b2, i, none⟩ v) b t cs := (Below.heap_setCell u _ v b hne).trans h
theorem Box.new (u : World) (t : TypeId) (cs : Array Value) : Box (u.alloc (.cells cs t)) u.heap.size t cs := heap_alloc_new u _
theorem Box.draw (h : Box u b t cs) : Box u.drew b t cs := h
end

theorem bel_put {B : Nat} {a w : World} (h : Below B a w) {b i : Nat} (hb : B ≤ b) (v : Value) : Below B a (w.setCell ⟨b, i, none⟩ v) := h.setCell hb v

theorem Own.high {k : IntKind} {w : World} {base : Nat} {e : TypeId} {a : Option Addr} {n c : Nat} {xs : List Int} (h : Own (intS k) w base e (.slice a n c) xs) : (sliceS (intS k)).rep w (base ≤ ·) [.slice a n c] xs := by
  obtain ⟨_, hc, hm⟩ := sliceS_len h.is
  exact (Row.of_rep h.is).rep hc hm (fun b off hb => by subst hb; exact (h.lt b rfl).1)
theorem grown_set (u : World) (b i : Nat) (v : Value) : u.grownBy (u.setCell ⟨b, i, none⟩ v) (some b) := by
  have h : Below b u (u.setCell ⟨b, i, none⟩ v) := bel_put (Below.refl _ _) (Nat.le_refl _) v
  exact ⟨h.os, h.tape, h.output, h.size, fun k hk hne => Below.heap_setCell u _ v k (fun e => hne (by rw [e]))⟩
theorem grown_refl (u : World) (r : Option Nat) : u.grownBy u r := ⟨rfl, rfl, rfl, Nat.le_refl _, fun _ _ _ => rfl⟩
theorem grown_then {u v w : World} {r : Option Nat} (h : u.grownBy v r) (k : v.grownBy w r) : u.grownBy w r := ⟨k.os.trans h.os, k.tape.trans h.tape, k.output.trans h.output, Nat.le_trans h.size k.size, fun j hj hne => (k.block j (Nat.lt_of_lt_of_le hj h.size) hne).trans (h.block j hj hne)⟩

/-- A function whose results are a struct and one more, the struct in a variable. -/
theorem ret_var {P : Program} {fn : Func} {R : Ending → World → Prop} {a : Act} {u : World} {b : Nat} {t : TypeId} {fs : Array Field} {cs : Array Value} {p q : Tmp} {v2 : Value} {k : Nat} (hu : P.underlying t = some (.struct fs)) (hi : (P.info? t).map (·.size) = some k)
    (hres : fn.results = #[.cell p t, .tmp q]) (hd : a.defers = []) (hp : a.tmps.getD p undef = .pointer (some ⟨b, 0, none⟩)) (hq : a.tmps.getD q undef = v2) (hB : Box u b t cs) (hk : cs.size = k) (hR : R (.returned (.tuple #[.agg cs, v2])) u) : bodyPost P fn R .ret a u := by
  have hld := run_loadVar_row (P := P) u b t t cs (0, 0) _ hB hu rfl (by rw [hi, hk])
  refine bodyPost_ret (v := .tuple #[.agg cs, v2]) ?_ hd hR
  rw [results_cell_tmp hres, hp, hq]
  simp [asAddr, Result.andThen, hld]

/-- A function whose one result is a struct in a variable. -/
theorem ret_one {P : Program} {fn : Func} {R : Ending → World → Prop} {a : Act} {u : World} {b : Nat} {t : TypeId} {fs : Array Field} {cs : Array Value} {p : Tmp} {k : Nat} (hu : P.underlying t = some (.struct fs)) (hi : (P.info? t).map (·.size) = some k)
    (hres : fn.results = #[.cell p t]) (hd : a.defers = []) (hp : a.tmps.getD p undef = .pointer (some ⟨b, 0, none⟩)) (hB : Box u b t cs) (hk : cs.size = k) (hR : R (.returned (.agg cs)) u) : bodyPost P fn R .ret a u := by
  have hld := run_loadVar_row (P := P) u b t t cs (0, 0) _ hB hu rfl (by rw [hi, hk])
  refine bodyPost_ret (v := .agg cs) ?_ hd hR
  have hp' : a.tmps[p]?.getD undef = .pointer (some ⟨b, 0, none⟩) := by simpa using hp
  simp only [results, hres]
  simp [asAddr, hp', hld]

/-! ### Variables of two cells -/
theorem Box.all2 {u : World} {b : Nat} {t : TypeId} {p0 p1 : Value} (h : Box u b t #[p0, p1]) (v0 v1 : Value) : Box ((u.setCell ⟨b, 0, none⟩ v0).setCell ⟨b, 1, none⟩ v1) b t #[v0, v1] := by
  have := (h.set 0 v0).set 1 v1
  simp only [List.setIfInBounds_toArray, List.set_cons_zero, List.set_cons_succ] at this
  exact this
theorem Box.all2_other {u : World} {b b2 : Nat} {t : TypeId} {cs : Array Value} (h : Box u b t cs) (hne : b ≠ b2) (v0 v1 : Value) : Box ((u.setCell ⟨b2, 0, none⟩ v0).setCell ⟨b2, 1, none⟩ v1) b t cs := (h.other v0 hne).other v1 hne
theorem bel_all2 {B : Nat} {a u : World} (h : Below B a u) {b : Nat} (hb : B ≤ b) (v0 v1 : Value) : Below B a ((u.setCell ⟨b, 0, none⟩ v0).setCell ⟨b, 1, none⟩ v1) := bel_put (bel_put h hb v0) hb v1
theorem all2_block (u : World) {b k : Nat} (hk : k ≠ b) (v0 v1 : Value) : ((u.setCell ⟨b, 0, none⟩ v0).setCell ⟨b, 1, none⟩ v1).heap[k]? = u.heap[k]? :=
  (Below.heap_setCell _ _ v1 k hk).trans (Below.heap_setCell u _ v0 k hk)
theorem Shape.all2 {α : Type} {A : Shape α} {u : World} {F : Nat → Prop} {cs : List Value} {x : α} {b : Nat} (h : A.rep u F cs x) (hF : ∀ k, F k → k < u.heap.size → k ≠ b) (v0 v1 : Value) : A.rep ((u.setCell ⟨b, 0, none⟩ v0).setCell ⟨b, 1, none⟩ v1) F cs x :=
  A.keep h fun k hk hlt => all2_block u (hF k hk hlt) v0 v1

/-! ### Slices that are cut -/
section
variable {α : Type} {A : Shape α} {w : World} {F : Nat → Prop} {a : Option Addr} {n c : Nat} {xs : List α}
theorem all_take {css : List (List Value)} (h : A.all w F css xs) (k : Nat) : A.all w F (css.take k) (xs.take k) := by
  refine ⟨by rw [List.length_take, List.length_take, h.1], fun j d x h1 h2 => ?_⟩
  rw [List.getElem?_take] at h1 h2
  split at h1
  · rename_i hj; rw [if_pos hj] at h2; exact h.2 j d x h1 h2
  · cases h1
theorem all_drop {css : List (List Value)} (h : A.all w F css xs) (k : Nat) : A.all w F (css.drop k) (xs.drop k) := by
  refine ⟨by rw [List.length_drop, List.length_drop, h.1], fun j d x h1 h2 => ?_⟩
  rw [List.getElem?_drop] at h1 h2
  exact h.2 _ d x h1 h2
/-- 's[:k]' -/
theorem rep_take (h : (sliceS A).rep w F [.slice a n c] xs) {k : Nat} (hk : k ≤ n) : (sliceS A).rep w F [.slice a k c] (xs.take k) := by
  obtain ⟨hl, hc1, hc2⟩ := sliceS_len h
  obtain ⟨a', c', css, he, h1, h2, h3, h4⟩ := h
  simp at he
  obtain ⟨rfl, _, rfl⟩ := he
  have hlk : (xs.take k).length = k := by rw [List.length_take]; omega
  refine ⟨a, c, css.take k, by rw [hlk], by omega, h2, all_take h3 k, ?_⟩
  rcases h4 with h0 | ⟨b, off, rfl, hF, hb, hc⟩
  · refine .inl ?_
    have e : css.flatten = (css.take k).flatten ++ (css.drop k).flatten := by rw [← List.flatten_append, List.take_append_drop]
    rw [e] at h0
    exact (List.append_eq_nil_iff.1 h0).1
  · refine .inr ⟨b, off, rfl, hF, hb, fun j v hv => hc j v ?_⟩
    have e : css.flatten = (css.take k).flatten ++ (css.drop k).flatten := by rw [← List.flatten_append, List.take_append_drop]
    rw [e, List.getElem?_append_left (List.getElem?_eq_some_iff.1 hv).1]
    exact hv
/-- 's[k:]' -/
theorem rep_drop (h : (sliceS A).rep w F [.slice a n c] xs) {k : Nat} (hk : k ≤ n) : (sliceS A).rep w F [.slice (if c = k then a else a.map (·.add (k * A.size))) (n - k) (c - k)] (xs.drop k) := by
  obtain ⟨hl, hc1, hc2⟩ := sliceS_len h
  obtain ⟨a', c', css, he, h1, h2, h3, h4⟩ := h
  simp at he
  obtain ⟨rfl, _, rfl⟩ := he
  have hlk : (xs.drop k).length = n - k := by rw [List.length_drop]; omega
  have hcl := flat_len (fun d hd => Shape.all_len (all_take h3 k) d hd)
  have hck : (css.take k).length = k := by rw [List.length_take, h3.1]; omega
  rw [hck] at hcl
  refine ⟨_, c - k, css.drop k, by rw [hlk], by omega, by omega, all_drop h3 k, ?_⟩
  have e : css.flatten = (css.take k).flatten ++ (css.drop k).flatten := by rw [← List.flatten_append, List.take_append_drop]
  by_cases hn : k = n
  · refine .inl ?_
    rw [List.drop_of_length_le (by rw [h3.1]; omega)]
    rfl
  rcases h4 with h0 | ⟨b, off, rfl, hF, hb, hc⟩
  · refine .inl ?_
    rw [e] at h0
    exact (List.append_eq_nil_iff.1 h0).2
  · refine .inr ⟨b, off + k * A.size, ?_, hF, hb, fun j v hv => ?_⟩
    · rw [if_neg (by omega)]
      simp [Addr.add_lit]
    · rw [Nat.add_assoc]
      refine hc (k * A.size + j) v ?_
      rw [e, List.getElem?_append_right (by omega), hcl, Nat.add_sub_cancel_left]
      exact hv
end

end Go.Proofs.Ytpfhjdlmjehfnaa
