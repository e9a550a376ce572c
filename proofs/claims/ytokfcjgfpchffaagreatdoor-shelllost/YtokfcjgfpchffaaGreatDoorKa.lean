/- 10 texts as one, in their order: Row, Shape, Struct, Kit, Slot, Dx, Ak, Rk, Ord, Lo. -/
import Derived.WalkKit
import Derived.ProofKit
import Derived.OpenShut
import Derived.Deep.Draws
import Derived.Deep.Slices
import Derived.Maps.AppendAt
import Derived.Below
import Derived.OwnWalk
import Derived.Deep.OwnRows
import Derived.Deep.AppendLies
import Derived.Deep.RegionWith
import Derived.Deep.RegionLaw
import Derived.Deep.RegionHeld3
import Derived.Deep.DrawnRows
import Derived.Deep.CutRange
import Derived.Deep.QuietTactic
import Derived.BigQuiet
import Derived.Lib.SmallJoins
import Derived.Laws.ResultCell
import Derived.Laws.Rows

/- What it is that a slice of integers reads as a row of numbers, and how that stays when only new memory is written (no program in sight). -/
namespace Go.Proofs.YtokfcjgfpchffaaGreatDoor
open Go.ChangeShapes Go.WideShapes Go.ChangeAt Go.RowKit

/-- What a walk is told of a slice of integers that came in: it is nil; or it leads to a row of 'cap' cells, the numbers 'zs' (the first 'len' are its elements). -/
def IsRow (k : IntKind) (w : World) (a : Option Addr) (len cap : Nat) (zs : List Int) : Prop :=
  (a = none ∧ len = 0 ∧ cap = 0 ∧ zs = []) ∨
  ∃ x, a = some x ∧ len ≤ cap ∧ cap ≤ maxLen ∧ zs.length = cap ∧ (∀ i, i < zs.length → w.cell? (x.add i) = some (.int k (zs.getD i 0))) ∧ ∀ n ∈ zs, (Lit.int k n).wf = true

/-- 'a' leads in w to the n numbers l (where n is 0: to whatever). -/
def Row (k : IntKind) (w : World) (a : Option Addr) (n : Nat) (l : List Int) : Prop :=
  l.length = n ∧ (n = 0 ∨ ∃ b off, a = some ⟨b, off, none⟩ ∧ ∀ j, j < n → w.cell? ⟨b, off + j, none⟩ = some (.int k (l.getD j 0)))

theorem Row.len {k : IntKind} {w : World} {a : Option Addr} {n : Nat} {l : List Int} (h : Row k w a n l) : l.length = n := h.1
theorem Row.nil (k : IntKind) (w : World) (a : Option Addr) : Row k w a 0 [] := ⟨rfl, .inl rfl⟩

theorem Row.keep {k : IntKind} {w w' : World} {a : Option Addr} {n : Nat} {l : List Int} (h : Row k w a n l) (hb : Below w.heap.size w w') : Row k w' a n l := by
  refine ⟨h.1, ?_⟩
  rcases h.2 with h0 | ⟨b, off, ha, hc⟩
  · exact .inl h0
  · exact .inr ⟨b, off, ha, fun j hj => (hb.cell (World.block_lt_of_cell? w _ (hc j hj))).trans (hc j hj)⟩

theorem Row.at {k : IntKind} {w : World} {a : Option Addr} {n : Nat} {l : List Int} (h : Row k w a n l) {j : Nat} (hj : j < n) :
    ∃ b off, a = some ⟨b, off, none⟩ ∧ b < w.heap.size ∧ w.cell? ⟨b, off + j, none⟩ = some (.int k (l.getD j 0)) := by
  rcases h.2 with h0 | ⟨b, off, ha, hc⟩
  · omega
  · exact ⟨b, off, ha, World.block_lt_of_cell? w _ (hc j hj), hc j hj⟩

theorem Row.of_is {k : IntKind} {w : World} {a : Option Addr} {len cap : Nat} {zs : List Int} (h : IsRow k w a len cap zs) : Row k w a len (zs.take len) := by
  rcases h with ⟨rfl, rfl, rfl, rfl⟩ | ⟨x, rfl, hl, hm, hz, hcell, hwz⟩
  · exact ⟨rfl, .inl rfl⟩
  · refine ⟨by simp; omega, ?_⟩
    by_cases h0 : len = 0
    · exact .inl h0
    · obtain ⟨b, off, spot⟩ := x
      have hc := hcell 0 (by omega)
      have hspot : spot = none := by simpa [Addr.add] using World.cell?_spot hc
      subst hspot
      refine .inr ⟨b, off, rfl, fun j hj => ?_⟩
      have hj' := hcell j (by omega)
      have e : (⟨b, off, none⟩ : Addr).add j = ⟨b, off + j, none⟩ := by unfold Addr.add; split <;> simp_all
      rw [e] at hj'
      rw [hj', List.getD_eq_getElem?_getD, List.getD_eq_getElem?_getD, List.getElem?_take, if_pos hj]

theorem wf_of_is {k : IntKind} {w : World} {a : Option Addr} {len cap : Nat} {zs : List Int} (h : IsRow k w a len cap zs) : ∀ n ∈ zs.take len, (Lit.int k n).wf = true := by
  intro n hn
  have hn' := List.mem_of_mem_take hn
  rcases h with ⟨rfl, rfl, rfl, rfl⟩ | ⟨x, rfl, hl, hm, hz, hcell, hwz⟩
  · simp at hn'
  · exact hwz n hn'

/-- Out of a row that the call owns. -/
theorem Row.of_owns {k : IntKind} {w : World} {base : Nat} {e : TypeId} {v : Value} {n : Nat} {l : List Int} (h : w.ownsRow base e 1 v n (l.map (Value.int k))) :
    ∃ a cap, v = .slice a n cap ∧ cap ≤ maxLen ∧ Row k w a n l := by
  have hl : l.length = n := by simpa using h.1
  rcases h.2 with ⟨rfl, rfl⟩ | ⟨g, cap, cur, rfl, hb, hg, hnc, hcm, hcs, htake⟩
  · exact ⟨none, 0, rfl, by simp [maxLen], hl, .inl rfl⟩
  · refine ⟨some ⟨g, 0, none⟩, cap, rfl, hcm, hl, .inr ⟨g, 0, rfl, fun j hj => ?_⟩⟩
    rw [cell_of_row w g (0 + j) cur e (0, 0) hg]
    have hx : (cur.toList.take (n * 1))[j]? = (l.map (Value.int k))[j]? := by rw [htake]
    rw [List.getElem?_take, if_pos (by omega), List.getElem?_map] at hx
    have hlj : l[j]? = some (l.getD j 0) := by rw [List.getD_eq_getElem?_getD, List.getElem?_eq_getElem (by omega)]; rfl
    rw [hlj] at hx
    simpa using hx

/-- Out of one block, written out. -/
theorem Row.of_block {k : IntKind} {w : World} {g : Nat} {e : TypeId} {cur : Array Value} {l : List Int} (hg : w.heap[g]? = some (.cells cur e (0, 0))) (hc : cur.toList = l.map (Value.int k)) :
    Row k w (some ⟨g, 0, none⟩) l.length l := by
  refine ⟨rfl, .inr ⟨g, 0, rfl, fun j hj => ?_⟩⟩
  rw [cell_of_row w g (0 + j) cur e (0, 0) hg]
  have hlj : l[j]? = some (l.getD j 0) := by rw [List.getD_eq_getElem?_getD, List.getElem?_eq_getElem (by omega)]; rfl
  have : cur.toList[j]? = some (.int k (l.getD j 0)) := by rw [hc, List.getElem?_map, hlj]; rfl
  simpa using this

theorem bel_drewN {B : Nat} {a w : World} (h : Below B a w) (n : Nat) : Below B a (w.drewN n) := ⟨h.os, h.tape, h.output, h.size, h.block⟩

/-- A callee that leaves the world as it was, met in a walk: the world keeps its name. -/
theorem by_same {P : Program} {f : FuncId} {args : Array Value} {w : World} {r : Ending} {Q : Ending → World → Prop} (h : Calls P f args w fun e w' => e = r ∧ w' = w) (hq : Q r w) : Calls P f args w Q :=
  h.mono (by rintro e w' ⟨rfl, rfl⟩; exact hq)

theorem take_snoc (l : List Int) (j : Nat) (h : j < l.length) : l.take (j + 1) = l.take j ++ [l.getD j 0] := by
  rw [List.take_succ_eq_append_getElem h, List.getD_eq_getElem?_getD, List.getElem?_eq_getElem h]; rfl

end Go.Proofs.YtokfcjgfpchffaaGreatDoor

/- How data lie in memory, for slices in slices and the like (no program in sight): a Shape says which cells read as which Lean datum, within which blocks; it stays while those blocks stay. -/
namespace Go.Proofs.YtokfcjgfpchffaaGreatDoor
open Go.ChangeShapes Go.WideShapes Go.ChangeAt Go.RowKit

/-- 'a' leads to the cells vs, in a block of F (where there is none: to whatever). -/
def Cells (w : World) (F : Nat → Prop) (a : Option Addr) (vs : List Value) : Prop :=
  vs = [] ∨ ∃ b off, a = some ⟨b, off, none⟩ ∧ F b ∧ b < w.heap.size ∧ ∀ j v, vs[j]? = some v → w.cell? ⟨b, off + j, none⟩ = some v

theorem lt_of_same {w w' : World} {b : Nat} (hb : b < w.heap.size) (h : w'.heap[b]? = w.heap[b]?) : b < w'.heap.size := by
  rw [Array.getElem?_eq_getElem hb] at h
  exact (Array.getElem?_eq_some_iff.1 h).1

theorem Cells.keep {w w' : World} {F : Nat → Prop} {a : Option Addr} {vs : List Value} (h : Cells w F a vs) (hk : ∀ b, F b → b < w.heap.size → w'.heap[b]? = w.heap[b]?) : Cells w' F a vs := by
  rcases h with h0 | ⟨b, off, ha, hF, hb, hc⟩
  · exact .inl h0
  · exact .inr ⟨b, off, ha, hF, lt_of_same hb (hk b hF hb), fun j v hv => (World.cell?_of_block (a := ⟨b, off + j, none⟩) (hk b hF hb)).trans (hc j v hv)⟩
theorem Cells.mono {w : World} {F F' : Nat → Prop} {a : Option Addr} {vs : List Value} (h : Cells w F a vs) (hm : ∀ b, F b → b < w.heap.size → F' b) : Cells w F' a vs := by
  rcases h with h0 | ⟨b, off, ha, hF, hb, hc⟩
  · exact .inl h0
  · exact .inr ⟨b, off, ha, hm b hF hb, hb, hc⟩

structure Shape (α : Type) where
  size : Nat
  rep : World → (Nat → Prop) → List Value → α → Prop
  len : ∀ {w : World} {F : Nat → Prop} {cs : List Value} {x : α}, rep w F cs x → cs.length = size
  one : ∀ {w : World} {F : Nat → Prop} {cs : List Value} {x : α}, rep w F cs x → ∀ u ∈ cs, u.oneCell' = true
  keep : ∀ {w w' : World} {F : Nat → Prop} {cs : List Value} {x : α}, rep w F cs x → (∀ b, F b → b < w.heap.size → w'.heap[b]? = w.heap[b]?) → rep w' F cs x
  mono : ∀ {w : World} {F F' : Nat → Prop} {cs : List Value} {x : α}, rep w F cs x → (∀ b, F b → b < w.heap.size → F' b) → rep w F' cs x

def everywhere (_ : Nat) : Prop := True

theorem Shape.below {α : Type} {A : Shape α} {w w' : World} {F : Nat → Prop} {cs : List Value} {x : α} (h : A.rep w F cs x) (hb : Below w.heap.size w w') : A.rep w' F cs x :=
  A.keep h fun b _ hlt => hb.block b hlt
theorem Shape.any {α : Type} {A : Shape α} {w : World} {F : Nat → Prop} {cs : List Value} {x : α} (h : A.rep w F cs x) : A.rep w everywhere cs x := A.mono h fun _ _ _ => trivial
theorem Shape.low {α : Type} {A : Shape α} {w : World} {F : Nat → Prop} {cs : List Value} {x : α} (h : A.rep w F cs x) : A.rep w (· < w.heap.size) cs x := A.mono h fun _ _ hb => hb

/-- Several, one behind the other. -/
def Shape.all {α : Type} (A : Shape α) (w : World) (F : Nat → Prop) (css : List (List Value)) (xs : List α) : Prop :=
  css.length = xs.length ∧ ∀ (j : Nat) c x, css[j]? = some c → xs[j]? = some x → A.rep w F c x

section
variable {α : Type} {A : Shape α} {w w' : World} {F F' : Nat → Prop} {css : List (List Value)} {xs : List α}

theorem Shape.all_keep (h : A.all w F css xs) (hk : ∀ b, F b → b < w.heap.size → w'.heap[b]? = w.heap[b]?) : A.all w' F css xs := ⟨h.1, fun j c x h1 h2 => A.keep (h.2 j c x h1 h2) hk⟩
theorem Shape.all_mono (h : A.all w F css xs) (hm : ∀ b, F b → b < w.heap.size → F' b) : A.all w F' css xs := ⟨h.1, fun j c x h1 h2 => A.mono (h.2 j c x h1 h2) hm⟩
theorem Shape.all_nil : A.all w F [] [] := ⟨rfl, fun j c x h => by simp at h⟩
theorem Shape.all_one {c : List Value} {x : α} (h : A.rep w F c x) : A.all w F [c] [x] := by
  refine ⟨rfl, fun j c' x' h1 h2 => ?_⟩
  cases j with
  | zero => simp at h1 h2; subst h1; subst h2; exact h
  | succ j => simp at h1
theorem Shape.all_append {ds : List (List Value)} {ys : List α} (h : A.all w F css xs) (k : A.all w F ds ys) : A.all w F (css ++ ds) (xs ++ ys) := by
  refine ⟨by simp [h.1, k.1], fun j c x h1 h2 => ?_⟩
  rw [List.getElem?_append] at h1 h2
  rw [← h.1] at h2
  by_cases hj : j < css.length
  · rw [if_pos hj] at h1 h2; exact h.2 j c x h1 h2
  · rw [if_neg hj] at h1 h2; exact k.2 _ c x h1 h2
theorem Shape.all_at (h : A.all w F css xs) {j : Nat} (hj : j < xs.length) : ∃ c, css[j]? = some c ∧ A.rep w F c (xs[j]) := by
  have hc : j < css.length := by rw [h.1]; exact hj
  exact ⟨css[j], List.getElem?_eq_getElem hc, h.2 j _ _ (List.getElem?_eq_getElem hc) (List.getElem?_eq_getElem hj)⟩
theorem Shape.all_set {j : Nat} {c : List Value} {x : α} (h : A.all w F css xs) (hx : A.rep w F c x) : A.all w F (css.set j c) (xs.set j x) := by
  refine ⟨by simp [h.1], fun i c' x' h1 h2 => ?_⟩
  rw [List.getElem?_set] at h1 h2
  by_cases hij : j = i
  · subst hij
    by_cases hl : j < css.length
    · rw [if_pos rfl, if_pos hl] at h1; rw [if_pos rfl, if_pos (by rw [← h.1]; exact hl)] at h2; cases h1; cases h2; exact hx
    · rw [if_pos rfl, if_neg hl] at h1; cases h1
  · rw [if_neg hij] at h1 h2; exact h.2 i c' x' h1 h2
theorem Shape.all_len (h : A.all w F css xs) : ∀ c ∈ css, c.length = A.size := by
  intro c hc
  obtain ⟨j, hj⟩ := List.getElem?_of_mem hc
  have hjl : j < css.length := (List.getElem?_eq_some_iff.1 hj).1
  exact A.len (h.2 j c _ hj (List.getElem?_eq_getElem (by rw [← h.1]; exact hjl)))
theorem Shape.all_ones (h : A.all w F css xs) : ∀ u ∈ css.flatten, u.oneCell' = true := by
  intro u hu
  obtain ⟨c, hc, huc⟩ := List.mem_flatten.1 hu
  obtain ⟨j, hj⟩ := List.getElem?_of_mem hc
  have hjl : j < css.length := (List.getElem?_eq_some_iff.1 hj).1
  exact A.one (h.2 j c _ hj (List.getElem?_eq_getElem (by rw [← h.1]; exact hjl))) u huc
end

theorem flat_len {css : List (List Value)} {s : Nat} (h : ∀ c ∈ css, c.length = s) : css.flatten.length = css.length * s := by
  induction css with
  | nil => simp
  | cons c css ih =>
    have h1 := h c (by simp)
    have h2 := ih fun d hd => h d (by simp [hd])
    simp only [List.flatten_cons, List.length_append, List.length_cons, h1, h2, Nat.add_mul]; omega
theorem flat_get {css : List (List Value)} {s : Nat} (h : ∀ c ∈ css, c.length = s) (j k : Nat) (hk : k < s) : css.flatten[j * s + k]? = (css[j]?).bind (·[k]?) := by
  induction css generalizing j with
  | nil => simp
  | cons c css ih =>
    have h1 := h c (by simp)
    have h2 := ih fun d hd => h d (by simp [hd])
    rw [List.flatten_cons, List.getElem?_append]
    cases j with
    | zero => rw [Nat.zero_mul, Nat.zero_add, if_pos (by omega)]; rfl
    | succ j =>
      have e : (j + 1) * s = j * s + s := by rw [Nat.add_mul, Nat.one_mul]
      rw [if_neg (by omega), show (j + 1) * s + k - c.length = j * s + k by omega, h2 j]; rfl
theorem flat_cells {css : List (List Value)} {s : Nat} (h : ∀ c ∈ css, c.length = s) {w : World} {b off : Nat}
    (hc : ∀ j c, css[j]? = some c → ∀ k v, c[k]? = some v → w.cell? ⟨b, off + (j * s + k), none⟩ = some v) : ∀ i v, css.flatten[i]? = some v → w.cell? ⟨b, off + i, none⟩ = some v := by
  induction css generalizing off with
  | nil => intro i v hv; simp at hv
  | cons c css ih =>
    intro i v hv
    have h1 := h c (by simp)
    rw [List.flatten_cons, List.getElem?_append] at hv
    by_cases hi : i < c.length
    · rw [if_pos hi] at hv
      have := hc 0 c rfl i v hv
      rw [Nat.zero_mul, Nat.zero_add] at this
      exact this
    · rw [if_neg hi] at hv
      have := ih (fun d hd => h d (by simp [hd])) (off := off + s) (fun j c' hj k v' hk => by
        have := hc (j + 1) c' (by simpa using hj) k v' hk
        rw [show off + ((j + 1) * s + k) = off + s + (j * s + k) by rw [Nat.add_mul, Nat.one_mul]; omega] at this
        exact this) (i - c.length) v hv
      rw [show off + s + (i - c.length) = off + i by omega] at this
      exact this

def intS (k : IntKind) : Shape Int where
  size := 1
  rep _ _ cs x := cs = [.int k x]
  len h := by subst h; rfl
  one h u hu := by subst h; simp at hu; subst hu; rfl
  keep h _ := h
  mono h _ := h

def sliceS {α : Type} (A : Shape α) : Shape (List α) where
  size := 1
  rep w F cs xs := ∃ a c css, cs = [.slice a xs.length c] ∧ xs.length ≤ c ∧ c ≤ maxLen ∧ A.all w F css xs ∧ Cells w F a css.flatten
  len := by rintro w F cs x ⟨a, c, css, rfl, _⟩; rfl
  one := by rintro w F cs x ⟨a, c, css, rfl, _⟩ u hu; simp at hu; subst hu; rfl
  keep := by rintro w w' F cs x ⟨a, c, css, rfl, h1, h2, h3, h4⟩ hk; exact ⟨a, c, css, rfl, h1, h2, Shape.all_keep h3 hk, h4.keep hk⟩
  mono := by rintro w F F' cs x ⟨a, c, css, rfl, h1, h2, h3, h4⟩ hk; exact ⟨a, c, css, rfl, h1, h2, Shape.all_mono h3 hk, h4.mono hk⟩

abbrev rowS : Shape (List Int) := sliceS (intS .i64)
abbrev matS : Shape (List (List Int)) := sliceS rowS

theorem sliceS_len {α : Type} {A : Shape α} {w : World} {F : Nat → Prop} {a : Option Addr} {n c : Nat} {xs : List α} (h : (sliceS A).rep w F [.slice a n c] xs) : xs.length = n ∧ n ≤ c ∧ c ≤ maxLen := by
  obtain ⟨a', c', css, he, h1, h2, _⟩ := h
  simp at he
  obtain ⟨rfl, rfl, rfl⟩ := he
  exact ⟨rfl, h1, h2⟩
theorem sliceS_at {α : Type} {A : Shape α} {w : World} {F : Nat → Prop} {a : Option Addr} {n c : Nat} {xs : List α} (h : (sliceS A).rep w F [.slice a n c] xs) (hs : 0 < A.size) {j : Nat} (hj : j < xs.length) :
    ∃ b off cs, a = some ⟨b, off, none⟩ ∧ F b ∧ b < w.heap.size ∧ (∀ k v, cs[k]? = some v → w.cell? ⟨b, off + (j * A.size + k), none⟩ = some v) ∧ A.rep w F cs (xs[j]) := by
  obtain ⟨a', c', css, he, h1, h2, hall, hcell⟩ := h
  simp at he
  obtain ⟨rfl, rfl, rfl⟩ := he
  obtain ⟨cs, hcs, hrep⟩ := Shape.all_at hall hj
  have hl := Shape.all_len hall
  rcases hcell with h0 | ⟨b, off, ha, hF, hb, hc⟩
  · exfalso
    have := flat_len hl
    rw [h0, hall.1] at this
    have := Nat.mul_pos (show 0 < xs.length by omega) hs
    simp at *; omega
  · refine ⟨b, off, cs, ha, hF, hb, fun k v hk => hc _ v ?_, hrep⟩
    have hks : k < A.size := by rw [← A.len hrep]; exact (List.getElem?_eq_some_iff.1 hk).1
    rw [flat_get hl j k hks, hcs]; exact hk

/-- A row of numbers: the elder form and this one. -/
theorem Row.of_rep {w : World} {F : Nat → Prop} {a : Option Addr} {n c : Nat} {k : IntKind} {l : List Int} (h : (sliceS (intS k)).rep w F [.slice a n c] l) : Row k w a n l := by
  have hl := (sliceS_len h).1
  refine ⟨hl, ?_⟩
  by_cases h0 : n = 0
  · exact .inl h0
  · obtain ⟨b, off, cs, rfl, _⟩ := sliceS_at h (by exact Nat.one_pos) (j := 0) (by omega)
    refine .inr ⟨b, off, rfl, fun j hj => ?_⟩
    obtain ⟨b', off', cs', he, _, _, hc, hr⟩ := sliceS_at h (by exact Nat.one_pos) (j := j) (by omega)
    have he' := Option.some.inj he
    injection he' with e1 e2 e3
    subst e1; subst e2
    have hr' : cs' = [.int k (l[j]'(by omega))] := hr
    subst hr'
    have hz := hc 0 _ rfl
    rw [show off + (j * (intS k).size + 0) = off + j by show off + (j * 1 + 0) = off + j; omega] at hz
    rw [hz, List.getD_eq_getElem?_getD, List.getElem?_eq_getElem (by omega)]; rfl

theorem ints_all (k : IntKind) (w : World) (F : Nat → Prop) (l : List Int) : (intS k).all w F (l.map fun x => [.int k x]) l := by
  refine ⟨by simp, fun j c x h1 h2 => ?_⟩
  rw [List.getElem?_map, h2] at h1
  exact (Option.some.inj h1).symm
theorem ints_flat (k : IntKind) (l : List Int) : (l.map fun x => [Value.int k x]).flatten = l.map (Value.int k) := by
  induction l with
  | nil => rfl
  | cons x l ih => simp [ih]
theorem Row.rep {w : World} {k : IntKind} {a : Option Addr} {n c : Nat} {l : List Int} (h : Row k w a n l) (hc : n ≤ c) (hm : c ≤ maxLen) {F : Nat → Prop} (hF : ∀ b off, a = some ⟨b, off, none⟩ → F b) : (sliceS (intS k)).rep w F [.slice a n c] l := by
  obtain ⟨hl, h⟩ := h
  subst hl
  refine ⟨a, c, _, rfl, hc, hm, ints_all k w F l, ?_⟩
  rw [ints_flat]
  rcases h with h0 | ⟨b, off, rfl, hcell⟩
  · exact .inl (by rw [List.eq_nil_of_length_eq_zero h0]; rfl)
  · by_cases h0 : l.length = 0
    · exact .inl (by rw [List.eq_nil_of_length_eq_zero h0]; rfl)
    · refine .inr ⟨b, off, rfl, hF b off rfl, World.block_lt_of_cell? w _ (hcell 0 (by omega)), fun j v hv => ?_⟩
      rw [List.getElem?_map, Option.map_eq_some_iff] at hv
      obtain ⟨x, hx, rfl⟩ := hv
      have hj := (List.getElem?_eq_some_iff.1 hx).1
      rw [hcell j hj, List.getD_eq_getElem?_getD, hx]; rfl

/-! ### What came in -/
/-- Whatever is read as of type t lies so. -/
def Opens (P : Program) (t : TypeId) {α : Type} (A : Shape α) (Wf : α → Prop) : Prop :=
  ∀ (H : Type) (enc : TypeId × Value → H) (w : World) (base : Nat) (spare : Nat → Bool) (held : Bool) (fuel : Nat) (cs : List Value) (x : DataW H × List MemPlace),
    DataW.trod enc P w base spare held fuel t cs = some x → ∃ y, A.rep w everywhere cs y ∧ Wf y
theorem opens_int {P : Program} {t : TypeId} {k : IntKind} (ht : P.underlying t = some (.int k)) : Opens P t (intS k) fun n => (Lit.int k n).wf = true := by
  intro H enc w base spare held fuel cs x h
  obtain ⟨n, rfl, _, hw⟩ := DataW.trod_int ht h
  exact ⟨n, rfl, hw⟩
theorem opens_slice {P : Program} {t e : TypeId} {α : Type} {A : Shape α} {Wf : α → Prop} (ht : P.underlying t = some (.slice e)) (he : P.cellsOf e = A.size) (hs : 0 < A.size) (ho : Opens P e A Wf) : Opens P t (sliceS A) fun l => ∀ x ∈ l, Wf x := by
  intro H enc w base spare held fuel cs x h
  rcases Go.Deep.open_slice ht h with ⟨rfl, _⟩ | ⟨a, len, cap, m, n, D, Pl, rfl, hb, hl, hm, hmm, rfl, hx⟩
  · exact ⟨[], ⟨none, 0, [], rfl, Nat.le_refl _, Nat.zero_le _, Shape.all_nil, .inl rfl⟩, by simp⟩
  have hlm : len ≤ m := by rw [hmm]; split <;> omega
  have hex : ∀ i, i < len → ∃ p : List Value × α, (w.cells? base (a.add (i * A.size)) A.size = some p.1) ∧ A.rep w everywhere p.1 p.2 ∧ Wf p.2 := by
    intro i hi
    obtain ⟨cs', h1, h2⟩ := hx i (by omega)
    obtain ⟨y, hy, hw⟩ := ho H enc w base spare held n cs' _ h2
    rw [he] at h1
    exact ⟨(cs', y), h1, hy, hw⟩
  have hlist : ∀ n, n ≤ len → ∃ (css : List (List Value)) (xs : List α), css.length = n ∧ xs.length = n ∧ ∀ j c y, css[j]? = some c → xs[j]? = some y → (w.cells? base (a.add (j * A.size)) A.size = some c) ∧ A.rep w everywhere c y ∧ Wf y := by
    intro n
    induction n with
    | zero => intro _; exact ⟨[], [], rfl, rfl, fun j c y h => by simp at h⟩
    | succ n ih =>
      intro hn
      obtain ⟨css, xs, h1, h2, h3⟩ := ih (by omega)
      obtain ⟨⟨c, y⟩, hc, hy, hw⟩ := hex n (by omega)
      refine ⟨css ++ [c], xs ++ [y], by simp [h1], by simp [h2], fun j c' y' hc' hy' => ?_⟩
      rw [List.getElem?_append] at hc' hy'
      by_cases hj : j < n
      · rw [if_pos (by omega)] at hc' hy'; exact h3 j c' y' hc' hy'
      · rw [if_neg (by omega)] at hc' hy'
        by_cases hjn : j = n
        · subst hjn
          rw [h1, Nat.sub_self] at hc'; rw [h2, Nat.sub_self] at hy'
          simp at hc' hy'; subst hc'; subst hy'; exact ⟨hc, hy, hw⟩
        · rw [List.getElem?_eq_none (by simp; omega)] at hc'; cases hc'
  obtain ⟨css, xs, h1, h2, h3⟩ := hlist len (Nat.le_refl _)
  have hall : A.all w everywhere css xs := ⟨by omega, fun j c y hc hy => (h3 j c y hc hy).2.1⟩
  subst h2
  refine ⟨xs, ⟨some a, cap, css, rfl, hl, hm, hall, ?_⟩, fun y hy => ?_⟩
  · by_cases h0 : xs.length = 0
    · exact .inl (by rw [List.eq_nil_of_length_eq_zero (by omega : css.length = 0)]; rfl)
    · obtain ⟨b, off, spot⟩ := a
      have hc0 := (h3 0 _ _ (List.getElem?_eq_getElem (by omega : 0 < css.length)) (List.getElem?_eq_getElem (by omega : 0 < xs.length))).1
      obtain ⟨_, hl0, hcell0⟩ := World.cells?_some hc0
      have hc00 := hcell0 0 hs
      rw [List.getElem?_eq_getElem (by omega)] at hc00
      have hspot : spot = none := by simpa [Addr.add] using World.cell?_spot hc00
      subst hspot
      refine .inr ⟨b, off, rfl, trivial, ?_, flat_cells (Shape.all_len hall) fun j c hj k v hk => ?_⟩
      · have := World.block_lt_of_cell? w _ hc00; simpa [Addr.add_lit] using this
      · have hjl : j < css.length := (List.getElem?_eq_some_iff.1 hj).1
        obtain ⟨_, hlc, hcell⟩ := World.cells?_some (h3 j c _ hj (List.getElem?_eq_getElem (by omega : j < xs.length))).1
        have hkl : k < c.length := (List.getElem?_eq_some_iff.1 hk).1
        have := hcell k (by omega)
        rw [Addr.add_lit, Addr.add_lit, hk, Nat.add_assoc] at this
        exact this
  · obtain ⟨j, hj⟩ := List.getElem?_of_mem hy
    have hjl : j < xs.length := (List.getElem?_eq_some_iff.1 hj).1
    exact (h3 j _ y (List.getElem?_eq_getElem (by omega : j < css.length)) hj).2.2

/-! ### What the call owns -/
/-- The call owns the slice v of the xs; what its elements lead to lies in other blocks than its own. -/
def Own {α : Type} (A : Shape α) (w : World) (base : Nat) (e : TypeId) (v : Value) (xs : List α) : Prop :=
  ∃ css, w.ownsRow base e A.size v xs.length css.flatten ∧ A.all w (fun b => some b ≠ v.ownBlock) css xs

section
variable {α : Type} {A : Shape α} {w w' : World} {base : Nat} {e : TypeId} {v : Value} {xs : List α}

theorem Own.nil (A : Shape α) (w : World) (base : Nat) (e : TypeId) : Own A w base e (.slice none 0 0) [] := ⟨[], World.ownsRow_nil _ _ _ _, Shape.all_nil⟩
theorem Own.keep (h : Own A w base e v xs) (hb : Below w.heap.size w w') : Own A w' base e v xs := by
  obtain ⟨css, h1, h2⟩ := h
  exact ⟨css, h1.kept (row := none) ⟨hb.os, hb.tape, hb.output, hb.size, fun j hj _ => hb.block j hj⟩ (by cases hv : v.ownBlock <;> simp), Shape.all_keep h2 fun b _ hlt => hb.block b hlt⟩
theorem Own.rep (h : Own A w base e v xs) : ∃ a c, v = .slice a xs.length c ∧ (sliceS A).rep w everywhere [.slice a xs.length c] xs := by
  obtain ⟨css, ⟨hl, h1⟩, h2⟩ := h
  rcases h1 with ⟨rfl, h0⟩ | ⟨g, cap, cur, rfl, hb, hg, hnc, hcm, hcs, htake⟩
  · have hx := List.eq_nil_of_length_eq_zero h0
    subst hx
    have hc : css = [] := List.eq_nil_of_length_eq_zero h2.1
    subst hc
    exact ⟨none, 0, rfl, none, 0, [], rfl, Nat.le_refl _, Nat.zero_le _, Shape.all_nil, .inl rfl⟩
  · refine ⟨some ⟨g, 0, none⟩, cap, rfl, some ⟨g, 0, none⟩, cap, css, rfl, hnc, hcm, Shape.all_mono h2 (fun _ _ _ => trivial), .inr ⟨g, 0, rfl, trivial, (Array.getElem?_eq_some_iff.1 hg).1, fun j u hu => ?_⟩⟩
    rw [cell_of_row w g (0 + j) cur e (0, 0) hg]
    have hj := (List.getElem?_eq_some_iff.1 hu).1
    rw [← htake, List.getElem?_take] at hu
    split at hu
    · simpa using hu
    · cases hu
theorem Own.lt (h : Own A w base e v xs) : ∀ k, v.ownBlock = some k → base ≤ k ∧ k < w.heap.size := by
  obtain ⟨css, h1, _⟩ := h
  exact h1.lt

/-- What lies among the call's blocks is no old block. -/
theorem Own.apart (h : Own A w base e v xs) {N : Nat} (hN : N ≤ base) : ∀ b, b < N → some b ≠ v.ownBlock := fun b hb hv => by
  have := (h.lt b hv.symm).1; omega

theorem run_app {P : Program} (t ty : TypeId) (i : TypeInfo) (z : Value) (bytes : Nat) (ht : P.underlying t = some (.slice e)) (hi : P.info? e = some i) (hz : i.zero = some z)
    (hsize : i.size = A.size) (hby : i.bytes = bytes) (hzs : z.cells.size = A.size) (hsz : 0 < A.size)
    (hown : Own A w base e v xs) (a : Option Addr) (m c : Nat) (ys : List α) {F : Nat → Prop} (hr : (sliceS A).rep w F [.slice a m c] ys) (hF : ∀ b, F b → some b ≠ v.ownBlock)
    (h63 : xs.length + m ≤ maxLen) (hbytes : (xs.length + m) * bytes ≤ 140737488355328) (hbase : base ≤ w.heap.size) :
    ∃ a' c' w', (Builtin.append_ #[t, t] ty #[v, .slice a m c]).run P w = .ok (.slice a' (xs.length + m) c') w' ∧ Own A w' base e (.slice a' (xs.length + m) c') (xs ++ ys) ∧ w.grownBy w' v.ownBlock ∧
      (Value.ownBlock (.slice a' (xs.length + m) c') = v.ownBlock ∨ Value.ownBlock (.slice a' (xs.length + m) c') = some w.heap.size) := by
  have hm := (sliceS_len hr).1
  subst hm
  obtain ⟨css, hrow, hall⟩ := hown
  obtain ⟨a1, c1, ds, he, _, _, hall2, hcells⟩ := hr
  simp at he
  obtain ⟨rfl, rfl⟩ := he
  have hdl : ds.flatten.length = ys.length * A.size := by rw [flat_len (Shape.all_len hall2), hall2.1]
  cases a with
  | none =>
    have h0 : ys = [] := by
      rcases hcells with h0 | ⟨b, off, h, _⟩
      · rw [h0] at hdl
        rcases Nat.eq_zero_or_pos ys.length with h | h
        · exact List.eq_nil_of_length_eq_zero h
        · have := Nat.mul_pos h hsz; simp at hdl; omega
      · cases h
    subst h0
    have hds : ds = [] := List.eq_nil_of_length_eq_zero hall2.1
    subst hds
    rcases hrow.2 with ⟨rfl, h0⟩ | ⟨g, cap, cur, rfl, _, _, hnc, _⟩
    · have hx := List.eq_nil_of_length_eq_zero h0
      subst hx
      refine ⟨none, 0, w, ?_, ⟨css, by simpa using hrow, by simpa using hall⟩, ⟨rfl, rfl, rfl, Nat.le_refl _, fun _ _ _ => rfl⟩, .inl rfl⟩
      simp [Builtin.append_, run_underlying ht, sizeOf, typeInfo, hi, Builtin.lenOf, Builtin.firstCells]
    · refine ⟨some ⟨g, 0, none⟩, cap, w, ?_, ⟨css, by simpa using hrow, by simpa using hall⟩, ⟨rfl, rfl, rfl, Nat.le_refl _, fun _ _ _ => rfl⟩, .inl rfl⟩
      simp [Builtin.append_, run_underlying ht, sizeOf, typeInfo, hi, Builtin.lenOf, Builtin.firstCells, hnc, storeCells]
  | some ad =>
    have hnews : ∀ j u, ds.flatten[j]? = some u → w.cell? (ad.add j) = some u := by
      intro j u hu
      rcases hcells with h0 | ⟨b, off, hb, _, _, hc⟩
      · rw [h0] at hu; simp at hu
      · obtain rfl := Option.some.inj hb
        rw [Addr.add_lit]; exact hc j u hu
    obtain ⟨v', w', h1, h2, h3, _, h5⟩ := run_append_own_at (P := P) w base t ty e i z A.size bytes ht hi hz hsize hby hzs hsz v xs.length _ hrow ad ys.length c ds.flatten hdl hnews (Shape.all_ones hall2) h63 hbytes hbase
    have hform : ∃ a' c', v' = .slice a' (xs.length + ys.length) c' := by
      rcases h2.2 with ⟨rfl, h0⟩ | ⟨g, cap, cur, rfl, _⟩
      · exact ⟨none, 0, by rw [h0]⟩
      · exact ⟨_, _, rfl⟩
    obtain ⟨a', c', rfl⟩ := hform
    have hk : ∀ b, some b ≠ v.ownBlock → b < w.heap.size → w'.heap[b]? = w.heap[b]? := fun b hb hlt => h3.block b hlt hb
    have hn : ∀ b, some b ≠ v.ownBlock → b < w.heap.size → some b ≠ Value.ownBlock (.slice a' (xs.length + ys.length) c') := by
      intro b hb hlt
      rcases h5 with h5 | h5
      · rw [h5]; exact hb
      · rw [h5]; intro h; have := Option.some.inj h; omega
    refine ⟨a', c', w', h1, ⟨css ++ ds, by rw [List.flatten_append, List.length_append]; exact h2, ?_⟩, h3, h5⟩
    have k1 := Shape.all_mono hall hn
    have k2 := Shape.all_mono hall2 fun b hb hlt => hn b (hF b hb) hlt
    have k3 := Shape.all_append k1 k2
    refine ⟨k3.1, fun j c x hc hx => ?_⟩
    have hall' : A.all w (fun b => some b ≠ v.ownBlock ∧ some b ≠ Value.ownBlock (.slice a' (xs.length + ys.length) c')) (css ++ ds) (xs ++ ys) :=
      Shape.all_append (Shape.all_mono hall fun b hb hlt => ⟨hb, hn b hb hlt⟩) (Shape.all_mono hall2 fun b hb hlt => ⟨hF b hb, hn b (hF b hb) hlt⟩)
    exact A.mono (A.keep (hall'.2 j c x hc hx) fun b hb hlt => hk b hb.1 hlt) fun b hb _ => hb.2
end

/-- 'append(v, x...)' in a walk, guarded or not. -/
theorem wpList_app {α : Type} (A : Shape α) {P : Program} {w : World} {ops : Array Oper} {rest : List Oper} {o : Oper} {act : Act} {Q : Exit → Act → World → Prop} (hw : Region.wanted o (yielded ops act.tmps) = true) (s x : Operand) (t : TypeId)
    (ho : o.op = .call { callee := .builtin .append, args := #[s, x], argTypes := #[t, t] })
    (base : Nat) (e : TypeId) (i : TypeInfo) (z : Value) (bytes : Nat) (ht : P.underlying t = some (.slice e)) (hi : P.info? e = some i) (hz : i.zero = some z)
    (hsize : i.size = A.size) (hby : i.bytes = bytes) (hzs : z.cells.size = A.size) (hsz : 0 < A.size) (hbl : bytes ≤ 1000) {v : Value} {xs : List α} (hs : act.eval s = v) (hown : Own A w base e v xs)
    {a : Option Addr} {m c : Nat} (hx : act.eval x = .slice a m c) {ys : List α} {F : Nat → Prop} (hr : (sliceS A).rep w F [.slice a m c] ys) (hF : ∀ b, F b → some b ≠ v.ownBlock)
    (hsm : xs.length + m ≤ 100000) (hbase : base ≤ w.heap.size)
    (h : ∀ a' c' w', Own A w' base e (.slice a' (xs.length + m) c') (xs ++ ys) → w.grownBy w' v.ownBlock → Below base w w' → (Value.ownBlock (.slice a' (xs.length + m) c') = v.ownBlock ∨ Value.ownBlock (.slice a' (xs.length + m) c') = some w.heap.size) →
      wpList P ops Q rest (act.put o.dst (.slice a' (xs.length + m) c')) w') : wpList P ops Q (o :: rest) act w := by
  refine wpList_step fun K hK => ?_
  rw [if_pos hw]
  have hbytes : (xs.length + m) * bytes ≤ 140737488355328 := by
    have := Nat.mul_le_mul hsm hbl
    omega
  obtain ⟨a', c', w', hrun, h2, h3, h4⟩ := run_app (P := P) t o.type i z bytes ht hi hz hsize hby hzs hsz hown a m c ys hr hF (by unfold maxLen; omega) hbytes hbase
  have hb : Below base w w' := (Below.refl _ _).grown h3 hbase (fun g hg => (hown.lt g hg).1)
  unfold Oper.wp
  simp [execOp, ho, resolve, invoke, builtin, hs, hx, hrun, Result.andThen]
  exact hK _ _ (h a' c' w' h2 h3 hb h4)

/-- One element, laid in a block of its own: what 'append(v, x)' appends. -/
theorem rep_one {α : Type} {A : Shape α} {w : World} {F : Nat → Prop} {cs : List Value} {x : α} {e : TypeId} (h : A.rep w F cs x) : (sliceS A).rep (w.alloc (.cells cs.toArray e)) (fun b => (F b ∧ b < w.heap.size) ∨ b = w.heap.size) [.slice (some ⟨w.heap.size, 0, none⟩) 1 1] [x] := by
  have hk : A.rep (w.alloc (.cells cs.toArray e)) (fun b => F b ∧ b < w.heap.size) cs x := A.keep (A.mono h fun b hb hlt => ⟨hb, hlt⟩) fun b hb hlt => Below.heap_alloc w _ b hlt
  refine ⟨some ⟨w.heap.size, 0, none⟩, 1, [cs], rfl, Nat.le_refl _, by decide, Shape.all_one (A.mono hk fun b hb _ => .inl hb), .inr ⟨w.heap.size, 0, rfl, .inr rfl, by simp, fun j v hv => ?_⟩⟩
  rw [cell_of_row _ w.heap.size (0 + j) cs.toArray e (0, 0) (heap_alloc_new w _)]
  simpa using hv

/-- The same at a step of a region that draws its order; the new length and the new list under names of one's own. -/
theorem step_app {α : Type} (A : Shape α) {P : Program} {w : World} {ops : Array Oper} {o : Oper} {act : Act} {K : Act → World → Prop} {Q : Exit → Act → World → Prop} {E : Prop} (hw : Region.wanted o (yielded ops act.tmps) = true) (s x : Operand) (t : TypeId)
    (ho : o.op = .call { callee := .builtin .append, args := #[s, x], argTypes := #[t, t] })
    (base : Nat) (e : TypeId) (i : TypeInfo) (z : Value) (bytes : Nat) (ht : P.underlying t = some (.slice e)) (hi : P.info? e = some i) (hz : i.zero = some z)
    (hsize : i.size = A.size) (hby : i.bytes = bytes) (hzs : z.cells.size = A.size) (hsz : 0 < A.size) (hbl : bytes ≤ 1000) {v : Value} {xs : List α} (hs : act.eval s = v) (hown : Own A w base e v xs)
    {a : Option Addr} {m c : Nat} (hx : act.eval x = .slice a m c) {ys : List α} {F : Nat → Prop} (hr : (sliceS A).rep w F [.slice a m c] ys) (hF : ∀ b, F b → some b ≠ v.ownBlock)
    (hsm : xs.length + m ≤ 100000) (hbase : base ≤ w.heap.size) (k : Nat) (hk : xs.length + m = k) (zs : List α) (hcat : xs ++ ys = zs)
    (h : ∀ a' c' w', Own A w' base e (.slice a' k c') zs → w.grownBy w' v.ownBlock → Below base w w' → (Value.ownBlock (.slice a' k c') = v.ownBlock ∨ Value.ownBlock (.slice a' k c') = some w.heap.size) →
      K (act.put o.dst (.slice a' k c')) w') : if Region.wanted o (yielded ops act.tmps) = true then Oper.wp P o act w K Q else E := by
  rw [if_pos hw]
  subst hk
  subst hcat
  have hbytes : (xs.length + m) * bytes ≤ 140737488355328 := by
    have := Nat.mul_le_mul hsm hbl
    omega
  obtain ⟨a', c', w', hrun, h2, h3, h4⟩ := run_app (P := P) t o.type i z bytes ht hi hz hsize hby hzs hsz hown a m c ys hr hF (by unfold maxLen; omega) hbytes hbase
  have hb : Below base w w' := (Below.refl _ _).grown h3 hbase (fun g hg => (hown.lt g hg).1)
  unfold Oper.wp
  simp [execOp, ho, resolve, invoke, builtin, hs, hx, hrun, Result.andThen]
  exact h a' c' w' h2 h3 hb h4

/-- An empty slice that a literal has laid in block g. -/
theorem Own.of_empty {α : Type} (A : Shape α) {w : World} {base g : Nat} {e : TypeId} (hg : w.heap[g]? = some (.cells #[] e (0, 0))) (hb : base ≤ g) : Own A w base e (.slice (some ⟨g, 0, none⟩) 0 0) [] :=
  ⟨[], ⟨by simp, .inr ⟨g, 0, #[], rfl, hb, hg, Nat.le_refl _, by simp [maxLen], by simp, by simp⟩⟩, Shape.all_nil⟩
/-- One element in block g, laid there by itself. -/
theorem rep_at {α : Type} {A : Shape α} {w : World} {F : Nat → Prop} {cs : List Value} {x : α} {e : TypeId} {g : Nat} (h : A.rep w F cs x) (hg : w.heap[g]? = some (.cells cs.toArray e (0, 0))) : (sliceS A).rep w (fun b => F b ∨ b = g) [.slice (some ⟨g, 0, none⟩) 1 1] [x] := by
  refine ⟨some ⟨g, 0, none⟩, 1, [cs], rfl, Nat.le_refl _, by decide, Shape.all_one (A.mono h fun b hb _ => .inl hb), .inr ⟨g, 0, rfl, .inr rfl, (Array.getElem?_eq_some_iff.1 hg).1, fun j v hv => ?_⟩⟩
  rw [cell_of_row _ g (0 + j) cs.toArray e (0, 0) hg]
  simpa using hv
theorem heap_new (w : World) (o : Obj) (g : Nat) (hg : g = w.heap.size) : (w.alloc o).heap[g]? = some o := by subst hg; exact heap_alloc_new w o
theorem heap_old (w : World) (o o' : Obj) (g : Nat) (hg : g < w.heap.size) (h : w.heap[g]? = some o) : (w.alloc o').heap[g]? = some o := (Below.heap_alloc w o' g hg).trans h

end Go.Proofs.YtokfcjgfpchffaaGreatDoor

/- Structs, strings and bools in memory, as Shapes (no program in sight): the fields' cells one behind the other. -/
namespace Go.Proofs.YtokfcjgfpchffaaGreatDoor
open Go.ChangeShapes Go.WideShapes Go.ChangeAt Go.RowKit

def strS : Shape ByteArray where
  size := 1
  rep _ _ cs x := cs = [.string x]
  len h := by subst h; rfl
  one h u hu := by subst h; simp at hu; subst hu; rfl
  keep h _ := h
  mono h _ := h
def boolS : Shape Bool where
  size := 1
  rep _ _ cs x := cs = [.bool x]
  len h := by subst h; rfl
  one h u hu := by subst h; simp at hu; subst hu; rfl
  keep h _ := h
  mono h _ := h

/-- No field more. -/
def noneS : Shape Unit where
  size := 0
  rep _ _ cs _ := cs = []
  len h := by subst h; rfl
  one h u hu := by subst h; simp at hu
  keep h _ := h
  mono h _ := h
/-- A field, and those behind it. -/
def consS {α β : Type} (A : Shape α) (B : Shape β) : Shape (α × β) where
  size := A.size + B.size
  rep w F cs x := ∃ c d, cs = c ++ d ∧ A.rep w F c x.1 ∧ B.rep w F d x.2
  len := by rintro w F cs x ⟨c, d, rfl, h1, h2⟩; rw [List.length_append, A.len h1, B.len h2]
  one := by
    rintro w F cs x ⟨c, d, rfl, h1, h2⟩ u hu
    rcases List.mem_append.1 hu with hu | hu
    · exact A.one h1 u hu
    · exact B.one h2 u hu
  keep := by rintro w w' F cs x ⟨c, d, rfl, h1, h2⟩ hk; exact ⟨c, d, rfl, A.keep h1 hk, B.keep h2 hk⟩
  mono := by rintro w F F' cs x ⟨c, d, rfl, h1, h2⟩ hk; exact ⟨c, d, rfl, A.mono h1 hk, B.mono h2 hk⟩

theorem opens_string {P : Program} {t : TypeId} (ht : P.underlying t = some .string) : Opens P t strS fun s => s.size ≤ maxLen := by
  intro H enc w base spare held fuel cs x h
  obtain ⟨s, rfl, _, hw⟩ := DataW.trod_string ht h
  exact ⟨s, rfl, hw⟩
theorem opens_bool {P : Program} {t : TypeId} (ht : P.underlying t = some .bool) : Opens P t boolS fun _ => True := by
  intro H enc w base spare held fuel cs x h
  obtain ⟨b, rfl, _⟩ := DataW.trod_bool ht h
  exact ⟨b, rfl, trivial⟩

/-- Whatever is read as the fields fs, of which the first lies o cells behind the struct's head, lies so. -/
def OpensAt (P : Program) (fs : List Field) (o : Nat) {α : Type} (A : Shape α) (Wf : α → Prop) : Prop :=
  ∀ (H : Type) (enc : TypeId × Value → H) (w : World) (base : Nat) (spare : Nat → Bool) (held : Bool) (n : Nat) (cs : List Value), cs.length = A.size →
    (∀ f ∈ fs, o ≤ f.offset ∧ ∃ y, DataW.trod enc P w base spare held n f.type ((cs.drop (f.offset - o)).take (P.cellsOf f.type)) = some y) → ∃ y, A.rep w everywhere cs y ∧ Wf y
theorem opensAt_nil {P : Program} {o : Nat} : OpensAt P [] o noneS fun _ => True := by
  intro H enc w base spare held n cs hl _
  exact ⟨(), List.eq_nil_of_length_eq_zero hl, trivial⟩
theorem opensAt_cons {P : Program} {f : Field} {fs : List Field} {o : Nat} {α β : Type} {A : Shape α} {B : Shape β} {Wa : α → Prop} {Wb : β → Prop} (ho : f.offset = o) (hc : P.cellsOf f.type = A.size) (ha : Opens P f.type A Wa) (hb : OpensAt P fs (o + A.size) B Wb)
    (hfs : fs.all (fun g => decide (o + A.size ≤ g.offset)) = true) : OpensAt P (f :: fs) o (consS A B) fun x => Wa x.1 ∧ Wb x.2 := by
  intro H enc w base spare held n cs hl h
  have hl' : cs.length = A.size + B.size := hl
  obtain ⟨_, y, hy⟩ := h f (by simp)
  rw [ho, Nat.sub_self, List.drop_zero, hc] at hy
  obtain ⟨a, ra, wa⟩ := ha H enc w base spare held n _ _ hy
  obtain ⟨b, rb, wb⟩ := hb H enc w base spare held n (cs.drop A.size) (by rw [List.length_drop]; omega) fun g hg => by
    have hle : o + A.size ≤ g.offset := by simpa using List.all_eq_true.1 hfs g hg
    obtain ⟨_, z, hz⟩ := h g (by simp [hg])
    refine ⟨hle, z, ?_⟩
    rw [List.drop_drop, show A.size + (g.offset - (o + A.size)) = g.offset - o by omega]
    exact hz
  exact ⟨(a, b), ⟨_, _, (List.take_append_drop A.size cs).symm, ra, rb⟩, wa, wb⟩
theorem opens_struct {P : Program} {t : TypeId} {fs : Array Field} {α : Type} {A : Shape α} {Wf : α → Prop} (ht : P.underlying t = some (.struct fs)) (hc : P.cellsOf t = A.size) (h : OpensAt P fs.toList 0 A Wf) : Opens P t A Wf := by
  intro H enc w base spare held fuel cs x hx
  obtain ⟨xs, n, _, _, hl, hxs, hf⟩ := DataW.trod_struct ht hx
  refine h H enc w base spare held n cs (hl.trans hc) fun f hmem => ⟨Nat.zero_le _, ?_⟩
  obtain ⟨i, hi⟩ := List.getElem?_of_mem hmem
  have hlt : i < fs.toList.length := (List.getElem?_eq_some_iff.1 hi).1
  have hlt' : i < xs.length := by rw [hxs]; simpa using hlt
  have := hf i f (by simpa using hi)
  rw [List.getElem?_eq_getElem hlt'] at this
  exact ⟨_, by rw [Nat.sub_zero]; exact this⟩

/-- An array, as a struct whose fields are its elements. -/
def elem (e : TypeId) (o : Nat) : Field := { name := "", type := e, offset := o, embedded := false, tag := "", pkgPath := "", byteOffset := 0 }
theorem opens_array {P : Program} {t e : TypeId} {n k : Nat} {α : Type} {A : Shape α} {Wf : α → Prop} (ht : P.underlying t = some (.array n e)) (hc : P.cellsOf t = A.size) (hk : P.cellsOf e = k) {fs : List Field} (hfs : fs = (List.range n).map fun i => elem e (i * k)) (h : OpensAt P fs 0 A Wf) : Opens P t A Wf := by
  intro H enc w base spare held fuel cs x hx
  obtain ⟨xs, m, _, _, hl, hxs, hf⟩ := DataW.trod_array ht hx
  refine h H enc w base spare held m cs (hl.trans hc) fun f hmem => ⟨Nat.zero_le _, ?_⟩
  rw [hfs] at hmem
  obtain ⟨i, hi, rfl⟩ := List.mem_map.1 hmem
  have hin : i < n := List.mem_range.1 hi
  have := hf i hin
  rw [hk, List.getElem?_eq_getElem (by rw [hxs]; exact hin)] at this
  exact ⟨_, by show DataW.trod enc P w base spare held m e ((cs.drop (i * k - 0)).take (P.cellsOf e)) = _; rw [Nat.sub_zero, hk]; exact this⟩
example {P : Program} {t e : TypeId} (ht : P.underlying t = some (.array 2 e)) (hc : P.cellsOf t = 2) (hk : P.cellsOf e = 1) (ho : Opens P e (intS .u8) fun x => (Lit.int .u8 x).wf = true) : Opens P t (consS (intS .u8) (consS (intS .u8) noneS)) fun x => (Lit.int .u8 x.1).wf = true ∧ (Lit.int .u8 x.2.1).wf = true ∧ True :=
  opens_array (A := consS (intS .u8) (consS (intS .u8) noneS)) ht hc hk (fs := [elem e 0, elem e 1]) (by rfl) (opensAt_cons (f := elem e 0) (A := intS .u8) rfl hk ho (opensAt_cons (f := elem e 1) (A := intS .u8) rfl hk ho opensAt_nil (by rfl)) (by rfl))

/-- What a struct's cells are, field by field. -/
theorem consS_int {w : World} {F : Nat → Prop} {k : IntKind} {β : Type} {B : Shape β} {cs : List Value} {x : Int × β} (h : (consS (intS k) B).rep w F cs x) : ∃ d, cs = .int k x.1 :: d ∧ B.rep w F d x.2 := by
  obtain ⟨c, d, rfl, h1, h2⟩ := h
  have h1' : c = [.int k x.1] := h1
  subst h1'
  exact ⟨d, rfl, h2⟩
theorem consS_str {w : World} {F : Nat → Prop} {β : Type} {B : Shape β} {cs : List Value} {x : ByteArray × β} (h : (consS strS B).rep w F cs x) : ∃ d, cs = .string x.1 :: d ∧ B.rep w F d x.2 := by
  obtain ⟨c, d, rfl, h1, h2⟩ := h
  have h1' : c = [.string x.1] := h1
  subst h1'
  exact ⟨d, rfl, h2⟩
theorem consS_bool {w : World} {F : Nat → Prop} {β : Type} {B : Shape β} {cs : List Value} {x : Bool × β} (h : (consS boolS B).rep w F cs x) : ∃ d, cs = .bool x.1 :: d ∧ B.rep w F d x.2 := by
  obtain ⟨c, d, rfl, h1, h2⟩ := h
  have h1' : c = [.bool x.1] := h1
  subst h1'
  exact ⟨d, rfl, h2⟩
theorem consS_slice {w : World} {F : Nat → Prop} {α β : Type} {A : Shape α} {B : Shape β} {cs : List Value} {x : List α × β} (h : (consS (sliceS A) B).rep w F cs x) :
    ∃ a n c d, cs = .slice a n c :: d ∧ (sliceS A).rep w F [.slice a n c] x.1 ∧ B.rep w F d x.2 := by
  obtain ⟨c, d, rfl, h1, h2⟩ := h
  obtain ⟨a, cap, css, rfl, h3⟩ := h1
  exact ⟨a, _, cap, d, rfl, ⟨a, cap, css, rfl, h3⟩, h2⟩
theorem noneS_nil {w : World} {F : Nat → Prop} {cs : List Value} {x : Unit} (h : noneS.rep w F cs x) : cs = [] := h

/-- A struct that comes in by value. -/
theorem okWide_agg {P : Program} {w : World} {r : Reach} {base : Nat} {t : TypeId} {v : Value} {fs : Array Field} (ht : P.underlying t = some (.struct fs)) (h : Value.okWide P w r base t v) : ∃ cs : List Value, v = .agg cs.toArray := by
  obtain ⟨cs, rfl, _⟩ := okWide_struct ht h
  exact ⟨cs.toList, by simp⟩

end Go.Proofs.YtokfcjgfpchffaaGreatDoor

/- What the walks take besides the library (no program in sight): rows that are made, filled, appended; what a callee tells; slices that the call owns; regions that draw their order, by one walk over the worlds that come of the first by new memory alone. -/
namespace Go.Proofs.YtokfcjgfpchffaaGreatDoor
open Go.ChangeShapes Go.WideShapes Go.ChangeAt Go.RowKit

theorem ret_int {k : IntKind} {a b : Int} (h : a = b) : Ending.returned (.int k a) = .returned (.int k b) := by rw [h]

/-- One number more at the end of a row that the call owns. -/
theorem own_snoc {w1 : World} {base n : Nat} {e : TypeId} {v' : Value} {l l' : List Int} {x : Int} (h : w1.ownsRow base e 1 v' (n + 1) (l.map (Value.int .i64) ++ [.int .i64 x])) (he : l' = l ++ [x]) :
    w1.ownsRow base e 1 v' (n + 1) (l'.map (Value.int .i64)) := by rw [he, List.map_append]; exact h

/-- A row that is filled from its head: the first k numbers are there, the rest are 0. -/
def fill (done : List Int) (n : Nat) : List Int := done ++ List.replicate (n - done.length) 0
theorem fill_length (done : List Int) (n : Nat) (h : done.length ≤ n) : (fill done n).length = n := by simp [fill]; omega
theorem fill_full (done : List Int) (n : Nat) (h : done.length = n) : fill done n = done := by simp [fill, h]
theorem fill_set (done : List Int) (n : Nat) (x : Int) (h : done.length < n) : (fill done n).set done.length x = fill (done ++ [x]) n := by
  unfold fill
  rw [List.set_append_right _ _ (Nat.le_refl _), Nat.sub_self, List.append_assoc]
  congr 1
  rw [show n - done.length = (n - (done ++ [x]).length) + 1 by simp; omega, List.replicate_succ, List.set_cons_zero]
  rfl
theorem fill_zero (n : Nat) : (madeCells #[.int .i64 0] n).toList = (fill [] n).map (Value.int .i64) := by
  apply List.ext_getElem
  · simp [fill, madeCells]
  · intro i h1 h2
    simp [fill, madeCells, Nat.mod_one]
theorem fill_get (done : List Int) (n k : Nat) (h : k < n) (hd : done.length ≤ n) : ∃ z, ((fill done n).map (Value.int .i64))[k]? = some (.int .i64 z) := by
  refine ⟨(fill done n)[k]'(by rw [fill_length _ _ hd]; exact h), ?_⟩
  rw [List.getElem?_map, List.getElem?_eq_getElem (by rw [fill_length _ _ hd]; exact h)]; rfl

theorem bel_then {w w1 w2 : World} (h : Below w.heap.size w w1) (k : Below w1.heap.size w1 w2) : Below w.heap.size w w2 := h.trans (k.mono h.size)

/-- A row that a literal has just laid. -/
theorem Row.lit {e : TypeId} (w : World) (cs : Array Value) (l : List Int) (hc : cs.toList = l.map (Value.int .i64)) : Row .i64 (w.alloc (.cells cs e)) (some ⟨w.heap.size, 0, none⟩) l.length l :=
  Row.of_block (heap_alloc_new w _) hc

theorem Row.made {e : TypeId} (w : World) (n : Nat) : Row .i64 (w.alloc (.cells (madeCells #[.int .i64 0] n) e)) (some ⟨w.heap.size, 0, none⟩) n (List.replicate n 0) := by
  have h := Row.of_block (k := .i64) (l := fill [] n) (heap_alloc_new w (.cells (madeCells #[.int .i64 0] n) e)) (fill_zero n)
  simpa [fill] using h

theorem run_append_row {P : Program} {w : World} {k : IntKind} (base : Nat) (t ty e : TypeId) (i : TypeInfo) (z : Value) (bytes : Nat) (ht : P.underlying t = some (.slice e)) (hi : P.info? e = some i) (hz : i.zero = some z)
    (hsize : i.size = 1) (hby : i.bytes = bytes) (hzs : z.cells.size = 1) (v : Value) (n : Nat) (xs : List Value) (hown : w.ownsRow base e 1 v n xs) (a : Option Addr) (m c : Nat) (l : List Int) (hr : Row k w a m l)
    (h63 : n + m ≤ maxLen) (hbytes : (n + m) * bytes ≤ 140737488355328) (hbase : base ≤ w.heap.size) :
    ∃ v' w', (Builtin.append_ #[t, t] ty #[v, .slice a m c]).run P w = .ok v' w' ∧ w'.ownsRow base e 1 v' (n + m) (xs ++ l.map (Value.int k)) ∧ w.grownBy w' v.ownBlock := by
  cases a with
  | none =>
    have hm : m = 0 := by
      rcases hr.2 with h | ⟨b, off, h, _⟩
      · exact h
      · cases h
    subst hm
    have hl : l = [] := List.eq_nil_of_length_eq_zero hr.1
    subst hl
    refine ⟨v, w, ?_, by simpa using hown, ⟨rfl, rfl, rfl, Nat.le_refl _, fun _ _ _ => rfl⟩⟩
    rcases hown.2 with ⟨rfl, rfl⟩ | ⟨g, cap, cur, rfl, _, _, hnc, _⟩
    · simp [Builtin.append_, run_underlying ht, sizeOf, typeInfo, hi, Builtin.lenOf, Builtin.firstCells]
    · simp [Builtin.append_, run_underlying ht, sizeOf, typeInfo, hi, Builtin.lenOf, Builtin.firstCells, hnc, storeCells]
  | some ad =>
    have hnews : ∀ j u, (l.map (Value.int k))[j]? = some u → w.cell? (ad.add j) = some u := by
      intro j u hu
      rw [List.getElem?_map, Option.map_eq_some_iff] at hu
      obtain ⟨x, hx, rfl⟩ := hu
      have hj : j < l.length := (List.getElem?_eq_some_iff.1 hx).1
      obtain ⟨b, off, hb, _, hc⟩ := hr.at (j := j) (by rw [← hr.1]; exact hj)
      obtain rfl : ad = ⟨b, off, none⟩ := by simpa using hb
      have hadd : (⟨b, off, none⟩ : Addr).add j = ⟨b, off + j, none⟩ := by unfold Addr.add; split <;> simp_all
      rw [hadd, hc, List.getD_eq_getElem?_getD, hx]; rfl
    obtain ⟨v', w', h1, h2, h3, _⟩ := run_append_own (P := P) w base t ty e i z 1 bytes ht hi hz hsize hby hzs (by omega) v n xs hown ad m c (l.map (Value.int k)) (by simp [hr.1]) hnews
      (by intro u hu; obtain ⟨x, _, rfl⟩ := List.mem_map.1 hu; rfl) h63 hbytes hbase
    exact ⟨v', w', h1, h2, h3⟩

theorem wpList_append_row {P : Program} {w : World} {k : IntKind} {ops : Array Oper} {rest : List Oper} {o : Oper} {a : Act} {Q : Exit → Act → World → Prop} (hgd : o.guard = none) (s x : Operand) (t : TypeId)
    (ho : o.op = .call { callee := .builtin .append, args := #[s, x], argTypes := #[t, t] })
    (base : Nat) (e : TypeId) (i : TypeInfo) (z : Value) (bytes : Nat) (ht : P.underlying t = some (.slice e)) (hi : P.info? e = some i) (hz : i.zero = some z)
    (hsize : i.size = 1) (hby : i.bytes = bytes) (hzs : z.cells.size = 1) (v : Value) (n : Nat) (xs : List Value) (hs : a.eval s = v) (hown : w.ownsRow base e 1 v n xs)
    (ad : Option Addr) (m c : Nat) (l : List Int) (hx : a.eval x = .slice ad m c) (hr : Row k w ad m l)
    (h63 : n + m ≤ maxLen) (hbytes : (n + m) * bytes ≤ 140737488355328) (hbase : base ≤ w.heap.size)
    (h : ∀ v' w', w'.ownsRow base e 1 v' (n + m) (xs ++ l.map (Value.int k)) → w.grownBy w' v.ownBlock → wpList P ops Q rest (a.put o.dst v') w') : wpList P ops Q (o :: rest) a w := by
  refine wpList_plain hgd fun K hK => ?_
  obtain ⟨v', w', hrun, h2, h3⟩ := run_append_row (P := P) (w := w) base t o.type e i z bytes ht hi hz hsize hby hzs v n xs hown ad m c l hr h63 hbytes hbase
  unfold Oper.wp
  simp [execOp, ho, resolve, invoke, builtin, hs, hx, hrun, Result.andThen]
  exact hK _ _ (h v' w' h2 h3)

theorem wpList_append_rows {P : Program} {w : World} {ops : Array Oper} {rest : List Oper} {o : Oper} {a : Act} {Q : Exit → Act → World → Prop} (hw : Region.wanted o (yielded ops a.tmps) = true) (s x : Operand) (t : TypeId)
    (ho : o.op = .call { callee := .builtin .append, args := #[s, x], argTypes := #[t, t] })
    (base : Nat) (e : TypeId) (i : TypeInfo) (ht : P.underlying t = some (.slice e)) (hi : P.info? e = some i) (hz : i.zero = some (.int .i64 0))
    (hsize : i.size = 1) (hby : i.bytes = 8) (v : Value) (n : Nat) (l1 : List Int) (hs : a.eval s = v) (hown : w.ownsRow base e 1 v n (l1.map (Value.int .i64)))
    (ad : Option Addr) (m c : Nat) (l : List Int) (hx : a.eval x = .slice ad m c) (hr : Row .i64 w ad m l)
    (hsm : n + m ≤ 100000) (hbase : base ≤ w.heap.size)
    (h : ∀ a' c' w', w'.ownsRow base e 1 (.slice a' (n + m) c') (n + m) ((l1 ++ l).map (Value.int .i64)) → Row .i64 w' a' (n + m) (l1 ++ l) → Below base w w' → wpList P ops Q rest (a.put o.dst (.slice a' (n + m) c')) w') : wpList P ops Q (o :: rest) a w := by
  refine wpList_step fun K hK => ?_
  rw [if_pos hw]
  obtain ⟨v', w', hrun, h2, h3⟩ := run_append_row (P := P) (w := w) base t o.type e i (.int .i64 0) 8 ht hi hz hsize hby rfl v n _ hown ad m c l hr (by unfold maxLen; omega) (by omega) hbase
  rw [← List.map_append] at h2
  obtain ⟨a', c', rfl, _, hrow⟩ := Row.of_owns h2
  have hb : Below base w w' := (Below.refl _ _).grown h3 hbase (fun g hg => (hown.lt g hg).1)
  unfold Oper.wp
  simp [execOp, ho, resolve, invoke, builtin, hs, hx, hrun, Result.andThen]
  exact hK _ _ (h a' c' w' h2 hrow hb)

theorem new_below (w : World) (o : Obj) : Below w.heap.size w (w.alloc o) := (Below.refl _ _).alloc (Nat.le_refl _) o

theorem own_empty {e : TypeId} (w : World) : (w.alloc (.cells #[] e)).ownsRow w.heap.size e 1 (.slice (some ⟨w.heap.size, 0, none⟩) 0 0) 0 (([] : List Int).map (Value.int .i64)) :=
  World.ownsRow_made w #[] 0 (Nat.le_refl _) (by simp [maxLen]) rfl

/-- It returns a bool: whether p. -/
def Says (e : Ending) (p : Prop) : Prop := ∃ b, e = .returned (.bool b) ∧ (b = true ↔ p)
theorem Says.yes {p : Prop} (h : p) : Says (.returned (.bool true)) p := ⟨true, rfl, by simp [h]⟩
theorem Says.no {p : Prop} (h : ¬ p) : Says (.returned (.bool false)) p := ⟨false, rfl, by simp [h]⟩
theorem Says.is {e : Ending} {p : Prop} (h : Says e p) (hp : p) : e = .returned (.bool true) := by
  obtain ⟨b, rfl, hb⟩ := h; rw [hb.2 hp]
theorem Says.not {e : Ending} {p : Prop} (h : Says e p) (hp : ¬ p) : e = .returned (.bool false) := by
  obtain ⟨b, rfl, hb⟩ := h
  cases b with
  | true => exact absurd (hb.1 rfl) hp
  | false => rfl

theorem mat_at {w : World} {F : Nat → Prop} {a : Option Addr} {n c : Nat} {m : List (List Int)} (h : matS.rep w F [.slice a n c] m) {j : Nat} (hj : j < n) :
    ∃ b off A C, a = some ⟨b, off, none⟩ ∧ b < w.heap.size ∧ w.cell? ⟨b, off + j, none⟩ = some (.slice A (m.getD j []).length C) ∧ rowS.rep w F [.slice A (m.getD j []).length C] (m.getD j []) := by
  have hl := (sliceS_len h).1
  have hjl : j < m.length := by omega
  obtain ⟨b, off, cs, ha, _, hb, hc, hr⟩ := sliceS_at h (by exact Nat.one_pos) hjl
  have e : m.getD j [] = m[j] := by rw [List.getD_eq_getElem?_getD, List.getElem?_eq_getElem hjl]; rfl
  rw [e]
  obtain ⟨A, C, css, rfl, h1, h2, h3, h4⟩ := hr
  refine ⟨b, off, A, C, ha, hb, ?_, A, C, css, rfl, h1, h2, h3, h4⟩
  have := hc 0 _ rfl
  rwa [show off + (j * rowS.size + 0) = off + j by show off + (j * 1 + 0) = off + j; omega] at this

theorem own_below {w w' : World} {B e size n : Nat} {v : Value} {xs : List Value} (h : w.ownsRow B e size v n xs) (hb : Below w.heap.size w w') : w'.ownsRow B e size v n xs :=
  h.kept (row := none) ⟨hb.os, hb.tape, hb.output, hb.size, fun j hj _ => hb.block j hj⟩ (by cases hv : v.ownBlock <;> simp)
theorem Own.of_row {k : IntKind} {w : World} {base : Nat} {e : TypeId} {v : Value} {l : List Int} (h : w.ownsRow base e 1 v l.length (l.map (Value.int k))) : Own (intS k) w base e v l :=
  ⟨l.map fun x => [.int k x], by rw [ints_flat]; exact h, ints_all _ _ _ _⟩
theorem rep_of_row {k : IntKind} {w : World} {base : Nat} {e : TypeId} {v : Value} {n : Nat} {l : List Int} (h : w.ownsRow base e 1 v n (l.map (Value.int k))) :
    ∃ a c, v = .slice a n c ∧ (sliceS (intS k)).rep w everywhere [.slice a n c] l := by
  have hl : l.length = n := by simpa using h.1
  subst hl
  exact (Own.of_row h).rep

/-- It returns the n numbers l and true if p, else nothing and false. -/
def Gives (e : Ending) (w' : World) (n : Nat) (l : List Int) (p : Prop) : Prop :=
  (p ∧ ∃ a c, e = .returned (.tuple #[.slice a n c, .bool true]) ∧ rowS.rep w' everywhere [.slice a n c] l) ∨ (¬ p ∧ e = .returned (.tuple #[.slice none 0 0, .bool false]))

/-- Rows that a literal has just laid. -/
theorem rep_lit {α : Type} {A : Shape α} {w : World} {F : Nat → Prop} (css : List (List Value)) (xs : List α) (e : TypeId) (h : A.all w F css xs) (hm : xs.length ≤ maxLen) :
    (sliceS A).rep (w.alloc (.cells css.flatten.toArray e)) everywhere [.slice (some ⟨w.heap.size, 0, none⟩) xs.length xs.length] xs := by
  refine ⟨_, _, css, rfl, Nat.le_refl _, hm, Shape.all_mono (Shape.all_keep h fun b _ hlt => Below.heap_alloc w _ b hlt) (fun _ _ _ => trivial), .inr ⟨w.heap.size, 0, rfl, trivial, by simp, fun j v hv => ?_⟩⟩
  rw [cell_of_row _ w.heap.size (0 + j) css.flatten.toArray e (0, 0) (heap_alloc_new w _)]
  simpa using hv
theorem row_lit (w : World) (l : List Int) (e : TypeId) (hm : l.length ≤ maxLen) : rowS.rep (w.alloc (.cells (l.map (Value.int .i64)).toArray e)) everywhere [.slice (some ⟨w.heap.size, 0, none⟩) l.length l.length] l := by
  have h := rep_lit (l.map fun x => [Value.int .i64 x]) l e (ints_all .i64 w everywhere l) hm
  rw [ints_flat] at h
  exact h
theorem rep_none {α : Type} (A : Shape α) (w : World) (F : Nat → Prop) : (sliceS A).rep w F [.slice none 0 0] [] := ⟨none, 0, [], rfl, Nat.le_refl _, Nat.zero_le _, Shape.all_nil, .inl rfl⟩

theorem bel_alloc {w w' : World} (h : Below w.heap.size w w') (o : Obj) : Below w.heap.size w (w'.alloc o) := h.alloc h.size o
theorem new_bel (w : World) (o : Obj) : Below w.heap.size w (w.alloc o) := (Below.refl _ _).alloc (Nat.le_refl _) o

/-- Whether p, as a bool. -/
noncomputable def tell (p : Prop) : Bool := @decide p (Classical.propDecidable p)
theorem tell_yes {p : Prop} (h : p) : tell p = true := by unfold tell; simp [h]
theorem tell_no {p : Prop} (h : ¬ p) : tell p = false := by unfold tell; simp [h]
theorem tell_iff {p q : Prop} (h : p ↔ q) : tell p = tell q := by
  by_cases hp : p
  · rw [tell_yes hp, tell_yes (h.1 hp)]
  · rw [tell_no hp, tell_no (fun hq => hp (h.2 hq))]
theorem Says.form {e : Ending} {p : Prop} (h : Says e p) : e = .returned (.bool (tell p)) := by
  by_cases hp : p
  · rw [tell_yes hp]; exact h.is hp
  · rw [tell_no hp]; exact h.not hp

theorem by_says {P : Program} {f : FuncId} {args : Array Value} {w : World} {p : Prop} {Q : Ending → World → Prop} (h : Calls P f args w fun e w' => Says e p ∧ w' = w) (hy : p → Q (.returned (.bool true)) w) (hn : ¬ p → Q (.returned (.bool false)) w) : Calls P f args w Q :=
  h.mono (by
    rintro e w' ⟨hs, rfl⟩
    by_cases hp : p
    · rw [hs.is hp]; exact hy hp
    · rw [hs.not hp]; exact hn hp)
theorem by_form {P : Program} {f : FuncId} {args : Array Value} {w : World} {p : Prop} {Q : Ending → World → Prop} (h : Calls P f args w fun e w' => Says e p ∧ w' = w) (hq : Q (.returned (.bool (tell p))) w) : Calls P f args w Q :=
  h.mono (by rintro e w' ⟨hs, rfl⟩; rw [hs.form]; exact hq)

/-- What Apply answers, as one form for both its ways. -/
noncomputable def outLen (p : Prop) (n : Nat) : Nat := @ite _ p (Classical.propDecidable p) n 0
noncomputable def outRow (p : Prop) (l : List Int) : List Int := @ite _ p (Classical.propDecidable p) l []
theorem outLen_le (p : Prop) (n : Nat) : outLen p n ≤ n := by unfold outLen; split <;> omega
theorem Gives.form {e : Ending} {w' : World} {n : Nat} {l : List Int} {p : Prop} (h : Gives e w' n l p) :
    ∃ a c, e = .returned (.tuple #[.slice a (outLen p n) c, .bool (tell p)]) ∧ rowS.rep w' everywhere [.slice a (outLen p n) c] (outRow p l) := by
  rcases h with ⟨hp, a, c, he, hr⟩ | ⟨hp, he⟩
  · refine ⟨a, c, ?_, ?_⟩
    · rw [tell_yes hp]; unfold outLen; rw [if_pos hp]; exact he
    · unfold outLen outRow; rw [if_pos hp, if_pos hp]; exact hr
  · refine ⟨none, 0, ?_, ?_⟩
    · rw [tell_no hp]; unfold outLen; rw [if_neg hp]; exact he
    · unfold outLen outRow; rw [if_neg hp, if_neg hp]; exact rep_none _ _ _

/-- What came in is there in whatever world comes of the first. -/
theorem Shape.now {α : Type} {A : Shape α} {w u : World} {cs : List Value} {x : α} (h : A.rep w (· < w.heap.size) cs x) (hb : Below w.heap.size w u) : A.rep u (· < w.heap.size) cs x :=
  A.keep h fun b hlt _ => hb.block b hlt

theorem Own.empty {α : Type} (A : Shape α) (w : World) (e : TypeId) : Own A (w.alloc (.cells #[] e)) w.heap.size e (.slice (some ⟨w.heap.size, 0, none⟩) 0 0) [] :=
  ⟨[], World.ownsRow_made w #[] 0 (Nat.le_refl _) (by simp [maxLen]) (by simp), Shape.all_nil⟩

theorem Own.is {α : Type} {A : Shape α} {w : World} {base : Nat} {e : TypeId} {a : Option Addr} {n c : Nat} {xs : List α} (h : Own A w base e (.slice a n c) xs) : (sliceS A).rep w everywhere [.slice a n c] xs := by
  obtain ⟨a', c', he, hr⟩ := h.rep
  cases he
  exact hr
theorem Gives.yes {e : Ending} {w' : World} {n : Nat} {l : List Int} {p : Prop} (h : Gives e w' n l p) (hp : p) : ∃ a c, e = .returned (.tuple #[.slice a n c, .bool true]) ∧ rowS.rep w' everywhere [.slice a n c] l := by
  rcases h with ⟨_, h⟩ | ⟨hn, _⟩
  · exact h
  · exact absurd hp hn
theorem Gives.no {e : Ending} {w' : World} {n : Nat} {l : List Int} {p : Prop} (h : Gives e w' n l p) (hp : ¬ p) : e = .returned (.tuple #[.slice none 0 0, .bool false]) := by
  rcases h with ⟨hy, _⟩ | ⟨_, h⟩
  · exact absurd hy hp
  · exact h

/-- A world that comes of w by new memory alone. -/
structure Later (w : World) where
  u : World
  h : Below w.heap.size w u

theorem Later.there (w : World) : Nonempty (Later w) := ⟨⟨w, Below.refl _ w⟩⟩
theorem Later.cell {w : World} {p : Addr} {v : Value} (hc : w.cell? p = some v) (x : Later w) : x.u.cell? p = some v := (x.h.cell (World.block_lt_of_cell? w _ hc)).trans hc
theorem Later.call {P : Program} {f : FuncId} {args : Array Value} {w : World} {v : Value} {x : Later w} (h : Calls P f args x.u fun e w' => e = .returned v ∧ Below x.u.heap.size x.u w') :
    Calls P f args x.u fun e w'' => e = .returned v ∧ ∃ y : Later w, w'' = y.u :=
  h.mono fun _ w'' ⟨he, hb⟩ => ⟨he, ⟨w'', x.h.trans (hb.mono x.h.size)⟩, rfl⟩
theorem Later.same {P : Program} {f : FuncId} {args : Array Value} {w : World} {v : Value} {x : Later w} (h : Calls P f args x.u fun e w' => e = .returned v ∧ w' = x.u) :
    Calls P f args x.u fun e w'' => e = .returned v ∧ ∃ y : Later w, w'' = y.u :=
  h.mono fun _ _ ⟨he, hb⟩ => ⟨he, x, hb⟩

theorem region_later {P : Program} {id : Nat} {Q : Exit → Act → World → Prop} {a : Act} {w : World} {l : List Oper} (hm : P.follows .mixedOrders = true) (hB : Region.lexB .any l.toArray = true)
    (h : wpQuiet P l.toArray (fun w' => ∃ x : Later w, w' = x.u) (fun a' => ∀ x : Later w, Q .normal a' x.u) l a) : (Code.region id l.toArray true).wp P Q a w := by
  refine wp_region_quiet (C := fun w' => ∃ x : Later w, w' = x.u) hm hB ⟨⟨_, (Below.refl _ w).drew⟩, rfl⟩ ?_
  have e : (fun a' => ∀ w', (∃ x : Later w, w' = x.u) → Q .normal a' w') = fun a' => ∀ x : Later w, Q .normal a' x.u := by
    funext a'
    apply propext
    constructor
    · intro h x; exact h _ ⟨x, rfl⟩
    · rintro h w' ⟨x, rfl⟩; exact h x
  rw [e]
  simpa using h

/-! ### A store into a slice that the call owns -/
theorem Own.form {α : Type} {A : Shape α} {w : World} {base : Nat} {e : TypeId} {a : Option Addr} {n c : Nat} {xs : List α} (h : Own A w base e (.slice a n c) xs) (hn : 0 < n) : ∃ g, a = some ⟨g, 0, none⟩ ∧ base ≤ g ∧ g < w.heap.size ∧ xs.length = n := by
  have hl := (sliceS_len h.is).1
  obtain ⟨css, ⟨_, h1⟩, _⟩ := h
  rcases h1 with ⟨he, h0⟩ | ⟨g, cap, cur, he, hb, hg, _⟩
  · omega
  · cases he
    exact ⟨g, rfl, hb, (Array.getElem?_eq_some_iff.1 hg).1, hl⟩
theorem flat_set1 {css : List (List Value)} (h : ∀ c ∈ css, c.length = 1) (j : Nat) (v : Value) : (css.set j [v]).flatten = css.flatten.set j v := by
  induction css generalizing j with
  | nil => simp
  | cons c css ih =>
    have h1 := h c (by simp)
    have h2 := ih fun d hd => h d (by simp [hd])
    obtain ⟨u, rfl⟩ : ∃ u, c = [u] := List.length_eq_one_iff.1 h1
    cases j with
    | zero => simp
    | succ j => simp [h2 j]
theorem Own.store {α : Type} {A : Shape α} {w : World} {base : Nat} {e : TypeId} {g n c : Nat} {xs : List α} (hs : A.size = 1) (h : Own A w base e (.slice (some ⟨g, 0, none⟩) n c) xs) {j : Nat} (hj : j < n) {v : Value} {x : α} {F : Nat → Prop} (hx : A.rep w F [v] x) (hF : ∀ b, F b → b ≠ g) :
    (∃ z, w.cell? ⟨g, j, none⟩ = some z) ∧ w.frozen? ⟨g, j, none⟩ = false ∧ Own A (w.setCell ⟨g, j, none⟩ v) base e (.slice (some ⟨g, 0, none⟩) n c) (xs.set j x) := by
  have hl := (sliceS_len h.is).1
  obtain ⟨css, hrow, hall⟩ := h
  subst hl
  have hlen := Shape.all_len hall
  rw [hs] at hlen
  have hfl : css.flatten.length = xs.length := by rw [flat_len hlen, hall.1, Nat.mul_one]
  refine ⟨⟨css.flatten[j]'(by omega), ?_⟩, hrow.frozenAt j, css.set j [v], ?_, ?_⟩
  · rw [hrow.cellAt j (by rw [hs, Nat.mul_one]; exact hj)]; exact List.getElem?_eq_getElem (by omega)
  · rw [flat_set1 hlen, List.length_set]; exact (hrow.stored j v).1
  · have k1 := Shape.all_set (j := j) hall (A.mono hx fun b hb _ => show some b ≠ Value.ownBlock (.slice (some ⟨g, 0, none⟩) xs.length c) from fun e => hF b hb (by injection e))
    exact Shape.all_keep k1 fun b hb _ => Below.heap_setCell w _ v b (fun e => hb (by rw [e]; rfl))

/-- A row of numbers that the call owns, among its own blocks. -/
theorem rep_high {k : IntKind} {w : World} {base : Nat} {e : TypeId} {a : Option Addr} {n c : Nat} {l : List Int} (h : w.ownsRow base e 1 (.slice a n c) n (l.map (Value.int k))) : (sliceS (intS k)).rep w (base ≤ ·) [.slice a n c] l := by
  obtain ⟨a', c', he, hr⟩ := rep_of_row h
  cases he
  obtain ⟨hl, hc, hm⟩ := sliceS_len hr
  refine (Row.of_rep hr).rep hc hm (fun b off hb => ?_)
  subst hb
  exact (h.lt b rfl).1

/-! ### Numbers that are appended -/
/-- A row of numbers stays where another one grows. -/
theorem Own.other {k : IntKind} {w w' : World} {base : Nat} {e : TypeId} {v : Value} {xs : List Int} {u : Option Nat} (h : Own (intS k) w base e v xs) (hg : w.grownBy w' u) (hne : ∀ b, v.ownBlock = some b → u ≠ some b) : Own (intS k) w' base e v xs := by
  obtain ⟨css, h1, h2⟩ := h
  refine ⟨css, h1.kept hg ?_, h2.1, fun j c x hc hx => h2.2 j c x hc hx⟩
  cases hv : v.ownBlock with
  | none => exact .inl rfl
  | some b => exact .inr (fun c => hne b hv c.symm)
/-- The number that 'append(v, x)' appends: in a block of its own. -/
theorem Own.src {k : IntKind} {w : World} {base : Nat} {e : TypeId} {v : Value} {xs : List Int} (x : Int) (h : Own (intS k) w base e v xs) :
    (sliceS (intS k)).rep (w.alloc (.cells #[.int k x] e)) (fun b => False ∨ b = w.heap.size) [.slice (some ⟨w.heap.size, 0, none⟩) 1 1] [x] ∧ ∀ b, (False ∨ b = w.heap.size) → some b ≠ v.ownBlock := by
  refine ⟨rep_at (cs := [.int k x]) (F := fun _ => False) rfl (heap_new _ _ _ rfl), fun b hb h' => ?_⟩
  have := (h.lt b h'.symm).2
  rcases hb with hf | rfl
  · exact hf
  · omega
/-! 'append(append([]int{}, l...), x)' in a region that draws its order: the empty one is laid, l appended, x laid (1); the empty one, x, l appended (2); x, the empty one, l appended (3). -/
namespace Lay
variable {k : IntKind} {e : TypeId}
theorem b1 (w : World) (e : TypeId) : Below w.heap.size w (w.alloc (.cells #[] e)).drew := (new_bel _ _).drew
theorem b2 (w : World) (e : TypeId) (v : Value) : Below w.heap.size w ((w.alloc (.cells #[] e)).alloc (.cells #[v] e)).drew := (bel_alloc (new_bel _ _) _).drew
theorem b3 (w : World) (e : TypeId) (v : Value) : Below w.heap.size w ((w.alloc (.cells #[v] e)).alloc (.cells #[] e)).drew := (bel_alloc (new_bel _ _) _).drew
theorem own1 {α : Type} (A : Shape α) (w : World) (e : TypeId) : Own A (w.alloc (.cells #[] e)).drew w.heap.size e (.slice (some ⟨w.heap.size, 0, none⟩) 0 0) [] :=
  Own.of_empty _ (heap_new w (.cells #[] e) _ rfl) (Nat.le_refl _)
theorem own2 {α : Type} (A : Shape α) (w : World) (e : TypeId) (v : Value) : Own A ((w.alloc (.cells #[] e)).alloc (.cells #[v] e)).drew w.heap.size e (.slice (some ⟨w.heap.size, 0, none⟩) 0 0) [] :=
  Own.of_empty _ (heap_old (w.alloc (.cells #[] e)) _ _ _ (by simp) (heap_new w (.cells #[] e) _ rfl)) (Nat.le_refl _)
theorem own3 {α : Type} (A : Shape α) (w : World) (e : TypeId) (v : Value) : Own A ((w.alloc (.cells #[v] e)).alloc (.cells #[] e)).drew w.heap.size e (.slice (some ⟨w.heap.size + 1, 0, none⟩) 0 0) [] :=
  Own.of_empty _ (heap_new (w.alloc (.cells #[v] e)) (.cells #[] e) _ (by simp)) (Nat.le_succ _)
theorem src_old {W u : World} {x : Int} {g h : Nat} {v' : Value} (hL : W.heap[g]? = some (.cells #[.int k x] e (0, 0)))
    (hg : W.grownBy u (some h)) (hgh : g ≠ h) (hat : v'.ownBlock = some h ∨ v'.ownBlock = some W.heap.size) :
    (sliceS (intS k)).rep u (fun b => False ∨ b = g) [.slice (some ⟨g, 0, none⟩) 1 1] [x] ∧ ∀ b, (False ∨ b = g) → some b ≠ v'.ownBlock := by
  have hgl : g < W.heap.size := (Array.getElem?_eq_some_iff.1 hL).1
  refine ⟨rep_at (cs := [.int k x]) (F := fun _ => False) rfl ((hg.block g hgl (fun e => hgh (Option.some.inj e))).trans hL), fun b hb hv => ?_⟩
  rcases hb with hf | rfl
  · exact hf
  · rcases hat with e | e
    · rw [e] at hv; exact hgh (Option.some.inj hv)
    · rw [e] at hv; have := Option.some.inj hv; omega
theorem src2 {w u : World} {x : Int} {v' : Value} (hg : ((w.alloc (.cells #[] e)).alloc (.cells #[.int k x] e)).drew.grownBy u (Value.ownBlock (.slice (some ⟨w.heap.size, 0, none⟩) 0 0)))
    (hat : v'.ownBlock = Value.ownBlock (.slice (some ⟨w.heap.size, 0, none⟩) 0 0) ∨ v'.ownBlock = some ((w.alloc (.cells #[] e)).alloc (.cells #[.int k x] e)).drew.heap.size) :
    (sliceS (intS k)).rep u (fun b => False ∨ b = w.heap.size + 1) [.slice (some ⟨w.heap.size + 1, 0, none⟩) 1 1] [x] ∧ ∀ b, (False ∨ b = w.heap.size + 1) → some b ≠ v'.ownBlock :=
  src_old (W := ((w.alloc (.cells #[] e)).alloc (.cells #[.int k x] e)).drew) (h := w.heap.size) (heap_new (w.alloc (.cells #[] e)) (.cells #[.int k x] e) _ (by simp)) hg (by omega) hat
theorem src3 {w u : World} {x : Int} {v' : Value} (hg : ((w.alloc (.cells #[.int k x] e)).alloc (.cells #[] e)).drew.grownBy u (Value.ownBlock (.slice (some ⟨w.heap.size + 1, 0, none⟩) 0 0)))
    (hat : v'.ownBlock = Value.ownBlock (.slice (some ⟨w.heap.size + 1, 0, none⟩) 0 0) ∨ v'.ownBlock = some ((w.alloc (.cells #[.int k x] e)).alloc (.cells #[] e)).drew.heap.size) :
    (sliceS (intS k)).rep u (fun b => False ∨ b = w.heap.size) [.slice (some ⟨w.heap.size, 0, none⟩) 1 1] [x] ∧ ∀ b, (False ∨ b = w.heap.size) → some b ≠ v'.ownBlock :=
  src_old (W := ((w.alloc (.cells #[.int k x] e)).alloc (.cells #[] e)).drew) (h := w.heap.size + 1) (heap_old (w.alloc (.cells #[.int k x] e)) _ (.cells #[] e) _ (by simp) (heap_new w (.cells #[.int k x] e) _ rfl)) hg (by omega) hat
end Lay

end Go.Proofs.YtokfcjgfpchffaaGreatDoor

/- Variables of a struct's type as blocks, what is written into them, and slices that are cut (no program in sight). -/
namespace Go.Proofs.YtokfcjgfpchffaaGreatDoor
open Go.ChangeShapes Go.WideShapes Go.ChangeAt Go.RowKit

/-- A variable of a struct's or an array's type: block b holds the cells cs. -/
def Box (u : World) (b : Nat) (t : TypeId) (cs : Array Value) : Prop := u.heap[b]? = some (.cells cs t (0, 0))
section
variable {u u' : World} {b : Nat} {t : TypeId} {cs : Array Value}
theorem Box.lt (h : Box u b t cs) : b < u.heap.size := (Array.getElem?_eq_some_iff.1 h).1
theorem Box.cell (h : Box u b t cs) (i : Nat) {v : Value} (hv : cs[i]? = some v) : u.cell? ⟨b, i, none⟩ = some v := (Joins.cell_of_block h i).trans hv
theorem Box.free (h : Box u b t cs) (i : Nat) : u.frozen? ⟨b, i, none⟩ = false := Joins.unfrozen_of_block h i
theorem Box.keep (h : Box u b t cs) (hb : Below u.heap.size u u') : Box u' b t cs := (hb.block b h.lt).trans h
theorem Box.below (h : Box u b t cs) {B : Nat} (hb : Below B u u') (hB : b < B) : Box u' b t cs := (hb.block b hB).trans h
theorem Box.grown (h : Box u b t cs) {row : Option Nat} (hg : u.grownBy u' row) (hr : some b ≠ row) : Box u' b t cs := (hg.block b h.lt hr).trans h
theorem Box.set (h : Box u b t cs) (i : Nat) (v : Value) : Box (u.setCell ⟨b, i, none⟩ v) b t (cs.setIfInBounds i v) := Joins.block_setCell h v
theorem Box.other (h : Box u b t cs) {b2 i : Nat} (v : Value) (hne : b ≠ b2) : Box (u.setCell ⟨b2, i, none⟩ v) b t cs := (Below.heap_setCell u _ v b hne).trans h
theorem Box.new (u : World) (t : TypeId) (cs : Array Value) : Box (u.alloc (.cells cs t)) u.heap.size t cs := heap_alloc_new u _
theorem Box.draw (h : Box u b t cs) : Box u.drew b t cs := h
end

theorem bel_put {B : Nat} {a w : World} (h : Below B a w) {b i : Nat} (hb : B ≤ b) (v : Value) : Below B a (w.setCell ⟨b, i, none⟩ v) := h.setCell hb v

theorem Own.high {k : IntKind} {w : World} {base : Nat} {e : TypeId} {a : Option Addr} {n c : Nat} {xs : List Int} (h : Own (intS k) w base e (.slice a n c) xs) : (sliceS (intS k)).rep w (base ≤ ·) [.slice a n c] xs := by
  obtain ⟨_, hc, hm⟩ := sliceS_len h.is
  exact (Row.of_rep h.is).rep hc hm (fun b off hb => by subst hb; exact (h.lt b rfl).1)
theorem grown_set (u : World) (b i : Nat) (v : Value) : u.grownBy (u.setCell ⟨b, i, none⟩ v) (some b) := by
  have h : Below b u (u.setCell ⟨b, i, none⟩ v) := bel_put (Below.refl _ _) (Nat.le_refl _) v
  exact ⟨h.os, h.tape, h.output, h.size, fun k hk hne => Below.heap_setCell u _ v k (fun e => hne (by rw [e]))⟩
theorem grown_refl (u : World) (r : Option Nat) : u.grownBy u r := ⟨rfl, rfl, rfl, Nat.le_refl _, fun _ _ _ => rfl⟩
theorem grown_then {u v w : World} {r : Option Nat} (h : u.grownBy v r) (k : v.grownBy w r) : u.grownBy w r := ⟨k.os.trans h.os, k.tape.trans h.tape, k.output.trans h.output, Nat.le_trans h.size k.size, fun j hj hne => (k.block j (Nat.lt_of_lt_of_le hj h.size) hne).trans (h.block j hj hne)⟩

/-- A function whose results are a struct and one more, the struct in a variable. -/
theorem ret_var {P : Program} {fn : Func} {R : Ending → World → Prop} {a : Act} {u : World} {b : Nat} {t : TypeId} {fs : Array Field} {cs : Array Value} {p q : Tmp} {v2 : Value} {k : Nat} (hu : P.underlying t = some (.struct fs)) (hi : (P.info? t).map (·.size) = some k)
    (hres : fn.results = #[.cell p t, .tmp q]) (hd : a.defers = []) (hp : a.tmps.getD p undef = .pointer (some ⟨b, 0, none⟩)) (hq : a.tmps.getD q undef = v2) (hB : Box u b t cs) (hk : cs.size = k) (hR : R (.returned (.tuple #[.agg cs, v2])) u) : bodyPost P fn R .ret a u := by
  have hld := run_loadVar_row (P := P) u b t t cs (0, 0) _ hB hu rfl (by rw [hi, hk])
  refine bodyPost_ret (v := .tuple #[.agg cs, v2]) ?_ hd hR
  rw [results_cell_tmp hres, hp, hq]
  simp [asAddr, Result.andThen, hld]

/-- A function whose one result is a struct in a variable. -/
theorem ret_one {P : Program} {fn : Func} {R : Ending → World → Prop} {a : Act} {u : World} {b : Nat} {t : TypeId} {fs : Array Field} {cs : Array Value} {p : Tmp} {k : Nat} (hu : P.underlying t = some (.struct fs)) (hi : (P.info? t).map (·.size) = some k)
    (hres : fn.results = #[.cell p t]) (hd : a.defers = []) (hp : a.tmps.getD p undef = .pointer (some ⟨b, 0, none⟩)) (hB : Box u b t cs) (hk : cs.size = k) (hR : R (.returned (.agg cs)) u) : bodyPost P fn R .ret a u := by
  have hld := run_loadVar_row (P := P) u b t t cs (0, 0) _ hB hu rfl (by rw [hi, hk])
  refine bodyPost_ret (v := .agg cs) ?_ hd hR
  have hp' : a.tmps[p]?.getD undef = .pointer (some ⟨b, 0, none⟩) := by simpa using hp
  simp only [results, hres]
  simp [asAddr, hp', hld]

/-! ### Variables of two cells -/
theorem Box.all2 {u : World} {b : Nat} {t : TypeId} {p0 p1 : Value} (h : Box u b t #[p0, p1]) (v0 v1 : Value) : Box ((u.setCell ⟨b, 0, none⟩ v0).setCell ⟨b, 1, none⟩ v1) b t #[v0, v1] := by
  have := (h.set 0 v0).set 1 v1
  simp only [List.setIfInBounds_toArray, List.set_cons_zero, List.set_cons_succ] at this
  exact this
theorem Box.all2_other {u : World} {b b2 : Nat} {t : TypeId} {cs : Array Value} (h : Box u b t cs) (hne : b ≠ b2) (v0 v1 : Value) : Box ((u.setCell ⟨b2, 0, none⟩ v0).setCell ⟨b2, 1, none⟩ v1) b t cs := (h.other v0 hne).other v1 hne
theorem bel_all2 {B : Nat} {a u : World} (h : Below B a u) {b : Nat} (hb : B ≤ b) (v0 v1 : Value) : Below B a ((u.setCell ⟨b, 0, none⟩ v0).setCell ⟨b, 1, none⟩ v1) := bel_put (bel_put h hb v0) hb v1
theorem all2_block (u : World) {b k : Nat} (hk : k ≠ b) (v0 v1 : Value) : ((u.setCell ⟨b, 0, none⟩ v0).setCell ⟨b, 1, none⟩ v1).heap[k]? = u.heap[k]? :=
  (Below.heap_setCell _ _ v1 k hk).trans (Below.heap_setCell u _ v0 k hk)
theorem Shape.all2 {α : Type} {A : Shape α} {u : World} {F : Nat → Prop} {cs : List Value} {x : α} {b : Nat} (h : A.rep u F cs x) (hF : ∀ k, F k → k < u.heap.size → k ≠ b) (v0 v1 : Value) : A.rep ((u.setCell ⟨b, 0, none⟩ v0).setCell ⟨b, 1, none⟩ v1) F cs x :=
  A.keep h fun k hk hlt => all2_block u (hF k hk hlt) v0 v1

/-! ### Slices that are cut -/
section
variable {α : Type} {A : Shape α} {w : World} {F : Nat → Prop} {a : Option Addr} {n c : Nat} {xs : List α}
theorem all_take {css : List (List Value)} (h : A.all w F css xs) (k : Nat) : A.all w F (css.take k) (xs.take k) := by
  refine ⟨by rw [List.length_take, List.length_take, h.1], fun j d x h1 h2 => ?_⟩
  rw [List.getElem?_take] at h1 h2
  split at h1
  · rename_i hj; rw [if_pos hj] at h2; exact h.2 j d x h1 h2
  · cases h1
theorem all_drop {css : List (List Value)} (h : A.all w F css xs) (k : Nat) : A.all w F (css.drop k) (xs.drop k) := by
  refine ⟨by rw [List.length_drop, List.length_drop, h.1], fun j d x h1 h2 => ?_⟩
  rw [List.getElem?_drop] at h1 h2
  exact h.2 _ d x h1 h2
/-- 's[:k]' -/
theorem rep_take (h : (sliceS A).rep w F [.slice a n c] xs) {k : Nat} (hk : k ≤ n) : (sliceS A).rep w F [.slice a k c] (xs.take k) := by
  obtain ⟨hl, hc1, hc2⟩ := sliceS_len h
  obtain ⟨a', c', css, he, h1, h2, h3, h4⟩ := h
  simp at he
  obtain ⟨rfl, _, rfl⟩ := he
  have hlk : (xs.take k).length = k := by rw [List.length_take]; omega
  refine ⟨a, c, css.take k, by rw [hlk], by omega, h2, all_take h3 k, ?_⟩
  rcases h4 with h0 | ⟨b, off, rfl, hF, hb, hc⟩
  · refine .inl ?_
    have e : css.flatten = (css.take k).flatten ++ (css.drop k).flatten := by rw [← List.flatten_append, List.take_append_drop]
    rw [e] at h0
    exact (List.append_eq_nil_iff.1 h0).1
  · refine .inr ⟨b, off, rfl, hF, hb, fun j v hv => hc j v ?_⟩
    have e : css.flatten = (css.take k).flatten ++ (css.drop k).flatten := by rw [← List.flatten_append, List.take_append_drop]
    rw [e, List.getElem?_append_left (List.getElem?_eq_some_iff.1 hv).1]
    exact hv
/-- 's[k:]' -/
theorem rep_drop (h : (sliceS A).rep w F [.slice a n c] xs) {k : Nat} (hk : k ≤ n) : (sliceS A).rep w F [.slice (if c = k then a else a.map (·.add (k * A.size))) (n - k) (c - k)] (xs.drop k) := by
  obtain ⟨hl, hc1, hc2⟩ := sliceS_len h
  obtain ⟨a', c', css, he, h1, h2, h3, h4⟩ := h
  simp at he
  obtain ⟨rfl, _, rfl⟩ := he
  have hlk : (xs.drop k).length = n - k := by rw [List.length_drop]; omega
  have hcl := flat_len (fun d hd => Shape.all_len (all_take h3 k) d hd)
  have hck : (css.take k).length = k := by rw [List.length_take, h3.1]; omega
  rw [hck] at hcl
  refine ⟨_, c - k, css.drop k, by rw [hlk], by omega, by omega, all_drop h3 k, ?_⟩
  have e : css.flatten = (css.take k).flatten ++ (css.drop k).flatten := by rw [← List.flatten_append, List.take_append_drop]
  by_cases hn : k = n
  · refine .inl ?_
    rw [List.drop_of_length_le (by rw [h3.1]; omega)]
    rfl
  rcases h4 with h0 | ⟨b, off, rfl, hF, hb, hc⟩
  · refine .inl ?_
    rw [e] at h0
    exact (List.append_eq_nil_iff.1 h0).2
  · refine .inr ⟨b, off + k * A.size, ?_, hF, hb, fun j v hv => ?_⟩
    · rw [if_neg (by omega)]
      simp [Addr.add_lit]
    · rw [Nat.add_assoc]
      refine hc (k * A.size + j) v ?_
      rw [e, List.getElem?_append_right (by omega), hcl, Nat.add_sub_cancel_left]
      exact hv
end

end Go.Proofs.YtokfcjgfpchffaaGreatDoor

/- Entries in memory and ledgers as lists (no program in sight): an entry is a key of four numbers and a row, in five cells. -/
namespace Go.Proofs.YtokfcjgfpchffaaGreatDoor
open Go.ChangeShapes Go.WideShapes Go.ChangeAt Go.RowKit

/-! ### What lies among certain blocks, and stores of whole elements -/
/-- The same, in blocks of P alone. -/
def inS {α : Type} (A : Shape α) (P : Nat → Prop) : Shape α where
  size := A.size
  rep w F cs x := A.rep w (fun b => F b ∧ P b) cs x
  len h := A.len h
  one h := A.one h
  keep h hk := A.keep h fun b hb hlt => hk b hb.1 hlt
  mono h hm := A.mono h fun b hb hlt => ⟨hm b hb.1 hlt, hb.2⟩
theorem inS_of {α : Type} {A : Shape α} {P F : Nat → Prop} {w : World} {cs : List Value} {x : α} (h : A.rep w F cs x) (hP : ∀ b, F b → P b) : (inS A P).rep w F cs x := A.mono h fun b hb _ => ⟨hb, hP b hb⟩
theorem Own.within {α : Type} {A : Shape α} {w : World} {base : Nat} {e : TypeId} {a : Option Addr} {n c : Nat} {xs : List α} (h : Own (inS A (base ≤ ·)) w base e (.slice a n c) xs) : (sliceS A).rep w (base ≤ ·) [.slice a n c] xs := by
  obtain ⟨css, ⟨hl, h1⟩, h2⟩ := h
  have h2' : A.all w (base ≤ ·) css xs := ⟨h2.1, fun j c x hc hx => A.mono (h2.2 j c x hc hx) fun b hb _ => hb.2⟩
  rcases h1 with ⟨he, h0⟩ | ⟨g, cap, cur, he, hb, hg, hnc, hcm, hcs, htake⟩
  · cases he
    have hx := List.eq_nil_of_length_eq_zero h0
    subst hx
    exact rep_none _ _ _
  · cases he
    refine ⟨some ⟨g, 0, none⟩, c, css, rfl, hnc, hcm, h2', .inr ⟨g, 0, rfl, hb, (Array.getElem?_eq_some_iff.1 hg).1, fun j u hu => ?_⟩⟩
    rw [cell_of_row w g (0 + j) cur e (0, 0) hg]
    have hj := (List.getElem?_eq_some_iff.1 hu).1
    rw [← htake, List.getElem?_take] at hu
    split at hu
    · simpa using hu
    · cases hu

/-- The values vs, stored one behind the other from cell i of block g on. -/
def setRun (w : World) (g i : Nat) : List Value → World
  | [] => w
  | v :: vs => setRun (w.setCell ⟨g, i, none⟩ v) g (i + 1) vs
def setList (l : List Value) (i : Nat) : List Value → List Value
  | [] => l
  | v :: vs => setList (l.set i v) (i + 1) vs
theorem setRun_block {w : World} {g i k : Nat} {vs : List Value} (hk : k ≠ g) : (setRun w g i vs).heap[k]? = w.heap[k]? := by
  induction vs generalizing w i with
  | nil => rfl
  | cons v vs ih => exact (ih (w := w.setCell ⟨g, i, none⟩ v)).trans (Below.heap_setCell w _ v k hk)
theorem bel_run {B : Nat} {a w : World} {g i : Nat} {vs : List Value} (h : Below B a w) (hg : B ≤ g) : Below B a (setRun w g i vs) := by
  induction vs generalizing w i with
  | nil => exact h
  | cons v vs ih => exact ih (bel_put h hg v)
theorem run_owns {w : World} {base : Nat} {e : TypeId} {size g n c : Nat} {xs : List Value} {i : Nat} {vs : List Value} (h : w.ownsRow base e size (.slice (some ⟨g, 0, none⟩) n c) n xs) : (setRun w g i vs).ownsRow base e size (.slice (some ⟨g, 0, none⟩) n c) n (setList xs i vs) := by
  induction vs generalizing w xs i with
  | nil => exact h
  | cons v vs ih => exact ih (h.stored i v).1
theorem setList_cons (u : Value) (l : List Value) (i : Nat) (vs : List Value) : setList (u :: l) (i + 1) vs = u :: setList l i vs := by
  induction vs generalizing l i with
  | nil => rfl
  | cons v vs ih => exact ih (l.set i v) (i + 1)
theorem setList_append (c l : List Value) (i : Nat) (vs : List Value) : setList (c ++ l) (c.length + i) vs = c ++ setList l i vs := by
  induction c with
  | nil => simp
  | cons u c ih => rw [List.length_cons, List.cons_append, show c.length + 1 + i = c.length + i + 1 by omega, setList_cons, ih]; rfl
theorem setList_all (c l vs : List Value) (h : c.length = vs.length) : setList (c ++ l) 0 vs = vs ++ l := by
  induction vs generalizing c with
  | nil =>
    have := List.eq_nil_of_length_eq_zero (by simpa using h : c.length = 0)
    subst this
    rfl
  | cons v vs ih =>
    match c, h with
    | u :: c, h =>
      show setList (v :: (c ++ l)) (0 + 1) vs = _
      rw [setList_cons, ih c (by simpa using h)]
      rfl
theorem flat_setK {css : List (List Value)} {s : Nat} (h : ∀ c ∈ css, c.length = s) {j : Nat} (hj : j < css.length) {vs : List Value} (hv : vs.length = s) : (css.set j vs).flatten = setList css.flatten (j * s) vs := by
  induction css generalizing j with
  | nil => simp at hj
  | cons c css ih =>
    have h1 := h c (by simp)
    cases j with
    | zero => rw [List.set_cons_zero, List.flatten_cons, List.flatten_cons, Nat.zero_mul, setList_all _ _ _ (by omega)]
    | succ j =>
      rw [List.set_cons_succ, List.flatten_cons, List.flatten_cons, ih (fun d hd => h d (by simp [hd])) (by simpa using hj), show (j + 1) * s = c.length + j * s by rw [Nat.add_mul, Nat.one_mul]; omega, setList_append]
section
variable {α : Type} {A : Shape α} {w : World} {base : Nat} {e : TypeId} {g n c : Nat} {xs : List α}
/-- A store of a whole element into a slice that the call owns. -/
theorem Own.storeK (h : Own A w base e (.slice (some ⟨g, 0, none⟩) n c) xs) {j : Nat} (hj : j < n) {vs : List Value} {x : α} {F : Nat → Prop} (hx : A.rep w F vs x) (hF : ∀ b, F b → b ≠ g) :
    Own A (setRun w g (j * A.size) vs) base e (.slice (some ⟨g, 0, none⟩) n c) (xs.set j x) := by
  have hl := (sliceS_len h.is).1
  obtain ⟨css, hrow, hall⟩ := h
  subst hl
  have hlen := Shape.all_len hall
  refine ⟨css.set j vs, ?_, ?_⟩
  · rw [flat_setK hlen (by rw [hall.1]; exact hj) (A.len hx), List.length_set]
    exact run_owns hrow
  · have k1 := Shape.all_set (j := j) hall (A.mono hx fun b hb _ => show some b ≠ Value.ownBlock (.slice (some ⟨g, 0, none⟩) xs.length c) from fun e => hF b hb (by injection e))
    exact Shape.all_keep k1 fun b hb _ => setRun_block (fun e => hb (by rw [e]; rfl))
theorem Own.cellK (h : Own A w base e (.slice (some ⟨g, 0, none⟩) n c) xs) {j : Nat} (hj : j < n) {i : Nat} (hi : i < A.size) : ∃ z, w.cell? ⟨g, j * A.size + i, none⟩ = some z := by
  have hl := (sliceS_len h.is).1
  obtain ⟨css, hrow, hall⟩ := h
  subst hl
  have hlen := Shape.all_len hall
  have hfl : css.flatten.length = xs.length * A.size := by rw [flat_len hlen, hall.1]
  have hlt : j * A.size + i < xs.length * A.size := by
    have h2 := Nat.mul_le_mul_right A.size (show j + 1 ≤ xs.length from hj)
    rw [Nat.add_mul, Nat.one_mul] at h2
    omega
  exact ⟨css.flatten[j * A.size + i]'(by omega), by rw [hrow.cellAt _ hlt]; exact List.getElem?_eq_getElem (by omega)⟩
theorem Own.freeK (h : Own A w base e (.slice (some ⟨g, 0, none⟩) n c) xs) (i : Nat) : w.frozen? ⟨g, i, none⟩ = false := by
  have hl := (sliceS_len h.is).1
  obtain ⟨css, hrow, hall⟩ := h
  subst hl
  exact hrow.frozenAt i
end
/-- What 'make' lays: n elements of the zero cells. -/
theorem made_flat (z : List Value) (hz : 0 < z.length) (n : Nat) : (madeCells z.toArray (n * z.length)).toList = (List.replicate n z).flatten := by
  have hl : ∀ c ∈ List.replicate n z, c.length = z.length := fun c hc => by rw [(List.mem_replicate.1 hc).2]
  have hfl := flat_len hl
  rw [List.length_replicate] at hfl
  apply List.ext_getElem?
  intro i
  by_cases hi : i < n * z.length
  · have hd : i / z.length < n := Nat.div_lt_of_lt_mul (by rw [Nat.mul_comm]; exact hi)
    have hm : i % z.length < z.length := Nat.mod_lt _ hz
    have e : (i / z.length) * z.length + i % z.length = i := by rw [Nat.mul_comm]; exact Nat.div_add_mod i z.length
    have h2 := flat_get hl (i / z.length) (i % z.length) hm
    rw [e] at h2
    rw [h2, List.getElem?_replicate, if_pos hd]
    have h3 : (madeCells z.toArray (n * z.length)).toList[i]? = some (z.toArray[i % z.toArray.size]!) := by
      simp [madeCells, hi]
    rw [h3]
    simp [hm]
  · rw [List.getElem?_eq_none (by rw [Array.length_toList, size_madeCells]; omega), List.getElem?_eq_none (by omega)]
theorem Own.made {α : Type} {A : Shape α} {w : World} {base g n c : Nat} {e : TypeId} {z : List Value} {x : α} (hz : 0 < z.length) (hs : A.size = z.length) (h : w.ownsRow base e z.length (.slice (some ⟨g, 0, none⟩) n c) n (madeCells z.toArray (n * z.length)).toList) (hx : ∀ F, A.rep w F z x) : Own A w base e (.slice (some ⟨g, 0, none⟩) n c) (List.replicate n x) := by
  refine ⟨List.replicate n z, ?_, by simp, fun j d y hd hy => ?_⟩
  · rw [made_flat z hz] at h
    rw [List.length_replicate, hs]
    exact h
  · rw [List.getElem?_replicate] at hd hy
    split at hd
    · rename_i hj
      rw [if_pos hj] at hy
      cases hd; cases hy
      exact hx _
    · cases hd

/-! ### Entries -/
abbrev Ky := Int × Int × Int × Int × Unit
abbrev En := Ky × List Int × Unit
abbrev kyS : Shape Ky := consS (intS .i64) (consS (intS .i64) (consS (intS .i64) (consS (intS .i64) noneS)))
abbrev enS : Shape En := consS kyS (consS rowS noneS)
abbrev ensS : Shape (List En) := sliceS enS
def ky (p q r s : Int) : Ky := (p, q, r, s, ())
def en (k : Ky) (v : List Int) : En := (k, v, ())
def en0 : En := en (ky 0 0 0 0) []
theorem ky_eq {p q r s p' q' r' s' : Int} : ky p q r s = ky p' q' r' s' ↔ p = p' ∧ q = q' ∧ r = r' ∧ s = s' := by
  constructor
  · intro h; injection h with h1 h2; injection h2 with h2 h3; injection h3 with h3 h4; injection h4 with h4 h5; exact ⟨h1, h2, h3, h4⟩
  · rintro ⟨rfl, rfl, rfl, rfl⟩; rfl
theorem ky_is {w : World} {F : Nat → Prop} {cs : List Value} {x : Ky} (h : kyS.rep w F cs x) : cs = [.int .i64 x.1, .int .i64 x.2.1, .int .i64 x.2.2.1, .int .i64 x.2.2.2.1] := by
  obtain ⟨d1, rfl, h1⟩ := consS_int h
  obtain ⟨d2, rfl, h2⟩ := consS_int h1
  obtain ⟨d3, rfl, h3⟩ := consS_int h2
  obtain ⟨d4, rfl, h4⟩ := consS_int h3
  rw [noneS_nil h4]
theorem ky_rep (w : World) (F : Nat → Prop) (p q r s : Int) : kyS.rep w F [.int .i64 p, .int .i64 q, .int .i64 r, .int .i64 s] (ky p q r s) := ⟨[_], [_, _, _], rfl, rfl, [_], [_, _], rfl, rfl, [_], [_], rfl, rfl, [_], [], rfl, rfl, rfl⟩
theorem en_is {w : World} {F : Nat → Prop} {cs : List Value} {x : En} (h : enS.rep w F cs x) : ∃ p q r s v nv A C, x = en (ky p q r s) v ∧ v.length = nv ∧ cs = [.int .i64 p, .int .i64 q, .int .i64 r, .int .i64 s, .slice A nv C] ∧ rowS.rep w F [.slice A nv C] v := by
  obtain ⟨c, d, rfl, h1, h2⟩ := h
  have h1' := ky_is h1
  subst h1'
  obtain ⟨A, n, C, d', rfl, h3, h4⟩ := consS_slice h2
  have h4' := noneS_nil h4
  subst h4'
  exact ⟨x.1.1, x.1.2.1, x.1.2.2.1, x.1.2.2.2.1, x.2.1, n, A, C, rfl, (sliceS_len h3).1, rfl, h3⟩
theorem en_rep {w : World} {F : Nat → Prop} (p q r s : Int) {v : List Int} {A : Option Addr} {nv C : Nat} (h : rowS.rep w F [.slice A nv C] v) : enS.rep w F [.int .i64 p, .int .i64 q, .int .i64 r, .int .i64 s, .slice A nv C] (en (ky p q r s) v) :=
  ⟨[_, _, _, _], [_], rfl, ky_rep w F p q r s, [_], [], rfl, h, rfl⟩
theorem en0_rep (w : World) (F : Nat → Prop) : enS.rep w F [.int .i64 0, .int .i64 0, .int .i64 0, .int .i64 0, .slice none 0 0] en0 := en_rep 0 0 0 0 (rep_none _ _ _)

theorem eget {l : List En} {j : Nat} (h : j < l.length) : l.getD j en0 = l[j] := by rw [List.getD_eq_getElem?_getD, List.getElem?_eq_getElem h]; rfl
theorem eget_mem {l : List En} {j : Nat} (h : j < l.length) : l.getD j en0 ∈ l := by rw [eget h]; exact List.getElem_mem h
theorem eget_of_mem {l : List En} {x : En} (h : x ∈ l) : ∃ j, j < l.length ∧ l.getD j en0 = x := by
  obtain ⟨j, hj⟩ := List.getElem?_of_mem h
  have hjl : j < l.length := (List.getElem?_eq_some_iff.1 hj).1
  exact ⟨j, hjl, by rw [List.getD_eq_getElem?_getD, hj]; rfl⟩

/-- Entries: where they lie. -/
theorem en_at {w : World} {F : Nat → Prop} {a : Option Addr} {n c : Nat} {l : List En} (h : ensS.rep w F [.slice a n c] l) {j : Nat} (hj : j < n) :
    ∃ b off p q r s v nv A C, a = some ⟨b, off, none⟩ ∧ F b ∧ b < w.heap.size ∧ l.getD j en0 = en (ky p q r s) v ∧ v.length = nv ∧ rowS.rep w F [.slice A nv C] v ∧
      w.cell? ⟨b, off + j * 5, none⟩ = some (.int .i64 p) ∧ w.cell? ⟨b, off + j * 5 + 1, none⟩ = some (.int .i64 q) ∧ w.cell? ⟨b, off + j * 5 + 2, none⟩ = some (.int .i64 r) ∧ w.cell? ⟨b, off + j * 5 + 3, none⟩ = some (.int .i64 s) ∧ w.cell? ⟨b, off + j * 5 + 4, none⟩ = some (.slice A nv C) := by
  have hl := (sliceS_len h).1
  obtain ⟨b, off, cs, ha, hF, hb, hc, hr⟩ := sliceS_at h (by show 0 < 5; omega) (j := j) (by omega)
  rw [eget (by omega)]
  obtain ⟨p, q, r, s, v, nv, A, C, hx, hv, rfl, hrow⟩ := en_is hr
  exact ⟨b, off, p, q, r, s, v, nv, A, C, ha, hF, hb, hx, hv, hrow, hc 0 _ rfl, hc 1 _ rfl, hc 2 _ rfl, hc 3 _ rfl, hc 4 _ rfl⟩
theorem ens_nil {w : World} {F : Nat → Prop} {n c : Nat} {l : List En} (h : ensS.rep w F [.slice none n c] l) : n = 0 ∧ l = [] := by
  have hl := (sliceS_len h).1
  have h0 : n = 0 := by
    rcases Nat.eq_zero_or_pos n with h0 | h0
    · exact h0
    · obtain ⟨b, off, _, _, _, _, _, _, _, _, h, _⟩ := en_at h h0
      cases h
  exact ⟨h0, List.eq_nil_of_length_eq_zero (by omega)⟩

/-! ### Ledgers as lists -/
namespace Dx
/-- The first entry of the key k stands at i. -/
def First (l : List En) (k : Ky) (i : Nat) : Prop := i < l.length ∧ (l.getD i en0).1 = k ∧ ∀ j, j < i → (l.getD j en0).1 ≠ k
/-- There is none. -/
def No (l : List En) (k : Ky) : Prop := ∀ j, j < l.length → (l.getD j en0).1 ≠ k
/-- Its place, or -1. -/
def At (l : List En) (k : Ky) (x : Int) : Prop := (x = -1 ∧ No l k) ∨ ∃ i : Nat, x = (i : Int) ∧ First l k i
/-- Rows that can be copied. -/
def Short (l : List En) : Prop := l.length ≤ 1000 ∧ ∀ e ∈ l, e.2.1.length ≤ 1000

theorem first_or_no (l : List En) (k : Ky) : No l k ∨ ∃ i, First l k i := by
  have key : ∀ n, n ≤ l.length → (∀ j, j < n → (l.getD j en0).1 ≠ k) ∨ ∃ i, First l k i := by
    intro n
    induction n with
    | zero => intro _; exact .inl fun j hj => by omega
    | succ n ih =>
      intro hn
      rcases ih (by omega) with h | h
      · by_cases e : (l.getD n en0).1 = k
        · exact .inr ⟨n, by omega, e, h⟩
        · refine .inl fun j hj => ?_
          by_cases ej : j = n
          · subst ej; exact e
          · exact h j (by omega)
      · exact .inr h
  exact key l.length (Nat.le_refl _)
theorem First.not_no {l : List En} {k : Ky} {i : Nat} (h : First l k i) : ¬ No l k := fun hn => hn i h.1 h.2.1
theorem first_one {l : List En} {k : Ky} {i j : Nat} (h : First l k i) (h2 : First l k j) : i = j := by
  rcases Nat.lt_trichotomy i j with hlt | he | hlt
  · exact absurd h.2.1 (h2.2.2 i hlt)
  · exact he
  · exact absurd h2.2.1 (h.2.2 j hlt)
theorem getD_left {l m : List En} {j : Nat} (h : j < l.length) : (l ++ m).getD j en0 = l.getD j en0 := by
  rw [List.getD_eq_getElem?_getD, List.getD_eq_getElem?_getD, List.getElem?_append_left h]
theorem getD_new (l : List En) (e : En) : (l ++ [e]).getD l.length en0 = e := by
  rw [List.getD_eq_getElem?_getD, List.getElem?_append_right (Nat.le_refl _), Nat.sub_self]; rfl
theorem First.more {l : List En} {k : Ky} {i : Nat} (h : First l k i) (m : List En) : First (l ++ m) k i :=
  ⟨by rw [List.length_append]; have := h.1; omega, by rw [getD_left h.1]; exact h.2.1, fun j hj => by rw [getD_left (by have := h.1; omega)]; exact h.2.2 j hj⟩
theorem No.new {l : List En} {k : Ky} (h : No l k) (v : List Int) : First (l ++ [en k v]) k l.length :=
  ⟨by rw [List.length_append]; exact Nat.lt_succ_self _, by rw [getD_new]; rfl, fun j hj => by rw [getD_left hj]; exact h j hj⟩
theorem No.more {l : List En} {k : Ky} (h : No l k) {e : En} (he : e.1 ≠ k) : No (l ++ [e]) k := by
  intro j hj
  rw [List.length_append] at hj
  have hj' : j < l.length + 1 := hj
  by_cases e2 : j = l.length
  · subst e2; rw [getD_new]; exact he
  · rw [getD_left (by omega)]; exact h j (by omega)
theorem take_step {l : List En} {j : Nat} (h : j < l.length) : l.take (j + 1) = l.take j ++ [l.getD j en0] := by rw [List.take_succ_eq_append_getElem h, eget h]
/-- The first k of them copied, the rest zeros. -/
def fills (l : List En) (k : Nat) : List En := l.take k ++ List.replicate (l.length - k) en0
theorem fills_zero (l : List En) : fills l 0 = List.replicate l.length en0 := by simp [fills]
theorem fills_all (l : List En) : fills l l.length = l := by simp [fills]
theorem fills_set {l : List En} {k : Nat} (h : k < l.length) : (fills l k).set k (l.getD k en0) = fills l (k + 1) := by
  unfold fills
  have hk : (l.take k).length = k := by rw [List.length_take]; omega
  rw [List.set_append_right _ _ (by omega), hk, Nat.sub_self, take_step h, List.append_assoc]
  congr 1
  rw [show l.length - k = (l.length - (k + 1)) + 1 by omega, List.replicate_succ, List.set_cons_zero]
  rfl
theorem Short.row {l : List En} (h : Short l) {j : Nat} (hj : j < l.length) : (l.getD j en0).2.1.length ≤ 1000 := h.2 _ (eget_mem hj)
end Dx

end Go.Proofs.YtokfcjgfpchffaaGreatDoor

/- Slices that grow: an append with letters for the new length and the new list, and what is owned beside it (no program in sight; out of MdlB and MdlZ). -/
namespace Go.Proofs.YtokfcjgfpchffaaGreatDoor
open Go.ChangeShapes Go.WideShapes Go.ChangeAt Go.RowKit

/-- 'append(v, x...)' in a walk, the new length and the new list under names of one's own. -/
theorem wpList_appK {α : Type} (A : Shape α) {P : Program} {w : World} {ops : Array Oper} {rest : List Oper} {o : Oper} {act : Act} {Q : Exit → Act → World → Prop} (hw : Region.wanted o (yielded ops act.tmps) = true) (s x : Operand) (t : TypeId)
    (ho : o.op = .call { callee := .builtin .append, args := #[s, x], argTypes := #[t, t] })
    (base : Nat) (e : TypeId) (i : TypeInfo) (z : Value) (bytes : Nat) (ht : P.underlying t = some (.slice e)) (hi : P.info? e = some i) (hz : i.zero = some z)
    (hsize : i.size = A.size) (hby : i.bytes = bytes) (hzs : z.cells.size = A.size) (hsz : 0 < A.size) (hbl : bytes ≤ 1000) {v : Value} {xs : List α} (hs : act.eval s = v) (hown : Own A w base e v xs)
    {a : Option Addr} {m c : Nat} (hx : act.eval x = .slice a m c) {ys : List α} {F : Nat → Prop} (hr : (sliceS A).rep w F [.slice a m c] ys) (hF : ∀ b, F b → some b ≠ v.ownBlock)
    (hsm : xs.length + m ≤ 100000) (hbase : base ≤ w.heap.size) (k : Nat) (hk : xs.length + m = k) (zs : List α) (hcat : xs ++ ys = zs)
    (h : ∀ a' c' w', Own A w' base e (.slice a' k c') zs → w.grownBy w' v.ownBlock → Below base w w' → (Value.ownBlock (.slice a' k c') = v.ownBlock ∨ Value.ownBlock (.slice a' k c') = some w.heap.size) →
      wpList P ops Q rest (act.put o.dst (.slice a' k c')) w') : wpList P ops Q (o :: rest) act w := by
  subst hk
  subst hcat
  exact wpList_app A hw s x t ho base e i z bytes ht hi hz hsize hby hzs hsz hbl hs hown hx hr hF hsm hbase h


section
variable {α : Type} {A : Shape α} {P : Nat → Prop} {w w' : World} {base : Nat} {e : TypeId} {xs : List α}
/-- It stays where another block alone is written. -/
theorem Own.aside {v : Value} (h : Own (inS A P) w base e v xs) {M : Nat} (hg : w.grownBy w' (some M)) (hP : ∀ b, P b → b ≠ M) (hv : v.ownBlock ≠ some M) : Own (inS A P) w' base e v xs := by
  obtain ⟨css, h1, h2⟩ := h
  refine ⟨css, h1.kept hg ?_, h2.1, fun j c x hc hx => A.keep (h2.2 j c x hc hx) fun b hb hlt => hg.block b hlt (fun h => hP b hb.2 (Option.some.inj h))⟩
  cases hb : v.ownBlock with
  | none => exact .inl rfl
  | some b => exact .inr (fun c => hv (by rw [hb, c]))
/-- Where it lies. -/
theorem Own.among {a : Option Addr} {n c : Nat} {Q : Nat → Prop} (h : Own (inS A P) w base e (.slice a n c) xs) (h1 : ∀ b, P b → Q b) (h2 : ∀ b, base ≤ b → b < w.heap.size → Value.ownBlock (.slice a n c) = some b → Q b) : (sliceS A).rep w Q [.slice a n c] xs := by
  obtain ⟨css, ⟨hl, k1⟩, k2⟩ := h
  have k3 : A.all w Q css xs := ⟨k2.1, fun j c x hc hx => A.mono (k2.2 j c x hc hx) fun b hb _ => h1 b hb.2⟩
  rcases k1 with ⟨he, h0⟩ | ⟨g, cap, cur, he, hb, hg, hnc, hcm, hcs, htake⟩
  · cases he
    have hx := List.eq_nil_of_length_eq_zero h0
    subst hx
    exact rep_none _ _ _
  · cases he
    have hgl : g < w.heap.size := (Array.getElem?_eq_some_iff.1 hg).1
    refine ⟨some ⟨g, 0, none⟩, c, css, rfl, hnc, hcm, k3, .inr ⟨g, 0, rfl, h2 g hb hgl rfl, hgl, fun j u hu => ?_⟩⟩
    rw [cell_of_row w g (0 + j) cur e (0, 0) hg]
    have hj := (List.getElem?_eq_some_iff.1 hu).1
    rw [← htake, List.getElem?_take] at hu
    split at hu
    · simpa using hu
    · cases hu
theorem Own.plain {a : Option Addr} {n c : Nat} (h : Own (inS A P) w base e (.slice a n c) xs) : (sliceS A).rep w everywhere [.slice a n c] xs := h.among (fun _ _ => trivial) (fun _ _ _ _ => trivial)
/-- One element that 'append(v, x)' appends: in a block of its own. -/
theorem Own.esrc {v : Value} {F : Nat → Prop} {cs : List Value} {x : α} (h : Own A w base e v xs) (hx : A.rep w F cs x) (hF : ∀ b, F b → some b ≠ v.ownBlock) :
    (sliceS A).rep (w.alloc (.cells cs.toArray e)) (fun b => (F b ∧ b < w.heap.size) ∨ b = w.heap.size) [.slice (some ⟨w.heap.size, 0, none⟩) 1 1] [x] ∧ ∀ b, ((F b ∧ b < w.heap.size) ∨ b = w.heap.size) → some b ≠ v.ownBlock := by
  refine ⟨rep_one hx, fun b hb h' => ?_⟩
  rcases hb with hf | rfl
  · exact hF b hf.1 h'
  · have := (h.lt _ h'.symm).2; omega
end
def fillD {α : Type} (d : α) (l : List α) (k : Nat) : List α := l.take k ++ List.replicate (l.length - k) d
theorem fillD_zero {α : Type} (d : α) (l : List α) : fillD d l 0 = List.replicate l.length d := by simp [fillD]
theorem fillD_all {α : Type} (d : α) (l : List α) : fillD d l l.length = l := by simp [fillD]
theorem fillD_set {α : Type} {d : α} {l : List α} {k : Nat} (h : k < l.length) {x : α} (hx : l.getD k d = x) : (fillD d l k).set k x = fillD d l (k + 1) := by
  unfold fillD
  have hk : (l.take k).length = k := by rw [List.length_take]; omega
  rw [List.set_append_right _ _ (by omega), hk, Nat.sub_self, List.take_succ_eq_append_getElem h, List.append_assoc]
  congr 1
  rw [show l.length - k = (l.length - (k + 1)) + 1 by omega, List.replicate_succ, List.set_cons_zero, ← hx, List.getD_eq_getElem?_getD, List.getElem?_eq_getElem h]
  rfl
/-- What 'make([][]int, n)' lays. -/
theorem Own.rows_made {w : World} {base g n c : Nat} {e : TypeId} (h : w.ownsRow base e 1 (.slice (some ⟨g, 0, none⟩) n c) n (madeCells #[.slice none 0 0] n).toList) : Own rowS w base e (.slice (some ⟨g, 0, none⟩) n c) (List.replicate n []) :=
  Own.made (A := rowS) (z := [.slice none 0 0]) (by show 0 < 1; omega) rfl (by show w.ownsRow base e 1 _ n (madeCells #[.slice none 0 0] (n * 1)).toList; rw [Nat.mul_one]; exact h) (fun F => rep_none _ _ _)

end Go.Proofs.YtokfcjgfpchffaaGreatDoor

/- Results that lie in variables (no program in sight; out of Lx). -/
namespace Go.Proofs.YtokfcjgfpchffaaGreatDoor
open Go.ChangeShapes Go.WideShapes Go.ChangeAt Go.RowKit
/-- A function whose results are a struct and two more, the struct in a variable. -/
theorem ret_three {P : Program} {fn : Func} {R : Ending → World → Prop} {a : Act} {u : World} {b : Nat} {t : TypeId} {fs : Array Field} {cs : Array Value} {p q r : Tmp} {v2 v3 : Value} {k : Nat} (hu : P.underlying t = some (.struct fs)) (hi : (P.info? t).map (·.size) = some k)
    (hres : fn.results = #[.cell p t, .tmp q, .tmp r]) (hd : a.defers = []) (hp : a.tmps.getD p undef = .pointer (some ⟨b, 0, none⟩)) (hq : a.tmps.getD q undef = v2) (hr : a.tmps.getD r undef = v3) (hB : Box u b t cs) (hk : cs.size = k) (hR : R (.returned (.tuple #[.agg cs, v2, v3])) u) : bodyPost P fn R .ret a u := by
  have hld := run_loadVar_row (P := P) u b t t cs (0, 0) _ hB hu rfl (by rw [hi, hk])
  refine bodyPost_ret (v := .tuple #[.agg cs, v2, v3]) ?_ hd hR
  have hp' : a.tmps[p]?.getD undef = .pointer (some ⟨b, 0, none⟩) := by simpa using hp
  have hq' : a.tmps[q]?.getD undef = v2 := by simpa using hq
  have hr' : a.tmps[r]?.getD undef = v3 := by simpa using hr
  simp only [results, hres]
  simp [asAddr, hp', hq', hr', hld]

end Go.Proofs.YtokfcjgfpchffaaGreatDoor

/- Regions that draw their order and hold calls that make new memory (no program in sight): what only reads is walked once, ahead of what makes; over the calls alone the orders are parted; a call's answer may hang on the world in which it is made, as long as what is said of it stays true in every later world. -/
namespace Go.Proofs.YtokfcjgfpchffaaGreatDoor
open Go.ChangeShapes Go.WideShapes Go.ChangeAt Go.RowKit

namespace Ord
/-- x comes of w by new memory alone. -/
abbrev Lat (w x : World) : Prop := Below w.heap.size w x
theorem lat_trans {w x y : World} (h : Lat w x) (k : Lat x y) : Lat w y := bel_then h k

section
variable {P : Program} {ops : Array Oper} {md : Region.Mode} {Q : Act → World → Prop}

/-- What is asked once an operation, carried out in the world x, has yielded this. -/
def goes (P : Program) (o : Oper) (a : Act) (x : World) (K : Act → World → Prop) : Result Next → Prop
  | .ok (.value u) x' => Lat x x' ∧ K (a.put o.dst u) x'
  | .ok .skip x' => Lat x x' ∧ K (a.put o.dst undef) x'
  | .ok (.enter f args) x' => Calls P f args x' fun e x'' => ∃ v, e = .returned v ∧ Lat x x'' ∧ K (a.put o.dst v) x''
  | _ => False
theorem goes_mono {o : Oper} {a : Act} {x : World} {K K' : Act → World → Prop} {r : Result Next} (h : ∀ a' x', Lat x x' → K a' x' → K' a' x') (hh : goes P o a x K r) : goes P o a x K' r := by
  cases r with
  | ok n x' =>
    cases n <;> simp only [goes] at hh ⊢
    case value u => exact ⟨hh.1, h _ _ hh.1 hh.2⟩
    case skip => exact ⟨hh.1, h _ _ hh.1 hh.2⟩
    case enter f args => exact hh.mono fun e x'' ⟨v, he, hl, hk⟩ => ⟨v, he, hl, h _ _ hl hk⟩
  | halt y x' => simp only [goes] at hh

/-- Operation number i comes up. -/
def opL (P : Program) (ops : Array Oper) (i : Nat) (K : Act → World → Prop) (a : Act) (x : World) : Prop :=
  match ops[i]? with
  | none => K a x
  | some o => if Region.wanted o (yielded ops a.tmps) then goes P o a x K ((execOp a.eval o).run P x) else K (a.put o.dst undef) x
theorem opL_mono {i : Nat} {a : Act} {x : World} {K K' : Act → World → Prop} (h : ∀ a' x', Lat x x' → K a' x' → K' a' x') (hh : opL P ops i K a x) : opL P ops i K' a x := by
  unfold opL at *
  split
  · rename_i ho; simp only [ho] at hh; exact h _ _ (Below.refl _ _) hh
  · rename_i o ho
    simp only [ho] at hh
    split
    · rename_i hw; simp only [hw, if_true] at hh; exact goes_mono h hh
    · rename_i hw; simp only [hw] at hh; exact h _ _ (Below.refl _ _) hh

/-- Whatever order is picked from here on, in this world and in every later one. -/
def anyL (P : Program) (md : Region.Mode) (ops : Array Oper) (Q : Act → World → Prop) : Nat → Array Bool → Act → World → Prop
  | 0, listed, a, w => Region.ready md ops listed = [] ∧ ∀ x, Lat w x → Q a x
  | fuel + 1, listed, a, w => (Region.ready md ops listed = [] → ∀ x, Lat w x → Q a x) ∧
    ∀ i ∈ Region.ready md ops listed, ∀ x, Lat w x → opL P ops i (anyL P md ops Q fuel (listed.setIfInBounds i true)) a x

theorem anyL_later : ∀ {fuel : Nat} {listed : Array Bool} {a : Act} {w x : World}, Lat w x → anyL P md ops Q fuel listed a w → anyL P md ops Q fuel listed a x
  | 0, _, _, _, _, hx, h => ⟨h.1, fun y hy => h.2 y (lat_trans hx hy)⟩
  | _ + 1, _, _, _, _, hx, h => ⟨fun h0 y hy => h.1 h0 y (lat_trans hx hy), fun i hi y hy => h.2 i hi y (lat_trans hx hy)⟩

theorem wp_of_goes {o : Oper} {a : Act} {x : World} {K : Act → World → Prop} {K' : Act → World → Prop} {Q' : Exit → Act → World → Prop} (h : ∀ a' x', K a' x' → K' a' x') (hh : goes P o a x K ((execOp a.eval o).run P x)) : o.wp P a x K' Q' := by
  unfold Oper.wp
  generalize (execOp a.eval o).run P x = r at *
  cases r with
  | ok n x' =>
    cases n <;> simp only [goes] at hh <;> simp only [Oper.upon]
    case value u => exact h _ _ hh.2
    case skip => exact h _ _ hh.2
    case enter f args => exact hh.mono fun e x'' ⟨v, he, _, hk⟩ => by subst he; exact h _ _ hk
  | halt y x' => simp only [goes] at hh

theorem wpAny_of {Q' : Exit → Act → World → Prop} (hQ : ∀ a x, Q a x → Q' .normal a x) : ∀ (fuel : Nat) (listed : Array Bool) (a : Act) (w : World), anyL P md ops Q fuel listed a w → wpAny P md ops Q' fuel listed a w
  | 0, _, _, w, h => ⟨h.1, hQ _ _ (h.2 w (Below.refl _ _))⟩
  | fuel + 1, listed, a, w, h => ⟨fun h0 => hQ _ _ (h.1 h0 w (Below.refl _ _)), fun i hi => by
      have h1 := h.2 i hi w (Below.refl _ _)
      unfold opL at h1
      unfold wpOp
      split
      · rename_i ho; simp only [ho] at h1; exact wpAny_of hQ fuel _ _ _ h1
      · rename_i o ho
        simp only [ho] at h1
        split
        · rename_i hw; simp only [hw, if_true] at h1; exact .inl (wp_of_goes (fun a' x' => wpAny_of hQ fuel _ a' x') h1)
        · rename_i hw; simp only [hw] at h1; exact wpAny_of hQ fuel _ _ _ h1⟩

/-- In state a, in w and in every later world, o yields v and leaves the world alone. -/
def Rests (P : Program) (ops : Array Oper) (w : World) (o : Oper) (v : Value) (a : Act) : Prop :=
  (Region.wanted o (yielded ops a.tmps) = true ∧ ∀ x, Lat w x → (execOp a.eval o).run P x = .ok (.value v) x ∨ ((execOp a.eval o).run P x = .ok .skip x ∧ v = undef)) ∨
  (Region.wanted o (yielded ops a.tmps) = false ∧ v = undef)
theorem Rests.later {w x : World} {o : Oper} {v : Value} {a : Act} (hx : Lat w x) (h : Rests P ops w o v a) : Rests P ops x o v a := by
  rcases h with ⟨h1, h2⟩ | h
  · exact .inl ⟨h1, fun y hy => h2 y (lat_trans hx hy)⟩
  · exact .inr h
theorem Rests.of_same {w : World} {o : Oper} {v : Value} {a a' : Act} (hy : Rests P ops w o v a) (he : execOp a'.eval o = execOp a.eval o)
    (hw : Region.wanted o (yielded ops a'.tmps) = Region.wanted o (yielded ops a.tmps)) : Rests P ops w o v a' := by
  unfold Rests at *
  rw [he, hw]
  exact hy
theorem Rests.opL {i : Nat} {w x : World} {o : Oper} {v : Value} {a : Act} (hi : ops[i]? = some o) (hx : Lat w x) (hy : Rests P ops w o v a) {K : Act → World → Prop} (h : K (a.put o.dst v) x) : opL P ops i K a x := by
  unfold Ord.opL
  simp only [hi]
  rcases hy with ⟨hw, hv⟩ | ⟨hw, rfl⟩
  · simp only [hw, if_true]
    rcases hv x hx with e | ⟨e, rfl⟩
    · rw [e]; exact ⟨Below.refl _ _, h⟩
    · rw [e]; exact ⟨Below.refl _ _, h⟩
  · simp only [hw, Bool.false_eq_true, if_false]; exact h

/-- A value in another slot turns nothing but that slot. -/
theorem goes_beside {o : Oper} {a : Act} {x : World} {K : Act → World → Prop} {d : Option Tmp} {v : Value} (hd : ∀ t, d = some t → o.dst ≠ some t) {r : Result Next} (h : goes P o (a.put d v) x K r) :
    goes P o a x (fun b y => (∃ u, b = a.put o.dst u) ∧ K (b.put d v) y) r := by
  have turn : ∀ u, (a.put d v).put o.dst u = (a.put o.dst u).put d v := fun u => Act.put_comm a v u hd
  cases r with
  | halt => exact h.elim
  | ok n y => cases n with
    | value u => exact ⟨h.1, ⟨u, rfl⟩, turn u ▸ h.2⟩
    | skip => exact ⟨h.1, ⟨undef, rfl⟩, turn undef ▸ h.2⟩
    | enter => exact Calls.mono h fun _ _ ⟨u, he, hl, hk⟩ => ⟨u, he, hl, ⟨u, rfl⟩, turn u ▸ hk⟩
    | _ => exact h.elim
/-- j comes up ahead of i, which only reads and is apart from it: i may still come up, with the same value. -/
theorem opL_ahead {j : Nat} {oi oj : Oper} {v : Value} {w x : World} {K : Act → World → Prop} {a : Act} (hs : Region.noSelect ops = true) {i : Nat} (hi : ops[i]? = some oi) (hj : ops[j]? = some oj) (hap : oi.apart ops oj = true) (hx : Lat w x)
    (hy : Rests P ops w oi v a) (h : opL P ops j K (a.put oi.dst v) x) : opL P ops j (fun b y => Rests P ops y oi v b ∧ K (b.put oi.dst v) y) a x := by
  obtain ⟨unread, unlike, blind⟩ := Oper.apart_spec hap
  have si := fun cs b => Region.noSelect_spec hs i oi cs b hi
  have sj := fun cs b => Region.noSelect_spec hs j oj cs b hj
  have still : ∀ y u, Lat x y → Rests P ops y oi v (a.put oj.dst u) := fun y u hl =>
    (hy.later (lat_trans hx hl)).of_same (execOp_put oi si a oj.dst u blind) (wanted_put oi a oj.dst u blind)
  simp only [opL, hj, wanted_put oj a oi.dst v unread, execOp_put oj sj a oi.dst v unread] at h ⊢
  by_cases hw : Region.wanted oj (yielded ops a.tmps) = true
  · rw [if_pos hw] at h ⊢
    exact goes_mono (fun b y hl ⟨⟨u, hb⟩, hk⟩ => ⟨hb ▸ still y u hl, hk⟩) (goes_beside unlike h)
  · rw [if_neg hw] at h ⊢
    exact ⟨still x undef (Below.refl _ _), Act.put_comm a v undef unlike ▸ h⟩

theorem unlisted {listed : Array Bool} {j k : Nat} (h : (listed.setIfInBounds j true).getD k true = false) : listed.getD k true = false := by
  by_cases e : j = k
  · subst e
    exfalso
    revert h
    by_cases hl : j < listed.size <;> simp [hl]
  · rwa [getD_set_ne true e] at h
/-- Who may come up waits for nobody that has not come up. -/
theorem waits_not {listed : Array Bool} {i j : Nat} (hi : i ∈ Region.ready md ops listed) (hj : j ∈ Region.ready md ops listed) {o : Oper} (ho : ops[j]? = some o) : ∀ e ∈ o.after, Region.binds md e = true → e.on ≠ i := by
  intro e he hb hon
  obtain ⟨_, o', ho', hall⟩ := mem_ready.1 hj
  obtain rfl : o' = o := Option.some.inj (ho'.symm.trans ho)
  have h1 := hall e he hb
  have h0 := (mem_ready.1 hi).1
  rw [hon] at h1
  cases hc : listed[i]? with
  | none => simp [hc] at h1
  | some b => simp [hc] at h0 h1; exact absurd (h0.symm.trans h1) (by decide)
/-- Whoever has not come up and does not wait for i is apart from it. -/
def Clear (md : Region.Mode) (ops : Array Oper) (i : Nat) (oi : Oper) (listed : Array Bool) : Prop :=
  ∀ j oj, ops[j]? = some oj → j ≠ i → listed.getD j true = false → (∀ e ∈ oj.after, Region.binds md e = true → e.on ≠ i) → oi.apart ops oj = true

/-- What only reads, and may come up now, may be taken first. -/
theorem anyL_first {i : Nat} {oi : Oper} {v : Value} (hi : ops[i]? = some oi) (hs : Region.noSelect ops = true) (fuel : Nat) : ∀ (listed : Array Bool) (a : Act) (w : World), Clear md ops i oi listed → i ∈ Region.ready md ops listed → Rests P ops w oi v a →
    anyL P md ops Q fuel (listed.setIfInBounds i true) (a.put oi.dst v) w → anyL P md ops Q (fuel + 1) listed a w := by
  induction fuel with
  | zero =>
    intro listed a w _ hr hy H
    refine ⟨fun none => absurd (none ▸ hr) (by simp), fun j hj x hx => ?_⟩
    by_cases e : j = i
    · rw [e]; exact hy.opL hi hx (anyL_later hx H)
    · exact absurd (H.1 ▸ ready_mono hj e) (by simp)
  | succ fuel ih =>
    intro listed a w hc hr hy H
    refine ⟨fun none => absurd (none ▸ hr) (by simp), fun j hj x hx => ?_⟩
    by_cases e : j = i
    · rw [e]; exact hy.opL hi hx (anyL_later hx H)
    · obtain ⟨hun, oj, hoj, _⟩ := mem_ready.1 hj
      have hap := hc j oj hoj e hun (waits_not hr hj hoj)
      refine opL_mono (fun b y _ ⟨hb, hk⟩ => ih (listed.setIfInBounds j true) b y ?_ (ready_mono hr (Ne.symm e)) hb ?_) (opL_ahead hs hi hoj hap hx hy (H.2 j (ready_mono hj e) x hx))
      · exact fun k ok hk hki hku => hc k ok hk hki (unlisted hku)
      · rw [Array.setIfInBounds_comm _ _ e]; exact hk

/-! ### What only reads, one behind the other -/
/-- It calls no function of the program. -/
def reads (o : Oper) : Bool :=
  match o.op with
  | .move _ | .assign _ | .pick .. | .load .. | .binOp .. | .unOp .. | .convert .. | .slice .. | .fieldAddr .. | .field .. | .indexAddr .. | .index .. | .extract .. => true
  | .call c => match c.callee with
    | .builtin .len => true
    | .builtin .cap => true
    | .builtin .min => true
    | .builtin .max => true
    | _ => false
  | _ => false
theorem value_of {α : Type} {s : Sem α} {g : α → Value} {w x : World} {f : FuncId} {args : Array Value} : ¬ ((do let y ← s; pure (Next.value (g y)) : Sem Next).run P w = .ok (.enter f args) x) := by
  intro h
  simp only [Sem.run_bind] at h
  cases hs : s.run P w with
  | ok y w' => rw [hs] at h; simp [Result.andThen] at h
  | halt y w' => rw [hs] at h; simp [Result.andThen] at h
theorem reads_no_enter {o : Oper} (ho : reads o = true) {ρ : Operand → Value} {w x : World} {f : FuncId} {args : Array Value} : ¬ ((execOp ρ o).run P w = .ok (.enter f args) x) := by
  obtain ⟨dst, op, type, pos, after, guard⟩ := o
  cases op <;> first | (exfalso; revert ho; unfold reads; simp; done) | skip
  case move => simp [execOp]
  case assign => simp [execOp]
  case call c =>
    obtain ⟨callee, as, ts⟩ := c
    cases callee with
    | builtin b =>
      cases b <;> first | (exfalso; revert ho; unfold reads; simp; done) | skip
      all_goals (simp only [execOp, resolve, invoke, builtin, Sem.run_bind, Sem.run_pure, Result.andThen]; intro h; split at h <;> cases h)
    | value f => simp [reads] at ho
    | invoke r m => simp [reads] at ho
  all_goals (simp only [execOp]; exact value_of)


/-- In its place: an operation that can't be walked (where its guard passes it over, it need not be). -/
def stand (o : Oper) : Oper := if reads o then o else ⟨o.dst, .send (.const undef) (.const undef), o.type, o.pos, o.after, o.guard⟩
def pickOps (ops : Array Oper) : List Nat → List Oper
  | [] => []
  | k :: ks => match ops[k]? with
    | some o => stand o :: pickOps ops ks
    | none => pickOps ops ks
/-- Each may come up in its turn, and whatever else may come up is apart from it. -/
def seqB (md : Region.Mode) (ops : Array Oper) : List Nat → Array Bool → Bool
  | [], _ => true
  | k :: ks, listed => (Region.ready md ops listed).contains k && Region.free md ops listed k && seqB md ops ks (listed.setIfInBounds k true)
def mark : List Nat → Array Bool → Array Bool
  | [], listed => listed
  | k :: ks, listed => mark ks (listed.setIfInBounds k true)

theorem stand_wanted (o : Oper) (g : Nat → Option Bool) : Region.wanted (stand o) g = Region.wanted o g := by
  unfold stand
  split <;> rfl
theorem stand_dst (o : Oper) : (stand o).dst = o.dst := by unfold stand; split <;> rfl

theorem seg {w : World} (hs : Region.noSelect ops = true) : ∀ (ks : List Nat) (fuel : Nat) (listed : Array Bool) (a : Act), seqB md ops ks listed = true →
    wpQuiet P ops (fun w' => ∃ x : Later w, w' = x.u) (fun a' => anyL P md ops Q fuel (mark ks listed) a' w) (pickOps ops ks) a → anyL P md ops Q (fuel + ks.length) listed a w
  | [], _, _, _, _, h => h
  | k :: ks, fuel, listed, a, hB, h => by
    simp only [seqB, Bool.and_eq_true] at hB
    obtain ⟨⟨hr, hf⟩, hB'⟩ := hB
    have hr' : k ∈ Region.ready md ops listed := by simpa using hr
    obtain ⟨_, o, ho, _⟩ := mem_ready.1 hr'
    simp only [pickOps, ho, wpQuiet, stand_wanted, stand_dst] at h
    have key : ∃ v, Rests P ops w o v a ∧ anyL P md ops Q (fuel + ks.length) (listed.setIfInBounds k true) (a.put o.dst v) w := by
      by_cases hw : Region.wanted o (yielded ops a.tmps) = true
      · rw [if_pos hw] at h
        obtain ⟨v, h1, h2⟩ := h
        rw [stand_dst] at h2
        refine ⟨v, .inl ⟨hw, fun x hx => ?_⟩, seg hs ks fuel _ _ hB' h2⟩
        have h3 := h1 x ⟨⟨x, hx⟩, rfl⟩
        unfold Oper.quietAt at h3
        by_cases hre : reads o = true
        · have e : stand o = o := by unfold stand; rw [if_pos hre]
          rw [e] at h3
          have hno := fun f args x' => reads_no_enter (P := P) hre (ρ := a.eval) (w := x) (x := x') (f := f) (args := args)
          generalize (execOp a.eval o).run P x = r at *
          cases r with
          | ok n x' =>
            cases n <;> simp only [Oper.quietUpon] at h3
            case value u => obtain ⟨rfl, rfl⟩ := h3; exact .inl rfl
            case skip => obtain ⟨rfl, rfl⟩ := h3; exact .inr ⟨rfl, rfl⟩
            case enter f args => exact absurd rfl (hno f args x')
          | halt y x' => simp only [Oper.quietUpon] at h3
        · have e : stand o = ⟨o.dst, .send (.const undef) (.const undef), o.type, o.pos, o.after, o.guard⟩ := by unfold stand; rw [if_neg hre]
          rw [e] at h3
          simp [execOp, Oper.quietUpon] at h3
      · rw [if_neg hw] at h
        exact ⟨undef, .inr ⟨by simpa using hw, rfl⟩, seg hs ks fuel _ _ hB' h⟩
    obtain ⟨v, hy, hK⟩ := key
    exact anyL_first ho hs (fuel + ks.length) listed a w (Region.free_spec ho hf) hr' hy hK

/-- A value is laid into its slot ahead of a walk. -/
theorem seg_put {w : World} {dst : Option Tmp} {v : Value} {n : Nat} {listed : Array Bool} {a : Act} (hs : Region.noSelect ops = true) (ks : List Nat) (fuel : Nat) (hf : fuel + ks.length = n) (hB : seqB md ops ks listed = true)
    (h : ∃ L, pickOps ops ks = L ∧ wpQuiet P ops (fun w' => ∃ x : Later w, w' = x.u) (fun a' => anyL P md ops Q fuel (mark ks listed) a' w) (⟨dst, .move (.const v), 0, "", #[], none⟩ :: L) a) : anyL P md ops Q n listed (a.put dst v) w := by
  subst hf
  obtain ⟨L, rfl, h⟩ := h
  refine seg hs ks fuel listed _ hB ?_
  obtain ⟨u, h1, h2⟩ : Oper.quiet P ⟨dst, .move (.const v), 0, "", #[], none⟩ a (fun w' => ∃ x : Later w, w' = x.u) (wpQuiet P ops (fun w' => ∃ x : Later w, w' = x.u) (fun a' => anyL P md ops Q fuel (mark ks listed) a' w) (pickOps ops ks)) := h
  have h3 := h1 w ⟨⟨w, Below.refl _ _⟩, rfl⟩
  obtain ⟨_, rfl⟩ : w = w ∧ v = u := h3
  exact h2

theorem region {Q' : Exit → Act → World → Prop} {id : Nat} {l : List Oper} {a : Act} {w : World} (hm : P.follows .mixedOrders = true) (hs : Region.noSelect l.toArray = true) (ks : List Nat) (fuel : Nat) (hf : fuel + ks.length = l.length)
    (hB : seqB .any l.toArray ks (Array.replicate l.length false) = true)
    (h : ∃ L, pickOps l.toArray ks = L ∧ wpQuiet P l.toArray (fun w' => ∃ x : Later w, w' = x.u) (fun a' => anyL P .any l.toArray (fun a x => Q' .normal a x) fuel (mark ks (Array.replicate l.length false)) a' w) L a) : (Code.region id l.toArray true).wp P Q' a w := by
  obtain ⟨L, rfl, h⟩ := h
  have h1 := seg hs ks fuel _ a hB h
  rw [hf] at h1
  refine wp_region_any hm (wpAny_of (Q := fun a x => Q' .normal a x) (fun _ _ h => h) _ _ _ _ ?_)
  rw [List.size_toArray]
  exact anyL_later (x := w.drew) ((Below.refl _ w).drew) h1

/-! ### The calls -/
def enters (P : Program) (f : FuncId) : Bool :=
  match P.funcs[f]? with
  | none => false
  | some fn => !(fn.name == "runtime.NumGoroutine") && !fn.body.isNone
theorem run_enter {o : Oper} {a : Act} {x : World} {f : FuncId} {args : List Operand} {ts : Array TypeId} {vals : List Value} (hop : o.op = .call { callee := .value (.func f), args := args.toArray, argTypes := ts }) (he : enters P f = true) (hv : args.map a.eval = vals) :
    (execOp a.eval o).run P x = .ok (.enter f vals.toArray) x := by
  unfold enters at he
  cases hf : P.funcs[f]? with
  | none => rw [hf] at he; cases he
  | some fn =>
    rw [hf] at he
    simp only [Bool.and_eq_true, Bool.not_eq_true'] at he
    have h1 : ¬ fn.name = "runtime.NumGoroutine" := by simpa using he.1
    have h2 : ¬ fn.body = none := by have := he.2; cases hb : fn.body <;> simp_all
    simp [execOp, hop, resolve, Act.eval, Deferred.ofValue, invoke, callFunc, hf, h1, h2, ← hv]
theorem by_call {i : Nat} {o : Oper} {a : Act} {x : World} {K : Act → World → Prop} {f : FuncId} {args : List Operand} {ts : Array TypeId} {vals : List Value} (ho : ops[i]? = some o) (hw : Region.wanted o (yielded ops a.tmps) = true)
    (hop : o.op = .call { callee := .value (.func f), args := args.toArray, argTypes := ts }) (he : enters P f = true) (hv : args.map a.eval = vals) (d : Tmp) (hd : o.dst = some d)
    (h : Calls P f vals.toArray x fun e x' => ∃ v, e = .returned v ∧ Lat x x' ∧ K (a.put (some d) v) x') : opL P ops i K a x := by
  rw [← hd] at h
  unfold opL
  simp only [ho, hw, if_true]
  rw [run_enter hop he hv]
  exact h
theorem ready_one {i n : Nat} {listed : Array Bool} {a : Act} {w : World} (hr : Region.ready md ops listed = [i]) (h : ∀ x, Lat w x → opL P ops i (anyL P md ops Q n (listed.setIfInBounds i true)) a x) : anyL P md ops Q (n + 1) listed a w := by
  refine ⟨fun h0 => (by rw [hr] at h0; cases h0), fun j hj x hx => ?_⟩
  rw [hr] at hj
  obtain rfl : j = i := by simpa using hj
  exact h x hx
theorem ready_none {n : Nat} {listed : Array Bool} {a : Act} {w : World} (hr : Region.ready md ops listed = []) (h : ∀ x : Later w, Q a x.u) : anyL P md ops Q n listed a w := by
  cases n with
  | zero => exact ⟨hr, fun x hx => h ⟨x, hx⟩⟩
  | succ n => exact ⟨fun _ x hx => h ⟨x, hx⟩, fun i hi => by rw [hr] at hi; cases hi⟩

end
end Ord

end Go.Proofs.YtokfcjgfpchffaaGreatDoor

/- A slice of rows that the call owns, one of its rows singled out: it lies in a block of its own, where no other row lies (no program in sight). -/
namespace Go.Proofs.YtokfcjgfpchffaaGreatDoor
open Go.ChangeShapes Go.WideShapes Go.ChangeAt Go.RowKit

theorem set_self {α : Type} (l : List α) (i : Nat) (d : α) : l.set i (l.getD i d) = l := by
  apply List.ext_getElem?
  intro j
  rw [List.getElem?_set]
  by_cases h : i = j
  · subst h
    by_cases h2 : i < l.length
    · rw [if_pos rfl, if_pos h2, List.getD_eq_getElem?_getD, List.getElem?_eq_getElem h2]; rfl
    · rw [if_pos rfl, if_neg h2, List.getElem?_eq_none (by omega)]
  · rw [if_neg h]

theorem Own.lower {α : Type} {A : Shape α} {w : World} {base B : Nat} {e : TypeId} {v : Value} {xs : List α} (h : Own A w base e v xs) (hB : B ≤ base) : Own A w B e v xs := by
  obtain ⟨css, ⟨hl, h1⟩, h2⟩ := h
  refine ⟨css, ⟨hl, ?_⟩, h2⟩
  rcases h1 with h1 | ⟨g, cap, cur, he, hb, hr⟩
  · exact .inl h1
  · exact .inr ⟨g, cap, cur, he, Nat.le_trans hB hb, hr⟩
theorem Own.rowIn {w : World} {base : Nat} {e : TypeId} {v : Value} {l : List Int} (h : Own (intS .i64) w base e v l) : rowS.rep w (fun b => v.ownBlock = some b) [v] l := by
  obtain ⟨a, c, hv, hr⟩ := h.rep
  subst hv
  have hm := (sliceS_len hr).2
  refine Row.rep (Row.of_rep hr) hm.1 hm.2 fun b off ha => ?_
  obtain ⟨css, ⟨hl, h1⟩, h2⟩ := h
  rcases h1 with ⟨he, h0⟩ | ⟨g, cap, cur, he, hb, hg⟩
  · injection he with e1; rw [e1] at ha; cases ha
  · injection he with e1 e2 e3
    subst e1
    cases ha
    rfl

/-- The call owns the slice of the rows xs in block G; at x stands v, which it owns too; the other rows lie in other blocks, all among Q. -/
def Lone (Q : Nat → Prop) (w : World) (B : Nat) (t e : TypeId) (G n c x : Nat) (v : Value) (xs : List (List Int)) : Prop :=
  xs.length = n ∧ ∃ css : List (List Value), w.ownsRow B e 1 (.slice (some ⟨G, 0, none⟩) n c) n css.flatten ∧ (inS rowS Q).all w (fun b => b ≠ G ∧ some b ≠ v.ownBlock) (css.set x [.slice none 0 0]) (xs.set x []) ∧ css[x]? = some [v] ∧ (∀ c ∈ css, c.length = 1) ∧ Own (intS .i64) w (G + 1) t v (xs.getD x [])
section
variable {Q : Nat → Prop} {w u : World} {B : Nat} {t e : TypeId} {G n c x : Nat} {v : Value} {xs : List (List Int)}
theorem Lone.made (h : Own (inS rowS Q) w B e (.slice (some ⟨G, 0, none⟩) n c) xs) (hx : x < n) (hb : Below w.heap.size w u) (hv : Own (intS .i64) u w.heap.size t v (xs.getD x [])) :
    (∃ z, u.cell? ⟨G, x, none⟩ = some z) ∧ u.frozen? ⟨G, x, none⟩ = false ∧ Lone Q (u.setCell ⟨G, x, none⟩ v) B t e G n c x v xs := by
  have hl := (sliceS_len h.is).1
  have hG := (h.lt G rfl).2
  obtain ⟨css, hrow, hall⟩ := h
  have hlen : ∀ c ∈ css, c.length = 1 := Shape.all_len hall
  have hU : u.ownsRow B e 1 (.slice (some ⟨G, 0, none⟩) n c) n css.flatten := by rw [hl] at hrow; exact own_below hrow hb
  have hcl : css.length = xs.length := hall.1
  have hfl : css.flatten.length = xs.length := by rw [flat_len hlen, hcl, Nat.mul_one]
  have k1 : (inS rowS Q).all w (fun b => b ≠ G ∧ b < w.heap.size) css xs := Shape.all_mono hall fun b hb' hlt => ⟨fun e => hb' (by rw [e]; rfl), hlt⟩
  have k2 : (inS rowS Q).all u (fun b => b ≠ G ∧ b < w.heap.size) css xs := Shape.all_keep k1 fun b _ hlt => hb.block b hlt
  have k2' : (inS rowS Q).all u (fun b => b ≠ G ∧ some b ≠ v.ownBlock) css xs := Shape.all_mono k2 fun b hb' _ => ⟨hb'.1, fun e => by have := (hv.lt b e.symm).1; omega⟩
  have k3 := Shape.all_set (j := x) k2' (show (inS rowS Q).rep u (fun b => b ≠ G ∧ some b ≠ v.ownBlock) [.slice none 0 0] [] from rep_none (intS .i64) u _)
  have k4 := Shape.all_keep (w' := u.setCell ⟨G, x, none⟩ v) k3 fun b hb' _ => Below.heap_setCell u _ v b hb'.1
  refine ⟨⟨css.flatten[x]'(by omega), ?_⟩, hU.frozenAt x, hl, css.set x [v], ?_, ?_, ?_, ?_, ?_⟩
  · rw [hU.cellAt x (by omega)]; exact List.getElem?_eq_getElem (by omega)
  · rw [flat_set1 hlen]; exact (hU.stored x v).1
  · rw [List.set_set]; exact k4
  · rw [List.getElem?_set_self (by omega)]
  · intro c hc
    rcases List.mem_or_eq_of_mem_set hc with h1 | h1
    · exact hlen c h1
    · rw [h1]; rfl
  · exact ((hv.lower (by omega : G + 1 ≤ w.heap.size)).other (grown_set u G x v) fun b hb' e => by have := (hv.lt b hb').1; cases e; omega)
theorem Lone.cell (h : Lone Q w B t e G n c x v xs) : w.cell? ⟨G, x, none⟩ = some v := by
  obtain ⟨h0, css, h1, h2, h3, h4, _⟩ := h
  have hi : x < css.length := (List.getElem?_eq_some_iff.1 h3).1
  have hc : css.length = xs.length := by have := h2.1; simpa using this
  rw [h1.cellAt x (by omega)]
  have := flat_get h4 x 0 (by omega)
  rw [Nat.mul_one, Nat.add_zero, h3] at this
  exact this
theorem Lone.lt (h : Lone Q w B t e G n c x v xs) : B ≤ G ∧ G < w.heap.size ∧ x < n ∧ n ≤ c ∧ c ≤ maxLen := by
  obtain ⟨h0, css, ⟨h1l, h1⟩, h2, h3, h4, _⟩ := h
  have hi : x < css.length := (List.getElem?_eq_some_iff.1 h3).1
  have hc : css.length = xs.length := by have := h2.1; simpa using this
  rcases h1 with ⟨he, _⟩ | ⟨g, cap, cur, he, hb, hg, hn, hm, _⟩
  · cases he
  · cases he
    exact ⟨hb, (Array.getElem?_eq_some_iff.1 hg).1, by omega, hn, hm⟩
theorem Lone.own (h : Lone Q w B t e G n c x v xs) : Own (intS .i64) w (G + 1) t v (xs.getD x []) := by
  obtain ⟨_, _, _, _, _, _, h⟩ := h
  exact h
theorem Lone.keep (h : Lone Q w B t e G n c x v xs) (hb : Below w.heap.size w u) : Lone Q u B t e G n c x v xs := by
  obtain ⟨h0, css, h1, h2, h3, h4, h5⟩ := h
  exact ⟨h0, css, own_below h1 hb, Shape.all_keep h2 fun b _ hlt => hb.block b hlt, h3, h4, h5.keep hb⟩
theorem Lone.next (h : Lone Q w B t e G n c x v xs) {i : Nat} (hi : i < n) (hix : i ≠ x) (hb : Below w.heap.size w u) {v' : Value} (hr : rowS.rep u (w.heap.size ≤ ·) [v'] (xs.getD i [])) (hQ : ∀ b, w.heap.size ≤ b → Q b) :
    (∃ z, u.cell? ⟨G, i, none⟩ = some z) ∧ u.frozen? ⟨G, i, none⟩ = false ∧ Lone Q (u.setCell ⟨G, i, none⟩ v') B t e G n c x v xs := by
  have hG := h.lt.2.1
  have hO := h.own
  obtain ⟨h0, css, h1, h2, h3, h4, _⟩ := h.keep hb
  have hcl : css.length = xs.length := by have := h2.1; simpa using this
  have hfl : css.flatten.length = xs.length := by rw [flat_len h4, hcl, Nat.mul_one]
  have k1 := Shape.all_set (j := i) h2 (show (inS rowS Q).rep u (fun b => b ≠ G ∧ some b ≠ v.ownBlock) [v'] (xs.getD i []) from
    rowS.mono hr fun b hb' _ => ⟨⟨by omega, fun e => by have := (hO.lt b e.symm).2; omega⟩, hQ b hb'⟩)
  have e1 : (xs.set x []).set i (xs.getD i []) = xs.set x [] := by
    have := set_self (xs.set x []) i []
    rwa [show (xs.set x []).getD i [] = xs.getD i [] by rw [List.getD_eq_getElem?_getD, List.getElem?_set_ne (Ne.symm hix), List.getD_eq_getElem?_getD]] at this
  rw [e1, List.set_comm _ _ hix.symm] at k1
  have k2 := Shape.all_keep (w' := u.setCell ⟨G, i, none⟩ v') k1 fun b hb' _ => Below.heap_setCell u _ v' b hb'.1
  refine ⟨⟨css.flatten[i]'(by omega), ?_⟩, h1.frozenAt i, h0, css.set i [v'], ?_, k2, ?_, ?_, ?_⟩
  · rw [h1.cellAt i (by omega)]; exact List.getElem?_eq_getElem (by omega)
  · rw [flat_set1 h4]; exact (h1.stored i v').1
  · rw [List.getElem?_set_ne hix]; exact h3
  · intro c hc
    rcases List.mem_or_eq_of_mem_set hc with h5 | h5
    · exact h4 c h5
    · rw [h5]; rfl
  · exact ((hO.keep hb).other (grown_set u G i v') fun b hb' e => by have := (hO.lt b hb').1; cases e; omega)
/-- The row is written, or lies anew; its place in the slice is stored. -/
theorem Lone.put (h : Lone Q w B t e G n c x v xs) (hg : ∀ k, k < w.heap.size → some k ≠ v.ownBlock → u.heap[k]? = w.heap[k]?) {v' : Value} {l : List Int} (hr : rowS.rep u (G + 1 ≤ ·) [v'] l) (hQ : ∀ b, B ≤ b → Q b) :
    (∃ z, u.cell? ⟨G, x, none⟩ = some z) ∧ u.frozen? ⟨G, x, none⟩ = false ∧ matS.rep (u.setCell ⟨G, x, none⟩ v') Q [.slice (some ⟨G, 0, none⟩) n c] (xs.set x l) := by
  obtain ⟨hBG, hG, hxn, hnc, hcm⟩ := h.lt
  have hO := h.own
  obtain ⟨h0, css, h1, h2, h3, h4, _⟩ := h
  have hcl : css.length = xs.length := by have := h2.1; simpa using this
  have hfl : css.flatten.length = xs.length := by rw [flat_len h4, hcl, Nat.mul_one]
  have hGv : some G ≠ v.ownBlock := fun e => by have := (hO.lt G e.symm).1; omega
  have hU : u.ownsRow B e 1 (.slice (some ⟨G, 0, none⟩) n c) n css.flatten := by
    obtain ⟨h1l, h1⟩ := h1
    refine ⟨h1l, ?_⟩
    rcases h1 with h1 | ⟨g, cap, cur, he, hb, hg', hr'⟩
    · exact .inl h1
    · cases he
      exact .inr ⟨G, c, cur, rfl, hb, (hg G hG hGv).trans hg', hr'⟩
  have k0 : (inS rowS Q).all u (fun b => b ≠ G ∧ some b ≠ v.ownBlock) (css.set x [.slice none 0 0]) (xs.set x []) := Shape.all_keep h2 fun b hb hlt => hg b hlt hb.2
  have k1 : (inS rowS Q).all u (· ≠ G) (css.set x [.slice none 0 0]) (xs.set x []) := Shape.all_mono k0 fun b hb _ => hb.1
  have k2 := Shape.all_set (j := x) k1 (show (inS rowS Q).rep u (· ≠ G) [v'] l from rowS.mono hr fun b hb' _ => ⟨by omega, hQ b (by omega)⟩)
  rw [List.set_set, List.set_set] at k2
  have k3 := Shape.all_keep (w' := u.setCell ⟨G, x, none⟩ v') k2 fun b hb' _ => Below.heap_setCell u _ v' b hb'
  have hlen : ∀ c ∈ css.set x [v'], c.length = 1 := fun c hc => by
    rcases List.mem_or_eq_of_mem_set hc with h5 | h5
    · exact h4 c h5
    · rw [h5]; rfl
  have hS : (u.setCell ⟨G, x, none⟩ v').ownsRow B e 1 (.slice (some ⟨G, 0, none⟩) n c) n (css.set x [v']).flatten := by rw [flat_set1 h4]; exact (hU.stored x v').1
  have hown : Own (inS rowS Q) (u.setCell ⟨G, x, none⟩ v') B e (.slice (some ⟨G, 0, none⟩) n c) (xs.set x l) := ⟨css.set x [v'], by rw [List.length_set, h0]; exact hS, Shape.all_mono k3 fun b hb _ e => hb (Option.some.inj e)⟩
  refine ⟨⟨css.flatten[x]'(by omega), ?_⟩, hU.frozenAt x, ?_⟩
  · rw [hU.cellAt x (by omega)]; exact List.getElem?_eq_getElem (by omega)
  · exact hown.among (fun b hb => hb) (fun b hb _ _ => hQ b hb)
theorem Lone.rep (h : Lone Q w B t e G n c x v xs) (hQ : ∀ b, B ≤ b → Q b) : matS.rep w Q [.slice (some ⟨G, 0, none⟩) n c] xs := by
  obtain ⟨hBG, hG, hxn, hnc, hcm⟩ := h.lt
  have hO := h.own
  obtain ⟨h0, css, h1, h2, h3, h4, _⟩ := h
  have k1 : (inS rowS Q).all w (· ≠ G) (css.set x [.slice none 0 0]) (xs.set x []) := Shape.all_mono h2 fun b hb _ => hb.1
  have k2 := Shape.all_set (j := x) k1 (show (inS rowS Q).rep w (· ≠ G) [v] (xs.getD x []) from rowS.mono hO.rowIn fun b hb' _ => by have := (hO.lt b hb').1; exact ⟨by omega, hQ b (by omega)⟩)
  have e1 : css.set x [v] = css := by
    obtain ⟨hi1, hi2⟩ := List.getElem?_eq_some_iff.1 h3
    rw [← hi2, List.set_getElem_self]
  rw [List.set_set, List.set_set, set_self, e1] at k2
  have hown : Own (inS rowS Q) w B e (.slice (some ⟨G, 0, none⟩) n c) xs := ⟨css, by rw [h0]; exact h1, Shape.all_mono k2 fun b hb _ e => hb (Option.some.inj e)⟩
  exact hown.among (fun b hb => hb) (fun b hb _ _ => hQ b hb)
/-- Rows that are copied one by one: the first i are; x is singled out once it is. -/
def Mixed (Q : Nat → Prop) (w : World) (B : Nat) (t e : TypeId) (a : Option Addr) (n c x i : Nat) (xs : List (List Int)) : Prop :=
  (Own (inS rowS Q) w B e (.slice a n c) xs ∧ (x < n → i ≤ x)) ∨ ∃ G v, a = some ⟨G, 0, none⟩ ∧ x < i ∧ Lone Q w B t e G n c x v xs
theorem Mixed.rep {a : Option Addr} {i : Nat} (h : Mixed Q w B t e a n c x i xs) (hQ : ∀ b, B ≤ b → Q b) : matS.rep w Q [.slice a n c] xs := by
  rcases h with ⟨h, _⟩ | ⟨G, v, rfl, _, h⟩
  · exact h.among (fun b hb => hb) (fun b hb _ _ => hQ b hb)
  · exact h.rep hQ
theorem Mixed.step {a : Option Addr} {i : Nat} (h : Mixed Q w B t e a n c x i xs) (hi : i < n) (hb : Below w.heap.size w u) {a' : Option Addr} {c' : Nat} (hv : Own (intS .i64) u w.heap.size t (.slice a' (xs.getD i []).length c') (xs.getD i [])) (hQ : ∀ b, B ≤ b → Q b) :
    ∃ G, a = some ⟨G, 0, none⟩ ∧ B ≤ G ∧ (∃ z, u.cell? ⟨G, i, none⟩ = some z) ∧ u.frozen? ⟨G, i, none⟩ = false ∧ Mixed Q (u.setCell ⟨G, i, none⟩ (.slice a' (xs.getD i []).length c')) B t e a n c x (i + 1) xs := by
  rcases h with ⟨h, hx⟩ | ⟨G, v, rfl, hx, h⟩
  · obtain ⟨G, rfl, hBG, hG, hl⟩ := h.form (by omega)
    refine ⟨G, rfl, hBG, ?_⟩
    by_cases hix : i = x
    · subst hix
      obtain ⟨h1, h2, h3⟩ := Lone.made h hi hb hv
      exact ⟨h1, h2, .inr ⟨G, _, rfl, Nat.lt_succ_self _, h3⟩⟩
    · obtain ⟨h1, h2, h3⟩ := Own.store (A := inS rowS Q) rfl (h.keep hb) hi (v := .slice a' (xs.getD i []).length c') (x := xs.getD i []) (F := (w.heap.size ≤ ·)) (inS_of hv.high fun b hb' => hQ b (by omega)) (fun b hb' => by omega)
      rw [set_self] at h3
      exact ⟨h1, h2, .inl ⟨h3, fun hxn => by have := hx hxn; omega⟩⟩
  · have hlt := h.lt
    obtain ⟨h1, h2, h3⟩ := h.next hi (by omega) hb hv.high (fun b hb' => hQ b (by omega))
    exact ⟨G, rfl, hlt.1, h1, h2, .inr ⟨G, v, rfl, by omega, h3⟩⟩
theorem Own.wider {α : Type} {A : Shape α} {P Q : Nat → Prop} {w : World} {base : Nat} {e : TypeId} {v : Value} {xs : List α} (h : Own (inS A P) w base e v xs) (hPQ : ∀ b, P b → Q b) : Own (inS A Q) w base e v xs := by
  obtain ⟨css, h1, h2⟩ := h
  exact ⟨css, h1, h2.1, fun j c x hc hx => A.mono (h2.2 j c x hc hx) fun b hb _ => ⟨hb.1, hPQ b hb.2⟩⟩
theorem Mixed.keep {a : Option Addr} {i : Nat} (h : Mixed Q w B t e a n c x i xs) (hb : Below w.heap.size w u) : Mixed Q u B t e a n c x i xs := by
  rcases h with ⟨h, hx⟩ | ⟨G, v, rfl, hx, h⟩
  · exact .inl ⟨h.keep hb, hx⟩
  · exact .inr ⟨G, v, rfl, hx, h.keep hb⟩
theorem Mixed.at {a : Option Addr} {i : Nat} (h : Mixed Q w B t e a n c x i xs) (hi : i < n) (hQ : ∀ b, B ≤ b → Q b) :
    ∃ G A C, a = some ⟨G, 0, none⟩ ∧ B ≤ G ∧ w.cell? ⟨G, i, none⟩ = some (.slice A (xs.getD i []).length C) ∧ rowS.rep w Q [.slice A (xs.getD i []).length C] (xs.getD i []) := by
  obtain ⟨b, off, A, C, ha, _, hc, hr⟩ := mat_at (h.rep hQ) hi
  have : ∃ G, a = some ⟨G, 0, none⟩ ∧ B ≤ G := by
    rcases h with ⟨h, hx⟩ | ⟨G, v, hG, hx, h⟩
    · obtain ⟨G, hG, hBG, _⟩ := h.form (by omega)
      exact ⟨G, hG, hBG⟩
    · exact ⟨G, hG, h.lt.1⟩
  obtain ⟨G, hG, hBG⟩ := this
  rw [hG] at ha
  have e1 := Option.some.inj ha
  injection e1 with e2 e3
  subst e2; subst e3
  rw [Nat.zero_add] at hc
  exact ⟨G, A, C, hG, hBG, hc, hr⟩
theorem Mixed.stepG {i : Nat} (h : Mixed Q w B t e (some ⟨G, 0, none⟩) n c x i xs) (hi : i < n) (hb : Below w.heap.size w u) {a' : Option Addr} {c' q : Nat} (hq : (xs.getD i []).length = q) (hv : Own (intS .i64) u w.heap.size t (.slice a' q c') (xs.getD i [])) (hQ : ∀ b, B ≤ b → Q b) :
    (∃ z, u.cell? ⟨G, i, none⟩ = some z) ∧ u.frozen? ⟨G, i, none⟩ = false ∧ Mixed Q (u.setCell ⟨G, i, none⟩ (.slice a' q c')) B t e (some ⟨G, 0, none⟩) n c x (i + 1) xs := by
  subst hq
  obtain ⟨G', hG, _, h1, h2, h3⟩ := h.step hi hb hv hQ
  have e1 := Option.some.inj hG
  injection e1 with e2 e3
  subst e2
  exact ⟨h1, h2, h3⟩
theorem Lone.aside (h : Lone Q w B t e G n c x v xs) {M : Nat} (hg : w.grownBy u (some M)) (hM : M < B) (hQM : ¬ Q M) : Lone Q u B t e G n c x v xs := by
  have hlt := h.lt
  obtain ⟨h0, css, h1, h2, h3, h4, h5⟩ := h
  refine ⟨h0, css, h1.kept hg (.inr fun c => by have h9 : G = M := Option.some.inj c; omega), ⟨h2.1, fun j c x hc hx => rowS.keep (h2.2 j c x hc hx) fun b hb hlt => hg.block b hlt (fun h => hQM (by rw [← Option.some.inj h]; exact hb.2))⟩, h3, h4, h5.other hg fun b hb e => ?_⟩
  have := (h5.lt b hb).1
  have h9 : M = b := Option.some.inj e
  omega
theorem Mixed.aside {a : Option Addr} {i : Nat} (h : Mixed Q w B t e a n c x i xs) {M : Nat} (hg : w.grownBy u (some M)) (hM : M < B) (hQM : ¬ Q M) : Mixed Q u B t e a n c x i xs := by
  rcases h with ⟨h, hx⟩ | ⟨G, v, rfl, hx, h⟩
  · exact .inl ⟨h.aside hg (fun b hb e => hQM (e ▸ hb)) (fun e => by have := (h.lt M e).1; omega), hx⟩
  · exact .inr ⟨G, v, rfl, hx, h.aside hg hM hQM⟩
theorem Mixed.lone {a : Option Addr} (h : Mixed Q w B t e a n c x n xs) (hx : x < n) : ∃ G v, a = some ⟨G, 0, none⟩ ∧ Lone Q w B t e G n c x v xs := by
  rcases h with ⟨_, h⟩ | ⟨G, v, hG, _, h⟩
  · have := h hx; omega
  · exact ⟨G, v, hG, h⟩
end

end Go.Proofs.YtokfcjgfpchffaaGreatDoor
