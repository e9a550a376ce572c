/- How data lie in memory, for slices in slices and the like (no program in sight): a Shape says which cells read as which Lean datum, within which blocks; it stays while those blocks stay. -/
import Derived.Test.YtpfhjdlmjehfnaaRow
import Derived.Deep.Slices
import Derived.Maps.AppendAt
import Derived.Below
namespace Go.Proofs.Ytpfhjdlmjehfnaa
open Go.ChangeShapes Go.WideShapes Go.ChangeAt Go.RowKit

/-- 'a' leads to the cells vs, in a block of F (where there is none: to whatever). -/
def Cells (w : World) (F : Nat → Prop) (a : Option Addr) (vs : List Value) : Prop :=
  vs = [] ∨ ∃ b off, a = some ⟨b, off, none⟩ ∧ F b ∧ b < w.heap.size ∧ ∀ j v, vs[j]? = some v → w.cell? ⟨b, off + j, none⟩ = some v

theorem lt_of_same {w w' : World} {b : Nat} (hb : b < w.heap.size) (h : w'.heap[b]? = w.heap[b]?) : b < w'.heap.size := by
  rw [Array.getElem?_eq_getElem hb] at h
  exact (Array.getElem?_eq_some_iff.1 h).1

theorem Cells.keep {w w' : World} {F : Nat → Prop} {a : Option Addr} {vs : List Value} (h : Cells w F a vs) (hk : ∀ b, F b → b < w.heap.size → w'.heap[b]? = w.heap[b]?) : Cells w' F a vs := by
  rcases h with h0 | ⟨b, off, ha, hF, hb, hc⟩
  · exact .inl h0
  · exact .inr ⟨b, off, ha, hF, lt_of_same hb (hk b hF hb), fun j v hv => (World.cell?_of_block (a := ⟨b, off + j, none⟩) (hk b hF hb)).trans (hc j v hv)⟩
theorem Cells.mono {w : World} {F F' : Nat → Prop} {a : Option Addr} {vs : List Value} (h : Cells w F a vs) (hm : ∀ b, F b → b < w.heap.size → F' b) : Cells w F' a vs := by
  rcases h with h0 | ⟨b, off, ha, hF, hb, hc⟩
  · exact .inl h0
  · exact .inr ⟨b, off, ha, hm b hF hb, hb, hc⟩

structure Shape (α : Type) where
  size : Nat
  rep : World → (Nat → Prop) → List Value → α → Prop
  len : ∀ {w : World} {F : Nat → Prop} {cs : List Value} {x : α}, rep w F cs x → cs.length = size
  one : ∀ {w : World} {F : Nat → Prop} {cs : List Value} {x : α}, rep w F cs x → ∀ u ∈ cs, u.oneCell' = true
  keep : ∀ {w w' : World} {F : Nat → Prop} {cs : List Value} {x : α}, rep w F cs x → (∀ b, F b → b < w.heap.size → w'.heap[b]? = w.heap[b]?) → rep w' F cs x
  mono : ∀ {w : World} {F F' : Nat → Prop} {cs : List Value} {x : α}, rep w F cs x → (∀ b, F b → b < w.heap.size → F' b) → rep w F' cs x

def everywhere (_ : Nat) : Prop := True

theorem Shape.below {α : Type} {A : Shape α} {w w' : World} {F : Nat → Prop} {cs : List Value} {x : α} (h : A.rep w F cs x) (hb : Below w.heap.size w w') : A.rep w' F cs x :=
  A.keep h fun b _ hlt => hb.block b hlt
theorem Shape.any {α : Type} {A : Shape α} {w : World} {F : Nat → Prop} {cs : List Value} {x : α} (h : A.rep w F cs x) : A.rep w everywhere cs x := A.mono h fun _ _ _ => trivial
theorem Shape.low {α : Type} {A : Shape α} {w : World} {F : Nat → Prop} {cs : List Value} {x : α} (h : A.rep w F cs x) : A.rep w (· < w.heap.size) cs x := A.mono h fun _ _ hb => hb

/-- Several, one behind the other. -/
def Shape.all {α : Type} (A : Shape α) (w : World) (F : Nat → Prop) (css : List (List Value)) (xs : List α) : Prop :=
  css.length = xs.length ∧ ∀ (j : Nat) c x, css[j]? = some c → xs[j]? = some x → A.rep w F c x

section
variable {α : Type} {A : Shape α} {w w' : World} {F F' : Nat → Prop} {css : List (List Value)} {xs : List α}

theorem Shape.all_keep (h : A.all w F css xs) (hk : ∀ b, F b → b < w.heap.size → w'.heap[b]? = w.heap[b]?) : A.all w' F css xs := ⟨h.1, fun j c x h1 h2 => A.keep (h.2 j c x h1 h2) hk⟩
theorem Shape.all_mono (h : A.all w F css xs) (hm : ∀ b, F b → b < w.heap.size → F' b) : A.all w F' css xs := ⟨h.1, fun j c x h1 h2 => A.mono (h.2 j c x h1 h2) hm⟩
theorem Shape.all_nil : A.all w F [] [] := ⟨rfl, fun j c x h => by simp at h⟩
theorem Shape.all_one {c : List Value} {x : α} (h : A.rep w F c x) : A.all w F [c] [x] := by
  refine ⟨rfl, fun j c' x' h1 h2 => ?_⟩
  cases j with
  | zero => simp at h1 h2; subst h1; subst h2; exact h
  | succ j => simp at h1
theorem Shape.all_append {ds : List (List Value)} {ys : List α} (h : A.all w F css xs) (k : A.all w F ds ys) : A.all w F (css ++ ds) (xs ++ ys) := by
  refine ⟨by simp [h.1, k.1], fun j c x h1 h2 => ?_⟩
  rw [List.getElem?_append] at h1 h2
  rw [← h.1] at h2
  by_cases hj : j < css.length
  · rw [if_pos hj] at h1 h2; exact h.2 j c x h1 h2
  · rw [if_neg hj] at h1 h2; exact k.2 _ c x h1 h2
theorem Shape.all_at (h : A.all w F css xs) {j : Nat} (hj : j < xs.length) : ∃ c, css[j]? = some c ∧ A.rep w F c (xs[j]) := by
  have hc : j < css.length := by rw [h.1]; exact hj
  exact ⟨css[j], List.getElem?_eq_getElem hc, h.2 j _ _ (List.getElem?_eq_getElem hc) (List.getElem?_eq_getElem hj)⟩
theorem Shape.all_set {j : Nat} {c : List Value} {x : α} (h : A.all w F css xs) (hx : A.rep w F c x) : A.all w F (css.set j c) (xs.set j x) := by
  refine ⟨by simp [h.1], fun i c' x' h1 h2 => ?_⟩
  rw [List.getElem?_set] at h1 h2
  by_cases hij : j = i
  · subst hij
    by_cases hl : j < css.length
    · rw [if_pos rfl, if_pos hl] at h1; rw [if_pos rfl, if_pos (by rw [← h.1]; exact hl)] at h2; cases h1; cases h2; exact hx
    · rw [if_pos rfl, if_neg hl] at h1; cases h1
  · rw [if_neg hij] at h1 h2; exact h.2 i c' x' h1 h2
theorem Shape.all_len (h : A.all w F css xs) : ∀ c ∈ css, c.length = A.size := by
  intro c hc
  obtain ⟨j, hj⟩ := List.getElem?_of_mem hc
  have hjl : j < css.length := (List.getElem?_eq_some_iff.1 hj).1
  exact A.len (h.2 j c _ hj (List.getElem?_eq_getElem (by rw [← h.1]; exact hjl)))
theorem Shape.all_ones (h : A.all w F css xs) : ∀ u ∈ css.flatten, u.oneCell' = true := by
  intro u hu
  obtain ⟨c, hc, huc⟩ := List.mem_flatten.1 hu
  obtain ⟨j, hj⟩ := List.getElem?_of_mem hc
  have hjl : j < css.length := (List.getElem?_eq_some_iff.1 hj).1
  exact A.one (h.2 j c _ hj (List.getElem?_eq_getElem (by rw [← h.1]; exact hjl))) u huc
end

theorem flat_len {css : List (List Value)} {s : Nat} (h : ∀ c ∈ css, c.length = s) : css.flatten.length = css.length * s := by
  induction css with
  | nil => simp
  | cons c css ih =>
    have h1 := h c (by simp)
    have h2 := ih fun d hd => h d (by simp [hd])
    simp only [List.flatten_cons, List.length_append, List.length_cons, h1, h2, Nat.add_mul]; omega
theorem flat_get {css : List (List Value)} {s : Nat} (h : ∀ c ∈ css, c.length = s) (j k : Nat) (hk : k < s) : css.flatten[j * s + k]? = (css[j]?).bind (·[k]?) := by
  induction css generalizing j with
  | nil => simp
  | cons c css ih =>
    have h1 := h c (by simp)
    have h2 := ih fun d hd => h d (by simp [hd])
    rw [List.flatten_cons, List.getElem?_append]
    cases j with
    | zero => rw [Nat.zero_mul, Nat.zero_add, if_pos (by omega)]; rfl
    | succ j =>
      have e : (j + 1) * s = j * s + s := by rw [Nat.add_mul, Nat.one_mul]
      rw [if_neg (by omega), show (j + 1) * s + k - c.length = j * s + k by omega, h2 j]; rfl
theorem flat_cells {css : List (List Value)} {s : Nat} (h : ∀ c ∈ css, c.length = s) {w : World} {b off : Nat}
    (hc : ∀ j c, css[j]? = some c → ∀ k v, c[k]? = some v → w.cell? ⟨b, off + (j * s + k), none⟩ = some v) : ∀ i v, css.flatten[i]? = some v → w.cell? ⟨b, off + i, none⟩ = some v := by
  induction css generalizing off with
  | nil => intro i v hv; simp at hv
  | cons c css ih =>
    intro i v hv
    have h1 := h c (by simp)
    rw [List.flatten_cons, List.getElem?_append] at hv
    by_cases hi : i < c.length
    · rw [if_pos hi] at hv
      have := hc 0 c rfl i v hv
      rw [Nat.zero_mul, Nat.zero_add] at this
      exact this
    · rw [if_neg hi] at hv
      have := ih (fun d hd => h d (by simp [hd])) (off := off + s) (fun j c' hj k v' hk => by
        have := hc (j + 1) c' (by simpa using hj) k v' hk
        rw [show off + ((j + 1) * s + k) = off + s + (j * s + k) by rw [Nat.add_mul, Nat.one_mul]; omega] at this
        exact this) (i - c.length) v hv
      rw [show off + s + (i - c.length) = off + i by omega] at this
      exact this

def intS (k : IntKind) : Shape Int where
  size := 1
  rep _ _ cs x := cs = [.int k x]
  len h := by subst h; rfl
  one h u hu := by subst h; simp at hu; subst hu; rfl
  keep h _ := h
  mono h _ := h

def sliceS {α : Type} (A : Shape α) : Shape (List α) where
  size := 1
  rep w F cs xs := ∃ a c css, cs = [.slice a xs.length c] ∧ xs.length ≤ c ∧ c ≤ maxLen ∧ A.all w F css xs ∧ Cells w F a css.flatten
  len := by rintro w F cs x ⟨a, c, css, rfl, _⟩; rfl
  one := by rintro w F cs x ⟨a, c, css, rfl, _⟩ u hu; simp at hu; subst hu; rfl
  keep := by rintro w w' F cs x ⟨a, c, css, rfl, h1, h2, h3, h4⟩ hk; exact ⟨a, c, css, rfl, h1, h2, Shape.all_keep h3 hk, h4.keep hk⟩
  mono := by rintro w F F' cs x ⟨a, c, css, rfl, h1, h2, h3, h4⟩ hk; exact ⟨a, c, css, rfl, h1, h2, Shape.all_mono h3 hk, h4.mono hk⟩

abbrev rowS : Shape (List Int) := sliceS (intS .i64)
abbrev matS : Shape (List (List Int)) := sliceS rowS

theorem sliceS_len {α : Type} {A : Shape α} {w : World} {F : Nat → Prop} {a : Option Addr} {n c : Nat} {xs : List α} (h : (sliceS A).rep w F [.slice a n c] xs) : xs.length = n ∧ n ≤ c ∧ c ≤ maxLen := by
  obtain ⟨a', c', css, he, h1, h2, _⟩ := h
  simp at he
  obtain ⟨rfl, rfl, rfl⟩ := he
  exact ⟨rfl, h1, h2⟩
theorem sliceS_at {α : Type} {A : Shape α} {w : World} {F : Nat → Prop} {a : Option Addr} {n c : Nat} {xs : List α} (h : (sliceS A).rep w F [.slice a n c] xs) (hs : 0 < A.size) {j : Nat} (hj : j < xs.length) :
    ∃ b off cs, a = some ⟨b, off, none⟩ ∧ F b ∧ b < w.heap.size ∧ (∀ k v, cs[k]? = some v → w.cell? ⟨b, off + (j * A.size + k), none⟩ = some v) ∧ A.rep w F cs (xs[j]) := by
  obtain ⟨a', c', css, he, h1, h2, hall, hcell⟩ := h
  simp at he
  obtain ⟨rfl, rfl, rfl⟩ := he
  obtain ⟨cs, hcs, hrep⟩ := Shape.all_at hall hj
  have hl := Shape.all_len hall
  rcases hcell with h0 | ⟨b, off, ha, hF, hb, hc⟩
  · exfalso
    have := flat_len hl
    rw [h0, hall.1] at this
    have := Nat.mul_pos (show 0 < xs.length by omega) hs
    simp at *; omega
  · refine ⟨b, off, cs, ha, hF, hb, fun k v hk => hc _ v ?_, hrep⟩
    have hks : k < A.size := by rw [← A.len hrep]; exact (List.getElem?_eq_some_iff.1 hk).1
    rw [flat_get hl j k hks, hcs]; exact hk

/-- A row of numbers: the elder form and this one. -/
theorem Row.of_rep {w : World} {F : Nat → Prop} {a : Option Addr} {n c : Nat} {k : IntKind} {l : List Int} (h : (sliceS (intS k)).rep w F [.slice a n c] l) : Row k w a n l := by
  have hl := (sliceS_len h).1
  refine ⟨hl, ?_⟩
  by_cases h0 : n = 0
  · exact .inl h0
  · obtain ⟨b, off, cs, rfl, _⟩ := sliceS_at h (by exact Nat.one_pos) (j := 0) (by omega)
    refine .inr ⟨b, off, rfl, fun j hj => ?_⟩
    obtain ⟨b', off', cs', he, _, _, hc, hr⟩ := sliceS_at h (by exact Nat.one_pos) (j := j) (by omega)
    have he' := Option.some.inj he
    injection he' with e1 e2 e3
    subst e1; subst e2
    have hr' : cs' = [.int k (l[j]'(by omega))] := hr
    subst hr'
    have hz := hc 0 _ rfl
    rw [show off + (j * (intS k).size + 0) = off + j by show off + (j * 1 + 0) = off + j; omega] at hz
    rw [hz, List.getD_eq_getElem?_getD, List.getElem?_eq_getElem (by omega)]; rfl

theorem ints_all (k : IntKind) (w : World) (F : Nat → Prop) (l : List Int) : (intS k).all w F (l.map fun x => [.int k x]) l := by
  refine ⟨by simp, fun j c x h1 h2 => ?_⟩
  rw [List.getElem?_map, h2] at h1
  exact (Option.some.inj h1).symm
theorem ints_flat (k : IntKind) (l : List Int) : (l.map fun x => [Value.int k x]).flatten = l.map (Value.int k) := by
  induction l with
  | nil => rfl
  | cons x l ih => simp [ih]
theorem Row.rep {w : World} {k : IntKind} {a : Option Addr} {n c : Nat} {l : List Int} (h : Row k w a n l) (hc : n ≤ c) (hm : c ≤ maxLen) {F : Nat → Prop} (hF : ∀ b off, a = some ⟨b, off, none⟩ → F b) : (sliceS (intS k)).rep w F [.slice a n c] l := by
  obtain ⟨hl, h⟩ := h
  subst hl
  refine ⟨a, c, _, rfl, hc, hm, ints_all k w F l, ?_⟩
  rw [ints_flat]
  rcases h with h0 | ⟨b, off, rfl, hcell⟩
  · exact .inl (by rw [List.eq_nil_of_length_eq_zero h0]; rfl)
  · by_cases h0 : l.length = 0
    · exact .inl (by rw [List.eq_nil_of_length_eq_zero h0]; rfl)
    · refine .inr ⟨b, off, rfl, hF b off rfl, World.block_lt_of_cell? w _ (hcell 0 (by omega)), fun j v hv => ?_⟩
      rw [List.getElem?_map, Option.map_eq_some_iff] at hv
      obtain ⟨x, hx, rfl⟩ := hv
      have hj := (List.getElem?_eq_some_iff.1 hx).1
      rw [hcell j hj, List.getD_eq_getElem?_getD, hx]; rfl

/-! ### What came in -/
/-- Whatever is read as of type t lies so. -/
def Opens (P : Program) (t : TypeId) {α : Type} (A : Shape α) (Wf : α → Prop) : Prop :=
  ∀ (H : Type) (enc : TypeId × Value → H) (w : World) (base : Nat) (spare : Nat → Bool) (held : Bool) (fuel : Nat) (cs : List Value) (x : DataW H × List MemPlace),
    DataW.trod enc P w base spare held fuel t cs = some x → ∃ y, A.rep w everywhere cs y ∧ Wf y
theorem opens_int {P : Program} {t : TypeId} {k : IntKind} (ht : P.underlying t = some (.int k)) : Opens P t (intS k) fun n => (Lit.int k n).wf = true := by
  intro H enc w base spare held fuel cs x h
  obtain ⟨n, rfl, _, hw⟩ := DataW.trod_int ht h
  exact ⟨n, rfl, hw⟩
theorem opens_slice {P : Program} {t e : TypeId} {α : Type} {A : Shape α} {Wf : α → Prop} (ht : P.underlying t = some (.slice e)) (he : P.cellsOf e = A.size) (hs : 0 < A.size) (ho : Opens P e A Wf) : Opens P t (sliceS A) fun l => ∀ x ∈ l, Wf x := by
  intro H enc w base spare held fuel cs x h
  rcases Go.Deep.open_slice ht h with ⟨rfl, _⟩ | ⟨a, len, cap, m, n, D, Pl, rfl, hb, hl, hm, hmm, rfl, hx⟩
  · exact ⟨[], ⟨none, 0, [], rfl, Nat.le_refl _, Nat.zero_le _, Shape.all_nil, .inl rfl⟩, by simp⟩
  have hlm : len ≤ m := by rw [hmm]; split <;> omega
  have hex : ∀ i, i < len → ∃ p : List Value × α, (w.cells? base (a.add (i * A.size)) A.size = some p.1) ∧ A.rep w everywhere p.1 p.2 ∧ Wf p.2 := by
    intro i hi
    obtain ⟨cs', h1, h2⟩ := hx i (by omega)
    obtain ⟨y, hy, hw⟩ := ho H enc w base spare held n cs' _ h2
    rw [he] at h1
    exact ⟨(cs', y), h1, hy, hw⟩
  have hlist : ∀ n, n ≤ len → ∃ (css : List (List Value)) (xs : List α), css.length = n ∧ xs.length = n ∧ ∀ j c y, css[j]? = some c → xs[j]? = some y → (w.cells? base (a.add (j * A.size)) A.size = some c) ∧ A.rep w everywhere c y ∧ Wf y := by
    intro n
    induction n with
    | zero => intro _; exact ⟨[], [], rfl, rfl, fun j c y h => by simp at h⟩
    | succ n ih =>
      intro hn
      obtain ⟨css, xs, h1, h2, h3⟩ := ih (by omega)
      obtain ⟨⟨c, y⟩, hc, hy, hw⟩ := hex n (by omega)
      refine ⟨css ++ [c], xs ++ [y], by simp [h1], by simp [h2], fun j c' y' hc' hy' => ?_⟩
      rw [List.getElem?_append] at hc' hy'
      by_cases hj : j < n
      · rw [if_pos (by omega)] at hc' hy'; exact h3 j c' y' hc' hy'
      · rw [if_neg (by omega)] at hc' hy'
        by_cases hjn : j = n
        · subst hjn
          rw [h1, Nat.sub_self] at hc'; rw [h2, Nat.sub_self] at hy'
          simp at hc' hy'; subst hc'; subst hy'; exact ⟨hc, hy, hw⟩
        · rw [List.getElem?_eq_none (by simp; omega)] at hc'; cases hc'
  obtain ⟨css, xs, h1, h2, h3⟩ := hlist len (Nat.le_refl _)
  have hall : A.all w everywhere css xs := ⟨by omega, fun j c y hc hy => (h3 j c y hc hy).2.1⟩
  subst h2
  refine ⟨xs, ⟨some a, cap, css, rfl, hl, hm, hall, ?_⟩, fun y hy => ?_⟩
  · by_cases h0 : xs.length = 0
    · exact .inl (by rw [List.eq_nil_of_length_eq_zero (by omega : css.length = 0)]; rfl)
    · obtain ⟨b, off, spot⟩ := a
      have hc0 := (h3 0 _ _ (List.getElem?_eq_getElem (by omega : 0 < css.length)) (List.getElem?_eq_getElem (by omega : 0 < xs.length))).1
      obtain ⟨_, hl0, hcell0⟩ := World.cells?_some hc0
      have hc00 := hcell0 0 hs
      rw [List.getElem?_eq_getElem (by omega)] at hc00
      have hspot : spot = none := by simpa [Addr.add] using World.cell?_spot hc00
      subst hspot
      refine .inr ⟨b, off, rfl, trivial, ?_, flat_cells (Shape.all_len hall) fun j c hj k v hk => ?_⟩
      · have := World.block_lt_of_cell? w _ hc00; simpa [Addr.add_lit] using this
      · have hjl : j < css.length := (List.getElem?_eq_some_iff.1 hj).1
        obtain ⟨_, hlc, hcell⟩ := World.cells?_some (h3 j c _ hj (List.getElem?_eq_getElem (by omega : j < xs.length))).1
        have hkl : k < c.length := (List.getElem?_eq_some_iff.1 hk).1
        have := hcell k (by omega)
        rw [Addr.add_lit, Addr.add_lit, hk, Nat.add_assoc] at this
        exact this
  · obtain ⟨j, hj⟩ := List.getElem?_of_mem hy
    have hjl : j < xs.length := (List.getElem?_eq_some_iff.1 hj).1
    exact (h3 j _ y (List.getElem?_eq_getElem (by omega : j < css.length)) hj).2.2

/-! ### What the call owns -/
/-- The call owns the slice v of the xs; what its elements lead to lies in other blocks than its own. -/
def Own {α : Type} (A : Shape α) (w : World) (base : Nat) (e : TypeId) (v : Value) (xs : List α) : Prop :=
  ∃ css, w.ownsRow base e A.size v xs.length css.flatten ∧ A.all w (fun b => some b ≠ v.ownBlock) css xs

section
variable {α : Type} {A : Shape α} {w w' : World} {base : Nat} {e : TypeId} {v : Value} {xs : List α}

theorem Own.nil (A : Shape α) (w : World) (base : Nat) (e : TypeId) : Own A w base e (.slice none 0 0) [] := ⟨[], World.ownsRow_nil _ _ _ _, Shape.all_nil⟩
theorem Own.keep (h : Own A w base e v xs) (hb : Below w.heap.size w w') : Own A w' base e v xs := by
  obtain ⟨css, h1, h2⟩ := h
  exact ⟨css, h1.kept (row := none) ⟨hb.os, hb.tape, hb.output, hb.size, fun j hj _ => hb.block j hj⟩ (by cases hv : v.ownBlock <;> simp), Shape.all_keep h2 fun b _ hlt => hb.block b hlt⟩
theorem Own.rep (h : Own A w base e v xs) : ∃ a c, v = .slice a xs.length c ∧ (sliceS A).rep w everywhere [.slice a xs.length c] xs := by
  obtain ⟨css, ⟨hl, h1⟩, h2⟩ := h
  rcases h1 with ⟨rfl, h0⟩ | ⟨g, cap, cur, rfl, hb, hg, hnc, hcm, hcs, htake⟩
  · have hx := List.eq_nil_of_length_eq_zero h0
    subst hx
    have hc : css = [] := List.eq_nil_of_length_eq_zero h2.1
    subst hc
    exact ⟨none, 0, rfl, none, 0, [], rfl, Nat.le_refl _, Nat.zero_le _, Shape.all_nil, .inl rfl⟩
  · refine ⟨some ⟨g, 0, none⟩, cap, rfl, some ⟨g, 0, none⟩, cap, css, rfl, hnc, hcm, Shape.all_mono h2 (fun _ _ _ => trivial), .inr ⟨g, 0, rfl, trivial, (Array.getElem?_eq_some_iff.1 hg).1, fun j u hu => ?_⟩⟩
    rw [cell_of_row w g (0 + j) cur e (0, 0) hg]
    have hj := (List.getElem?_eq_some_iff.1 hu).1
    rw [← htake, List.getElem?_take] at hu
    split at hu
    · simpa using hu
    · cases hu
theorem Own.lt (h : Own A w base e v xs) : ∀ k, v.ownBlock = some k → base ≤ k ∧ k < w.heap.size := by
  obtain ⟨css, h1, _⟩ := h
  exact h1.lt

/-- What lies among the call's blocks is no old block. -/
theorem Own.apart (h : Own A w base e v xs) {N : Nat} (hN : N ≤ base) : ∀ b, b < N → some b ≠ v.ownBlock := fun b hb hv => by
  have := (h.lt b hv.symm).1; omega

theorem run_app {P : Program} (t ty : TypeId) (i : TypeInfo) (z : Value) (bytes : Nat) (ht : P.underlying t = some (.slice e)) (hi : P.info? e = some i) (hz : i.zero = some z)
    (hsize : i.size = A.size) (hby : i.bytes = bytes) (hzs : z.cells.size = A.size) (hsz : 0 < A.size)
    (hown : Own A w base e v xs) (a : Option Addr) (m c : Nat) (ys : List α) {F : Nat → Prop} (hr : (sliceS A).rep w F [.slice a m c] ys) (hF : ∀ b, F b → some b ≠ v.ownBlock)
    (h63 : xs.length + m ≤ maxLen) (hbytes : (xs.length + m) * bytes ≤ 140737488355328) (hbase : base ≤ w.heap.size) :
    ∃ a' c' w', (Builtin.append_ #[t, t] ty #[v, .slice a m c]).run P w = .ok (.slice a' (xs.length + m) c') w' ∧ Own A w' base e (.slice a' (xs.length + m) c') (xs ++ ys) ∧ w.grownBy w' v.ownBlock ∧
      (Value.ownBlock (.slice a' (xs.length + m) c') = v.ownBlock ∨ Value.ownBlock (.slice a' (xs.length + m) c') = some w.heap.size) := by
  have hm := (sliceS_len hr).1
  subst hm
  obtain ⟨css, hrow, hall⟩ := hown
  obtain ⟨a1, c1, ds, he, _, _, hall2, hcells⟩ := hr
  simp at he
  obtain ⟨rfl, rfl⟩ := he
  have hdl : ds.flatten.length = ys.length * A.size := by rw [flat_len (Shape.all_len hall2), hall2.1]
  cases a with
  | none =>
    have h0 : ys = [] := by
      rcases hcells with h0 | ⟨b, off, h, _⟩
      · rw [h0] at hdl
        rcases Nat.eq_zero_or_pos ys.length with h | h
        · exact List.eq_nil_of_length_eq_zero h
        · have := Nat.mul_pos h hsz; simp at hdl; omega
      · cases h
    subst h0
    have hds : ds = [] := List.eq_nil_of_length_eq_zero hall2.1
    subst hds
    rcases hrow.2 with ⟨rfl, h0⟩ | ⟨g, cap, cur, rfl, _, _, hnc, _⟩
    · have hx := List.eq_nil_of_length_eq_zero h0
      subst hx
      refine ⟨none, 0, w, ?_, ⟨css, by simpa using hrow, by simpa using hall⟩, ⟨rfl, rfl, rfl, Nat.le_refl _, fun _ _ _ => rfl⟩, .inl rfl⟩
      simp [Builtin.append_, run_underlying ht, sizeOf, typeInfo, hi, Builtin.lenOf, Builtin.firstCells]
    · refine ⟨some ⟨g, 0, none⟩, cap, w, ?_, ⟨css, by simpa using hrow, by simpa using hall⟩, ⟨rfl, rfl, rfl, Nat.le_refl _, fun _ _ _ => rfl⟩, .inl rfl⟩
      simp [Builtin.append_, run_underlying ht, sizeOf, typeInfo, hi, Builtin.lenOf, Builtin.firstCells, hnc, storeCells]
  | some ad =>
    have hnews : ∀ j u, ds.flatten[j]? = some u → w.cell? (ad.add j) = some u := by
      intro j u hu
      rcases hcells with h0 | ⟨b, off, hb, _, _, hc⟩
      · rw [h0] at hu; simp at hu
      · obtain rfl := Option.some.inj hb
        rw [Addr.add_lit]; exact hc j u hu
    obtain ⟨v', w', h1, h2, h3, _, h5⟩ := run_append_own_at (P := P) w base t ty e i z A.size bytes ht hi hz hsize hby hzs hsz v xs.length _ hrow ad ys.length c ds.flatten hdl hnews (Shape.all_ones hall2) h63 hbytes hbase
    have hform : ∃ a' c', v' = .slice a' (xs.length + ys.length) c' := by
      rcases h2.2 with ⟨rfl, h0⟩ | ⟨g, cap, cur, rfl, _⟩
      · exact ⟨none, 0, by rw [h0]⟩
      · exact ⟨_, _, rfl⟩
    obtain ⟨a', c', rfl⟩ := hform
    have hk : ∀ b, some b ≠ v.ownBlock → b < w.heap.size → w'.heap[b]? = w.heap[b]? := fun b hb hlt => h3.block b hlt hb
    have hn : ∀ b, some b ≠ v.ownBlock → b < w.heap.size → some b ≠ Value.ownBlock (.slice a' (xs.length + ys.length) c') := by
      intro b hb hlt
      rcases h5 with h5 | h5
      · rw [h5]; exact hb
      · rw [h5]; intro h; have := Option.some.inj h; omega
    refine ⟨a', c', w', h1, ⟨css ++ ds, by rw [List.flatten_append, List.length_append]; exact h2, ?_⟩, h3, h5⟩
    have k1 := Shape.all_mono hall hn
    have k2 := Shape.all_mono hall2 fun b hb hlt => hn b (hF b hb) hlt
    have k3 := Shape.all_append k1 k2
    refine ⟨k3.1, fun j c x hc hx => ?_⟩
    have hall' : A.all w (fun b => some b ≠ v.ownBlock ∧ some b ≠ Value.ownBlock (.slice a' (xs.length + ys.length) c')) (css ++ ds) (xs ++ ys) :=
      Shape.all_append (Shape.all_mono hall fun b hb hlt => ⟨hb, hn b hb hlt⟩) (Shape.all_mono hall2 fun b hb hlt => ⟨hF b hb, hn b (hF b hb) hlt⟩)
    exact A.mono (A.keep (hall'.2 j c x hc hx) fun b hb hlt => hk b hb.1 hlt) fun b hb _ => hb.2
end

/-- 'append(v, x...)' in a walk, guarded or not. -/
theorem wpList_app {α : Type} (A : Shape α) {P : Program} {w : World} {ops : Array Oper} {rest : List Oper} {o : Oper} {act : Act} {Q : Exit → Act → World → Prop} (hw : Region.wanted o (yielded ops act.tmps) = true) (s x : Operand) (t : TypeId)
    (ho : o.op = .call { callee := .builtin .append, args := #[s, x], argTypes := #[t, t] })
    (base : Nat) (e : TypeId) (i : TypeInfo) (z : Value) (bytes : Nat) (ht : P.underlying t = some (.slice e)) (hi : P.info? e = some i) (hz : i.zero = some z)
    (hsize : i.size = A.size) (hby : i.bytes = bytes) (hzs : z.cells.size = A.size) (hsz : 0 < A.size) (hbl : bytes ≤ 1000) {v : Value} {xs : List α} (hs : act.eval s = v) (hown : Own A w base e v xs)
    {a : Option Addr} {m c : Nat} (hx : act.eval x = .slice a m c) {ys : List α} {F : Nat → Prop} (hr : (sliceS A).rep w F [.slice a m c] ys) (hF : ∀ b, F b → some b ≠ v.ownBlock)
    (hsm : xs.length + m ≤ 100000) (hbase : base ≤ w.heap.size)
    (h : ∀ a' c' w', Own A w' base e (.slice a' (xs.length + m) c') (xs ++ ys) → w.grownBy w' v.ownBlock → Below base w w' → (Value.ownBlock (.slice a' (xs.length + m) c') = v.ownBlock ∨ Value.ownBlock (.slice a' (xs.length + m) c') = some w.heap.size) →
      wpList P ops Q rest (act.put o.dst (.slice a' (xs.length + m) c')) w') : wpList P ops Q (o :: rest) act w := by
  refine wpList_step fun K hK => ?_
  rw [if_pos hw]
  have hbytes : (xs.length + m) * bytes ≤ 140737488355328 := by
    have := Nat.mul_le_mul hsm hbl
    omega
  obtain ⟨a', c', w', hrun, h2, h3, h4⟩ := run_app (P := P) t o.type i z bytes ht hi hz hsize hby hzs hsz hown a m c ys hr hF (by unfold maxLen; omega) hbytes hbase
  have hb : Below base w w' := (Below.refl _ _).grown h3 hbase (fun g hg => (hown.lt g hg).1)
  unfold Oper.wp
  simp [execOp, ho, resolve, invoke, builtin, hs, hx, hrun, Result.andThen]
  exact hK _ _ (h a' c' w' h2 h3 hb h4)

/-- One element, laid in a block of its own: what 'append(v, x)' appends. -/
theorem rep_one {α : Type} {A : Shape α} {w : World} {F : Nat → Prop} {cs : List Value} {x : α} {e : TypeId} (h : A.rep w F cs x) : (sliceS A).rep (w.alloc (.cells cs.toArray e)) (fun b => (F b ∧ b < w.heap.size) ∨ b = w.heap.size) [.slice (some ⟨w.heap.size, 0, none⟩) 1 1] [x] := by
  have hk : A.rep (w.alloc (.cells cs.toArray e)) (fun b => F b ∧ b < w.heap.size) cs x := A.keep (A.mono h fun b hb hlt => ⟨hb, hlt⟩) fun b hb hlt => Below.heap_alloc w _ b hlt
  refine ⟨some ⟨w.heap.size, 0, none⟩, 1, [cs], rfl, Nat.le_refl _, by decide, Shape.all_one (A.mono hk fun b hb _ => .inl hb), .inr ⟨w.heap.size, 0, rfl, .inr rfl, by simp, fun j v hv => ?_⟩⟩
  rw [cell_of_row _ w.heap.size (0 + j) cs.toArray e (0, 0) (heap_alloc_new w _)]
  simpa using hv

/-- The same at a step of a region that draws its order; the new length and the new list under names of one's own. -/
theorem step_app {α : Type} (A : Shape α) {P : Program} {w : World} {ops : Array Oper} {o : Oper} {act : Act} {K : Act → World → Prop} {Q : Exit → Act → World → Prop} {E : Prop} (hw : Region.wanted o (yielded ops act.tmps) = true) (s x : Operand) (t : TypeId)
    (ho : o.op = .call { callee := .builtin .append, args := #[s, x], argTypes := #[t, t] })
    (base : Nat) (e : TypeId) (i : TypeInfo) (z : Value) (bytes : Nat) (ht : P.underlying t = some (.slice e)) (hi : P.info? e = some i) (hz : i.zero = some z)
    (hsize : i.size = A.size) (hby : i.bytes = bytes) (hzs : z.cells.size = A.size) (hsz : 0 < A.size) (hbl : bytes ≤ 1000) {v : Value} {xs : List α} (hs : act.eval s = v) (hown : Own A w base e v xs)
    {a : Option Addr} {m c : Nat} (hx : act.eval x = .slice a m c) {ys : List α} {F : Nat → Prop} (hr : (sliceS A).rep w F [.slice a m c] ys) (hF : ∀ b, F b → some b ≠ v.ownBlock)
    (hsm : xs.length + m ≤ 100000) (hbase : base ≤ w.heap.size) (k : Nat) (hk : xs.length + m = k) (zs : List α) (hcat : xs ++ ys = zs)
    (h : ∀ a' c' w', Own A w' base e (.slice a' k c') zs → w.grownBy w' v.ownBlock → Below base w w' → (Value.ownBlock (.slice a' k c') = v.ownBlock ∨ Value.ownBlock (.slice a' k c') = some w.heap.size) →
      K (act.put o.dst (.slice a' k c')) w') : if Region.wanted o (yielded ops act.tmps) = true then Oper.wp P o act w K Q else E := by
  rw [if_pos hw]
  subst hk
  subst hcat
  have hbytes : (xs.length + m) * bytes ≤ 140737488355328 := by
    have := Nat.mul_le_mul hsm hbl
    omega
  obtain ⟨a', c', w', hrun, h2, h3, h4⟩ := run_app (P := P) t o.type i z bytes ht hi hz hsize hby hzs hsz hown a m c ys hr hF (by unfold maxLen; omega) hbytes hbase
  have hb : Below base w w' := (Below.refl _ _).grown h3 hbase (fun g hg => (hown.lt g hg).1)
  unfold Oper.wp
  simp [execOp, ho, resolve, invoke, builtin, hs, hx, hrun, Result.andThen]
  exact h a' c' w' h2 h3 hb h4

/-- An empty slice that a literal has laid in block g. -/
theorem Own.of_empty {α : Type} (A : Shape α) {w : World} {base g : Nat} {e : TypeId} (hg : w.heap[g]? = some (.cells #[] e (0, 0))) (hb : base ≤ g) : Own A w base e (.slice (some ⟨g, 0, none⟩) 0 0) [] :=
  ⟨[], ⟨by simp, .inr ⟨g, 0, #[], rfl, hb, hg, Nat.le_refl _, by simp [maxLen], by simp, by simp⟩⟩, Shape.all_nil⟩
/-- One element in block g, laid there by itself. -/
theorem rep_at {α : Type} {A : Shape α} {w : World} {F : Nat → Prop} {cs : List Value} {x : α} {e : TypeId} {g : Nat} (h : A.rep w F cs x) (hg : w.heap[g]? = some (.cells cs.toArray e (0, 0))) : (sliceS A).rep w (fun b => F b ∨ b = g) [.slice (some ⟨g, 0, none⟩) 1 1] [x] := by
  refine ⟨some ⟨g, 0, none⟩, 1, [cs], rfl, Nat.le_refl _, by decide, Shape.all_one (A.mono h fun b hb _ => .inl hb), .inr ⟨g, 0, rfl, .inr rfl, (Array.getElem?_eq_some_iff.1 hg).1, fun j v hv => ?_⟩⟩
  rw [cell_of_row _ g (0 + j) cs.toArray e (0, 0) hg]
  simpa using hv
theorem heap_new (w : World) (o : Obj) (g : Nat) (hg : g = w.heap.size) : (w.alloc o).heap[g]? = some o := by subst hg; exact heap_alloc_new w o
theorem heap_old (w : World) (o o' : Obj) (g : Nat) (hg : g < w.heap.size) (h : w.heap[g]? = some o) : (w.alloc o').heap[g]? = some o := (Below.heap_alloc w o' g hg).trans h

end Go.Proofs.Ytpfhjdlmjehfnaa
