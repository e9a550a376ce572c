/- Entries in memory and ledgers as lists (no program in sight): an entry is a key of four numbers and a row, in five cells. -/
import Derived.Test.YtpfhjdlmjehfnaaStruct
import Derived.Test.YtpfhjdlmjehfnaaSlot
namespace Go.Proofs.Ytpfhjdlmjehfnaa
open Go.ChangeShapes Go.WideShapes Go.ChangeAt Go.RowKit

/-! ### What lies among certain blocks, and stores of whole elements -/
/-- The same, in blocks of P alone. -/
def inS {α : Type} (A : Shape α) (P : Nat → Prop) : Shape α where
  size := A.size
  rep w F cs x := A.rep w (fun b => F b ∧ P b) cs x
  len h := A.len h
  one h := A.one h
  keep h hk := A.keep h fun b hb hlt => hk b hb.1 hlt
  mono h hm := A.mono h fun b hb hlt => ⟨hm b hb.1 hlt, hb.2⟩
theorem inS_of {α : Type} {A : Shape α} {P F : Nat → Prop} {w : World} {cs : List Value} {x : α} (h : A.rep w F cs x) (hP : ∀ b, F b → P b) : (inS A P).rep w F cs x := A.mono h fun b hb _ => ⟨hb, hP b hb⟩
theorem Own.within {α : Type} {A : Shape α} {w : World} {base : Nat} {e : TypeId} {a : Option Addr} {n c : Nat} {xs : List α} (h : Own (inS A (base ≤ ·)) w base e (.slice a n c) xs) : (sliceS A).rep w (base ≤ ·) [.slice a n c] xs := by
  obtain ⟨css, ⟨hl, h1⟩, h2⟩ := h
  have h2' : A.all w (base ≤ ·) css xs := ⟨h2.1, fun j c x hc hx => A.mono (h2.2 j c x hc hx) fun b hb _ => hb.2⟩
  rcases h1 with ⟨he, h0⟩ | ⟨g, cap, cur, he, hb, hg, hnc, hcm, hcs, htake⟩
  · cases he
    have hx := List.eq_nil_of_length_eq_zero h0
    subst hx
    exact rep_none _ _ _
  · cases he
    refine ⟨some ⟨g, 0, none⟩, c, css, rfl, hnc, hcm, h2', .inr ⟨g, 0, rfl, hb, (Array.getElem?_eq_some_iff.1 hg).1, fun j u hu => ?_⟩⟩
    rw [cell_of_row w g (0 + j) cur e (0, 0) hg]
    have hj := (List.getElem?_eq_some_iff.1 hu).1
    rw [← htake, List.getElem?_take] at hu
    split at hu
    · simpa using hu
    · cases hu

/-- The values vs, stored one behind the other from cell i of block g on. -/
def setRun (w : World) (g i : Nat) : List Value → World
  | [] => w
  | v :: vs => setRun (w.setCell ⟨g, i, none⟩ v) g (i + 1) vs
def setList (l : List Value) (i : Nat) : List Value → List Value
  | [] => l
  | v :: vs => setList (l.set i v) (i + 1) vs
theorem setRun_block {w : World} {g i k : Nat} {vs : List Value} (hk : k ≠ g) : (setRun w g i vs).heap[k]? = w.heap[k]? := by
  induction vs generalizing w i with
  | nil => rfl
  | cons v vs ih => exact (ih (w := w.setCell ⟨g, i, none⟩ v)).trans (Below.heap_setCell w _ v k hk)
theorem bel_run {B : Nat} {a w : World} {g i : Nat} {vs : List Value} (h : Below B a w) (hg : B ≤ g) : Below B a (setRun w g i vs) := by
  induction vs generalizing w i with
  | nil => exact h
  | cons v vs ih => exact ih (bel_put h hg v)
theorem run_owns {w : World} {base : Nat} {e : TypeId} {size g n c : Nat} {xs : List Value} {i : Nat} {vs : List Value} (h : w.ownsRow base e size (.slice (some ⟨g, 0, none⟩) n c) n xs) : (setRun w g i vs).ownsRow base e size (.slice (some ⟨g, 0, none⟩) n c) n (setList xs i vs) := by
  induction vs generalizing w xs i with
  | nil => exact h
  | cons v vs ih => exact ih (h.stored i v).1
theorem setList_cons (u : Value) (l : List Value) (i : Nat) (vs : List Value) : setList (u :: l) (i + 1) vs = u :: setList l i vs := by
  induction vs generalizing l i with
  | nil => rfl
  | cons v vs ih => exact ih (l.set i v) (i + 1)
theorem setList_append (c l : List Value) (i : Nat) (vs : List Value) : setList (c ++ l) (c.length + i) vs = c ++ setList l i vs := by
  induction c with
  | nil => simp
  | cons u c ih => rw [List.length_cons, List.cons_append, show c.length + 1 + i = c.length + i + 1 by omega, setList_cons, ih]; rfl
theorem setList_all (c l vs : List Value) (h : c.length = vs.length) : setList (c ++ l) 0 vs = vs ++ l := by
  induction vs generalizing c with
  | nil =>
    have := List.eq_nil_of_length_eq_zero (by simpa using h : c.length = 0)
    subst this
    rfl
  | cons v vs ih =>
    match c, h with
    | u :: c, h =>
      show setList (v :: (c ++ l)) (0 + 1) vs = _
      rw [setList_cons, ih c (by simpa using h)]
      rfl
theorem flat_setK {css : List (List Value)} {s : Nat} (h : ∀ c ∈ css, c.length = s) {j : Nat} (hj : j < css.length) {vs : List Value} (hv : vs.length = s) : (css.set j vs).flatten = setList css.flatten (j * s) vs := by
  induction css generalizing j with
  | nil => simp at hj
  | cons c css ih =>
    have h1 := h c (by simp)
    cases j with
    | zero => rw [List.set_cons_zero, List.flatten_cons, List.flatten_cons, Nat.zero_mul, setList_all _ _ _ (by omega)]
    | succ j =>
      rw [List.set_cons_succ, List.flatten_cons, List.flatten_cons, ih (fun d hd => h d (by simp [hd])) (by simpa using hj), show (j + 1) * s = c.length + j * s by rw [Nat.add_mul, Nat.one_mul]; omega, setList_append]
section
variable {α : Type} {A : Shape α} {w : World} {base : Nat} {e : TypeId} {g n c : Nat} {xs : List α}
/-- A store of a whole element into a slice that the call owns. -/
theorem Own.storeK (h : Own A w base e (.slice (some ⟨g, 0, none⟩) n c) xs) {j : Nat} (hj : j < n) {vs : List Value} {x : α} {F : Nat → Prop} (hx : A.rep w F vs x) (hF : ∀ b, F b → b ≠ g) :
    Own A (setRun w g (j * A.size) vs) base e (.slice (some ⟨g, 0, none⟩) n c) (xs.set j x) := by
  have hl := (sliceS_len h.is).1
  obtain ⟨css, hrow, hall⟩ := h
  subst hl
  have hlen := Shape.all_len hall
  refine ⟨css.set j vs, ?_, ?_⟩
  · rw [flat_setK hlen (by rw [hall.1]; exact hj) (A.len hx), List.length_set]
    exact run_owns hrow
  · have k1 := Shape.all_set (j := j) hall (A.mono hx fun b hb _ => show some b ≠ Value.ownBlock (.slice (some ⟨g, 0, none⟩) xs.length c) from fun e => hF b hb (by injection e))
    exact Shape.all_keep k1 fun b hb _ => setRun_block (fun e => hb (by rw [e]; rfl))
theorem Own.cellK (h : Own A w base e (.slice (some ⟨g, 0, none⟩) n c) xs) {j : Nat} (hj : j < n) {i : Nat} (hi : i < A.size) : ∃ z, w.cell? ⟨g, j * A.size + i, none⟩ = some z := by
  have hl := (sliceS_len h.is).1
  obtain ⟨css, hrow, hall⟩ := h
  subst hl
  have hlen := Shape.all_len hall
  have hfl : css.flatten.length = xs.length * A.size := by rw [flat_len hlen, hall.1]
  have hlt : j * A.size + i < xs.length * A.size := by
    have h2 := Nat.mul_le_mul_right A.size (show j + 1 ≤ xs.length from hj)
    rw [Nat.add_mul, Nat.one_mul] at h2
    omega
  exact ⟨css.flatten[j * A.size + i]'(by omega), by rw [hrow.cellAt _ hlt]; exact List.getElem?_eq_getElem (by omega)⟩
theorem Own.freeK (h : Own A w base e (.slice (some ⟨g, 0, none⟩) n c) xs) (i : Nat) : w.frozen? ⟨g, i, none⟩ = false := by
  have hl := (sliceS_len h.is).1
  obtain ⟨css, hrow, hall⟩ := h
  subst hl
  exact hrow.frozenAt i
end
/-- What 'make' lays: n elements of the zero cells. -/
theorem made_flat (z : List Value) (hz : 0 < z.length) (n : Nat) : (madeCells z.toArray (n * z.length)).toList = (List.replicate n z).flatten := by
  have hl : ∀ c ∈ List.replicate n z, c.length = z.length := fun c hc => by rw [(List.mem_replicate.1 hc).2]
  have hfl := flat_len hl
  rw [List.length_replicate] at hfl
  apply List.ext_getElem?
  intro i
  by_cases hi : i < n * z.length
  · have hd : i / z.length < n := Nat.div_lt_of_lt_mul (by rw [Nat.mul_comm]; exact hi)
    have hm : i % z.length < z.length := Nat.mod_lt _ hz
    have e : (i / z.length) * z.length + i % z.length = i := by rw [Nat.mul_comm]; exact Nat.div_add_mod i z.length
    have h2 := flat_get hl (i / z.length) (i % z.length) hm
    rw [e] at h2
    rw [h2, List.getElem?_replicate, if_pos hd]
    have h3 : (madeCells z.toArray (n * z.length)).toList[i]? = some (z.toArray[i % z.toArray.size]!) := by
      simp [madeCells, hi]
    rw [h3]
    simp [hm]
  · rw [List.getElem?_eq_none (by rw [Array.length_toList, size_madeCells]; omega), List.getElem?_eq_none (by omega)]
theorem Own.made {α : Type} {A : Shape α} {w : World} {base g n c : Nat} {e : TypeId} {z : List Value} {x : α} (hz : 0 < z.length) (hs : A.size = z.length) (h : w.ownsRow base e z.length (.slice (some ⟨g, 0, none⟩) n c) n (madeCells z.toArray (n * z.length)).toList) (hx : ∀ F, A.rep w F z x) : Own A w base e (.slice (some ⟨g, 0, none⟩) n c) (List.replicate n x) := by
  refine ⟨List.replicate n z, ?_, by simp, fun j d y hd hy => ?_⟩
  · rw [made_flat z hz] at h
    rw [List.length_replicate, hs]
    exact h
  · rw [List.getElem?_replicate] at hd hy
    split at hd
    · rename_i hj
      rw [if_pos hj] at hy
      cases hd; cases hy
      exact hx _
    · cases hd

/-! ### Entries -/
abbrev Ky := Int × Int × Int × Int × Unit
abbrev En := Ky × List Int × Unit
abbrev kyS : Shape Ky := consS (intS .i64) (consS (intS .i64) (consS (intS .i64) (consS (intS .i64) noneS)))
abbrev enS : Shape En := consS kyS (consS rowS noneS)
abbrev ensS : Shape (List En) := sliceS enS
def ky (p q r s : Int) : Ky := (p, q, r, s, ())
def en (k : Ky) (v : List Int) : En := (k, v, ())
def en0 : En := en (ky 0 0 0 0) []
theorem ky_eq {p q r s p' q' r' s' : Int} : ky p q r s = ky p' q' r' s' ↔ p = p' ∧ q = q' ∧ r = r' ∧ s = s' := by
  constructor
  · intro h; injection h with h1 h2; injection h2 with h2 h3; injection h3 with h3 h4; injection h4 with h4 h5; exact ⟨h1, h2, h3, h4⟩
  · rintro ⟨rfl, rfl, rfl, rfl⟩; rfl
theorem ky_is {w : World} {F : Nat → Prop} {cs : List Value} {x : Ky} (h : kyS.rep w F cs x) : cs = [.int .i64 x.1, .int .i64 x.2.1, .int .i64 x.2.2.1, .int .i64 x.2.2.2.1] := by
  obtain ⟨d1, rfl, h1⟩ := consS_int h
  obtain ⟨d2, rfl, h2⟩ := consS_int h1
  obtain ⟨d3, rfl, h3⟩ := consS_int h2
  obtain ⟨d4, rfl, h4⟩ := consS_int h3
  rw [noneS_nil h4]
theorem ky_rep (w : World) (F : Nat → Prop) (p q r s : Int) : kyS.rep w F [.int .i64 p, .int .i64 q, .int .i64 r, .int .i64 s] (ky p q r s) := ⟨[_], [_, _, _], rfl, rfl, [_], [_, _], rfl, rfl, [_], [_], rfl, rfl, [_], [], rfl, rfl, rfl⟩
theorem en_is {w : World} {F : Nat → Prop} {cs : List Value} {x : En} (h : enS.rep w F cs x) : ∃ p q r s v nv A C, x = en (ky p q r s) v ∧ v.length = nv ∧ cs = [.int .i64 p, .int .i64 q, .int .i64 r, .int .i64 s, .slice A nv C] ∧ rowS.rep w F [.slice A nv C] v := by
  obtain ⟨c, d, rfl, h1, h2⟩ := h
  have h1' := ky_is h1
  subst h1'
  obtain ⟨A, n, C, d', rfl, h3, h4⟩ := consS_slice h2
  have h4' := noneS_nil h4
  subst h4'
  exact ⟨x.1.1, x.1.2.1, x.1.2.2.1, x.1.2.2.2.1, x.2.1, n, A, C, rfl, (sliceS_len h3).1, rfl, h3⟩
theorem en_rep {w : World} {F : Nat → Prop} (p q r s : Int) {v : List Int} {A : Option Addr} {nv C : Nat} (h : rowS.rep w F [.slice A nv C] v) : enS.rep w F [.int .i64 p, .int .i64 q, .int .i64 r, .int .i64 s, .slice A nv C] (en (ky p q r s) v) :=
  ⟨[_, _, _, _], [_], rfl, ky_rep w F p q r s, [_], [], rfl, h, rfl⟩
theorem en0_rep (w : World) (F : Nat → Prop) : enS.rep w F [.int .i64 0, .int .i64 0, .int .i64 0, .int .i64 0, .slice none 0 0] en0 := en_rep 0 0 0 0 (rep_none _ _ _)

theorem eget {l : List En} {j : Nat} (h : j < l.length) : l.getD j en0 = l[j] := by rw [List.getD_eq_getElem?_getD, List.getElem?_eq_getElem h]; rfl
theorem eget_mem {l : List En} {j : Nat} (h : j < l.length) : l.getD j en0 ∈ l := by rw [eget h]; exact List.getElem_mem h
theorem eget_of_mem {l : List En} {x : En} (h : x ∈ l) : ∃ j, j < l.length ∧ l.getD j en0 = x := by
  obtain ⟨j, hj⟩ := List.getElem?_of_mem h
  have hjl : j < l.length := (List.getElem?_eq_some_iff.1 hj).1
  exact ⟨j, hjl, by rw [List.getD_eq_getElem?_getD, hj]; rfl⟩

/-- Entries: where they lie. -/
theorem en_at {w : World} {F : Nat → Prop} {a : Option Addr} {n c : Nat} {l : List En} (h : ensS.rep w F [.slice a n c] l) {j : Nat} (hj : j < n) :
    ∃ b off p q r s v nv A C, a = some ⟨b, off, none⟩ ∧ F b ∧ b < w.heap.size ∧ l.getD j en0 = en (ky p q r s) v ∧ v.length = nv ∧ rowS.rep w F [.slice A nv C] v ∧
      w.cell? ⟨b, off + j * 5, none⟩ = some (.int .i64 p) ∧ w.cell? ⟨b, off + j * 5 + 1, none⟩ = some (.int .i64 q) ∧ w.cell? ⟨b, off + j * 5 + 2, none⟩ = some (.int .i64 r) ∧ w.cell? ⟨b, off + j * 5 + 3, none⟩ = some (.int .i64 s) ∧ w.cell? ⟨b, off + j * 5 + 4, none⟩ = some (.slice A nv C) := by
  have hl := (sliceS_len h).1
  obtain ⟨b, off, cs, ha, hF, hb, hc, hr⟩ := sliceS_at h (by show 0 < 5; omega) (j := j) (by omega)
  rw [eget (by omega)]
  obtain ⟨p, q, r, s, v, nv, A, C, hx, hv, rfl, hrow⟩ := en_is hr
  exact ⟨b, off, p, q, r, s, v, nv, A, C, ha, hF, hb, hx, hv, hrow, hc 0 _ rfl, hc 1 _ rfl, hc 2 _ rfl, hc 3 _ rfl, hc 4 _ rfl⟩
theorem ens_nil {w : World} {F : Nat → Prop} {n c : Nat} {l : List En} (h : ensS.rep w F [.slice none n c] l) : n = 0 ∧ l = [] := by
  have hl := (sliceS_len h).1
  have h0 : n = 0 := by
    rcases Nat.eq_zero_or_pos n with h0 | h0
    · exact h0
    · obtain ⟨b, off, _, _, _, _, _, _, _, _, h, _⟩ := en_at h h0
      cases h
  exact ⟨h0, List.eq_nil_of_length_eq_zero (by omega)⟩

/-! ### Ledgers as lists -/
namespace Dx
/-- The first entry of the key k stands at i. -/
def First (l : List En) (k : Ky) (i : Nat) : Prop := i < l.length ∧ (l.getD i en0).1 = k ∧ ∀ j, j < i → (l.getD j en0).1 ≠ k
/-- There is none. -/
def No (l : List En) (k : Ky) : Prop := ∀ j, j < l.length → (l.getD j en0).1 ≠ k
/-- Its place, or -1. -/
def At (l : List En) (k : Ky) (x : Int) : Prop := (x = -1 ∧ No l k) ∨ ∃ i : Nat, x = (i : Int) ∧ First l k i
/-- Rows that can be copied. -/
def Short (l : List En) : Prop := l.length ≤ 1000 ∧ ∀ e ∈ l, e.2.1.length ≤ 1000

theorem first_or_no (l : List En) (k : Ky) : No l k ∨ ∃ i, First l k i := by
  have key : ∀ n, n ≤ l.length → (∀ j, j < n → (l.getD j en0).1 ≠ k) ∨ ∃ i, First l k i := by
    intro n
    induction n with
    | zero => intro _; exact .inl fun j hj => by omega
    | succ n ih =>
      intro hn
      rcases ih (by omega) with h | h
      · by_cases e : (l.getD n en0).1 = k
        · exact .inr ⟨n, by omega, e, h⟩
        · refine .inl fun j hj => ?_
          by_cases ej : j = n
          · subst ej; exact e
          · exact h j (by omega)
      · exact .inr h
  exact key l.length (Nat.le_refl _)
theorem First.not_no {l : List En} {k : Ky} {i : Nat} (h : First l k i) : ¬ No l k := fun hn => hn i h.1 h.2.1
theorem first_one {l : List En} {k : Ky} {i j : Nat} (h : First l k i) (h2 : First l k j) : i = j := by
  rcases Nat.lt_trichotomy i j with hlt | he | hlt
  · exact absurd h.2.1 (h2.2.2 i hlt)
  · exact he
  · exact absurd h2.2.1 (h.2.2 j hlt)
theorem at_there (l : List En) (k : Ky) : ∃ x, At l k x := by
  rcases first_or_no l k with h | ⟨i, h⟩
  · exact ⟨-1, .inl ⟨rfl, h⟩⟩
  · exact ⟨i, .inr ⟨i, rfl, h⟩⟩
theorem getD_left {l m : List En} {j : Nat} (h : j < l.length) : (l ++ m).getD j en0 = l.getD j en0 := by
  rw [List.getD_eq_getElem?_getD, List.getD_eq_getElem?_getD, List.getElem?_append_left h]
theorem getD_new (l : List En) (e : En) : (l ++ [e]).getD l.length en0 = e := by
  rw [List.getD_eq_getElem?_getD, List.getElem?_append_right (Nat.le_refl _), Nat.sub_self]; rfl
theorem First.more {l : List En} {k : Ky} {i : Nat} (h : First l k i) (m : List En) : First (l ++ m) k i :=
  ⟨by rw [List.length_append]; have := h.1; omega, by rw [getD_left h.1]; exact h.2.1, fun j hj => by rw [getD_left (by have := h.1; omega)]; exact h.2.2 j hj⟩
theorem No.new {l : List En} {k : Ky} (h : No l k) (v : List Int) : First (l ++ [en k v]) k l.length :=
  ⟨by rw [List.length_append]; exact Nat.lt_succ_self _, by rw [getD_new]; rfl, fun j hj => by rw [getD_left hj]; exact h j hj⟩
theorem No.more {l : List En} {k : Ky} (h : No l k) {e : En} (he : e.1 ≠ k) : No (l ++ [e]) k := by
  intro j hj
  rw [List.length_append] at hj
  have hj' : j < l.length + 1 := hj
  by_cases e2 : j = l.length
  · subst e2; rw [getD_new]; exact he
  · rw [getD_left (by omega)]; exact h j (by omega)
theorem no_nil (k : Ky) : No [] k := fun _ hj => absurd hj (Nat.not_lt_zero _)
theorem take_step {l : List En} {j : Nat} (h : j < l.length) : l.take (j + 1) = l.take j ++ [l.getD j en0] := by rw [List.take_succ_eq_append_getElem h, eget h]
/-- The first k of them copied, the rest zeros. -/
def fills (l : List En) (k : Nat) : List En := l.take k ++ List.replicate (l.length - k) en0
theorem fills_len (l : List En) (k : Nat) (h : k ≤ l.length) : (fills l k).length = l.length := by simp [fills]; omega
theorem fills_zero (l : List En) : fills l 0 = List.replicate l.length en0 := by simp [fills]
theorem fills_all (l : List En) : fills l l.length = l := by simp [fills]
theorem fills_set {l : List En} {k : Nat} (h : k < l.length) : (fills l k).set k (l.getD k en0) = fills l (k + 1) := by
  unfold fills
  have hk : (l.take k).length = k := by rw [List.length_take]; omega
  rw [List.set_append_right _ _ (by omega), hk, Nat.sub_self, take_step h, List.append_assoc]
  congr 1
  rw [show l.length - k = (l.length - (k + 1)) + 1 by omega, List.replicate_succ, List.set_cons_zero]
  rfl
theorem Short.row {l : List En} (h : Short l) {j : Nat} (hj : j < l.length) : (l.getD j en0).2.1.length ≤ 1000 := h.2 _ (eget_mem hj)
end Dx

end Go.Proofs.Ytpfhjdlmjehfnaa
