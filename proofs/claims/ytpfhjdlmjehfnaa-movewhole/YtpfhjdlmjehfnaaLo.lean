/- A slice of rows that the call owns, one of its rows singled out: it lies in a block of its own, where no other row lies (no program in sight). -/
import Derived.Test.YtpfhjdlmjehfnaaAk
namespace Go.Proofs.Ytpfhjdlmjehfnaa
open Go.ChangeShapes Go.WideShapes Go.ChangeAt Go.RowKit

theorem set_self {α : Type} (l : List α) (i : Nat) (d : α) : l.set i (l.getD i d) = l := by
  apply List.ext_getElem?
  intro j
  rw [List.getElem?_set]
  by_cases h : i = j
  · subst h
    by_cases h2 : i < l.length
    · rw [if_pos rfl, if_pos h2, List.getD_eq_getElem?_getD, List.getElem?_eq_getElem h2]; rfl
    · rw [if_pos rfl, if_neg h2, List.getElem?_eq_none (by omega)]
  · rw [if_neg h]

theorem Own.lower {α : Type} {A : Shape α} {w : World} {base B : Nat} {e : TypeId} {v : Value} {xs : List α} (h : Own A w base e v xs) (hB : B ≤ base) : Own A w B e v xs := by
  obtain ⟨css, ⟨hl, h1⟩, h2⟩ := h
  refine ⟨css, ⟨hl, ?_⟩, h2⟩
  rcases h1 with h1 | ⟨g, cap, cur, he, hb, hr⟩
  · exact .inl h1
  · exact .inr ⟨g, cap, cur, he, Nat.le_trans hB hb, hr⟩
theorem Own.rowIn {w : World} {base : Nat} {e : TypeId} {v : Value} {l : List Int} (h : Own (intS .i64) w base e v l) : rowS.rep w (fun b => v.ownBlock = some b) [v] l := by
  obtain ⟨a, c, hv, hr⟩ := h.rep
  subst hv
  have hm := (sliceS_len hr).2
  refine Row.rep (Row.of_rep hr) hm.1 hm.2 fun b off ha => ?_
  obtain ⟨css, ⟨hl, h1⟩, h2⟩ := h
  rcases h1 with ⟨he, h0⟩ | ⟨g, cap, cur, he, hb, hg⟩
  · injection he with e1; rw [e1] at ha; cases ha
  · injection he with e1 e2 e3
    subst e1
    cases ha
    rfl

/-- The call owns the slice of the rows xs in block G; at x stands v, which it owns too; the other rows lie in other blocks, all among Q. -/
def Lone (Q : Nat → Prop) (w : World) (B : Nat) (t e : TypeId) (G n c x : Nat) (v : Value) (xs : List (List Int)) : Prop :=
  xs.length = n ∧ ∃ css : List (List Value), w.ownsRow B e 1 (.slice (some ⟨G, 0, none⟩) n c) n css.flatten ∧ (inS rowS Q).all w (fun b => b ≠ G ∧ some b ≠ v.ownBlock) (css.set x [.slice none 0 0]) (xs.set x []) ∧ css[x]? = some [v] ∧ (∀ c ∈ css, c.length = 1) ∧ Own (intS .i64) w (G + 1) t v (xs.getD x [])
section
variable {Q : Nat → Prop} {w u : World} {B : Nat} {t e : TypeId} {G n c x : Nat} {v : Value} {xs : List (List Int)}
theorem Lone.made (h : Own (inS rowS Q) w B e (.slice (some ⟨G, 0, none⟩) n c) xs) (hx : x < n) (hb : Below w.heap.size w u) (hv : Own (intS .i64) u w.heap.size t v (xs.getD x [])) :
    (∃ z, u.cell? ⟨G, x, none⟩ = some z) ∧ u.frozen? ⟨G, x, none⟩ = false ∧ Lone Q (u.setCell ⟨G, x, none⟩ v) B t e G n c x v xs := by
  have hl := (sliceS_len h.is).1
  have hG := (h.lt G rfl).2
  obtain ⟨css, hrow, hall⟩ := h
  have hlen : ∀ c ∈ css, c.length = 1 := Shape.all_len hall
  have hU : u.ownsRow B e 1 (.slice (some ⟨G, 0, none⟩) n c) n css.flatten := by rw [hl] at hrow; exact own_below hrow hb
  have hcl : css.length = xs.length := hall.1
  have hfl : css.flatten.length = xs.length := by rw [flat_len hlen, hcl, Nat.mul_one]
  have k1 : (inS rowS Q).all w (fun b => b ≠ G ∧ b < w.heap.size) css xs := Shape.all_mono hall fun b hb' hlt => ⟨fun e => hb' (by rw [e]; rfl), hlt⟩
  have k2 : (inS rowS Q).all u (fun b => b ≠ G ∧ b < w.heap.size) css xs := Shape.all_keep k1 fun b _ hlt => hb.block b hlt
  have k2' : (inS rowS Q).all u (fun b => b ≠ G ∧ some b ≠ v.ownBlock) css xs := Shape.all_mono k2 fun b hb' _ => ⟨hb'.1, fun e => by have := (hv.lt b e.symm).1; omega⟩
  have k3 := Shape.all_set (j := x) k2' (show (inS rowS Q).rep u (fun b => b ≠ G ∧ some b ≠ v.ownBlock) [.slice none 0 0] [] from rep_none (intS .i64) u _)
  have k4 := Shape.all_keep (w' := u.setCell ⟨G, x, none⟩ v) k3 fun b hb' _ => Below.heap_setCell u _ v b hb'.1
  refine ⟨⟨css.flatten[x]'(by omega), ?_⟩, hU.frozenAt x, hl, css.set x [v], ?_, ?_, ?_, ?_, ?_⟩
  · rw [hU.cellAt x (by omega)]; exact List.getElem?_eq_getElem (by omega)
  · rw [flat_set1 hlen]; exact (hU.stored x v).1
  · rw [List.set_set]; exact k4
  · rw [List.getElem?_set_self (by omega)]
  · intro c hc
    rcases List.mem_or_eq_of_mem_set hc with h1 | h1
    · exact hlen c h1
    · rw [h1]; rfl
  · exact ((hv.lower (by omega : G + 1 ≤ w.heap.size)).other (grown_set u G x v) fun b hb' e => by have := (hv.lt b hb').1; cases e; omega)
theorem Lone.cell (h : Lone Q w B t e G n c x v xs) : w.cell? ⟨G, x, none⟩ = some v := by
  obtain ⟨h0, css, h1, h2, h3, h4, _⟩ := h
  have hi : x < css.length := (List.getElem?_eq_some_iff.1 h3).1
  have hc : css.length = xs.length := by have := h2.1; simpa using this
  rw [h1.cellAt x (by omega)]
  have := flat_get h4 x 0 (by omega)
  rw [Nat.mul_one, Nat.add_zero, h3] at this
  exact this
theorem Lone.lt (h : Lone Q w B t e G n c x v xs) : B ≤ G ∧ G < w.heap.size ∧ x < n ∧ n ≤ c ∧ c ≤ maxLen := by
  obtain ⟨h0, css, ⟨h1l, h1⟩, h2, h3, h4, _⟩ := h
  have hi : x < css.length := (List.getElem?_eq_some_iff.1 h3).1
  have hc : css.length = xs.length := by have := h2.1; simpa using this
  rcases h1 with ⟨he, _⟩ | ⟨g, cap, cur, he, hb, hg, hn, hm, _⟩
  · cases he
  · cases he
    exact ⟨hb, (Array.getElem?_eq_some_iff.1 hg).1, by omega, hn, hm⟩
theorem Lone.own (h : Lone Q w B t e G n c x v xs) : Own (intS .i64) w (G + 1) t v (xs.getD x []) := by
  obtain ⟨_, _, _, _, _, _, h⟩ := h
  exact h
theorem Lone.keep (h : Lone Q w B t e G n c x v xs) (hb : Below w.heap.size w u) : Lone Q u B t e G n c x v xs := by
  obtain ⟨h0, css, h1, h2, h3, h4, h5⟩ := h
  exact ⟨h0, css, own_below h1 hb, Shape.all_keep h2 fun b _ hlt => hb.block b hlt, h3, h4, h5.keep hb⟩
theorem Lone.next (h : Lone Q w B t e G n c x v xs) {i : Nat} (hi : i < n) (hix : i ≠ x) (hb : Below w.heap.size w u) {v' : Value} (hr : rowS.rep u (w.heap.size ≤ ·) [v'] (xs.getD i [])) (hQ : ∀ b, w.heap.size ≤ b → Q b) :
    (∃ z, u.cell? ⟨G, i, none⟩ = some z) ∧ u.frozen? ⟨G, i, none⟩ = false ∧ Lone Q (u.setCell ⟨G, i, none⟩ v') B t e G n c x v xs := by
  have hG := h.lt.2.1
  have hO := h.own
  obtain ⟨h0, css, h1, h2, h3, h4, _⟩ := h.keep hb
  have hcl : css.length = xs.length := by have := h2.1; simpa using this
  have hfl : css.flatten.length = xs.length := by rw [flat_len h4, hcl, Nat.mul_one]
  have k1 := Shape.all_set (j := i) h2 (show (inS rowS Q).rep u (fun b => b ≠ G ∧ some b ≠ v.ownBlock) [v'] (xs.getD i []) from
    rowS.mono hr fun b hb' _ => ⟨⟨by omega, fun e => by have := (hO.lt b e.symm).2; omega⟩, hQ b hb'⟩)
  have e1 : (xs.set x []).set i (xs.getD i []) = xs.set x [] := by
    have := set_self (xs.set x []) i []
    rwa [show (xs.set x []).getD i [] = xs.getD i [] by rw [List.getD_eq_getElem?_getD, List.getElem?_set_ne (Ne.symm hix), List.getD_eq_getElem?_getD]] at this
  rw [e1, List.set_comm _ _ hix.symm] at k1
  have k2 := Shape.all_keep (w' := u.setCell ⟨G, i, none⟩ v') k1 fun b hb' _ => Below.heap_setCell u _ v' b hb'.1
  refine ⟨⟨css.flatten[i]'(by omega), ?_⟩, h1.frozenAt i, h0, css.set i [v'], ?_, k2, ?_, ?_, ?_⟩
  · rw [h1.cellAt i (by omega)]; exact List.getElem?_eq_getElem (by omega)
  · rw [flat_set1 h4]; exact (h1.stored i v').1
  · rw [List.getElem?_set_ne hix]; exact h3
  · intro c hc
    rcases List.mem_or_eq_of_mem_set hc with h5 | h5
    · exact h4 c h5
    · rw [h5]; rfl
  · exact ((hO.keep hb).other (grown_set u G i v') fun b hb' e => by have := (hO.lt b hb').1; cases e; omega)
/-- The row is written, or lies anew; its place in the slice is stored. -/
theorem Lone.put (h : Lone Q w B t e G n c x v xs) (hg : ∀ k, k < w.heap.size → some k ≠ v.ownBlock → u.heap[k]? = w.heap[k]?) {v' : Value} {l : List Int} (hr : rowS.rep u (G + 1 ≤ ·) [v'] l) (hQ : ∀ b, B ≤ b → Q b) :
    (∃ z, u.cell? ⟨G, x, none⟩ = some z) ∧ u.frozen? ⟨G, x, none⟩ = false ∧ matS.rep (u.setCell ⟨G, x, none⟩ v') Q [.slice (some ⟨G, 0, none⟩) n c] (xs.set x l) := by
  obtain ⟨hBG, hG, hxn, hnc, hcm⟩ := h.lt
  have hO := h.own
  obtain ⟨h0, css, h1, h2, h3, h4, _⟩ := h
  have hcl : css.length = xs.length := by have := h2.1; simpa using this
  have hfl : css.flatten.length = xs.length := by rw [flat_len h4, hcl, Nat.mul_one]
  have hGv : some G ≠ v.ownBlock := fun e => by have := (hO.lt G e.symm).1; omega
  have hU : u.ownsRow B e 1 (.slice (some ⟨G, 0, none⟩) n c) n css.flatten := by
    obtain ⟨h1l, h1⟩ := h1
    refine ⟨h1l, ?_⟩
    rcases h1 with h1 | ⟨g, cap, cur, he, hb, hg', hr'⟩
    · exact .inl h1
    · cases he
      exact .inr ⟨G, c, cur, rfl, hb, (hg G hG hGv).trans hg', hr'⟩
  have k0 : (inS rowS Q).all u (fun b => b ≠ G ∧ some b ≠ v.ownBlock) (css.set x [.slice none 0 0]) (xs.set x []) := Shape.all_keep h2 fun b hb hlt => hg b hlt hb.2
  have k1 : (inS rowS Q).all u (· ≠ G) (css.set x [.slice none 0 0]) (xs.set x []) := Shape.all_mono k0 fun b hb _ => hb.1
  have k2 := Shape.all_set (j := x) k1 (show (inS rowS Q).rep u (· ≠ G) [v'] l from rowS.mono hr fun b hb' _ => ⟨by omega, hQ b (by omega)⟩)
  rw [List.set_set, List.set_set] at k2
  have k3 := Shape.all_keep (w' := u.setCell ⟨G, x, none⟩ v') k2 fun b hb' _ => Below.heap_setCell u _ v' b hb'
  have hlen : ∀ c ∈ css.set x [v'], c.length = 1 := fun c hc => by
    rcases List.mem_or_eq_of_mem_set hc with h5 | h5
    · exact h4 c h5
    · rw [h5]; rfl
  have hS : (u.setCell ⟨G, x, none⟩ v').ownsRow B e 1 (.slice (some ⟨G, 0, none⟩) n c) n (css.set x [v']).flatten := by rw [flat_set1 h4]; exact (hU.stored x v').1
  have hown : Own (inS rowS Q) (u.setCell ⟨G, x, none⟩ v') B e (.slice (some ⟨G, 0, none⟩) n c) (xs.set x l) := ⟨css.set x [v'], by rw [List.length_set, h0]; exact hS, Shape.all_mono k3 fun b hb _ e => hb (Option.some.inj e)⟩
  refine ⟨⟨css.flatten[x]'(by omega), ?_⟩, hU.frozenAt x, ?_⟩
  · rw [hU.cellAt x (by omega)]; exact List.getElem?_eq_getElem (by omega)
  · exact hown.among (fun b hb => hb) (fun b hb _ _ => hQ b hb)
theorem Lone.rep (h : Lone Q w B t e G n c x v xs) (hQ : ∀ b, B ≤ b → Q b) : matS.rep w Q [.slice (some ⟨G, 0, none⟩) n c] xs := by
  obtain ⟨hBG, hG, hxn, hnc, hcm⟩ := h.lt
  have hO := h.own
  obtain ⟨h0, css, h1, h2, h3, h4, _⟩ := h
  have k1 : (inS rowS Q).all w (· ≠ G) (css.set x [.slice none 0 0]) (xs.set x []) := Shape.all_mono h2 fun b hb _ => hb.1
  have k2 := Shape.all_set (j := x) k1 (show (inS rowS Q).rep w (· ≠ G) [v] (xs.getD x []) from rowS.mono hO.rowIn fun b hb' _ => by have := (hO.lt b hb').1; exact ⟨by omega, hQ b (by omega)⟩)
  have e1 : css.set x [v] = css := by
    obtain ⟨hi1, hi2⟩ := List.getElem?_eq_some_iff.1 h3
    rw [← hi2, List.set_getElem_self]
  rw [List.set_set, List.set_set, set_self, e1] at k2
  have hown : Own (inS rowS Q) w B e (.slice (some ⟨G, 0, none⟩) n c) xs := ⟨css, by rw [h0]; exact h1, Shape.all_mono k2 fun b hb _ e => hb (Option.some.inj e)⟩
  exact hown.among (fun b hb => hb) (fun b hb _ _ => hQ b hb)
/-- Rows that are copied one by one: the first i are; x is singled out once it is. -/
def Mixed (Q : Nat → Prop) (w : World) (B : Nat) (t e : TypeId) (a : Option Addr) (n c x i : Nat) (xs : List (List Int)) : Prop :=
  (Own (inS rowS Q) w B e (.slice a n c) xs ∧ (x < n → i ≤ x)) ∨ ∃ G v, a = some ⟨G, 0, none⟩ ∧ x < i ∧ Lone Q w B t e G n c x v xs
theorem Mixed.rep {a : Option Addr} {i : Nat} (h : Mixed Q w B t e a n c x i xs) (hQ : ∀ b, B ≤ b → Q b) : matS.rep w Q [.slice a n c] xs := by
  rcases h with ⟨h, _⟩ | ⟨G, v, rfl, _, h⟩
  · exact h.among (fun b hb => hb) (fun b hb _ _ => hQ b hb)
  · exact h.rep hQ
theorem Mixed.step {a : Option Addr} {i : Nat} (h : Mixed Q w B t e a n c x i xs) (hi : i < n) (hb : Below w.heap.size w u) {a' : Option Addr} {c' : Nat} (hv : Own (intS .i64) u w.heap.size t (.slice a' (xs.getD i []).length c') (xs.getD i [])) (hQ : ∀ b, B ≤ b → Q b) :
    ∃ G, a = some ⟨G, 0, none⟩ ∧ B ≤ G ∧ (∃ z, u.cell? ⟨G, i, none⟩ = some z) ∧ u.frozen? ⟨G, i, none⟩ = false ∧ Mixed Q (u.setCell ⟨G, i, none⟩ (.slice a' (xs.getD i []).length c')) B t e a n c x (i + 1) xs := by
  rcases h with ⟨h, hx⟩ | ⟨G, v, rfl, hx, h⟩
  · obtain ⟨G, rfl, hBG, hG, hl⟩ := h.form (by omega)
    refine ⟨G, rfl, hBG, ?_⟩
    by_cases hix : i = x
    · subst hix
      obtain ⟨h1, h2, h3⟩ := Lone.made h hi hb hv
      exact ⟨h1, h2, .inr ⟨G, _, rfl, Nat.lt_succ_self _, h3⟩⟩
    · obtain ⟨h1, h2, h3⟩ := Own.store (A := inS rowS Q) rfl (h.keep hb) hi (v := .slice a' (xs.getD i []).length c') (x := xs.getD i []) (F := (w.heap.size ≤ ·)) (inS_of hv.high fun b hb' => hQ b (by omega)) (fun b hb' => by omega)
      rw [set_self] at h3
      exact ⟨h1, h2, .inl ⟨h3, fun hxn => by have := hx hxn; omega⟩⟩
  · have hlt := h.lt
    obtain ⟨h1, h2, h3⟩ := h.next hi (by omega) hb hv.high (fun b hb' => hQ b (by omega))
    exact ⟨G, rfl, hlt.1, h1, h2, .inr ⟨G, v, rfl, by omega, h3⟩⟩
theorem Own.wider {α : Type} {A : Shape α} {P Q : Nat → Prop} {w : World} {base : Nat} {e : TypeId} {v : Value} {xs : List α} (h : Own (inS A P) w base e v xs) (hPQ : ∀ b, P b → Q b) : Own (inS A Q) w base e v xs := by
  obtain ⟨css, h1, h2⟩ := h
  exact ⟨css, h1, h2.1, fun j c x hc hx => A.mono (h2.2 j c x hc hx) fun b hb _ => ⟨hb.1, hPQ b hb.2⟩⟩
theorem Mixed.keep {a : Option Addr} {i : Nat} (h : Mixed Q w B t e a n c x i xs) (hb : Below w.heap.size w u) : Mixed Q u B t e a n c x i xs := by
  rcases h with ⟨h, hx⟩ | ⟨G, v, rfl, hx, h⟩
  · exact .inl ⟨h.keep hb, hx⟩
  · exact .inr ⟨G, v, rfl, hx, h.keep hb⟩
theorem Mixed.at {a : Option Addr} {i : Nat} (h : Mixed Q w B t e a n c x i xs) (hi : i < n) (hQ : ∀ b, B ≤ b → Q b) :
    ∃ G A C, a = some ⟨G, 0, none⟩ ∧ B ≤ G ∧ w.cell? ⟨G, i, none⟩ = some (.slice A (xs.getD i []).length C) ∧ rowS.rep w Q [.slice A (xs.getD i []).length C] (xs.getD i []) := by
  obtain ⟨b, off, A, C, ha, _, hc, hr⟩ := mat_at (h.rep hQ) hi
  have : ∃ G, a = some ⟨G, 0, none⟩ ∧ B ≤ G := by
    rcases h with ⟨h, hx⟩ | ⟨G, v, hG, hx, h⟩
    · obtain ⟨G, hG, hBG, _⟩ := h.form (by omega)
      exact ⟨G, hG, hBG⟩
    · exact ⟨G, hG, h.lt.1⟩
  obtain ⟨G, hG, hBG⟩ := this
  rw [hG] at ha
  have e1 := Option.some.inj ha
  injection e1 with e2 e3
  subst e2; subst e3
  rw [Nat.zero_add] at hc
  exact ⟨G, A, C, hG, hBG, hc, hr⟩
theorem Mixed.stepG {i : Nat} (h : Mixed Q w B t e (some ⟨G, 0, none⟩) n c x i xs) (hi : i < n) (hb : Below w.heap.size w u) {a' : Option Addr} {c' q : Nat} (hq : (xs.getD i []).length = q) (hv : Own (intS .i64) u w.heap.size t (.slice a' q c') (xs.getD i [])) (hQ : ∀ b, B ≤ b → Q b) :
    (∃ z, u.cell? ⟨G, i, none⟩ = some z) ∧ u.frozen? ⟨G, i, none⟩ = false ∧ Mixed Q (u.setCell ⟨G, i, none⟩ (.slice a' q c')) B t e (some ⟨G, 0, none⟩) n c x (i + 1) xs := by
  subst hq
  obtain ⟨G', hG, _, h1, h2, h3⟩ := h.step hi hb hv hQ
  have e1 := Option.some.inj hG
  injection e1 with e2 e3
  subst e2
  exact ⟨h1, h2, h3⟩
theorem Lone.aside (h : Lone Q w B t e G n c x v xs) {M : Nat} (hg : w.grownBy u (some M)) (hM : M < B) (hQM : ¬ Q M) : Lone Q u B t e G n c x v xs := by
  have hlt := h.lt
  obtain ⟨h0, css, h1, h2, h3, h4, h5⟩ := h
  refine ⟨h0, css, h1.kept hg (.inr fun c => by have h9 : G = M := Option.some.inj c; omega), ⟨h2.1, fun j c x hc hx => rowS.keep (h2.2 j c x hc hx) fun b hb hlt => hg.block b hlt (fun h => hQM (by rw [← Option.some.inj h]; exact hb.2))⟩, h3, h4, h5.other hg fun b hb e => ?_⟩
  have := (h5.lt b hb).1
  have h9 : M = b := Option.some.inj e
  omega
theorem Mixed.aside {a : Option Addr} {i : Nat} (h : Mixed Q w B t e a n c x i xs) {M : Nat} (hg : w.grownBy u (some M)) (hM : M < B) (hQM : ¬ Q M) : Mixed Q u B t e a n c x i xs := by
  rcases h with ⟨h, hx⟩ | ⟨G, v, rfl, hx, h⟩
  · exact .inl ⟨h.aside hg (fun b hb e => hQM (e ▸ hb)) (fun e => by have := (h.lt M e).1; omega), hx⟩
  · exact .inr ⟨G, v, rfl, hx, h.aside hg hM hQM⟩
theorem Mixed.lone {a : Option Addr} (h : Mixed Q w B t e a n c x n xs) (hx : x < n) : ∃ G v, a = some ⟨G, 0, none⟩ ∧ Lone Q w B t e G n c x v xs := by
  rcases h with ⟨_, h⟩ | ⟨G, v, hG, _, h⟩
  · have := h hx; omega
  · exact ⟨G, v, hG, h⟩
end

end Go.Proofs.Ytpfhjdlmjehfnaa
