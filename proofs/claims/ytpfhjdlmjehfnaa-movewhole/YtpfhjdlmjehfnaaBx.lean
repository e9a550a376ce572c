/- Lists of texts in memory and as lists: a slice of strings that is read, grown and kept; bags (no program in sight). -/
import Derived.Test.YtpfhjdlmjehfnaaStruct
import Derived.Test.YtpfhjdlmjehfnaaKit
namespace Go.Proofs.Ytpfhjdlmjehfnaa
open Go.ChangeShapes Go.WideShapes Go.ChangeAt Go.RowKit

/-- What its cells say hangs on no world. -/
def Plain {α : Type} (A : Shape α) : Prop := ∀ {w w' : World} {F F' : Nat → Prop} {cs : List Value} {x : α}, A.rep w F cs x → A.rep w' F' cs x
theorem plain_int (k : IntKind) : Plain (intS k) := fun h => h
theorem plain_str : Plain strS := fun h => h

abbrev bagS : Shape (List ByteArray) := sliceS strS
/-- No text. -/
abbrev noText : ByteArray := ⟨#[]⟩

/-- 'a' leads in w to the n texts l (where n is 0: to whatever). -/
def Texts (w : World) (a : Option Addr) (n : Nat) (l : List ByteArray) : Prop :=
  l.length = n ∧ (n = 0 ∨ ∃ b off, a = some ⟨b, off, none⟩ ∧ ∀ j, j < n → w.cell? ⟨b, off + j, none⟩ = some (.string (l.getD j noText)))
theorem Texts.len {w : World} {a : Option Addr} {n : Nat} {l : List ByteArray} (h : Texts w a n l) : l.length = n := h.1
theorem Texts.keep {w w' : World} {a : Option Addr} {n : Nat} {l : List ByteArray} (h : Texts w a n l) (hb : Below w.heap.size w w') : Texts w' a n l := by
  refine ⟨h.1, ?_⟩
  rcases h.2 with h0 | ⟨b, off, ha, hc⟩
  · exact .inl h0
  · exact .inr ⟨b, off, ha, fun j hj => (hb.cell (World.block_lt_of_cell? w _ (hc j hj))).trans (hc j hj)⟩
theorem Texts.at {w : World} {a : Option Addr} {n : Nat} {l : List ByteArray} (h : Texts w a n l) {j : Nat} (hj : j < n) :
    ∃ b off, a = some ⟨b, off, none⟩ ∧ b < w.heap.size ∧ w.cell? ⟨b, off + j, none⟩ = some (.string (l.getD j noText)) := by
  rcases h.2 with h0 | ⟨b, off, ha, hc⟩
  · omega
  · exact ⟨b, off, ha, World.block_lt_of_cell? w _ (hc j hj), hc j hj⟩
theorem Texts.of_rep {w : World} {F : Nat → Prop} {a : Option Addr} {n c : Nat} {l : List ByteArray} (h : bagS.rep w F [.slice a n c] l) : Texts w a n l := by
  have hl := (sliceS_len h).1
  refine ⟨hl, ?_⟩
  by_cases h0 : n = 0
  · exact .inl h0
  · obtain ⟨b, off, _, ha, _, _, _, _⟩ := sliceS_at h (by exact Nat.one_pos) (show 0 < l.length by omega)
    refine .inr ⟨b, off, ha, fun j hj => ?_⟩
    obtain ⟨b2, off2, cs, ha2, _, _, hc, hr⟩ := sliceS_at h (by exact Nat.one_pos) (show j < l.length by omega)
    rw [ha] at ha2
    obtain ⟨rfl, rfl⟩ : b = b2 ∧ off = off2 := by simpa using ha2
    have hr' : cs = [.string (l[j]'(by omega))] := hr
    subst hr'
    have := hc 0 _ rfl
    rw [show off + (j * strS.size + 0) = off + j by show off + (j * 1 + 0) = off + j; omega] at this
    rw [this, List.getD_eq_getElem?_getD, List.getElem?_eq_getElem (by omega)]
    rfl

section
variable {α : Type} {A : Shape α} {w w' : World} {base : Nat} {e : TypeId} {v : Value} {xs : List α}
/-- Whatever is owned stays where another block grows. -/
theorem Own.still (hf : Plain A) {u : Option Nat} (h : Own A w base e v xs) (hg : w.grownBy w' u) (hne : ∀ b, v.ownBlock = some b → u ≠ some b) : Own A w' base e v xs := by
  obtain ⟨css, h1, h2⟩ := h
  refine ⟨css, h1.kept hg ?_, h2.1, fun j c x hc hx => hf (h2.2 j c x hc hx)⟩
  cases hv : v.ownBlock with
  | none => exact .inl rfl
  | some b => exact .inr (fun c => hne b hv c.symm)
/-- Among the call's own blocks. -/
theorem Own.top (hf : Plain A) {a : Option Addr} {n c : Nat} (h : Own A w base e (.slice a n c) xs) : (sliceS A).rep w (base ≤ ·) [.slice a n c] xs := by
  have hi := h.is
  obtain ⟨a', c', css, he, h1, h2, h3, h4⟩ := hi
  simp at he
  obtain ⟨rfl, rfl, rfl⟩ := he
  refine ⟨a, c, css, rfl, h1, h2, ⟨h3.1, fun j c x hc hx => hf (h3.2 j c x hc hx)⟩, ?_⟩
  rcases h4 with h0 | ⟨b, off, rfl, _, hb, hc⟩
  · exact .inl h0
  · exact .inr ⟨b, off, rfl, (h.lt b rfl).1, hb, hc⟩
/-- One element that 'append(v, x)' appends: in a block of its own. -/
theorem Own.one (hf : Plain A) {cs : List Value} {x : α} (hx : A.rep w (fun _ => False) cs x) (h : Own A w base e v xs) :
    (sliceS A).rep (w.alloc (.cells cs.toArray e)) (fun b => False ∨ b = w.heap.size) [.slice (some ⟨w.heap.size, 0, none⟩) 1 1] [x] ∧ ∀ b, (False ∨ b = w.heap.size) → some b ≠ v.ownBlock := by
  refine ⟨rep_at (cs := cs) (F := fun _ => False) (hf hx) (heap_new _ _ _ rfl), fun b hb h' => ?_⟩
  have := (h.lt b h'.symm).2
  rcases hb with hf | rfl
  · exact hf
  · omega
/-- A slice that a literal has just laid. -/
theorem Own.laid {w : World} {F : Nat → Prop} (css : List (List Value)) (xs : List α) (e : TypeId) (hf : Plain A) (h : A.all w F css xs) (hm : xs.length ≤ maxLen) (hb : base ≤ w.heap.size) :
    Own A (w.alloc (.cells css.flatten.toArray e)) base e (.slice (some ⟨w.heap.size, 0, none⟩) xs.length xs.length) xs := by
  have hl : css.flatten.length = xs.length * A.size := by rw [flat_len (Shape.all_len h), h.1]
  refine ⟨css, ⟨hl, .inr ⟨w.heap.size, xs.length, css.flatten.toArray, rfl, hb, heap_alloc_new w _, Nat.le_refl _, hm, ?_, ?_⟩⟩, h.1, fun j c x hc hx => hf (h.2 j c x hc hx)⟩
  · simpa using hl
  · exact List.take_of_length_le (by show css.flatten.length ≤ _; omega)
end
theorem Own.text {w : World} {base : Nat} {e : TypeId} {v : Value} {xs : List ByteArray} (x : ByteArray) (h : Own strS w base e v xs) :
    bagS.rep (w.alloc (.cells #[.string x] e)) (fun b => False ∨ b = w.heap.size) [.slice (some ⟨w.heap.size, 0, none⟩) 1 1] [x] ∧ ∀ b, (False ∨ b = w.heap.size) → some b ≠ v.ownBlock :=
  Own.one plain_str (cs := [.string x]) rfl h

/-! ### Texts that are like each other -/
theorem text_eq {S T : ByteArray} (h : S = T) : (S.toList == T.toList) = true := by rw [h]; simp
theorem text_ne {S T : ByteArray} (h : S ≠ T) : (S.toList == T.toList) = false := by
  rw [beq_eq_false_iff_ne]
  intro e
  apply h
  rw [ByteArray.toList_eq, ByteArray.toList_eq] at e
  apply ByteArray.ext
  exact Array.toList_inj.1 e
theorem text_none : (noText.toList == ([] : List UInt8)) = true := by rw [ByteArray.toList_eq]; rfl

namespace Bx
variable {l m : List ByteArray} {i : Nat}
theorem take_text (l : List ByteArray) (j : Nat) (h : j < l.length) : l.take (j + 1) = l.take j ++ [l.getD j noText] := by
  rw [List.take_succ_eq_append_getElem h, List.getD_eq_getElem?_getD, List.getElem?_eq_getElem h]; rfl
theorem like (h : l.length = m.length) (hj : ∀ j, j < l.length → l.getD j noText = m.getD j noText) : l = m := by
  apply List.ext_getElem h
  intro i g1 g2
  have := hj i g1
  rw [List.getD_eq_getElem?_getD, List.getD_eq_getElem?_getD, List.getElem?_eq_getElem g1, List.getElem?_eq_getElem g2] at this
  exact this

/-- One more, if there is room. -/
def put (l : List ByteArray) (s : ByteArray) : List ByteArray := if l.length > 199 then l else l ++ [s]
/-- All but that at i. -/
def without (l : List ByteArray) (i : Nat) : List ByteArray := l.take i ++ l.drop (i + 1)
/-- That at i once more behind. -/
def twice (l : List ByteArray) (i : Nat) : List ByteArray := if i < l.length then put l (l.getD i noText) else l
theorem put_full {s : ByteArray} (h : l.length > 199) : put l s = l := if_pos h
theorem put_room {s : ByteArray} (h : ¬ l.length > 199) : put l s = l ++ [s] := if_neg h
theorem put_len_full {s : ByteArray} (h : l.length > 199) : (put l s).length = l.length := by rw [put_full h]
theorem put_len_room {s : ByteArray} (h : ¬ l.length > 199) : (put l s).length = l.length + 1 := by rw [put_room h, List.length_append]; rfl
theorem without_out (h : l.length ≤ i) : without l i = l := by unfold without; rw [List.take_of_length_le h, List.drop_of_length_le (by omega), List.append_nil]
theorem without_len (h : i < l.length) : (without l i).length = l.length - 1 := by unfold without; rw [List.length_append, List.length_take, List.length_drop]; omega
theorem without_last {s : ByteArray} : without (l ++ [s]) l.length = l := by
  unfold without
  rw [List.take_left', List.drop_of_length_le (by simp), List.append_nil]
  rfl
theorem without_zero {x : ByteArray} : without (x :: l) 0 = l := by unfold without; simp
theorem at_last {s : ByteArray} : (l ++ [s]).getD l.length noText = s := by rw [List.getD_eq_getElem?_getD, List.getElem?_append_right (Nat.le_refl _), Nat.sub_self]; rfl
theorem without_snoc (p : List ByteArray) (x : ByteArray) (i : Nat) : without (p ++ [x]) i = if p.length = i then without p i else without p i ++ [x] := by
  by_cases e : p.length = i
  · rw [if_pos e, without_out (l := p) (by omega)]
    subst e
    exact without_last
  · rw [if_neg e]
    rcases Nat.lt_or_ge p.length i with hi | hi
    · rw [without_out (l := p ++ [x]) (by rw [List.length_append]; show p.length + 1 ≤ i; omega), without_out (l := p) (by omega)]
    · unfold without
      rw [List.take_append_of_le_length (by omega), List.drop_append_of_le_length (by omega), List.append_assoc]
/-- 'without' grows as the loop goes: what is kept of the first k. -/
theorem without_step (i k : Nat) (hk : k < l.length) : without (l.take (k + 1)) i = if k = i then without (l.take k) i else without (l.take k) i ++ [l.getD k noText] := by
  have hlt : (l.take k).length = k := by rw [List.length_take]; omega
  rw [take_text l k hk, without_snoc, hlt]
theorem put_many (s : ByteArray) {n : Nat} (h : n < 200) : put (List.replicate n s) s = List.replicate (n + 1) s := by
  rw [put_room (by simp; omega), List.replicate_succ']
end Bx

end Go.Proofs.Ytpfhjdlmjehfnaa
