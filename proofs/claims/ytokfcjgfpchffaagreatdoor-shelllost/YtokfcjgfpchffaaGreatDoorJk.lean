/- 7 texts as one, in their order: Bx, Nd, Ft, Fu, Fv, Fw, Fy. -/
import Derived.Test.YtokfcjgfpchffaaGreatDoorKa
import Derived.Test.YtokfcjgfpchffaaGreatDoorKb
import Derived.Test.YtokfcjgfpchffaaGreatDoorKc

/- Lists of texts in memory and as lists: a slice of strings that is read, grown and kept; bags (no program in sight). -/
namespace Go.Proofs.YtokfcjgfpchffaaGreatDoor
open Go.ChangeShapes Go.WideShapes Go.ChangeAt Go.RowKit

/-- What its cells say hangs on no world. -/
def Plain {α : Type} (A : Shape α) : Prop := ∀ {w w' : World} {F F' : Nat → Prop} {cs : List Value} {x : α}, A.rep w F cs x → A.rep w' F' cs x
theorem plain_int (k : IntKind) : Plain (intS k) := fun h => h
theorem plain_str : Plain strS := fun h => h

abbrev bagS : Shape (List ByteArray) := sliceS strS
/-- No text. -/
abbrev noText : ByteArray := ⟨#[]⟩

/-- 'a' leads in w to the n texts l (where n is 0: to whatever). -/
def Texts (w : World) (a : Option Addr) (n : Nat) (l : List ByteArray) : Prop :=
  l.length = n ∧ (n = 0 ∨ ∃ b off, a = some ⟨b, off, none⟩ ∧ ∀ j, j < n → w.cell? ⟨b, off + j, none⟩ = some (.string (l.getD j noText)))
theorem Texts.len {w : World} {a : Option Addr} {n : Nat} {l : List ByteArray} (h : Texts w a n l) : l.length = n := h.1
theorem Texts.keep {w w' : World} {a : Option Addr} {n : Nat} {l : List ByteArray} (h : Texts w a n l) (hb : Below w.heap.size w w') : Texts w' a n l := by
  refine ⟨h.1, ?_⟩
  rcases h.2 with h0 | ⟨b, off, ha, hc⟩
  · exact .inl h0
  · exact .inr ⟨b, off, ha, fun j hj => (hb.cell (World.block_lt_of_cell? w _ (hc j hj))).trans (hc j hj)⟩
theorem Texts.at {w : World} {a : Option Addr} {n : Nat} {l : List ByteArray} (h : Texts w a n l) {j : Nat} (hj : j < n) :
    ∃ b off, a = some ⟨b, off, none⟩ ∧ b < w.heap.size ∧ w.cell? ⟨b, off + j, none⟩ = some (.string (l.getD j noText)) := by
  rcases h.2 with h0 | ⟨b, off, ha, hc⟩
  · omega
  · exact ⟨b, off, ha, World.block_lt_of_cell? w _ (hc j hj), hc j hj⟩
theorem Texts.of_rep {w : World} {F : Nat → Prop} {a : Option Addr} {n c : Nat} {l : List ByteArray} (h : bagS.rep w F [.slice a n c] l) : Texts w a n l := by
  have hl := (sliceS_len h).1
  refine ⟨hl, ?_⟩
  by_cases h0 : n = 0
  · exact .inl h0
  · obtain ⟨b, off, _, ha, _, _, _, _⟩ := sliceS_at h (by exact Nat.one_pos) (show 0 < l.length by omega)
    refine .inr ⟨b, off, ha, fun j hj => ?_⟩
    obtain ⟨b2, off2, cs, ha2, _, _, hc, hr⟩ := sliceS_at h (by exact Nat.one_pos) (show j < l.length by omega)
    rw [ha] at ha2
    obtain ⟨rfl, rfl⟩ : b = b2 ∧ off = off2 := by simpa using ha2
    have hr' : cs = [.string (l[j]'(by omega))] := hr
    subst hr'
    have := hc 0 _ rfl
    rw [show off + (j * strS.size + 0) = off + j by show off + (j * 1 + 0) = off + j; omega] at this
    rw [this, List.getD_eq_getElem?_getD, List.getElem?_eq_getElem (by omega)]
    rfl

section
variable {α : Type} {A : Shape α} {w w' : World} {base : Nat} {e : TypeId} {v : Value} {xs : List α}
/-- Whatever is owned stays where another block grows. -/
theorem Own.still (hf : Plain A) {u : Option Nat} (h : Own A w base e v xs) (hg : w.grownBy w' u) (hne : ∀ b, v.ownBlock = some b → u ≠ some b) : Own A w' base e v xs := by
  obtain ⟨css, h1, h2⟩ := h
  refine ⟨css, h1.kept hg ?_, h2.1, fun j c x hc hx => hf (h2.2 j c x hc hx)⟩
  cases hv : v.ownBlock with
  | none => exact .inl rfl
  | some b => exact .inr (fun c => hne b hv c.symm)
/-- Among the call's own blocks. -/
theorem Own.top (hf : Plain A) {a : Option Addr} {n c : Nat} (h : Own A w base e (.slice a n c) xs) : (sliceS A).rep w (base ≤ ·) [.slice a n c] xs := by
  have hi := h.is
  obtain ⟨a', c', css, he, h1, h2, h3, h4⟩ := hi
  simp at he
  obtain ⟨rfl, rfl, rfl⟩ := he
  refine ⟨a, c, css, rfl, h1, h2, ⟨h3.1, fun j c x hc hx => hf (h3.2 j c x hc hx)⟩, ?_⟩
  rcases h4 with h0 | ⟨b, off, rfl, _, hb, hc⟩
  · exact .inl h0
  · exact .inr ⟨b, off, rfl, (h.lt b rfl).1, hb, hc⟩
/-- One element that 'append(v, x)' appends: in a block of its own. -/
theorem Own.one (hf : Plain A) {cs : List Value} {x : α} (hx : A.rep w (fun _ => False) cs x) (h : Own A w base e v xs) :
    (sliceS A).rep (w.alloc (.cells cs.toArray e)) (fun b => False ∨ b = w.heap.size) [.slice (some ⟨w.heap.size, 0, none⟩) 1 1] [x] ∧ ∀ b, (False ∨ b = w.heap.size) → some b ≠ v.ownBlock := by
  refine ⟨rep_at (cs := cs) (F := fun _ => False) (hf hx) (heap_new _ _ _ rfl), fun b hb h' => ?_⟩
  have := (h.lt b h'.symm).2
  rcases hb with hf | rfl
  · exact hf
  · omega
/-- A slice that a literal has just laid. -/
theorem Own.laid {w : World} {F : Nat → Prop} (css : List (List Value)) (xs : List α) (e : TypeId) (hf : Plain A) (h : A.all w F css xs) (hm : xs.length ≤ maxLen) (hb : base ≤ w.heap.size) :
    Own A (w.alloc (.cells css.flatten.toArray e)) base e (.slice (some ⟨w.heap.size, 0, none⟩) xs.length xs.length) xs := by
  have hl : css.flatten.length = xs.length * A.size := by rw [flat_len (Shape.all_len h), h.1]
  refine ⟨css, ⟨hl, .inr ⟨w.heap.size, xs.length, css.flatten.toArray, rfl, hb, heap_alloc_new w _, Nat.le_refl _, hm, ?_, ?_⟩⟩, h.1, fun j c x hc hx => hf (h.2 j c x hc hx)⟩
  · simpa using hl
  · exact List.take_of_length_le (by show css.flatten.length ≤ _; omega)
end
theorem Own.text {w : World} {base : Nat} {e : TypeId} {v : Value} {xs : List ByteArray} (x : ByteArray) (h : Own strS w base e v xs) :
    bagS.rep (w.alloc (.cells #[.string x] e)) (fun b => False ∨ b = w.heap.size) [.slice (some ⟨w.heap.size, 0, none⟩) 1 1] [x] ∧ ∀ b, (False ∨ b = w.heap.size) → some b ≠ v.ownBlock :=
  Own.one plain_str (cs := [.string x]) rfl h

/-! ### Texts that are like each other -/
theorem text_eq {S T : ByteArray} (h : S = T) : (S.toList == T.toList) = true := by rw [h]; simp
theorem text_ne {S T : ByteArray} (h : S ≠ T) : (S.toList == T.toList) = false := by
  rw [beq_eq_false_iff_ne]
  intro e
  apply h
  rw [ByteArray.toList_eq, ByteArray.toList_eq] at e
  apply ByteArray.ext
  exact Array.toList_inj.1 e
theorem text_none : (noText.toList == ([] : List UInt8)) = true := by rw [ByteArray.toList_eq]; rfl

namespace Bx
variable {l m : List ByteArray} {i : Nat}
theorem take_text (l : List ByteArray) (j : Nat) (h : j < l.length) : l.take (j + 1) = l.take j ++ [l.getD j noText] := by
  rw [List.take_succ_eq_append_getElem h, List.getD_eq_getElem?_getD, List.getElem?_eq_getElem h]; rfl
theorem like (h : l.length = m.length) (hj : ∀ j, j < l.length → l.getD j noText = m.getD j noText) : l = m := by
  apply List.ext_getElem h
  intro i g1 g2
  have := hj i g1
  rw [List.getD_eq_getElem?_getD, List.getD_eq_getElem?_getD, List.getElem?_eq_getElem g1, List.getElem?_eq_getElem g2] at this
  exact this

/-- One more, if there is room. -/
def put (l : List ByteArray) (s : ByteArray) : List ByteArray := if l.length > 199 then l else l ++ [s]
/-- All but that at i. -/
def without (l : List ByteArray) (i : Nat) : List ByteArray := l.take i ++ l.drop (i + 1)
/-- That at i once more behind. -/
def twice (l : List ByteArray) (i : Nat) : List ByteArray := if i < l.length then put l (l.getD i noText) else l
theorem put_full {s : ByteArray} (h : l.length > 199) : put l s = l := if_pos h
theorem put_room {s : ByteArray} (h : ¬ l.length > 199) : put l s = l ++ [s] := if_neg h
theorem put_len_full {s : ByteArray} (h : l.length > 199) : (put l s).length = l.length := by rw [put_full h]
theorem put_len_room {s : ByteArray} (h : ¬ l.length > 199) : (put l s).length = l.length + 1 := by rw [put_room h, List.length_append]; rfl
theorem without_out (h : l.length ≤ i) : without l i = l := by unfold without; rw [List.take_of_length_le h, List.drop_of_length_le (by omega), List.append_nil]
theorem without_len (h : i < l.length) : (without l i).length = l.length - 1 := by unfold without; rw [List.length_append, List.length_take, List.length_drop]; omega
theorem without_last {s : ByteArray} : without (l ++ [s]) l.length = l := by
  unfold without
  rw [List.take_left', List.drop_of_length_le (by simp), List.append_nil]
  rfl
theorem without_zero {x : ByteArray} : without (x :: l) 0 = l := by unfold without; simp
theorem at_last {s : ByteArray} : (l ++ [s]).getD l.length noText = s := by rw [List.getD_eq_getElem?_getD, List.getElem?_append_right (Nat.le_refl _), Nat.sub_self]; rfl
theorem without_snoc (p : List ByteArray) (x : ByteArray) (i : Nat) : without (p ++ [x]) i = if p.length = i then without p i else without p i ++ [x] := by
  by_cases e : p.length = i
  · rw [if_pos e, without_out (l := p) (by omega)]
    subst e
    exact without_last
  · rw [if_neg e]
    rcases Nat.lt_or_ge p.length i with hi | hi
    · rw [without_out (l := p ++ [x]) (by rw [List.length_append]; show p.length + 1 ≤ i; omega), without_out (l := p) (by omega)]
    · unfold without
      rw [List.take_append_of_le_length (by omega), List.drop_append_of_le_length (by omega), List.append_assoc]
/-- 'without' grows as the loop goes: what is kept of the first k. -/
theorem without_step (i k : Nat) (hk : k < l.length) : without (l.take (k + 1)) i = if k = i then without (l.take k) i else without (l.take k) i ++ [l.getD k noText] := by
  have hlt : (l.take k).length = k := by rw [List.length_take]; omega
  rw [take_text l k hk, without_snoc, hlt]
theorem put_many (s : ByteArray) {n : Nat} (h : n < 200) : put (List.replicate n s) s = List.replicate (n + 1) s := by
  rw [put_room (by simp; omega), List.replicate_succ']
end Bx

end Go.Proofs.YtokfcjgfpchffaaGreatDoor

/- What a node does with a message, as lists (no program in sight). -/
namespace Go.Proofs.YtokfcjgfpchffaaGreatDoor.Nd
open Go.Proofs.YtokfcjgfpchffaaGreatDoor Go.Proofs.YtokfcjgfpchffaaGreatDoor.Md

/-! ### What a ledger has -/
def got (l : List En) (k : Ky) : Option (List Int) := (l.find? fun x => decide (x.1 = k)).map fun x => x.2.1
theorem got_no {l : List En} {k : Ky} (h : Dx.No l k) : got l k = none := by
  unfold got
  rw [List.find?_eq_none.2 fun x hx => ?_]
  · rfl
  · obtain ⟨j, hj, rfl⟩ := eget_of_mem hx
    simpa using h j hj
theorem first_cons {x : En} {l : List En} {k : Ky} {i : Nat} (h : Dx.First (x :: l) k (i + 1)) : x.1 ≠ k ∧ Dx.First l k i := by
  obtain ⟨h1, h2, h3⟩ := h
  refine ⟨h3 0 (Nat.succ_pos _), by simpa using h1, by simpa using h2, fun j hj => ?_⟩
  have := h3 (j + 1) (by omega)
  simpa using this
theorem got_first {l : List En} {k : Ky} {i : Nat} (h : Dx.First l k i) : got l k = some (l.getD i en0).2.1 := by
  induction l generalizing i with
  | nil => exact absurd h.1 (Nat.not_lt_zero _)
  | cons x l ih =>
    unfold got
    by_cases hx : x.1 = k
    · have : i = 0 := by
        rcases Nat.eq_zero_or_pos i with h0 | h0
        · exact h0
        · exact absurd hx (h.2.2 0 h0)
      subst this
      rw [List.find?_cons_of_pos (by simpa using hx)]
      rfl
    · obtain ⟨j, rfl⟩ : ∃ j, i = j + 1 := by
        rcases Nat.eq_zero_or_pos i with h0 | h0
        · subst h0; exact absurd h.2.1 hx
        · exact ⟨i - 1, by omega⟩
      rw [List.find?_cons_of_neg (by simpa using hx)]
      have := ih (first_cons h).2
      unfold got at this
      rw [this]
      rfl
theorem got_mem {l : List En} {k : Ky} {v : List Int} (h : got l k = some v) : ∃ x ∈ l, x.1 = k ∧ x.2.1 = v := by
  unfold got at h
  obtain ⟨x, hx, rfl⟩ := Option.map_eq_some_iff.1 h
  exact ⟨x, List.mem_of_find?_eq_some hx, by simpa using List.find?_some hx, rfl⟩
theorem got_none {l : List En} {k : Ky} (h : got l k = none) : ∀ x ∈ l, x.1 ≠ k := by
  unfold got at h
  intro x hx
  have := List.find?_eq_none.1 (Option.map_eq_none_iff.1 h) x hx
  simpa using this
theorem no_of_got {l : List En} {k : Ky} (h : got l k = none) : Dx.No l k := fun _ hj => got_none h _ (eget_mem hj)

/-! ### Work -/
def keyOf (a : Wx.Msg) : Ky := ky a.batch a.layer a.token a.rank
def reply (e : Int) (node : Int) (a : Wx.Msg) (kind : Int) (v : List Int) : Wx.Msg := ⟨kind, node, a.fr, a.seq, a.batch, a.layer, a.token, a.rank, a.expert, e, v⟩
def lyOf (ms : List Ly) (a : Wx.Msg) : Ly := ms.getD a.layer.toNat ly0
def Fits (dim : Int) (ms : List Ly) (e : Int) (h : List (List Int)) (node : Int) (a : Wx.Msg) : Prop :=
  Md.Right dim ms ∧ Pl.Right e h ∧ Wx.right a ∧ a.kind = 1 ∧ a.to = node ∧ a.layer < (ms.length : Int) ∧ a.expert < ((lyOf ms a).2.1.length : Int) ∧ TRight dim [a.vec]
/-- The answer of one that is held, and of the map's epoch. -/
def Held (e : Int) (h : List (List Int)) (node : Int) (a : Wx.Msg) : Prop := a.epoch = e ∧ Pl.Holds h a.expert node
open Classical in
/-- The ledger, and what is said. -/
noncomputable def work (dim : Int) (ms : List Ly) (e : Int) (h : List (List Int)) (node : Int) (l : List En) (a : Wx.Msg) : Option (List En × Wx.Msg) :=
  if Fits dim ms e h node a then
    if Held e h node a then
      match got l (keyOf a) with
      | some v => some (l, reply e node a 2 v)
      | none => some (l ++ [en (keyOf a) (ans (lyOf ms a) a.vec a.expert)], reply e node a 2 (ans (lyOf ms a) a.vec a.expert))
    else some (l, reply e node a 3 [])
  else none
section
variable {dim : Int} {ms : List Ly} {e : Int} {h : List (List Int)} {node : Int} {l : List En} {a : Wx.Msg}
theorem work_no (hf : ¬ Fits dim ms e h node a) : work dim ms e h node l a = none := if_neg hf
theorem work_stale (hf : Fits dim ms e h node a) (hh : ¬ Held e h node a) : work dim ms e h node l a = some (l, reply e node a 3 []) := by
  unfold work; rw [if_pos hf, if_neg hh]
theorem work_old (hf : Fits dim ms e h node a) (hh : Held e h node a) {v : List Int} (hg : got l (keyOf a) = some v) : work dim ms e h node l a = some (l, reply e node a 2 v) := by
  unfold work; rw [if_pos hf, if_pos hh, hg]
theorem work_new (hf : Fits dim ms e h node a) (hh : Held e h node a) (hg : got l (keyOf a) = none) : work dim ms e h node l a = some (l ++ [en (keyOf a) (ans (lyOf ms a) a.vec a.expert)], reply e node a 2 (ans (lyOf ms a) a.vec a.expert)) := by
  unfold work; rw [if_pos hf, if_pos hh, hg]
/-- The four ways. -/
theorem work_ways (dim : Int) (ms : List Ly) (e : Int) (h : List (List Int)) (node : Int) (l : List En) (a : Wx.Msg) :
    (¬ Fits dim ms e h node a ∧ work dim ms e h node l a = none) ∨
    (Fits dim ms e h node a ∧ ¬ Held e h node a ∧ work dim ms e h node l a = some (l, reply e node a 3 [])) ∨
    (Fits dim ms e h node a ∧ Held e h node a ∧ ∃ v, got l (keyOf a) = some v ∧ work dim ms e h node l a = some (l, reply e node a 2 v)) ∨
    (Fits dim ms e h node a ∧ Held e h node a ∧ got l (keyOf a) = none ∧ work dim ms e h node l a = some (l ++ [en (keyOf a) (ans (lyOf ms a) a.vec a.expert)], reply e node a 2 (ans (lyOf ms a) a.vec a.expert))) := by
  by_cases hf : Fits dim ms e h node a
  · by_cases hh : Held e h node a
    · cases hg : got l (keyOf a) with
      | some v => exact .inr (.inr (.inl ⟨hf, hh, v, rfl, work_old hf hh hg⟩))
      | none => exact .inr (.inr (.inr ⟨hf, hh, rfl, work_new hf hh hg⟩))
    · exact .inr (.inl ⟨hf, hh, work_stale hf hh⟩)
  · exact .inl ⟨hf, work_no hf⟩
theorem Fits.low (hf : Fits dim ms e h node a) : 0 ≤ a.layer ∧ 0 ≤ a.expert ∧ 0 ≤ a.token ∧ 0 ≤ a.rank := by
  have := hf.2.2.1.2.2.1
  exact ⟨(this a.layer (by simp [Wx.ten])).1, (this a.expert (by simp [Wx.ten])).1, (this a.token (by simp [Wx.ten])).1, (this a.rank (by simp [Wx.ten])).1⟩
theorem Fits.layer (hf : Fits dim ms e h node a) : a.layer.toNat < ms.length ∧ LRight (lyOf ms a) dim := by
  have h1 : a.layer.toNat < ms.length := by have := hf.low.1; have := hf.2.2.2.2.2.1; omega
  exact ⟨h1, hf.1.2.2.2.2 _ (in_of h1 ly0)⟩
theorem Fits.vec (hf : Fits dim ms e h node a) : (a.vec.length : Int) = dim ∧ Mx.In a.vec := by
  have := hf.2.2.2.2.2.2.2.row (t := 0) (by simp)
  simpa using this
/-- What a message may say: a right one. -/
theorem ans_held {ly : Ly} {v : List Int} {x : Int} : ∀ n ∈ ans ly v x, n ≤ 2147483647 ∧ -2147483647 ≤ n := Ex.run_held _ _ _
theorem reply_right (hf : Fits dim ms e h node a) {kind : Int} (hk : kind = 2 ∨ kind = 3) (hn : 0 ≤ node ∧ node ≤ 2147483647) {v : List Int} (hv : v.length ≤ 8 ∧ ∀ n ∈ v, -2147483648 ≤ n ∧ n ≤ 2147483647) : Wx.right (reply e node a kind v) := by
  have hr := hf.2.2.1.2.2.1
  have he := hf.2.1.1
  have h1 := hr a.fr (by simp [Wx.ten])
  have h2 := hr a.seq (by simp [Wx.ten])
  have h3 := hr a.batch (by simp [Wx.ten])
  have h4 := hr a.layer (by simp [Wx.ten])
  have h5 := hr a.token (by simp [Wx.ten])
  have h6 := hr a.rank (by simp [Wx.ten])
  have h7 := hr a.expert (by simp [Wx.ten])
  refine ⟨by show 1 ≤ kind; omega, by show kind ≤ 4; omega, fun x hx => ?_, hv.1, hv.2⟩
  simp only [Wx.ten, reply, List.mem_cons, List.not_mem_nil, or_false] at hx
  rcases hx with rfl | rfl | rfl | rfl | rfl | rfl | rfl | rfl | rfl | rfl <;> omega
end
end Go.Proofs.YtokfcjgfpchffaaGreatDoor.Nd

/- A fleet as a machine over lists: messages, ledgers, a map; and what always holds of it (no program in sight). -/
namespace Go.Proofs.YtokfcjgfpchffaaGreatDoor.Ft
open Go.Proofs.YtokfcjgfpchffaaGreatDoor Go.Proofs.YtokfcjgfpchffaaGreatDoor.Md Go.Proofs.YtokfcjgfpchffaaGreatDoor.Nd

structure St where
  e : Int
  h : List (List Int)
  ls : List (List En)
  bag : List Wx.Msg
  lay : Nat
  toks : List (List Int)
  ans : List (Option (List Int))

def lyAt (ms : List Ly) (s : St) : Ly := ms.getD s.lay ly0
def ps (ms : List Ly) (s : St) : List Pt := parts (lyAt ms s) s.toks
def askOf (e : Int) (h : List (List Int)) (lay : Nat) (toks : List (List Int)) (p : Pt) : Wx.Msg :=
  ⟨1, 0, Pl.pick (h.getD p.2.2.1.toNat []) (p.1 + p.2.1).toNat, 0, 1, lay, p.1, p.2.1, p.2.2.1, e, toks.getD p.1.toNat []⟩
def put (b : List Wx.Msg) (m : Wx.Msg) : List Wx.Msg := if b.length < 200 then b ++ [m] else b
def puts (b : List Wx.Msg) (xs : List Wx.Msg) : List Wx.Msg := xs.foldl put b
/-- The parts that were not answered yet. -/
def left (l : List Pt) (an : List (Option (List Int))) : List Pt := (l.zip an).filterMap fun x => if x.2 = none then some x.1 else none
def ask (ms : List Ly) (s : St) : St := if s.lay < ms.length then { s with bag := puts s.bag ((left (ps ms s) s.ans).map (askOf s.e s.h s.lay s.toks)) } else s
/-- It is at a layer, with nothing answered yet. -/
def at0 (ms : List Ly) (s : St) (toks : List (List Int)) (lay : Nat) : St := { s with lay := lay, toks := toks, ans := if lay < ms.length then List.replicate (parts (ms.getD lay ly0) toks).length none else [] }
def enter (ms : List Ly) (s : St) (toks : List (List Int)) (lay : Nat) : St := ask ms (at0 ms s toks lay)
def whole (s : St) : Prop := ∀ x ∈ s.ans, x ≠ none
instance (s : St) : Decidable (whole s) := by unfold whole; infer_instance
def on (ms : List Ly) (s : St) : St := if s.lay < ms.length ∧ whole s then enter ms s (combine s.toks (ps ms s) (s.ans.map fun x => x.getD [])) (s.lay + 1) else s
def start (ms : List Ly) (e : Int) (h : List (List Int)) (toks : List (List Int)) : St := enter ms ⟨e, h, [[], [], [], []], [], 0, toks, []⟩ toks 0
/-- The place of an answer's part among those that were not answered yet. -/
def slotOf (l : List Pt) (an : List (Option (List Int))) (m : Wx.Msg) : Option Nat :=
  (List.range l.length).find? fun j => decide ((l.getD j pt0).1 = m.token ∧ (l.getD j pt0).2.1 = m.rank ∧ (l.getD j pt0).2.2.1 = m.expert ∧ an.getD j (some []) = none)
/-- A frame that was taken out of the bag. -/
noncomputable def took (dim : Int) (ms : List Ly) (s : St) (m : Wx.Msg) : St :=
  if 1 ≤ m.to ∧ m.to ≤ 4 then
    match work dim ms s.e s.h m.to (s.ls.getD (m.to - 1).toNat []) m with
    | none => s
    | some (l, out) => { s with ls := s.ls.set (m.to - 1).toNat l, bag := put s.bag out }
  else if m.to = 0 ∧ m.kind = 2 ∧ m.batch = 1 ∧ s.lay < ms.length ∧ m.layer = s.lay ∧ (m.vec.length : Int) = dim then
    match slotOf (ps ms s) s.ans m with
    | none => s
    | some j => on ms { s with ans := s.ans.set j (some m.vec) }
  else s
def drop (s : St) (i : Nat) : St := { s with bag := s.bag.eraseIdx i }
noncomputable def deliver (dim : Int) (ms : List Ly) (s : St) (i : Nat) : St := if i < s.bag.length then took dim ms (drop s i) (s.bag.getD i Wx.zero) else s

/-! ### What always holds -/
/-- The tokens of a layer. -/
def tl (ms : List Ly) (T : List (List Int)) (L : Nat) : List (List Int) := forward (ms.take L) T
/-- p is a part of layer L. -/
def Part (ms : List Ly) (T : List (List Int)) (L : Nat) (p : Pt) : Prop := L < ms.length ∧ p ∈ parts (ms.getD L ly0) (tl ms T L)
/-- What the model makes of a part. -/
def makes (ms : List Ly) (T : List (List Int)) (L : Nat) (p : Pt) : List Int := ans (ms.getD L ly0) ((tl ms T L).getD p.1.toNat []) p.2.2.1
def Entry (ms : List Ly) (T : List (List Int)) (n : Nat) (x : En) : Prop := ∃ L p, L ≤ n ∧ Part ms T L p ∧ x.1 = ky 1 L p.1 p.2.1 ∧ x.2.1 = makes ms T L p
def About (m : Wx.Msg) (L : Nat) (p : Pt) : Prop := m.batch = 1 ∧ m.layer = L ∧ m.token = p.1 ∧ m.rank = p.2.1 ∧ m.expert = p.2.2.1
def Asks (ms : List Ly) (T : List (List Int)) (n : Nat) (m : Wx.Msg) : Prop := m.kind = 1 → ∃ L p, L ≤ n ∧ Part ms T L p ∧ About m L p ∧ m.vec = (tl ms T L).getD p.1.toNat []
def Tells (ms : List Ly) (T : List (List Int)) (n : Nat) (m : Wx.Msg) : Prop := m.kind = 2 → ∃ L p, L ≤ n ∧ Part ms T L p ∧ About m L p ∧ m.vec = makes ms T L p
def Good (ms : List Ly) (T : List (List Int)) (n : Nat) (m : Wx.Msg) : Prop := Wx.right m ∧ Asks ms T n m ∧ Tells ms T n m
structure Inv (dim : Int) (ms : List Ly) (T : List (List Int)) (s : St) : Prop where
  lay : s.lay ≤ ms.length
  toks : s.toks = tl ms T s.lay
  map : Pl.Right s.e s.h
  wide : ∀ l ∈ ms, l.2.1.length ≤ s.h.length
  len : s.ls.length = 4
  led : ∀ l ∈ s.ls, ∀ x ∈ l, Entry ms T s.lay x
  bag : ∀ m ∈ s.bag, Good ms T s.lay m
  few : s.bag.length ≤ 200
  many : s.ans.length = if s.lay < ms.length then (ps ms s).length else 0
  ans : ∀ j v, s.ans[j]? = some (some v) → v = makes ms T s.lay ((ps ms s).getD j pt0)
section
variable {dim : Int} {ms : List Ly} {T : List (List Int)} {s : St}
theorem Entry.mono {n k : Nat} {x : En} (h : Entry ms T n x) (hk : n ≤ k) : Entry ms T k x := by
  obtain ⟨L, p, h1, h2⟩ := h
  exact ⟨L, p, by omega, h2⟩
theorem Good.mono {n k : Nat} {m : Wx.Msg} (h : Good ms T n m) (hk : n ≤ k) : Good ms T k m :=
  ⟨h.1, fun h1 => by obtain ⟨L, p, h2, h3⟩ := h.2.1 h1; exact ⟨L, p, by omega, h3⟩, fun h1 => by obtain ⟨L, p, h2, h3⟩ := h.2.2 h1; exact ⟨L, p, by omega, h3⟩⟩
theorem tl_right (hR : Right dim ms) (hT : TRight dim T) (L : Nat) : TRight dim (tl ms T L) := forward_right (fun l hl => hR.2.2.2.2 l (List.mem_of_mem_take hl)) hT
theorem ly_right (hR : Right dim ms) {L : Nat} (h : L < ms.length) : LRight (ms.getD L ly0) dim := hR.2.2.2.2 _ (in_of h ly0)
theorem tl_next {L : Nat} (h : L < ms.length) : tl ms T (L + 1) = Md.step (ms.getD L ly0) (tl ms T L) := forward_next h T
theorem tl_all : tl ms T ms.length = forward ms T := by unfold tl; rw [List.take_length]
theorem Part.is (hR : Right dim ms) (hT : TRight dim T) {L : Nat} {p : Pt} (h : Part ms T L p) : 0 ≤ p.1 ∧ p.1 < ((tl ms T L).length : Int) ∧ 0 ≤ p.2.1 ∧ p.2.1 ≤ 1 ∧ 0 ≤ p.2.2.1 ∧ p.2.2.1 < ((ms.getD L ly0).2.1.length : Int) := by
  have := part_is (ly_right hR h.1) (tl_right hR hT L) h.2
  exact ⟨this.1, this.2.1, this.2.2.1, this.2.2.2.1, this.2.2.2.2.1, this.2.2.2.2.2.1⟩
/-- Of a token and a rank there is one part. -/
theorem parts_one {l : Ly} {ts : List (List Int)} {p q : Pt} (hp : p ∈ parts l ts) (hq : q ∈ parts l ts) (h1 : p.1 = q.1) (h2 : p.2.1 = q.2.1) : p = q := by
  have hr : (parts l ts).Pairwise (fun p q => at2 p < at2 q) := rises l ts (ts.length * 2)
  have e : at2 p = at2 q := by unfold at2; rw [h1, h2]
  obtain ⟨i, hi, rfl⟩ := List.mem_iff_getElem.1 hp
  obtain ⟨j, hj, rfl⟩ := List.mem_iff_getElem.1 hq
  have hw := List.pairwise_iff_getElem.1 hr
  rcases Nat.lt_trichotomy i j with h | h | h
  · have := hw i j hi hj h; omega
  · subst h; rfl
  · have := hw j i hj hi h; omega
theorem Part.one {L : Nat} {p q : Pt} (hp : Part ms T L p) (hq : Part ms T L q) (h1 : p.1 = q.1) (h2 : p.2.1 = q.2.1) : p = q := parts_one hp.2 hq.2 h1 h2
theorem makes_held (L : Nat) (p : Pt) : ∀ n ∈ makes ms T L p, n ≤ 2147483647 ∧ -2147483647 ≤ n := ans_held
theorem makes_len (hR : Right dim ms) (hT : TRight dim T) {L : Nat} {p : Pt} (h : Part ms T L p) : ((makes ms T L p).length : Int) = dim := by
  have hi := h.is hR hT
  have hr := (tl_right hR hT L).row (t := p.1.toNat) (by omega)
  unfold makes
  rw [ans_len (ly_right hR h.1) hr.1 hi.2.2.2.2.1 hi.2.2.2.2.2]
  exact hr.1
theorem makes_eight (hR : Right dim ms) (hT : TRight dim T) {L : Nat} {p : Pt} (h : Part ms T L p) : (makes ms T L p).length ≤ 8 := by
  have := makes_len hR hT h
  have := hR.2.1
  omega
/-- What is asked is right. -/
theorem ask_good (hR : Right dim ms) (hT : TRight dim T) {e : Int} {h : List (List Int)} (hm : Pl.Right e h) (hw : ∀ l ∈ ms, l.2.1.length ≤ h.length) {L : Nat} {p : Pt} (hp : Part ms T L p) : Good ms T L (askOf e h L (tl ms T L) p) := by
  have hi := hp.is hR hT
  have ht := tl_right hR hT L
  have hr := ht.row (t := p.1.toNat) (by omega)
  have hwl := hw _ (in_of hp.1 ly0)
  have hk := Pl.pick_holds (hm.row (i := p.2.2.1.toNat) (by omega)) (p.1 + p.2.1).toNat
  have hkr := (hm.row (i := p.2.2.1.toNat) (by omega)).2.1 _ hk
  have hL4 := hR.2.2.2.1
  have hT16 := ht.2.1
  have h8 := hm.2.1
  have hL := hp.1
  have he := hm.1
  have hd := hR.2.1
  refine ⟨⟨by show (1 : Int) ≤ 1; omega, by show (1 : Int) ≤ 4; omega, fun x hx => ?_, by show ((tl ms T L).getD p.1.toNat []).length ≤ 8; have := hr.1; omega, fun x hx => ?_⟩, fun _ => ⟨L, p, Nat.le_refl _, hp, ⟨rfl, rfl, rfl, rfl, rfl⟩, rfl⟩, fun h2 => by cases h2⟩
  · simp only [Wx.ten, askOf, List.mem_cons, List.not_mem_nil, or_false] at hx
    rcases hx with rfl | rfl | rfl | rfl | rfl | rfl | rfl | rfl | rfl | rfl <;> omega
  · have h1 : Fx.hold x = x := hr.2 x hx
    have h2 := Fx.hold_lo x
    have h3 := Fx.hold_hi x
    omega
theorem put_mem {b : List Wx.Msg} {m x : Wx.Msg} (h : x ∈ put b m) : x ∈ b ∨ x = m := by
  unfold put at h
  split at h
  · rcases List.mem_append.1 h with h | h
    · exact .inl h
    · exact .inr (List.mem_singleton.1 h)
  · exact .inl h
theorem puts_mem {xs b : List Wx.Msg} {x : Wx.Msg} (h : x ∈ puts b xs) : x ∈ b ∨ x ∈ xs := by
  induction xs generalizing b with
  | nil => exact .inl h
  | cons m xs ih =>
    rcases ih (b := put b m) h with h1 | h1
    · rcases put_mem h1 with h2 | h2
      · exact .inl h2
      · exact .inr (by rw [h2]; exact List.mem_cons_self ..)
    · exact .inr (List.mem_cons_of_mem _ h1)
theorem put_len {b : List Wx.Msg} {m : Wx.Msg} (h : b.length ≤ 200) : (put b m).length ≤ 200 := by
  unfold put
  split
  · rw [List.length_append]; simp; omega
  · exact h
theorem puts_len {xs b : List Wx.Msg} (h : b.length ≤ 200) : (puts b xs).length ≤ 200 := by
  induction xs generalizing b with
  | nil => exact h
  | cons m xs ih => exact ih (b := put b m) (put_len h)
theorem left_mem {l : List Pt} {an : List (Option (List Int))} {p : Pt} (h : p ∈ left l an) : p ∈ l := by
  unfold left at h
  obtain ⟨x, hx, h2⟩ := List.mem_filterMap.1 h
  by_cases h3 : x.2 = none
  · rw [if_pos h3] at h2
    rw [← Option.some.inj h2]
    exact (List.of_mem_zip hx).1
  · rw [if_neg h3] at h2; cases h2
theorem Inv.part (h : Inv dim ms T s) (hl : s.lay < ms.length) {p : Pt} (hp : p ∈ ps ms s) : Part ms T s.lay p := ⟨hl, by have := hp; unfold ps lyAt at this; rw [h.toks] at this; exact this⟩
theorem Inv.ask (h : Inv dim ms T s) (hR : Right dim ms) (hT : TRight dim T) : Inv dim ms T (Ft.ask ms s) := by
  unfold Ft.ask
  by_cases hl : s.lay < ms.length
  · rw [if_pos hl]
    exact ⟨h.lay, h.toks, h.map, h.wide, h.len, h.led, fun m hm => by
      rcases puts_mem hm with h1 | h1
      · exact h.bag m h1
      · obtain ⟨p, hp, rfl⟩ := List.mem_map.1 h1
        have := ask_good hR hT h.map h.wide (h.part hl (left_mem hp))
        rw [← h.toks] at this
        exact this, puts_len h.few, h.many, h.ans⟩
  · rw [if_neg hl]; exact h
theorem Inv.enter (h : Inv dim ms T s) (hR : Right dim ms) (hT : TRight dim T) {lay : Nat} (h1 : s.lay ≤ lay) (h2 : lay ≤ ms.length) {toks : List (List Int)} (ht : toks = tl ms T lay) : Inv dim ms T (Ft.enter ms s toks lay) := by
  refine Inv.ask ?_ hR hT
  refine ⟨h2, ht, h.map, h.wide, h.len, fun l hl x hx => (h.led l hl x hx).mono h1, fun m hm => (h.bag m hm).mono h1, h.few, ?_, fun j v hv => ?_⟩
  · show (if lay < ms.length then _ else _ : List (Option (List Int))).length = if lay < ms.length then (parts (ms.getD lay ly0) toks).length else 0
    by_cases hl : lay < ms.length
    · rw [if_pos hl, if_pos hl, List.length_replicate]
    · rw [if_neg hl, if_neg hl]; rfl
  · replace hv : (if lay < ms.length then List.replicate (parts (ms.getD lay ly0) toks).length (none : Option (List Int)) else [])[j]? = some (some v) := hv
    by_cases hl : lay < ms.length
    · rw [if_pos hl] at hv
      have := List.eq_of_mem_replicate (List.mem_of_getElem? hv)
      cases this
    · rw [if_neg hl] at hv; simp at hv
theorem Inv.all (h : Inv dim ms T s) (hl : s.lay < ms.length) (hw : whole s) : s.ans.map (fun x => x.getD []) = answers (ms.getD s.lay ly0) s.toks (ps ms s) := by
  have hlen : s.ans.length = (ps ms s).length := by have := h.many; rw [if_pos hl] at this; exact this
  apply List.ext_getElem?
  intro j
  unfold answers
  rw [List.getElem?_map, List.getElem?_map]
  by_cases hj : j < s.ans.length
  · have hne := hw _ (List.getElem_mem hj)
    obtain ⟨v, hv⟩ := Option.ne_none_iff_exists'.1 hne
    have := h.ans j v (by rw [List.getElem?_eq_getElem hj, hv])
    rw [List.getElem?_eq_getElem hj, List.getElem?_eq_getElem (by omega : j < (ps ms s).length), hv]
    show some v = some _
    rw [this]
    unfold makes
    rw [← h.toks, get_of (by omega : j < (ps ms s).length)]
  · rw [List.getElem?_eq_none (by omega), List.getElem?_eq_none (by omega)]
    rfl
theorem Inv.on (h : Inv dim ms T s) (hR : Right dim ms) (hT : TRight dim T) : Inv dim ms T (Ft.on ms s) := by
  unfold Ft.on
  by_cases hc : s.lay < ms.length ∧ whole s
  · rw [if_pos hc]
    refine h.enter hR hT (Nat.le_succ _) hc.1 ?_
    rw [h.all hc.1 hc.2, tl_next hc.1, ← h.toks]
    exact combine_step (ly_right hR hc.1) (by rw [h.toks]; exact tl_right hR hT _)
  · rw [if_neg hc]; exact h
theorem Inv.done (h : Inv dim ms T s) (hl : ¬ s.lay < ms.length) : s.toks = forward ms T := by
  have := h.lay
  rw [h.toks, show s.lay = ms.length by omega, tl_all]

/-! ### It holds of whatever is done -/
theorem Inv.ledger (h : Inv dim ms T s) (j : Nat) : ∀ x ∈ s.ls.getD j [], Entry ms T s.lay x := by
  intro x hx
  by_cases hj : j < s.ls.length
  · exact h.led _ (in_of hj []) x hx
  · rw [List.getD_eq_getElem?_getD, List.getElem?_eq_none (by omega)] at hx
    cases hx
theorem Inv.said (h : Inv dim ms T s) (j : Nat) {l : List En} (hl : ∀ x ∈ l, Entry ms T s.lay x) {out : Wx.Msg} (ho : Good ms T s.lay out) : Inv dim ms T { s with ls := s.ls.set j l, bag := put s.bag out } :=
  ⟨h.lay, h.toks, h.map, h.wide, by show (s.ls.set j l).length = 4; rw [List.length_set]; exact h.len, fun k hk x hx => by
    rcases List.mem_or_eq_of_mem_set hk with h1 | h1
    · exact h.led k h1 x hx
    · rw [h1] at hx; exact hl x hx, fun m hm => by
    rcases put_mem hm with h1 | h1
    · exact h.bag m h1
    · rw [h1]; exact ho, put_len h.few, h.many, h.ans⟩
theorem key_about {m : Wx.Msg} {L : Nat} {p : Pt} (h : About m L p) : Nd.keyOf m = ky 1 L p.1 p.2.1 := by
  unfold Nd.keyOf
  rw [h.1, h.2.1, h.2.2.1, h.2.2.2.1]
theorem reply_tells {m : Wx.Msg} {L n : Nat} {p : Pt} (hR : Right dim ms) (hT : TRight dim T) {e : Int} {hh : List (List Int)} {node : Int} (hf : Fits dim ms e hh node m) (hn : 1 ≤ node ∧ node ≤ 4) (hL : L ≤ n) (hp : Part ms T L p) (ha : About m L p) : Good ms T n (reply e node m 2 (makes ms T L p)) :=
  ⟨reply_right hf (.inl rfl) ⟨by omega, by omega⟩ ⟨makes_eight hR hT hp, fun x hx => by have := makes_held L p x hx; omega⟩, fun h1 => (by cases h1), fun _ => ⟨L, p, hL, hp, ha, rfl⟩⟩
theorem slotOf_some {l : List Pt} {an : List (Option (List Int))} {m : Wx.Msg} {j : Nat} (h : slotOf l an m = some j) : j < l.length ∧ (l.getD j pt0).1 = m.token ∧ (l.getD j pt0).2.1 = m.rank ∧ (l.getD j pt0).2.2.1 = m.expert ∧ an.getD j (some []) = none := by
  unfold slotOf at h
  have h1 := List.mem_range.1 (List.mem_of_find?_eq_some h)
  have h2 := List.find?_some h
  exact ⟨h1, by simpa using h2⟩
theorem Inv.took (h : Inv dim ms T s) (hR : Right dim ms) (hT : TRight dim T) {m : Wx.Msg} (hm : Good ms T s.lay m) : Inv dim ms T (Ft.took dim ms s m) := by
  unfold Ft.took
  by_cases h1 : 1 ≤ m.to ∧ m.to ≤ 4
  · rw [if_pos h1]
    rcases work_ways dim ms s.e s.h m.to (s.ls.getD (m.to - 1).toNat []) m with ⟨_, e⟩ | ⟨hf, _, e⟩ | ⟨hf, _, v, hg, e⟩ | ⟨hf, _, hg, e⟩
    · rw [e]; exact h
    · rw [e]
      exact h.said _ (h.ledger _) ⟨reply_right hf (.inr rfl) ⟨by omega, by omega⟩ ⟨Nat.zero_le _, fun x hx => (by cases hx)⟩, fun h2 => (by cases h2), fun h2 => (by cases h2)⟩
    · rw [e]
      obtain ⟨L, p, hL, hp, ha, _⟩ := hm.2.1 hf.2.2.2.1
      obtain ⟨x, hx, hk, hv⟩ := got_mem hg
      obtain ⟨L2, p2, hL2, hp2, hk2, hv2⟩ := h.ledger _ x hx
      rw [hk, key_about ha] at hk2
      obtain ⟨_, k1, k2, k3⟩ := ky_eq.1 hk2
      obtain rfl : L = L2 := by omega
      obtain rfl : p = p2 := hp.one hp2 k2 k3
      rw [hv] at hv2
      rw [hv2]
      exact h.said _ (h.ledger _) (reply_tells hR hT hf h1 hL hp ha)
    · rw [e]
      obtain ⟨L, p, hL, hp, ha, hvec⟩ := hm.2.1 hf.2.2.2.1
      have hmk : Md.ans (lyOf ms m) m.vec m.expert = makes ms T L p := by
        unfold makes lyOf
        rw [hvec, ha.2.2.2.2, ha.2.1]
        rfl
      rw [hmk]
      refine h.said _ (fun x hx => ?_) (reply_tells hR hT hf h1 hL hp ha)
      rcases List.mem_append.1 hx with h2 | h2
      · exact h.ledger _ x h2
      · rw [List.mem_singleton.1 h2]
        exact ⟨L, p, hL, hp, key_about ha, rfl⟩
  · rw [if_neg h1]
    by_cases h2 : m.to = 0 ∧ m.kind = 2 ∧ m.batch = 1 ∧ s.lay < ms.length ∧ m.layer = s.lay ∧ (m.vec.length : Int) = dim
    · rw [if_pos h2]
      cases hs : slotOf (ps ms s) s.ans m with
      | none => exact h
      | some j =>
        obtain ⟨hj, k1, k2, _, _⟩ := slotOf_some hs
        obtain ⟨L, p, _, hp, ha, hvec⟩ := hm.2.2 h2.2.1
        obtain rfl : L = s.lay := by have := ha.2.1; have := h2.2.2.2.2.1; omega
        have hq := h.part h2.2.2.2.1 (in_of hj pt0)
        obtain rfl : p = (ps ms s).getD j pt0 := hp.one hq (by rw [k1, ha.2.2.1]) (by rw [k2, ha.2.2.2.1])
        refine Inv.on (s := { s with ans := s.ans.set j (some m.vec) }) ⟨h.lay, h.toks, h.map, h.wide, h.len, h.led, h.bag, h.few, ?_, fun i v hv => ?_⟩ hR hT
        · show (s.ans.set j (some m.vec)).length = _
          rw [List.length_set]; exact h.many
        · replace hv : (s.ans.set j (some m.vec))[i]? = some (some v) := hv
          by_cases hij : i = j
          · subst hij
            rw [List.getElem?_set] at hv
            rw [if_pos rfl] at hv
            split at hv
            · have := Option.some.inj (Option.some.inj hv)
              rw [← this]; exact hvec
            · cases hv
          · rw [List.getElem?_set_ne (Ne.symm hij)] at hv
            exact h.ans i v hv
    · rw [if_neg h2]; exact h
theorem Inv.drop (h : Inv dim ms T s) (i : Nat) : Inv dim ms T (Ft.drop s i) :=
  ⟨h.lay, h.toks, h.map, h.wide, h.len, h.led, fun m hm => h.bag m (List.mem_of_mem_eraseIdx hm), by
    have := h.few
    show (s.bag.eraseIdx i).length ≤ 200
    rw [List.length_eraseIdx]; split <;> omega, h.many, h.ans⟩
theorem Inv.deliver (h : Inv dim ms T s) (hR : Right dim ms) (hT : TRight dim T) (i : Nat) : Inv dim ms T (Ft.deliver dim ms s i) := by
  unfold Ft.deliver
  by_cases hi : i < s.bag.length
  · rw [if_pos hi]
    exact (h.drop i).took hR hT (h.bag _ (in_of hi Wx.zero))
  · rw [if_neg hi]; exact h
def twice (s : St) (i : Nat) : St := if i < s.bag.length then { s with bag := put s.bag (s.bag.getD i Wx.zero) } else s
theorem Inv.twice (h : Inv dim ms T s) (i : Nat) : Inv dim ms T (Ft.twice s i) := by
  unfold Ft.twice
  by_cases hi : i < s.bag.length
  · rw [if_pos hi]
    exact ⟨h.lay, h.toks, h.map, h.wide, h.len, h.led, fun m hm => by
      rcases put_mem hm with h1 | h1
      · exact h.bag m h1
      · rw [h1]; exact h.bag _ (in_of hi Wx.zero), put_len h.few, h.many, h.ans⟩
  · rw [if_neg hi]; exact h
def turned (s : St) (e : Int) (h : List (List Int)) : St := { s with e := e, h := h }
theorem Inv.turned (h : Inv dim ms T s) {e : Int} {hh : List (List Int)} (hm : Pl.Right e hh) (hl : hh.length = s.h.length) : Inv dim ms T (Ft.turned s e hh) :=
  ⟨h.lay, h.toks, hm, fun l hx => by have := h.wide l hx; show l.2.1.length ≤ hh.length; omega, h.len, h.led, h.bag, h.few, h.many, h.ans⟩
theorem Inv.start (hR : Right dim ms) (hT : TRight dim T) {e : Int} {hh : List (List Int)} (hm : Pl.Right e hh) (hw : ∀ l ∈ ms, l.2.1.length ≤ hh.length) : Inv dim ms T (Ft.start ms e hh T) := by
  have h0 : 0 < ms.length := by have := hR.2.2.1; omega
  refine Inv.ask ?_ hR hT
  refine ⟨Nat.zero_le _, rfl, hm, hw, rfl, fun l hl x hx => ?_, fun m hx => (by cases hx), Nat.zero_le _, ?_, fun j v hv => ?_⟩
  · have hl' : l ∈ ([[], [], [], []] : List (List En)) := hl
    have : l = [] := by simpa using hl'
    rw [this] at hx; cases hx
  · show (if 0 < ms.length then _ else _ : List (Option (List Int))).length = if 0 < ms.length then (parts (ms.getD 0 ly0) T).length else 0
    rw [if_pos h0, if_pos h0, List.length_replicate]
  · replace hv : (if 0 < ms.length then List.replicate (parts (ms.getD 0 ly0) T).length (none : Option (List Int)) else [])[j]? = some (some v) := hv
    rw [if_pos h0] at hv
    have := List.eq_of_mem_replicate (List.mem_of_getElem? hv)
    cases this
end
end Go.Proofs.YtokfcjgfpchffaaGreatDoor.Ft

/- A fleet comes to an end: what is delivered in order becomes less, and what was asked last is answered (no program in sight). -/
namespace Go.Proofs.YtokfcjgfpchffaaGreatDoor.Ft
open Go.Proofs.YtokfcjgfpchffaaGreatDoor Go.Proofs.YtokfcjgfpchffaaGreatDoor.Md Go.Proofs.YtokfcjgfpchffaaGreatDoor.Nd

/-! ### What is delivered in order becomes less -/
def weight (m : Wx.Msg) : Nat := if m.kind = 1 then 2 else 1
def load (b : List Wx.Msg) : Nat := (b.map weight).sum
def phi (ms : List Ly) (s : St) : Nat := load s.bag + 64 * (ms.length - s.lay)
theorem load_cons (m : Wx.Msg) (b : List Wx.Msg) : load (m :: b) = weight m + load b := by simp [load]
theorem load_append (a b : List Wx.Msg) : load (a ++ b) = load a + load b := by simp [load]
theorem load_one (m : Wx.Msg) : load [m] = weight m := by simp [load]
theorem weight_le (m : Wx.Msg) : 1 ≤ weight m ∧ weight m ≤ 2 := by unfold weight; split <;> omega
theorem load_le (b : List Wx.Msg) : load b ≤ 2 * b.length := by
  induction b with
  | nil => exact Nat.le_refl _
  | cons m b ih => rw [load_cons, List.length_cons]; have := (weight_le m).2; omega
theorem load_put (b : List Wx.Msg) (m : Wx.Msg) : load (put b m) ≤ load b + weight m := by
  unfold put
  split
  · rw [load_append, load_one]; exact Nat.le_refl _
  · omega
theorem load_puts (xs b : List Wx.Msg) : load (puts b xs) ≤ load b + 2 * xs.length := by
  induction xs generalizing b with
  | nil => exact Nat.le_refl _
  | cons m xs ih =>
    have h1 := ih (put b m)
    have h2 := load_put b m
    have h3 := (weight_le m).2
    show load (puts (put b m) xs) ≤ _
    rw [List.length_cons]
    omega
theorem left_len (l : List Pt) (an : List (Option (List Int))) : (left l an).length ≤ l.length := by
  unfold left
  refine Nat.le_trans (List.length_filterMap_le _ _) ?_
  rw [List.length_zip]
  exact Nat.min_le_left _ _
section
variable {dim : Int} {ms : List Ly} {T : List (List Int)} {s : St}
theorem parts_few {l : Ly} {ts : List (List Int)} (h : ts.length ≤ 16) : (parts l ts).length ≤ 32 := by
  have := upto_len l ts (ts.length * 2)
  show (upto l ts (ts.length * 2)).length ≤ 32
  omega
theorem ps_few (h : Inv dim ms T s) (hR : Right dim ms) (hT : TRight dim T) : (ps ms s).length ≤ 32 := parts_few (by rw [h.toks]; exact (tl_right hR hT _).2.1)
theorem enter_phi (s : St) {toks : List (List Int)} (ht : toks.length ≤ 16) (hl : s.lay < ms.length) : phi ms (enter ms s toks (s.lay + 1)) ≤ phi ms s := by
  unfold enter ask
  by_cases h : (at0 ms s toks (s.lay + 1)).lay < ms.length
  · rw [if_pos h]
    have h1 := load_puts ((left (ps ms (at0 ms s toks (s.lay + 1))) (at0 ms s toks (s.lay + 1)).ans).map (askOf s.e s.h (s.lay + 1) toks)) s.bag
    rw [List.length_map] at h1
    have h2 := left_len (ps ms (at0 ms s toks (s.lay + 1))) (at0 ms s toks (s.lay + 1)).ans
    have h3 : (ps ms (at0 ms s toks (s.lay + 1))).length ≤ 32 := parts_few (l := lyAt ms (at0 ms s toks (s.lay + 1))) (ts := toks) ht
    show load (puts s.bag _) + 64 * (ms.length - (s.lay + 1)) ≤ load s.bag + 64 * (ms.length - s.lay)
    have h4 : load (puts s.bag ((left (ps ms (at0 ms s toks (s.lay + 1))) (at0 ms s toks (s.lay + 1)).ans).map (askOf (at0 ms s toks (s.lay + 1)).e (at0 ms s toks (s.lay + 1)).h (at0 ms s toks (s.lay + 1)).lay (at0 ms s toks (s.lay + 1)).toks))) ≤ load s.bag + 64 := Nat.le_trans h1 (by omega)
    omega
  · rw [if_neg h]
    show load s.bag + 64 * (ms.length - (s.lay + 1)) ≤ load s.bag + 64 * (ms.length - s.lay)
    omega
theorem combine_len (o : List (List Int)) (q : List Pt) (a : List (List Int)) : (combine o q a).length = o.length := Md.puts_len _ _
theorem on_phi (s : St) (ht : s.toks.length ≤ 16) : phi ms (on ms s) ≤ phi ms s := by
  unfold on
  split
  · rename_i h
    exact enter_phi s (by rw [combine_len]; exact ht) h.1
  · exact Nat.le_refl _
theorem took_phi (s : St) (ht : s.toks.length ≤ 16) (m : Wx.Msg) : phi ms (took dim ms s m) + 1 ≤ phi ms s + weight m := by
  unfold took
  have hw := weight_le m
  by_cases h1 : 1 ≤ m.to ∧ m.to ≤ 4
  · rw [if_pos h1]
    have aux : ∀ (l : List En) (out : Wx.Msg), weight m = 2 → weight out = 1 → phi ms { s with ls := s.ls.set (m.to - 1).toNat l, bag := put s.bag out } + 1 ≤ phi ms s + weight m := fun l out h2 h3 => by
      have := load_put s.bag out
      show load (put s.bag out) + 64 * (ms.length - s.lay) + 1 ≤ load s.bag + 64 * (ms.length - s.lay) + weight m
      omega
    rcases work_ways dim ms s.e s.h m.to (s.ls.getD (m.to - 1).toNat []) m with ⟨_, e⟩ | ⟨hf, _, e⟩ | ⟨hf, _, v, hg, e⟩ | ⟨hf, _, hg, e⟩
    · rw [e]; show phi ms s + 1 ≤ _; omega
    · rw [e]; exact aux _ _ (by unfold weight; rw [if_pos hf.2.2.2.1]) rfl
    · rw [e]; exact aux _ _ (by unfold weight; rw [if_pos hf.2.2.2.1]) rfl
    · rw [e]; exact aux _ _ (by unfold weight; rw [if_pos hf.2.2.2.1]) rfl
  · rw [if_neg h1]
    split
    · split
      · omega
      · rename_i j _
        have := on_phi (ms := ms) { s with ans := s.ans.set j (some m.vec) } ht
        exact Nat.le_trans (Nat.succ_le_succ this) (by show phi ms s + 1 ≤ _; omega)
    · omega
theorem deliver_phi (h : Inv dim ms T s) (hR : Right dim ms) (hT : TRight dim T) (hb : s.bag ≠ []) : phi ms (deliver dim ms s 0) + 1 ≤ phi ms s := by
  unfold deliver
  have hl : 0 < s.bag.length := List.length_pos_iff.2 hb
  rw [if_pos hl]
  have ht : s.toks.length ≤ 16 := by rw [h.toks]; exact (tl_right hR hT _).2.1
  have h1 := took_phi (dim := dim) (ms := ms) (drop s 0) ht (s.bag.getD 0 Wx.zero)
  cases hs : s.bag with
  | nil => exact absurd hs hb
  | cons m b =>
    have h2 : phi ms (drop s 0) + weight (s.bag.getD 0 Wx.zero) = phi ms s := by
      show load (s.bag.eraseIdx 0) + 64 * (ms.length - s.lay) + weight (s.bag.getD 0 Wx.zero) = load s.bag + 64 * (ms.length - s.lay)
      rw [hs]
      show load b + 64 * (ms.length - s.lay) + weight m = load (m :: b) + 64 * (ms.length - s.lay)
      rw [load_cons]; omega
    rw [← hs]
    omega
/-- k frames, taken one by one from the front. -/
noncomputable def run (dim : Int) (ms : List Ly) : Nat → St → St
  | 0, s => s
  | k + 1, s => deliver dim ms (run dim ms k s) 0
theorem run_inv (h : Inv dim ms T s) (hR : Right dim ms) (hT : TRight dim T) (k : Nat) : Inv dim ms T (run dim ms k s) := by
  induction k with
  | zero => exact h
  | succ k ih => exact ih.deliver hR hT 0
theorem run_phi (h : Inv dim ms T s) (hR : Right dim ms) (hT : TRight dim T) (k : Nat) : (run dim ms k s).bag = [] ∨ phi ms (run dim ms k s) + k ≤ phi ms s := by
  induction k with
  | zero => exact .inr (Nat.le_refl _)
  | succ k ih =>
    by_cases hb : (run dim ms k s).bag = []
    · refine .inl ?_
      show (deliver dim ms (run dim ms k s) 0).bag = []
      unfold deliver
      rw [hb]
      simpa using hb
    · rcases ih with h1 | h1
      · exact absurd h1 hb
      · have := deliver_phi (run_inv h hR hT k) hR hT hb
        exact .inr (by show phi ms (deliver dim ms (run dim ms k s) 0) + (k + 1) ≤ _; omega)
theorem phi_le (h : Inv dim ms T s) (hR : Right dim ms) : phi ms s ≤ 656 := by
  have h1 := load_le s.bag
  have h2 := h.few
  have h3 := hR.2.2.2.1
  unfold phi
  omega
/-- Behind 657 frames there is none any more. -/
theorem run_ends (h : Inv dim ms T s) (hR : Right dim ms) (hT : TRight dim T) {k : Nat} (hk : 657 ≤ k) : (run dim ms k s).bag = [] := by
  rcases run_phi h hR hT k with h1 | h1
  · exact h1
  · have := phi_le h hR; omega
end
end Go.Proofs.YtokfcjgfpchffaaGreatDoor.Ft

/- A fleet comes to an end: what was asked last, of the map as it is, is answered (no program in sight). -/
namespace Go.Proofs.YtokfcjgfpchffaaGreatDoor.Ft
open Go.Proofs.YtokfcjgfpchffaaGreatDoor Go.Proofs.YtokfcjgfpchffaaGreatDoor.Md Go.Proofs.YtokfcjgfpchffaaGreatDoor.Nd

/-- It never stands still at a layer of which all parts are answered. -/
def Settled (ms : List Ly) (s : St) : Prop := s.lay < ms.length → ¬ whole s
def AskFor (s : St) (p : Pt) (m : Wx.Msg) : Prop := m = askOf s.e s.h s.lay s.toks p
def TellFor (dim : Int) (s : St) (p : Pt) (m : Wx.Msg) : Prop := m.to = 0 ∧ m.kind = 2 ∧ m.batch = 1 ∧ m.layer = s.lay ∧ m.token = p.1 ∧ m.rank = p.2.1 ∧ m.expert = p.2.2.1 ∧ (m.vec.length : Int) = dim
/-- Each part that was not answered yet was asked of the map as it is, or is told of. -/
def Live (dim : Int) (ms : List Ly) (s : St) : Prop := s.lay < ms.length → ∀ j, j < (ps ms s).length → s.ans.getD j (some []) = none → ∃ m ∈ s.bag, AskFor s ((ps ms s).getD j pt0) m ∨ TellFor dim s ((ps ms s).getD j pt0) m
def Room (ms : List Ly) (s : St) : Prop := s.bag.length + 32 * (ms.length - s.lay) ≤ 200
theorem puts_all {xs b : List Wx.Msg} (h : b.length + xs.length ≤ 200) : puts b xs = b ++ xs := by
  induction xs generalizing b with
  | nil => exact (List.append_nil b).symm
  | cons m xs ih =>
    rw [List.length_cons] at h
    have hp : put b m = b ++ [m] := if_pos (by omega)
    show puts (put b m) xs = _
    rw [hp, ih (by rw [List.length_append]; simp; omega), List.append_assoc]
    rfl
theorem puts_few (xs b : List Wx.Msg) : (puts b xs).length ≤ b.length + xs.length := by
  induction xs generalizing b with
  | nil => exact Nat.le_refl _
  | cons m xs ih =>
    have h1 := ih (put b m)
    have h2 : (put b m).length ≤ b.length + 1 := by unfold put; split <;> simp
    show (puts (put b m) xs).length ≤ _
    rw [List.length_cons]
    omega
theorem put_sub {b : List Wx.Msg} {m x : Wx.Msg} (h : x ∈ b) : x ∈ put b m := by
  unfold put
  split
  · exact List.mem_append_left _ h
  · exact h
theorem left_has {l : List Pt} {an : List (Option (List Int))} {j : Nat} (hj : j < l.length) (hn : an.length = l.length) (h : an.getD j (some []) = none) : l.getD j pt0 ∈ left l an := by
  have hj2 : j < an.length := by omega
  rw [List.getD_eq_getElem?_getD, List.getElem?_eq_getElem hj2] at h
  replace h : an[j] = none := h
  unfold left
  refine List.mem_filterMap.2 ⟨(l[j], an[j]), ?_, by rw [if_pos h, get_of hj]⟩
  have : (l.zip an)[j]'(by rw [List.length_zip]; omega) = (l[j], an[j]) := List.getElem_zip
  rw [← this]
  exact List.getElem_mem _
theorem parts_inj {l : Ly} {ts : List (List Int)} {i j : Nat} (hi : i < (parts l ts).length) (hj : j < (parts l ts).length) (h1 : ((parts l ts).getD i pt0).1 = ((parts l ts).getD j pt0).1) (h2 : ((parts l ts).getD i pt0).2.1 = ((parts l ts).getD j pt0).2.1) : i = j := by
  have hr : (parts l ts).Pairwise (fun p q => at2 p < at2 q) := rises l ts (ts.length * 2)
  have hw := List.pairwise_iff_getElem.1 hr
  rw [get_of hi, get_of hj] at h1 h2
  have e : at2 (parts l ts)[i] = at2 (parts l ts)[j] := by unfold at2; rw [h1, h2]
  rcases Nat.lt_trichotomy i j with h | h | h
  · have := hw i j hi hj h; omega
  · exact h
  · have := hw j i hj hi h; omega
theorem slotOf_none {l : List Pt} {an : List (Option (List Int))} {m : Wx.Msg} (h : slotOf l an m = none) {j : Nat} (hj : j < l.length) (h1 : (l.getD j pt0).1 = m.token) (h2 : (l.getD j pt0).2.1 = m.rank) (h3 : (l.getD j pt0).2.2.1 = m.expert) : an.getD j (some []) ≠ none := by
  intro h4
  unfold slotOf at h
  have := List.find?_eq_none.1 h j (List.mem_range.2 hj)
  exact this (by simp only [decide_eq_true_eq]; exact ⟨h1, h2, h3, h4⟩)
section
variable {dim : Int} {ms : List Ly} {T : List (List Int)} {s : St}
theorem ask_ans (ms : List Ly) (s : St) : (ask ms s).ans = s.ans ∧ (ask ms s).lay = s.lay ∧ (ask ms s).toks = s.toks ∧ (ask ms s).e = s.e ∧ (ask ms s).h = s.h ∧ (ask ms s).ls = s.ls := by
  unfold ask
  split <;> exact ⟨rfl, rfl, rfl, rfl, rfl, rfl⟩
theorem ask_settled (h : Settled ms s) : Settled ms (ask ms s) := by
  obtain ⟨h1, h2, _⟩ := ask_ans ms s
  intro hl hw
  rw [h2] at hl
  exact h hl fun x hx => hw x (by rw [h1]; exact hx)
theorem enter_settled (hR : Right dim ms) {toks : List (List Int)} (ht : TRight dim toks) (lay : Nat) : Settled ms (enter ms s toks lay) := by
  refine ask_settled ?_
  intro hl hw
  replace hl : lay < ms.length := hl
  have hp := parts_some (ly_right hR hl) ht
  have hm : (none : Option (List Int)) ∈ (at0 ms s toks lay).ans := by
    show none ∈ (if lay < ms.length then _ else _ : List (Option (List Int)))
    rw [if_pos hl]
    exact List.mem_replicate.2 ⟨by omega, rfl⟩
  exact hw none hm rfl
theorem on_settled (h : Inv dim ms T s) (hR : Right dim ms) (hT : TRight dim T) : Settled ms (on ms s) := by
  unfold on
  by_cases hc : s.lay < ms.length ∧ whole s
  · rw [if_pos hc]
    refine enter_settled hR ?_ _
    rw [h.all hc.1 hc.2]
    have := combine_step (ly_right hR hc.1) (by rw [h.toks]; exact tl_right hR hT _ : TRight dim s.toks)
    show TRight dim (combine s.toks (parts (ms.getD s.lay ly0) s.toks) (answers (ms.getD s.lay ly0) s.toks (parts (ms.getD s.lay ly0) s.toks)))
    rw [this]
    exact step_right (ly_right hR hc.1) (by rw [h.toks]; exact tl_right hR hT _)
  · rw [if_neg hc]
    exact fun hl hw => hc ⟨hl, hw⟩
/-- The state behind an answer that is taken. -/
theorem Inv.told (h : Inv dim ms T s) {m : Wx.Msg} (hm : Good ms T s.lay m) (h2 : m.to = 0 ∧ m.kind = 2 ∧ m.batch = 1 ∧ s.lay < ms.length ∧ m.layer = s.lay ∧ (m.vec.length : Int) = dim) {j : Nat} (hs : slotOf (ps ms s) s.ans m = some j) : Inv dim ms T { s with ans := s.ans.set j (some m.vec) } := by
  obtain ⟨hj, k1, k2, _, _⟩ := slotOf_some hs
  obtain ⟨L, p, _, hp, ha, hvec⟩ := hm.2.2 h2.2.1
  obtain rfl : L = s.lay := by have := ha.2.1; have := h2.2.2.2.2.1; omega
  have hq := h.part h2.2.2.2.1 (in_of hj pt0)
  obtain rfl : p = (ps ms s).getD j pt0 := hp.one hq (by rw [k1, ha.2.2.1]) (by rw [k2, ha.2.2.2.1])
  refine ⟨h.lay, h.toks, h.map, h.wide, h.len, h.led, h.bag, h.few, ?_, fun i v hv => ?_⟩
  · show (s.ans.set j (some m.vec)).length = _
    rw [List.length_set]; exact h.many
  · replace hv : (s.ans.set j (some m.vec))[i]? = some (some v) := hv
    by_cases hij : i = j
    · subst hij
      rw [List.getElem?_set] at hv
      rw [if_pos rfl] at hv
      split at hv
      · have := Option.some.inj (Option.some.inj hv)
        rw [← this]; exact hvec
      · cases hv
    · rw [List.getElem?_set_ne (Ne.symm hij)] at hv
      exact h.ans i v hv
theorem took_settled (h : Inv dim ms T s) (hR : Right dim ms) (hT : TRight dim T) {m : Wx.Msg} (hm : Good ms T s.lay m) (hs : Settled ms s) : Settled ms (took dim ms s m) := by
  unfold took
  by_cases h1 : 1 ≤ m.to ∧ m.to ≤ 4
  · rw [if_pos h1]
    split
    · exact hs
    · exact hs
  · rw [if_neg h1]
    by_cases h2 : m.to = 0 ∧ m.kind = 2 ∧ m.batch = 1 ∧ s.lay < ms.length ∧ m.layer = s.lay ∧ (m.vec.length : Int) = dim
    · rw [if_pos h2]
      cases hso : slotOf (ps ms s) s.ans m with
      | none => exact hs
      | some j => exact on_settled (h.told hm h2 hso) hR hT
    · rw [if_neg h2]; exact hs
theorem deliver_settled (h : Inv dim ms T s) (hR : Right dim ms) (hT : TRight dim T) (hs : Settled ms s) (i : Nat) : Settled ms (deliver dim ms s i) := by
  unfold deliver
  by_cases hi : i < s.bag.length
  · rw [if_pos hi]
    exact took_settled (h.drop i) hR hT (h.bag _ (in_of hi Wx.zero)) hs
  · rw [if_neg hi]; exact hs
theorem start_settled (hR : Right dim ms) (hT : TRight dim T) (e : Int) (hh : List (List Int)) : Settled ms (start ms e hh T) := enter_settled hR hT 0
theorem twice_settled (hs : Settled ms s) (i : Nat) : Settled ms (twice s i) := by
  unfold twice
  split
  · exact hs
  · exact hs

/-! ### What was asked last is answered -/
theorem ask_live (h : Inv dim ms T s) (hR : Right dim ms) (hT : TRight dim T) (hb : s.bag.length + 32 ≤ 200) : Live dim ms (ask ms s) := by
  obtain ⟨k1, k2, k3, k4, k5, _⟩ := ask_ans ms s
  intro hl j hj hn
  rw [k2] at hl
  have hps : ps ms (ask ms s) = ps ms s := by unfold ps lyAt; rw [k2, k3]
  rw [hps] at hj ⊢
  rw [k1] at hn
  have hlen : s.ans.length = (ps ms s).length := by have := h.many; rw [if_pos hl] at this; exact this
  have hmem := left_has hj hlen hn
  have hfew := left_len (ps ms s) s.ans
  have hp32 := ps_few h hR hT
  refine ⟨askOf s.e s.h s.lay s.toks ((ps ms s).getD j pt0), ?_, .inl (by unfold AskFor; rw [k2, k3, k4, k5])⟩
  unfold ask
  rw [if_pos hl]
  show _ ∈ puts s.bag _
  rw [puts_all (by rw [List.length_map]; omega)]
  exact List.mem_append_right _ (List.mem_map.2 ⟨_, hmem, rfl⟩)
theorem ask_room (hR : Right dim ms) (hb : s.bag = []) (hp : (ps ms s).length ≤ 32) : Room ms (ask ms s) := by
  have h4 := hR.2.2.2.1
  have hf := left_len (ps ms s) s.ans
  unfold Room ask
  split
  · have := puts_few ((left (ps ms s) s.ans).map (askOf s.e s.h s.lay s.toks)) s.bag
    rw [List.length_map, hb] at this
    show (puts s.bag _).length + 32 * (ms.length - s.lay) ≤ 200
    rw [hb]
    have h0 : ([] : List Wx.Msg).length = 0 := rfl
    omega
  · rw [hb]; show 0 + 32 * (ms.length - s.lay) ≤ 200; omega
theorem at0_inv (h : Inv dim ms T s) {lay : Nat} (h1 : s.lay ≤ lay) (h2 : lay ≤ ms.length) {toks : List (List Int)} (ht : toks = tl ms T lay) : Inv dim ms T (at0 ms s toks lay) := by
  refine ⟨h2, ht, h.map, h.wide, h.len, fun l hl x hx => (h.led l hl x hx).mono h1, fun m hm => (h.bag m hm).mono h1, h.few, ?_, fun j v hv => ?_⟩
  · show (if lay < ms.length then _ else _ : List (Option (List Int))).length = if lay < ms.length then (parts (ms.getD lay ly0) toks).length else 0
    by_cases hl : lay < ms.length
    · rw [if_pos hl, if_pos hl, List.length_replicate]
    · rw [if_neg hl, if_neg hl]; rfl
  · replace hv : (if lay < ms.length then List.replicate (parts (ms.getD lay ly0) toks).length (none : Option (List Int)) else [])[j]? = some (some v) := hv
    by_cases hl : lay < ms.length
    · rw [if_pos hl] at hv
      have := List.eq_of_mem_replicate (List.mem_of_getElem? hv)
      cases this
    · rw [if_neg hl] at hv; simp at hv
theorem on_live (h : Inv dim ms T s) (hR : Right dim ms) (hT : TRight dim T) (hr : Room ms s) (hl : Live dim ms s) : Live dim ms (on ms s) ∧ Room ms (on ms s) := by
  unfold on
  by_cases hc : s.lay < ms.length ∧ whole s
  · rw [if_pos hc]
    have hto : combine s.toks (ps ms s) (s.ans.map fun x => x.getD []) = tl ms T (s.lay + 1) := by
      rw [h.all hc.1 hc.2, tl_next hc.1, ← h.toks]
      exact combine_step (ly_right hR hc.1) (by rw [h.toks]; exact tl_right hR hT _)
    have hi : Inv dim ms T (at0 ms s (combine s.toks (ps ms s) (s.ans.map fun x => x.getD [])) (s.lay + 1)) := at0_inv h (Nat.le_succ _) hc.1 hto
    have hr' := hr
    unfold Room at hr'
    refine ⟨ask_live hi hR hT (by show s.bag.length + 32 ≤ 200; omega), ?_⟩
    have hp := ps_few hi hR hT
    have hf := left_len (ps ms (at0 ms s (combine s.toks (ps ms s) (s.ans.map fun x => x.getD [])) (s.lay + 1))) (at0 ms s (combine s.toks (ps ms s) (s.ans.map fun x => x.getD [])) (s.lay + 1)).ans
    unfold Room enter ask
    split
    · have := puts_few ((left (ps ms (at0 ms s (combine s.toks (ps ms s) (s.ans.map fun x => x.getD [])) (s.lay + 1))) (at0 ms s (combine s.toks (ps ms s) (s.ans.map fun x => x.getD [])) (s.lay + 1)).ans).map (askOf s.e s.h (s.lay + 1) (combine s.toks (ps ms s) (s.ans.map fun x => x.getD [])))) s.bag
      rw [List.length_map] at this
      have h9 : (puts s.bag ((left (ps ms (at0 ms s (combine s.toks (ps ms s) (s.ans.map fun x => x.getD [])) (s.lay + 1))) (at0 ms s (combine s.toks (ps ms s) (s.ans.map fun x => x.getD [])) (s.lay + 1)).ans).map (askOf s.e s.h (s.lay + 1) (combine s.toks (ps ms s) (s.ans.map fun x => x.getD []))))).length + 32 * (ms.length - (s.lay + 1)) ≤ 200 := by omega
      exact h9
    · show s.bag.length + 32 * (ms.length - (s.lay + 1)) ≤ 200
      omega
  · rw [if_neg hc]; exact ⟨hl, hr⟩
theorem ask_fits (h : Inv dim ms T s) (hR : Right dim ms) (hT : TRight dim T) {p : Pt} (hp : Part ms T s.lay p) : (1 ≤ (askOf s.e s.h s.lay s.toks p).to ∧ (askOf s.e s.h s.lay s.toks p).to ≤ 4) ∧ Fits dim ms s.e s.h (askOf s.e s.h s.lay s.toks p).to (askOf s.e s.h s.lay s.toks p) ∧ Held s.e s.h (askOf s.e s.h s.lay s.toks p).to (askOf s.e s.h s.lay s.toks p) := by
  have hg := ask_good hR hT h.map h.wide hp
  rw [← h.toks] at hg
  have hi := hp.is hR hT
  have hwl := h.wide _ (in_of hp.1 ly0)
  have hrow := h.map.row (i := p.2.2.1.toNat) (by omega)
  have hk := Pl.pick_holds hrow (p.1 + p.2.1).toNat
  have hkr := hrow.2.1 _ hk
  have htt : TRight dim s.toks := by rw [h.toks]; exact tl_right hR hT _
  have htl : s.toks = tl ms T s.lay := h.toks
  have hl := hp.1
  refine ⟨hkr, ⟨hR, h.map, hg.1, rfl, rfl, ?_, ?_, ?_⟩, rfl, ⟨hi.2.2.2.2.1, ?_⟩, hk⟩
  · show ((s.lay : Nat) : Int) < (ms.length : Int); omega
  · show p.2.2.1 < ((ms.getD ((s.lay : Nat) : Int).toNat ly0).2.1.length : Int)
    rw [Int.toNat_natCast]
    exact hi.2.2.2.2.2
  · show TRight dim [s.toks.getD p.1.toNat []]
    exact htt.one (by rw [htl]; omega)
  · show p.2.2.1 < (s.h.length : Int); omega
theorem deliver_live (h : Inv dim ms T s) (hR : Right dim ms) (hT : TRight dim T) (hl : Live dim ms s) (hr : Room ms s) (hb : s.bag ≠ []) : Live dim ms (deliver dim ms s 0) ∧ Room ms (deliver dim ms s 0) := by
  cases hs : s.bag with
  | nil => exact absurd hs hb
  | cons m b =>
    have hdel : deliver dim ms s 0 = took dim ms { s with bag := b } m := by
      unfold deliver
      rw [if_pos (List.length_pos_iff.2 hb)]
      unfold drop
      rw [hs]
      rfl
    rw [hdel]
    have hI : Inv dim ms T { s with bag := b } := by
      have := h.drop 0
      unfold drop at this
      rw [hs] at this
      exact this
    have hm : Good ms T s.lay m := h.bag m (by rw [hs]; exact List.mem_cons_self ..)
    have hlen : b.length + 1 + 32 * (ms.length - s.lay) ≤ 200 := by unfold Room at hr; rw [hs, List.length_cons] at hr; exact hr
    have hfrom : s.lay < ms.length → ∀ j, j < (ps ms s).length → s.ans.getD j (some []) = none → (∃ x ∈ b, AskFor s ((ps ms s).getD j pt0) x ∨ TellFor dim s ((ps ms s).getD j pt0) x) ∨ AskFor s ((ps ms s).getD j pt0) m ∨ TellFor dim s ((ps ms s).getD j pt0) m := fun h1 j h2 h3 => by
      obtain ⟨x, hx, hor⟩ := hl h1 j h2 h3
      rw [hs] at hx
      rcases List.mem_cons.1 hx with rfl | hx
      · exact .inr hor
      · exact .inl ⟨x, hx, hor⟩
    unfold took
    by_cases h1 : 1 ≤ m.to ∧ m.to ≤ 4
    · rw [if_pos h1]
      -- what is said is put in, as there is room
      have hsay : ∀ (l : List En) (out : Wx.Msg), (∀ j, s.lay < ms.length → j < (ps ms s).length → AskFor s ((ps ms s).getD j pt0) m → TellFor dim s ((ps ms s).getD j pt0) out) →
          Live dim ms { s with ls := s.ls.set (m.to - 1).toNat l, bag := put b out } ∧ Room ms { s with ls := s.ls.set (m.to - 1).toNat l, bag := put b out } := fun l out hout => by
        have hp : put b out = b ++ [out] := if_pos (by omega)
        refine ⟨fun k1 j k2 k3 => ?_, ?_⟩
        · rcases hfrom k1 j k2 k3 with ⟨x, hx, hor⟩ | hor | hor
          · exact ⟨x, put_sub hx, hor⟩
          · exact ⟨out, by show out ∈ put b out; rw [hp]; simp, .inr (hout j k1 k2 hor)⟩
          · have := hor.1; omega
        · show (put b out).length + 32 * (ms.length - s.lay) ≤ 200
          rw [hp, List.length_append]
          show b.length + 1 + 32 * (ms.length - s.lay) ≤ 200
          exact hlen
      have hfit : ∀ j, s.lay < ms.length → j < (ps ms s).length → AskFor s ((ps ms s).getD j pt0) m → Part ms T s.lay ((ps ms s).getD j pt0) ∧ Fits dim ms s.e s.h m.to m ∧ Held s.e s.h m.to m := fun j k1 k2 ha => by
        have hp := h.part k1 (in_of k2 pt0)
        have := ask_fits h hR hT hp
        unfold AskFor at ha
        rw [← ha] at this
        exact ⟨hp, this.2⟩
      have htell : ∀ (v : List Int) j, s.lay < ms.length → j < (ps ms s).length → AskFor s ((ps ms s).getD j pt0) m → (v.length : Int) = dim → TellFor dim s ((ps ms s).getD j pt0) (reply s.e m.to m 2 v) := fun v j _ _ ha hv => by
        unfold AskFor at ha
        rw [ha]
        exact ⟨rfl, rfl, rfl, rfl, rfl, rfl, rfl, hv⟩
      rcases work_ways dim ms s.e s.h m.to (s.ls.getD (m.to - 1).toNat []) m with ⟨hf, e⟩ | ⟨hf, hh, e⟩ | ⟨hf, hh, v, hg, e⟩ | ⟨hf, hh, hg, e⟩
      · show Live dim ms (match work dim ms s.e s.h m.to (s.ls.getD (m.to - 1).toNat []) m with | none => _ | some (l, out) => _) ∧ Room ms (match work dim ms s.e s.h m.to (s.ls.getD (m.to - 1).toNat []) m with | none => _ | some (l, out) => _)
        rw [e]
        refine ⟨fun k1 j k2 k3 => ?_, by show b.length + 32 * (ms.length - s.lay) ≤ 200; omega⟩
        rcases hfrom k1 j k2 k3 with hx | hor | hor
        · exact hx
        · exact absurd (hfit j k1 k2 hor).2.1 hf
        · have := hor.1; omega
      · show Live dim ms (match work dim ms s.e s.h m.to (s.ls.getD (m.to - 1).toNat []) m with | none => _ | some (l, out) => _) ∧ Room ms (match work dim ms s.e s.h m.to (s.ls.getD (m.to - 1).toNat []) m with | none => _ | some (l, out) => _)
        rw [e]
        exact hsay _ _ fun j k1 k2 ha => absurd (hfit j k1 k2 ha).2.2 hh
      · show Live dim ms (match work dim ms s.e s.h m.to (s.ls.getD (m.to - 1).toNat []) m with | none => _ | some (l, out) => _) ∧ Room ms (match work dim ms s.e s.h m.to (s.ls.getD (m.to - 1).toNat []) m with | none => _ | some (l, out) => _)
        rw [e]
        refine hsay _ _ fun j k1 k2 ha => htell v j k1 k2 ha ?_
        obtain ⟨x, hx, _, hv⟩ := got_mem hg
        obtain ⟨L, p, _, hp, _, hv2⟩ := h.ledger _ x hx
        rw [← hv, hv2]
        exact makes_len hR hT hp
      · show Live dim ms (match work dim ms s.e s.h m.to (s.ls.getD (m.to - 1).toNat []) m with | none => _ | some (l, out) => _) ∧ Room ms (match work dim ms s.e s.h m.to (s.ls.getD (m.to - 1).toNat []) m with | none => _ | some (l, out) => _)
        rw [e]
        refine hsay _ _ fun j k1 k2 ha => htell _ j k1 k2 ha ?_
        have h5 := hf.vec
        have h6 := hf.low
        have h7 := hf.2.2.2.2.2.2.1
        rw [ans_len hf.layer.2 h5.1 h6.2.1 h7]
        exact h5.1
    · rw [if_neg h1]
      have hnoask : ∀ j, s.lay < ms.length → j < (ps ms s).length → ¬ AskFor s ((ps ms s).getD j pt0) m := fun j k1 k2 ha => by
        have := (ask_fits h hR hT (h.part k1 (in_of k2 pt0))).1
        unfold AskFor at ha
        rw [← ha] at this
        exact h1 this
      by_cases h2 : m.to = 0 ∧ m.kind = 2 ∧ m.batch = 1 ∧ s.lay < ms.length ∧ m.layer = s.lay ∧ (m.vec.length : Int) = dim
      · show Live dim ms (if m.to = 0 ∧ m.kind = 2 ∧ m.batch = 1 ∧ s.lay < ms.length ∧ m.layer = s.lay ∧ (m.vec.length : Int) = dim then _ else _) ∧ Room ms (if m.to = 0 ∧ m.kind = 2 ∧ m.batch = 1 ∧ s.lay < ms.length ∧ m.layer = s.lay ∧ (m.vec.length : Int) = dim then _ else _)
        rw [if_pos h2]
        show Live dim ms (match slotOf (ps ms s) s.ans m with | none => _ | some j => _) ∧ Room ms (match slotOf (ps ms s) s.ans m with | none => _ | some j => _)
        cases hso : slotOf (ps ms s) s.ans m with
        | none =>
          refine ⟨fun k1 j k2 k3 => ?_, by show b.length + 32 * (ms.length - s.lay) ≤ 200; omega⟩
          rcases hfrom k1 j k2 k3 with hx | hor | hor
          · exact hx
          · exact absurd hor (hnoask j k1 k2)
          · exact absurd k3 (slotOf_none hso k2 hor.2.2.2.2.1.symm hor.2.2.2.2.2.1.symm hor.2.2.2.2.2.2.1.symm)
        | some j0 =>
          obtain ⟨hj0, e1, e2, _, _⟩ := slotOf_some hso
          have hI2 := hI.told hm h2 hso
          refine on_live hI2 hR hT (by show b.length + 32 * (ms.length - s.lay) ≤ 200; omega) fun k1 j k2 k3 => ?_
          have k3' : (s.ans.set j0 (some m.vec)).getD j (some []) = none := k3
          have hne : j ≠ j0 := fun e => by
            subst e
            rw [List.getD_eq_getElem?_getD, List.getElem?_set] at k3'
            rw [if_pos rfl] at k3'
            split at k3' <;> cases k3'
          rw [List.getD_eq_getElem?_getD, List.getElem?_set_ne (Ne.symm hne), ← List.getD_eq_getElem?_getD] at k3'
          rcases hfrom k1 j k2 k3' with hx | hor | hor
          · exact hx
          · exact absurd hor (hnoask j k1 k2)
          · exact absurd (parts_inj k2 hj0 (hor.2.2.2.2.1.symm.trans e1.symm) (hor.2.2.2.2.2.1.symm.trans e2.symm)) hne
      · show Live dim ms (if m.to = 0 ∧ m.kind = 2 ∧ m.batch = 1 ∧ s.lay < ms.length ∧ m.layer = s.lay ∧ (m.vec.length : Int) = dim then _ else _) ∧ Room ms (if m.to = 0 ∧ m.kind = 2 ∧ m.batch = 1 ∧ s.lay < ms.length ∧ m.layer = s.lay ∧ (m.vec.length : Int) = dim then _ else _)
        rw [if_neg h2]
        refine ⟨fun k1 j k2 k3 => ?_, by show b.length + 32 * (ms.length - s.lay) ≤ 200; omega⟩
        rcases hfrom k1 j k2 k3 with hx | hor | hor
        · exact hx
        · exact absurd hor (hnoask j k1 k2)
        · exact absurd ⟨hor.1, hor.2.1, hor.2.2.1, k1, hor.2.2.2.1, hor.2.2.2.2.2.2.2⟩ h2
theorem run_live (h : Inv dim ms T s) (hR : Right dim ms) (hT : TRight dim T) (hl : Live dim ms s) (hr : Room ms s) (k : Nat) : Live dim ms (run dim ms k s) ∧ Room ms (run dim ms k s) := by
  induction k with
  | zero => exact ⟨hl, hr⟩
  | succ k ih =>
    show Live dim ms (deliver dim ms (run dim ms k s) 0) ∧ Room ms (deliver dim ms (run dim ms k s) 0)
    by_cases hb : (run dim ms k s).bag = []
    · have : deliver dim ms (run dim ms k s) 0 = run dim ms k s := by unfold deliver; rw [if_neg (by rw [hb]; simp)]
      rw [this]; exact ih
    · exact deliver_live (run_inv h hR hT k) hR hT ih.1 ih.2 hb
theorem run_settled (h : Inv dim ms T s) (hR : Right dim ms) (hT : TRight dim T) (hs : Settled ms s) (k : Nat) : Settled ms (run dim ms k s) := by
  induction k with
  | zero => exact hs
  | succ k ih => exact deliver_settled (run_inv h hR hT k) hR hT ih 0
/-- A fleet that is live, and has no frame, is done. -/
theorem live_done (h : Inv dim ms T s) (hl : Live dim ms s) (hs : Settled ms s) (hb : s.bag = []) : ¬ s.lay < ms.length := by
  intro k1
  refine hs k1 fun x hx hn => ?_
  obtain ⟨j, hj, rfl⟩ := List.mem_iff_getElem.1 hx
  have hlen : s.ans.length = (ps ms s).length := by have := h.many; rw [if_pos k1] at this; exact this
  obtain ⟨m, hm, _⟩ := hl k1 j (by omega) (by rw [List.getD_eq_getElem?_getD, List.getElem?_eq_getElem hj]; exact hn)
  rw [hb] at hm
  cases hm
/-- Asked once more, with an empty bag, and played to its end, it is done. -/
theorem ask_ends (h : Inv dim ms T s) (hR : Right dim ms) (hT : TRight dim T) (hs : Settled ms s) (hb : s.bag = []) {k : Nat} (hk : 657 ≤ k) : ¬ (run dim ms k (ask ms s)).lay < ms.length := by
  have hi := h.ask hR hT
  have hl := ask_live h hR hT (by rw [hb]; simp)
  have hr := ask_room hR hb (ps_few h hR hT)
  exact live_done (run_inv hi hR hT k) (run_live hi hR hT hl hr k).1 (run_settled hi hR hT (ask_settled hs) k) (run_ends hi hR hT hk)
end
end Go.Proofs.YtokfcjgfpchffaaGreatDoor.Ft

/- How much a fleet works out: of one key a node has one entry (no program in sight). -/
namespace Go.Proofs.YtokfcjgfpchffaaGreatDoor.Ft
open Go.Proofs.YtokfcjgfpchffaaGreatDoor Go.Proofs.YtokfcjgfpchffaaGreatDoor.Md Go.Proofs.YtokfcjgfpchffaaGreatDoor.Nd

theorem nodup_lt : ∀ (N : Nat) (l : List Nat), l.Nodup → (∀ x ∈ l, x < N) → l.length ≤ N
  | 0, l, _, h => by
    cases l with
    | nil => exact Nat.le_refl _
    | cons x l => exact absurd (h x (List.mem_cons_self ..)) (Nat.not_lt_zero _)
  | N + 1, l, hn, h => by
    have h1 := nodup_lt N (l.erase N) (hn.erase N) fun x hx => by
      have h2 := hn.mem_erase_iff.1 hx
      have := h x h2.2
      have := h2.1
      omega
    rw [List.length_erase] at h1
    split at h1 <;> omega

/-- Of one key one entry. -/
def Uniq (l : List En) : Prop := l.Pairwise fun x y => x.1 ≠ y.1
theorem uniq_new {l : List En} (h : Uniq l) {k : Ky} (hg : got l k = none) (v : List Int) : Uniq (l ++ [en k v]) := by
  refine List.pairwise_append.2 ⟨h, by simp, fun x hx y hy => ?_⟩
  rw [List.mem_singleton.1 hy]
  exact got_none hg x hx
def Lone (s : St) : Prop := ∀ l ∈ s.ls, Uniq l
def worked (s : St) : Nat := (s.ls.map List.length).sum
section
variable {dim : Int} {ms : List Ly} {T : List (List Int)} {s : St}
theorem lone_at (h : Lone s) (j : Nat) : Uniq (s.ls.getD j []) := by
  by_cases hj : j < s.ls.length
  · exact h _ (in_of hj [])
  · rw [List.getD_eq_getElem?_getD, List.getElem?_eq_none (by omega)]
    exact List.Pairwise.nil
theorem lone_set (h : Lone s) (j : Nat) {l : List En} (hl : Uniq l) (b : List Wx.Msg) : Lone { s with ls := s.ls.set j l, bag := b } := fun k hk => by
  rcases List.mem_or_eq_of_mem_set hk with h1 | h1
  · exact h k h1
  · rw [h1]; exact hl
theorem lone_ask (h : Lone s) : Lone (ask ms s) := by
  have := (ask_ans ms s).2.2.2.2.2
  intro l hl
  rw [this] at hl
  exact h l hl
theorem lone_on (h : Lone s) : Lone (on ms s) := by
  unfold on
  split
  · exact lone_ask (s := at0 ms s _ _) h
  · exact h
theorem lone_took (h : Lone s) (m : Wx.Msg) : Lone (took dim ms s m) := by
  unfold took
  by_cases h1 : 1 ≤ m.to ∧ m.to ≤ 4
  · rw [if_pos h1]
    rcases work_ways dim ms s.e s.h m.to (s.ls.getD (m.to - 1).toNat []) m with ⟨_, e⟩ | ⟨hf, _, e⟩ | ⟨hf, _, v, hg, e⟩ | ⟨hf, _, hg, e⟩
    · rw [e]; exact h
    · rw [e]; exact lone_set h _ (lone_at h _) _
    · rw [e]; exact lone_set h _ (lone_at h _) _
    · rw [e]; exact lone_set h _ (uniq_new (lone_at h _) hg _) _
  · rw [if_neg h1]
    split
    · split
      · exact h
      · rename_i j _
        exact lone_on (s := { s with ans := s.ans.set j (some m.vec) }) h
    · exact h
theorem lone_deliver (h : Lone s) (i : Nat) : Lone (deliver dim ms s i) := by
  unfold deliver
  split
  · exact lone_took (s := drop s i) h _
  · exact h
theorem lone_start (e : Int) (hh : List (List Int)) : Lone (start ms e hh T) := by
  refine lone_ask ?_
  intro l hl
  have hl' : l ∈ ([[], [], [], []] : List (List En)) := hl
  have : l = [] := by simpa using hl'
  rw [this]
  exact List.Pairwise.nil
theorem lone_run (h : Lone s) (k : Nat) : Lone (run dim ms k s) := by
  induction k with
  | zero => exact h
  | succ k ih => exact lone_deliver ih 0
/-- The number of a key. -/
def code (tn : Nat) (x : En) : Nat := (x.1.2.1.toNat * tn + x.1.2.2.1.toNat) * 2 + x.1.2.2.2.1.toNat
theorem entry_code (hR : Right dim ms) (hT : TRight dim T) {n : Nat} {x : En} (h : Entry ms T n x) : ∃ L t r : Nat, x.1 = ky 1 L t r ∧ L < ms.length ∧ t < T.length ∧ r ≤ 1 := by
  obtain ⟨L, p, _, hp, hk, _⟩ := h
  have hi := hp.is hR hT
  have ht : (tl ms T L).length = T.length := forward_len _ _
  refine ⟨L, p.1.toNat, p.2.1.toNat, ?_, hp.1, by omega, by omega⟩
  rw [hk, ky_eq]
  exact ⟨rfl, rfl, by omega, by omega⟩
theorem code_lt (hR : Right dim ms) (hT : TRight dim T) {n : Nat} {x : En} (h : Entry ms T n x) : code T.length x < ms.length * T.length * 2 := by
  obtain ⟨L, t, r, hk, h1, h2, h3⟩ := entry_code hR hT h
  have h4 : (L + 1) * T.length ≤ ms.length * T.length := Nat.mul_le_mul_right _ h1
  rw [Nat.add_mul, Nat.one_mul] at h4
  unfold code
  rw [hk]
  show (((L : Nat) : Int).toNat * T.length + ((t : Nat) : Int).toNat) * 2 + ((r : Nat) : Int).toNat < _
  rw [Int.toNat_natCast, Int.toNat_natCast, Int.toNat_natCast]
  generalize L * T.length = a at *
  generalize ms.length * T.length = b at *
  omega
theorem code_inj (hR : Right dim ms) (hT : TRight dim T) {n : Nat} {x y : En} (hx : Entry ms T n x) (hy : Entry ms T n y) (h : code T.length x = code T.length y) : x.1 = y.1 := by
  obtain ⟨L, t, r, hk, h1, h2, h3⟩ := entry_code hR hT hx
  obtain ⟨L2, t2, r2, hk2, k1, k2, k3⟩ := entry_code hR hT hy
  unfold code at h
  rw [hk, hk2] at h
  replace h : (((L : Nat) : Int).toNat * T.length + ((t : Nat) : Int).toNat) * 2 + ((r : Nat) : Int).toNat = (((L2 : Nat) : Int).toNat * T.length + ((t2 : Nat) : Int).toNat) * 2 + ((r2 : Nat) : Int).toNat := h
  simp only [Int.toNat_natCast] at h
  have e1 : L * T.length + t = L2 * T.length + t2 := by omega
  have e2 : r = r2 := by omega
  have e3 : L = L2 := by
    have a1 : (L * T.length + t) / T.length = L := by rw [Nat.add_comm, Nat.add_mul_div_right _ _ (by omega), Nat.div_eq_of_lt h2]; omega
    have a2 : (L2 * T.length + t2) / T.length = L2 := by rw [Nat.add_comm, Nat.add_mul_div_right _ _ (by omega), Nat.div_eq_of_lt k2]; omega
    rw [← a1, e1, a2]
  subst e3
  subst e2
  have e4 : t = t2 := by omega
  subst e4
  rw [hk, hk2]
theorem ledger_few (hR : Right dim ms) (hT : TRight dim T) {n : Nat} {l : List En} (hu : Uniq l) (he : ∀ x ∈ l, Entry ms T n x) : l.length ≤ ms.length * T.length * 2 := by
  have h1 : (l.map (code T.length)).Nodup := by
    refine List.pairwise_map.2 (List.Pairwise.imp_of_mem ?_ hu)
    intro x y hx hy hne h
    exact hne (code_inj hR hT (he x hx) (he y hy) h)
  have := nodup_lt _ _ h1 fun k hk => by
    obtain ⟨x, hx, rfl⟩ := List.mem_map.1 hk
    exact code_lt hR hT (he x hx)
  rwa [List.length_map] at this
theorem sum_le {B : Nat} : ∀ l : List (List En), (∀ x ∈ l, x.length ≤ B) → (l.map List.length).sum ≤ l.length * B
  | [], _ => by simp
  | x :: l, h => by
    have h1 := sum_le l fun y hy => h y (List.mem_cons_of_mem _ hy)
    have h2 := h x (List.mem_cons_self ..)
    rw [List.map_cons, List.sum_cons, List.length_cons, Nat.add_mul, Nat.one_mul]
    omega
theorem worked_few (h : Inv dim ms T s) (hR : Right dim ms) (hT : TRight dim T) (hl : Lone s) : worked s ≤ 4 * (ms.length * T.length * 2) := by
  have := sum_le s.ls fun l hx => ledger_few hR hT (hl l hx) (h.led l hx)
  rwa [h.len] at this
end
end Go.Proofs.YtokfcjgfpchffaaGreatDoor.Ft

/- Where nothing is lost: each part is worked out once, and twice as many frames are delivered (no program in sight). -/
namespace Go.Proofs.YtokfcjgfpchffaaGreatDoor.Ft
open Go.Proofs.YtokfcjgfpchffaaGreatDoor Go.Proofs.YtokfcjgfpchffaaGreatDoor.Md Go.Proofs.YtokfcjgfpchffaaGreatDoor.Nd

section
variable {dim : Int} {ms : List Ly} {T : List (List Int)} {s : St}
/-- It has just come to a layer: all its parts are asked for, and nothing else is on its way. -/
structure Fresh (dim : Int) (ms : List Ly) (T : List (List Int)) (s : St) : Prop where
  inv : Inv dim ms T s
  here : s.lay < ms.length
  bag : s.bag = (ps ms s).map (askOf s.e s.h s.lay s.toks)
  ans : s.ans = List.replicate (ps ms s).length none
  old : ∀ l ∈ s.ls, ∀ x ∈ l, x.1.2.1 < (s.lay : Int)
def asksOf (ms : List Ly) (s : St) : List Wx.Msg := (ps ms s).map (askOf s.e s.h s.lay s.toks)
def repOf (ms : List Ly) (T : List (List Int)) (s : St) (p : Pt) : Wx.Msg := reply s.e (askOf s.e s.h s.lay s.toks p).to (askOf s.e s.h s.lay s.toks p) 2 (makes ms T s.lay p)
def repsOf (ms : List Ly) (T : List (List Int)) (s : St) : List Wx.Msg := (ps ms s).map (repOf ms T s)
theorem sum_set {j : Nat} : ∀ {l : List (List En)} (_ : j < l.length) {x : List En} (_ : x.length = (l.getD j []).length + 1), ((l.set j x).map List.length).sum = (l.map List.length).sum + 1 := by
  induction j with
  | zero =>
    intro l hj x hx
    cases l with
    | nil => exact absurd hj (Nat.not_lt_zero _)
    | cons a l =>
      have h0 : (a :: l).getD 0 [] = a := rfl
      rw [h0] at hx
      show x.length + (l.map List.length).sum = a.length + (l.map List.length).sum + 1
      omega
  | succ j ih =>
    intro l hj x hx
    cases l with
    | nil => exact absurd hj (Nat.not_lt_zero _)
    | cons a l =>
      have h1 := ih (l := l) (by simpa using hj) (x := x) (by simpa using hx)
      show a.length + ((l.set j x).map List.length).sum = a.length + (l.map List.length).sum + 1
      omega
theorem run_add (dim : Int) (ms : List Ly) (a b : Nat) (s : St) : run dim ms (a + b) s = run dim ms b (run dim ms a s) := by
  induction b with
  | zero => rfl
  | succ b ih => show deliver dim ms (run dim ms (a + b) s) 0 = deliver dim ms (run dim ms b (run dim ms a s)) 0; rw [ih]
theorem deliver_cons {m : Wx.Msg} {b : List Wx.Msg} (h : s.bag = m :: b) : deliver dim ms s 0 = took dim ms { s with bag := b } m := by
  unfold deliver
  rw [if_pos (by rw [h]; exact Nat.succ_pos _)]
  unfold drop
  rw [h]
  rfl
/-- The first k asks are answered. -/
theorem asked (h : Fresh dim ms T s) (hR : Right dim ms) (hT : TRight dim T) (k : Nat) (hk : k ≤ (ps ms s).length) :
    ∃ ls, run dim ms k s = { s with ls := ls, bag := (asksOf ms s).drop k ++ (repsOf ms T s).take k } ∧ (ls.map List.length).sum = worked s + k ∧ ls.length = 4 ∧
      ∀ l ∈ ls, ∀ x ∈ l, x.1.2.1 < (s.lay : Int) ∨ ∃ i, i < k ∧ x.1 = ky 1 s.lay ((ps ms s).getD i pt0).1 ((ps ms s).getD i pt0).2.1 := by
  induction k with
  | zero =>
    refine ⟨s.ls, ?_, rfl, h.inv.len, fun l hl x hx => .inl (h.old l hl x hx)⟩
    show s = _
    have := h.bag
    unfold asksOf
    rw [List.drop_zero, List.take_zero, List.append_nil, ← this]
  | succ k ih =>
    obtain ⟨ls, h1, h2, h3, h4⟩ := ih (by omega)
    have hkl : k < (ps ms s).length := by omega
    have hp := h.inv.part h.here (in_of hkl pt0)
    have hfit := ask_fits h.inv hR hT hp
    have hd : (asksOf ms s).drop k = askOf s.e s.h s.lay s.toks ((ps ms s).getD k pt0) :: (asksOf ms s).drop (k + 1) := by
      unfold asksOf
      rw [List.drop_eq_getElem_cons (by rw [List.length_map]; exact hkl), List.getElem_map, get_of hkl]
    have hrun : run dim ms (k + 1) s = took dim ms { s with ls := ls, bag := (asksOf ms s).drop (k + 1) ++ (repsOf ms T s).take k } (askOf s.e s.h s.lay s.toks ((ps ms s).getD k pt0)) := by
      show deliver dim ms (run dim ms k s) 0 = _
      rw [h1, deliver_cons (m := askOf s.e s.h s.lay s.toks ((ps ms s).getD k pt0)) (b := (asksOf ms s).drop (k + 1) ++ (repsOf ms T s).take k) (by show (asksOf ms s).drop k ++ (repsOf ms T s).take k = _; rw [hd]; rfl)]
    obtain ⟨j, hj⟩ : ∃ j, ((askOf s.e s.h s.lay s.toks ((ps ms s).getD k pt0)).to - 1).toNat = j := ⟨_, rfl⟩
    have hj4 : j < 4 := by have := hfit.1; omega
    have hkey : Nd.keyOf (askOf s.e s.h s.lay s.toks ((ps ms s).getD k pt0)) = ky 1 s.lay ((ps ms s).getD k pt0).1 ((ps ms s).getD k pt0).2.1 := rfl
    have hgot : got (ls.getD j []) (Nd.keyOf (askOf s.e s.h s.lay s.toks ((ps ms s).getD k pt0))) = none := by
      cases hg : got (ls.getD j []) (Nd.keyOf (askOf s.e s.h s.lay s.toks ((ps ms s).getD k pt0))) with
      | none => rfl
      | some v =>
        obtain ⟨x, hx, hxk, _⟩ := got_mem hg
        rw [hkey] at hxk
        rcases h4 _ (in_of (by omega) []) x hx with h5 | ⟨i, hi, h5⟩
        · rw [hxk] at h5
          have h6 : ((s.lay : Nat) : Int) < (s.lay : Int) := h5
          omega
        · rw [hxk] at h5
          obtain ⟨_, _, h6, h7⟩ := ky_eq.1 h5
          have := parts_inj (l := lyAt ms s) (ts := s.toks) hkl (by show i < (ps ms s).length; omega) h6 h7
          omega
    have hmk : Md.ans (lyOf ms (askOf s.e s.h s.lay s.toks ((ps ms s).getD k pt0))) (askOf s.e s.h s.lay s.toks ((ps ms s).getD k pt0)).vec (askOf s.e s.h s.lay s.toks ((ps ms s).getD k pt0)).expert = makes ms T s.lay ((ps ms s).getD k pt0) := by
      unfold makes lyOf
      rw [← h.inv.toks]
      rfl
    have hwork := work_new (l := ls.getD j []) hfit.2.1 hfit.2.2 hgot
    rw [hmk] at hwork
    refine ⟨ls.set j (ls.getD j [] ++ [en (ky 1 s.lay ((ps ms s).getD k pt0).1 ((ps ms s).getD k pt0).2.1) (makes ms T s.lay ((ps ms s).getD k pt0))]), ?_, ?_, by rw [List.length_set]; exact h3, fun l hl x hx => ?_⟩
    · rw [hrun]
      unfold took
      rw [if_pos hfit.1, hj]
      show (match work dim ms s.e s.h (askOf s.e s.h s.lay s.toks ((ps ms s).getD k pt0)).to (ls.getD j []) (askOf s.e s.h s.lay s.toks ((ps ms s).getD k pt0)) with | none => _ | some (l, out) => _) = _
      rw [hwork]
      have hlen : ((asksOf ms s).drop (k + 1) ++ (repsOf ms T s).take k).length < 200 := by
        have := ps_few h.inv hR hT
        unfold asksOf repsOf
        rw [List.length_append, List.length_drop, List.length_take, List.length_map, List.length_map]
        omega
      have hput : put ((asksOf ms s).drop (k + 1) ++ (repsOf ms T s).take k) (repOf ms T s ((ps ms s).getD k pt0)) = (asksOf ms s).drop (k + 1) ++ (repsOf ms T s).take (k + 1) := by
        unfold put
        rw [if_pos hlen, List.append_assoc]
        congr 1
        unfold repsOf
        rw [List.take_succ_eq_append_getElem (by rw [List.length_map]; exact hkl), List.getElem_map, get_of hkl]
      show ({ s with ls := _, bag := put ((asksOf ms s).drop (k + 1) ++ (repsOf ms T s).take k) (repOf ms T s ((ps ms s).getD k pt0)) } : St) = _
      rw [hput]
      rfl
    · rw [sum_set (by omega) (by rw [List.length_append]; rfl), h2]
      omega
    · rcases List.mem_or_eq_of_mem_set hl with h5 | h5
      · rcases h4 l h5 x hx with h6 | ⟨i, hi, h6⟩
        · exact .inl h6
        · exact .inr ⟨i, by omega, h6⟩
      · rw [h5] at hx
        rcases List.mem_append.1 hx with h6 | h6
        · rcases h4 _ (in_of (by omega) []) x h6 with h7 | ⟨i, hi, h7⟩
          · exact .inl h7
          · exact .inr ⟨i, by omega, h7⟩
        · rw [List.mem_singleton.1 h6]
          exact .inr ⟨k, Nat.lt_succ_self _, rfl⟩
theorem left_none (l : List Pt) : left l (List.replicate l.length none) = l := by
  unfold left
  induction l with
  | nil => rfl
  | cons p l ih =>
    show List.filterMap _ ((p, none) :: l.zip (List.replicate l.length none)) = _
    simp [ih]
def told (ms : List Ly) (T : List (List Int)) (s : St) (k : Nat) : List (Option (List Int)) := ((ps ms s).take k).map (fun p => some (makes ms T s.lay p)) ++ List.replicate ((ps ms s).length - k) none
theorem told_zero : told ms T s 0 = List.replicate (ps ms s).length none := by
  unfold told
  rw [List.take_zero]
  rfl
theorem told_at {k : Nat} (hk : k < (ps ms s).length) : (told ms T s k).getD k (some []) = none := by
  unfold told
  rw [List.getD_eq_getElem?_getD, List.getElem?_append_right (by rw [List.length_map, List.length_take]; omega), List.length_map, List.length_take, List.getElem?_replicate, if_pos (by omega)]
  rfl
theorem told_next {k : Nat} (hk : k < (ps ms s).length) : (told ms T s k).set k (some (makes ms T s.lay ((ps ms s).getD k pt0))) = told ms T s (k + 1) := by
  unfold told
  have hl : (((ps ms s).take k).map (fun p => some (makes ms T s.lay p))).length = k := by rw [List.length_map, List.length_take]; omega
  rw [List.set_append_right _ _ (by omega), hl, Nat.sub_self, show (ps ms s).length - k = ((ps ms s).length - (k + 1)) + 1 by omega, List.replicate_succ, List.set_cons_zero, take_pt hk, List.map_append]
  simp
theorem slotOf_is {k : Nat} (hk : k < (ps ms s).length) {an : List (Option (List Int))} (ha : an.getD k (some []) = none) {m : Wx.Msg} (h1 : m.token = ((ps ms s).getD k pt0).1) (h2 : m.rank = ((ps ms s).getD k pt0).2.1) (h3 : m.expert = ((ps ms s).getD k pt0).2.2.1) : slotOf (ps ms s) an m = some k := by
  cases hs : slotOf (ps ms s) an m with
  | none => exact absurd ha (slotOf_none hs hk h1.symm h2.symm h3.symm)
  | some j =>
    obtain ⟨hj, e1, e2, _, _⟩ := slotOf_some hs
    have := parts_inj (l := lyAt ms s) (ts := s.toks) hj hk (e1.trans h1) (e2.trans h2)
    rw [this]
/-- One answer is taken. -/
theorem took_rep (h : Fresh dim ms T s) (hR : Right dim ms) (hT : TRight dim T) {k : Nat} (hk : k < (ps ms s).length) (ls : List (List En)) (b : List Wx.Msg) :
    took dim ms { s with ls := ls, bag := b, ans := told ms T s k } (repOf ms T s ((ps ms s).getD k pt0)) = on ms { s with ls := ls, bag := b, ans := told ms T s (k + 1) } := by
  have hp := h.inv.part h.here (in_of hk pt0)
  have hv := makes_len hR hT hp
  unfold took
  have h0 : ¬ (1 ≤ (repOf ms T s ((ps ms s).getD k pt0)).to ∧ (repOf ms T s ((ps ms s).getD k pt0)).to ≤ 4) := fun h1 => by
    have : (1 : Int) ≤ 0 := h1.1
    omega
  rw [if_neg h0]
  have h2 : (repOf ms T s ((ps ms s).getD k pt0)).to = 0 ∧ (repOf ms T s ((ps ms s).getD k pt0)).kind = 2 ∧ (repOf ms T s ((ps ms s).getD k pt0)).batch = 1 ∧ s.lay < ms.length ∧ (repOf ms T s ((ps ms s).getD k pt0)).layer = s.lay ∧ ((repOf ms T s ((ps ms s).getD k pt0)).vec.length : Int) = dim := ⟨rfl, rfl, rfl, h.here, rfl, hv⟩
  show (if (repOf ms T s ((ps ms s).getD k pt0)).to = 0 ∧ (repOf ms T s ((ps ms s).getD k pt0)).kind = 2 ∧ (repOf ms T s ((ps ms s).getD k pt0)).batch = 1 ∧ s.lay < ms.length ∧ (repOf ms T s ((ps ms s).getD k pt0)).layer = s.lay ∧ ((repOf ms T s ((ps ms s).getD k pt0)).vec.length : Int) = dim then _ else _) = _
  rw [if_pos h2]
  have hs := slotOf_is hk (told_at (T := T) hk) (m := repOf ms T s ((ps ms s).getD k pt0)) rfl rfl rfl
  show (match slotOf (ps ms s) (told ms T s k) (repOf ms T s ((ps ms s).getD k pt0)) with | none => _ | some j => _) = _
  rw [hs]
  show on ms { s with ls := ls, bag := b, ans := (told ms T s k).set k (some (makes ms T s.lay ((ps ms s).getD k pt0))) } = _
  rw [told_next hk]
/-- The first k answers are taken; not the last one. -/
theorem answered (h : Fresh dim ms T s) (hR : Right dim ms) (hT : TRight dim T) {ls : List (List En)} (hq : run dim ms (ps ms s).length s = { s with ls := ls, bag := repsOf ms T s }) (k : Nat) (hk : k < (ps ms s).length) :
    run dim ms ((ps ms s).length + k) s = { s with ls := ls, bag := (repsOf ms T s).drop k, ans := told ms T s k } := by
  induction k with
  | zero =>
    show run dim ms (ps ms s).length s = _
    rw [hq, told_zero, ← h.ans]
    rfl
  | succ k ih =>
    have hkl : k < (ps ms s).length := by omega
    have h1 := ih hkl
    have hd : (repsOf ms T s).drop k = repOf ms T s ((ps ms s).getD k pt0) :: (repsOf ms T s).drop (k + 1) := by
      unfold repsOf
      rw [List.drop_eq_getElem_cons (by rw [List.length_map]; exact hkl), List.getElem_map, get_of hkl]
    show deliver dim ms (run dim ms ((ps ms s).length + k) s) 0 = _
    rw [h1, deliver_cons (m := repOf ms T s ((ps ms s).getD k pt0)) (b := (repsOf ms T s).drop (k + 1)) hd]
    show took dim ms { s with ls := ls, bag := (repsOf ms T s).drop (k + 1), ans := told ms T s k } (repOf ms T s ((ps ms s).getD k pt0)) = _
    rw [took_rep h hR hT hkl]
    unfold on
    rw [if_neg]
    rintro ⟨_, hw⟩
    refine hw none ?_ rfl
    show none ∈ told ms T s (k + 1)
    unfold told
    exact List.mem_append_right _ (List.mem_replicate.2 ⟨by omega, rfl⟩)
/-- A layer: all its parts are asked, worked out once, and answered; the next one begins. -/
theorem layer (h : Fresh dim ms T s) (hR : Right dim ms) (hT : TRight dim T) :
    ∃ ls, run dim ms ((ps ms s).length + (ps ms s).length) s = enter ms { s with ls := ls, bag := [], ans := told ms T s (ps ms s).length } (tl ms T (s.lay + 1)) (s.lay + 1) ∧ (ls.map List.length).sum = worked s + (ps ms s).length ∧
      (∀ l ∈ ls, ∀ x ∈ l, x.1.2.1 < ((s.lay + 1 : Nat) : Int)) ∧ ∀ j, j < (ps ms s).length + (ps ms s).length → (run dim ms j s).bag ≠ [] := by
  obtain ⟨ls, h1, h2, h3, h4⟩ := asked h hR hT (ps ms s).length (Nat.le_refl _)
  have hq0 : (asksOf ms s).drop (ps ms s).length ++ (repsOf ms T s).take (ps ms s).length = repsOf ms T s := by
    rw [List.drop_of_length_le (by unfold asksOf; rw [List.length_map]; exact Nat.le_refl _), List.take_of_length_le (by unfold repsOf; rw [List.length_map]; exact Nat.le_refl _), List.nil_append]
  rw [hq0] at h1
  have hpos : 1 ≤ (ps ms s).length := parts_some (ly_right hR h.here) (by rw [h.inv.toks]; exact tl_right hR hT _)
  obtain ⟨q, hq⟩ : ∃ q, (ps ms s).length = q + 1 := ⟨(ps ms s).length - 1, by omega⟩
  refine ⟨ls, ?_, h2, fun l hl x hx => ?_, fun j hj => ?_⟩
  · have ha := answered h hR hT h1 q (by omega)
    have hd : (repsOf ms T s).drop q = [repOf ms T s ((ps ms s).getD q pt0)] := by
      unfold repsOf
      rw [List.drop_eq_getElem_cons (by rw [List.length_map]; omega), List.getElem_map, get_of (by omega : q < (ps ms s).length), List.drop_of_length_le (by rw [List.length_map]; omega)]
    have hI : Inv dim ms T (run dim ms ((ps ms s).length + (q + 1)) s) := run_inv h.inv hR hT _
    have hstep : run dim ms ((ps ms s).length + (q + 1)) s = on ms { s with ls := ls, bag := [], ans := told ms T s (q + 1) } := by
      show deliver dim ms (run dim ms ((ps ms s).length + q) s) 0 = _
      rw [ha, deliver_cons (m := repOf ms T s ((ps ms s).getD q pt0)) (b := []) hd]
      exact took_rep h hR hT (by omega) ls []
    rw [← hq] at hstep
    rw [hstep]
    unfold on
    have hall : told ms T s (ps ms s).length = (ps ms s).map fun p => some (makes ms T s.lay p) := by
      unfold told
      rw [List.take_length, Nat.sub_self]
      exact List.append_nil _
    have hc : s.lay < ms.length ∧ whole { s with ls := ls, bag := [], ans := told ms T s (ps ms s).length } := ⟨h.here, fun x hx hn => by
      have hx' : x ∈ told ms T s (ps ms s).length := hx
      rw [hall] at hx'
      obtain ⟨p, _, rfl⟩ := List.mem_map.1 hx'
      cases hn⟩
    rw [if_pos hc]
    have hans : (told ms T s (ps ms s).length).map (fun x => x.getD []) = answers (ms.getD s.lay ly0) s.toks (ps ms s) := by
      rw [hall, List.map_map]
      unfold answers makes
      rw [← h.inv.toks]
      rfl
    show enter ms { s with ls := ls, bag := [], ans := told ms T s (ps ms s).length } (combine s.toks (ps ms s) ((told ms T s (ps ms s).length).map fun x => x.getD [])) (s.lay + 1) = _
    rw [hans, tl_next h.here, ← h.inv.toks]
    have := combine_step (ly_right hR h.here) (by rw [h.inv.toks]; exact tl_right hR hT _ : TRight dim s.toks)
    show enter ms _ (combine s.toks (parts (ms.getD s.lay ly0) s.toks) (answers (ms.getD s.lay ly0) s.toks (parts (ms.getD s.lay ly0) s.toks))) (s.lay + 1) = _
    rw [this]
  · rcases h4 l hl x hx with h5 | ⟨i, _, h5⟩
    · omega
    · rw [h5]; show ((s.lay : Nat) : Int) < _; omega
  · rcases Nat.lt_or_ge j (ps ms s).length with h5 | h5
    · obtain ⟨ls2, h6, _⟩ := asked h hR hT j (by omega)
      rw [h6]
      show (asksOf ms s).drop j ++ (repsOf ms T s).take j ≠ []
      intro h7
      have := congrArg List.length h7
      unfold asksOf at this
      rw [List.length_append, List.length_drop, List.length_map] at this
      simp at this
      omega
    · have h6 := answered h hR hT h1 (j - (ps ms s).length) (by omega)
      rw [show (ps ms s).length + (j - (ps ms s).length) = j by omega] at h6
      rw [h6]
      show (repsOf ms T s).drop (j - (ps ms s).length) ≠ []
      intro h7
      have := congrArg List.length h7
      unfold repsOf at this
      rw [List.length_drop, List.length_map] at this
      simp at this
      omega
/-- How many parts the first L layers have. -/
def tot (ms : List Ly) (T : List (List Int)) (L : Nat) : Nat := ((List.range L).map fun i => (parts (ms.getD i ly0) (tl ms T i)).length).sum
theorem tot_succ (L : Nat) : tot ms T (L + 1) = tot ms T L + (parts (ms.getD L ly0) (tl ms T L)).length := by
  unfold tot
  rw [List.range_succ, List.map_append, List.sum_append]
  simp
theorem enter_fresh {lay : Nat} (h : Inv dim ms T (enter ms s (tl ms T lay) lay)) (hl : lay < ms.length) (hR : Right dim ms) (hT : TRight dim T) (hb : s.bag = []) (ho : ∀ l ∈ s.ls, ∀ x ∈ l, x.1.2.1 < (lay : Int)) : Fresh dim ms T (enter ms s (tl ms T lay) lay) ∧ worked (enter ms s (tl ms T lay) lay) = worked s := by
  have hat : (at0 ms s (tl ms T lay) lay).lay < ms.length := hl
  have han : (at0 ms s (tl ms T lay) lay).ans = List.replicate (ps ms (at0 ms s (tl ms T lay) lay)).length none := by
    show (if lay < ms.length then _ else _ : List (Option (List Int))) = _
    rw [if_pos hl]
    rfl
  have hfew : (ps ms (at0 ms s (tl ms T lay) lay)).length ≤ 32 := parts_few (l := lyAt ms (at0 ms s (tl ms T lay) lay)) (ts := tl ms T lay) (tl_right hR hT lay).2.1
  have hbag : (enter ms s (tl ms T lay) lay).bag = (ps ms (at0 ms s (tl ms T lay) lay)).map (askOf s.e s.h lay (tl ms T lay)) := by
    unfold enter ask
    rw [if_pos hat]
    show puts s.bag ((left (ps ms (at0 ms s (tl ms T lay) lay)) (at0 ms s (tl ms T lay) lay).ans).map (askOf s.e s.h lay (tl ms T lay))) = _
    rw [han, left_none, hb, puts_all (by rw [List.length_map]; show 0 + _ ≤ 200; omega), List.nil_append]
  obtain ⟨k1, k2, k3, k4, k5, k6⟩ := ask_ans ms (at0 ms s (tl ms T lay) lay)
  have hps : ps ms (enter ms s (tl ms T lay) lay) = ps ms (at0 ms s (tl ms T lay) lay) := by
    unfold ps lyAt enter
    rw [k2, k3]
  refine ⟨⟨h, by unfold enter; rw [k2]; exact hl, ?_, ?_, ?_⟩, ?_⟩
  · rw [hps, hbag]
    unfold enter
    rw [k2, k3, k4, k5]
    rfl
  · rw [hps]
    unfold enter
    rw [k1, han]
  · unfold enter
    rw [k6, k2]
    exact ho
  · unfold worked enter
    rw [k6]
    rfl
theorem counts (hR : Right dim ms) (hT : TRight dim T) {e : Int} {hh : List (List Int)} (hm : Pl.Right e hh) (hw : ∀ l ∈ ms, l.2.1.length ≤ hh.length) (L : Nat) (hL : L ≤ ms.length) :
    (run dim ms (2 * tot ms T L) (start ms e hh T)).lay = L ∧ worked (run dim ms (2 * tot ms T L) (start ms e hh T)) = tot ms T L ∧ (L < ms.length → Fresh dim ms T (run dim ms (2 * tot ms T L) (start ms e hh T))) ∧ (L = ms.length → (run dim ms (2 * tot ms T L) (start ms e hh T)).bag = []) ∧ ∀ j, j < 2 * tot ms T L → (run dim ms j (start ms e hh T)).bag ≠ [] := by
  have hst := Inv.start hR hT hm hw
  have h0 : 0 < ms.length := by have := hR.2.2.1; omega
  induction L with
  | zero =>
    have hf : Fresh dim ms T (start ms e hh T) ∧ worked (start ms e hh T) = worked ⟨e, hh, [[], [], [], []], [], 0, T, []⟩ := enter_fresh (s := ⟨e, hh, [[], [], [], []], [], 0, T, []⟩) (lay := 0) hst h0 hR hT rfl (fun l hl x hx => by
      have hl' : l ∈ ([[], [], [], []] : List (List En)) := hl
      have : l = [] := by simpa using hl'
      rw [this] at hx; cases hx)
    refine ⟨?_, hf.2, fun _ => hf.1, fun h1 => by omega, fun j hj => absurd hj (Nat.not_lt_zero _)⟩
    show (start ms e hh T).lay = 0
    unfold start enter
    rw [(ask_ans ms _).2.1]
    rfl
  | succ L ih =>
    obtain ⟨h1, h2, h3, _, h5⟩ := ih (by omega)
    have hF := h3 (by omega)
    obtain ⟨ls, k1, k2, k3, k4⟩ := layer hF hR hT
    have hps : (ps ms (run dim ms (2 * tot ms T L) (start ms e hh T))).length = (parts (ms.getD L ly0) (tl ms T L)).length := by
      unfold ps lyAt
      rw [hF.inv.toks, h1]
    rw [hps] at k1 k2 k4
    have hsum : 2 * tot ms T (L + 1) = 2 * tot ms T L + ((parts (ms.getD L ly0) (tl ms T L)).length + (parts (ms.getD L ly0) (tl ms T L)).length) := by rw [tot_succ]; omega
    have hI : Inv dim ms T (run dim ms (2 * tot ms T (L + 1)) (start ms e hh T)) := run_inv hst hR hT _
    rw [hsum, run_add, k1] at hI ⊢
    rw [h1] at hI ⊢
    refine ⟨?_, ?_, fun hl => ?_, fun hl => ?_, fun j hj => ?_⟩
    · unfold enter; rw [(ask_ans ms _).2.1]; rfl
    · unfold worked enter
      rw [(ask_ans ms _).2.2.2.2.2]
      show (ls.map List.length).sum = _
      rw [k2, h2, tot_succ]
    · exact (enter_fresh hI hl hR hT rfl (fun l hx x hxx => by have := k3 l hx x hxx; rw [h1] at this; exact this)).1
    · unfold enter ask
      rw [if_neg (by show ¬ (L + 1 < ms.length); omega)]
      rfl
    · rcases Nat.lt_or_ge j (2 * tot ms T L) with h6 | h6
      · exact h5 j h6
      · have := k4 (j - 2 * tot ms T L) (by omega)
        rw [← run_add, show 2 * tot ms T L + (j - 2 * tot ms T L) = j by omega] at this
        exact this
end
end Go.Proofs.YtokfcjgfpchffaaGreatDoor.Ft
