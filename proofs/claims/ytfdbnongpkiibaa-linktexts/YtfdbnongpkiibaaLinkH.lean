/- What the walks of layer 10's statements take besides: contracts with letters, texts and bools in memory, and laws on links as lists. -/
import Derived.Test.YtfdbnongpkiibaaLinkG
namespace Go.Proofs.Ytfdbnongpkiibaa
open Go.ChangeShapes Go.WideShapes Go.ChangeAt Go.RowKit

theorem lright_yes (next : Int) (a : Option Addr) (n c : Nat) (l : List Fr) (w : World) (h : frsS.rep w everywhere [.slice a n c] l) (hR : Lx.Right next l) :
    Calls Try.prog 14 #[.agg #[.int .i64 next, .slice a n c]] w fun e w' => e = .returned (.bool true) ∧ Below w.heap.size w w' :=
  (lright next a n c l w h).mono fun _ _ ⟨hs, hb⟩ => ⟨hs.is hR, hb⟩
theorem lright_tell (next : Int) (a : Option Addr) (n c : Nat) (l : List Fr) (w : World) (h : frsS.rep w everywhere [.slice a n c] l) (R : Bool) (hR : tell (Lx.Right next l) = R) :
    Calls Try.prog 14 #[.agg #[.int .i64 next, .slice a n c]] w fun e w' => e = .returned (.bool R) ∧ Below w.heap.size w w' :=
  (lright next a n c l w h).mono fun _ _ ⟨hs, hb⟩ => ⟨by rw [← hR]; exact hs.form, hb⟩
theorem rlright_tell (next : Int) (a : Option Addr) (n c : Nat) (l : List Fr) (w : World) (h : frsS.rep w everywhere [.slice a n c] l) (hn : n ≤ 1000) (R : Bool) (hR : tell (Lx.Right next l) = R) :
    Calls Try.prog 15 #[.agg #[.int .i64 next, .slice a n c]] w fun e w' => e = .returned (.bool R) ∧ Below w.heap.size w w' :=
  (rlright next a n c l w h hn).mono fun _ _ ⟨hs, hb⟩ => ⟨by rw [← hR]; exact hs.form, hb⟩
theorem lref_yes (next : Int) (a : Option Addr) (n c : Nat) (l : List Fr) (w : World) (h : frsS.rep w everywhere [.slice a n c] l) (hS : Lx.Short l) :
    Calls Try.prog 8 #[.agg #[.int .i64 next, .slice a n c]] w fun e w' => Below w.heap.size w w' ∧ ∃ a' c', e = .returned (.tuple #[.agg #[.int .i64 next, .slice a' n c'], .bool true]) ∧ Own frS w' w.heap.size 40 (.slice a' n c') l :=
  (lref next a n c l w h).mono (by
    rintro e w' ⟨hb, a', n', c', ⟨_, rfl, ho⟩ | ⟨hn, _⟩⟩
    · exact ⟨hb, a', c', rfl, ho⟩
    · exact absurd hS hn)
theorem lref_no (next : Int) (a : Option Addr) (n c : Nat) (l : List Fr) (w : World) (h : frsS.rep w everywhere [.slice a n c] l) (hS : ¬ Lx.Short l) :
    Calls Try.prog 8 #[.agg #[.int .i64 next, .slice a n c]] w fun e w' => Below w.heap.size w w' ∧ ∃ a' n' c', e = .returned (.tuple #[.agg #[.int .i64 next, .slice a' n' c'], .bool false]) :=
  (lref next a n c l w h).mono (by
    rintro e w' ⟨hb, a', n', c', ⟨hy, _⟩ | ⟨_, rfl⟩⟩
    · exact absurd hy hS
    · exact ⟨hb, a', n', c', rfl⟩)
theorem ltold_len (next : Int) (a : Option Addr) (n c : Nat) (l : List Fr) (q : Int) (w : World) (h : frsS.rep w everywhere [.slice a n c] l) (hn : n ≤ 1000) (T : List Fr) (hT : Lx.told l q = T) (m : Nat) (hm : T.length = m) :
    Calls Try.prog 11 #[.agg #[.int .i64 next, .slice a n c], .int .i64 q] w fun e w' => Below w.heap.size w w' ∧ ∃ a' c', e = .returned (.agg #[.int .i64 next, .slice a' m c']) ∧ frsS.rep w' (w.heap.size ≤ ·) [.slice a' m c'] T :=
  (ltold next a n c l q w h hn).mono (by
    rintro e w' ⟨hb, a', n', c', rfl, hr⟩
    rw [hT] at hr
    have := (sliceS_len hr).1
    obtain rfl : n' = m := by omega
    exact ⟨hb, a', c', rfl, hr⟩)
theorem rltold_len (next : Int) (a : Option Addr) (n c : Nat) (l : List Fr) (q : Int) (w : World) (h : frsS.rep w everywhere [.slice a n c] l) (hn : n ≤ 1000) (T : List Fr) (hT : Lx.told l q = T) (m : Nat) (hm : T.length = m) :
    Calls Try.prog 13 #[.agg #[.int .i64 next, .slice a n c], .int .i64 q] w fun e w' => Below w.heap.size w w' ∧ ∃ a' c', e = .returned (.agg #[.int .i64 next, .slice a' m c']) ∧ frsS.rep w' (w.heap.size ≤ ·) [.slice a' m c'] T :=
  (rltold next a n c l q w h hn).mono (by
    rintro e w' ⟨hb, a', n', c', rfl, hr⟩
    rw [hT] at hr
    have := (sliceS_len hr).1
    obtain rfl : n' = m := by omega
    exact ⟨hb, a', c', rfl, hr⟩)

/-- 'Told(l, 0).Queue' -/
theorem queue_of (k : Int) (a : Option Addr) (n c : Nat) (u : World) : (Instr.field 24 (.agg #[.int .i64 k, .slice a n c]) 1).run Try.prog u = .ok (.slice a n c) u := by kernel_rfl

theorem Box.set0 {u : World} {b : Nat} {t : TypeId} {p0 p1 : Value} (h : Box u b t #[p0, p1]) (v : Value) : Box (u.setCell ⟨b, 0, none⟩ v) b t #[v, p1] := by
  have := h.set 0 v
  simp only [List.setIfInBounds_toArray, List.set_cons_zero] at this
  exact this
theorem bool_at {w : World} {F : Nat → Prop} {a : Option Addr} {n c : Nat} {l : List Bool} (h : (sliceS boolS).rep w F [.slice a n c] l) {j : Nat} (hj : j < n) :
    ∃ b off, a = some ⟨b, off, none⟩ ∧ F b ∧ b < w.heap.size ∧ w.cell? ⟨b, off + j, none⟩ = some (.bool (l.getD j false)) := by
  have hl := (sliceS_len h).1
  obtain ⟨b, off, cs, ha, hF, hb, hc, hr⟩ := sliceS_at h (by exact Nat.one_pos) (j := j) (by omega)
  have hr' : cs = [.bool (l[j]'(by omega))] := hr
  subst hr'
  have h0 := hc 0 _ rfl
  rw [show off + (j * boolS.size + 0) = off + j by show off + (j * 1 + 0) = off + j; omega] at h0
  refine ⟨b, off, ha, hF, hb, ?_⟩
  rw [h0, List.getD_eq_getElem?_getD, List.getElem?_eq_getElem (by omega)]; rfl
theorem text_at {w : World} {F : Nat → Prop} {a : Option Addr} {n c : Nat} {l : List ByteArray} (h : (sliceS strS).rep w F [.slice a n c] l) {j : Nat} (hj : j < n) :
    ∃ b off, a = some ⟨b, off, none⟩ ∧ F b ∧ b < w.heap.size ∧ w.cell? ⟨b, off + j, none⟩ = some (.string (l.getD j ByteArray.empty)) := by
  have hl := (sliceS_len h).1
  obtain ⟨b, off, cs, ha, hF, hb, hc, hr⟩ := sliceS_at h (by exact Nat.one_pos) (j := j) (by omega)
  have hr' : cs = [.string (l[j]'(by omega))] := hr
  subst hr'
  have h0 := hc 0 _ rfl
  rw [show off + (j * strS.size + 0) = off + j by show off + (j * 1 + 0) = off + j; omega] at h0
  refine ⟨b, off, ha, hF, hb, ?_⟩
  rw [h0, List.getD_eq_getElem?_getD, List.getElem?_eq_getElem (by omega)]; rfl

namespace Lx
theorem short_told {l : List Fr} (q : Int) (h : Short l) : Short (told l q) := ⟨Nat.le_trans (told_le l q) h.1, fun f hf => h.2 f (told_mem hf)⟩
theorem short_push {next : Int} {l : List Fr} {t : ByteArray} {E N : Int} {Q : List Fr} {M : Int} (h : Short l) (ht : t.size ≤ 100) (hP : Push next l t E N Q M) : Short Q := by
  rcases hP with ⟨_, _, _, hQ, _⟩ | ⟨_, _, _, _, _, hQ, _⟩ | ⟨_, _, hl, _, _, hQ, _⟩
  · rw [hQ]; exact h
  · rw [hQ]; exact h
  · rw [hQ]
    refine ⟨by rw [List.length_append]; show l.length + 1 ≤ 100; omega, fun f hf => ?_⟩
    rcases List.mem_append.1 hf with hf | hf
    · exact h.2 f hf
    · rw [List.mem_singleton.1 hf]; exact ht
/-- Behind a push its number told of. -/
theorem told_pushed {next : Int} {l : List Fr} {t : ByteArray} (h : Right next l) : told (l ++ [fr next t]) next = l := by
  have h4 := (right_iff.1 h).2.2.2.1
  rw [told_append, told_yes (show (fr next t).1 = next from rfl), List.append_nil, told_none]
  intro f hf
  have := h4 f hf
  omega
/-- k frames, with the texts ts, by their numbers. -/
def InOrder (ts : List ByteArray) (k : Nat) (l : List Fr) : Prop := l.length = k ∧ ∀ j, j < k → l.getD j fr0 = fr j (ts.getD j ByteArray.empty)
theorem order_nil (ts : List ByteArray) : InOrder ts 0 [] := ⟨rfl, fun _ hj => absurd hj (Nat.not_lt_zero _)⟩
theorem order_push {ts : List ByteArray} {k : Nat} {l : List Fr} (h : InOrder ts k l) : InOrder ts (k + 1) (l ++ [fr k (ts.getD k ByteArray.empty)]) := by
  refine ⟨by rw [List.length_append, h.1]; rfl, fun j hj => ?_⟩
  rw [List.getD_eq_getElem?_getD, List.getElem?_append]
  split
  · rename_i hjl
    rw [← List.getD_eq_getElem?_getD]
    exact h.2 j (by rw [← h.1]; exact hjl)
  · rename_i hjl
    have e : j = k := by have := h.1; omega
    subst e
    rw [h.1, Nat.sub_self]
    rfl
theorem order_right {ts : List ByteArray} {k : Nat} {l : List Fr} (h : InOrder ts k l) (hk : k ≤ 64) : Right k l := by
  refine ⟨by omega, by omega, by rw [h.1]; exact hk, fun j hj => ?_⟩
  rw [h.1] at hj
  have e : ∀ i, i < k → seq l i = (i : Int) := fun i hi => by unfold seq; rw [h.2 i hi]; rfl
  refine ⟨by rw [e j hj]; omega, by rw [e j hj]; omega, fun hp => ?_⟩
  rw [e j hj, e (j - 1) (by omega)]
  omega
theorem order_told {ts : List ByteArray} {k q : Nat} {l : List Fr} (h : InOrder ts k l) (hq : q < k) : (told l q).length = k - 1 ∧ ∀ j n, j < k - 1 → n = (if q ≤ j then j + 1 else j) → (told l q).getD j fr0 = fr n (ts.getD n ByteArray.empty) := by
  have hql : q < l.length := by rw [h.1]; exact hq
  have e : l = l.take q ++ (l.getD q fr0 :: l.drop (q + 1)) := by
    rw [getD_get hql, List.getElem_cons_drop, List.take_append_drop]
  have h1 : ∀ f ∈ l.take q, f.1 ≠ (q : Int) := fun f hf => by
    obtain ⟨j, hj⟩ := List.getElem?_of_mem hf
    rw [List.getElem?_take] at hj
    split at hj
    · rename_i hjq
      have := h.2 j (by omega)
      rw [List.getD_eq_getElem?_getD, hj] at this
      have e2 : f = fr j (ts.getD j ByteArray.empty) := this
      rw [e2]
      show (j : Int) ≠ q
      omega
    · cases hj
  have h2 : ∀ f ∈ l.drop (q + 1), f.1 ≠ (q : Int) := fun f hf => by
    obtain ⟨j, hj⟩ := List.getElem?_of_mem hf
    rw [List.getElem?_drop] at hj
    have hjl : q + 1 + j < l.length := (List.getElem?_eq_some_iff.1 hj).1
    have := h.2 (q + 1 + j) (by rw [← h.1]; exact hjl)
    rw [List.getD_eq_getElem?_getD, hj] at this
    have e2 : f = fr ((q + 1 + j : Nat) : Int) (ts.getD (q + 1 + j) ByteArray.empty) := this
    rw [e2]
    show ((q + 1 + j : Nat) : Int) ≠ q
    omega
  have h3 : (l.getD q fr0).1 = (q : Int) := by rw [h.2 q hq]; rfl
  have e3 : told l q = l.take q ++ l.drop (q + 1) := by
    have e4 : told l q = told (l.take q) q ++ told (l.getD q fr0 :: l.drop (q + 1)) q := by rw [← told_append, ← e]
    have e5 : told (l.getD q fr0 :: l.drop (q + 1)) q = told [l.getD q fr0] q ++ told (l.drop (q + 1)) q := by rw [← told_append]; rfl
    rw [e4, e5, told_none h1, told_none h2, told_yes h3]
    rfl
  rw [e3]
  refine ⟨by rw [List.length_append, List.length_take, List.length_drop, h.1]; omega, fun j n hj hn => ?_⟩
  rw [List.getD_eq_getElem?_getD, List.getElem?_append, List.length_take, Nat.min_eq_left (by omega)]
  subst hn
  by_cases hjq : j < q
  · rw [if_pos hjq, if_neg (by omega), List.getElem?_take, if_pos hjq, ← List.getD_eq_getElem?_getD]
    exact h.2 j (by omega)
  · rw [if_neg hjq, if_pos (by omega), List.getElem?_drop, show q + 1 + (j - q) = j + 1 by omega, ← List.getD_eq_getElem?_getD]
    exact h.2 (j + 1) (by omega)
/-- Frames of the numbers ns, all of one text. -/
def same (t : ByteArray) (ns : List Int) : List Fr := ns.map fun n => fr n t
theorem same_len (t : ByteArray) (ns : List Int) : (same t ns).length = ns.length := List.length_map _
theorem same_get {t : ByteArray} {ns : List Int} {j : Nat} (h : j < ns.length) : (same t ns).getD j fr0 = fr (ns.getD j 0) t := by
  unfold same
  rw [List.getD_eq_getElem?_getD, List.getElem?_map, List.getD_eq_getElem?_getD, List.getElem?_eq_getElem h]
  rfl
/-- Without the number q. -/
def less (ns : List Int) (q : Int) : List Int := ns.filter fun n => !(n == q)
theorem less_len (ns : List Int) (q : Int) : (less ns q).length ≤ ns.length := List.length_filter_le _ _
theorem same_told (t : ByteArray) (ns : List Int) (q : Int) : told (same t ns) q = same t (less ns q) := by
  unfold told same less
  rw [List.filter_map]
  rfl
theorem same_push (t : ByteArray) (ns : List Int) (n : Int) : same t ns ++ [fr n t] = same t (ns ++ [n]) := by
  unfold same
  rw [List.map_append]
  rfl
theorem less_step {ns : List Int} {k : Nat} (q : Int) (h : k < ns.length) : less (ns.take (k + 1)) q = less (ns.take k) q ++ if ns.getD k 0 = q then [] else [ns.getD k 0] := by
  unfold less
  rw [List.take_succ_eq_append_getElem h, List.filter_append]
  congr 1
  rw [List.getD_eq_getElem?_getD, List.getElem?_eq_getElem h]
  show _ = if ns[k] = q then [] else [ns[k]]
  by_cases e : ns[k] = q
  · rw [if_pos e]; simp [e]
  · rw [if_neg e]; simp [e]
end Lx

end Go.Proofs.Ytfdbnongpkiibaa
