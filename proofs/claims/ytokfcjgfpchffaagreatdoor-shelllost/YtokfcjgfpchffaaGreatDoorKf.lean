/- 2 texts as one, in their order: FltA, FltD. -/
import Derived.Test.YtokfcjgfpchffaaGreatDoorJk
import Derived.Test.YtokfcjgfpchffaaGreatDoorKb
import Derived.Test.YtokfcjgfpchffaaGreatDoorKa
import Derived.Test.YtokfcjgfpchffaaGreatDoorKc

/- A fleet in memory: what lies where, what a method may write. -/
namespace Go.Proofs.YtokfcjgfpchffaaGreatDoor
open Go.ChangeShapes Go.WideShapes Go.ChangeAt Go.RowKit


/-! ### Answers: rows, or none yet -/
def ansS : Shape (Option (List Int)) where
  size := 1
  rep w F cs x := match x with
    | none => cs = [.slice none 0 0]
    | some v => v ≠ [] ∧ rowS.rep w F cs v
  len := by
    intro w F cs x h
    cases x with
    | none => have h' : cs = [.slice none 0 0] := h; subst h'; rfl
    | some v => exact rowS.len h.2
  one := by
    intro w F cs x h u hu
    cases x with
    | none => have h' : cs = [.slice none 0 0] := h; subst h'; simp at hu; subst hu; rfl
    | some v => exact rowS.one h.2 u hu
  keep := by
    intro w w' F cs x h hk
    cases x with
    | none => exact h
    | some v => exact ⟨h.1, rowS.keep h.2 hk⟩
  mono := by
    intro w F F' cs x h hm
    cases x with
    | none => exact h
    | some v => exact ⟨h.1, rowS.mono h.2 hm⟩
theorem ans_none (w : World) (F : Nat → Prop) : ansS.rep w F [.slice none 0 0] none := rfl
theorem ans_some {w : World} {F : Nat → Prop} {cs : List Value} {v : List Int} (h : rowS.rep w F cs v) (hv : v ≠ []) : ansS.rep w F cs (some v) := ⟨hv, h⟩
/-- An answer as a row: none is the empty one. -/
theorem ans_row {w : World} {F : Nat → Prop} {cs : List Value} {x : Option (List Int)} (h : ansS.rep w F cs x) : rowS.rep w F cs (x.getD []) := by
  cases x with
  | none => have h' : cs = [.slice none 0 0] := h; subst h'; exact rep_none _ _ _
  | some v => exact h.2
theorem anss_rows {w : World} {F : Nat → Prop} {cs : List Value} {l : List (Option (List Int))} (h : (sliceS ansS).rep w F cs l) : matS.rep w F cs (l.map fun x => x.getD []) := by
  obtain ⟨a, c, css, rfl, h1, h2, h3, h4⟩ := h
  refine ⟨a, c, css, by rw [List.length_map], by rw [List.length_map]; exact h1, h2, ⟨by rw [List.length_map]; exact h3.1, fun j d x hd hx => ?_⟩, h4⟩
  rw [List.getElem?_map] at hx
  obtain ⟨y, hy, rfl⟩ := Option.map_eq_some_iff.1 hx
  exact ans_row (h3.2 j d y hd hy)
/-- Where the j-th lies. -/
theorem ans_at {w : World} {F : Nat → Prop} {a : Option Addr} {n c : Nat} {l : List (Option (List Int))} (h : (sliceS ansS).rep w F [.slice a n c] l) {j : Nat} (hj : j < n) :
    ∃ b off A N C, a = some ⟨b, off, none⟩ ∧ F b ∧ b < w.heap.size ∧ w.cell? ⟨b, off + j, none⟩ = some (.slice A N C) ∧ (A = none ↔ l.getD j (some []) = none) := by
  have hl := (sliceS_len h).1
  obtain ⟨b, off, cs, ha, hF, hb, hc, hr⟩ := sliceS_at h (by show 0 < 1; omega) (j := j) (by omega)
  have hg : l.getD j (some []) = l[j]'(by omega) := by rw [List.getD_eq_getElem?_getD, List.getElem?_eq_getElem (by omega)]; rfl
  rw [hg]
  cases hx : l[j]'(by omega) with
  | none =>
    rw [hx] at hr
    have h' : cs = [.slice none 0 0] := hr
    subst h'
    have := hc 0 _ rfl
    rw [show off + (j * ansS.size + 0) = off + j by show off + (j * 1 + 0) = off + j; omega] at this
    exact ⟨b, off, none, 0, 0, ha, hF, hb, this, by simp⟩
  | some v =>
    rw [hx] at hr
    obtain ⟨hv, A, C, css, rfl, _, _, h3, h4⟩ := hr
    have := hc 0 _ rfl
    rw [show off + (j * ansS.size + 0) = off + j by show off + (j * 1 + 0) = off + j; omega] at this
    refine ⟨b, off, A, v.length, C, ha, hF, hb, this, ⟨fun e => ?_, fun e => by cases e⟩⟩
    subst e
    exfalso
    apply hv
    rcases h4 with h0 | ⟨b', o', h0, _⟩
    · have hfl := flat_len (Shape.all_len h3)
      rw [h0, h3.1] at hfl
      have : v.length * 1 = 0 := hfl.symm
      exact List.eq_nil_of_length_eq_zero (by omega)
    · cases h0

/-! ### What a method may write -/
/-- Neither the fleet's own blocks nor those of others. -/
def Out (O V : Nat → Prop) (b : Nat) : Prop := ¬ V b ∧ ¬ O b
/-- From w to w': of the old blocks only such of V are written; V' is V and new ones. -/
structure Mv (V V' : Nat → Prop) (w w' : World) : Prop where
  os : w'.os = w.os
  tape : w'.tape = w.tape
  output : w'.output = w.output
  size : w.heap.size ≤ w'.heap.size
  block : ∀ b, b < w.heap.size → ¬ V b → w'.heap[b]? = w.heap[b]?
  more : ∀ b, V b → V' b
  new : ∀ b, V' b → V b ∨ w.heap.size ≤ b
section
variable {O V V' V2 : Nat → Prop} {w w' w2 : World}
theorem Mv.refl (V : Nat → Prop) (w : World) : Mv V V w w := ⟨rfl, rfl, rfl, Nat.le_refl _, fun _ _ _ => rfl, fun _ h => h, fun _ h => .inl h⟩
theorem Mv.trans (h : Mv V V' w w') (k : Mv V' V2 w' w2) : Mv V V2 w w2 :=
  ⟨k.os.trans h.os, k.tape.trans h.tape, k.output.trans h.output, Nat.le_trans h.size k.size, fun b hb hn => (k.block b (Nat.lt_of_lt_of_le hb h.size) (fun hv => (h.new b hv).elim hn (fun hle => by omega))).trans (h.block b hb hn), fun b hv => k.more b (h.more b hv), fun b hv => (k.new b hv).elim (fun h1 => h.new b h1) (fun h1 => .inr (Nat.le_trans h.size h1))⟩
theorem Mv.of_bel (h : Below w.heap.size w w') : Mv V V w w' := ⟨h.os, h.tape, h.output, h.size, fun b hb _ => h.block b hb, fun _ h => h, fun _ h => .inl h⟩
theorem Mv.bel (h : Mv V V' w w') (k : Below w'.heap.size w' w2) : Mv V V' w w2 := h.trans (.of_bel k)
theorem Mv.set (h : Mv V V' w w') {p i : Nat} (hp : V' p) (v : Value) : Mv V V' w (w'.setCell ⟨p, i, none⟩ v) := by
  have hb : Below p w' (w'.setCell ⟨p, i, none⟩ v) := bel_put (Below.refl _ _) (Nat.le_refl _) v
  exact h.trans ⟨hb.os, hb.tape, hb.output, hb.size, fun b _ hn => Below.heap_setCell w' _ v b (fun e => hn (e ▸ hp)), fun _ h => h, fun _ h => .inl h⟩
/-- One block more. -/
theorem Mv.wide (h : Mv V V' w w') {g : Nat} (hg : w.heap.size ≤ g) : Mv V (fun b => V' b ∨ b = g) w w' := ⟨h.os, h.tape, h.output, h.size, h.block, fun b hb => .inl (h.more b hb), fun b hb => hb.elim (h.new b) (fun e => .inr (e ▸ hg))⟩
theorem Mv.below (h : Mv V V' w w') {B : Nat} (hV : ∀ b, V b → B ≤ b) (hB : B ≤ w.heap.size) {w0 : World} (k : Below B w0 w) : Below B w0 w' := k.trans ⟨h.os, h.tape, h.output, h.size, fun b hb => h.block b (by omega) (fun hv => by have := hV b hv; omega)⟩
theorem Mv.base (h : Mv V V' w w') {B : Nat} (hV : ∀ b, V b → B ≤ b) (hB : B ≤ w.heap.size) : ∀ b, V' b → B ≤ b := fun b hb => (h.new b hb).elim (hV b) (fun h1 => by omega)
end

/-! ### A fleet -/
def enc (m : Wx.Msg) : ByteArray := ⟨(Wx.put m).toArray⟩
structure FlReps (O V : Nat → Prop) (w : World) (p : Nat) (ms : List Ly) (s : Ft.St) (q : List Pt) (la : Option Addr) (ln lc : Nat) (ha : Option Addr) (hn hc : Nat) (a0 : Option Addr) (n0 c0 : Nat) (a1 : Option Addr) (n1 c1 : Nat) (a2 : Option Addr) (n2 c2 : Nat) (a3 : Option Addr) (n3 c3 : Nat) (fa : Option Addr) (fn fc : Nat) (ta : Option Addr) (tn tc : Nat) (qa : Option Addr) (qn qc : Nat) (aa : Option Addr) (an ac : Nat) : Prop where
  lt : ∀ b, V b → b < w.heap.size
  olt : ∀ b, O b → b < w.heap.size
  dis : ∀ b, V b → ¬ O b
  vp : V p
  m : lysS.rep w (Out O V) [.slice la ln lc] ms
  h : matS.rep w (Out O V) [.slice ha hn hc] s.h
  g0 : ensS.rep w (Out O V) [.slice a0 n0 c0] (s.ls.getD 0 [])
  g1 : ensS.rep w (Out O V) [.slice a1 n1 c1] (s.ls.getD 1 [])
  g2 : ensS.rep w (Out O V) [.slice a2 n2 c2] (s.ls.getD 2 [])
  g3 : ensS.rep w (Out O V) [.slice a3 n3 c3] (s.ls.getD 3 [])
  f : bagS.rep w (Out O V) [.slice fa fn fc] (s.bag.map enc)
  t : matS.rep w (Out O V) [.slice ta tn tc] s.toks
  q : ptsS.rep w (Out O V) [.slice qa qn qc] q
  a : Own (inS ansS (Out O V)) w 0 31 (.slice aa an ac) s.ans
  av : ∀ b, Value.ownBlock (.slice aa an ac) = some b → V b ∧ b ≠ p
section
variable {O V : Nat → Prop} {w w' : World} {p : Nat} {dim : Int} {ms : List Ly} {s : Ft.St} {q : List Pt} {la : Option Addr} {ln lc : Nat} {ha : Option Addr} {hn hc : Nat} {a0 : Option Addr} {n0 c0 : Nat} {a1 : Option Addr} {n1 c1 : Nat} {a2 : Option Addr} {n2 c2 : Nat} {a3 : Option Addr} {n3 c3 : Nat} {fa : Option Addr} {fn fc : Nat} {ta : Option Addr} {tn tc : Nat} {qa : Option Addr} {qn qc : Nat} {aa : Option Addr} {an ac : Nat}
theorem FlReps.keep (H : FlReps O V w p ms s q la ln lc ha hn hc a0 n0 c0 a1 n1 c1 a2 n2 c2 a3 n3 c3 fa fn fc ta tn tc qa qn qc aa an ac) (hb : Below w.heap.size w w') : FlReps O V w' p ms s q la ln lc ha hn hc a0 n0 c0 a1 n1 c1 a2 n2 c2 a3 n3 c3 fa fn fc ta tn tc qa qn qc aa an ac :=
  ⟨fun b hv => Nat.lt_of_lt_of_le (H.lt b hv) hb.size, fun b hv => Nat.lt_of_lt_of_le (H.olt b hv) hb.size, H.dis, H.vp, Shape.below H.m hb, Shape.below H.h hb, Shape.below H.g0 hb, Shape.below H.g1 hb, Shape.below H.g2 hb, Shape.below H.g3 hb, Shape.below H.f hb, Shape.below H.t hb, Shape.below H.q hb, H.a.keep hb, H.av⟩
/-- A store into the fleet's own block. -/
theorem FlReps.set (H : FlReps O V w p ms s q la ln lc ha hn hc a0 n0 c0 a1 n1 c1 a2 n2 c2 a3 n3 c3 fa fn fc ta tn tc qa qn qc aa an ac) (i : Nat) (v : Value) : FlReps O V (w.setCell ⟨p, i, none⟩ v) p ms s q la ln lc ha hn hc a0 n0 c0 a1 n1 c1 a2 n2 c2 a3 n3 c3 fa fn fc ta tn tc qa qn qc aa an ac := by
  have hP : ∀ b, Out O V b → b ≠ p := fun b hb e => hb.1 (e ▸ H.vp)
  have hs : (w.setCell ⟨p, i, none⟩ v).heap.size = w.heap.size := by simp
  have hk : ∀ b, Out O V b → b < w.heap.size → (w.setCell ⟨p, i, none⟩ v).heap[b]? = w.heap[b]? := fun b hb _ => Below.heap_setCell w _ v b (hP b hb)
  exact ⟨fun b hv => by rw [hs]; exact H.lt b hv, fun b hv => by rw [hs]; exact H.olt b hv, H.dis, H.vp, Shape.keep _ H.m hk, Shape.keep _ H.h hk, Shape.keep _ H.g0 hk, Shape.keep _ H.g1 hk, Shape.keep _ H.g2 hk, Shape.keep _ H.g3 hk, Shape.keep _ H.f hk, Shape.keep _ H.t hk, Shape.keep _ H.q hk, H.a.aside (grown_set w p i v) hP (fun e => (H.av p e).2 rfl), H.av⟩
/-- Where others' blocks are written, or this fleet's set grows by new ones. -/
theorem FlReps.wide {V' : Nat → Prop} (H : FlReps O V w p ms s q la ln lc ha hn hc a0 n0 c0 a1 n1 c1 a2 n2 c2 a3 n3 c3 fa fn fc ta tn tc qa qn qc aa an ac) (h1 : ∀ b, V b → V' b) (h2 : ∀ b, V' b → V b ∨ w.heap.size ≤ b) (h3 : ∀ b, V' b → b < w'.heap.size) (hb : Below w.heap.size w w') : FlReps O V' w' p ms s q la ln lc ha hn hc a0 n0 c0 a1 n1 c1 a2 n2 c2 a3 n3 c3 fa fn fc ta tn tc qa qn qc aa an ac := by
  have H2 := H.keep hb
  have hm : ∀ b, Out O V b → b < w.heap.size → Out O V' b := fun b hb hlt => ⟨fun hv => (h2 b hv).elim hb.1 (fun h => by omega), hb.2⟩
  have hd : ∀ b, V' b → ¬ O b := fun b hv ho => (h2 b hv).elim (fun h => H.dis b h ho) (fun h => by have := H.olt b ho; omega)
  refine ⟨h3, H2.olt, hd, h1 _ H.vp, Shape.below (Shape.mono _ H.m hm) hb, Shape.below (Shape.mono _ H.h hm) hb, Shape.below (Shape.mono _ H.g0 hm) hb, Shape.below (Shape.mono _ H.g1 hm) hb, Shape.below (Shape.mono _ H.g2 hm) hb, Shape.below (Shape.mono _ H.g3 hm) hb, Shape.below (Shape.mono _ H.f hm) hb, Shape.below (Shape.mono _ H.t hm) hb, Shape.below (Shape.mono _ H.q hm) hb, ?_, fun b hb => ⟨h1 _ (H.av b hb).1, (H.av b hb).2⟩⟩
  obtain ⟨css, k1, k2⟩ := H.a
  have k3 : Own (inS ansS (Out O V')) w 0 31 (.slice aa an ac) s.ans := ⟨css, k1, k2.1, fun j d x hd hx => ansS.mono (k2.2 j d x hd hx) fun b hb hlt => ⟨hb.1, hm b hb.2 hlt⟩⟩
  exact k3.keep hb
/-- Another fleet has moved. -/
theorem FlReps.other {O' : Nat → Prop} (H : FlReps O V w p ms s q la ln lc ha hn hc a0 n0 c0 a1 n1 c1 a2 n2 c2 a3 n3 c3 fa fn fc ta tn tc qa qn qc aa an ac) (hm : Mv O O' w w') (ho : ∀ b, O' b → b < w'.heap.size) : FlReps O' V w' p ms s q la ln lc ha hn hc a0 n0 c0 a1 n1 c1 a2 n2 c2 a3 n3 c3 fa fn fc ta tn tc qa qn qc aa an ac := by
  have hP : ∀ b, Out O V b → b < w.heap.size → Out O' V b := fun b hb hlt => ⟨hb.1, fun h => (hm.new b h).elim hb.2 (fun h => by omega)⟩
  have hk : ∀ b, Out O V b → b < w.heap.size → w'.heap[b]? = w.heap[b]? := fun b hb hlt => hm.block b hlt hb.2
  have hd : ∀ b, V b → ¬ O' b := fun b hv h => (hm.new b h).elim (H.dis b hv) (fun h => by have := H.lt b hv; omega)
  have hk2 : ∀ b, Out O' V b → b < w.heap.size → w'.heap[b]? = w.heap[b]? := fun b hb hlt => hm.block b hlt (fun h => hb.2 (hm.more b h))
  refine ⟨fun b hv => Nat.lt_of_lt_of_le (H.lt b hv) hm.size, ho, hd, H.vp, Shape.keep _ (Shape.mono _ H.m hP) hk2, Shape.keep _ (Shape.mono _ H.h hP) hk2, Shape.keep _ (Shape.mono _ H.g0 hP) hk2, Shape.keep _ (Shape.mono _ H.g1 hP) hk2, Shape.keep _ (Shape.mono _ H.g2 hP) hk2, Shape.keep _ (Shape.mono _ H.g3 hP) hk2, Shape.keep _ (Shape.mono _ H.f hP) hk2, Shape.keep _ (Shape.mono _ H.t hP) hk2, Shape.keep _ (Shape.mono _ H.q hP) hk2, ?_, H.av⟩
  obtain ⟨css, k1, k2⟩ := H.a
  refine ⟨css, ⟨k1.1, ?_⟩, k2.1, fun j d x hd hx => ansS.keep (ansS.mono (k2.2 j d x hd hx) fun b hb hlt => ⟨hb.1, hP b hb.2 hlt⟩) fun b hb hlt => hk2 b hb.2 hlt⟩
  rcases k1.2 with h0 | ⟨g, cap, cur, he, hb, hgg, rest⟩
  · exact .inl h0
  · refine .inr ⟨g, cap, cur, he, hb, ?_, rest⟩
    have hg := (H.av g (by rw [he]; rfl)).1
    rw [hm.block g (H.lt g hg) (H.dis g hg)]
    exact hgg
end
/-- A fleet: the block p, and what it leads to; q: its parts. -/
def FlAt (O V : Nat → Prop) (w : World) (p : Nat) (dim : Int) (ms : List Ly) (s : Ft.St) (q : List Pt) : Prop :=
  ∃ (la : Option Addr) (ln lc : Nat) (ha : Option Addr) (hn hc : Nat) (a0 : Option Addr) (n0 c0 : Nat) (a1 : Option Addr) (n1 c1 : Nat) (a2 : Option Addr) (n2 c2 : Nat) (a3 : Option Addr) (n3 c3 : Nat) (fa : Option Addr) (fn fc : Nat) (ta : Option Addr) (tn tc : Nat) (qa : Option Addr) (qn qc : Nat) (aa : Option Addr) (an ac : Nat), Box w p 92 #[.int .i64 dim, .slice la ln lc, .int .i64 s.e, .slice ha hn hc, .slice a0 n0 c0, .slice a1 n1 c1, .slice a2 n2 c2, .slice a3 n3 c3, .slice fa fn fc, .int .i64 (s.lay : Int), .slice ta tn tc, .slice qa qn qc, .slice aa an ac] ∧ FlReps O V w p ms s q la ln lc ha hn hc a0 n0 c0 a1 n1 c1 a2 n2 c2 a3 n3 c3 fa fn fc ta tn tc qa qn qc aa an ac
section
variable {O V : Nat → Prop} {w w' : World} {p : Nat} {dim : Int} {ms : List Ly} {s : Ft.St} {q : List Pt}
theorem FlAt.keep (H : FlAt O V w p dim ms s q) (hb : Below w.heap.size w w') : FlAt O V w' p dim ms s q := by
  obtain ⟨la, ln, lc, ha, hn, hc, a0, n0, c0, a1, n1, c1, a2, n2, c2, a3, n3, c3, fa, fn, fc, ta, tn, tc, qa, qn, qc, aa, an, ac, hx, hr⟩ := H
  exact ⟨la, ln, lc, ha, hn, hc, a0, n0, c0, a1, n1, c1, a2, n2, c2, a3, n3, c3, fa, fn, fc, ta, tn, tc, qa, qn, qc, aa, an, ac, hx.keep hb, hr.keep hb⟩
theorem FlAt.there (H : FlAt O V w p dim ms s q) : V p ∧ (∀ b, V b → b < w.heap.size) ∧ ∀ b, O b → b < w.heap.size := by
  obtain ⟨la, ln, lc, ha, hn, hc, a0, n0, c0, a1, n1, c1, a2, n2, c2, a3, n3, c3, fa, fn, fc, ta, tn, tc, qa, qn, qc, aa, an, ac, hx, hr⟩ := H
  exact ⟨hr.vp, hr.lt, hr.olt⟩
theorem FlAt.other {O' : Nat → Prop} (H : FlAt O V w p dim ms s q) (hm : Mv O O' w w') (ho : ∀ b, O' b → b < w'.heap.size) : FlAt O' V w' p dim ms s q := by
  obtain ⟨la, ln, lc, ha, hn, hc, a0, n0, c0, a1, n1, c1, a2, n2, c2, a3, n3, c3, fa, fn, fc, ta, tn, tc, qa, qn, qc, aa, an, ac, hx, hr⟩ := H
  exact ⟨la, ln, lc, ha, hn, hc, a0, n0, c0, a1, n1, c1, a2, n2, c2, a3, n3, c3, fa, fn, fc, ta, tn, tc, qa, qn, qc, aa, an, ac, (hm.block p hx.lt (hr.dis p hr.vp)).trans hx, hr.other hm ho⟩
end

/-! ### What lies in no fleet's own blocks, by what it holds -/
/-- Texts. -/
theorem FlReps.texts {O V : Nat → Prop} {w : World} {F : Nat → Prop} {a : Option Addr} {n c : Nat} {l : List ByteArray} (h : bagS.rep w F [.slice a n c] l) (hX : ∀ b, V b ∨ O b → b < w.heap.size → ∀ i t, w.cell? ⟨b, i, none⟩ ≠ some (.string t)) : bagS.rep w (Out O V) [.slice a n c] l := by
  obtain ⟨a', c', css, he, h1, h2, h3, h4⟩ := h
  refine ⟨a', c', css, he, h1, h2, ⟨h3.1, fun j d x hd hx => h3.2 j d x hd hx⟩, ?_⟩
  rcases h4 with h0 | ⟨b, off, ha, hF, hb, hc⟩
  · exact .inl h0
  · by_cases hn : css.flatten = []
    · exact .inl hn
    · obtain ⟨u, r, hur⟩ := List.exists_cons_of_ne_nil hn
      have hu : css.flatten[0]? = some u := by rw [hur]; rfl
      have hm : u ∈ css.flatten := by rw [hur]; simp
      obtain ⟨d, hd, hud⟩ := List.mem_flatten.1 hm
      obtain ⟨j, hj⟩ := List.getElem?_of_mem hd
      have hjl : j < css.length := (List.getElem?_eq_some_iff.1 hj).1
      have hk : d = [.string _] := h3.2 j d _ hj (List.getElem?_eq_getElem (by rw [← h3.1]; exact hjl))
      rw [hk] at hud
      have hus := List.mem_singleton.1 hud
      have h9 := hc 0 u hu
      rw [hus] at h9
      exact .inr ⟨b, off, ha, ⟨fun hv => hX b (.inl hv) hb _ _ h9, fun ho => hX b (.inr ho) hb _ _ h9⟩, hb, hc⟩

end Go.Proofs.YtokfcjgfpchffaaGreatDoor

/- What is stored into a fleet. -/
namespace Go.Proofs.YtokfcjgfpchffaaGreatDoor
open Go.ChangeShapes Go.WideShapes Go.ChangeAt Go.RowKit


section
variable {O V : Nat → Prop} {w : World} {p : Nat} {dim : Int} {ms : List Ly} {s : Ft.St} {q : List Pt}
/-- The letters of a fleet at hand: what is stored, what it is then. -/
structure FlOn (O V : Nat → Prop) (w : World) (p : Nat) (dim : Int) (ms : List Ly) (s : Ft.St) (q : List Pt) (la : Option Addr) (ln lc : Nat) (ha : Option Addr) (hn hc : Nat) (a0 : Option Addr) (n0 c0 : Nat) (a1 : Option Addr) (n1 c1 : Nat) (a2 : Option Addr) (n2 c2 : Nat) (a3 : Option Addr) (n3 c3 : Nat) (fa : Option Addr) (fn fc : Nat) (ta : Option Addr) (tn tc : Nat) (qa : Option Addr) (qn qc : Nat) (aa : Option Addr) (an ac : Nat) : Prop where
  box : Box w p 92 #[.int .i64 dim, .slice la ln lc, .int .i64 s.e, .slice ha hn hc, .slice a0 n0 c0, .slice a1 n1 c1, .slice a2 n2 c2, .slice a3 n3 c3, .slice fa fn fc, .int .i64 (s.lay : Int), .slice ta tn tc, .slice qa qn qc, .slice aa an ac]
  r : FlReps O V w p ms s q la ln lc ha hn hc a0 n0 c0 a1 n1 c1 a2 n2 c2 a3 n3 c3 fa fn fc ta tn tc qa qn qc aa an ac
theorem FlAt.on (H : FlAt O V w p dim ms s q) : ∃ (la : Option Addr) (ln lc : Nat) (ha : Option Addr) (hn hc : Nat) (a0 : Option Addr) (n0 c0 : Nat) (a1 : Option Addr) (n1 c1 : Nat) (a2 : Option Addr) (n2 c2 : Nat) (a3 : Option Addr) (n3 c3 : Nat) (fa : Option Addr) (fn fc : Nat) (ta : Option Addr) (tn tc : Nat) (qa : Option Addr) (qn qc : Nat) (aa : Option Addr) (an ac : Nat), FlOn O V w p dim ms s q la ln lc ha hn hc a0 n0 c0 a1 n1 c1 a2 n2 c2 a3 n3 c3 fa fn fc ta tn tc qa qn qc aa an ac := by
  obtain ⟨la, ln, lc, ha, hn, hc, a0, n0, c0, a1, n1, c1, a2, n2, c2, a3, n3, c3, fa, fn, fc, ta, tn, tc, qa, qn, qc, aa, an, ac, hx, hr⟩ := H
  exact ⟨la, ln, lc, ha, hn, hc, a0, n0, c0, a1, n1, c1, a2, n2, c2, a3, n3, c3, fa, fn, fc, ta, tn, tc, qa, qn, qc, aa, an, ac, hx, hr⟩
end
section
variable {O V : Nat → Prop} {w w' : World} {p : Nat} {dim : Int} {ms : List Ly} {s : Ft.St} {q : List Pt} {la : Option Addr} {ln lc : Nat} {ha : Option Addr} {hn hc : Nat} {a0 : Option Addr} {n0 c0 : Nat} {a1 : Option Addr} {n1 c1 : Nat} {a2 : Option Addr} {n2 c2 : Nat} {a3 : Option Addr} {n3 c3 : Nat} {fa : Option Addr} {fn fc : Nat} {ta : Option Addr} {tn tc : Nat} {qa : Option Addr} {qn qc : Nat} {aa : Option Addr} {an ac : Nat}
theorem FlOn.keep (H : FlOn O V w p dim ms s q la ln lc ha hn hc a0 n0 c0 a1 n1 c1 a2 n2 c2 a3 n3 c3 fa fn fc ta tn tc qa qn qc aa an ac) (hb : Below w.heap.size w w') : FlOn O V w' p dim ms s q la ln lc ha hn hc a0 n0 c0 a1 n1 c1 a2 n2 c2 a3 n3 c3 fa fn fc ta tn tc qa qn qc aa an ac := ⟨H.box.keep hb, H.r.keep hb⟩
theorem FlOn.at (H : FlOn O V w p dim ms s q la ln lc ha hn hc a0 n0 c0 a1 n1 c1 a2 n2 c2 a3 n3 c3 fa fn fc ta tn tc qa qn qc aa an ac) : FlAt O V w p dim ms s q := ⟨la, ln, lc, ha, hn, hc, a0, n0, c0, a1, n1, c1, a2, n2, c2, a3, n3, c3, fa, fn, fc, ta, tn, tc, qa, qn, qc, aa, an, ac, H.box, H.r⟩
theorem out_set {α : Type} {A : Shape α} {cs : List Value} {x : α} (hr : FlReps O V w p ms s q la ln lc ha hn hc a0 n0 c0 a1 n1 c1 a2 n2 c2 a3 n3 c3 fa fn fc ta tn tc qa qn qc aa an ac) (h : A.rep w (Out O V) cs x) (i : Nat) (v : Value) : A.rep (w.setCell ⟨p, i, none⟩ v) (Out O V) cs x :=
  A.keep h fun b hb _ => Below.heap_setCell w _ v b (fun e => hb.1 (e ▸ hr.vp))
theorem out_new {α : Type} {A : Shape α} {cs : List Value} {x : α} {W : World} (hr : FlReps O V w p ms s q la ln lc ha hn hc a0 n0 c0 a1 n1 c1 a2 n2 c2 a3 n3 c3 fa fn fc ta tn tc qa qn qc aa an ac) (h : A.rep W (w.heap.size ≤ ·) cs x) : A.rep W (Out O V) cs x :=
  A.mono h fun b hb _ => ⟨fun hv => by have := hr.lt b hv; have h7 : w.heap.size ≤ b := hb; omega, fun ho => by have := hr.olt b ho; have h7 : w.heap.size ≤ b := hb; omega⟩
/-- The bag. -/
theorem FlOn.bag (H : FlOn O V w p dim ms s q la ln lc ha hn hc a0 n0 c0 a1 n1 c1 a2 n2 c2 a3 n3 c3 fa fn fc ta tn tc qa qn qc aa an ac) {b : List Wx.Msg} {fa' : Option Addr} {fn' fc' : Nat} (h : bagS.rep w (Out O V) [.slice fa' fn' fc'] (b.map enc)) : FlAt O V (w.setCell ⟨p, 8, none⟩ (.slice fa' fn' fc')) p dim ms { s with bag := b } q := by
  have hr := H.r.set 8 (.slice fa' fn' fc')
  exact ⟨la, ln, lc, ha, hn, hc, a0, n0, c0, a1, n1, c1, a2, n2, c2, a3, n3, c3, fa', fn', fc', ta, tn, tc, qa, qn, qc, aa, an, ac, H.box.set 8 _, ⟨hr.lt, hr.olt, hr.dis, hr.vp, hr.m, hr.h, hr.g0, hr.g1, hr.g2, hr.g3, out_set H.r h 8 _, hr.t, hr.q, hr.a, hr.av⟩⟩
/-- The layer. -/
theorem FlOn.lay (H : FlOn O V w p dim ms s q la ln lc ha hn hc a0 n0 c0 a1 n1 c1 a2 n2 c2 a3 n3 c3 fa fn fc ta tn tc qa qn qc aa an ac) (L : Nat) {x : Int} (hx : x = (L : Int)) : FlAt O V (w.setCell ⟨p, 9, none⟩ (.int .i64 x)) p dim ms { s with lay := L } q := by
  subst hx
  have hr := H.r.set 9 (.int .i64 (L : Int))
  exact ⟨la, ln, lc, ha, hn, hc, a0, n0, c0, a1, n1, c1, a2, n2, c2, a3, n3, c3, fa, fn, fc, ta, tn, tc, qa, qn, qc, aa, an, ac, H.box.set 9 _, ⟨hr.lt, hr.olt, hr.dis, hr.vp, hr.m, hr.h, hr.g0, hr.g1, hr.g2, hr.g3, hr.f, hr.t, hr.q, hr.a, hr.av⟩⟩
/-- The tokens. -/
theorem FlOn.toks (H : FlOn O V w p dim ms s q la ln lc ha hn hc a0 n0 c0 a1 n1 c1 a2 n2 c2 a3 n3 c3 fa fn fc ta tn tc qa qn qc aa an ac) {t : List (List Int)} {ta' : Option Addr} {tn' tc' : Nat} (h : matS.rep w (Out O V) [.slice ta' tn' tc'] t) : FlAt O V (w.setCell ⟨p, 10, none⟩ (.slice ta' tn' tc')) p dim ms { s with toks := t } q := by
  have hr := H.r.set 10 (.slice ta' tn' tc')
  exact ⟨la, ln, lc, ha, hn, hc, a0, n0, c0, a1, n1, c1, a2, n2, c2, a3, n3, c3, fa, fn, fc, ta', tn', tc', qa, qn, qc, aa, an, ac, H.box.set 10 _, ⟨hr.lt, hr.olt, hr.dis, hr.vp, hr.m, hr.h, hr.g0, hr.g1, hr.g2, hr.g3, hr.f, out_set H.r h 10 _, hr.q, hr.a, hr.av⟩⟩
/-- The parts. -/
theorem FlOn.parts (H : FlOn O V w p dim ms s q la ln lc ha hn hc a0 n0 c0 a1 n1 c1 a2 n2 c2 a3 n3 c3 fa fn fc ta tn tc qa qn qc aa an ac) {x : List Pt} {qa' : Option Addr} {qn' qc' : Nat} (h : ptsS.rep w (Out O V) [.slice qa' qn' qc'] x) : FlAt O V (w.setCell ⟨p, 11, none⟩ (.slice qa' qn' qc')) p dim ms s x := by
  have hr := H.r.set 11 (.slice qa' qn' qc')
  exact ⟨la, ln, lc, ha, hn, hc, a0, n0, c0, a1, n1, c1, a2, n2, c2, a3, n3, c3, fa, fn, fc, ta, tn, tc, qa', qn', qc', aa, an, ac, H.box.set 11 _, ⟨hr.lt, hr.olt, hr.dis, hr.vp, hr.m, hr.h, hr.g0, hr.g1, hr.g2, hr.g3, hr.f, hr.t, out_set H.r h 11 _, hr.a, hr.av⟩⟩
/-- New answers, in a block of their own. -/
theorem FlOn.ans {x : List (Option (List Int))} {g n c : Nat} (H : FlOn O V w p dim ms s q la ln lc ha hn hc a0 n0 c0 a1 n1 c1 a2 n2 c2 a3 n3 c3 fa fn fc ta tn tc qa qn qc aa an ac) (hb : Below w.heap.size w w') (ho : Own ansS w' w.heap.size 31 (.slice (some ⟨g, 0, none⟩) n c) x) (hz : ∀ y ∈ x, y = none) :
    FlAt O (fun b => V b ∨ b = g) (w'.setCell ⟨p, 12, none⟩ (.slice (some ⟨g, 0, none⟩) n c)) p dim ms { s with ans := x } q := by
  have hg := ho.lt g rfl
  have hpg : p ≠ g := by have := H.box.lt; omega
  have hr0 := H.r.wide (V' := fun b => V b ∨ b = g) (w' := w') (fun b h => .inl h) (fun b h => h.elim .inl (fun e => .inr (e ▸ hg.1))) (fun b h => h.elim (fun h => Nat.lt_of_lt_of_le (H.r.lt b h) hb.size) (fun e => e ▸ hg.2)) hb
  have hr := hr0.set 12 (.slice (some ⟨g, 0, none⟩) n c)
  have ho2 : Own (inS ansS (Out O (fun b => V b ∨ b = g))) w' 0 31 (.slice (some ⟨g, 0, none⟩) n c) x := by
    obtain ⟨css, h1, h2⟩ := ho
    refine ⟨css, ⟨h1.1, ?_⟩, h2.1, fun j d y hd hy => by
      have e := hz y (List.mem_of_getElem? hy)
      subst e
      exact h2.2 j d none hd hy⟩
    rcases h1.2 with h0 | ⟨g', cap, cur, he, hb, hgg, rest⟩
    · exact .inl h0
    · exact .inr ⟨g', cap, cur, he, Nat.zero_le _, hgg, rest⟩
  refine ⟨la, ln, lc, ha, hn, hc, a0, n0, c0, a1, n1, c1, a2, n2, c2, a3, n3, c3, fa, fn, fc, ta, tn, tc, qa, qn, qc, some ⟨g, 0, none⟩, n, c, (H.box.keep hb).set 12 _, ⟨hr.lt, hr.olt, hr.dis, hr.vp, hr.m, hr.h, hr.g0, hr.g1, hr.g2, hr.g3, hr.f, hr.t, hr.q, ?_, fun b hb => ?_⟩⟩
  · exact ho2.aside (grown_set w' p 12 _) (fun b hb e => hb.1 (.inl (e ▸ H.r.vp))) (fun e => hpg (Option.some.inj e).symm)
  · have e : b = g := (Option.some.inj hb).symm
    exact ⟨.inr e, fun h => hpg (h.symm.trans e)⟩
/-- An answer is put in its place. -/
theorem FlOn.answer (H : FlOn O V w p dim ms s q la ln lc ha hn hc a0 n0 c0 a1 n1 c1 a2 n2 c2 a3 n3 c3 fa fn fc ta tn tc qa qn qc aa an ac) {g : Nat} (hg : aa = some ⟨g, 0, none⟩) {j : Nat} (hj : j < an) {v : List Int} (hv : v ≠ []) {A : Option Addr} {N C : Nat} (h : rowS.rep w (Out O V) [.slice A N C] v) :
    (∃ z, w.cell? ⟨g, j, none⟩ = some z) ∧ w.frozen? ⟨g, j, none⟩ = false ∧ V g ∧ FlAt O V (w.setCell ⟨g, j, none⟩ (.slice A N C)) p dim ms { s with ans := s.ans.set j (some v) } q := by
  subst hg
  obtain ⟨hvg, hgp⟩ := H.r.av g rfl
  have hP : ∀ b, Out O V b → b ≠ g := fun b hb e => hb.1 (e ▸ hvg)
  obtain ⟨hz, hf, ho⟩ := H.r.a.store rfl hj (v := .slice A N C) (x := some v) (F := Out O V) (inS_of (P := Out O V) (ans_some h hv) (fun _ hb => hb)) hP
  have hs : (w.setCell ⟨g, j, none⟩ (.slice A N C)).heap.size = w.heap.size := by simp
  have hk : ∀ b, Out O V b → b < w.heap.size → (w.setCell ⟨g, j, none⟩ (.slice A N C)).heap[b]? = w.heap[b]? := fun b hb _ => Below.heap_setCell w _ _ b (hP b hb)
  have hr := H.r
  exact ⟨hz, hf, hvg, la, ln, lc, ha, hn, hc, a0, n0, c0, a1, n1, c1, a2, n2, c2, a3, n3, c3, fa, fn, fc, ta, tn, tc, qa, qn, qc, some ⟨g, 0, none⟩, an, ac, H.box.other _ (fun e => hgp e.symm), ⟨fun b hv => by rw [hs]; exact hr.lt b hv, fun b hv => by rw [hs]; exact hr.olt b hv, hr.dis, hr.vp, Shape.keep _ hr.m hk, Shape.keep _ hr.h hk, Shape.keep _ hr.g0 hk, Shape.keep _ hr.g1 hk, Shape.keep _ hr.g2 hk, Shape.keep _ hr.g3 hk, Shape.keep _ hr.f hk, Shape.keep _ hr.t hk, Shape.keep _ hr.q hk, ho, hr.av⟩⟩
/-- The map: both its cells. -/
theorem FlOn.map (H : FlOn O V w p dim ms s q la ln lc ha hn hc a0 n0 c0 a1 n1 c1 a2 n2 c2 a3 n3 c3 fa fn fc ta tn tc qa qn qc aa an ac) {e : Int} {h : List (List Int)} {ha' : Option Addr} {hn' hc' : Nat} (hm : matS.rep w (Out O V) [.slice ha' hn' hc'] h) : FlAt O V ((w.setCell ⟨p, 2, none⟩ (.int .i64 e)).setCell ⟨p, 3, none⟩ (.slice ha' hn' hc')) p dim ms { s with e := e, h := h } q := by
  have hr1 := H.r.set 2 (.int .i64 e)
  have hr := hr1.set 3 (.slice ha' hn' hc')
  exact ⟨la, ln, lc, ha', hn', hc', a0, n0, c0, a1, n1, c1, a2, n2, c2, a3, n3, c3, fa, fn, fc, ta, tn, tc, qa, qn, qc, aa, an, ac, (H.box.set 2 _).set 3 _, ⟨hr.lt, hr.olt, hr.dis, hr.vp, hr.m, out_set hr1 (out_set H.r hm 2 _) 3 _, hr.g0, hr.g1, hr.g2, hr.g3, hr.f, hr.t, hr.q, hr.a, hr.av⟩⟩
/-- The ledger of one node. -/
theorem FlOn.led (H : FlOn O V w p dim ms s q la ln lc ha hn hc a0 n0 c0 a1 n1 c1 a2 n2 c2 a3 n3 c3 fa fn fc ta tn tc qa qn qc aa an ac) (h4 : s.ls.length = 4) {k : Nat} (hk : k < 4) {l : List En} {a' : Option Addr} {n' c' : Nat} (hl : ensS.rep w (Out O V) [.slice a' n' c'] l) : FlAt O V (w.setCell ⟨p, 4 + k, none⟩ (.slice a' n' c')) p dim ms { s with ls := s.ls.set k l } q := by
  have hr := H.r.set (4 + k) (.slice a' n' c')
  have hl' := out_set H.r hl (4 + k) (.slice a' n' c')
  match hls : s.ls, h4 with
  | [l0, l1, l2, l3], _ =>
    have g0 := hr.g0; have g1 := hr.g1; have g2 := hr.g2; have g3 := hr.g3
    rw [hls] at g0 g1 g2 g3
    rcases (by omega : k = 0 ∨ k = 1 ∨ k = 2 ∨ k = 3) with rfl | rfl | rfl | rfl
    · exact ⟨la, ln, lc, ha, hn, hc, a', n', c', a1, n1, c1, a2, n2, c2, a3, n3, c3, fa, fn, fc, ta, tn, tc, qa, qn, qc, aa, an, ac, H.box.set 4 _, ⟨hr.lt, hr.olt, hr.dis, hr.vp, hr.m, hr.h, hl', g1, g2, g3, hr.f, hr.t, hr.q, hr.a, hr.av⟩⟩
    · exact ⟨la, ln, lc, ha, hn, hc, a0, n0, c0, a', n', c', a2, n2, c2, a3, n3, c3, fa, fn, fc, ta, tn, tc, qa, qn, qc, aa, an, ac, H.box.set 5 _, ⟨hr.lt, hr.olt, hr.dis, hr.vp, hr.m, hr.h, g0, hl', g2, g3, hr.f, hr.t, hr.q, hr.a, hr.av⟩⟩
    · exact ⟨la, ln, lc, ha, hn, hc, a0, n0, c0, a1, n1, c1, a', n', c', a3, n3, c3, fa, fn, fc, ta, tn, tc, qa, qn, qc, aa, an, ac, H.box.set 6 _, ⟨hr.lt, hr.olt, hr.dis, hr.vp, hr.m, hr.h, g0, g1, hl', g3, hr.f, hr.t, hr.q, hr.a, hr.av⟩⟩
    · exact ⟨la, ln, lc, ha, hn, hc, a0, n0, c0, a1, n1, c1, a2, n2, c2, a', n', c', fa, fn, fc, ta, tn, tc, qa, qn, qc, aa, an, ac, H.box.set 7 _, ⟨hr.lt, hr.olt, hr.dis, hr.vp, hr.m, hr.h, g0, g1, g2, hl', hr.f, hr.t, hr.q, hr.a, hr.av⟩⟩
end

/-! ### The bag's texts -/
theorem enc_size (m : Wx.Msg) (h : m.vec.length ≤ 8) : (enc m).size ≤ 84 := by
  have := Wx.put_len m
  show (Wx.put m).toArray.size ≤ 84
  rw [List.size_toArray]
  omega
theorem enc_take {m : Wx.Msg} (h : Wx.right m) : Wx.take (enc m).data.toList = (m, 0) := by
  have : (enc m).data.toList = Wx.put m := by unfold enc; simp
  rw [this]
  exact Wx.take_put h
theorem put_enc (b : List Wx.Msg) (m : Wx.Msg) : Bx.put (b.map enc) (enc m) = (Ft.put b m).map enc := by
  unfold Bx.put Ft.put
  rw [List.length_map]
  by_cases h : b.length < 200
  · rw [if_pos h, if_neg (by omega)]; simp
  · rw [if_neg h, if_pos (by omega)]
theorem without_enc (b : List Wx.Msg) (i : Nat) : Bx.without (b.map enc) i = (b.eraseIdx i).map enc := by
  unfold Bx.without
  rw [List.eraseIdx_eq_take_drop_succ, List.map_append, List.map_take, List.map_drop]
theorem get_enc (b : List Wx.Msg) {i : Nat} (h : i < b.length) (d : Wx.Msg) : (b.map enc).getD i noText = enc (b.getD i d) := by
  rw [List.getD_eq_getElem?_getD, List.getD_eq_getElem?_getD, List.getElem?_map, List.getElem?_eq_getElem h]
  rfl

end Go.Proofs.YtokfcjgfpchffaaGreatDoor
