/- What is stored into a fleet. -/
import Derived.Test.YtfidgcanolegfaaGreatFltA
namespace Go.Proofs.YtfidgcanolegfaaGreat
open Go.ChangeShapes Go.WideShapes Go.ChangeAt Go.RowKit


section
variable {O V : Nat → Prop} {w : World} {p : Nat} {dim : Int} {ms : List Ly} {s : Ft.St} {q : List Pt}
/-- The letters of a fleet at hand: what is stored, what it is then. -/
structure FlOn (O V : Nat → Prop) (w : World) (p : Nat) (dim : Int) (ms : List Ly) (s : Ft.St) (q : List Pt) (la : Option Addr) (ln lc : Nat) (ha : Option Addr) (hn hc : Nat) (a0 : Option Addr) (n0 c0 : Nat) (a1 : Option Addr) (n1 c1 : Nat) (a2 : Option Addr) (n2 c2 : Nat) (a3 : Option Addr) (n3 c3 : Nat) (fa : Option Addr) (fn fc : Nat) (ta : Option Addr) (tn tc : Nat) (qa : Option Addr) (qn qc : Nat) (aa : Option Addr) (an ac : Nat) : Prop where
  box : Box w p 80 #[.int .i64 dim, .slice la ln lc, .int .i64 s.e, .slice ha hn hc, .slice a0 n0 c0, .slice a1 n1 c1, .slice a2 n2 c2, .slice a3 n3 c3, .slice fa fn fc, .int .i64 (s.lay : Int), .slice ta tn tc, .slice qa qn qc, .slice aa an ac]
  r : FlReps O V w p ms s q la ln lc ha hn hc a0 n0 c0 a1 n1 c1 a2 n2 c2 a3 n3 c3 fa fn fc ta tn tc qa qn qc aa an ac
theorem FlAt.on (H : FlAt O V w p dim ms s q) : ∃ (la : Option Addr) (ln lc : Nat) (ha : Option Addr) (hn hc : Nat) (a0 : Option Addr) (n0 c0 : Nat) (a1 : Option Addr) (n1 c1 : Nat) (a2 : Option Addr) (n2 c2 : Nat) (a3 : Option Addr) (n3 c3 : Nat) (fa : Option Addr) (fn fc : Nat) (ta : Option Addr) (tn tc : Nat) (qa : Option Addr) (qn qc : Nat) (aa : Option Addr) (an ac : Nat), FlOn O V w p dim ms s q la ln lc ha hn hc a0 n0 c0 a1 n1 c1 a2 n2 c2 a3 n3 c3 fa fn fc ta tn tc qa qn qc aa an ac := by
  obtain ⟨la, ln, lc, ha, hn, hc, a0, n0, c0, a1, n1, c1, a2, n2, c2, a3, n3, c3, fa, fn, fc, ta, tn, tc, qa, qn, qc, aa, an, ac, hx, hr⟩ := H
  exact ⟨la, ln, lc, ha, hn, hc, a0, n0, c0, a1, n1, c1, a2, n2, c2, a3, n3, c3, fa, fn, fc, ta, tn, tc, qa, qn, qc, aa, an, ac, hx, hr⟩
end
section
variable {O V : Nat → Prop} {w w' : World} {p : Nat} {dim : Int} {ms : List Ly} {s : Ft.St} {q : List Pt} {la : Option Addr} {ln lc : Nat} {ha : Option Addr} {hn hc : Nat} {a0 : Option Addr} {n0 c0 : Nat} {a1 : Option Addr} {n1 c1 : Nat} {a2 : Option Addr} {n2 c2 : Nat} {a3 : Option Addr} {n3 c3 : Nat} {fa : Option Addr} {fn fc : Nat} {ta : Option Addr} {tn tc : Nat} {qa : Option Addr} {qn qc : Nat} {aa : Option Addr} {an ac : Nat}
theorem FlOn.keep (H : FlOn O V w p dim ms s q la ln lc ha hn hc a0 n0 c0 a1 n1 c1 a2 n2 c2 a3 n3 c3 fa fn fc ta tn tc qa qn qc aa an ac) (hb : Below w.heap.size w w') : FlOn O V w' p dim ms s q la ln lc ha hn hc a0 n0 c0 a1 n1 c1 a2 n2 c2 a3 n3 c3 fa fn fc ta tn tc qa qn qc aa an ac := ⟨H.box.keep hb, H.r.keep hb⟩
theorem FlOn.at (H : FlOn O V w p dim ms s q la ln lc ha hn hc a0 n0 c0 a1 n1 c1 a2 n2 c2 a3 n3 c3 fa fn fc ta tn tc qa qn qc aa an ac) : FlAt O V w p dim ms s q := ⟨la, ln, lc, ha, hn, hc, a0, n0, c0, a1, n1, c1, a2, n2, c2, a3, n3, c3, fa, fn, fc, ta, tn, tc, qa, qn, qc, aa, an, ac, H.box, H.r⟩
theorem out_set {α : Type} {A : Shape α} {cs : List Value} {x : α} (hr : FlReps O V w p ms s q la ln lc ha hn hc a0 n0 c0 a1 n1 c1 a2 n2 c2 a3 n3 c3 fa fn fc ta tn tc qa qn qc aa an ac) (h : A.rep w (Out O V) cs x) (i : Nat) (v : Value) : A.rep (w.setCell ⟨p, i, none⟩ v) (Out O V) cs x :=
  A.keep h fun b hb _ => Below.heap_setCell w _ v b (fun e => hb.1 (e ▸ hr.vp))
theorem out_new {α : Type} {A : Shape α} {cs : List Value} {x : α} {W : World} (hr : FlReps O V w p ms s q la ln lc ha hn hc a0 n0 c0 a1 n1 c1 a2 n2 c2 a3 n3 c3 fa fn fc ta tn tc qa qn qc aa an ac) (h : A.rep W (w.heap.size ≤ ·) cs x) : A.rep W (Out O V) cs x :=
  A.mono h fun b hb _ => ⟨fun hv => by have := hr.lt b hv; have h7 : w.heap.size ≤ b := hb; omega, fun ho => by have := hr.olt b ho; have h7 : w.heap.size ≤ b := hb; omega⟩
/-- The bag. -/
theorem FlOn.bag (H : FlOn O V w p dim ms s q la ln lc ha hn hc a0 n0 c0 a1 n1 c1 a2 n2 c2 a3 n3 c3 fa fn fc ta tn tc qa qn qc aa an ac) {b : List Wx.Msg} {fa' : Option Addr} {fn' fc' : Nat} (h : bagS.rep w (Out O V) [.slice fa' fn' fc'] (b.map enc)) : FlAt O V (w.setCell ⟨p, 8, none⟩ (.slice fa' fn' fc')) p dim ms { s with bag := b } q := by
  have hr := H.r.set 8 (.slice fa' fn' fc')
  exact ⟨la, ln, lc, ha, hn, hc, a0, n0, c0, a1, n1, c1, a2, n2, c2, a3, n3, c3, fa', fn', fc', ta, tn, tc, qa, qn, qc, aa, an, ac, H.box.set 8 _, ⟨hr.lt, hr.olt, hr.dis, hr.vp, hr.m, hr.h, hr.g0, hr.g1, hr.g2, hr.g3, out_set H.r h 8 _, hr.t, hr.q, hr.a, hr.av⟩⟩
/-- The layer. -/
theorem FlOn.lay (H : FlOn O V w p dim ms s q la ln lc ha hn hc a0 n0 c0 a1 n1 c1 a2 n2 c2 a3 n3 c3 fa fn fc ta tn tc qa qn qc aa an ac) (L : Nat) {x : Int} (hx : x = (L : Int)) : FlAt O V (w.setCell ⟨p, 9, none⟩ (.int .i64 x)) p dim ms { s with lay := L } q := by
  subst hx
  have hr := H.r.set 9 (.int .i64 (L : Int))
  exact ⟨la, ln, lc, ha, hn, hc, a0, n0, c0, a1, n1, c1, a2, n2, c2, a3, n3, c3, fa, fn, fc, ta, tn, tc, qa, qn, qc, aa, an, ac, H.box.set 9 _, ⟨hr.lt, hr.olt, hr.dis, hr.vp, hr.m, hr.h, hr.g0, hr.g1, hr.g2, hr.g3, hr.f, hr.t, hr.q, hr.a, hr.av⟩⟩
/-- The tokens. -/
theorem FlOn.toks (H : FlOn O V w p dim ms s q la ln lc ha hn hc a0 n0 c0 a1 n1 c1 a2 n2 c2 a3 n3 c3 fa fn fc ta tn tc qa qn qc aa an ac) {t : List (List Int)} {ta' : Option Addr} {tn' tc' : Nat} (h : matS.rep w (Out O V) [.slice ta' tn' tc'] t) : FlAt O V (w.setCell ⟨p, 10, none⟩ (.slice ta' tn' tc')) p dim ms { s with toks := t } q := by
  have hr := H.r.set 10 (.slice ta' tn' tc')
  exact ⟨la, ln, lc, ha, hn, hc, a0, n0, c0, a1, n1, c1, a2, n2, c2, a3, n3, c3, fa, fn, fc, ta', tn', tc', qa, qn, qc, aa, an, ac, H.box.set 10 _, ⟨hr.lt, hr.olt, hr.dis, hr.vp, hr.m, hr.h, hr.g0, hr.g1, hr.g2, hr.g3, hr.f, out_set H.r h 10 _, hr.q, hr.a, hr.av⟩⟩
/-- The parts. -/
theorem FlOn.parts (H : FlOn O V w p dim ms s q la ln lc ha hn hc a0 n0 c0 a1 n1 c1 a2 n2 c2 a3 n3 c3 fa fn fc ta tn tc qa qn qc aa an ac) {x : List Pt} {qa' : Option Addr} {qn' qc' : Nat} (h : ptsS.rep w (Out O V) [.slice qa' qn' qc'] x) : FlAt O V (w.setCell ⟨p, 11, none⟩ (.slice qa' qn' qc')) p dim ms s x := by
  have hr := H.r.set 11 (.slice qa' qn' qc')
  exact ⟨la, ln, lc, ha, hn, hc, a0, n0, c0, a1, n1, c1, a2, n2, c2, a3, n3, c3, fa, fn, fc, ta, tn, tc, qa', qn', qc', aa, an, ac, H.box.set 11 _, ⟨hr.lt, hr.olt, hr.dis, hr.vp, hr.m, hr.h, hr.g0, hr.g1, hr.g2, hr.g3, hr.f, hr.t, out_set H.r h 11 _, hr.a, hr.av⟩⟩
/-- New answers, in a block of their own. -/
theorem FlOn.ans {x : List (Option (List Int))} {g n c : Nat} (H : FlOn O V w p dim ms s q la ln lc ha hn hc a0 n0 c0 a1 n1 c1 a2 n2 c2 a3 n3 c3 fa fn fc ta tn tc qa qn qc aa an ac) (hb : Below w.heap.size w w') (ho : Own ansS w' w.heap.size 42 (.slice (some ⟨g, 0, none⟩) n c) x) (hz : ∀ y ∈ x, y = none) :
    FlAt O (fun b => V b ∨ b = g) (w'.setCell ⟨p, 12, none⟩ (.slice (some ⟨g, 0, none⟩) n c)) p dim ms { s with ans := x } q := by
  have hg := ho.lt g rfl
  have hpg : p ≠ g := by have := H.box.lt; omega
  have hr0 := H.r.wide (V' := fun b => V b ∨ b = g) (w' := w') (fun b h => .inl h) (fun b h => h.elim .inl (fun e => .inr (e ▸ hg.1))) (fun b h => h.elim (fun h => Nat.lt_of_lt_of_le (H.r.lt b h) hb.size) (fun e => e ▸ hg.2)) hb
  have hr := hr0.set 12 (.slice (some ⟨g, 0, none⟩) n c)
  have ho2 : Own (inS ansS (Out O (fun b => V b ∨ b = g))) w' 0 42 (.slice (some ⟨g, 0, none⟩) n c) x := by
    obtain ⟨css, h1, h2⟩ := ho
    refine ⟨css, ⟨h1.1, ?_⟩, h2.1, fun j d y hd hy => by
      have e := hz y (List.mem_of_getElem? hy)
      subst e
      exact h2.2 j d none hd hy⟩
    rcases h1.2 with h0 | ⟨g', cap, cur, he, hb, hgg, rest⟩
    · exact .inl h0
    · exact .inr ⟨g', cap, cur, he, Nat.zero_le _, hgg, rest⟩
  refine ⟨la, ln, lc, ha, hn, hc, a0, n0, c0, a1, n1, c1, a2, n2, c2, a3, n3, c3, fa, fn, fc, ta, tn, tc, qa, qn, qc, some ⟨g, 0, none⟩, n, c, (H.box.keep hb).set 12 _, ⟨hr.lt, hr.olt, hr.dis, hr.vp, hr.m, hr.h, hr.g0, hr.g1, hr.g2, hr.g3, hr.f, hr.t, hr.q, ?_, fun b hb => ?_⟩⟩
  · exact ho2.aside (grown_set w' p 12 _) (fun b hb e => hb.1 (.inl (e ▸ H.r.vp))) (fun e => hpg (Option.some.inj e).symm)
  · have e : b = g := (Option.some.inj hb).symm
    exact ⟨.inr e, fun h => hpg (h.symm.trans e)⟩
/-- An answer is put in its place. -/
theorem FlOn.answer (H : FlOn O V w p dim ms s q la ln lc ha hn hc a0 n0 c0 a1 n1 c1 a2 n2 c2 a3 n3 c3 fa fn fc ta tn tc qa qn qc aa an ac) {g : Nat} (hg : aa = some ⟨g, 0, none⟩) {j : Nat} (hj : j < an) {v : List Int} (hv : v ≠ []) {A : Option Addr} {N C : Nat} (h : rowS.rep w (Out O V) [.slice A N C] v) :
    (∃ z, w.cell? ⟨g, j, none⟩ = some z) ∧ w.frozen? ⟨g, j, none⟩ = false ∧ V g ∧ FlAt O V (w.setCell ⟨g, j, none⟩ (.slice A N C)) p dim ms { s with ans := s.ans.set j (some v) } q := by
  subst hg
  obtain ⟨hvg, hgp⟩ := H.r.av g rfl
  have hP : ∀ b, Out O V b → b ≠ g := fun b hb e => hb.1 (e ▸ hvg)
  obtain ⟨hz, hf, ho⟩ := H.r.a.store rfl hj (v := .slice A N C) (x := some v) (F := Out O V) (inS_of (P := Out O V) (ans_some h hv) (fun _ hb => hb)) hP
  have hs : (w.setCell ⟨g, j, none⟩ (.slice A N C)).heap.size = w.heap.size := by simp
  have hk : ∀ b, Out O V b → b < w.heap.size → (w.setCell ⟨g, j, none⟩ (.slice A N C)).heap[b]? = w.heap[b]? := fun b hb _ => Below.heap_setCell w _ _ b (hP b hb)
  have hr := H.r
  exact ⟨hz, hf, hvg, la, ln, lc, ha, hn, hc, a0, n0, c0, a1, n1, c1, a2, n2, c2, a3, n3, c3, fa, fn, fc, ta, tn, tc, qa, qn, qc, some ⟨g, 0, none⟩, an, ac, H.box.other _ (fun e => hgp e.symm), ⟨fun b hv => by rw [hs]; exact hr.lt b hv, fun b hv => by rw [hs]; exact hr.olt b hv, hr.dis, hr.vp, Shape.keep _ hr.m hk, Shape.keep _ hr.h hk, Shape.keep _ hr.g0 hk, Shape.keep _ hr.g1 hk, Shape.keep _ hr.g2 hk, Shape.keep _ hr.g3 hk, Shape.keep _ hr.f hk, Shape.keep _ hr.t hk, Shape.keep _ hr.q hk, ho, hr.av⟩⟩
/-- The map: both its cells. -/
theorem FlOn.map (H : FlOn O V w p dim ms s q la ln lc ha hn hc a0 n0 c0 a1 n1 c1 a2 n2 c2 a3 n3 c3 fa fn fc ta tn tc qa qn qc aa an ac) {e : Int} {h : List (List Int)} {ha' : Option Addr} {hn' hc' : Nat} (hm : matS.rep w (Out O V) [.slice ha' hn' hc'] h) : FlAt O V ((w.setCell ⟨p, 2, none⟩ (.int .i64 e)).setCell ⟨p, 3, none⟩ (.slice ha' hn' hc')) p dim ms { s with e := e, h := h } q := by
  have hr1 := H.r.set 2 (.int .i64 e)
  have hr := hr1.set 3 (.slice ha' hn' hc')
  exact ⟨la, ln, lc, ha', hn', hc', a0, n0, c0, a1, n1, c1, a2, n2, c2, a3, n3, c3, fa, fn, fc, ta, tn, tc, qa, qn, qc, aa, an, ac, (H.box.set 2 _).set 3 _, ⟨hr.lt, hr.olt, hr.dis, hr.vp, hr.m, out_set hr1 (out_set H.r hm 2 _) 3 _, hr.g0, hr.g1, hr.g2, hr.g3, hr.f, hr.t, hr.q, hr.a, hr.av⟩⟩
/-- The ledger of one node. -/
theorem FlOn.led (H : FlOn O V w p dim ms s q la ln lc ha hn hc a0 n0 c0 a1 n1 c1 a2 n2 c2 a3 n3 c3 fa fn fc ta tn tc qa qn qc aa an ac) (h4 : s.ls.length = 4) {k : Nat} (hk : k < 4) {l : List En} {a' : Option Addr} {n' c' : Nat} (hl : ensS.rep w (Out O V) [.slice a' n' c'] l) : FlAt O V (w.setCell ⟨p, 4 + k, none⟩ (.slice a' n' c')) p dim ms { s with ls := s.ls.set k l } q := by
  have hr := H.r.set (4 + k) (.slice a' n' c')
  have hl' := out_set H.r hl (4 + k) (.slice a' n' c')
  match hls : s.ls, h4 with
  | [l0, l1, l2, l3], _ =>
    have g0 := hr.g0; have g1 := hr.g1; have g2 := hr.g2; have g3 := hr.g3
    rw [hls] at g0 g1 g2 g3
    rcases (by omega : k = 0 ∨ k = 1 ∨ k = 2 ∨ k = 3) with rfl | rfl | rfl | rfl
    · exact ⟨la, ln, lc, ha, hn, hc, a', n', c', a1, n1, c1, a2, n2, c2, a3, n3, c3, fa, fn, fc, ta, tn, tc, qa, qn, qc, aa, an, ac, H.box.set 4 _, ⟨hr.lt, hr.olt, hr.dis, hr.vp, hr.m, hr.h, hl', g1, g2, g3, hr.f, hr.t, hr.q, hr.a, hr.av⟩⟩
    · exact ⟨la, ln, lc, ha, hn, hc, a0, n0, c0, a', n', c', a2, n2, c2, a3, n3, c3, fa, fn, fc, ta, tn, tc, qa, qn, qc, aa, an, ac, H.box.set 5 _, ⟨hr.lt, hr.olt, hr.dis, hr.vp, hr.m, hr.h, g0, hl', g2, g3, hr.f, hr.t, hr.q, hr.a, hr.av⟩⟩
    · exact ⟨la, ln, lc, ha, hn, hc, a0, n0, c0, a1, n1, c1, a', n', c', a3, n3, c3, fa, fn, fc, ta, tn, tc, qa, qn, qc, aa, an, ac, H.box.set 6 _, ⟨hr.lt, hr.olt, hr.dis, hr.vp, hr.m, hr.h, g0, g1, hl', g3, hr.f, hr.t, hr.q, hr.a, hr.av⟩⟩
    · exact ⟨la, ln, lc, ha, hn, hc, a0, n0, c0, a1, n1, c1, a2, n2, c2, a', n', c', fa, fn, fc, ta, tn, tc, qa, qn, qc, aa, an, ac, H.box.set 7 _, ⟨hr.lt, hr.olt, hr.dis, hr.vp, hr.m, hr.h, g0, g1, g2, hl', hr.f, hr.t, hr.q, hr.a, hr.av⟩⟩
end

/-! ### The bag's texts -/
theorem enc_size (m : Wx.Msg) (h : m.vec.length ≤ 8) : (enc m).size ≤ 84 := by
  have := Wx.put_len m
  show (Wx.put m).toArray.size ≤ 84
  rw [List.size_toArray]
  omega
theorem enc_take {m : Wx.Msg} (h : Wx.right m) : Wx.take (enc m).data.toList = (m, 0) := by
  have : (enc m).data.toList = Wx.put m := by unfold enc; simp
  rw [this]
  exact Wx.take_put h
theorem enc_inj {a b : Wx.Msg} (ha : Wx.right a) (hb : Wx.right b) (h : enc a = enc b) : a = b := by
  refine Wx.put_inj ha hb ?_
  unfold enc at h
  injection h with h
  simpa using h
theorem put_enc (b : List Wx.Msg) (m : Wx.Msg) : Bx.put (b.map enc) (enc m) = (Ft.put b m).map enc := by
  unfold Bx.put Ft.put
  rw [List.length_map]
  by_cases h : b.length < 200
  · rw [if_pos h, if_neg (by omega)]; simp
  · rw [if_neg h, if_pos (by omega)]
theorem without_enc (b : List Wx.Msg) (i : Nat) : Bx.without (b.map enc) i = (b.eraseIdx i).map enc := by
  unfold Bx.without
  rw [List.eraseIdx_eq_take_drop_succ, List.map_append, List.map_take, List.map_drop]
theorem get_enc (b : List Wx.Msg) {i : Nat} (h : i < b.length) (d : Wx.Msg) : (b.map enc).getD i noText = enc (b.getD i d) := by
  rw [List.getD_eq_getElem?_getD, List.getD_eq_getElem?_getD, List.getElem?_map, List.getElem?_eq_getElem h]
  rfl

end Go.Proofs.YtfidgcanolegfaaGreat
