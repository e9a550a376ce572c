/- What Work of package node does when called. -/
import Derived.Test.YtgffeefipeblhaaNodC
import Derived.Test.YtgffeefipeblhaaPlcA
namespace Go.Proofs.Ytgffeefipeblhaa
open Go.ChangeShapes Go.WideShapes Go.ChangeAt Go.RowKit

namespace Nd
/-- What Work answers: the ledger L, the message m, and whether. -/
def Tells (dim : Int) (ms : List Ly) (e : Int) (h : List (List Int)) (node : Int) (l : List En) (a : Wx.Msg) (L : List En) (m : Wx.Msg) (b : Bool) : Prop :=
  (¬ Fits dim ms e h node a ∧ L = l ∧ m = Wx.zero ∧ b = false) ∨ (Fits dim ms e h node a ∧ ¬ Held e h node a ∧ L = l ∧ m = reply e node a 3 [] ∧ b = true) ∨
  (Fits dim ms e h node a ∧ Held e h node a ∧ ∃ y, Works l (keyOf a) (Md.ans (lyOf ms a) a.vec a.expert) L y ∧ m = reply e node a 2 y ∧ b = true)
theorem tells_there (dim : Int) (ms : List Ly) (e : Int) (h : List (List Int)) (node : Int) (l : List En) (a : Wx.Msg) : ∃ L m b, Tells dim ms e h node l a L m b := by
  by_cases hf : Fits dim ms e h node a
  · by_cases hh : Held e h node a
    · obtain ⟨L, y, hw⟩ := works_there l (keyOf a) (Md.ans (lyOf ms a) a.vec a.expert)
      exact ⟨L, _, true, .inr (.inr ⟨hf, hh, y, hw, rfl, rfl⟩)⟩
    · exact ⟨l, _, true, .inr (.inl ⟨hf, hh, rfl, rfl, rfl⟩)⟩
  · exact ⟨l, _, false, .inl ⟨hf, rfl, rfl, rfl⟩⟩
end Nd

/-! ### Four variables; stores into one of them (no program in sight) -/
theorem boxes4 {w W : World} {c1 c2 c3 c4 : Array Value} {t1 t2 t3 t4 : TypeId} (hW : W = (((w.alloc (.cells c1 t1)).alloc (.cells c2 t2)).alloc (.cells c3 t3)).alloc (.cells c4 t4)) :
    Below w.heap.size w W ∧ Box W w.heap.size t1 c1 ∧ Box W (w.heap.size + 1) t2 c2 ∧ Box W (w.heap.size + 2) t3 c3 ∧ Box W (w.heap.size + 3) t4 c4 ∧ W.heap.size = w.heap.size + 4 := by
  subst hW
  have k1 := (((Box.new w t1 c1).keep (new_bel _ (.cells c2 t2))).keep (new_bel _ (.cells c3 t3))).keep (new_bel _ (.cells c4 t4))
  have k2 := ((Box.new (w.alloc (.cells c1 t1)) t2 c2).keep (new_bel _ (.cells c3 t3))).keep (new_bel _ (.cells c4 t4))
  have k3 := (Box.new ((w.alloc (.cells c1 t1)).alloc (.cells c2 t2)) t3 c3).keep (new_bel _ (.cells c4 t4))
  have k4 := Box.new (((w.alloc (.cells c1 t1)).alloc (.cells c2 t2)).alloc (.cells c3 t3)) t4 c4
  rw [show (w.alloc (.cells c1 t1)).heap.size = w.heap.size + 1 by simp] at k2
  rw [show ((w.alloc (.cells c1 t1)).alloc (.cells c2 t2)).heap.size = w.heap.size + 2 by simp] at k3
  rw [show (((w.alloc (.cells c1 t1)).alloc (.cells c2 t2)).alloc (.cells c3 t3)).heap.size = w.heap.size + 3 by simp] at k4
  exact ⟨bel_alloc (bel_alloc (bel_two _ _ _) _) _, k1, k2, k3, k4, by simp⟩
theorem Box.set0 {u : World} {b : Nat} {t : TypeId} {p0 p1 p2 p3 p4 p5 p6 p7 p8 p9 p10 : Value} (h : Box u b t #[p0, p1, p2, p3, p4, p5, p6, p7, p8, p9, p10]) (v : Value) : Box (u.setCell ⟨b, 0, none⟩ v) b t #[v, p1, p2, p3, p4, p5, p6, p7, p8, p9, p10] := by
  have := h.set 0 v
  simp only [List.setIfInBounds_toArray, List.set_cons_zero] at this
  exact this
theorem rep_put {α : Type} {A : Shape α} {u : World} {F : Nat → Prop} {cs : List Value} {x : α} (h : A.rep u F cs x) {b i : Nat} (hF : ∀ k, F k → k ≠ b) (v : Value) : A.rep (u.setCell ⟨b, i, none⟩ v) F cs x :=
  A.keep h fun k hk _ => Below.heap_setCell u _ v k (hF k hk)
theorem rep_all11 {α : Type} {A : Shape α} {u : World} {F : Nat → Prop} {cs : List Value} {x : α} (h : A.rep u F cs x) {b : Nat} (hF : ∀ k, F k → k ≠ b) (v0 v1 v2 v3 v4 v5 v6 v7 v8 v9 v10 : Value) : A.rep (((((((((((u.setCell ⟨b, 0, none⟩ v0).setCell ⟨b, 1, none⟩ v1).setCell ⟨b, 2, none⟩ v2).setCell ⟨b, 3, none⟩ v3).setCell ⟨b, 4, none⟩ v4).setCell ⟨b, 5, none⟩ v5).setCell ⟨b, 6, none⟩ v6).setCell ⟨b, 7, none⟩ v7).setCell ⟨b, 8, none⟩ v8).setCell ⟨b, 9, none⟩ v9).setCell ⟨b, 10, none⟩ v10) F cs x :=
  A.keep h fun k hk hlt => (grown_all11 u b v0 v1 v2 v3 v4 v5 v6 v7 v8 v9 v10).block k hlt (fun e => hF k hk (Option.some.inj e))

set_option maxRecDepth 100000 in
/-- What Work is told, in memory. -/
structure WorkIn (P : Nat → Prop) (w : World) (a : Option Addr) (n c : Nat) (ls : List Ly) (pa : Option Addr) (pn pc : Nat) (h : List (List Int)) (la : Option Addr) (ln lc : Nat) (l : List En) (xa : Option Addr) (xn xc : Nat) (v : List Int) : Prop where
  m : lysS.rep w everywhere [.slice a n c] ls
  mn : n ≤ 1000
  mz : ∀ l ∈ ls, Md.LSized l
  p : matS.rep w everywhere [.slice pa pn pc] h
  pz : Ex.Sized h
  g : ensS.rep w P [.slice la ln lc] l
  lP : ∀ b, P b → b < w.heap.size
  ls : Dx.Short l
  v : rowS.rep w everywhere [.slice xa xn xc] v
  vn : xn ≤ 1000


set_option maxHeartbeats 4000000 in
theorem nwork_no {P : Nat → Prop} (dim : Int) (a : Option Addr) (n c : Nat) (ls : List Ly) (ep : Int) (pa : Option Addr) (pn pc : Nat) (h : List (List Int)) (me : Int) (la : Option Addr) (ln lc : Nat) (l : List En) (x0 x1 x2 x3 x4 x5 x6 x7 x8 x9 : Int) (xa : Option Addr) (xn xc : Nat) (v : List Int) (w : World)
    (H : WorkIn P w a n c ls pa pn pc h la ln lc l xa xn xc v) (hF : ¬ Nd.Fits dim ls ep h me ⟨x0, x1, x2, x3, x4, x5, x6, x7, x8, x9, v⟩) :
    Calls Try.prog 10 #[.agg #[.int .i64 dim, .slice a n c], .agg #[.int .i64 ep, .slice pa pn pc], .int .i64 me, .slice la ln lc, .agg #[.int .i64 x0, .int .i64 x1, .int .i64 x2, .int .i64 x3, .int .i64 x4, .int .i64 x5, .int .i64 x6, .int .i64 x7, .int .i64 x8, .int .i64 x9, .slice xa xn xc]] w fun e w' => Below w.heap.size w w' ∧ ∃ a' c', e = .returned (.tuple #[.slice a' ln c', .agg #[.int .i64 0, .int .i64 0, .int .i64 0, .int .i64 0, .int .i64 0, .int .i64 0, .int .i64 0, .int .i64 0, .int .i64 0, .int .i64 0, .slice none 0 0], .bool false]) ∧ ensS.rep w' (fun b => P b ∨ w.heap.size ≤ b) [.slice a' ln c'] l := by
  have HF : Hid (¬ Nd.Fits dim ls ep h me ⟨x0, x1, x2, x3, x4, x5, x6, x7, x8, x9, v⟩) := hF
  clear hF
  obtain ⟨W, hW⟩ : ∃ W, W = (((w.alloc (.cells #[.int .i64 dim, .slice a n c] 24)).alloc (.cells #[.int .i64 ep, .slice pa pn pc] 27)).alloc (.cells #[.int .i64 x0, .int .i64 x1, .int .i64 x2, .int .i64 x3, .int .i64 x4, .int .i64 x5, .int .i64 x6, .int .i64 x7, .int .i64 x8, .int .i64 x9, .slice xa xn xc] 31)).alloc (.cells #[.int .i64 0, .int .i64 0, .int .i64 0, .int .i64 0, .int .i64 0, .int .i64 0, .int .i64 0, .int .i64 0, .int .i64 0, .int .i64 0, .slice none 0 0] 31) := ⟨_, rfl⟩
  obtain ⟨hB, km, kp, kx, kr, hsz⟩ := boxes4 hW
  have hm1 := Shape.below H.m hB
  have hp1 := Shape.below H.p hB
  have hl1 := Shape.below H.g hB
  have hv1 := Shape.below H.v hB
  have HH : Hid (WorkIn P w a n c ls pa pn pc h la ln lc l xa xn xc v) := H
  have HW : Hid (W = (((w.alloc (.cells #[.int .i64 dim, .slice a n c] 24)).alloc (.cells #[.int .i64 ep, .slice pa pn pc] 27)).alloc (.cells #[.int .i64 x0, .int .i64 x1, .int .i64 x2, .int .i64 x3, .int .i64 x4, .int .i64 x5, .int .i64 x6, .int .i64 x7, .int .i64 x8, .int .i64 x9, .slice xa xn xc] 31)).alloc (.cells #[.int .i64 0, .int .i64 0, .int .i64 0, .int .i64 0, .int .i64 0, .int .i64 0, .int .i64 0, .int .i64 0, .int .i64 0, .int .i64 0, .slice none 0 0] 31)) := hW
  have HSZ : Hid (W.heap.size = w.heap.size + 4) := hsz
  clear H hW hsz
  go_enter Try.func10, Try.ntmps10
  go_upto_region 1 with fail
  rw [← HW.out]
  clear HW
  have m0 := km.cell 0 rfl
  have m1 := km.cell 1 rfl
  go_wp2_with fail
  refine (mright a n c ls dim W hm1 HH.out.mn HH.out.mz).mono ?_
  rintro e u1 ⟨hs1, hb1⟩
  have hB1 := bel_then hB hb1
  have kr1 := kr.keep hb1
  have kp1 := kp.keep hb1
  clear m0 m1
  by_cases d1 : Md.Right dim ls
  case neg =>
    rw [hs1.not d1]
    have hl2 := Shape.below hl1 hb1
    clear d1 hs1 km kx kr kp kp1
    have hcc : Hid (Calls _ _ _ _ _) := ncopied la ln lc l u1 hl2 (fun b hb => by have := HH.out.lP b hb; have := hB1.size; omega) HH.out.ls
    go_wp2_with fail
    refine hcc.out.mono ?_
    rintro e u9 ⟨hb9, aq, cq, rfl, hr9⟩
    have kr9 := kr1.keep hb9
    have f0 := kr9.free 0
    have f1 := kr9.free 1
    have f2 := kr9.free 2
    have f3 := kr9.free 3
    have f4 := kr9.free 4
    have f5 := kr9.free 5
    have f6 := kr9.free 6
    have f7 := kr9.free 7
    have f8 := kr9.free 8
    have f9 := kr9.free 9
    have f10 := kr9.free 10
    have c0 := kr9.cell 0 rfl
    have c1 := kr9.cell 1 rfl
    have c2 := kr9.cell 2 rfl
    have c3 := kr9.cell 3 rfl
    have c4 := kr9.cell 4 rfl
    have c5 := kr9.cell 5 rfl
    have c6 := kr9.cell 6 rfl
    have c7 := kr9.cell 7 rfl
    have c8 := kr9.cell 8 rfl
    have c9 := kr9.cell 9 rfl
    have c10 := kr9.cell 10 rfl
    go_wp2
    refine ret_mid Try.underlying31 Try.infoMsg rfl rfl rfl rfl rfl (kr9.all11 _ _ _ _ _ _ _ _ _ _ _) rfl ?_
    have hlU4 : w.heap.size + 3 < u1.heap.size := kr1.lt
    have hrA : ensS.rep u9 (fun b => P b ∨ w.heap.size + 4 ≤ b) [.slice aq ln cq] l := ensS.mono hr9 fun b hb _ => hb.elim (fun h => Or.inl h) fun h => Or.inr (by omega)
    have hrB := rep_all11 (b := w.heap.size + 3) hrA (fun b hb => hb.elim (fun h => by have := HH.out.lP b h; omega) (fun h => by omega))
    exact ⟨bel_all11 (bel_then hB1 hb9) (by omega) _ _ _ _ _ _ _ _ _ _ _, aq, cq, rfl, ensS.mono (hrB _ _ _ _ _ _ _ _ _ _ _) fun b hb _ => hb.elim (fun h => Or.inl h) fun h => Or.inr (by omega)⟩
  rw [hs1.is d1]
  have D1 : Hid (Md.Right dim ls) := d1
  clear d1 hs1
  have p0 := kp1.cell 0 rfl
  have p1 := kp1.cell 1 rfl
  go_wp2_with fail
  refine (pright ep pa pn pc h u1 (Shape.below hp1 hb1) HH.out.pz).mono ?_
  rintro e u2 ⟨hs2, hb2⟩
  have hb12 := bel_then hb1 hb2
  have hB2 := bel_then hB1 hb2
  have kr2 := kr1.keep hb2
  have km2 := km.keep hb12
  have kx2 := kx.keep hb12
  have hm2 := Shape.below hm1 hb12
  have hv2 := Shape.below hv1 hb12
  have hl2 := Shape.below hl1 hb12
  clear p0 p1 kp1
  by_cases d2 : Pl.Right ep h
  case neg =>
    rw [hs2.not d2]
    clear d2 hs2 km kx kr kp kr1 km2 kx2
    have hcc : Hid (Calls _ _ _ _ _) := ncopied la ln lc l u2 hl2 (fun b hb => by have := HH.out.lP b hb; have := hB2.size; omega) HH.out.ls
    go_wp2_with fail
    refine hcc.out.mono ?_
    rintro e u9 ⟨hb9, aq, cq, rfl, hr9⟩
    have kr9 := kr2.keep hb9
    have f0 := kr9.free 0
    have f1 := kr9.free 1
    have f2 := kr9.free 2
    have f3 := kr9.free 3
    have f4 := kr9.free 4
    have f5 := kr9.free 5
    have f6 := kr9.free 6
    have f7 := kr9.free 7
    have f8 := kr9.free 8
    have f9 := kr9.free 9
    have f10 := kr9.free 10
    have c0 := kr9.cell 0 rfl
    have c1 := kr9.cell 1 rfl
    have c2 := kr9.cell 2 rfl
    have c3 := kr9.cell 3 rfl
    have c4 := kr9.cell 4 rfl
    have c5 := kr9.cell 5 rfl
    have c6 := kr9.cell 6 rfl
    have c7 := kr9.cell 7 rfl
    have c8 := kr9.cell 8 rfl
    have c9 := kr9.cell 9 rfl
    have c10 := kr9.cell 10 rfl
    go_wp2
    refine ret_mid Try.underlying31 Try.infoMsg rfl rfl rfl rfl rfl (kr9.all11 _ _ _ _ _ _ _ _ _ _ _) rfl ?_
    have hlU4 : w.heap.size + 3 < u2.heap.size := kr2.lt
    have hrA : ensS.rep u9 (fun b => P b ∨ w.heap.size + 4 ≤ b) [.slice aq ln cq] l := ensS.mono hr9 fun b hb _ => hb.elim (fun h => Or.inl h) fun h => Or.inr (by omega)
    have hrB := rep_all11 (b := w.heap.size + 3) hrA (fun b hb => hb.elim (fun h => by have := HH.out.lP b h; omega) (fun h => by omega))
    exact ⟨bel_all11 (bel_then hB2 hb9) (by omega) _ _ _ _ _ _ _ _ _ _ _, aq, cq, rfl, ensS.mono (hrB _ _ _ _ _ _ _ _ _ _ _) fun b hb _ => hb.elim (fun h => Or.inl h) fun h => Or.inr (by omega)⟩
  rw [hs2.is d2]
  have D2 : Hid (Pl.Right ep h) := d2
  clear d2 hs2
  have m0 := km2.cell 0 rfl
  have m1 := km2.cell 1 rfl
  have c0 := kx2.cell 0 rfl
  have c1 := kx2.cell 1 rfl
  have c2 := kx2.cell 2 rfl
  have c3 := kx2.cell 3 rfl
  have c4 := kx2.cell 4 rfl
  have c5 := kx2.cell 5 rfl
  have c6 := kx2.cell 6 rfl
  have c7 := kx2.cell 7 rfl
  have c8 := kx2.cell 8 rfl
  have c9 := kx2.cell 9 rfl
  have c10 := kx2.cell 10 rfl
  go_wp2_with fail
  refine (ncan dim a n c ls me x0 x1 x2 x3 x4 x5 x6 x7 x8 x9 xa xn xc v u2 hm2 hv2 HH.out.vn).mono ?_
  rintro e u3 ⟨hs3, hb3⟩
  have hb23 := bel_then hb12 hb3
  have hB3 := bel_then hB2 hb3
  have kr3 := kr2.keep hb3
  have hl3 := Shape.below hl2 hb3
  clear m0 m1 c0 c1 c2 c3 c4 c5 c6 c7 c8 c9 c10
  rw [hs3.not (fun d3 => HF.out ⟨D1.out, D2.out, d3⟩)]
  clear hs3 km kx kr kp kr1 km2 kx2 kr2
  have hcc : Hid (Calls _ _ _ _ _) := ncopied la ln lc l u3 hl3 (fun b hb => by have := HH.out.lP b hb; have := hB3.size; omega) HH.out.ls
  go_wp2_with fail
  refine hcc.out.mono ?_
  rintro e u9 ⟨hb9, aq, cq, rfl, hr9⟩
  have kr9 := kr3.keep hb9
  have f0 := kr9.free 0
  have f1 := kr9.free 1
  have f2 := kr9.free 2
  have f3 := kr9.free 3
  have f4 := kr9.free 4
  have f5 := kr9.free 5
  have f6 := kr9.free 6
  have f7 := kr9.free 7
  have f8 := kr9.free 8
  have f9 := kr9.free 9
  have f10 := kr9.free 10
  have c0 := kr9.cell 0 rfl
  have c1 := kr9.cell 1 rfl
  have c2 := kr9.cell 2 rfl
  have c3 := kr9.cell 3 rfl
  have c4 := kr9.cell 4 rfl
  have c5 := kr9.cell 5 rfl
  have c6 := kr9.cell 6 rfl
  have c7 := kr9.cell 7 rfl
  have c8 := kr9.cell 8 rfl
  have c9 := kr9.cell 9 rfl
  have c10 := kr9.cell 10 rfl
  go_wp2
  refine ret_mid Try.underlying31 Try.infoMsg rfl rfl rfl rfl rfl (kr9.all11 _ _ _ _ _ _ _ _ _ _ _) rfl ?_
  have hlU4 : w.heap.size + 3 < u3.heap.size := kr3.lt
  have hrA : ensS.rep u9 (fun b => P b ∨ w.heap.size + 4 ≤ b) [.slice aq ln cq] l := ensS.mono hr9 fun b hb _ => hb.elim (fun h => Or.inl h) fun h => Or.inr (by omega)
  have hrB := rep_all11 (b := w.heap.size + 3) hrA (fun b hb => hb.elim (fun h => by have := HH.out.lP b h; omega) (fun h => by omega))
  exact ⟨bel_all11 (bel_then hB3 hb9) (by omega) _ _ _ _ _ _ _ _ _ _ _, aq, cq, rfl, ensS.mono (hrB _ _ _ _ _ _ _ _ _ _ _) fun b hb _ => hb.elim (fun h => Or.inl h) fun h => Or.inr (by omega)⟩

end Go.Proofs.Ytgffeefipeblhaa
