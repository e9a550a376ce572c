/- 5 texts as one, in their order: NodD, NodE, NodF, NodG, Nw. -/
import Derived.Test.YtokfcjgfpchffaaGreatDoorJn
import Derived.Test.YtokfcjgfpchffaaGreatDoorKp
import Derived.Test.YtokfcjgfpchffaaGreatDoorKa
import Derived.Test.YtokfcjgfpchffaaGreatDoorLm

/- What Work of package node does when called. -/
namespace Go.Proofs.YtokfcjgfpchffaaGreatDoor
open Go.ChangeShapes Go.WideShapes Go.ChangeAt Go.RowKit

namespace Nd
/-- What Work answers: the ledger L, the message m, and whether. -/
def Tells (dim : Int) (ms : List Ly) (e : Int) (h : List (List Int)) (node : Int) (l : List En) (a : Wx.Msg) (L : List En) (m : Wx.Msg) (b : Bool) : Prop :=
  (¬ Fits dim ms e h node a ∧ L = l ∧ m = Wx.zero ∧ b = false) ∨ (Fits dim ms e h node a ∧ ¬ Held e h node a ∧ L = l ∧ m = reply e node a 3 [] ∧ b = true) ∨
  (Fits dim ms e h node a ∧ Held e h node a ∧ ∃ y, Works l (keyOf a) (Md.ans (lyOf ms a) a.vec a.expert) L y ∧ m = reply e node a 2 y ∧ b = true)
theorem tells_there (dim : Int) (ms : List Ly) (e : Int) (h : List (List Int)) (node : Int) (l : List En) (a : Wx.Msg) : ∃ L m b, Tells dim ms e h node l a L m b := by
  by_cases hf : Fits dim ms e h node a
  · by_cases hh : Held e h node a
    · obtain ⟨L, y, hw⟩ := works_there l (keyOf a) (Md.ans (lyOf ms a) a.vec a.expert)
      exact ⟨L, _, true, .inr (.inr ⟨hf, hh, y, hw, rfl, rfl⟩)⟩
    · exact ⟨l, _, true, .inr (.inl ⟨hf, hh, rfl, rfl, rfl⟩)⟩
  · exact ⟨l, _, false, .inl ⟨hf, rfl, rfl, rfl⟩⟩
end Nd

/-! ### Four variables; stores into one of them (no program in sight) -/
theorem boxes4 {w W : World} {c1 c2 c3 c4 : Array Value} {t1 t2 t3 t4 : TypeId} (hW : W = (((w.alloc (.cells c1 t1)).alloc (.cells c2 t2)).alloc (.cells c3 t3)).alloc (.cells c4 t4)) :
    Below w.heap.size w W ∧ Box W w.heap.size t1 c1 ∧ Box W (w.heap.size + 1) t2 c2 ∧ Box W (w.heap.size + 2) t3 c3 ∧ Box W (w.heap.size + 3) t4 c4 ∧ W.heap.size = w.heap.size + 4 := by
  subst hW
  have k1 := (((Box.new w t1 c1).keep (new_bel _ (.cells c2 t2))).keep (new_bel _ (.cells c3 t3))).keep (new_bel _ (.cells c4 t4))
  have k2 := ((Box.new (w.alloc (.cells c1 t1)) t2 c2).keep (new_bel _ (.cells c3 t3))).keep (new_bel _ (.cells c4 t4))
  have k3 := (Box.new ((w.alloc (.cells c1 t1)).alloc (.cells c2 t2)) t3 c3).keep (new_bel _ (.cells c4 t4))
  have k4 := Box.new (((w.alloc (.cells c1 t1)).alloc (.cells c2 t2)).alloc (.cells c3 t3)) t4 c4
  rw [show (w.alloc (.cells c1 t1)).heap.size = w.heap.size + 1 by simp] at k2
  rw [show ((w.alloc (.cells c1 t1)).alloc (.cells c2 t2)).heap.size = w.heap.size + 2 by simp] at k3
  rw [show (((w.alloc (.cells c1 t1)).alloc (.cells c2 t2)).alloc (.cells c3 t3)).heap.size = w.heap.size + 3 by simp] at k4
  exact ⟨bel_alloc (bel_alloc (bel_two _ _ _) _) _, k1, k2, k3, k4, by simp⟩
theorem Box.set0 {u : World} {b : Nat} {t : TypeId} {p0 p1 p2 p3 p4 p5 p6 p7 p8 p9 p10 : Value} (h : Box u b t #[p0, p1, p2, p3, p4, p5, p6, p7, p8, p9, p10]) (v : Value) : Box (u.setCell ⟨b, 0, none⟩ v) b t #[v, p1, p2, p3, p4, p5, p6, p7, p8, p9, p10] := by
  have := h.set 0 v
  simp only [List.setIfInBounds_toArray, List.set_cons_zero] at this
  exact this
theorem rep_put {α : Type} {A : Shape α} {u : World} {F : Nat → Prop} {cs : List Value} {x : α} (h : A.rep u F cs x) {b i : Nat} (hF : ∀ k, F k → k ≠ b) (v : Value) : A.rep (u.setCell ⟨b, i, none⟩ v) F cs x :=
  A.keep h fun k hk _ => Below.heap_setCell u _ v k (hF k hk)
theorem rep_all11 {α : Type} {A : Shape α} {u : World} {F : Nat → Prop} {cs : List Value} {x : α} (h : A.rep u F cs x) {b : Nat} (hF : ∀ k, F k → k ≠ b) (v0 v1 v2 v3 v4 v5 v6 v7 v8 v9 v10 : Value) : A.rep (((((((((((u.setCell ⟨b, 0, none⟩ v0).setCell ⟨b, 1, none⟩ v1).setCell ⟨b, 2, none⟩ v2).setCell ⟨b, 3, none⟩ v3).setCell ⟨b, 4, none⟩ v4).setCell ⟨b, 5, none⟩ v5).setCell ⟨b, 6, none⟩ v6).setCell ⟨b, 7, none⟩ v7).setCell ⟨b, 8, none⟩ v8).setCell ⟨b, 9, none⟩ v9).setCell ⟨b, 10, none⟩ v10) F cs x :=
  A.keep h fun k hk hlt => (grown_all11 u b v0 v1 v2 v3 v4 v5 v6 v7 v8 v9 v10).block k hlt (fun e => hF k hk (Option.some.inj e))

set_option maxRecDepth 100000 in
/-- What Work is told, in memory. -/
structure WorkIn (P : Nat → Prop) (w : World) (a : Option Addr) (n c : Nat) (ls : List Ly) (pa : Option Addr) (pn pc : Nat) (h : List (List Int)) (la : Option Addr) (ln lc : Nat) (l : List En) (xa : Option Addr) (xn xc : Nat) (v : List Int) : Prop where
  m : lysS.rep w everywhere [.slice a n c] ls
  mn : n ≤ 1000
  mz : ∀ l ∈ ls, Md.LSized l
  p : matS.rep w everywhere [.slice pa pn pc] h
  pz : Ex.Sized h
  g : ensS.rep w P [.slice la ln lc] l
  lP : ∀ b, P b → b < w.heap.size
  ls : Dx.Short l
  v : rowS.rep w everywhere [.slice xa xn xc] v
  vn : xn ≤ 1000


set_option maxHeartbeats 4000000 in
theorem nwork_no {P : Nat → Prop} (dim : Int) (a : Option Addr) (n c : Nat) (ls : List Ly) (ep : Int) (pa : Option Addr) (pn pc : Nat) (h : List (List Int)) (me : Int) (la : Option Addr) (ln lc : Nat) (l : List En) (x0 x1 x2 x3 x4 x5 x6 x7 x8 x9 : Int) (xa : Option Addr) (xn xc : Nat) (v : List Int) (w : World)
    (H : WorkIn P w a n c ls pa pn pc h la ln lc l xa xn xc v) (hF : ¬ Nd.Fits dim ls ep h me ⟨x0, x1, x2, x3, x4, x5, x6, x7, x8, x9, v⟩) :
    Calls Tryz.prog 97 #[.agg #[.int .i64 dim, .slice a n c], .agg #[.int .i64 ep, .slice pa pn pc], .int .i64 me, .slice la ln lc, .agg #[.int .i64 x0, .int .i64 x1, .int .i64 x2, .int .i64 x3, .int .i64 x4, .int .i64 x5, .int .i64 x6, .int .i64 x7, .int .i64 x8, .int .i64 x9, .slice xa xn xc]] w fun e w' => Below w.heap.size w w' ∧ ∃ a' c', e = .returned (.tuple #[.slice a' ln c', .agg #[.int .i64 0, .int .i64 0, .int .i64 0, .int .i64 0, .int .i64 0, .int .i64 0, .int .i64 0, .int .i64 0, .int .i64 0, .int .i64 0, .slice none 0 0], .bool false]) ∧ ensS.rep w' (fun b => P b ∨ w.heap.size ≤ b) [.slice a' ln c'] l := by
  have HF : Hid (¬ Nd.Fits dim ls ep h me ⟨x0, x1, x2, x3, x4, x5, x6, x7, x8, x9, v⟩) := hF
  clear hF
  obtain ⟨W, hW⟩ : ∃ W, W = (((w.alloc (.cells #[.int .i64 dim, .slice a n c] 41)).alloc (.cells #[.int .i64 ep, .slice pa pn pc] 50)).alloc (.cells #[.int .i64 x0, .int .i64 x1, .int .i64 x2, .int .i64 x3, .int .i64 x4, .int .i64 x5, .int .i64 x6, .int .i64 x7, .int .i64 x8, .int .i64 x9, .slice xa xn xc] 100)).alloc (.cells #[.int .i64 0, .int .i64 0, .int .i64 0, .int .i64 0, .int .i64 0, .int .i64 0, .int .i64 0, .int .i64 0, .int .i64 0, .int .i64 0, .slice none 0 0] 100) := ⟨_, rfl⟩
  obtain ⟨hB, km, kp, kx, kr, hsz⟩ := boxes4 hW
  have hm1 := Shape.below H.m hB
  have hp1 := Shape.below H.p hB
  have hl1 := Shape.below H.g hB
  have hv1 := Shape.below H.v hB
  have HH : Hid (WorkIn P w a n c ls pa pn pc h la ln lc l xa xn xc v) := H
  have HW : Hid (W = (((w.alloc (.cells #[.int .i64 dim, .slice a n c] 41)).alloc (.cells #[.int .i64 ep, .slice pa pn pc] 50)).alloc (.cells #[.int .i64 x0, .int .i64 x1, .int .i64 x2, .int .i64 x3, .int .i64 x4, .int .i64 x5, .int .i64 x6, .int .i64 x7, .int .i64 x8, .int .i64 x9, .slice xa xn xc] 100)).alloc (.cells #[.int .i64 0, .int .i64 0, .int .i64 0, .int .i64 0, .int .i64 0, .int .i64 0, .int .i64 0, .int .i64 0, .int .i64 0, .int .i64 0, .slice none 0 0] 100)) := hW
  have HSZ : Hid (W.heap.size = w.heap.size + 4) := hsz
  clear H hW hsz
  go_enter Tryz.func97, Tryz.ntmps97
  go_upto_region 1 with fail
  rw [← HW.out]
  clear HW
  have m0 := km.cell 0 rfl
  have m1 := km.cell 1 rfl
  go_wp2_with fail
  refine (mright a n c ls dim W hm1 HH.out.mn HH.out.mz).mono ?_
  rintro e u1 ⟨hs1, hb1⟩
  have hB1 := bel_then hB hb1
  have kr1 := kr.keep hb1
  have kp1 := kp.keep hb1
  clear m0 m1
  by_cases d1 : Md.Right dim ls
  case neg =>
    rw [hs1.not d1]
    have hl2 := Shape.below hl1 hb1
    clear d1 hs1 km kx kr kp kp1
    have hcc : Hid (Calls _ _ _ _ _) := ncopied la ln lc l u1 hl2 (fun b hb => by have := HH.out.lP b hb; have := hB1.size; omega) HH.out.ls
    go_wp2_with fail
    refine hcc.out.mono ?_
    rintro e u9 ⟨hb9, aq, cq, rfl, hr9⟩
    have kr9 := kr1.keep hb9
    have f0 := kr9.free 0
    have f1 := kr9.free 1
    have f2 := kr9.free 2
    have f3 := kr9.free 3
    have f4 := kr9.free 4
    have f5 := kr9.free 5
    have f6 := kr9.free 6
    have f7 := kr9.free 7
    have f8 := kr9.free 8
    have f9 := kr9.free 9
    have f10 := kr9.free 10
    have c0 := kr9.cell 0 rfl
    have c1 := kr9.cell 1 rfl
    have c2 := kr9.cell 2 rfl
    have c3 := kr9.cell 3 rfl
    have c4 := kr9.cell 4 rfl
    have c5 := kr9.cell 5 rfl
    have c6 := kr9.cell 6 rfl
    have c7 := kr9.cell 7 rfl
    have c8 := kr9.cell 8 rfl
    have c9 := kr9.cell 9 rfl
    have c10 := kr9.cell 10 rfl
    go_wp2
    refine ret_mid Tryz.underlying100 Tryz.infoMsg rfl rfl rfl rfl rfl (kr9.all11 _ _ _ _ _ _ _ _ _ _ _) rfl ?_
    have hlU4 : w.heap.size + 3 < u1.heap.size := kr1.lt
    have hrA : ensS.rep u9 (fun b => P b ∨ w.heap.size + 4 ≤ b) [.slice aq ln cq] l := ensS.mono hr9 fun b hb _ => hb.elim (fun h => Or.inl h) fun h => Or.inr (by omega)
    have hrB := rep_all11 (b := w.heap.size + 3) hrA (fun b hb => hb.elim (fun h => by have := HH.out.lP b h; omega) (fun h => by omega))
    exact ⟨bel_all11 (bel_then hB1 hb9) (by omega) _ _ _ _ _ _ _ _ _ _ _, aq, cq, rfl, ensS.mono (hrB _ _ _ _ _ _ _ _ _ _ _) fun b hb _ => hb.elim (fun h => Or.inl h) fun h => Or.inr (by omega)⟩
  rw [hs1.is d1]
  have D1 : Hid (Md.Right dim ls) := d1
  clear d1 hs1
  have p0 := kp1.cell 0 rfl
  have p1 := kp1.cell 1 rfl
  go_wp2_with fail
  refine (pright ep pa pn pc h u1 (Shape.below hp1 hb1) HH.out.pz).mono ?_
  rintro e u2 ⟨hs2, hb2⟩
  have hb12 := bel_then hb1 hb2
  have hB2 := bel_then hB1 hb2
  have kr2 := kr1.keep hb2
  have km2 := km.keep hb12
  have kx2 := kx.keep hb12
  have hm2 := Shape.below hm1 hb12
  have hv2 := Shape.below hv1 hb12
  have hl2 := Shape.below hl1 hb12
  clear p0 p1 kp1
  by_cases d2 : Pl.Right ep h
  case neg =>
    rw [hs2.not d2]
    clear d2 hs2 km kx kr kp kr1 km2 kx2
    have hcc : Hid (Calls _ _ _ _ _) := ncopied la ln lc l u2 hl2 (fun b hb => by have := HH.out.lP b hb; have := hB2.size; omega) HH.out.ls
    go_wp2_with fail
    refine hcc.out.mono ?_
    rintro e u9 ⟨hb9, aq, cq, rfl, hr9⟩
    have kr9 := kr2.keep hb9
    have f0 := kr9.free 0
    have f1 := kr9.free 1
    have f2 := kr9.free 2
    have f3 := kr9.free 3
    have f4 := kr9.free 4
    have f5 := kr9.free 5
    have f6 := kr9.free 6
    have f7 := kr9.free 7
    have f8 := kr9.free 8
    have f9 := kr9.free 9
    have f10 := kr9.free 10
    have c0 := kr9.cell 0 rfl
    have c1 := kr9.cell 1 rfl
    have c2 := kr9.cell 2 rfl
    have c3 := kr9.cell 3 rfl
    have c4 := kr9.cell 4 rfl
    have c5 := kr9.cell 5 rfl
    have c6 := kr9.cell 6 rfl
    have c7 := kr9.cell 7 rfl
    have c8 := kr9.cell 8 rfl
    have c9 := kr9.cell 9 rfl
    have c10 := kr9.cell 10 rfl
    go_wp2
    refine ret_mid Tryz.underlying100 Tryz.infoMsg rfl rfl rfl rfl rfl (kr9.all11 _ _ _ _ _ _ _ _ _ _ _) rfl ?_
    have hlU4 : w.heap.size + 3 < u2.heap.size := kr2.lt
    have hrA : ensS.rep u9 (fun b => P b ∨ w.heap.size + 4 ≤ b) [.slice aq ln cq] l := ensS.mono hr9 fun b hb _ => hb.elim (fun h => Or.inl h) fun h => Or.inr (by omega)
    have hrB := rep_all11 (b := w.heap.size + 3) hrA (fun b hb => hb.elim (fun h => by have := HH.out.lP b h; omega) (fun h => by omega))
    exact ⟨bel_all11 (bel_then hB2 hb9) (by omega) _ _ _ _ _ _ _ _ _ _ _, aq, cq, rfl, ensS.mono (hrB _ _ _ _ _ _ _ _ _ _ _) fun b hb _ => hb.elim (fun h => Or.inl h) fun h => Or.inr (by omega)⟩
  rw [hs2.is d2]
  have D2 : Hid (Pl.Right ep h) := d2
  clear d2 hs2
  have m0 := km2.cell 0 rfl
  have m1 := km2.cell 1 rfl
  have c0 := kx2.cell 0 rfl
  have c1 := kx2.cell 1 rfl
  have c2 := kx2.cell 2 rfl
  have c3 := kx2.cell 3 rfl
  have c4 := kx2.cell 4 rfl
  have c5 := kx2.cell 5 rfl
  have c6 := kx2.cell 6 rfl
  have c7 := kx2.cell 7 rfl
  have c8 := kx2.cell 8 rfl
  have c9 := kx2.cell 9 rfl
  have c10 := kx2.cell 10 rfl
  go_wp2_with fail
  refine (ncan dim a n c ls me x0 x1 x2 x3 x4 x5 x6 x7 x8 x9 xa xn xc v u2 hm2 hv2 HH.out.vn).mono ?_
  rintro e u3 ⟨hs3, hb3⟩
  have hb23 := bel_then hb12 hb3
  have hB3 := bel_then hB2 hb3
  have kr3 := kr2.keep hb3
  have hl3 := Shape.below hl2 hb3
  clear m0 m1 c0 c1 c2 c3 c4 c5 c6 c7 c8 c9 c10
  rw [hs3.not (fun d3 => HF.out ⟨D1.out, D2.out, d3⟩)]
  clear hs3 km kx kr kp kr1 km2 kx2 kr2
  have hcc : Hid (Calls _ _ _ _ _) := ncopied la ln lc l u3 hl3 (fun b hb => by have := HH.out.lP b hb; have := hB3.size; omega) HH.out.ls
  go_wp2_with fail
  refine hcc.out.mono ?_
  rintro e u9 ⟨hb9, aq, cq, rfl, hr9⟩
  have kr9 := kr3.keep hb9
  have f0 := kr9.free 0
  have f1 := kr9.free 1
  have f2 := kr9.free 2
  have f3 := kr9.free 3
  have f4 := kr9.free 4
  have f5 := kr9.free 5
  have f6 := kr9.free 6
  have f7 := kr9.free 7
  have f8 := kr9.free 8
  have f9 := kr9.free 9
  have f10 := kr9.free 10
  have c0 := kr9.cell 0 rfl
  have c1 := kr9.cell 1 rfl
  have c2 := kr9.cell 2 rfl
  have c3 := kr9.cell 3 rfl
  have c4 := kr9.cell 4 rfl
  have c5 := kr9.cell 5 rfl
  have c6 := kr9.cell 6 rfl
  have c7 := kr9.cell 7 rfl
  have c8 := kr9.cell 8 rfl
  have c9 := kr9.cell 9 rfl
  have c10 := kr9.cell 10 rfl
  go_wp2
  refine ret_mid Tryz.underlying100 Tryz.infoMsg rfl rfl rfl rfl rfl (kr9.all11 _ _ _ _ _ _ _ _ _ _ _) rfl ?_
  have hlU4 : w.heap.size + 3 < u3.heap.size := kr3.lt
  have hrA : ensS.rep u9 (fun b => P b ∨ w.heap.size + 4 ≤ b) [.slice aq ln cq] l := ensS.mono hr9 fun b hb _ => hb.elim (fun h => Or.inl h) fun h => Or.inr (by omega)
  have hrB := rep_all11 (b := w.heap.size + 3) hrA (fun b hb => hb.elim (fun h => by have := HH.out.lP b h; omega) (fun h => by omega))
  exact ⟨bel_all11 (bel_then hB3 hb9) (by omega) _ _ _ _ _ _ _ _ _ _ _, aq, cq, rfl, ensS.mono (hrB _ _ _ _ _ _ _ _ _ _ _) fun b hb _ => hb.elim (fun h => Or.inl h) fun h => Or.inr (by omega)⟩

end Go.Proofs.YtokfcjgfpchffaaGreatDoor

/- What Work of package node does when called: of a message that fits. -/
namespace Go.Proofs.YtokfcjgfpchffaaGreatDoor
open Go.ChangeShapes Go.WideShapes Go.ChangeAt Go.RowKit


set_option maxRecDepth 100000 in
set_option maxHeartbeats 4000000 in
theorem nwork_stale {P : Nat → Prop} (dim : Int) (a : Option Addr) (n c : Nat) (ls : List Ly) (ep : Int) (pa : Option Addr) (pn pc : Nat) (h : List (List Int)) (me : Int) (la : Option Addr) (ln lc : Nat) (l : List En) (x0 x1 x2 x3 x4 x5 x6 x7 x8 x9 : Int) (xa : Option Addr) (xn xc : Nat) (v : List Int) (w : World)
    (H : WorkIn P w a n c ls pa pn pc h la ln lc l xa xn xc v) (hF : Nd.Fits dim ls ep h me ⟨x0, x1, x2, x3, x4, x5, x6, x7, x8, x9, v⟩) (hS : ¬ Nd.Held ep h me ⟨x0, x1, x2, x3, x4, x5, x6, x7, x8, x9, v⟩) :
    Calls Tryz.prog 97 #[.agg #[.int .i64 dim, .slice a n c], .agg #[.int .i64 ep, .slice pa pn pc], .int .i64 me, .slice la ln lc, .agg #[.int .i64 x0, .int .i64 x1, .int .i64 x2, .int .i64 x3, .int .i64 x4, .int .i64 x5, .int .i64 x6, .int .i64 x7, .int .i64 x8, .int .i64 x9, .slice xa xn xc]] w fun e w' => Below w.heap.size w w' ∧ ∃ a' c', e = .returned (.tuple #[.slice a' ln c', .agg #[.int .i64 3, .int .i64 me, .int .i64 x1, .int .i64 x3, .int .i64 x4, .int .i64 x5, .int .i64 x6, .int .i64 x7, .int .i64 x8, .int .i64 ep, .slice none 0 0], .bool true]) ∧ ensS.rep w' (fun b => P b ∨ w.heap.size ≤ b) [.slice a' ln c'] l := by
  have HF : Hid (Nd.Fits dim ls ep h me ⟨x0, x1, x2, x3, x4, x5, x6, x7, x8, x9, v⟩) := hF
  have HS : Hid (¬ Nd.Held ep h me ⟨x0, x1, x2, x3, x4, x5, x6, x7, x8, x9, v⟩) := hS
  clear hF hS
  obtain ⟨W, hW⟩ : ∃ W, W = (((w.alloc (.cells #[.int .i64 dim, .slice a n c] 41)).alloc (.cells #[.int .i64 ep, .slice pa pn pc] 50)).alloc (.cells #[.int .i64 x0, .int .i64 x1, .int .i64 x2, .int .i64 x3, .int .i64 x4, .int .i64 x5, .int .i64 x6, .int .i64 x7, .int .i64 x8, .int .i64 x9, .slice xa xn xc] 100)).alloc (.cells #[.int .i64 0, .int .i64 0, .int .i64 0, .int .i64 0, .int .i64 0, .int .i64 0, .int .i64 0, .int .i64 0, .int .i64 0, .int .i64 0, .slice none 0 0] 100) := ⟨_, rfl⟩
  obtain ⟨hB, km, kp, kx, kr, hsz⟩ := boxes4 hW
  have hm1 := Shape.below H.m hB
  have hp1 := Shape.below H.p hB
  have hl1 := Shape.below H.g hB
  have hv1 := Shape.below H.v hB
  have HH : Hid (WorkIn P w a n c ls pa pn pc h la ln lc l xa xn xc v) := H
  have HW : Hid (W = (((w.alloc (.cells #[.int .i64 dim, .slice a n c] 41)).alloc (.cells #[.int .i64 ep, .slice pa pn pc] 50)).alloc (.cells #[.int .i64 x0, .int .i64 x1, .int .i64 x2, .int .i64 x3, .int .i64 x4, .int .i64 x5, .int .i64 x6, .int .i64 x7, .int .i64 x8, .int .i64 x9, .slice xa xn xc] 100)).alloc (.cells #[.int .i64 0, .int .i64 0, .int .i64 0, .int .i64 0, .int .i64 0, .int .i64 0, .int .i64 0, .int .i64 0, .int .i64 0, .int .i64 0, .slice none 0 0] 100)) := hW
  have HSZ : Hid (W.heap.size = w.heap.size + 4) := hsz
  clear H hW hsz
  go_enter Tryz.func97, Tryz.ntmps97
  go_upto_region 1 with fail
  rw [← HW.out]
  clear HW
  have m0 := km.cell 0 rfl
  have m1 := km.cell 1 rfl
  go_wp2_with fail
  refine (mright a n c ls dim W hm1 HH.out.mn HH.out.mz).mono ?_
  rintro e u1 ⟨hs1, hb1⟩
  have hB1 := bel_then hB hb1
  have kr1 := kr.keep hb1
  have kp1 := kp.keep hb1
  clear m0 m1
  rw [hs1.is HF.out.1]
  clear hs1
  have p0 := kp1.cell 0 rfl
  have p1 := kp1.cell 1 rfl
  go_wp2_with fail
  refine (pright ep pa pn pc h u1 (Shape.below hp1 hb1) HH.out.pz).mono ?_
  rintro e u2 ⟨hs2, hb2⟩
  have hb12 := bel_then hb1 hb2
  have hB2 := bel_then hB1 hb2
  have kr2 := kr1.keep hb2
  have km2 := km.keep hb12
  have kx2 := kx.keep hb12
  have hm2 := Shape.below hm1 hb12
  have hv2 := Shape.below hv1 hb12
  have hl2 := Shape.below hl1 hb12
  clear p0 p1 kp1
  rw [hs2.is HF.out.2.1]
  clear hs2
  have m0 := km2.cell 0 rfl
  have m1 := km2.cell 1 rfl
  have c0 := kx2.cell 0 rfl
  have c1 := kx2.cell 1 rfl
  have c2 := kx2.cell 2 rfl
  have c3 := kx2.cell 3 rfl
  have c4 := kx2.cell 4 rfl
  have c5 := kx2.cell 5 rfl
  have c6 := kx2.cell 6 rfl
  have c7 := kx2.cell 7 rfl
  have c8 := kx2.cell 8 rfl
  have c9 := kx2.cell 9 rfl
  have c10 := kx2.cell 10 rfl
  go_wp2_with fail
  refine (ncan dim a n c ls me x0 x1 x2 x3 x4 x5 x6 x7 x8 x9 xa xn xc v u2 hm2 hv2 HH.out.vn).mono ?_
  rintro e u3 ⟨hs3, hb3⟩
  have hb23 := bel_then hb12 hb3
  have hB3 := bel_then hB2 hb3
  have kr3 := kr2.keep hb3
  have hl3 := Shape.below hl2 hb3
  clear m0 m1 c0 c1 c2 c3 c4 c5 c6 c7 c8 c9 c10
  rw [hs3.is HF.out.2.2]
  have km3 := km2.keep hb3
  have kx3 := kx2.keep hb3
  have kp3 := kp.keep hb23
  clear hs3 km kx kr kp kr1 km2 kx2 kr2 hl2 hv2 hm2 hb1 hb2 hb12 hb3
  have c0 := kx3.cell 0 rfl
  have c1 := kx3.cell 1 rfl
  have c2 := kx3.cell 2 rfl
  have c3 := kx3.cell 3 rfl
  have c4 := kx3.cell 4 rfl
  have c5 := kx3.cell 5 rfl
  have c6 := kx3.cell 6 rfl
  have c7 := kx3.cell 7 rfl
  have c8 := kx3.cell 8 rfl
  have c9 := kx3.cell 9 rfl
  have c10 := kx3.cell 10 rfl
  have p0 := kp3.cell 0 rfl
  go_wp2_with fail
  refine (nreply x0 x1 x2 x3 x4 x5 x6 x7 x8 x9 xa xn xc me ep u3).mono ?_
  rintro e u4 ⟨rfl, hb4⟩
  have hbn := bel_then hb4 (new_bel u4 (.cells #[.int .i64 0, .int .i64 me, .int .i64 x1, .int .i64 x3, .int .i64 x4, .int .i64 x5, .int .i64 x6, .int .i64 x7, .int .i64 x8, .int .i64 ep, .slice none 0 0] 100))
  have km5 := km3.keep hbn
  have kx5 := kx3.keep hbn
  have kp5 := kp3.keep hbn
  have kr5 := kr3.keep hbn
  have hl5 := Shape.below hl3 hbn
  have hB5 := bel_then hB3 hbn
  have hbW5 := bel_then hb23 hbn
  have kt := Box.new u4 100 #[.int .i64 0, .int .i64 me, .int .i64 x1, .int .i64 x3, .int .i64 x4, .int .i64 x5, .int .i64 x6, .int .i64 x7, .int .i64 x8, .int .i64 ep, .slice none 0 0]
  have hgt : w.heap.size + 3 < u4.heap.size := (kr3.keep hb4).lt
  clear c0 c1 c2 c3 c4 c5 c6 c7 c8 c9 c10 p0 km3 kx3 kp3 kr3 hl3 hB3 hb4 hbn hb23
  go_upto_region 4 with fail
  generalize World.alloc u4 _ = V at *
  generalize u4.heap.size = gt at *
  have c9 := kx5.cell 9 rfl
  have c8 := kx5.cell 8 rfl
  have p0 := kp5.cell 0 rfl
  have p1 := kp5.cell 1 rfl
  by_cases he : x9 = ep
  case neg =>
    have q : (x9 != ep) = true := by rw [bne_iff_ne]; exact he
    clear he km5 kp5 kx5
    -- the told message's Kind is stored, then the ledger copied
    have t0 := kt.cell 0 rfl
    have tf := kt.free 0
    have hlP : ∀ b, P b → b ≠ gt := fun b hb => by have := HH.out.lP b hb; omega
    have kt7 := kt.set0 (.int .i64 3)
    have kr7 := kr5.other (b2 := gt) (i := 0) (.int .i64 3) (by omega)
    have hl7 := rep_put (i := 0) hl5 hlP (.int .i64 3)
    have hB7 := bel_put (i := 0) hB5 (by omega : w.heap.size ≤ gt) (.int .i64 3)
    clear hlP
    go_upto_region 6 with fail
    clear t0 tf
    generalize World.setCell V _ _ = V6 at *
    have hD : Below V6.heap.size V6 V6.drew := (Below.refl _ V6).drew
    have hcc : Hid (Calls _ _ _ _ _) := ncopied la ln lc l V6.drew (Shape.below hl7 hD) (fun b hb => by have := HH.out.lP b hb; have h9 := kt7.lt; show b < V6.heap.size; omega) HH.out.ls
    have t0 := kt7.cell 0 rfl
    have t1 := kt7.cell 1 rfl
    have t2 := kt7.cell 2 rfl
    have t3 := kt7.cell 3 rfl
    have t4 := kt7.cell 4 rfl
    have t5 := kt7.cell 5 rfl
    have t6 := kt7.cell 6 rfl
    have t7 := kt7.cell 7 rfl
    have t8 := kt7.cell 8 rfl
    have t9 := kt7.cell 9 rfl
    have t10 := kt7.cell 10 rfl
    have r0 := kr7.cell 0 rfl
    have r1 := kr7.cell 1 rfl
    have r2 := kr7.cell 2 rfl
    have r3 := kr7.cell 3 rfl
    have r4 := kr7.cell 4 rfl
    have r5 := kr7.cell 5 rfl
    have r6 := kr7.cell 6 rfl
    have r7 := kr7.cell 7 rfl
    have r8 := kr7.cell 8 rfl
    have r9 := kr7.cell 9 rfl
    have r10 := kr7.cell 10 rfl
    have f0 := kr7.free 0
    have f1 := kr7.free 1
    have f2 := kr7.free 2
    have f3 := kr7.free 3
    have f4 := kr7.free 4
    have f5 := kr7.free 5
    have f6 := kr7.free 6
    have f7 := kr7.free 7
    have f8 := kr7.free 8
    have f9 := kr7.free 9
    have f10 := kr7.free 10
    go_region_with (go_at_call 134; refine hcc.out.mono ?_; rintro e u7 ⟨hb7, aq, cq, rfl, hr7⟩; have hd7 := bel_then hD hb7; have kt8 := kt7.keep hd7; have kr8 := kr7.keep hd7; have s0 := kt8.cell 0 rfl; have s1 := kt8.cell 1 rfl; have s2 := kt8.cell 2 rfl; have s3 := kt8.cell 3 rfl; have s4 := kt8.cell 4 rfl; have s5 := kt8.cell 5 rfl; have s6 := kt8.cell 6 rfl; have s7 := kt8.cell 7 rfl; have s8 := kt8.cell 8 rfl; have s9 := kt8.cell 9 rfl; have s10 := kt8.cell 10 rfl; have z0 := kr8.cell 0 rfl; have z1 := kr8.cell 1 rfl; have z2 := kr8.cell 2 rfl; have z3 := kr8.cell 3 rfl; have z4 := kr8.cell 4 rfl; have z5 := kr8.cell 5 rfl; have z6 := kr8.cell 6 rfl; have z7 := kr8.cell 7 rfl; have z8 := kr8.cell 8 rfl; have z9 := kr8.cell 9 rfl; have z10 := kr8.cell 10 rfl; have g0 := kr8.free 0; have g1 := kr8.free 1; have g2 := kr8.free 2; have g3 := kr8.free 3; have g4 := kr8.free 4; have g5 := kr8.free 5; have g6 := kr8.free 6; have g7 := kr8.free 7; have g8 := kr8.free 8; have g9 := kr8.free 9; have g10 := kr8.free 10)
    all_goals
      have hV6 : gt < V6.heap.size := kt7.lt
      have hrA : ensS.rep u7 (fun b => P b ∨ w.heap.size + 4 ≤ b) [.slice aq ln cq] l := ensS.mono hr7 fun b hb _ => hb.elim (fun h => Or.inl h) fun h => Or.inr (by have h9 : V6.heap.size ≤ b := h; omega)
      have HR9 : Hid _ := rep_all11 (b := w.heap.size + 3) hrA (fun b hb => hb.elim (fun h => by have := HH.out.lP b h; omega) (fun h => by omega))
      have HB9 : Hid _ := bel_then hB7 hd7
      have HK9 : Hid _ := kr8
      clear hrA hr7 hcc hB7 hl7
      go_wp2
      refine ret_mid Tryz.underlying100 Tryz.infoMsg rfl rfl rfl rfl rfl (Box.all11 HK9.out _ _ _ _ _ _ _ _ _ _ _) rfl ?_
      exact ⟨bel_all11 HB9.out (by omega) _ _ _ _ _ _ _ _ _ _ _, aq, cq, rfl, ensS.mono (HR9.out _ _ _ _ _ _ _ _ _ _ _) fun b hb _ => hb.elim (fun h => Or.inl h) fun h => Or.inr (by omega)⟩
  have q : (x9 != ep) = false := by rw [bne_eq_false_iff_eq]; exact he
  have HBB : Hid (tell (Pl.Holds h x8 me) = false) := tell_no fun h9 => HS.out ⟨he, h9⟩
  clear he
  have hpp := Shape.below hp1 hbW5
  go_wp2_with fail
  refine (pholds ep pa pn pc h x8 me false V hpp HH.out.pz HBB.out).mono ?_
  rintro e u5 ⟨rfl, hb5⟩
  have km6 := km5.keep hb5
  have kx6 := kx5.keep hb5
  have kr6 := kr5.keep hb5
  have kt6 := kt.keep hb5
  have hl6 := Shape.below hl5 hb5
  have hB6 := bel_then hB5 hb5
  have hbW6 := bel_then hbW5 hb5
  clear hpp hb5 km5 kx5 kr5 kt hl5 hB5 hbW5 c9 c8 p0 p1 kp5
  -- the told message's Kind is stored, then the ledger copied
  have t0 := kt6.cell 0 rfl
  have tf := kt6.free 0
  have hlP : ∀ b, P b → b ≠ gt := fun b hb => by have := HH.out.lP b hb; omega
  have kt7 := kt6.set0 (.int .i64 3)
  have kr7 := kr6.other (b2 := gt) (i := 0) (.int .i64 3) (by omega)
  have hl7 := rep_put (i := 0) hl6 hlP (.int .i64 3)
  have hB7 := bel_put (i := 0) hB6 (by omega : w.heap.size ≤ gt) (.int .i64 3)
  clear hlP
  go_upto_region 6 with fail
  clear t0 tf
  generalize World.setCell u5 _ _ = V6 at *
  have hD : Below V6.heap.size V6 V6.drew := (Below.refl _ V6).drew
  have hcc : Hid (Calls _ _ _ _ _) := ncopied la ln lc l V6.drew (Shape.below hl7 hD) (fun b hb => by have := HH.out.lP b hb; have h9 := kt7.lt; show b < V6.heap.size; omega) HH.out.ls
  have t0 := kt7.cell 0 rfl
  have t1 := kt7.cell 1 rfl
  have t2 := kt7.cell 2 rfl
  have t3 := kt7.cell 3 rfl
  have t4 := kt7.cell 4 rfl
  have t5 := kt7.cell 5 rfl
  have t6 := kt7.cell 6 rfl
  have t7 := kt7.cell 7 rfl
  have t8 := kt7.cell 8 rfl
  have t9 := kt7.cell 9 rfl
  have t10 := kt7.cell 10 rfl
  have r0 := kr7.cell 0 rfl
  have r1 := kr7.cell 1 rfl
  have r2 := kr7.cell 2 rfl
  have r3 := kr7.cell 3 rfl
  have r4 := kr7.cell 4 rfl
  have r5 := kr7.cell 5 rfl
  have r6 := kr7.cell 6 rfl
  have r7 := kr7.cell 7 rfl
  have r8 := kr7.cell 8 rfl
  have r9 := kr7.cell 9 rfl
  have r10 := kr7.cell 10 rfl
  have f0 := kr7.free 0
  have f1 := kr7.free 1
  have f2 := kr7.free 2
  have f3 := kr7.free 3
  have f4 := kr7.free 4
  have f5 := kr7.free 5
  have f6 := kr7.free 6
  have f7 := kr7.free 7
  have f8 := kr7.free 8
  have f9 := kr7.free 9
  have f10 := kr7.free 10
  go_region_with (go_at_call 134; refine hcc.out.mono ?_; rintro e u7 ⟨hb7, aq, cq, rfl, hr7⟩; have hd7 := bel_then hD hb7; have kt8 := kt7.keep hd7; have kr8 := kr7.keep hd7; have s0 := kt8.cell 0 rfl; have s1 := kt8.cell 1 rfl; have s2 := kt8.cell 2 rfl; have s3 := kt8.cell 3 rfl; have s4 := kt8.cell 4 rfl; have s5 := kt8.cell 5 rfl; have s6 := kt8.cell 6 rfl; have s7 := kt8.cell 7 rfl; have s8 := kt8.cell 8 rfl; have s9 := kt8.cell 9 rfl; have s10 := kt8.cell 10 rfl; have z0 := kr8.cell 0 rfl; have z1 := kr8.cell 1 rfl; have z2 := kr8.cell 2 rfl; have z3 := kr8.cell 3 rfl; have z4 := kr8.cell 4 rfl; have z5 := kr8.cell 5 rfl; have z6 := kr8.cell 6 rfl; have z7 := kr8.cell 7 rfl; have z8 := kr8.cell 8 rfl; have z9 := kr8.cell 9 rfl; have z10 := kr8.cell 10 rfl; have g0 := kr8.free 0; have g1 := kr8.free 1; have g2 := kr8.free 2; have g3 := kr8.free 3; have g4 := kr8.free 4; have g5 := kr8.free 5; have g6 := kr8.free 6; have g7 := kr8.free 7; have g8 := kr8.free 8; have g9 := kr8.free 9; have g10 := kr8.free 10)
  all_goals
    have hV6 : gt < V6.heap.size := kt7.lt
    have hrA : ensS.rep u7 (fun b => P b ∨ w.heap.size + 4 ≤ b) [.slice aq ln cq] l := ensS.mono hr7 fun b hb _ => hb.elim (fun h => Or.inl h) fun h => Or.inr (by have h9 : V6.heap.size ≤ b := h; omega)
    have HR9 : Hid _ := rep_all11 (b := w.heap.size + 3) hrA (fun b hb => hb.elim (fun h => by have := HH.out.lP b h; omega) (fun h => by omega))
    have HB9 : Hid _ := bel_then hB7 hd7
    have HK9 : Hid _ := kr8
    clear hrA hr7 hcc hB7 hl7
    go_wp2
    refine ret_mid Tryz.underlying100 Tryz.infoMsg rfl rfl rfl rfl rfl (Box.all11 HK9.out _ _ _ _ _ _ _ _ _ _ _) rfl ?_
    exact ⟨bel_all11 HB9.out (by omega) _ _ _ _ _ _ _ _ _ _ _, aq, cq, rfl, ensS.mono (HR9.out _ _ _ _ _ _ _ _ _ _ _) fun b hb _ => hb.elim (fun h => Or.inl h) fun h => Or.inr (by omega)⟩

end Go.Proofs.YtokfcjgfpchffaaGreatDoor

/- What Work of package node does when called: of a message that fits, and is of the map's epoch, of an expert that the node holds. -/
namespace Go.Proofs.YtokfcjgfpchffaaGreatDoor
open Go.ChangeShapes Go.WideShapes Go.ChangeAt Go.RowKit


set_option maxRecDepth 100000 in
set_option maxHeartbeats 4000000 in
theorem nwork_held {P : Nat → Prop} (dim : Int) (a : Option Addr) (n c : Nat) (ls : List Ly) (ep : Int) (pa : Option Addr) (pn pc : Nat) (h : List (List Int)) (me : Int) (la : Option Addr) (ln lc : Nat) (l : List En) (x0 x1 x2 x3 x4 x5 x6 x7 x8 x9 : Int) (xa : Option Addr) (xn xc : Nat) (v : List Int) (w : World)
    (H : WorkIn P w a n c ls pa pn pc h la ln lc l xa xn xc v) (hF : Nd.Fits dim ls ep h me ⟨x0, x1, x2, x3, x4, x5, x6, x7, x8, x9, v⟩) (hS : Nd.Held ep h me ⟨x0, x1, x2, x3, x4, x5, x6, x7, x8, x9, v⟩)
    (L : List En) (y : List Int) (hw : Nd.Works l (Nd.keyOf ⟨x0, x1, x2, x3, x4, x5, x6, x7, x8, x9, v⟩) (Md.ans (Nd.lyOf ls ⟨x0, x1, x2, x3, x4, x5, x6, x7, x8, x9, v⟩) v x8) L y) (m : Nat) (hm : L.length = m) (yn : Nat) (hyn : y.length = yn) :
    Calls Tryz.prog 97 #[.agg #[.int .i64 dim, .slice a n c], .agg #[.int .i64 ep, .slice pa pn pc], .int .i64 me, .slice la ln lc, .agg #[.int .i64 x0, .int .i64 x1, .int .i64 x2, .int .i64 x3, .int .i64 x4, .int .i64 x5, .int .i64 x6, .int .i64 x7, .int .i64 x8, .int .i64 x9, .slice xa xn xc]] w fun e w' => Below w.heap.size w w' ∧ ∃ a' c' ya yc, e = .returned (.tuple #[.slice a' m c', .agg #[.int .i64 2, .int .i64 me, .int .i64 x1, .int .i64 x3, .int .i64 x4, .int .i64 x5, .int .i64 x6, .int .i64 x7, .int .i64 x8, .int .i64 ep, .slice ya yn yc], .bool true]) ∧ ensS.rep w' (fun b => P b ∨ w.heap.size ≤ b) [.slice a' m c'] L ∧ rowS.rep w' (w.heap.size ≤ ·) [.slice ya yn yc] y := by
  have HF : Hid (Nd.Fits dim ls ep h me ⟨x0, x1, x2, x3, x4, x5, x6, x7, x8, x9, v⟩) := hF
  have HS : Hid (Nd.Held ep h me ⟨x0, x1, x2, x3, x4, x5, x6, x7, x8, x9, v⟩) := hS
  have hlo := hF.low
  have hlay := hF.layer
  have hvec := hF.vec
  obtain ⟨k, hk5⟩ : ∃ k : Nat, x5 = (k : Int) := ⟨x5.toNat, by have h9 : 0 ≤ x5 := hlo.1; omega⟩
  obtain ⟨j, hj8⟩ : ∃ j : Nat, x8 = (j : Int) := ⟨x8.toNat, by have h9 : 0 ≤ x8 := hlo.2.1; omega⟩
  have hln := (sliceS_len H.m).1
  have hkn : k < n := by have h9 : x5.toNat < ls.length := hlay.1; omega
  obtain ⟨b, off, ag, ng, cg, ax, nx, cx, g, xs, cap, ha, hbb, hE, hg, hx, e0, e1, e2⟩ := ly_there H.m hkn
  have hnx := (sliceS_len hx).1
  have hE2 : Nd.lyOf ls ⟨x0, x1, x2, x3, x4, x5, x6, x7, x8, x9, v⟩ = (g, xs, cap, ()) := by rw [← hE, show k = x5.toNat by omega]; rfl
  have hjn : j < nx := by
    have h9 : x8 < ((Nd.lyOf ls ⟨x0, x1, x2, x3, x4, x5, x6, x7, x8, x9, v⟩).2.1.length : Int) := hF.2.2.2.2.2.2.1
    rw [hE2] at h9
    have h8 : x8 < (xs.length : Int) := h9
    omega
  obtain ⟨b2, off2, ai, ni, ci, ao, no, co, mi, mo, rfl, hbb2, hE3, hri, hro, f0, f1⟩ := xp_there hx hjn
  have hxm : ((mi, mo, ()) : Xp) ∈ xs := by rw [← hE3]; exact in_of (by omega) _
  have hLR : Md.LRight (g, xs, cap, ()) dim := by rw [← hE2]; exact hlay.2
  have hvn : (xn : Int) = dim := by rw [← (sliceS_len H.v).1]; exact hvec.1
  have hER : Ex.Right mi mo xn := by rw [hvn]; exact hLR.2.2.2.2.2 _ hxm
  have hLM : ((g, xs, cap, ()) : Ly) ∈ ls := by rw [← hE]; exact in_of (by omega) _
  have hsz := (H.mz _ hLM).2.2 _ hxm
  have hans : Md.ans (Nd.lyOf ls ⟨x0, x1, x2, x3, x4, x5, x6, x7, x8, x9, v⟩) v x8 = Ex.run mi mo v := by
    rw [hE2]
    show Ex.run (xs.getD x8.toNat xp0).1 (xs.getD x8.toNat xp0).2.1 v = _
    rw [show x8.toNat = j by omega, hE3]
  rw [hans] at hw
  have HWK : Hid (Nd.Works l (ky x4 x5 x6 x7) (Ex.run mi mo v) L y) := hw
  have HM : Hid (L.length = m) := hm
  have HY : Hid (y.length = yn) := hyn
  have HER : Hid (Ex.Right mi mo xn ∧ Ex.Sized mi ∧ Ex.Sized mo) := ⟨hER, hsz.1, hsz.2⟩
  have HXP : Hid (Exp w ai ni ci ao no co mi mo) := ⟨Shape.any hri, Shape.any hro⟩
  have HCE : Hid (∀ u, Below w.heap.size w u → u.cell? ⟨b, off + k * 3 + 1, none⟩ = some (.slice (some ⟨b2, off2, none⟩) nx cx) ∧ u.cell? ⟨b2, off2 + j * 2, none⟩ = some (.slice ai ni ci) ∧ u.cell? ⟨b2, off2 + j * 2 + 1, none⟩ = some (.slice ao no co)) := fun u hu => ⟨(hu.cell hbb).trans e1, (hu.cell hbb2).trans f0, (hu.cell hbb2).trans f1⟩
  have H5 : Hid (x5 = (k : Int) ∧ k < n) := ⟨hk5, hkn⟩
  have H8 : Hid (x8 = (j : Int) ∧ j < nx) := ⟨hj8, hjn⟩
  have HA : Hid (a = some ⟨b, off, none⟩) := ha
  clear hF hS hlo hlay hvec hln hnx hE2 hE hg hx e0 e1 e2 hE3 hri hro f0 f1 hxm hLR hvn hER hLM hsz hans hw hm hyn hbb hbb2 hk5 hj8 ha hkn hjn
  obtain ⟨W, hW⟩ : ∃ W, W = (((w.alloc (.cells #[.int .i64 dim, .slice a n c] 41)).alloc (.cells #[.int .i64 ep, .slice pa pn pc] 50)).alloc (.cells #[.int .i64 x0, .int .i64 x1, .int .i64 x2, .int .i64 x3, .int .i64 x4, .int .i64 x5, .int .i64 x6, .int .i64 x7, .int .i64 x8, .int .i64 x9, .slice xa xn xc] 100)).alloc (.cells #[.int .i64 0, .int .i64 0, .int .i64 0, .int .i64 0, .int .i64 0, .int .i64 0, .int .i64 0, .int .i64 0, .int .i64 0, .int .i64 0, .slice none 0 0] 100) := ⟨_, rfl⟩
  obtain ⟨hB, km, kp, kx, kr, hsz⟩ := boxes4 hW
  have hm1 := Shape.below H.m hB
  have hp1 := Shape.below H.p hB
  have hl1 := Shape.below H.g hB
  have hv1 := Shape.below H.v hB
  have HH : Hid (WorkIn P w a n c ls pa pn pc h la ln lc l xa xn xc v) := H
  have HW : Hid (W = (((w.alloc (.cells #[.int .i64 dim, .slice a n c] 41)).alloc (.cells #[.int .i64 ep, .slice pa pn pc] 50)).alloc (.cells #[.int .i64 x0, .int .i64 x1, .int .i64 x2, .int .i64 x3, .int .i64 x4, .int .i64 x5, .int .i64 x6, .int .i64 x7, .int .i64 x8, .int .i64 x9, .slice xa xn xc] 100)).alloc (.cells #[.int .i64 0, .int .i64 0, .int .i64 0, .int .i64 0, .int .i64 0, .int .i64 0, .int .i64 0, .int .i64 0, .int .i64 0, .int .i64 0, .slice none 0 0] 100)) := hW
  have HSZ : Hid (W.heap.size = w.heap.size + 4) := hsz
  clear H hW hsz
  go_enter Tryz.func97, Tryz.ntmps97
  go_upto_region 1 with fail
  rw [← HW.out]
  clear HW
  have m0 := km.cell 0 rfl
  have m1 := km.cell 1 rfl
  go_wp2_with fail
  refine (mright a n c ls dim W hm1 HH.out.mn HH.out.mz).mono ?_
  rintro e u1 ⟨hs1, hb1⟩
  have hB1 := bel_then hB hb1
  have kr1 := kr.keep hb1
  have kp1 := kp.keep hb1
  clear m0 m1
  rw [hs1.is HF.out.1]
  clear hs1
  have p0 := kp1.cell 0 rfl
  have p1 := kp1.cell 1 rfl
  go_wp2_with fail
  refine (pright ep pa pn pc h u1 (Shape.below hp1 hb1) HH.out.pz).mono ?_
  rintro e u2 ⟨hs2, hb2⟩
  have hb12 := bel_then hb1 hb2
  have hB2 := bel_then hB1 hb2
  have kr2 := kr1.keep hb2
  have km2 := km.keep hb12
  have kx2 := kx.keep hb12
  have hm2 := Shape.below hm1 hb12
  have hv2 := Shape.below hv1 hb12
  have hl2 := Shape.below hl1 hb12
  clear p0 p1 kp1
  rw [hs2.is HF.out.2.1]
  clear hs2
  have m0 := km2.cell 0 rfl
  have m1 := km2.cell 1 rfl
  have c0 := kx2.cell 0 rfl
  have c1 := kx2.cell 1 rfl
  have c2 := kx2.cell 2 rfl
  have c3 := kx2.cell 3 rfl
  have c4 := kx2.cell 4 rfl
  have c5 := kx2.cell 5 rfl
  have c6 := kx2.cell 6 rfl
  have c7 := kx2.cell 7 rfl
  have c8 := kx2.cell 8 rfl
  have c9 := kx2.cell 9 rfl
  have c10 := kx2.cell 10 rfl
  go_wp2_with fail
  refine (ncan dim a n c ls me x0 x1 x2 x3 x4 x5 x6 x7 x8 x9 xa xn xc v u2 hm2 hv2 HH.out.vn).mono ?_
  rintro e u3 ⟨hs3, hb3⟩
  have hb23 := bel_then hb12 hb3
  have hB3 := bel_then hB2 hb3
  have kr3 := kr2.keep hb3
  have hl3 := Shape.below hl2 hb3
  clear m0 m1 c0 c1 c2 c3 c4 c5 c6 c7 c8 c9 c10
  rw [hs3.is HF.out.2.2]
  have km3 := km2.keep hb3
  have kx3 := kx2.keep hb3
  have kp3 := kp.keep hb23
  clear hs3 km kx kr kp kr1 km2 kx2 kr2 hl2 hv2 hm2 hb1 hb2 hb12 hb3
  have c0 := kx3.cell 0 rfl
  have c1 := kx3.cell 1 rfl
  have c2 := kx3.cell 2 rfl
  have c3 := kx3.cell 3 rfl
  have c4 := kx3.cell 4 rfl
  have c5 := kx3.cell 5 rfl
  have c6 := kx3.cell 6 rfl
  have c7 := kx3.cell 7 rfl
  have c8 := kx3.cell 8 rfl
  have c9 := kx3.cell 9 rfl
  have c10 := kx3.cell 10 rfl
  have p0 := kp3.cell 0 rfl
  go_wp2_with fail
  refine (nreply x0 x1 x2 x3 x4 x5 x6 x7 x8 x9 xa xn xc me ep u3).mono ?_
  rintro e u4 ⟨rfl, hb4⟩
  have hbn := bel_then hb4 (new_bel u4 (.cells #[.int .i64 0, .int .i64 me, .int .i64 x1, .int .i64 x3, .int .i64 x4, .int .i64 x5, .int .i64 x6, .int .i64 x7, .int .i64 x8, .int .i64 ep, .slice none 0 0] 100))
  have km5 := km3.keep hbn
  have kx5 := kx3.keep hbn
  have kp5 := kp3.keep hbn
  have kr5 := kr3.keep hbn
  have hl5 := Shape.below hl3 hbn
  have hB5 := bel_then hB3 hbn
  have hbW5 := bel_then hb23 hbn
  have kt := Box.new u4 100 #[.int .i64 0, .int .i64 me, .int .i64 x1, .int .i64 x3, .int .i64 x4, .int .i64 x5, .int .i64 x6, .int .i64 x7, .int .i64 x8, .int .i64 ep, .slice none 0 0]
  have hgt : w.heap.size + 3 < u4.heap.size := (kr3.keep hb4).lt
  clear c0 c1 c2 c3 c4 c5 c6 c7 c8 c9 c10 p0 km3 kx3 kp3 kr3 hl3 hB3 hb4 hbn hb23
  go_upto_region 4 with fail
  generalize World.alloc u4 _ = V at *
  generalize u4.heap.size = gt at *
  have c9 := kx5.cell 9 rfl
  have c8 := kx5.cell 8 rfl
  have p0 := kp5.cell 0 rfl
  have p1 := kp5.cell 1 rfl
  have q : (x9 != ep) = false := by rw [bne_eq_false_iff_eq]; exact HS.out.1
  have HBB : Hid (tell (Pl.Holds h x8 me) = true) := tell_yes HS.out.2
  have hpp := Shape.below hp1 hbW5
  go_wp2_with fail
  refine (pholds ep pa pn pc h x8 me true V hpp HH.out.pz HBB.out).mono ?_
  rintro e u5 ⟨rfl, hb5⟩
  have km6 := km5.keep hb5
  have kx6 := kx5.keep hb5
  have kr6 := kr5.keep hb5
  have kt6 := kt.keep hb5
  have hl6 := Shape.below hl5 hb5
  have hB6 := bel_then hB5 hb5
  have hbW6 := bel_then hbW5 hb5
  clear hpp hb5 km5 kx5 kr5 kt hl5 hB5 hbW5 c9 c8 p0 p1 kp5
  have t0 := kt6.cell 0 rfl
  have tf := kt6.free 0
  have kt7 := kt6.set0 (.int .i64 2)
  have kr7 := kr6.other (b2 := gt) (i := 0) (.int .i64 2) (by omega)
  have km7 := km6.other (b2 := gt) (i := 0) (.int .i64 2) (by omega)
  have kx7 := kx6.other (b2 := gt) (i := 0) (.int .i64 2) (by omega)
  have hl7 := rep_put (i := 0) hl6 (fun b hb => by have := HH.out.lP b hb; omega : ∀ b, P b → b ≠ gt) (.int .i64 2)
  have hB7 := bel_put (i := 0) hB6 (by omega : w.heap.size ≤ gt) (.int .i64 2)
  clear kt6 kr6 km6 kx6 hl6 hB6 hbW6
  go_upto_region 8 with fail
  clear t0 tf
  generalize World.setCell u5 _ _ = V6 at *
  have h5 := H5.out.1
  have h8 := H8.out.1
  have ha := HA.out
  have hkn := H5.out.2
  have hjn := H8.out.2
  clear H5 H8 HA
  subst h5
  subst h8
  subst ha
  have hki : (k : Int) < (n : Int) := by omega
  have hk0 : (0 : Int) ≤ (k : Int) := by omega
  have hji : (j : Int) < (nx : Int) := by omega
  have hj0 : (0 : Int) ≤ (j : Int) := by omega
  have HCC : Hid (∀ u, Below V6.heap.size V6 u → Calls Tryz.prog 137 #[.agg #[.slice ai ni ci, .slice ao no co], .slice la ln lc, .agg #[.int .i64 x0, .int .i64 x1, .int .i64 x2, .int .i64 x3, .int .i64 x4, .int .i64 (k : Int), .int .i64 x6, .int .i64 x7, .int .i64 (j : Int), .int .i64 x9, .slice xa xn xc]] u fun e w' => Below u.heap.size u w' ∧ ∃ a' c' b' d', e = .returned (.tuple #[.slice a' m c', .slice b' yn d']) ∧ ensS.rep w' (fun b => P b ∨ u.heap.size ≤ b) [.slice a' m c'] L ∧ rowS.rep w' (u.heap.size ≤ ·) [.slice b' yn d'] y) := fun u hu =>
    nworked (P := P) ai ni ci ao no co mi mo la ln lc l x0 x1 x2 x3 x4 (k : Int) x6 x7 (j : Int) x9 xa xn xc v u (HXP.out.below (bel_then hB7 hu)) HER.out.2.1 HER.out.2.2 (Shape.below hl7 hu) (fun b hb => by have := HH.out.lP b hb; have h9 := kt7.lt; have h8 := hu.size; omega) HH.out.ls (Shape.below HH.out.v (bel_then hB7 hu)) HH.out.vn HER.out.1 L y HWK.out m HM.out yn HY.out
  obtain ⟨y1, y2, y3⟩ := HCE.out V6 hB7
  have hne9 : Nonempty (Later V6) := Later.there V6
  have i1 : ∀ x : Later V6, x.u.cell? ⟨w.heap.size, 1, none⟩ = _ := fun x => x.cell (km7.cell 1 rfl)
  have i2 : ∀ x : Later V6, x.u.cell? ⟨b, off + k * 3 + 1, none⟩ = _ := fun x => x.cell y1
  have i3 : ∀ x : Later V6, x.u.cell? ⟨b2, off2 + j * 2, none⟩ = _ := fun x => x.cell y2
  have i4 : ∀ x : Later V6, x.u.cell? ⟨b2, off2 + j * 2 + 1, none⟩ = _ := fun x => x.cell y3
  have c0 : ∀ x : Later V6, x.u.cell? ⟨w.heap.size + 2, 0, none⟩ = _ := fun x => x.cell (kx7.cell 0 rfl)
  have c1 : ∀ x : Later V6, x.u.cell? ⟨w.heap.size + 2, 1, none⟩ = _ := fun x => x.cell (kx7.cell 1 rfl)
  have c2 : ∀ x : Later V6, x.u.cell? ⟨w.heap.size + 2, 2, none⟩ = _ := fun x => x.cell (kx7.cell 2 rfl)
  have c3 : ∀ x : Later V6, x.u.cell? ⟨w.heap.size + 2, 3, none⟩ = _ := fun x => x.cell (kx7.cell 3 rfl)
  have c4 : ∀ x : Later V6, x.u.cell? ⟨w.heap.size + 2, 4, none⟩ = _ := fun x => x.cell (kx7.cell 4 rfl)
  have c5 : ∀ x : Later V6, x.u.cell? ⟨w.heap.size + 2, 5, none⟩ = _ := fun x => x.cell (kx7.cell 5 rfl)
  have c6 : ∀ x : Later V6, x.u.cell? ⟨w.heap.size + 2, 6, none⟩ = _ := fun x => x.cell (kx7.cell 6 rfl)
  have c7 : ∀ x : Later V6, x.u.cell? ⟨w.heap.size + 2, 7, none⟩ = _ := fun x => x.cell (kx7.cell 7 rfl)
  have c8 : ∀ x : Later V6, x.u.cell? ⟨w.heap.size + 2, 8, none⟩ = _ := fun x => x.cell (kx7.cell 8 rfl)
  have c9 : ∀ x : Later V6, x.u.cell? ⟨w.heap.size + 2, 9, none⟩ = _ := fun x => x.cell (kx7.cell 9 rfl)
  have c10 : ∀ x : Later V6, x.u.cell? ⟨w.heap.size + 2, 10, none⟩ = _ := fun x => x.cell (kx7.cell 10 rfl)
  clear km7 kx7 y1 y2 y3
  refine Ord.region (by kernel_rfl) (by kernel_rfl) [0, 1, 2, 3, 4, 5, 6, 7, 8, 9, 10, 11, 12] 6 rfl (by kernel_rfl) ?_
  refine ⟨_, (by simp only [Ord.pickOps, Ord.stand, Ord.reads, List.getElem?_toArray, List.getElem?_cons_zero, List.getElem?_cons_succ, if_true]; rfl), ?_⟩
  repeat (go_big_quiet_step (fail))
  refine wpQuiet_nil ?_
  refine Ord.ready_one (i := 13) (by kernel_rfl) ?_
  intro x7' hx7
  refine Ord.by_call (vals := [.agg #[.slice ai ni ci, .slice ao no co], .slice la ln lc, .agg #[.int .i64 x0, .int .i64 x1, .int .i64 x2, .int .i64 x3, .int .i64 x4, .int .i64 (k : Int), .int .i64 x6, .int .i64 x7, .int .i64 (j : Int), .int .i64 x9, .slice xa xn xc]]) rfl (by rfl) rfl (by kernel_rfl) (by rfl) 71 (by rfl) ?_
  refine (HCC.out x7' hx7).mono ?_
  rintro e u7 ⟨hb7, aq, cq, ya, yc, rfl, hr7, hy7⟩
  have hne4 : Nonempty (Later u7) := Later.there u7
  refine ⟨_, rfl, hb7, ?_⟩
  refine Ord.seg_put (by kernel_rfl) [14, 15, 16, 17, 18] 0 rfl (by kernel_rfl) ?_
  refine ⟨_, (by simp only [Ord.pickOps, Ord.stand, Ord.reads, List.getElem?_toArray, List.getElem?_cons_zero, List.getElem?_cons_succ, if_true]; rfl), ?_⟩
  repeat (go_big_quiet_step (fail))
  refine wpQuiet_nil ?_
  refine Ord.ready_none (by kernel_rfl) ?_
  intro x9'
  obtain ⟨u8, hb8⟩ := x9'
  have hd7 := bel_then (bel_then hx7 hb7) hb8
  have hx7s := hx7.size
  replace hr7 := Shape.below hr7 hb8
  replace hy7 := Shape.below hy7 hb8
  clear hne9 hne4 i1 i2 i3 i4 c0 c1 c2 c3 c4 c5 c6 c7 c8 c9 c10 HCC
  have kt8 := kt7.keep hd7
  have kr8 := kr7.keep hd7
  have hV6 : gt < V6.heap.size := kt7.lt
  have z10 := kt8.cell 10 rfl
  have f10 := kt8.free 10
  have kt9 := kt8.set10 (.slice ya yn yc)
  have kr9 := kr8.other (b2 := gt) (i := 10) (.slice ya yn yc) (by omega)
  have hrA : ensS.rep u8 (fun b => P b ∨ gt < b) [.slice aq m cq] L := ensS.mono hr7 fun b hb _ => hb.elim (fun h => Or.inl h) fun h => Or.inr (by have h9 : x7'.heap.size ≤ b := h; omega)
  have hr9 := rep_put (b := gt) (i := 10) hrA (fun b hb => hb.elim (fun h => by have := HH.out.lP b h; omega) (fun h => by omega)) (.slice ya yn yc)
  have hyA : rowS.rep u8 (gt < ·) [.slice ya yn yc] y := rowS.mono hy7 fun b hb _ => by have h9 : x7'.heap.size ≤ b := hb; show gt < b; omega
  have hy9 := rep_put (b := gt) (i := 10) hyA (fun b hb => by have h9 : gt < b := hb; omega) (.slice ya yn yc)
  have hB9 := bel_put (i := 10) (bel_then hB7 hd7) (by omega : w.heap.size ≤ gt) (.slice ya yn yc)
  clear kt7 kr7 kt8 kr8 hr7 hy7 hrA hyA HCE hB7 hl7 hd7 hx7s
  go_upto_region 10 with fail
  clear z10 f10
  generalize World.setCell u8 _ _ = V9 at *
  have HR9 : Hid _ := rep_all11 (b := w.heap.size + 3) hr9 (fun b hb => hb.elim (fun h => by have := HH.out.lP b h; omega) (fun h => by omega))
  have HY9 : Hid _ := rep_all11 (b := w.heap.size + 3) hy9 (fun b hb => by have h9 : gt < b := hb; omega)
  have HB9 : Hid _ := hB9
  have HK9 : Hid _ := kr9
  have t0 := kt9.cell 0 rfl
  have t1 := kt9.cell 1 rfl
  have t2 := kt9.cell 2 rfl
  have t3 := kt9.cell 3 rfl
  have t4 := kt9.cell 4 rfl
  have t5 := kt9.cell 5 rfl
  have t6 := kt9.cell 6 rfl
  have t7 := kt9.cell 7 rfl
  have t8 := kt9.cell 8 rfl
  have t9 := kt9.cell 9 rfl
  have t10 := kt9.cell 10 rfl
  have r0 := kr9.cell 0 rfl
  have r1 := kr9.cell 1 rfl
  have r2 := kr9.cell 2 rfl
  have r3 := kr9.cell 3 rfl
  have r4 := kr9.cell 4 rfl
  have r5 := kr9.cell 5 rfl
  have r6 := kr9.cell 6 rfl
  have r7 := kr9.cell 7 rfl
  have r8 := kr9.cell 8 rfl
  have r9 := kr9.cell 9 rfl
  have r10 := kr9.cell 10 rfl
  have f0 := kr9.free 0
  have f1 := kr9.free 1
  have f2 := kr9.free 2
  have f3 := kr9.free 3
  have f4 := kr9.free 4
  have f5 := kr9.free 5
  have f6 := kr9.free 6
  have f7 := kr9.free 7
  have f8 := kr9.free 8
  have f9 := kr9.free 9
  have f10 := kr9.free 10
  clear hr9 hy9 hB9 kt9 kr9
  go_region_with (fail)
  all_goals
    go_wp2
    refine ret_mid Tryz.underlying100 Tryz.infoMsg rfl rfl rfl rfl rfl (Box.draw (Box.all11 HK9.out _ _ _ _ _ _ _ _ _ _ _)) rfl ?_
    exact ⟨(bel_all11 HB9.out (by omega) _ _ _ _ _ _ _ _ _ _ _).drew, aq, cq, ya, yc, rfl, ensS.mono (Shape.below (HR9.out _ _ _ _ _ _ _ _ _ _ _) (Below.refl _ _).drew) (fun b hb _ => hb.elim (fun h => Or.inl h) fun h => Or.inr (by omega)), rowS.mono (Shape.below (HY9.out _ _ _ _ _ _ _ _ _ _ _) (Below.refl _ _).drew) (fun b hb _ => by have h9 : gt < b := hb; show w.heap.size ≤ b; omega)⟩

end Go.Proofs.YtokfcjgfpchffaaGreatDoor

/- Work of package node with letters for what it answers; the model and the fixed answer of the laws of layer 18. -/
namespace Go.Proofs.YtokfcjgfpchffaaGreatDoor
open Go.ChangeShapes Go.WideShapes Go.ChangeAt Go.RowKit

theorem nwork {P : Nat → Prop} (dim : Int) (a : Option Addr) (n c : Nat) (ls : List Ly) (ep : Int) (pa : Option Addr) (pn pc : Nat) (h : List (List Int)) (me : Int) (la : Option Addr) (ln lc : Nat) (l : List En) (x0 x1 x2 x3 x4 x5 x6 x7 x8 x9 : Int) (xa : Option Addr) (xn xc : Nat) (v : List Int) (w : World)
    (H : WorkIn P w a n c ls pa pn pc h la ln lc l xa xn xc v) (L : List En) (y0 y1 y2 y3 y4 y5 y6 y7 y8 y9 : Int) (yl : List Int) (bb : Bool) (ht : Nd.Tells dim ls ep h me l ⟨x0, x1, x2, x3, x4, x5, x6, x7, x8, x9, v⟩ L ⟨y0, y1, y2, y3, y4, y5, y6, y7, y8, y9, yl⟩ bb) (m : Nat) (hm : L.length = m) (yn : Nat) (hyn : yl.length = yn) :
    Calls Tryz.prog 97 #[.agg #[.int .i64 dim, .slice a n c], .agg #[.int .i64 ep, .slice pa pn pc], .int .i64 me, .slice la ln lc, .agg #[.int .i64 x0, .int .i64 x1, .int .i64 x2, .int .i64 x3, .int .i64 x4, .int .i64 x5, .int .i64 x6, .int .i64 x7, .int .i64 x8, .int .i64 x9, .slice xa xn xc]] w fun e w' => Below w.heap.size w w' ∧ ∃ a' c' ya yc, e = .returned (.tuple #[.slice a' m c', .agg #[.int .i64 y0, .int .i64 y1, .int .i64 y2, .int .i64 y3, .int .i64 y4, .int .i64 y5, .int .i64 y6, .int .i64 y7, .int .i64 y8, .int .i64 y9, .slice ya yn yc], .bool bb]) ∧ ensS.rep w' (fun b => P b ∨ w.heap.size ≤ b) [.slice a' m c'] L ∧ rowS.rep w' (w.heap.size ≤ ·) [.slice ya yn yc] yl := by
  have hln := (sliceS_len H.g).1
  rcases ht with ⟨hf, rfl, hmm, rfl⟩ | ⟨hf, hs, rfl, hmm, rfl⟩ | ⟨hf, hs, y, hw, hmm, rfl⟩
  · obtain rfl : ln = m := by omega
    unfold Wx.zero at hmm
    cases hmm
    obtain rfl : 0 = yn := hyn
    exact (nwork_no dim a n c ls ep pa pn pc h me la ln lc L x0 x1 x2 x3 x4 x5 x6 x7 x8 x9 xa xn xc v w H hf).mono fun e w' ⟨hb, a', c', he, hr⟩ => ⟨hb, a', c', none, 0, he, hr, rep_none _ _ _⟩
  · obtain rfl : ln = m := by omega
    unfold Nd.reply at hmm
    cases hmm
    obtain rfl : 0 = yn := hyn
    exact (nwork_stale dim a n c ls ep pa pn pc h me la ln lc L x0 x1 x2 x3 x4 x5 x6 x7 x8 x9 xa xn xc v w H hf hs).mono fun e w' ⟨hb, a', c', he, hr⟩ => ⟨hb, a', c', none, 0, he, hr, rep_none _ _ _⟩
  · unfold Nd.reply at hmm
    cases hmm
    exact (nwork_held dim a n c ls ep pa pn pc h me la ln lc l x0 x1 x2 x3 x4 x5 x6 x7 x8 x9 xa xn xc v w H hf hs L _ hw m hm yn hyn).mono fun e w' ⟨hb, a', c', ya, yc, he, hr, hy⟩ => ⟨hb, a', c', ya, yc, he, hr, hy⟩

end Go.Proofs.YtokfcjgfpchffaaGreatDoor

/- What Work tells (Nd.Tells, of which the contracts speak) is what it does on lists (Nd.work, of which layer 19's machine is made); no program in sight. -/
namespace Go.Proofs.YtokfcjgfpchffaaGreatDoor.Nd
open Go.Proofs.YtokfcjgfpchffaaGreatDoor Go.Proofs.YtokfcjgfpchffaaGreatDoor.Md
section
variable {dim : Int} {ms : List Ly} {e : Int} {h : List (List Int)} {node : Int} {l L : List En} {a m : Wx.Msg} {b : Bool}
theorem works_some {v : List Int} (hg : got l (keyOf a) = some v) {z y : List Int} (hw : Works l (keyOf a) z L y) : y = v ∧ L = l := by
  rcases hw with ⟨h1, h2⟩ | ⟨h1, _⟩
  · rw [hg] at h1; exact ⟨(Option.some.inj h1).symm, h2⟩
  · rw [hg] at h1; cases h1
theorem works_none (hg : got l (keyOf a) = none) {z y : List Int} (hw : Works l (keyOf a) z L y) : y = z ∧ L = l ++ [en (keyOf a) z] := by
  rcases hw with ⟨h1, _⟩ | ⟨_, h2, h3⟩
  · rw [hg] at h1; cases h1
  · subst h2; exact ⟨rfl, h3⟩
/-- Told with true: that is what work does. -/
theorem tells_true : Tells dim ms e h node l a L m true ↔ work dim ms e h node l a = some (L, m) := by
  rcases work_ways dim ms e h node l a with ⟨hf, hw⟩ | ⟨hf, hh, hw⟩ | ⟨hf, hh, v, hg, hw⟩ | ⟨hf, hh, hg, hw⟩
  · rw [hw]
    constructor
    · rintro (⟨_, _, _, h4⟩ | ⟨h1, _⟩ | ⟨h1, _⟩)
      · cases h4
      · exact absurd h1 hf
      · exact absurd h1 hf
    · intro h9; cases h9
  · rw [hw]
    constructor
    · rintro (⟨h1, _⟩ | ⟨_, _, h3, h4, _⟩ | ⟨_, h2, _⟩)
      · exact absurd hf h1
      · rw [h3, h4]
      · exact absurd h2 hh
    · intro h9; cases h9; exact .inr (.inl ⟨hf, hh, rfl, rfl, rfl⟩)
  · rw [hw]
    constructor
    · rintro (⟨h1, _⟩ | ⟨_, h2, _⟩ | ⟨_, _, y, h3, h4, _⟩)
      · exact absurd hf h1
      · exact absurd hh h2
      · obtain ⟨h5, h6⟩ := works_some hg h3
        rw [h4, h5, h6]
    · intro h9; cases h9; exact .inr (.inr ⟨hf, hh, v, .inl ⟨hg, rfl⟩, rfl, rfl⟩)
  · rw [hw]
    constructor
    · rintro (⟨h1, _⟩ | ⟨_, h2, _⟩ | ⟨_, _, y, h3, h4, _⟩)
      · exact absurd hf h1
      · exact absurd hh h2
      · obtain ⟨h5, h6⟩ := works_none hg h3
        rw [h4, h5, h6]
    · intro h9; cases h9; exact .inr (.inr ⟨hf, hh, _, .inr ⟨hg, rfl, rfl⟩, rfl, rfl⟩)
/-- Told with false: it does nothing. -/
theorem tells_false : Tells dim ms e h node l a L m false ↔ work dim ms e h node l a = none ∧ L = l ∧ m = Wx.zero := by
  constructor
  · rintro (⟨h1, h2, h3, _⟩ | ⟨_, _, _, _, h5⟩ | ⟨_, _, _, _, _, h5⟩)
    · exact ⟨work_no h1, h2, h3⟩
    · cases h5
    · cases h5
  · rintro ⟨h1, h2, h3⟩
    refine .inl ⟨fun hf => ?_, h2, h3, rfl⟩
    rcases work_ways dim ms e h node l a with ⟨hn, _⟩ | ⟨_, _, hw⟩ | ⟨_, _, v, _, hw⟩ | ⟨_, _, _, hw⟩
    · exact hn hf
    · rw [hw] at h1; cases h1
    · rw [hw] at h1; cases h1
    · rw [hw] at h1; cases h1
end
end Go.Proofs.YtokfcjgfpchffaaGreatDoor.Nd
