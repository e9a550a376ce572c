/- What Work of package node does when called: of a message that fits. -/
import Derived.Test.YtgffeefipeblhaaNodD
namespace Go.Proofs.Ytgffeefipeblhaa
open Go.ChangeShapes Go.WideShapes Go.ChangeAt Go.RowKit


set_option maxRecDepth 100000 in
set_option maxHeartbeats 4000000 in
theorem nwork_stale {P : Nat → Prop} (dim : Int) (a : Option Addr) (n c : Nat) (ls : List Ly) (ep : Int) (pa : Option Addr) (pn pc : Nat) (h : List (List Int)) (me : Int) (la : Option Addr) (ln lc : Nat) (l : List En) (x0 x1 x2 x3 x4 x5 x6 x7 x8 x9 : Int) (xa : Option Addr) (xn xc : Nat) (v : List Int) (w : World)
    (H : WorkIn P w a n c ls pa pn pc h la ln lc l xa xn xc v) (hF : Nd.Fits dim ls ep h me ⟨x0, x1, x2, x3, x4, x5, x6, x7, x8, x9, v⟩) (hS : ¬ Nd.Held ep h me ⟨x0, x1, x2, x3, x4, x5, x6, x7, x8, x9, v⟩) :
    Calls Try.prog 10 #[.agg #[.int .i64 dim, .slice a n c], .agg #[.int .i64 ep, .slice pa pn pc], .int .i64 me, .slice la ln lc, .agg #[.int .i64 x0, .int .i64 x1, .int .i64 x2, .int .i64 x3, .int .i64 x4, .int .i64 x5, .int .i64 x6, .int .i64 x7, .int .i64 x8, .int .i64 x9, .slice xa xn xc]] w fun e w' => Below w.heap.size w w' ∧ ∃ a' c', e = .returned (.tuple #[.slice a' ln c', .agg #[.int .i64 3, .int .i64 me, .int .i64 x1, .int .i64 x3, .int .i64 x4, .int .i64 x5, .int .i64 x6, .int .i64 x7, .int .i64 x8, .int .i64 ep, .slice none 0 0], .bool true]) ∧ ensS.rep w' (fun b => P b ∨ w.heap.size ≤ b) [.slice a' ln c'] l := by
  have HF : Hid (Nd.Fits dim ls ep h me ⟨x0, x1, x2, x3, x4, x5, x6, x7, x8, x9, v⟩) := hF
  have HS : Hid (¬ Nd.Held ep h me ⟨x0, x1, x2, x3, x4, x5, x6, x7, x8, x9, v⟩) := hS
  clear hF hS
  obtain ⟨W, hW⟩ : ∃ W, W = (((w.alloc (.cells #[.int .i64 dim, .slice a n c] 24)).alloc (.cells #[.int .i64 ep, .slice pa pn pc] 27)).alloc (.cells #[.int .i64 x0, .int .i64 x1, .int .i64 x2, .int .i64 x3, .int .i64 x4, .int .i64 x5, .int .i64 x6, .int .i64 x7, .int .i64 x8, .int .i64 x9, .slice xa xn xc] 31)).alloc (.cells #[.int .i64 0, .int .i64 0, .int .i64 0, .int .i64 0, .int .i64 0, .int .i64 0, .int .i64 0, .int .i64 0, .int .i64 0, .int .i64 0, .slice none 0 0] 31) := ⟨_, rfl⟩
  obtain ⟨hB, km, kp, kx, kr, hsz⟩ := boxes4 hW
  have hm1 := Shape.below H.m hB
  have hp1 := Shape.below H.p hB
  have hl1 := Shape.below H.g hB
  have hv1 := Shape.below H.v hB
  have HH : Hid (WorkIn P w a n c ls pa pn pc h la ln lc l xa xn xc v) := H
  have HW : Hid (W = (((w.alloc (.cells #[.int .i64 dim, .slice a n c] 24)).alloc (.cells #[.int .i64 ep, .slice pa pn pc] 27)).alloc (.cells #[.int .i64 x0, .int .i64 x1, .int .i64 x2, .int .i64 x3, .int .i64 x4, .int .i64 x5, .int .i64 x6, .int .i64 x7, .int .i64 x8, .int .i64 x9, .slice xa xn xc] 31)).alloc (.cells #[.int .i64 0, .int .i64 0, .int .i64 0, .int .i64 0, .int .i64 0, .int .i64 0, .int .i64 0, .int .i64 0, .int .i64 0, .int .i64 0, .slice none 0 0] 31)) := hW
  have HSZ : Hid (W.heap.size = w.heap.size + 4) := hsz
  clear H hW hsz
  go_enter Try.func10, Try.ntmps10
  go_upto_region 1 with fail
  rw [← HW.out]
  clear HW
  have m0 := km.cell 0 rfl
  have m1 := km.cell 1 rfl
  go_wp2_with fail
  refine (mright a n c ls dim W hm1 HH.out.mn HH.out.mz).mono ?_
  rintro e u1 ⟨hs1, hb1⟩
  have hB1 := bel_then hB hb1
  have kr1 := kr.keep hb1
  have kp1 := kp.keep hb1
  clear m0 m1
  rw [hs1.is HF.out.1]
  clear hs1
  have p0 := kp1.cell 0 rfl
  have p1 := kp1.cell 1 rfl
  go_wp2_with fail
  refine (pright ep pa pn pc h u1 (Shape.below hp1 hb1) HH.out.pz).mono ?_
  rintro e u2 ⟨hs2, hb2⟩
  have hb12 := bel_then hb1 hb2
  have hB2 := bel_then hB1 hb2
  have kr2 := kr1.keep hb2
  have km2 := km.keep hb12
  have kx2 := kx.keep hb12
  have hm2 := Shape.below hm1 hb12
  have hv2 := Shape.below hv1 hb12
  have hl2 := Shape.below hl1 hb12
  clear p0 p1 kp1
  rw [hs2.is HF.out.2.1]
  clear hs2
  have m0 := km2.cell 0 rfl
  have m1 := km2.cell 1 rfl
  have c0 := kx2.cell 0 rfl
  have c1 := kx2.cell 1 rfl
  have c2 := kx2.cell 2 rfl
  have c3 := kx2.cell 3 rfl
  have c4 := kx2.cell 4 rfl
  have c5 := kx2.cell 5 rfl
  have c6 := kx2.cell 6 rfl
  have c7 := kx2.cell 7 rfl
  have c8 := kx2.cell 8 rfl
  have c9 := kx2.cell 9 rfl
  have c10 := kx2.cell 10 rfl
  go_wp2_with fail
  refine (ncan dim a n c ls me x0 x1 x2 x3 x4 x5 x6 x7 x8 x9 xa xn xc v u2 hm2 hv2 HH.out.vn).mono ?_
  rintro e u3 ⟨hs3, hb3⟩
  have hb23 := bel_then hb12 hb3
  have hB3 := bel_then hB2 hb3
  have kr3 := kr2.keep hb3
  have hl3 := Shape.below hl2 hb3
  clear m0 m1 c0 c1 c2 c3 c4 c5 c6 c7 c8 c9 c10
  rw [hs3.is HF.out.2.2]
  have km3 := km2.keep hb3
  have kx3 := kx2.keep hb3
  have kp3 := kp.keep hb23
  clear hs3 km kx kr kp kr1 km2 kx2 kr2 hl2 hv2 hm2 hb1 hb2 hb12 hb3
  have c0 := kx3.cell 0 rfl
  have c1 := kx3.cell 1 rfl
  have c2 := kx3.cell 2 rfl
  have c3 := kx3.cell 3 rfl
  have c4 := kx3.cell 4 rfl
  have c5 := kx3.cell 5 rfl
  have c6 := kx3.cell 6 rfl
  have c7 := kx3.cell 7 rfl
  have c8 := kx3.cell 8 rfl
  have c9 := kx3.cell 9 rfl
  have c10 := kx3.cell 10 rfl
  have p0 := kp3.cell 0 rfl
  go_wp2_with fail
  refine (nreply x0 x1 x2 x3 x4 x5 x6 x7 x8 x9 xa xn xc me ep u3).mono ?_
  rintro e u4 ⟨rfl, hb4⟩
  have hbn := bel_then hb4 (new_bel u4 (.cells #[.int .i64 0, .int .i64 me, .int .i64 x1, .int .i64 x3, .int .i64 x4, .int .i64 x5, .int .i64 x6, .int .i64 x7, .int .i64 x8, .int .i64 ep, .slice none 0 0] 31))
  have km5 := km3.keep hbn
  have kx5 := kx3.keep hbn
  have kp5 := kp3.keep hbn
  have kr5 := kr3.keep hbn
  have hl5 := Shape.below hl3 hbn
  have hB5 := bel_then hB3 hbn
  have hbW5 := bel_then hb23 hbn
  have kt := Box.new u4 31 #[.int .i64 0, .int .i64 me, .int .i64 x1, .int .i64 x3, .int .i64 x4, .int .i64 x5, .int .i64 x6, .int .i64 x7, .int .i64 x8, .int .i64 ep, .slice none 0 0]
  have hgt : w.heap.size + 3 < u4.heap.size := (kr3.keep hb4).lt
  clear c0 c1 c2 c3 c4 c5 c6 c7 c8 c9 c10 p0 km3 kx3 kp3 kr3 hl3 hB3 hb4 hbn hb23
  go_upto_region 4 with fail
  generalize World.alloc u4 _ = V at *
  generalize u4.heap.size = gt at *
  have c9 := kx5.cell 9 rfl
  have c8 := kx5.cell 8 rfl
  have p0 := kp5.cell 0 rfl
  have p1 := kp5.cell 1 rfl
  by_cases he : x9 = ep
  case neg =>
    have q : (x9 != ep) = true := by rw [bne_iff_ne]; exact he
    clear he km5 kp5 kx5
    -- the told message's Kind is stored, then the ledger copied
    have t0 := kt.cell 0 rfl
    have tf := kt.free 0
    have hlP : ∀ b, P b → b ≠ gt := fun b hb => by have := HH.out.lP b hb; omega
    have kt7 := kt.set0 (.int .i64 3)
    have kr7 := kr5.other (b2 := gt) (i := 0) (.int .i64 3) (by omega)
    have hl7 := rep_put (i := 0) hl5 hlP (.int .i64 3)
    have hB7 := bel_put (i := 0) hB5 (by omega : w.heap.size ≤ gt) (.int .i64 3)
    clear hlP
    go_upto_region 6 with fail
    clear t0 tf
    generalize World.setCell V _ _ = V6 at *
    have hD : Below V6.heap.size V6 V6.drew := (Below.refl _ V6).drew
    have hcc : Hid (Calls _ _ _ _ _) := ncopied la ln lc l V6.drew (Shape.below hl7 hD) (fun b hb => by have := HH.out.lP b hb; have h9 := kt7.lt; show b < V6.heap.size; omega) HH.out.ls
    have t0 := kt7.cell 0 rfl
    have t1 := kt7.cell 1 rfl
    have t2 := kt7.cell 2 rfl
    have t3 := kt7.cell 3 rfl
    have t4 := kt7.cell 4 rfl
    have t5 := kt7.cell 5 rfl
    have t6 := kt7.cell 6 rfl
    have t7 := kt7.cell 7 rfl
    have t8 := kt7.cell 8 rfl
    have t9 := kt7.cell 9 rfl
    have t10 := kt7.cell 10 rfl
    have r0 := kr7.cell 0 rfl
    have r1 := kr7.cell 1 rfl
    have r2 := kr7.cell 2 rfl
    have r3 := kr7.cell 3 rfl
    have r4 := kr7.cell 4 rfl
    have r5 := kr7.cell 5 rfl
    have r6 := kr7.cell 6 rfl
    have r7 := kr7.cell 7 rfl
    have r8 := kr7.cell 8 rfl
    have r9 := kr7.cell 9 rfl
    have r10 := kr7.cell 10 rfl
    have f0 := kr7.free 0
    have f1 := kr7.free 1
    have f2 := kr7.free 2
    have f3 := kr7.free 3
    have f4 := kr7.free 4
    have f5 := kr7.free 5
    have f6 := kr7.free 6
    have f7 := kr7.free 7
    have f8 := kr7.free 8
    have f9 := kr7.free 9
    have f10 := kr7.free 10
    go_region_with (go_at_call 19; refine hcc.out.mono ?_; rintro e u7 ⟨hb7, aq, cq, rfl, hr7⟩; have hd7 := bel_then hD hb7; have kt8 := kt7.keep hd7; have kr8 := kr7.keep hd7; have s0 := kt8.cell 0 rfl; have s1 := kt8.cell 1 rfl; have s2 := kt8.cell 2 rfl; have s3 := kt8.cell 3 rfl; have s4 := kt8.cell 4 rfl; have s5 := kt8.cell 5 rfl; have s6 := kt8.cell 6 rfl; have s7 := kt8.cell 7 rfl; have s8 := kt8.cell 8 rfl; have s9 := kt8.cell 9 rfl; have s10 := kt8.cell 10 rfl; have z0 := kr8.cell 0 rfl; have z1 := kr8.cell 1 rfl; have z2 := kr8.cell 2 rfl; have z3 := kr8.cell 3 rfl; have z4 := kr8.cell 4 rfl; have z5 := kr8.cell 5 rfl; have z6 := kr8.cell 6 rfl; have z7 := kr8.cell 7 rfl; have z8 := kr8.cell 8 rfl; have z9 := kr8.cell 9 rfl; have z10 := kr8.cell 10 rfl; have g0 := kr8.free 0; have g1 := kr8.free 1; have g2 := kr8.free 2; have g3 := kr8.free 3; have g4 := kr8.free 4; have g5 := kr8.free 5; have g6 := kr8.free 6; have g7 := kr8.free 7; have g8 := kr8.free 8; have g9 := kr8.free 9; have g10 := kr8.free 10)
    all_goals
      have hV6 : gt < V6.heap.size := kt7.lt
      have hrA : ensS.rep u7 (fun b => P b ∨ w.heap.size + 4 ≤ b) [.slice aq ln cq] l := ensS.mono hr7 fun b hb _ => hb.elim (fun h => Or.inl h) fun h => Or.inr (by have h9 : V6.heap.size ≤ b := h; omega)
      have HR9 : Hid _ := rep_all11 (b := w.heap.size + 3) hrA (fun b hb => hb.elim (fun h => by have := HH.out.lP b h; omega) (fun h => by omega))
      have HB9 : Hid _ := bel_then hB7 hd7
      have HK9 : Hid _ := kr8
      clear hrA hr7 hcc hB7 hl7
      go_wp2
      refine ret_mid Try.underlying31 Try.infoMsg rfl rfl rfl rfl rfl (Box.all11 HK9.out _ _ _ _ _ _ _ _ _ _ _) rfl ?_
      exact ⟨bel_all11 HB9.out (by omega) _ _ _ _ _ _ _ _ _ _ _, aq, cq, rfl, ensS.mono (HR9.out _ _ _ _ _ _ _ _ _ _ _) fun b hb _ => hb.elim (fun h => Or.inl h) fun h => Or.inr (by omega)⟩
  have q : (x9 != ep) = false := by rw [bne_eq_false_iff_eq]; exact he
  have HBB : Hid (tell (Pl.Holds h x8 me) = false) := tell_no fun h9 => HS.out ⟨he, h9⟩
  clear he
  have hpp := Shape.below hp1 hbW5
  go_wp2_with fail
  refine (pholds ep pa pn pc h x8 me false V hpp HH.out.pz HBB.out).mono ?_
  rintro e u5 ⟨rfl, hb5⟩
  have km6 := km5.keep hb5
  have kx6 := kx5.keep hb5
  have kr6 := kr5.keep hb5
  have kt6 := kt.keep hb5
  have hl6 := Shape.below hl5 hb5
  have hB6 := bel_then hB5 hb5
  have hbW6 := bel_then hbW5 hb5
  clear hpp hb5 km5 kx5 kr5 kt hl5 hB5 hbW5 c9 c8 p0 p1 kp5
  -- the told message's Kind is stored, then the ledger copied
  have t0 := kt6.cell 0 rfl
  have tf := kt6.free 0
  have hlP : ∀ b, P b → b ≠ gt := fun b hb => by have := HH.out.lP b hb; omega
  have kt7 := kt6.set0 (.int .i64 3)
  have kr7 := kr6.other (b2 := gt) (i := 0) (.int .i64 3) (by omega)
  have hl7 := rep_put (i := 0) hl6 hlP (.int .i64 3)
  have hB7 := bel_put (i := 0) hB6 (by omega : w.heap.size ≤ gt) (.int .i64 3)
  clear hlP
  go_upto_region 6 with fail
  clear t0 tf
  generalize World.setCell u5 _ _ = V6 at *
  have hD : Below V6.heap.size V6 V6.drew := (Below.refl _ V6).drew
  have hcc : Hid (Calls _ _ _ _ _) := ncopied la ln lc l V6.drew (Shape.below hl7 hD) (fun b hb => by have := HH.out.lP b hb; have h9 := kt7.lt; show b < V6.heap.size; omega) HH.out.ls
  have t0 := kt7.cell 0 rfl
  have t1 := kt7.cell 1 rfl
  have t2 := kt7.cell 2 rfl
  have t3 := kt7.cell 3 rfl
  have t4 := kt7.cell 4 rfl
  have t5 := kt7.cell 5 rfl
  have t6 := kt7.cell 6 rfl
  have t7 := kt7.cell 7 rfl
  have t8 := kt7.cell 8 rfl
  have t9 := kt7.cell 9 rfl
  have t10 := kt7.cell 10 rfl
  have r0 := kr7.cell 0 rfl
  have r1 := kr7.cell 1 rfl
  have r2 := kr7.cell 2 rfl
  have r3 := kr7.cell 3 rfl
  have r4 := kr7.cell 4 rfl
  have r5 := kr7.cell 5 rfl
  have r6 := kr7.cell 6 rfl
  have r7 := kr7.cell 7 rfl
  have r8 := kr7.cell 8 rfl
  have r9 := kr7.cell 9 rfl
  have r10 := kr7.cell 10 rfl
  have f0 := kr7.free 0
  have f1 := kr7.free 1
  have f2 := kr7.free 2
  have f3 := kr7.free 3
  have f4 := kr7.free 4
  have f5 := kr7.free 5
  have f6 := kr7.free 6
  have f7 := kr7.free 7
  have f8 := kr7.free 8
  have f9 := kr7.free 9
  have f10 := kr7.free 10
  go_region_with (go_at_call 19; refine hcc.out.mono ?_; rintro e u7 ⟨hb7, aq, cq, rfl, hr7⟩; have hd7 := bel_then hD hb7; have kt8 := kt7.keep hd7; have kr8 := kr7.keep hd7; have s0 := kt8.cell 0 rfl; have s1 := kt8.cell 1 rfl; have s2 := kt8.cell 2 rfl; have s3 := kt8.cell 3 rfl; have s4 := kt8.cell 4 rfl; have s5 := kt8.cell 5 rfl; have s6 := kt8.cell 6 rfl; have s7 := kt8.cell 7 rfl; have s8 := kt8.cell 8 rfl; have s9 := kt8.cell 9 rfl; have s10 := kt8.cell 10 rfl; have z0 := kr8.cell 0 rfl; have z1 := kr8.cell 1 rfl; have z2 := kr8.cell 2 rfl; have z3 := kr8.cell 3 rfl; have z4 := kr8.cell 4 rfl; have z5 := kr8.cell 5 rfl; have z6 := kr8.cell 6 rfl; have z7 := kr8.cell 7 rfl; have z8 := kr8.cell 8 rfl; have z9 := kr8.cell 9 rfl; have z10 := kr8.cell 10 rfl; have g0 := kr8.free 0; have g1 := kr8.free 1; have g2 := kr8.free 2; have g3 := kr8.free 3; have g4 := kr8.free 4; have g5 := kr8.free 5; have g6 := kr8.free 6; have g7 := kr8.free 7; have g8 := kr8.free 8; have g9 := kr8.free 9; have g10 := kr8.free 10)
  all_goals
    have hV6 : gt < V6.heap.size := kt7.lt
    have hrA : ensS.rep u7 (fun b => P b ∨ w.heap.size + 4 ≤ b) [.slice aq ln cq] l := ensS.mono hr7 fun b hb _ => hb.elim (fun h => Or.inl h) fun h => Or.inr (by have h9 : V6.heap.size ≤ b := h; omega)
    have HR9 : Hid _ := rep_all11 (b := w.heap.size + 3) hrA (fun b hb => hb.elim (fun h => by have := HH.out.lP b h; omega) (fun h => by omega))
    have HB9 : Hid _ := bel_then hB7 hd7
    have HK9 : Hid _ := kr8
    clear hrA hr7 hcc hB7 hl7
    go_wp2
    refine ret_mid Try.underlying31 Try.infoMsg rfl rfl rfl rfl rfl (Box.all11 HK9.out _ _ _ _ _ _ _ _ _ _ _) rfl ?_
    exact ⟨bel_all11 HB9.out (by omega) _ _ _ _ _ _ _ _ _ _ _, aq, cq, rfl, ensS.mono (HR9.out _ _ _ _ _ _ _ _ _ _ _) fun b hb _ => hb.elim (fun h => Or.inl h) fun h => Or.inr (by omega)⟩

end Go.Proofs.Ytgffeefipeblhaa
