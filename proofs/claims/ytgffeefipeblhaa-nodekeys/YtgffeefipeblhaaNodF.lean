/- What Work of package node does when called: of a message that fits, and is of the map's epoch, of an expert that the node holds. -/
import Derived.Test.YtgffeefipeblhaaNodE
import Derived.Test.YtgffeefipeblhaaJa
namespace Go.Proofs.Ytgffeefipeblhaa
open Go.ChangeShapes Go.WideShapes Go.ChangeAt Go.RowKit


set_option maxRecDepth 100000 in
set_option maxHeartbeats 1500000 in
theorem nwork_held {P : Nat → Prop} (dim : Int) (a : Option Addr) (n c : Nat) (ls : List Ly) (ep : Int) (pa : Option Addr) (pn pc : Nat) (h : List (List Int)) (me : Int) (la : Option Addr) (ln lc : Nat) (l : List En) (x0 x1 x2 x3 x4 x5 x6 x7 x8 x9 : Int) (xa : Option Addr) (xn xc : Nat) (v : List Int) (w : World)
    (H : WorkIn P w a n c ls pa pn pc h la ln lc l xa xn xc v) (hF : Nd.Fits dim ls ep h me ⟨x0, x1, x2, x3, x4, x5, x6, x7, x8, x9, v⟩) (hS : Nd.Held ep h me ⟨x0, x1, x2, x3, x4, x5, x6, x7, x8, x9, v⟩)
    (L : List En) (y : List Int) (hw : Nd.Works l (Nd.keyOf ⟨x0, x1, x2, x3, x4, x5, x6, x7, x8, x9, v⟩) (Md.ans (Nd.lyOf ls ⟨x0, x1, x2, x3, x4, x5, x6, x7, x8, x9, v⟩) v x8) L y) (m : Nat) (hm : L.length = m) (yn : Nat) (hyn : y.length = yn) :
    Calls Try.prog 10 #[.agg #[.int .i64 dim, .slice a n c], .agg #[.int .i64 ep, .slice pa pn pc], .int .i64 me, .slice la ln lc, .agg #[.int .i64 x0, .int .i64 x1, .int .i64 x2, .int .i64 x3, .int .i64 x4, .int .i64 x5, .int .i64 x6, .int .i64 x7, .int .i64 x8, .int .i64 x9, .slice xa xn xc]] w fun e w' => Below w.heap.size w w' ∧ ∃ a' c' ya yc, e = .returned (.tuple #[.slice a' m c', .agg #[.int .i64 2, .int .i64 me, .int .i64 x1, .int .i64 x3, .int .i64 x4, .int .i64 x5, .int .i64 x6, .int .i64 x7, .int .i64 x8, .int .i64 ep, .slice ya yn yc], .bool true]) ∧ ensS.rep w' (fun b => P b ∨ w.heap.size ≤ b) [.slice a' m c'] L ∧ rowS.rep w' (w.heap.size ≤ ·) [.slice ya yn yc] y := by
  have HF : Hid (Nd.Fits dim ls ep h me ⟨x0, x1, x2, x3, x4, x5, x6, x7, x8, x9, v⟩) := hF
  have HS : Hid (Nd.Held ep h me ⟨x0, x1, x2, x3, x4, x5, x6, x7, x8, x9, v⟩) := hS
  have hlo := hF.low
  have hlay := hF.layer
  have hvec := hF.vec
  obtain ⟨k, hk5⟩ : ∃ k : Nat, x5 = (k : Int) := ⟨x5.toNat, by have h9 : 0 ≤ x5 := hlo.1; omega⟩
  obtain ⟨j, hj8⟩ : ∃ j : Nat, x8 = (j : Int) := ⟨x8.toNat, by have h9 : 0 ≤ x8 := hlo.2.1; omega⟩
  have hln := (sliceS_len H.m).1
  have hkn : k < n := by have h9 : x5.toNat < ls.length := hlay.1; omega
  obtain ⟨b, off, ag, ng, cg, ax, nx, cx, g, xs, cap, ha, hbb, hE, hg, hx, e0, e1, e2⟩ := ly_there H.m hkn
  have hnx := (sliceS_len hx).1
  have hE2 : Nd.lyOf ls ⟨x0, x1, x2, x3, x4, x5, x6, x7, x8, x9, v⟩ = (g, xs, cap, ()) := by rw [← hE, show k = x5.toNat by omega]; rfl
  have hjn : j < nx := by
    have h9 : x8 < ((Nd.lyOf ls ⟨x0, x1, x2, x3, x4, x5, x6, x7, x8, x9, v⟩).2.1.length : Int) := hF.2.2.2.2.2.2.1
    rw [hE2] at h9
    have h8 : x8 < (xs.length : Int) := h9
    omega
  obtain ⟨b2, off2, ai, ni, ci, ao, no, co, mi, mo, rfl, hbb2, hE3, hri, hro, f0, f1⟩ := xp_there hx hjn
  have hxm : ((mi, mo, ()) : Xp) ∈ xs := by rw [← hE3]; exact in_of (by omega) _
  have hLR : Md.LRight (g, xs, cap, ()) dim := by rw [← hE2]; exact hlay.2
  have hvn : (xn : Int) = dim := by rw [← (sliceS_len H.v).1]; exact hvec.1
  have hER : Ex.Right mi mo xn := by rw [hvn]; exact hLR.2.2.2.2.2 _ hxm
  have hLM : ((g, xs, cap, ()) : Ly) ∈ ls := by rw [← hE]; exact in_of (by omega) _
  have hsz := (H.mz _ hLM).2.2 _ hxm
  have hans : Md.ans (Nd.lyOf ls ⟨x0, x1, x2, x3, x4, x5, x6, x7, x8, x9, v⟩) v x8 = Ex.run mi mo v := by
    rw [hE2]
    show Ex.run (xs.getD x8.toNat xp0).1 (xs.getD x8.toNat xp0).2.1 v = _
    rw [show x8.toNat = j by omega, hE3]
  rw [hans] at hw
  have HWK : Hid (Nd.Works l (ky x4 x5 x6 x7) (Ex.run mi mo v) L y) := hw
  have HM : Hid (L.length = m) := hm
  have HY : Hid (y.length = yn) := hyn
  have HER : Hid (Ex.Right mi mo xn ∧ Ex.Sized mi ∧ Ex.Sized mo) := ⟨hER, hsz.1, hsz.2⟩
  have HXP : Hid (Exp w ai ni ci ao no co mi mo) := ⟨Shape.any hri, Shape.any hro⟩
  have HCE : Hid (∀ u, Below w.heap.size w u → u.cell? ⟨b, off + k * 3 + 1, none⟩ = some (.slice (some ⟨b2, off2, none⟩) nx cx) ∧ u.cell? ⟨b2, off2 + j * 2, none⟩ = some (.slice ai ni ci) ∧ u.cell? ⟨b2, off2 + j * 2 + 1, none⟩ = some (.slice ao no co)) := fun u hu => ⟨(hu.cell hbb).trans e1, (hu.cell hbb2).trans f0, (hu.cell hbb2).trans f1⟩
  have H5 : Hid (x5 = (k : Int) ∧ k < n) := ⟨hk5, hkn⟩
  have H8 : Hid (x8 = (j : Int) ∧ j < nx) := ⟨hj8, hjn⟩
  have HA : Hid (a = some ⟨b, off, none⟩) := ha
  clear hF hS hlo hlay hvec hln hnx hE2 hE hg hx e0 e1 e2 hE3 hri hro f0 f1 hxm hLR hvn hER hLM hsz hans hw hm hyn hbb hbb2 hk5 hj8 ha hkn hjn
  obtain ⟨W, hW⟩ : ∃ W, W = (((w.alloc (.cells #[.int .i64 dim, .slice a n c] 24)).alloc (.cells #[.int .i64 ep, .slice pa pn pc] 27)).alloc (.cells #[.int .i64 x0, .int .i64 x1, .int .i64 x2, .int .i64 x3, .int .i64 x4, .int .i64 x5, .int .i64 x6, .int .i64 x7, .int .i64 x8, .int .i64 x9, .slice xa xn xc] 31)).alloc (.cells #[.int .i64 0, .int .i64 0, .int .i64 0, .int .i64 0, .int .i64 0, .int .i64 0, .int .i64 0, .int .i64 0, .int .i64 0, .int .i64 0, .slice none 0 0] 31) := ⟨_, rfl⟩
  obtain ⟨hB, km, kp, kx, kr, hsz⟩ := boxes4 hW
  have hm1 := Shape.below H.m hB
  have hp1 := Shape.below H.p hB
  have hl1 := Shape.below H.g hB
  have hv1 := Shape.below H.v hB
  have HH : Hid (WorkIn P w a n c ls pa pn pc h la ln lc l xa xn xc v) := H
  have HW : Hid (W = (((w.alloc (.cells #[.int .i64 dim, .slice a n c] 24)).alloc (.cells #[.int .i64 ep, .slice pa pn pc] 27)).alloc (.cells #[.int .i64 x0, .int .i64 x1, .int .i64 x2, .int .i64 x3, .int .i64 x4, .int .i64 x5, .int .i64 x6, .int .i64 x7, .int .i64 x8, .int .i64 x9, .slice xa xn xc] 31)).alloc (.cells #[.int .i64 0, .int .i64 0, .int .i64 0, .int .i64 0, .int .i64 0, .int .i64 0, .int .i64 0, .int .i64 0, .int .i64 0, .int .i64 0, .slice none 0 0] 31)) := hW
  have HSZ : Hid (W.heap.size = w.heap.size + 4) := hsz
  clear H hW hsz
  go_enter Try.func10, Try.ntmps10
  go_upto_region 1 with fail
  rw [← HW.out]
  clear HW
  have m0 := km.cell 0 rfl
  have m1 := km.cell 1 rfl
  go_wp2_with fail
  refine (mright a n c ls dim W hm1 HH.out.mn HH.out.mz).mono ?_
  rintro e u1 ⟨hs1, hb1⟩
  have hB1 := bel_then hB hb1
  have kr1 := kr.keep hb1
  have kp1 := kp.keep hb1
  clear m0 m1
  rw [hs1.is HF.out.1]
  clear hs1
  have p0 := kp1.cell 0 rfl
  have p1 := kp1.cell 1 rfl
  go_wp2_with fail
  refine (pright ep pa pn pc h u1 (Shape.below hp1 hb1) HH.out.pz).mono ?_
  rintro e u2 ⟨hs2, hb2⟩
  have hb12 := bel_then hb1 hb2
  have hB2 := bel_then hB1 hb2
  have kr2 := kr1.keep hb2
  have km2 := km.keep hb12
  have kx2 := kx.keep hb12
  have hm2 := Shape.below hm1 hb12
  have hv2 := Shape.below hv1 hb12
  have hl2 := Shape.below hl1 hb12
  clear p0 p1 kp1
  rw [hs2.is HF.out.2.1]
  clear hs2
  have m0 := km2.cell 0 rfl
  have m1 := km2.cell 1 rfl
  have c0 := kx2.cell 0 rfl
  have c1 := kx2.cell 1 rfl
  have c2 := kx2.cell 2 rfl
  have c3 := kx2.cell 3 rfl
  have c4 := kx2.cell 4 rfl
  have c5 := kx2.cell 5 rfl
  have c6 := kx2.cell 6 rfl
  have c7 := kx2.cell 7 rfl
  have c8 := kx2.cell 8 rfl
  have c9 := kx2.cell 9 rfl
  have c10 := kx2.cell 10 rfl
  go_wp2_with fail
  refine (ncan dim a n c ls me x0 x1 x2 x3 x4 x5 x6 x7 x8 x9 xa xn xc v u2 hm2 hv2 HH.out.vn).mono ?_
  rintro e u3 ⟨hs3, hb3⟩
  have hb23 := bel_then hb12 hb3
  have hB3 := bel_then hB2 hb3
  have kr3 := kr2.keep hb3
  have hl3 := Shape.below hl2 hb3
  clear m0 m1 c0 c1 c2 c3 c4 c5 c6 c7 c8 c9 c10
  rw [hs3.is HF.out.2.2]
  have km3 := km2.keep hb3
  have kx3 := kx2.keep hb3
  have kp3 := kp.keep hb23
  clear hs3 km kx kr kp kr1 km2 kx2 kr2 hl2 hv2 hm2 hb1 hb2 hb12 hb3
  have c0 := kx3.cell 0 rfl
  have c1 := kx3.cell 1 rfl
  have c2 := kx3.cell 2 rfl
  have c3 := kx3.cell 3 rfl
  have c4 := kx3.cell 4 rfl
  have c5 := kx3.cell 5 rfl
  have c6 := kx3.cell 6 rfl
  have c7 := kx3.cell 7 rfl
  have c8 := kx3.cell 8 rfl
  have c9 := kx3.cell 9 rfl
  have c10 := kx3.cell 10 rfl
  have p0 := kp3.cell 0 rfl
  go_wp2_with fail
  refine (nreply x0 x1 x2 x3 x4 x5 x6 x7 x8 x9 xa xn xc me ep u3).mono ?_
  rintro e u4 ⟨rfl, hb4⟩
  have hbn := bel_then hb4 (new_bel u4 (.cells #[.int .i64 0, .int .i64 me, .int .i64 x1, .int .i64 x3, .int .i64 x4, .int .i64 x5, .int .i64 x6, .int .i64 x7, .int .i64 x8, .int .i64 ep, .slice none 0 0] 31))
  have km5 := km3.keep hbn
  have kx5 := kx3.keep hbn
  have kp5 := kp3.keep hbn
  have kr5 := kr3.keep hbn
  have hl5 := Shape.below hl3 hbn
  have hB5 := bel_then hB3 hbn
  have hbW5 := bel_then hb23 hbn
  have kt := Box.new u4 31 #[.int .i64 0, .int .i64 me, .int .i64 x1, .int .i64 x3, .int .i64 x4, .int .i64 x5, .int .i64 x6, .int .i64 x7, .int .i64 x8, .int .i64 ep, .slice none 0 0]
  have hgt : w.heap.size + 3 < u4.heap.size := (kr3.keep hb4).lt
  clear c0 c1 c2 c3 c4 c5 c6 c7 c8 c9 c10 p0 km3 kx3 kp3 kr3 hl3 hB3 hb4 hbn hb23
  go_upto_region 4 with fail
  generalize World.alloc u4 _ = V at *
  generalize u4.heap.size = gt at *
  have c9 := kx5.cell 9 rfl
  have c8 := kx5.cell 8 rfl
  have p0 := kp5.cell 0 rfl
  have p1 := kp5.cell 1 rfl
  have q : (x9 != ep) = false := by rw [bne_eq_false_iff_eq]; exact HS.out.1
  have HBB : Hid (tell (Pl.Holds h x8 me) = true) := tell_yes HS.out.2
  have hpp := Shape.below hp1 hbW5
  go_wp2_with fail
  refine (pholds ep pa pn pc h x8 me true V hpp HH.out.pz HBB.out).mono ?_
  rintro e u5 ⟨rfl, hb5⟩
  have km6 := km5.keep hb5
  have kx6 := kx5.keep hb5
  have kr6 := kr5.keep hb5
  have kt6 := kt.keep hb5
  have hl6 := Shape.below hl5 hb5
  have hB6 := bel_then hB5 hb5
  have hbW6 := bel_then hbW5 hb5
  clear hpp hb5 km5 kx5 kr5 kt hl5 hB5 hbW5 c9 c8 p0 p1 kp5
  have t0 := kt6.cell 0 rfl
  have tf := kt6.free 0
  have kt7 := kt6.set0 (.int .i64 2)
  have kr7 := kr6.other (b2 := gt) (i := 0) (.int .i64 2) (by omega)
  have km7 := km6.other (b2 := gt) (i := 0) (.int .i64 2) (by omega)
  have kx7 := kx6.other (b2 := gt) (i := 0) (.int .i64 2) (by omega)
  have hl7 := rep_put (i := 0) hl6 (fun b hb => by have := HH.out.lP b hb; omega : ∀ b, P b → b ≠ gt) (.int .i64 2)
  have hB7 := bel_put (i := 0) hB6 (by omega : w.heap.size ≤ gt) (.int .i64 2)
  clear kt6 kr6 km6 kx6 hl6 hB6 hbW6
  go_upto_region 8 with fail
  clear t0 tf
  generalize World.setCell u5 _ _ = V6 at *
  have h5 := H5.out.1
  have h8 := H8.out.1
  have ha := HA.out
  have hkn := H5.out.2
  have hjn := H8.out.2
  clear H5 H8 HA
  subst h5
  subst h8
  subst ha
  have hki : (k : Int) < (n : Int) := by omega
  have hk0 : (0 : Int) ≤ (k : Int) := by omega
  have hji : (j : Int) < (nx : Int) := by omega
  have hj0 : (0 : Int) ≤ (j : Int) := by omega
  have HCC : Hid (∀ u, Below V6.heap.size V6 u → Calls Try.prog 22 #[.agg #[.slice ai ni ci, .slice ao no co], .slice la ln lc, .agg #[.int .i64 x0, .int .i64 x1, .int .i64 x2, .int .i64 x3, .int .i64 x4, .int .i64 (k : Int), .int .i64 x6, .int .i64 x7, .int .i64 (j : Int), .int .i64 x9, .slice xa xn xc]] u fun e w' => Below u.heap.size u w' ∧ ∃ a' c' b' d', e = .returned (.tuple #[.slice a' m c', .slice b' yn d']) ∧ ensS.rep w' (fun b => P b ∨ u.heap.size ≤ b) [.slice a' m c'] L ∧ rowS.rep w' (u.heap.size ≤ ·) [.slice b' yn d'] y) := fun u hu =>
    nworked (P := P) ai ni ci ao no co mi mo la ln lc l x0 x1 x2 x3 x4 (k : Int) x6 x7 (j : Int) x9 xa xn xc v u (HXP.out.below (bel_then hB7 hu)) HER.out.2.1 HER.out.2.2 (Shape.below hl7 hu) (fun b hb => by have := HH.out.lP b hb; have h9 := kt7.lt; have h8 := hu.size; omega) HH.out.ls (Shape.below HH.out.v (bel_then hB7 hu)) HH.out.vn HER.out.1 L y HWK.out m HM.out yn HY.out
  obtain ⟨y1, y2, y3⟩ := HCE.out V6 hB7
  have hne9 : Nonempty (Later V6) := Later.there V6
  have i1 : ∀ x : Later V6, x.u.cell? ⟨w.heap.size, 1, none⟩ = _ := fun x => x.cell (km7.cell 1 rfl)
  have i2 : ∀ x : Later V6, x.u.cell? ⟨b, off + k * 3 + 1, none⟩ = _ := fun x => x.cell y1
  have i3 : ∀ x : Later V6, x.u.cell? ⟨b2, off2 + j * 2, none⟩ = _ := fun x => x.cell y2
  have i4 : ∀ x : Later V6, x.u.cell? ⟨b2, off2 + j * 2 + 1, none⟩ = _ := fun x => x.cell y3
  have c0 : ∀ x : Later V6, x.u.cell? ⟨w.heap.size + 2, 0, none⟩ = _ := fun x => x.cell (kx7.cell 0 rfl)
  have c1 : ∀ x : Later V6, x.u.cell? ⟨w.heap.size + 2, 1, none⟩ = _ := fun x => x.cell (kx7.cell 1 rfl)
  have c2 : ∀ x : Later V6, x.u.cell? ⟨w.heap.size + 2, 2, none⟩ = _ := fun x => x.cell (kx7.cell 2 rfl)
  have c3 : ∀ x : Later V6, x.u.cell? ⟨w.heap.size + 2, 3, none⟩ = _ := fun x => x.cell (kx7.cell 3 rfl)
  have c4 : ∀ x : Later V6, x.u.cell? ⟨w.heap.size + 2, 4, none⟩ = _ := fun x => x.cell (kx7.cell 4 rfl)
  have c5 : ∀ x : Later V6, x.u.cell? ⟨w.heap.size + 2, 5, none⟩ = _ := fun x => x.cell (kx7.cell 5 rfl)
  have c6 : ∀ x : Later V6, x.u.cell? ⟨w.heap.size + 2, 6, none⟩ = _ := fun x => x.cell (kx7.cell 6 rfl)
  have c7 : ∀ x : Later V6, x.u.cell? ⟨w.heap.size + 2, 7, none⟩ = _ := fun x => x.cell (kx7.cell 7 rfl)
  have c8 : ∀ x : Later V6, x.u.cell? ⟨w.heap.size + 2, 8, none⟩ = _ := fun x => x.cell (kx7.cell 8 rfl)
  have c9 : ∀ x : Later V6, x.u.cell? ⟨w.heap.size + 2, 9, none⟩ = _ := fun x => x.cell (kx7.cell 9 rfl)
  have c10 : ∀ x : Later V6, x.u.cell? ⟨w.heap.size + 2, 10, none⟩ = _ := fun x => x.cell (kx7.cell 10 rfl)
  clear km7 kx7 y1 y2 y3
  refine Ord.region (by kernel_rfl) (by kernel_rfl) [0, 1, 2, 3, 4, 5, 6, 7, 8, 9, 10, 11, 12] 6 rfl (by kernel_rfl) ?_
  refine ⟨_, (by simp only [Ord.pickOps, Ord.stand, Ord.reads, List.getElem?_toArray, List.getElem?_cons_zero, List.getElem?_cons_succ, if_true]; rfl), ?_⟩
  repeat (go_big_quiet_step (fail))
  refine wpQuiet_nil ?_
  refine Ord.ready_one (i := 13) (by kernel_rfl) ?_
  intro x7' hx7
  refine Ord.by_call (vals := [.agg #[.slice ai ni ci, .slice ao no co], .slice la ln lc, .agg #[.int .i64 x0, .int .i64 x1, .int .i64 x2, .int .i64 x3, .int .i64 x4, .int .i64 (k : Int), .int .i64 x6, .int .i64 x7, .int .i64 (j : Int), .int .i64 x9, .slice xa xn xc]]) rfl (by rfl) rfl (by kernel_rfl) (by rfl) 71 (by rfl) ?_
  refine (HCC.out x7' hx7).mono ?_
  rintro e u7 ⟨hb7, aq, cq, ya, yc, rfl, hr7, hy7⟩
  have hne4 : Nonempty (Later u7) := Later.there u7
  refine ⟨_, rfl, hb7, ?_⟩
  refine Ord.seg_put (by kernel_rfl) [14, 15, 16, 17, 18] 0 rfl (by kernel_rfl) ?_
  refine ⟨_, (by simp only [Ord.pickOps, Ord.stand, Ord.reads, List.getElem?_toArray, List.getElem?_cons_zero, List.getElem?_cons_succ, if_true]; rfl), ?_⟩
  repeat (go_big_quiet_step (fail))
  refine wpQuiet_nil ?_
  refine Ord.ready_none (by kernel_rfl) ?_
  intro x9'
  obtain ⟨u8, hb8⟩ := x9'
  have hd7 := bel_then (bel_then hx7 hb7) hb8
  have hx7s := hx7.size
  replace hr7 := Shape.below hr7 hb8
  replace hy7 := Shape.below hy7 hb8
  clear hne9 hne4 i1 i2 i3 i4 c0 c1 c2 c3 c4 c5 c6 c7 c8 c9 c10 HCC
  have kt8 := kt7.keep hd7
  have kr8 := kr7.keep hd7
  have hV6 : gt < V6.heap.size := kt7.lt
  have z10 := kt8.cell 10 rfl
  have f10 := kt8.free 10
  have kt9 := kt8.set10 (.slice ya yn yc)
  have kr9 := kr8.other (b2 := gt) (i := 10) (.slice ya yn yc) (by omega)
  have hrA : ensS.rep u8 (fun b => P b ∨ gt < b) [.slice aq m cq] L := ensS.mono hr7 fun b hb _ => hb.elim (fun h => Or.inl h) fun h => Or.inr (by have h9 : x7'.heap.size ≤ b := h; omega)
  have hr9 := rep_put (b := gt) (i := 10) hrA (fun b hb => hb.elim (fun h => by have := HH.out.lP b h; omega) (fun h => by omega)) (.slice ya yn yc)
  have hyA : rowS.rep u8 (gt < ·) [.slice ya yn yc] y := rowS.mono hy7 fun b hb _ => by have h9 : x7'.heap.size ≤ b := hb; show gt < b; omega
  have hy9 := rep_put (b := gt) (i := 10) hyA (fun b hb => by have h9 : gt < b := hb; omega) (.slice ya yn yc)
  have hB9 := bel_put (i := 10) (bel_then hB7 hd7) (by omega : w.heap.size ≤ gt) (.slice ya yn yc)
  clear kt7 kr7 kt8 kr8 hr7 hy7 hrA hyA HCE hB7 hl7 hd7 hx7s
  go_upto_region 10 with fail
  clear z10 f10
  generalize World.setCell u8 _ _ = V9 at *
  have HR9 : Hid _ := rep_all11 (b := w.heap.size + 3) hr9 (fun b hb => hb.elim (fun h => by have := HH.out.lP b h; omega) (fun h => by omega))
  have HY9 : Hid _ := rep_all11 (b := w.heap.size + 3) hy9 (fun b hb => by have h9 : gt < b := hb; omega)
  have HB9 : Hid _ := hB9
  have HK9 : Hid _ := kr9
  have t0 := kt9.cell 0 rfl
  have t1 := kt9.cell 1 rfl
  have t2 := kt9.cell 2 rfl
  have t3 := kt9.cell 3 rfl
  have t4 := kt9.cell 4 rfl
  have t5 := kt9.cell 5 rfl
  have t6 := kt9.cell 6 rfl
  have t7 := kt9.cell 7 rfl
  have t8 := kt9.cell 8 rfl
  have t9 := kt9.cell 9 rfl
  have t10 := kt9.cell 10 rfl
  have r0 := kr9.cell 0 rfl
  have r1 := kr9.cell 1 rfl
  have r2 := kr9.cell 2 rfl
  have r3 := kr9.cell 3 rfl
  have r4 := kr9.cell 4 rfl
  have r5 := kr9.cell 5 rfl
  have r6 := kr9.cell 6 rfl
  have r7 := kr9.cell 7 rfl
  have r8 := kr9.cell 8 rfl
  have r9 := kr9.cell 9 rfl
  have r10 := kr9.cell 10 rfl
  have f0 := kr9.free 0
  have f1 := kr9.free 1
  have f2 := kr9.free 2
  have f3 := kr9.free 3
  have f4 := kr9.free 4
  have f5 := kr9.free 5
  have f6 := kr9.free 6
  have f7 := kr9.free 7
  have f8 := kr9.free 8
  have f9 := kr9.free 9
  have f10 := kr9.free 10
  clear hr9 hy9 hB9 kt9 kr9
  go_region_with (fail)
  all_goals
    go_wp2
    refine ret_mid Try.underlying31 Try.infoMsg rfl rfl rfl rfl rfl (Box.draw (Box.all11 HK9.out _ _ _ _ _ _ _ _ _ _ _)) rfl ?_
    exact ⟨(bel_all11 HB9.out (by omega) _ _ _ _ _ _ _ _ _ _ _).drew, aq, cq, ya, yc, rfl, ensS.mono (Shape.below (HR9.out _ _ _ _ _ _ _ _ _ _ _) (Below.refl _ _).drew) (fun b hb _ => hb.elim (fun h => Or.inl h) fun h => Or.inr (by omega)), rowS.mono (Shape.below (HY9.out _ _ _ _ _ _ _ _ _ _ _) (Below.refl _ _).drew) (fun b hb _ => by have h9 : gt < b := hb; show w.heap.size ≤ b; omega)⟩

end Go.Proofs.Ytgffeefipeblhaa
