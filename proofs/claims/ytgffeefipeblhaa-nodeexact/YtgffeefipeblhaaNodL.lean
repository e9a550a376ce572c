/- What the document's Work of layer 18 does when called, of a key that is not there. -/
import Derived.Test.YtgffeefipeblhaaNodJ
namespace Go.Proofs.Ytgffeefipeblhaa
open Go.ChangeShapes Go.WideShapes Go.ChangeAt Go.RowKit


set_option maxRecDepth 100000 in
set_option maxHeartbeats 4000000 in
theorem rnwork_new (dim : Int) (a : Option Addr) (n c : Nat) (ls : List Ly) (ep : Int) (pa : Option Addr) (pn pc : Nat) (h : List (List Int)) (me : Int) (la : Option Addr) (ln lc : Nat) (l : List En) (x0 x1 x2 x3 x4 x5 x6 x7 x8 x9 : Int) (xa : Option Addr) (xn xc : Nat) (v : List Int) (w : World)
    (H : RWorkIn w a n c ls pa pn pc h la ln lc l xa xn xc v) (hF : Nd.Fits dim ls ep h me ⟨x0, x1, x2, x3, x4, x5, x6, x7, x8, x9, v⟩) (hS : Nd.Held ep h me ⟨x0, x1, x2, x3, x4, x5, x6, x7, x8, x9, v⟩) (hg : Nd.got l (Nd.keyOf ⟨x0, x1, x2, x3, x4, x5, x6, x7, x8, x9, v⟩) = none) (y : List Int) (hy : Md.ans (Nd.lyOf ls ⟨x0, x1, x2, x3, x4, x5, x6, x7, x8, x9, v⟩) v x8 = y) :
    Calls Try.prog 13 #[.agg #[.int .i64 dim, .slice a n c], .agg #[.int .i64 ep, .slice pa pn pc], .int .i64 me, .slice la ln lc, .agg #[.int .i64 x0, .int .i64 x1, .int .i64 x2, .int .i64 x3, .int .i64 x4, .int .i64 x5, .int .i64 x6, .int .i64 x7, .int .i64 x8, .int .i64 x9, .slice xa xn xc]] w fun e w' => Below w.heap.size w w' ∧ ∃ ya yc, e = .returned (.tuple #[.agg #[.int .i64 2, .int .i64 me, .int .i64 x1, .int .i64 x3, .int .i64 x4, .int .i64 x5, .int .i64 x6, .int .i64 x7, .int .i64 x8, .int .i64 ep, .slice ya xn yc], .bool true]) ∧ rowS.rep w' (w.heap.size ≤ ·) [.slice ya xn yc] y := by
  have HAT : Hid (Dx.At l (ky x4 x5 x6 x7) (-1)) := .inl ⟨rfl, Nd.no_of_got hg⟩
  clear hg
  have hF9 := hF
  have hS9 := hS
  have hx8 : 0 ≤ x8 := hF.low.2.1
  have HS : Hid (Nd.Held ep h me ⟨x0, x1, x2, x3, x4, x5, x6, x7, x8, x9, v⟩) := hS
  have hpn := (sliceS_len H.p).1
  obtain ⟨j, hj8⟩ : ∃ j : Nat, x8 = (j : Int) := ⟨x8.toNat, by omega⟩
  have hjn : j < pn := by have h9 : x8 < (h.length : Int) := hS.2.1.2; omega
  obtain ⟨pb, po, A, C, ha, hbb, hc, hr⟩ := mat_at H.p hjn
  have hyes : (h.getD j []).contains me = true := by
    have h9 : me ∈ h.getD x8.toNat [] := hS.2.2
    rw [show x8.toNat = j by omega] at h9
    exact List.contains_iff_mem.2 h9
  have hlr : (h.getD j []).length ≤ 100000 := by have := H.pz.2 _ (Mx.getD_mem h j (by omega)); omega
  have HQ : Hid (∀ u, Below w.heap.size w u → Calls Try.prog 28 #[.slice A (h.getD j []).length C, .int .i64 me] u fun e w' => e = .returned (.bool true) ∧ w' = u) := fun u hu => by
    rw [← hyes]
    exact qhas A _ C _ me u (Row.of_rep (Shape.below hr hu)) hlr
  have HPC : Hid (∀ u, Below w.heap.size w u → u.cell? ⟨pb, po + j, none⟩ = some (.slice A (h.getD j []).length C)) := fun u hu => (hu.cell (p := ⟨pb, po + j, none⟩) hbb).trans hc
  have HPA : Hid (pa = some ⟨pb, po, none⟩) := ha
  have HJ : Hid (x8 = (j : Int) ∧ j < pn) := ⟨hj8, hjn⟩
  clear hF hS hx8 hpn hr hc hlr hyes ha hbb hj8 hjn
  have hlo := hF9.low
  have hlay := hF9.layer
  have hvec := hF9.vec
  have hj8 := HJ.out.1
  obtain ⟨k, hk5⟩ : ∃ k : Nat, x5 = (k : Int) := ⟨x5.toNat, by have h9 : 0 ≤ x5 := hlo.1; omega⟩
  have hln := (sliceS_len H.m).1
  have hkn : k < n := by have h9 : x5.toNat < ls.length := hlay.1; omega
  obtain ⟨b, off, ag, ng, cg, ax, nx, cx, g, xs, cap, ha, hbb, hE, hgm, hx, e0, e1, e2⟩ := ly_there H.m hkn
  have hnx := (sliceS_len hx).1
  have hE2 : Nd.lyOf ls ⟨x0, x1, x2, x3, x4, x5, x6, x7, x8, x9, v⟩ = (g, xs, cap, ()) := by rw [← hE, show k = x5.toNat by omega]; rfl
  have hjx : j < nx := by
    have h9 : x8 < ((Nd.lyOf ls ⟨x0, x1, x2, x3, x4, x5, x6, x7, x8, x9, v⟩).2.1.length : Int) := hF9.2.2.2.2.2.2.1
    rw [hE2] at h9
    have h8 : x8 < (xs.length : Int) := h9
    omega
  obtain ⟨b2, off2, ai, ni, ci, ao, no, co, mi, mo, rfl, hbb2, hE3, hri, hro, f0, f1⟩ := xp_there hx hjx
  have hxm : ((mi, mo, ()) : Xp) ∈ xs := by rw [← hE3]; exact in_of (by omega) _
  have hLR : Md.LRight (g, xs, cap, ()) dim := by rw [← hE2]; exact hlay.2
  have hvn : (xn : Int) = dim := by rw [← (sliceS_len H.v).1]; exact hvec.1
  have hER : Ex.Right mi mo xn := by rw [hvn]; exact hLR.2.2.2.2.2 _ hxm
  have hLM : ((g, xs, cap, ()) : Ly) ∈ ls := by rw [← hE]; exact in_of (by omega) _
  have hsz2 := (H.mz _ hLM).2.2 _ hxm
  have hans : Ex.run mi mo v = y := by
    rw [← hy, hE2]
    show _ = Ex.run (xs.getD x8.toNat xp0).1 (xs.getD x8.toNat xp0).2.1 v
    rw [show x8.toNat = j by omega, hE3]
  have HER : Hid (Ex.Right mi mo xn ∧ Ex.Sized mi ∧ Ex.Sized mo ∧ Ex.run mi mo v = y) := ⟨hER, hsz2.1, hsz2.2, hans⟩
  have HXP : Hid (Exp w ai ni ci ao no co mi mo) := ⟨Shape.any hri, Shape.any hro⟩
  have HCE : Hid (∀ u, Below w.heap.size w u → u.cell? ⟨b, off + k * 3 + 1, none⟩ = some (.slice (some ⟨b2, off2, none⟩) nx cx) ∧ u.cell? ⟨b2, off2 + j * 2, none⟩ = some (.slice ai ni ci) ∧ u.cell? ⟨b2, off2 + j * 2 + 1, none⟩ = some (.slice ao no co)) := fun u hu => ⟨(hu.cell hbb).trans e1, (hu.cell hbb2).trans f0, (hu.cell hbb2).trans f1⟩
  have H5 : Hid (x5 = (k : Int) ∧ k < n) := ⟨hk5, hkn⟩
  have HJX : Hid (j < nx) := hjx
  have HA : Hid (a = some ⟨b, off, none⟩) := ha
  clear hF9 hS9 hlo hlay hvec hln hnx hE2 hE hgm hx e0 e1 e2 hE3 hri hro f0 f1 hxm hLR hvn hER hLM hsz2 hans hy hbb hbb2 hk5 hj8 ha hkn hjx
  obtain ⟨W, hW⟩ : ∃ W, W = (((w.alloc (.cells #[.int .i64 dim, .slice a n c] 24)).alloc (.cells #[.int .i64 ep, .slice pa pn pc] 45)).alloc (.cells #[.int .i64 x0, .int .i64 x1, .int .i64 x2, .int .i64 x3, .int .i64 x4, .int .i64 x5, .int .i64 x6, .int .i64 x7, .int .i64 x8, .int .i64 x9, .slice xa xn xc] 31)).alloc (.cells #[.int .i64 0, .int .i64 0, .int .i64 0, .int .i64 0, .int .i64 0, .int .i64 0, .int .i64 0, .int .i64 0, .int .i64 0, .int .i64 0, .slice none 0 0] 31) := ⟨_, rfl⟩
  obtain ⟨hB0, km0, kp0, kx0, kr0, hsz⟩ := boxes4 hW
  have hbt := new_bel W (.cells #[.int .i64 3, .int .i64 me, .int .i64 x1, .int .i64 x3, .int .i64 x4, .int .i64 x5, .int .i64 x6, .int .i64 x7, .int .i64 x8, .int .i64 ep, .slice none 0 0] 31)
  have km := km0.keep hbt
  have kp := kp0.keep hbt
  have kx := kx0.keep hbt
  have kr := kr0.keep hbt
  have hB := bel_then hB0 hbt
  have kt := Box.new W 31 #[.int .i64 3, .int .i64 me, .int .i64 x1, .int .i64 x3, .int .i64 x4, .int .i64 x5, .int .i64 x6, .int .i64 x7, .int .i64 x8, .int .i64 ep, .slice none 0 0]
  rw [hsz] at kt
  have HH : Hid (RWorkIn w a n c ls pa pn pc h la ln lc l xa xn xc v) := H
  have HW : Hid (W = (((w.alloc (.cells #[.int .i64 dim, .slice a n c] 24)).alloc (.cells #[.int .i64 ep, .slice pa pn pc] 45)).alloc (.cells #[.int .i64 x0, .int .i64 x1, .int .i64 x2, .int .i64 x3, .int .i64 x4, .int .i64 x5, .int .i64 x6, .int .i64 x7, .int .i64 x8, .int .i64 x9, .slice xa xn xc] 31)).alloc (.cells #[.int .i64 0, .int .i64 0, .int .i64 0, .int .i64 0, .int .i64 0, .int .i64 0, .int .i64 0, .int .i64 0, .int .i64 0, .int .i64 0, .slice none 0 0] 31)) := hW
  clear H hW hsz hB0 km0 kp0 kx0 kr0 hbt
  go_enter Try.func13, Try.ntmps13
  go_upto_region 2 with fail
  rw [← HW.out]
  clear HW
  generalize World.alloc W _ = V at *
  have c9 := kx.cell 9 rfl
  have c8 := kx.cell 8 rfl
  have p0 := kp.cell 0 rfl
  have p1 := kp.cell 1 rfl
  have q : (x9 != ep) = false := by rw [bne_eq_false_iff_eq]; exact HS.out.1
  have hcV := HPC.out V hB
  generalize (h.getD j []).length = nj at *
  have h8 := HJ.out.1
  have hjn := HJ.out.2
  have ha := HPA.out
  clear HJ HPA
  subst h8
  subst ha
  have hji : (j : Int) < (pn : Int) := by omega
  have hj0 : (0 : Int) ≤ (j : Int) := by omega
  have t0 := kt.cell 0 rfl
  have tf := kt.free 0
  go_wp2_with fail
  refine (HQ.out V hB).mono ?_
  rintro e u2 ⟨rfl, hww⟩
  subst hww
  have kt6 := kt.set0 (.int .i64 2)
  have kr6 := kr.other (b2 := w.heap.size + 4) (i := 0) (.int .i64 2) (by omega)
  have km6 := km.other (b2 := w.heap.size + 4) (i := 0) (.int .i64 2) (by omega)
  have kx6 := kx.other (b2 := w.heap.size + 4) (i := 0) (.int .i64 2) (by omega)
  have hB6 := bel_put (b := w.heap.size + 4) (i := 0) hB (by omega) (.int .i64 2)
  clear HQ hcV HPC q c9 c8 p0 p1 kt kr km kx kp hB
  go_upto_region 5 with fail
  clear t0 tf
  generalize World.setCell _ _ _ = V6 at *
  have c4 := kx6.cell 4 rfl
  have c5 := kx6.cell 5 rfl
  have c6 := kx6.cell 6 rfl
  have c7 := kx6.cell 7 rfl
  have hln9 : ln ≤ 1000 := by have h9 := HH.out.ls.1; have h8 := (sliceS_len HH.out.g).1; omega
  go_wp2_with fail
  refine (rlfind la ln lc l x4 x5 x6 x7 (-1) V6 (Shape.below HH.out.g hB6) hln9 HAT.out).mono ?_
  rintro e u7 ⟨rfl, hb7⟩
  have hB7 := bel_then hB6 hb7
  have kt7 := kt6.keep hb7
  have kr7 := kr6.keep hb7
  have km7 := km6.keep hb7
  have kx7 := kx6.keep hb7
  clear c4 c5 c6 c7 kt6 kr6 km6 kx6 hB6 hb7 hln9
  have h5 := H5.out.1
  have ha := HA.out
  have hkn := H5.out.2
  have hjx := HJX.out
  clear H5 HA HJX
  subst h5
  subst ha
  have hki : (k : Int) < (n : Int) := by omega
  have hk0 : (0 : Int) ≤ (k : Int) := by omega
  have hjxi : (j : Int) < (nx : Int) := by omega
  have hu7 : w.heap.size + 4 < u7.heap.size := kt7.lt
  have hD : Below (w.heap.size + 4) u7 u7.drew := (Below.refl _ _).drew
  have HC : Hid (Calls _ _ _ _ _) := rxrun_at ai ni ci ao no co mi mo xa xn xc v u7.drew (HXP.out.below hB7.drew) HER.out.2.1 HER.out.2.2.1 (Row.of_rep (Shape.below HH.out.v hB7.drew)) (by have := HH.out.vn; omega) HER.out.1
  have HSS : Hid (∀ u, Below (w.heap.size + 4) u7 u → u.cell? ⟨w.heap.size, 1, none⟩ = some (.slice (some ⟨b, off, none⟩) n c) ∧ u.cell? ⟨w.heap.size + 2, 5, none⟩ = some (.int .i64 (k : Int)) ∧ u.cell? ⟨w.heap.size + 2, 8, none⟩ = some (.int .i64 (j : Int)) ∧ u.cell? ⟨w.heap.size + 2, 10, none⟩ = some (.slice xa xn xc) ∧ u.cell? ⟨b, off + k * 3 + 1, none⟩ = some (.slice (some ⟨b2, off2, none⟩) nx cx) ∧ u.cell? ⟨b2, off2 + j * 2, none⟩ = some (.slice ai ni ci) ∧ u.cell? ⟨b2, off2 + j * 2 + 1, none⟩ = some (.slice ao no co)) := fun u hu => by
    obtain ⟨y1, y2, y3⟩ := HCE.out u (hB7.trans (hu.mono (by omega)))
    have q1 := km7.below hu (by omega)
    have q2 := kx7.below hu (by omega)
    exact ⟨q1.cell 1 rfl, q2.cell 5 rfl, q2.cell 8 rfl, q2.cell 10 rfl, y1, y2, y3⟩
  obtain ⟨i1, i2, i3, i4, i5, i6, i7⟩ := HSS.out u7 (Below.refl _ _)
  clear km7 kx7
  go_wp2
  go_region_held3 (fun u => u.cell? ⟨w.heap.size, 1, none⟩ = some (.slice (some ⟨b, off, none⟩) n c) ∧ u.cell? ⟨w.heap.size + 2, 5, none⟩ = some (.int .i64 (k : Int)) ∧ u.cell? ⟨w.heap.size + 2, 8, none⟩ = some (.int .i64 (j : Int)) ∧ u.cell? ⟨w.heap.size + 2, 10, none⟩ = some (.slice xa xn xc) ∧ u.cell? ⟨b, off + k * 3 + 1, none⟩ = some (.slice (some ⟨b2, off2, none⟩) nx cx) ∧ u.cell? ⟨b2, off2 + j * 2, none⟩ = some (.slice ai ni ci) ∧ u.cell? ⟨b2, off2 + j * 2 + 1, none⟩ = some (.slice ao no co))
    (first
      | exact HSS.out _ (by first | with_reducible assumption | with_reducible exact Below.refl _ _ | (with_reducible refine bel_put ?_ ?_ _; with_reducible assumption; omega))
      | go_keep)
    (first
      | (go_at_call 30; refine HC.out.mono ?_; rintro e u8 ⟨ya, yc, rfl, hr8, hb8⟩; have hd8 : Below (w.heap.size + 4) u7 u8 := (hD.trans (hb8.mono (by show w.heap.size + 4 ≤ u7.heap.size; omega))); have kt8 := kt7.keep (bel_then (Below.refl _ u7).drew hb8); have z10 := kt8.cell 10 rfl; have f10 := kt8.free 10))
  all_goals
    have kr8 := kr7.keep (bel_then (Below.refl _ u7).drew hb8)
    have hB8 := bel_then hB7 (bel_then (Below.refl _ u7).drew hb8)
    have kt9 := kt8.set10 (.slice ya xn yc)
    have kr9 := kr8.other (b2 := w.heap.size + 4) (i := 10) (.slice ya xn yc) (by omega)
    have hB9 := bel_put (b := w.heap.size + 4) (i := 10) hB8 (by omega) (.slice ya xn yc)
    rw [HER.out.2.2.2] at hr8
    have hyA : rowS.rep u8 (w.heap.size + 4 < ·) [.slice ya xn yc] y := rowS.mono hr8 fun b hb _ => by have h9 : u7.heap.size ≤ b := hb; show w.heap.size + 4 < b; omega
    have hy9 := rep_put (b := w.heap.size + 4) (i := 10) hyA (fun b hb => by have h9 : w.heap.size + 4 < b := hb; omega) (.slice ya xn yc)
    clear i1 i2 i3 i4 i5 i6 i7 kt7 kr7 kt8 kr8 hyA hr8 hB8 HSS HC HCE hB7 hd8 hD hb8
    go_upto_region 10 with fail
    clear z10 f10
    generalize World.setCell u8 _ _ = V9 at *
    have HY9 : Hid _ := rep_all11 (b := w.heap.size + 3) hy9 (fun b hb => by have h9 : w.heap.size + 4 < b := hb; omega)
    have HB9 : Hid _ := hB9
    have HK9 : Hid _ := kr9
    have t0 := kt9.cell 0 rfl
    have t1 := kt9.cell 1 rfl
    have t2 := kt9.cell 2 rfl
    have t3 := kt9.cell 3 rfl
    have t4 := kt9.cell 4 rfl
    have t5 := kt9.cell 5 rfl
    have t6 := kt9.cell 6 rfl
    have t7 := kt9.cell 7 rfl
    have t8 := kt9.cell 8 rfl
    have t9 := kt9.cell 9 rfl
    have t10 := kt9.cell 10 rfl
    have r0 := kr9.cell 0 rfl
    have r1 := kr9.cell 1 rfl
    have r2 := kr9.cell 2 rfl
    have r3 := kr9.cell 3 rfl
    have r4 := kr9.cell 4 rfl
    have r5 := kr9.cell 5 rfl
    have r6 := kr9.cell 6 rfl
    have r7 := kr9.cell 7 rfl
    have r8 := kr9.cell 8 rfl
    have r9 := kr9.cell 9 rfl
    have r10 := kr9.cell 10 rfl
    have f0 := kr9.free 0
    have f1 := kr9.free 1
    have f2 := kr9.free 2
    have f3 := kr9.free 3
    have f4 := kr9.free 4
    have f5 := kr9.free 5
    have f6 := kr9.free 6
    have f7 := kr9.free 7
    have f8 := kr9.free 8
    have f9 := kr9.free 9
    have f10 := kr9.free 10
    clear hy9 hB9 kt9 kr9
    go_wp2
    refine ret_box rfl rfl rfl rfl (Box.all11 HK9.out _ _ _ _ _ _ _ _ _ _ _) rfl ?_
    exact ⟨bel_all11 HB9.out (by omega) _ _ _ _ _ _ _ _ _ _ _, ya, yc, rfl, rowS.mono (HY9.out _ _ _ _ _ _ _ _ _ _ _) (fun b hb _ => by have h9 : w.heap.size + 4 < b := hb; show w.heap.size ≤ b; omega)⟩

end Go.Proofs.Ytgffeefipeblhaa
