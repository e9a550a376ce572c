/- What the document's Work of layer 18 does when called, of a message of an expert that the node holds. -/
import Derived.Test.YtgffeefipeblhaaNodJ
namespace Go.Proofs.Ytgffeefipeblhaa
open Go.ChangeShapes Go.WideShapes Go.ChangeAt Go.RowKit


set_option maxRecDepth 100000 in
set_option maxHeartbeats 2000000 in
theorem rnwork_old (dim : Int) (a : Option Addr) (n c : Nat) (ls : List Ly) (ep : Int) (pa : Option Addr) (pn pc : Nat) (h : List (List Int)) (me : Int) (la : Option Addr) (ln lc : Nat) (l : List En) (x0 x1 x2 x3 x4 x5 x6 x7 x8 x9 : Int) (xa : Option Addr) (xn xc : Nat) (v : List Int) (w : World)
    (H : RWorkIn w a n c ls pa pn pc h la ln lc l xa xn xc v) (hF : Nd.Fits dim ls ep h me ⟨x0, x1, x2, x3, x4, x5, x6, x7, x8, x9, v⟩) (hS : Nd.Held ep h me ⟨x0, x1, x2, x3, x4, x5, x6, x7, x8, x9, v⟩) (y : List Int) (hg : Nd.got l (Nd.keyOf ⟨x0, x1, x2, x3, x4, x5, x6, x7, x8, x9, v⟩) = some y) (yn : Nat) (hyn : y.length = yn) :
    Calls Try.prog 13 #[.agg #[.int .i64 dim, .slice a n c], .agg #[.int .i64 ep, .slice pa pn pc], .int .i64 me, .slice la ln lc, .agg #[.int .i64 x0, .int .i64 x1, .int .i64 x2, .int .i64 x3, .int .i64 x4, .int .i64 x5, .int .i64 x6, .int .i64 x7, .int .i64 x8, .int .i64 x9, .slice xa xn xc]] w fun e w' => Below w.heap.size w w' ∧ ∃ ya yc, e = .returned (.tuple #[.agg #[.int .i64 2, .int .i64 me, .int .i64 x1, .int .i64 x3, .int .i64 x4, .int .i64 x5, .int .i64 x6, .int .i64 x7, .int .i64 x8, .int .i64 ep, .slice ya yn yc], .bool false]) ∧ rowS.rep w' (· < w.heap.size) [.slice ya yn yc] y := by
  obtain ⟨i, hfi, hiv⟩ := Nd.first_of_got hg
  have HAT : Hid (Dx.At l (ky x4 x5 x6 x7) (i : Int)) := .inr ⟨i, rfl, hfi⟩
  have hil : i < ln := by have h9 := hfi.1; have h8 := (sliceS_len H.g).1; omega
  obtain ⟨eb, eo, p, q, r, s, v2, nv2, eA, eC, hla, _, heb, hE, hnv2, hrow, _, _, _, _, e4⟩ := en_at H.g hil
  have hv2 : v2 = y := by rw [← hiv, hE]; rfl
  subst hv2
  have hnn : nv2 = yn := by omega
  subst hnn
  have HE4 : Hid (∀ u, Below w.heap.size w u → u.cell? ⟨eb, eo + i * 5 + 4, none⟩ = some (.slice eA nv2 eC)) := fun u hu => (hu.cell (p := ⟨eb, eo + i * 5 + 4, none⟩) heb).trans e4
  have HRW : Hid (rowS.rep w (· < w.heap.size) [.slice eA nv2 eC] v2) := Shape.low hrow
  have HLA : Hid (la = some ⟨eb, eo, none⟩ ∧ i < ln) := ⟨hla, hil⟩
  clear hg hfi hiv hE hnv2 hrow e4 heb hla hil hyn
  have hF9 := hF
  have hS9 := hS
  have hx8 : 0 ≤ x8 := hF.low.2.1
  have HS : Hid (Nd.Held ep h me ⟨x0, x1, x2, x3, x4, x5, x6, x7, x8, x9, v⟩) := hS
  have hpn := (sliceS_len H.p).1
  obtain ⟨j, hj8⟩ : ∃ j : Nat, x8 = (j : Int) := ⟨x8.toNat, by omega⟩
  have hjn : j < pn := by have h9 : x8 < (h.length : Int) := hS.2.1.2; omega
  obtain ⟨pb, po, A, C, ha, hbb, hc, hr⟩ := mat_at H.p hjn
  have hyes : (h.getD j []).contains me = true := by
    have h9 : me ∈ h.getD x8.toNat [] := hS.2.2
    rw [show x8.toNat = j by omega] at h9
    exact List.contains_iff_mem.2 h9
  have hlr : (h.getD j []).length ≤ 100000 := by have := H.pz.2 _ (Mx.getD_mem h j (by omega)); omega
  have HQ : Hid (∀ u, Below w.heap.size w u → Calls Try.prog 28 #[.slice A (h.getD j []).length C, .int .i64 me] u fun e w' => e = .returned (.bool true) ∧ w' = u) := fun u hu => by
    rw [← hyes]
    exact qhas A _ C _ me u (Row.of_rep (Shape.below hr hu)) hlr
  have HPC : Hid (∀ u, Below w.heap.size w u → u.cell? ⟨pb, po + j, none⟩ = some (.slice A (h.getD j []).length C)) := fun u hu => (hu.cell (p := ⟨pb, po + j, none⟩) hbb).trans hc
  have HPA : Hid (pa = some ⟨pb, po, none⟩) := ha
  have HJ : Hid (x8 = (j : Int) ∧ j < pn) := ⟨hj8, hjn⟩
  clear hF hS hx8 hpn hr hc hlr hyes ha hbb hj8 hjn
  clear hF9 hS9
  obtain ⟨W, hW⟩ : ∃ W, W = (((w.alloc (.cells #[.int .i64 dim, .slice a n c] 24)).alloc (.cells #[.int .i64 ep, .slice pa pn pc] 45)).alloc (.cells #[.int .i64 x0, .int .i64 x1, .int .i64 x2, .int .i64 x3, .int .i64 x4, .int .i64 x5, .int .i64 x6, .int .i64 x7, .int .i64 x8, .int .i64 x9, .slice xa xn xc] 31)).alloc (.cells #[.int .i64 0, .int .i64 0, .int .i64 0, .int .i64 0, .int .i64 0, .int .i64 0, .int .i64 0, .int .i64 0, .int .i64 0, .int .i64 0, .slice none 0 0] 31) := ⟨_, rfl⟩
  obtain ⟨hB0, km0, kp0, kx0, kr0, hsz⟩ := boxes4 hW
  have hbt := new_bel W (.cells #[.int .i64 3, .int .i64 me, .int .i64 x1, .int .i64 x3, .int .i64 x4, .int .i64 x5, .int .i64 x6, .int .i64 x7, .int .i64 x8, .int .i64 ep, .slice none 0 0] 31)
  have km := km0.keep hbt
  have kp := kp0.keep hbt
  have kx := kx0.keep hbt
  have kr := kr0.keep hbt
  have hB := bel_then hB0 hbt
  have kt := Box.new W 31 #[.int .i64 3, .int .i64 me, .int .i64 x1, .int .i64 x3, .int .i64 x4, .int .i64 x5, .int .i64 x6, .int .i64 x7, .int .i64 x8, .int .i64 ep, .slice none 0 0]
  rw [hsz] at kt
  have HH : Hid (RWorkIn w a n c ls pa pn pc h la ln lc l xa xn xc v) := H
  have HW : Hid (W = (((w.alloc (.cells #[.int .i64 dim, .slice a n c] 24)).alloc (.cells #[.int .i64 ep, .slice pa pn pc] 45)).alloc (.cells #[.int .i64 x0, .int .i64 x1, .int .i64 x2, .int .i64 x3, .int .i64 x4, .int .i64 x5, .int .i64 x6, .int .i64 x7, .int .i64 x8, .int .i64 x9, .slice xa xn xc] 31)).alloc (.cells #[.int .i64 0, .int .i64 0, .int .i64 0, .int .i64 0, .int .i64 0, .int .i64 0, .int .i64 0, .int .i64 0, .int .i64 0, .int .i64 0, .slice none 0 0] 31)) := hW
  clear H hW hsz hB0 km0 kp0 kx0 kr0 hbt
  go_enter Try.func13, Try.ntmps13
  go_upto_region 2 with fail
  rw [← HW.out]
  clear HW
  generalize World.alloc W _ = V at *
  have c9 := kx.cell 9 rfl
  have c8 := kx.cell 8 rfl
  have p0 := kp.cell 0 rfl
  have p1 := kp.cell 1 rfl
  have q : (x9 != ep) = false := by rw [bne_eq_false_iff_eq]; exact HS.out.1
  have hcV := HPC.out V hB
  generalize (h.getD j []).length = nj at *
  have h8 := HJ.out.1
  have hjn := HJ.out.2
  have ha := HPA.out
  clear HJ HPA
  subst h8
  subst ha
  have hji : (j : Int) < (pn : Int) := by omega
  have hj0 : (0 : Int) ≤ (j : Int) := by omega
  have t0 := kt.cell 0 rfl
  have tf := kt.free 0
  go_wp2_with fail
  refine (HQ.out V hB).mono ?_
  rintro e u2 ⟨rfl, hww⟩
  subst hww
  have kt6 := kt.set0 (.int .i64 2)
  have kr6 := kr.other (b2 := w.heap.size + 4) (i := 0) (.int .i64 2) (by omega)
  have km6 := km.other (b2 := w.heap.size + 4) (i := 0) (.int .i64 2) (by omega)
  have kx6 := kx.other (b2 := w.heap.size + 4) (i := 0) (.int .i64 2) (by omega)
  have hB6 := bel_put (b := w.heap.size + 4) (i := 0) hB (by omega) (.int .i64 2)
  clear HQ hcV HPC q c9 c8 p0 p1 kt kr km kx kp hB
  go_upto_region 5 with fail
  clear t0 tf
  generalize World.setCell _ _ _ = V6 at *
  have c4 := kx6.cell 4 rfl
  have c5 := kx6.cell 5 rfl
  have c6 := kx6.cell 6 rfl
  have c7 := kx6.cell 7 rfl
  have hln9 : ln ≤ 1000 := by have h9 := HH.out.ls.1; have h8 := (sliceS_len HH.out.g).1; omega
  go_wp2_with fail
  refine (rlfind la ln lc l x4 x5 x6 x7 (i:Int) V6 (Shape.below HH.out.g hB6) hln9 HAT.out).mono ?_
  rintro e u7 ⟨rfl, hb7⟩
  have hB7 := bel_then hB6 hb7
  have kt7 := kt6.keep hb7
  have kr7 := kr6.keep hb7
  have km7 := km6.keep hb7
  have kx7 := kx6.keep hb7
  clear c4 c5 c6 c7 kt6 kr6 km6 kx6 hB6 hb7 hln9
  have hla := HLA.out.1
  have hil := HLA.out.2
  have hcE := HE4.out u7 hB7
  clear HLA HE4
  subst hla
  have hii : (i : Int) < (ln : Int) := by omega
  have hi0 : (0 : Int) ≤ (i : Int) := by omega
  have z10 := kt7.cell 10 rfl
  have f10 := kt7.free 10
  have kt8 := kt7.set10 (.slice eA nv2 eC)
  have kr8 := kr7.other (b2 := w.heap.size + 4) (i := 10) (.slice eA nv2 eC) (by omega)
  have hB8 := bel_put (b := w.heap.size + 4) (i := 10) hB7 (by omega) (.slice eA nv2 eC)
  clear kt7 kr7 km7 kx7 hB7
  go_upto_region 8 with fail
  clear z10 f10 hcE
  generalize World.setCell u7 _ _ = V8 at *
  have t0 := kt8.cell 0 rfl
  have t1 := kt8.cell 1 rfl
  have t2 := kt8.cell 2 rfl
  have t3 := kt8.cell 3 rfl
  have t4 := kt8.cell 4 rfl
  have t5 := kt8.cell 5 rfl
  have t6 := kt8.cell 6 rfl
  have t7 := kt8.cell 7 rfl
  have t8 := kt8.cell 8 rfl
  have t9 := kt8.cell 9 rfl
  have t10 := kt8.cell 10 rfl
  have r0 := kr8.cell 0 rfl
  have r1 := kr8.cell 1 rfl
  have r2 := kr8.cell 2 rfl
  have r3 := kr8.cell 3 rfl
  have r4 := kr8.cell 4 rfl
  have r5 := kr8.cell 5 rfl
  have r6 := kr8.cell 6 rfl
  have r7 := kr8.cell 7 rfl
  have r8 := kr8.cell 8 rfl
  have r9 := kr8.cell 9 rfl
  have r10 := kr8.cell 10 rfl
  have f0 := kr8.free 0
  have f1 := kr8.free 1
  have f2 := kr8.free 2
  have f3 := kr8.free 3
  have f4 := kr8.free 4
  have f5 := kr8.free 5
  have f6 := kr8.free 6
  have f7 := kr8.free 7
  have f8 := kr8.free 8
  have f9 := kr8.free 9
  have f10 := kr8.free 10
  have HK9 : Hid _ := kr8
  have HB9 : Hid _ := hB8
  clear kt8 kr8 hB8
  go_wp2
  refine ret_box rfl rfl rfl rfl (Box.all11 HK9.out _ _ _ _ _ _ _ _ _ _ _) rfl ?_
  have hB9 := bel_all11 HB9.out (by omega : w.heap.size ≤ w.heap.size + 3) (.int .i64 2) (.int .i64 me) (.int .i64 x1) (.int .i64 x3) (.int .i64 x4) (.int .i64 x5) (.int .i64 x6) (.int .i64 x7) (.int .i64 (j : Int)) (.int .i64 ep) (.slice eA nv2 eC)
  exact ⟨hB9, eA, eC, rfl, Shape.below HRW.out hB9⟩

end Go.Proofs.Ytgffeefipeblhaa
