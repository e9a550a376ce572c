/- What the document's Fits of layer 18 does when called. -/
import Derived.Test.YtgffeefipeblhaaNodF
import Derived.Test.YtgffeefipeblhaaPlcE
import Derived.Test.YtgffeefipeblhaaWireE
namespace Go.Proofs.Ytgffeefipeblhaa
open Go.ChangeShapes Go.WideShapes Go.ChangeAt Go.RowKit

theorem boxes3 {w W : World} {c1 c2 c3 : Array Value} {t1 t2 t3 : TypeId} (hW : W = ((w.alloc (.cells c1 t1)).alloc (.cells c2 t2)).alloc (.cells c3 t3)) :
    Below w.heap.size w W ∧ Box W w.heap.size t1 c1 ∧ Box W (w.heap.size + 1) t2 c2 ∧ Box W (w.heap.size + 2) t3 c3 ∧ W.heap.size = w.heap.size + 3 := by
  subst hW
  have k1 := ((Box.new w t1 c1).keep (new_bel _ (.cells c2 t2))).keep (new_bel _ (.cells c3 t3))
  have k2 := (Box.new (w.alloc (.cells c1 t1)) t2 c2).keep (new_bel _ (.cells c3 t3))
  have k3 := Box.new ((w.alloc (.cells c1 t1)).alloc (.cells c2 t2)) t3 c3
  rw [show (w.alloc (.cells c1 t1)).heap.size = w.heap.size + 1 by simp] at k2
  rw [show ((w.alloc (.cells c1 t1)).alloc (.cells c2 t2)).heap.size = w.heap.size + 2 by simp] at k3
  exact ⟨bel_alloc (bel_two _ _ _) _, k1, k2, k3, by simp⟩

set_option maxRecDepth 100000 in
set_option maxHeartbeats 2000000 in
theorem rnfits (dim : Int) (a : Option Addr) (n c : Nat) (ls : List Ly) (ep : Int) (pa : Option Addr) (pn pc : Nat) (h : List (List Int)) (me : Int) (x0 x1 x2 x3 x4 x5 x6 x7 x8 x9 : Int) (xa : Option Addr) (xn xc : Nat) (v : List Int) (w : World)
    (hm : lysS.rep w everywhere [.slice a n c] ls) (hmn : n ≤ 1000) (hmz : ∀ l ∈ ls, Md.LSized l) (hp : matS.rep w everywhere [.slice pa pn pc] h) (hpz : Ex.Sized h) (hv : rowS.rep w everywhere [.slice xa xn xc] v) (hxn : xn ≤ 1000) :
    Calls Try.prog 11 #[.agg #[.int .i64 dim, .slice a n c], .agg #[.int .i64 ep, .slice pa pn pc], .int .i64 me, .agg #[.int .i64 x0, .int .i64 x1, .int .i64 x2, .int .i64 x3, .int .i64 x4, .int .i64 x5, .int .i64 x6, .int .i64 x7, .int .i64 x8, .int .i64 x9, .slice xa xn xc]] w fun e w' => Says e (Nd.Fits dim ls ep h me ⟨x0, x1, x2, x3, x4, x5, x6, x7, x8, x9, v⟩) ∧ Below w.heap.size w w' := by
  have hl := (sliceS_len hm).1
  obtain ⟨W, hW⟩ : ∃ W, W = ((w.alloc (.cells #[.int .i64 dim, .slice a n c] 24)).alloc (.cells #[.int .i64 ep, .slice pa pn pc] 45)).alloc (.cells #[.int .i64 x0, .int .i64 x1, .int .i64 x2, .int .i64 x3, .int .i64 x4, .int .i64 x5, .int .i64 x6, .int .i64 x7, .int .i64 x8, .int .i64 x9, .slice xa xn xc] 31) := ⟨_, rfl⟩
  obtain ⟨hB, km, kp, kx, hsz⟩ := boxes3 hW
  have HW : Hid (W = ((w.alloc (.cells #[.int .i64 dim, .slice a n c] 24)).alloc (.cells #[.int .i64 ep, .slice pa pn pc] 45)).alloc (.cells #[.int .i64 x0, .int .i64 x1, .int .i64 x2, .int .i64 x3, .int .i64 x4, .int .i64 x5, .int .i64 x6, .int .i64 x7, .int .i64 x8, .int .i64 x9, .slice xa xn xc] 31)) := hW
  have hm1 := Shape.below hm hB
  have hp1 := Shape.below hp hB
  have hv1 := Shape.below hv hB
  have HMZ : Hid (∀ l ∈ ls, Md.LSized l) := hmz
  have HPZ : Hid (Ex.Sized h) := hpz
  have HL : Hid (ls.length = n) := hl
  have HLV : Hid (v.length = xn) := (sliceS_len hv).1
  have HC : Hid (Nd.Fits dim ls ep h me ⟨x0, x1, x2, x3, x4, x5, x6, x7, x8, x9, v⟩ ↔ Md.Right dim ls ∧ Pl.Right ep h ∧ Wx.right ⟨x0, x1, x2, x3, x4, x5, x6, x7, x8, x9, v⟩ ∧ x0 = 1 ∧ x2 = me ∧ x5 < (n : Int) ∧ x8 < ((ls.getD x5.toNat ly0).2.1.length : Int) ∧ Md.TRight dim [v]) := by
    show _ ↔ _
    rw [← hl]
    exact Iff.rfl
  clear hm hp hv hl hsz hW hmz hpz
  generalize Nd.Fits dim ls ep h me ⟨x0, x1, x2, x3, x4, x5, x6, x7, x8, x9, v⟩ = R at *
  go_enter Try.func11, Try.ntmps11
  go_upto_region 1 with fail
  rw [← HW.out]
  clear HW
  have m0 := km.cell 0 rfl
  have m1 := km.cell 1 rfl
  go_wp2_with fail
  refine (rmright a n c ls dim W hm1 hmn HMZ.out).mono ?_
  rintro e u1 ⟨hs1, hb1⟩
  have hB1 := bel_then hB hb1
  have kp1 := kp.keep hb1
  clear m0 m1
  by_cases d1 : Md.Right dim ls
  case neg =>
    rw [hs1.not d1]
    have D1 : Hid (¬ Md.Right dim ls) := d1
    clear hs1 d1
    go_wp2
    go_ret
    exact ⟨Says.no fun h => D1.out (HC.out.1 h).1, hB1⟩
  rw [hs1.is d1]
  have D1 : Hid (Md.Right dim ls) := d1
  clear hs1 d1
  have p0 := kp1.cell 0 rfl
  have p1 := kp1.cell 1 rfl
  go_wp2_with fail
  refine (qright ep pa pn pc h u1 (Shape.below hp1 hb1) HPZ.out).mono ?_
  rintro e u2 ⟨hs2, hb2⟩
  have hb12 := bel_then hb1 hb2
  have hB2 := bel_then hB1 hb2
  have km2 := km.keep hb12
  have kx2 := kx.keep hb12
  have hm2 := Shape.below hm1 hb12
  have hv2 := Shape.below hv1 hb12
  clear p0 p1 kp1 km kx kp hB hB1 hb1 hb2 hb12 hm1 hp1 hv1
  by_cases d2 : Pl.Right ep h
  case neg =>
    rw [hs2.not d2]
    have D2 : Hid (¬ Pl.Right ep h) := d2
    clear hs2 d2
    go_wp2
    go_ret
    exact ⟨Says.no fun h => D2.out (HC.out.1 h).2.1, hB2⟩
  rw [hs2.is d2]
  have D2 : Hid (Pl.Right ep h) := d2
  clear hs2 d2
  have c0 := kx2.cell 0 rfl
  have c1 := kx2.cell 1 rfl
  have c2 := kx2.cell 2 rfl
  have c3 := kx2.cell 3 rfl
  have c4 := kx2.cell 4 rfl
  have c5 := kx2.cell 5 rfl
  have c6 := kx2.cell 6 rfl
  have c7 := kx2.cell 7 rfl
  have c8 := kx2.cell 8 rfl
  have c9 := kx2.cell 9 rfl
  have c10 := kx2.cell 10 rfl
  go_wp2_with fail
  refine (rwiright x0 x1 x2 x3 x4 x5 x6 x7 x8 x9 xa xn xc v u2 hv2 (by omega)).mono ?_
  rintro e u3 ⟨hs3, hb3⟩
  have hB3 := bel_then hB2 hb3
  have km1 := km2.keep hb3
  have kx1 := kx2.keep hb3
  have h2 := Shape.below hm2 hb3
  have hv3 := Shape.below hv2 hb3
  clear c0 c1 c2 c3 c4 c5 c6 c7 c8 c9 c10 hb3 hm2 hv2 km2 kx2 hB2
  by_cases hR : Wx.right ⟨x0, x1, x2, x3, x4, x5, x6, x7, x8, x9, v⟩
  case neg =>
    rw [hs3.not hR]
    clear hs3
    go_wp2
    go_ret
    exact ⟨Says.no fun h => hR (HC.out.1 h).2.2.1, hB3⟩
  rw [hs3.is hR]
  have h50 : 0 ≤ x5 := (hR.2.2.1 x5 (by simp [Wx.ten])).1
  have h80 : 0 ≤ x8 := (hR.2.2.1 x8 (by simp [Wx.ten])).1
  have HR : Hid (Wx.right ⟨x0, x1, x2, x3, x4, x5, x6, x7, x8, x9, v⟩) := hR
  clear hs3 hR
  have c0 := kx1.cell 0 rfl
  have c2 := kx1.cell 2 rfl
  by_cases hk : x0 = 1
  case neg =>
    have q : (x0 != 1) = true := by rw [bne_iff_ne]; exact hk
    have HK : Hid (¬ x0 = 1) := hk
    clear hk
    go_wp2
    go_ret
    exact ⟨Says.no fun h => HK.out (HC.out.1 h).2.2.2.1, hB3⟩
  have q0 : (x0 != 1) = false := by rw [bne_eq_false_iff_eq]; exact hk
  have HK : Hid (x0 = 1) := hk
  clear hk
  by_cases hmm : x2 = me
  case neg =>
    have q : (x2 != me) = true := by rw [bne_iff_ne]; exact hmm
    have HN : Hid (¬ x2 = me) := hmm
    clear hmm
    go_wp2
    go_ret
    exact ⟨Says.no fun h => HN.out (HC.out.1 h).2.2.2.2.1, hB3⟩
  have q2 : (x2 != me) = false := by rw [bne_eq_false_iff_eq]; exact hmm
  have HM : Hid (x2 = me) := hmm
  clear hmm
  obtain ⟨k, rfl⟩ : ∃ k : Nat, x5 = (k : Int) := ⟨x5.toNat, by omega⟩
  have ht : ((k : Int)).toNat = k := rfl
  have hne9 : Nonempty (Later u3) := Later.there u3
  have d1 : ∀ x : Later u3, x.u.cell? ⟨w.heap.size, 1, none⟩ = _ := fun x => x.cell (km1.cell 1 rfl)
  have d5 : ∀ x : Later u3, x.u.cell? ⟨w.heap.size + 2, 5, none⟩ = _ := fun x => x.cell (kx1.cell 5 rfl)
  have d8 : ∀ x : Later u3, x.u.cell? ⟨w.heap.size + 2, 8, none⟩ = _ := fun x => x.cell (kx1.cell 8 rfl)
  by_cases hlt : k < n
  case neg =>
    have HN : Hid (¬ k < n) := hlt
    go_wp2
    have g1 : decide (n ≤ k) = true := by rw [decide_eq_true_iff]; omega
    refine region_later (by kernel_rfl) (by kernel_rfl) ?_
    repeat (go_big_quiet_step (fail))
    refine wpQuiet_nil ?_
    intro x9
    obtain ⟨W9, hb9⟩ := x9
    go_wp2
    go_ret
    exact ⟨Says.no fun h => HN.out (by have := (HC.out.1 h).2.2.2.2.2.1; omega), bel_then hB3 hb9⟩
  obtain ⟨b, off, ag, ng, cg, ax, nx, cx, g, xs, cap, rfl, hbb, hE, hg, hx, e0, e1, e2⟩ := ly_there h2 hlt
  have HX : Hid (xs.length = nx) := (sliceS_len hx).1
  have HE : Hid (ls.getD k ly0 = (g, xs, cap, ())) := hE
  have f1 : ∀ x : Later u3, x.u.cell? ⟨b, off + k * 3 + 1, none⟩ = _ := fun x => x.cell e1
  have hk0 : (0 : Int) ≤ (k : Int) := by omega
  have hkn : (k : Int) < (n : Int) := by omega
  clear e0 e1 e2 hE hg hx
  by_cases hlx : x8 < (nx : Int)
  case neg =>
    have HN : Hid (¬ x8 < (nx : Int)) := hlx
    go_wp2
    have g1 : decide (n ≤ k) = false := by rw [decide_eq_false_iff_not]; omega
    have g2 : decide ((nx : Int) ≤ x8) = true := by rw [decide_eq_true_iff]; omega
    refine region_later (by kernel_rfl) (by kernel_rfl) ?_
    repeat (go_big_quiet_step (fail))
    refine wpQuiet_nil ?_
    intro x9
    obtain ⟨W9, hb9⟩ := x9
    go_wp2
    go_ret
    exact ⟨Says.no fun h => by have h7 := (HC.out.1 h).2.2.2.2.2.2.1; rw [ht, HE.out] at h7; have h8 : x8 < (xs.length : Int) := h7; rw [HX.out] at h8; have := HN.out; omega, bel_then hB3 hb9⟩
  have HG : Hid (x8 < (nx : Int)) := hlx
  go_wp2
  have g1 : decide (n ≤ k) = false := by rw [decide_eq_false_iff_not]; omega
  have g2 : decide ((nx : Int) ≤ x8) = false := by rw [decide_eq_false_iff_not]; have := HG.out; omega
  refine region_later (by kernel_rfl) (by kernel_rfl) ?_
  repeat (go_big_quiet_step (fail))
  refine wpQuiet_nil ?_
  intro x9
  obtain ⟨W9, hb9⟩ := x9
  have hB9 := bel_then hB3 hb9
  have km9 := km1.keep hb9
  have kx9 := kx1.keep hb9
  have hr9 := rows_one (Shape.below hv3 hb9)
  have hbn := new_bel W9 (.cells #[.slice xa xn xc] 29)
  have hct : Hid (Calls _ _ _ _ _) := rmtokens (some ⟨b, off, none⟩) n c dim _ 1 1 [v] _ hr9 ⟨by simp, fun l hl => by rw [List.mem_singleton.1 hl, HLV.out]; omega⟩
  have p0 := km9.cell 0 rfl
  have p1 := km9.cell 1 rfl
  have p10 := kx9.cell 10 rfl
  clear km1 kx1 h2 hv3 c0 c2 q0 q2 d1 d5 d8 f1 g1 g2 hlx hr9
  go_wp2_with fail
  refine hct.out.mono ?_
  rintro e u5 ⟨hs, hb5⟩
  have HB : Hid (Below w.heap.size w u5) := bel_then (bel_then hB9 hbn) hb5
  by_cases hT : Md.TRight dim [v]
  · rw [hs.is hT]
    go_wp2
    go_ret
    exact ⟨Says.yes (HC.out.2 ⟨D1.out, D2.out, HR.out, HK.out, HM.out, by omega, by rw [ht, HE.out]; show x8 < (xs.length : Int); rw [HX.out]; exact HG.out, hT⟩), HB.out⟩
  · rw [hs.not hT]
    go_wp2
    go_ret
    exact ⟨Says.no fun h => hT (HC.out.1 h).2.2.2.2.2.2.2, HB.out⟩

end Go.Proofs.Ytgffeefipeblhaa
