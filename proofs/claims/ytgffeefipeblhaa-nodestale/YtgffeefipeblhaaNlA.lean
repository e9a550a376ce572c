/- NodeStale with letters. -/
import Derived.Test.YtgffeefipeblhaaNodH
import Derived.Test.YtgffeefipeblhaaNodI
import Derived.Test.YtgffeefipeblhaaSm
namespace Go.Proofs.Ytgffeefipeblhaa
open Go.ChangeShapes Go.WideShapes Go.ChangeAt Go.RowKit


set_option maxHeartbeats 2000000 in
set_option maxRecDepth 100000 in
theorem nl_stale (dim : Int) (a : Option Addr) (n c : Nat) (ls : List Ly) (ep : Int) (pa : Option Addr) (pn pc : Nat) (h : List (List Int)) (me : Int) (x0 x1 x2 x3 x4 x5 x6 x7 x8 x9 : Int) (xa : Option Addr) (xn xc : Nat) (v : List Int) (w : World)
    (hm : lysS.rep w everywhere [.slice a n c] ls) (hp : matS.rep w everywhere [.slice pa pn pc] h) (hv : rowS.rep w everywhere [.slice xa xn xc] v) :
    Calls Try.prog 5 #[.agg #[.int .i64 dim, .slice a n c], .agg #[.int .i64 ep, .slice pa pn pc], .int .i64 me, .agg #[.int .i64 x0, .int .i64 x1, .int .i64 x2, .int .i64 x3, .int .i64 x4, .int .i64 x5, .int .i64 x6, .int .i64 x7, .int .i64 x8, .int .i64 x9, .slice xa xn xc]] w fun e w' => e = .returned (.bool true) ∧ Below w.heap.size w w' := by
  obtain ⟨W, hW⟩ : ∃ W, W = ((w.alloc (.cells #[.int .i64 dim, .slice a n c] 24)).alloc (.cells #[.int .i64 ep, .slice pa pn pc] 27)).alloc (.cells #[.int .i64 x0, .int .i64 x1, .int .i64 x2, .int .i64 x3, .int .i64 x4, .int .i64 x5, .int .i64 x6, .int .i64 x7, .int .i64 x8, .int .i64 x9, .slice xa xn xc] 31) := ⟨_, rfl⟩
  obtain ⟨hB, km, kp, kx, hsz⟩ := boxes3 hW
  have hm1 := Shape.below hm hB
  have hp1 := Shape.below hp hB
  have hv1 := Shape.below hv hB
  have hln := (sliceS_len hm).1
  have HW : Hid (W = ((w.alloc (.cells #[.int .i64 dim, .slice a n c] 24)).alloc (.cells #[.int .i64 ep, .slice pa pn pc] 27)).alloc (.cells #[.int .i64 x0, .int .i64 x1, .int .i64 x2, .int .i64 x3, .int .i64 x4, .int .i64 x5, .int .i64 x6, .int .i64 x7, .int .i64 x8, .int .i64 x9, .slice xa xn xc] 31)) := hW
  have HSZ : Hid (W.heap.size = w.heap.size + 3) := hsz
  clear hm hp hv hW hsz
  go_enter Try.func5, Try.ntmps5
  go_upto_region 1 with fail
  rw [← HW.out]
  clear HW
  have m0 := km.cell 0 rfl
  have m1 := km.cell 1 rfl
  go_wp2_with fail
  refine (msmall a n c ls dim W hm1).mono ?_
  rintro e u1 ⟨hs1, hb1⟩
  have hB1 := bel_then hB hb1
  by_cases hS : Md.Small ls
  case neg =>
    rw [hs1.not hS]
    clear hs1 hS m0 m1 km kp kx
    go_wp2_with fail
    refine (nawake _).mono ?_
    rintro e u9 ⟨rfl, hb9⟩
    go_wp2
    go_ret
    exact ⟨rfl, bel_then hB1 hb9⟩
  rw [hs1.is hS]
  have hn9 : n ≤ 1000 := by have := hS.1; omega
  have HS : Hid (Md.Small ls) := hS
  have km1 := km.keep hb1
  have kp1 := kp.keep hb1
  have kx1 := kx.keep hb1
  have hm2 := Shape.below hm1 hb1
  have hp2 := Shape.below hp1 hb1
  have hv2 := Shape.below hv1 hb1
  have HZ1 : Hid (w.heap.size + 3 ≤ u1.heap.size) := by show _ ≤ _; have := HSZ.out; have := hb1.size; omega
  clear hs1 hS m0 m1 km kp kx hm1 hp1 hv1 hB hb1 HSZ hln
  have p1 := kp1.cell 1 rfl
  go_wp2_with fail
  refine (small pa pn pc h everywhere u1 hp2).mono ?_
  rintro e u2 ⟨hs2, hww⟩
  replace hww := hww.symm
  subst hww
  by_cases hT : Mx.Small h
  case neg =>
    rw [hs2.not hT]
    clear hs2 hT p1 km1 kp1 kx1
    go_wp2_with fail
    refine (nawake _).mono ?_
    rintro e u9 ⟨rfl, hb9⟩
    go_wp2
    go_ret
    exact ⟨rfl, bel_then hB1 hb9⟩
  rw [hs2.is hT]
  have HT : Hid (Mx.Small h) := hT
  clear hs2 hT p1
  have x10 := kx1.cell 10 rfl
  by_cases hx : 30 < xn
  case pos =>
    have hxi : (30 : Int) < (xn : Int) := by omega
    clear km1 kp1
    go_wp2_with fail
    refine (nawake _).mono ?_
    rintro e u9 ⟨rfl, hb9⟩
    go_wp2
    go_ret
    exact ⟨rfl, bel_then hB1 hb9⟩
  have hxi : ¬ (30 : Int) < (xn : Int) := by omega
  have x9c := kx1.cell 9 rfl
  have p0 := kp1.cell 0 rfl
  by_cases he : x9 = ep
  case pos =>
    have q : (x9 == ep) = true := by rw [beq_iff_eq]; exact he
    clear he km1
    go_wp2_with fail
    refine (nawake _).mono ?_
    rintro e u9 ⟨rfl, hb9⟩
    go_wp2
    go_ret
    exact ⟨rfl, bel_then hB1 hb9⟩
  have q : (x9 == ep) = false := by rw [beq_eq_false_iff_ne]; exact he
  have HE : Hid (¬ x9 = ep) := he
  have HWI : Hid (∀ u, lysS.rep u everywhere [.slice a n c] ls → matS.rep u everywhere [.slice pa pn pc] h → rowS.rep u everywhere [.slice xa xn xc] v → WorkIn (fun _ => False) u a n c ls pa pn pc h none 0 0 [] xa xn xc v) := fun u h1 h2 h3 => ⟨h1, hn9, fun l hl => Md.small_lsized (HS.out.2 l hl), h2, Ex.small_sized HT.out, rep_none _ _ _, fun b hb => hb.elim, Dx.short_nil, h3, by omega⟩
  clear he x10 x9c p0
  have c0 := kx1.cell 0 rfl
  have c1 := kx1.cell 1 rfl
  have c2 := kx1.cell 2 rfl
  have c3 := kx1.cell 3 rfl
  have c4 := kx1.cell 4 rfl
  have c5 := kx1.cell 5 rfl
  have c6 := kx1.cell 6 rfl
  have c7 := kx1.cell 7 rfl
  have c8 := kx1.cell 8 rfl
  have c9 := kx1.cell 9 rfl
  have c10 := kx1.cell 10 rfl
  have m0 := km1.cell 0 rfl
  have m1 := km1.cell 1 rfl
  have p0 := kp1.cell 0 rfl
  have p1 := kp1.cell 1 rfl
  by_cases hf : Nd.Fits dim ls ep h me ⟨x0, x1, x2, x3, x4, x5, x6, x7, x8, x9, v⟩
  case neg =>
    go_wp2_with fail
    refine (nwork_no (P := fun _ => False) dim a n c ls ep pa pn pc h me none 0 0 [] x0 x1 x2 x3 x4 x5 x6 x7 x8 x9 xa xn xc v u1 (HWI.out u1 hm2 hp2 hv2) hf).mono ?_
    rintro e u3 ⟨hb3, al, cl, rfl, hr3⟩
    have hbb := bel_then hb3 (new_bel u3 (.cells #[.int .i64 0, .int .i64 0, .int .i64 0, .int .i64 0, .int .i64 0, .int .i64 0, .int .i64 0, .int .i64 0, .int .i64 0, .int .i64 0, .slice none 0 0] 31))
    have km4 := km1.keep hbb
    have kp4 := kp1.keep hbb
    have kx4 := kx1.keep hbb
    have hm4 := Shape.below hm2 hbb
    have hp4 := Shape.below hp2 hbb
    have hv4 := Shape.below hv2 hbb
    have hB4 := bel_then hB1 hbb
    have kb := Box.new u3 31 #[.int .i64 0, .int .i64 0, .int .i64 0, .int .i64 0, .int .i64 0, .int .i64 0, .int .i64 0, .int .i64 0, .int .i64 0, .int .i64 0, .slice none 0 0]
    have HZ3 : Hid (w.heap.size + 3 ≤ u3.heap.size) := Nat.le_trans HZ1.out hb3.size
    have hsV : (u3.alloc (.cells #[.int .i64 0, .int .i64 0, .int .i64 0, .int .i64 0, .int .i64 0, .int .i64 0, .int .i64 0, .int .i64 0, .int .i64 0, .int .i64 0, .slice none 0 0] 31)).heap.size = u3.heap.size + 1 := by simp
    clear hr3 c0 c1 c2 c3 c4 c5 c6 c7 c8 c9 c10 m0 m1 p0 p1 km1 kp1 kx1 hm2 hp2 hv2 hB1 hb3 hbb
    go_upto_region 4 with fail
    generalize World.alloc u3 _ = V at *
    have hgV : w.heap.size + 3 < V.heap.size := by have := HZ3.out; omega
    have c0 := kx4.cell 0 rfl
    have c1 := kx4.cell 1 rfl
    have c2 := kx4.cell 2 rfl
    have c3 := kx4.cell 3 rfl
    have c4 := kx4.cell 4 rfl
    have c5 := kx4.cell 5 rfl
    have c6 := kx4.cell 6 rfl
    have c7 := kx4.cell 7 rfl
    have c8 := kx4.cell 8 rfl
    have c9 := kx4.cell 9 rfl
    have c10 := kx4.cell 10 rfl
    have hbo := new_bel V (.cells #[.int .i64 2, .int .i64 x1, .int .i64 x2, .int .i64 x3, .int .i64 x4, .int .i64 x5, .int .i64 x6, .int .i64 x7, .int .i64 x8, .int .i64 x9, .slice xa xn xc] 31)
    have ko := Box.new V 31 #[.int .i64 2, .int .i64 x1, .int .i64 x2, .int .i64 x3, .int .i64 x4, .int .i64 x5, .int .i64 x6, .int .i64 x7, .int .i64 x8, .int .i64 x9, .slice xa xn xc]
    rw [hsV] at ko
    have km5 := km4.keep hbo
    have kp5 := kp4.keep hbo
    have kx5 := kx4.keep hbo
    have kb5 := kb.keep hbo
    have hm5 := Shape.below hm4 hbo
    have hp5 := Shape.below hp4 hbo
    have hv5 := Shape.below hv4 hbo
    have hB5 := bel_then hB4 hbo
    clear hbo km4 kp4 kx4 kb hm4 hp4 hv4 hB4
    go_upto_region 6 with fail
    clear c0 c1 c2 c3 c4 c5 c6 c7 c8 c9 c10
    generalize World.alloc V _ = V5 at *
    have c0 := ko.cell 0 rfl
    have c1 := ko.cell 1 rfl
    have c2 := ko.cell 2 rfl
    have c3 := ko.cell 3 rfl
    have c4 := ko.cell 4 rfl
    have c5 := ko.cell 5 rfl
    have c6 := ko.cell 6 rfl
    have c7 := ko.cell 7 rfl
    have c8 := ko.cell 8 rfl
    have c9 := ko.cell 9 rfl
    have c10 := ko.cell 10 rfl
    have m0 := km5.cell 0 rfl
    have m1 := km5.cell 1 rfl
    have p0 := kp5.cell 0 rfl
    have p1 := kp5.cell 1 rfl
    go_wp2_with fail
    refine (nwork_no (P := fun _ => False) dim a n c ls ep pa pn pc h me none 0 0 [] 2 x1 x2 x3 x4 x5 x6 x7 x8 x9 xa xn xc v V5 (HWI.out V5 (Shape.any hm5) (Shape.any hp5) (Shape.any hv5)) (fun h9 => absurd (show (2 : Int) = 1 from h9.2.2.2.1) (by decide))).mono ?_
    rintro e u6 ⟨hb6, ak, ck, rfl, hr6⟩
    have hbb := bel_then hb6 (new_bel u6 (.cells #[.int .i64 0, .int .i64 0, .int .i64 0, .int .i64 0, .int .i64 0, .int .i64 0, .int .i64 0, .int .i64 0, .int .i64 0, .int .i64 0, .slice none 0 0] 31))
    have kx7 := kx5.keep hbb
    have kp7 := kp5.keep hbb
    have kb7 := kb5.keep hbb
    have hB7 := bel_then hB5 hbb
    clear hr6 c0 c1 c2 c3 c4 c5 c6 c7 c8 c9 c10 m0 m1 p0 p1 km5 kp5 kx5 kb5 ko hm5 hp5 hv5 hB5 hb6 hbb
    go_upto_region 7 with fail
    generalize World.alloc u6 _ = V7 at *
    have b0 := kb7.cell 0 rfl
    have b2 := kb7.cell 2 rfl
    have b3 := kb7.cell 3 rfl
    have b9 := kb7.cell 9 rfl
    have b10 := kb7.cell 10 rfl
    have p0 := kp7.cell 0 rfl
    have x1c := kx7.cell 1 rfl
    have x3c := kx7.cell 3 rfl
    go_wp2_with fail
    refine (nawake _).mono ?_
    rintro e u9 ⟨rfl, hb9⟩
    go_wp2
    go_ret
    exact ⟨rfl, bel_then hB7 hb9⟩
  go_wp2_with fail
  refine (nwork_stale (P := fun _ => False) dim a n c ls ep pa pn pc h me none 0 0 [] x0 x1 x2 x3 x4 x5 x6 x7 x8 x9 xa xn xc v u1 (HWI.out u1 hm2 hp2 hv2) hf (fun h9 => HE.out h9.1)).mono ?_
  rintro e u3 ⟨hb3, al, cl, rfl, hr3⟩
  have hbb := bel_then hb3 (new_bel u3 (.cells #[.int .i64 3, .int .i64 me, .int .i64 x1, .int .i64 x3, .int .i64 x4, .int .i64 x5, .int .i64 x6, .int .i64 x7, .int .i64 x8, .int .i64 ep, .slice none 0 0] 31))
  have km4 := km1.keep hbb
  have kp4 := kp1.keep hbb
  have kx4 := kx1.keep hbb
  have hm4 := Shape.below hm2 hbb
  have hp4 := Shape.below hp2 hbb
  have hv4 := Shape.below hv2 hbb
  have hB4 := bel_then hB1 hbb
  have kb := Box.new u3 31 #[.int .i64 3, .int .i64 me, .int .i64 x1, .int .i64 x3, .int .i64 x4, .int .i64 x5, .int .i64 x6, .int .i64 x7, .int .i64 x8, .int .i64 ep, .slice none 0 0]
  have HZ3 : Hid (w.heap.size + 3 ≤ u3.heap.size) := Nat.le_trans HZ1.out hb3.size
  have hsV : (u3.alloc (.cells #[.int .i64 3, .int .i64 me, .int .i64 x1, .int .i64 x3, .int .i64 x4, .int .i64 x5, .int .i64 x6, .int .i64 x7, .int .i64 x8, .int .i64 ep, .slice none 0 0] 31)).heap.size = u3.heap.size + 1 := by simp
  clear hr3 c0 c1 c2 c3 c4 c5 c6 c7 c8 c9 c10 m0 m1 p0 p1 km1 kp1 kx1 hm2 hp2 hv2 hB1 hb3 hbb
  go_upto_region 4 with fail
  generalize World.alloc u3 _ = V at *
  have hgV : w.heap.size + 3 < V.heap.size := by have := HZ3.out; omega
  have c0 := kx4.cell 0 rfl
  have c1 := kx4.cell 1 rfl
  have c2 := kx4.cell 2 rfl
  have c3 := kx4.cell 3 rfl
  have c4 := kx4.cell 4 rfl
  have c5 := kx4.cell 5 rfl
  have c6 := kx4.cell 6 rfl
  have c7 := kx4.cell 7 rfl
  have c8 := kx4.cell 8 rfl
  have c9 := kx4.cell 9 rfl
  have c10 := kx4.cell 10 rfl
  have hbo := new_bel V (.cells #[.int .i64 2, .int .i64 x1, .int .i64 x2, .int .i64 x3, .int .i64 x4, .int .i64 x5, .int .i64 x6, .int .i64 x7, .int .i64 x8, .int .i64 x9, .slice xa xn xc] 31)
  have ko := Box.new V 31 #[.int .i64 2, .int .i64 x1, .int .i64 x2, .int .i64 x3, .int .i64 x4, .int .i64 x5, .int .i64 x6, .int .i64 x7, .int .i64 x8, .int .i64 x9, .slice xa xn xc]
  rw [hsV] at ko
  have km5 := km4.keep hbo
  have kp5 := kp4.keep hbo
  have kx5 := kx4.keep hbo
  have kb5 := kb.keep hbo
  have hm5 := Shape.below hm4 hbo
  have hp5 := Shape.below hp4 hbo
  have hv5 := Shape.below hv4 hbo
  have hB5 := bel_then hB4 hbo
  clear hbo km4 kp4 kx4 kb hm4 hp4 hv4 hB4
  go_upto_region 6 with fail
  clear c0 c1 c2 c3 c4 c5 c6 c7 c8 c9 c10
  generalize World.alloc V _ = V5 at *
  have c0 := ko.cell 0 rfl
  have c1 := ko.cell 1 rfl
  have c2 := ko.cell 2 rfl
  have c3 := ko.cell 3 rfl
  have c4 := ko.cell 4 rfl
  have c5 := ko.cell 5 rfl
  have c6 := ko.cell 6 rfl
  have c7 := ko.cell 7 rfl
  have c8 := ko.cell 8 rfl
  have c9 := ko.cell 9 rfl
  have c10 := ko.cell 10 rfl
  have m0 := km5.cell 0 rfl
  have m1 := km5.cell 1 rfl
  have p0 := kp5.cell 0 rfl
  have p1 := kp5.cell 1 rfl
  go_wp2_with fail
  refine (nwork_no (P := fun _ => False) dim a n c ls ep pa pn pc h me none 0 0 [] 2 x1 x2 x3 x4 x5 x6 x7 x8 x9 xa xn xc v V5 (HWI.out V5 (Shape.any hm5) (Shape.any hp5) (Shape.any hv5)) (fun h9 => absurd (show (2 : Int) = 1 from h9.2.2.2.1) (by decide))).mono ?_
  rintro e u6 ⟨hb6, ak, ck, rfl, hr6⟩
  have hbb := bel_then hb6 (new_bel u6 (.cells #[.int .i64 0, .int .i64 0, .int .i64 0, .int .i64 0, .int .i64 0, .int .i64 0, .int .i64 0, .int .i64 0, .int .i64 0, .int .i64 0, .slice none 0 0] 31))
  have kx7 := kx5.keep hbb
  have kp7 := kp5.keep hbb
  have kb7 := kb5.keep hbb
  have hB7 := bel_then hB5 hbb
  clear hr6 c0 c1 c2 c3 c4 c5 c6 c7 c8 c9 c10 m0 m1 p0 p1 km5 kp5 kx5 kb5 ko hm5 hp5 hv5 hB5 hb6 hbb
  go_upto_region 7 with fail
  generalize World.alloc u6 _ = V7 at *
  have b0 := kb7.cell 0 rfl
  have b2 := kb7.cell 2 rfl
  have b3 := kb7.cell 3 rfl
  have b9 := kb7.cell 9 rfl
  have b10 := kb7.cell 10 rfl
  have p0 := kp7.cell 0 rfl
  have x1c := kx7.cell 1 rfl
  have x3c := kx7.cell 3 rfl
  go_wp2_with fail
  refine (nawake _).mono ?_
  rintro e u9 ⟨rfl, hb9⟩
  go_wp2
  go_ret
  exact ⟨rfl, bel_then hB7 hb9⟩

end Go.Proofs.Ytgffeefipeblhaa
