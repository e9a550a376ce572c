/- NodeOnce with letters. -/
import Derived.Test.YtgffeefipeblhaaNodH
import Derived.Test.YtgffeefipeblhaaNodI
import Derived.Test.YtgffeefipeblhaaSm
import Derived.Test.YtgffeefipeblhaaWireF
namespace Go.Proofs.Ytgffeefipeblhaa
open Go.ChangeShapes Go.WideShapes Go.ChangeAt Go.RowKit

namespace Nd
variable {dim : Int} {ms : List Ly} {e : Int} {h : List (List Int)} {node : Int} {l L L2 : List En} {a m m2 : Wx.Msg} {b b2 : Bool}
/-- Asked once more with another Vec. -/
theorem tells_again {o : List Int} (h1 : Tells dim ms e h node [] a L m b) (h2 : Tells dim ms e h node L { a with vec := o } L2 m2 b2) :
    (L.length ≤ 1 ∧ (b = false ∨ m.kind ≠ 2 ∨ b2 = false)) ∨ (b = true ∧ m.kind = 2 ∧ b2 = true ∧ L.length = 1 ∧ L2.length = 1 ∧ m = m2) := by
  rcases h1 with ⟨_, rfl, _, rfl⟩ | ⟨_, _, rfl, rfl, rfl⟩ | ⟨hf, hh, y, hw, rfl, rfl⟩
  · exact .inl ⟨by simp, .inl rfl⟩
  · exact .inl ⟨by simp, .inr (.inl (by show (3 : Int) ≠ 2; decide))⟩
  · rcases hw with ⟨hg, rfl⟩ | ⟨_, rfl, rfl⟩
    · cases hg
    · rcases h2 with ⟨_, rfl, _, rfl⟩ | ⟨_, hn, _⟩ | ⟨_, _, y2, hw2, rfl, rfl⟩
      · exact .inl ⟨by simp, .inr (.inr rfl)⟩
      · exact absurd hh hn
      · have hk : got ([] ++ [en (keyOf a) (Md.ans (lyOf ms a) a.vec a.expert)]) (keyOf a) = some (Md.ans (lyOf ms a) a.vec a.expert) := by
          unfold got
          rw [List.nil_append, List.find?_cons_of_pos (by simp [en])]
          rfl
        rcases hw2 with ⟨hg2, rfl⟩ | ⟨hg2, _⟩
        · have hk2 : got ([] ++ [en (keyOf a) (Md.ans (lyOf ms a) a.vec a.expert)]) (keyOf a) = some y2 := hg2
          rw [hk] at hk2
          cases hk2
          exact .inr ⟨rfl, rfl, rfl, rfl, rfl, rfl⟩
        · have hk2 : got ([] ++ [en (keyOf a) (Md.ans (lyOf ms a) a.vec a.expert)]) (keyOf a) = none := hg2
          rw [hk] at hk2
          cases hk2
/-- What is told can be gone through. -/
theorem tells_short (h1 : Tells dim ms e h node l a L m b) (hl : l.length < 1000) (hs : Dx.Short l) : Dx.Short L ∧ L.length ≤ l.length + 1 ∧ m.vec.length ≤ 1000 := by
  rcases h1 with ⟨_, rfl, rfl, rfl⟩ | ⟨_, _, rfl, rfl, rfl⟩ | ⟨hf, hh, y, hw, rfl, rfl⟩
  · exact ⟨hs, by omega, by show 0 ≤ 1000; omega⟩
  · exact ⟨hs, by omega, by show 0 ≤ 1000; omega⟩
  · rcases hw with ⟨hg, rfl⟩ | ⟨_, rfl, rfl⟩
    · obtain ⟨x, hx, _, hy⟩ := got_mem hg
      exact ⟨hs, by omega, by show y.length ≤ 1000; rw [← hy]; exact hs.2 x hx⟩
    · have hv : (Md.ans (lyOf ms a) a.vec a.expert).length ≤ 1000 := by
        have h1 := Md.ans_len hf.layer.2 hf.vec.1 hf.low.2.1 hf.2.2.2.2.2.2.1
        have h2 := hf.2.2.1.2.2.2.1
        omega
      exact ⟨hs.add hl hv, by simp, hv⟩
end Nd


set_option maxHeartbeats 4000000 in
set_option maxRecDepth 100000 in
theorem nl_once (dim : Int) (a : Option Addr) (n c : Nat) (ls : List Ly) (ep : Int) (pa : Option Addr) (pn pc : Nat) (h : List (List Int)) (me : Int) (x0 x1 x2 x3 x4 x5 x6 x7 x8 x9 : Int) (xa : Option Addr) (xn xc : Nat) (v : List Int) (oa : Option Addr) (on oc : Nat) (o : List Int) (w : World)
    (hm : lysS.rep w everywhere [.slice a n c] ls) (hp : matS.rep w everywhere [.slice pa pn pc] h) (hv : rowS.rep w everywhere [.slice xa xn xc] v) (ho : rowS.rep w everywhere [.slice oa on oc] o) :
    Calls Try.prog 4 #[.agg #[.int .i64 dim, .slice a n c], .agg #[.int .i64 ep, .slice pa pn pc], .int .i64 me, .agg #[.int .i64 x0, .int .i64 x1, .int .i64 x2, .int .i64 x3, .int .i64 x4, .int .i64 x5, .int .i64 x6, .int .i64 x7, .int .i64 x8, .int .i64 x9, .slice xa xn xc], .slice oa on oc] w fun e w' => e = .returned (.bool true) ∧ Below w.heap.size w w' := by
  have HO : Hid (rowS.rep w everywhere [.slice oa on oc] o) := ho
  clear ho
  obtain ⟨W, hW⟩ : ∃ W, W = ((w.alloc (.cells #[.int .i64 dim, .slice a n c] 24)).alloc (.cells #[.int .i64 ep, .slice pa pn pc] 27)).alloc (.cells #[.int .i64 x0, .int .i64 x1, .int .i64 x2, .int .i64 x3, .int .i64 x4, .int .i64 x5, .int .i64 x6, .int .i64 x7, .int .i64 x8, .int .i64 x9, .slice xa xn xc] 31) := ⟨_, rfl⟩
  obtain ⟨hB, km, kp, kx, hsz⟩ := boxes3 hW
  have hm1 := Shape.below hm hB
  have hp1 := Shape.below hp hB
  have hv1 := Shape.below hv hB
  have hln := (sliceS_len hm).1
  have HW : Hid (W = ((w.alloc (.cells #[.int .i64 dim, .slice a n c] 24)).alloc (.cells #[.int .i64 ep, .slice pa pn pc] 27)).alloc (.cells #[.int .i64 x0, .int .i64 x1, .int .i64 x2, .int .i64 x3, .int .i64 x4, .int .i64 x5, .int .i64 x6, .int .i64 x7, .int .i64 x8, .int .i64 x9, .slice xa xn xc] 31)) := hW
  have HSZ : Hid (W.heap.size = w.heap.size + 3) := hsz
  clear hm hp hv hW hsz
  go_enter Try.func4, Try.ntmps4
  go_upto_region 1 with fail
  rw [← HW.out]
  clear HW
  have m0 := km.cell 0 rfl
  have m1 := km.cell 1 rfl
  go_wp2_with fail
  refine (msmall a n c ls dim W hm1).mono ?_
  rintro e u1 ⟨hs1, hb1⟩
  have hB1 := bel_then hB hb1
  by_cases hS : Md.Small ls
  case neg =>
    rw [hs1.not hS]
    clear hs1 hS m0 m1 km kp kx
    go_wp2_with fail
    refine (nawake _).mono ?_
    rintro e u9 ⟨rfl, hb9⟩
    go_wp2
    go_ret
    exact ⟨rfl, bel_then hB1 hb9⟩
  rw [hs1.is hS]
  have hn9 : n ≤ 1000 := by have := hS.1; omega
  have HS : Hid (Md.Small ls) := hS
  have km1 := km.keep hb1
  have kp1 := kp.keep hb1
  have kx1 := kx.keep hb1
  have hm2 := Shape.below hm1 hb1
  have hp2 := Shape.below hp1 hb1
  have hv2 := Shape.below hv1 hb1
  have HZ1 : Hid (w.heap.size + 3 ≤ u1.heap.size) := by show _ ≤ _; have := HSZ.out; have := hb1.size; omega
  clear hs1 hS m0 m1 km kp kx hm1 hp1 hv1 hB hb1 HSZ hln
  have p1 := kp1.cell 1 rfl
  go_wp2_with fail
  refine (small pa pn pc h everywhere u1 hp2).mono ?_
  rintro e u2 ⟨hs2, hww⟩
  replace hww := hww.symm
  subst hww
  by_cases hT : Mx.Small h
  case neg =>
    rw [hs2.not hT]
    clear hs2 hT p1 km1 kp1 kx1
    go_wp2_with fail
    refine (nawake _).mono ?_
    rintro e u9 ⟨rfl, hb9⟩
    go_wp2
    go_ret
    exact ⟨rfl, bel_then hB1 hb9⟩
  rw [hs2.is hT]
  have HT : Hid (Mx.Small h) := hT
  clear hs2 hT p1
  have x10 := kx1.cell 10 rfl
  by_cases hx : 30 < xn
  case pos =>
    have hxi : (30 : Int) < (xn : Int) := by omega
    clear km1 kp1
    go_wp2_with fail
    refine (nawake _).mono ?_
    rintro e u9 ⟨rfl, hb9⟩
    go_wp2
    go_ret
    exact ⟨rfl, bel_then hB1 hb9⟩
  have hxi : ¬ (30 : Int) < (xn : Int) := by omega
  by_cases hy : 30 < on
  case pos =>
    have hyi : (30 : Int) < (on : Int) := by omega
    clear km1 kp1
    go_wp2_with fail
    refine (nawake _).mono ?_
    rintro e u9 ⟨rfl, hb9⟩
    go_wp2
    go_ret
    exact ⟨rfl, bel_then hB1 hb9⟩
  have hyi : ¬ (30 : Int) < (on : Int) := by omega
  have HWI : Hid (∀ u, lysS.rep u everywhere [.slice a n c] ls → matS.rep u everywhere [.slice pa pn pc] h → rowS.rep u everywhere [.slice xa xn xc] v → WorkIn (fun _ => False) u a n c ls pa pn pc h none 0 0 [] xa xn xc v) := fun u h1 h2 h3 => ⟨h1, hn9, fun l hl => Md.small_lsized (HS.out.2 l hl), h2, Ex.small_sized HT.out, rep_none _ _ _, fun b hb => hb.elim, Dx.short_nil, h3, by omega⟩
  have ho2 := Shape.below HO.out hB1
  obtain ⟨L, m, bb, hT1⟩ := Nd.tells_there dim ls ep h me [] ⟨x0, x1, x2, x3, x4, x5, x6, x7, x8, x9, v⟩
  obtain ⟨hsh, hln1, hvl⟩ := Nd.tells_short hT1 (by decide) Dx.short_nil
  obtain ⟨y0, y1, y2, y3, y4, y5, y6, y7, y8, y9, yl⟩ := m
  obtain ⟨L2, m2, b2, hT2⟩ := Nd.tells_there dim ls ep h me L ⟨x0, x1, x2, x3, x4, x5, x6, x7, x8, x9, o⟩
  have hag := Nd.tells_again (o := o) hT1 hT2
  obtain ⟨_, _, hvl2⟩ := Nd.tells_short hT2 (by have h9 : L.length ≤ 0 + 1 := hln1; omega) hsh
  obtain ⟨z0, z1, z2, z3, z4, z5, z6, z7, z8, z9, zl⟩ := m2
  obtain ⟨nL, hnL⟩ : ∃ k, L.length = k := ⟨_, rfl⟩
  obtain ⟨nL2, hnL2⟩ : ∃ k, L2.length = k := ⟨_, rfl⟩
  obtain ⟨yn, hyn⟩ : ∃ k, yl.length = k := ⟨_, rfl⟩
  obtain ⟨zn, hzn⟩ : ∃ k, zl.length = k := ⟨_, rfl⟩
  have HC1 : Hid (Calls _ _ _ _ _) := nwork (P := fun _ => False) dim a n c ls ep pa pn pc h me none 0 0 [] x0 x1 x2 x3 x4 x5 x6 x7 x8 x9 xa xn xc v u1 (HWI.out u1 hm2 hp2 hv2) L y0 y1 y2 y3 y4 y5 y6 y7 y8 y9 yl bb hT1 nL hnL yn hyn
  have HT2 : Hid (Nd.Tells dim ls ep h me L ⟨x0, x1, x2, x3, x4, x5, x6, x7, x8, x9, o⟩ L2 ⟨z0, z1, z2, z3, z4, z5, z6, z7, z8, z9, zl⟩ b2) := hT2
  have HSH : Hid (Dx.Short L) := hsh
  have HLEN : Hid (L.length = nL ∧ L2.length = nL2 ∧ yl.length = yn ∧ zl.length = zn) := ⟨hnL, hnL2, hyn, hzn⟩
  have HAG : Hid ((nL ≤ 1 ∧ (bb = false ∨ y0 ≠ 2 ∨ b2 = false)) ∨ (bb = true ∧ y0 = 2 ∧ b2 = true ∧ nL = 1 ∧ nL2 = 1 ∧ (⟨y0, y1, y2, y3, y4, y5, y6, y7, y8, y9, yl⟩ : Wx.Msg) = ⟨z0, z1, z2, z3, z4, z5, z6, z7, z8, z9, zl⟩)) := by
    show _ ∨ _
    rw [hnL, hnL2] at hag
    exact hag
  have HYZ : Hid (yn ≤ 1000 ∧ zn ≤ 1000) := by
    have h1 : yl.length ≤ 1000 := hvl
    have h2 : zl.length ≤ 1000 := hvl2
    exact ⟨by omega, by omega⟩
  clear hT1 hsh hln1 hvl hT2 hag hvl2 hnL hnL2 hyn hzn x10
  have c0 := kx1.cell 0 rfl
  have c1 := kx1.cell 1 rfl
  have c2 := kx1.cell 2 rfl
  have c3 := kx1.cell 3 rfl
  have c4 := kx1.cell 4 rfl
  have c5 := kx1.cell 5 rfl
  have c6 := kx1.cell 6 rfl
  have c7 := kx1.cell 7 rfl
  have c8 := kx1.cell 8 rfl
  have c9 := kx1.cell 9 rfl
  have c10 := kx1.cell 10 rfl
  have m0 := km1.cell 0 rfl
  have m1 := km1.cell 1 rfl
  have p0 := kp1.cell 0 rfl
  have p1 := kp1.cell 1 rfl
  go_wp2_with fail
  refine HC1.out.mono ?_
  rintro e u3 ⟨hb3, al, cl, ya, yc, rfl, hr3, hy3⟩
  have hbb := bel_then hb3 (new_bel u3 (.cells #[.int .i64 y0, .int .i64 y1, .int .i64 y2, .int .i64 y3, .int .i64 y4, .int .i64 y5, .int .i64 y6, .int .i64 y7, .int .i64 y8, .int .i64 y9, .slice ya yn yc] 31))
  have km4 := km1.keep hbb
  have kp4 := kp1.keep hbb
  have kx4 := kx1.keep hbb
  have hm4 := Shape.below hm2 hbb
  have hp4 := Shape.below hp2 hbb
  have ho4 := Shape.below ho2 hbb
  have hr4 := Shape.below hr3 (new_bel u3 (.cells #[.int .i64 y0, .int .i64 y1, .int .i64 y2, .int .i64 y3, .int .i64 y4, .int .i64 y5, .int .i64 y6, .int .i64 y7, .int .i64 y8, .int .i64 y9, .slice ya yn yc] 31))
  have hy4 := Shape.below hy3 (new_bel u3 (.cells #[.int .i64 y0, .int .i64 y1, .int .i64 y2, .int .i64 y3, .int .i64 y4, .int .i64 y5, .int .i64 y6, .int .i64 y7, .int .i64 y8, .int .i64 y9, .slice ya yn yc] 31))
  have hB4 := bel_then hB1 hbb
  have kb := Box.new u3 31 #[.int .i64 y0, .int .i64 y1, .int .i64 y2, .int .i64 y3, .int .i64 y4, .int .i64 y5, .int .i64 y6, .int .i64 y7, .int .i64 y8, .int .i64 y9, .slice ya yn yc]
  have HZ3 : Hid (w.heap.size + 3 ≤ u3.heap.size) := Nat.le_trans HZ1.out hb3.size
  have hsV : (u3.alloc (.cells #[.int .i64 y0, .int .i64 y1, .int .i64 y2, .int .i64 y3, .int .i64 y4, .int .i64 y5, .int .i64 y6, .int .i64 y7, .int .i64 y8, .int .i64 y9, .slice ya yn yc] 31)).heap.size = u3.heap.size + 1 := by simp
  clear hr3 hy3 c0 c1 c2 c3 c4 c5 c6 c7 c8 c9 c10 m0 m1 p0 p1 km1 kp1 kx1 hm2 hp2 hv2 ho2 hB1 hb3 hbb HC1
  go_upto_region 4 with fail
  generalize World.alloc u3 _ = V at *
  have c0 := kx4.cell 0 rfl
  have c1 := kx4.cell 1 rfl
  have c2 := kx4.cell 2 rfl
  have c3 := kx4.cell 3 rfl
  have c4 := kx4.cell 4 rfl
  have c5 := kx4.cell 5 rfl
  have c6 := kx4.cell 6 rfl
  have c7 := kx4.cell 7 rfl
  have c8 := kx4.cell 8 rfl
  have c9 := kx4.cell 9 rfl
  have c10 := kx4.cell 10 rfl
  have hbo := new_bel V (.cells #[.int .i64 x0, .int .i64 x1, .int .i64 x2, .int .i64 x3, .int .i64 x4, .int .i64 x5, .int .i64 x6, .int .i64 x7, .int .i64 x8, .int .i64 x9, .slice oa on oc] 31)
  have ko := Box.new V 31 #[.int .i64 x0, .int .i64 x1, .int .i64 x2, .int .i64 x3, .int .i64 x4, .int .i64 x5, .int .i64 x6, .int .i64 x7, .int .i64 x8, .int .i64 x9, .slice oa on oc]
  rw [hsV] at ko
  have km5 := km4.keep hbo
  have kp5 := kp4.keep hbo
  have kb5 := kb.keep hbo
  have hm5 := Shape.below hm4 hbo
  have hp5 := Shape.below hp4 hbo
  have ho5 := Shape.below ho4 hbo
  have hr5 := Shape.below hr4 hbo
  have hy5 := Shape.any (Shape.below hy4 hbo)
  have hB5 := bel_then hB4 hbo
  clear hbo km4 kp4 kx4 kb hm4 hp4 ho4 hr4 hy4 hB4
  go_upto_region 6 with fail
  clear c0 c1 c2 c3 c4 c5 c6 c7 c8 c9 c10
  generalize World.alloc V _ = V5 at *
  have c0 := ko.cell 0 rfl
  have c1 := ko.cell 1 rfl
  have c2 := ko.cell 2 rfl
  have c3 := ko.cell 3 rfl
  have c4 := ko.cell 4 rfl
  have c5 := ko.cell 5 rfl
  have c6 := ko.cell 6 rfl
  have c7 := ko.cell 7 rfl
  have c8 := ko.cell 8 rfl
  have c9 := ko.cell 9 rfl
  have c10 := ko.cell 10 rfl
  have m0 := km5.cell 0 rfl
  have m1 := km5.cell 1 rfl
  have p0 := kp5.cell 0 rfl
  have p1 := kp5.cell 1 rfl
  have HC2 : Hid (Calls _ _ _ _ _) := nwork (P := (· < V5.heap.size)) dim a n c ls ep pa pn pc h me al nL cl L x0 x1 x2 x3 x4 x5 x6 x7 x8 x9 oa on oc o V5 ⟨hm5, hn9, fun l hl => Md.small_lsized (HS.out.2 l hl), hp5, Ex.small_sized HT.out, Shape.low hr5, fun b hb => hb, HSH.out, ho5, by omega⟩ L2 z0 z1 z2 z3 z4 z5 z6 z7 z8 z9 zl b2 HT2.out nL2 HLEN.out.2.1 zn HLEN.out.2.2.2
  go_wp2_with fail
  refine HC2.out.mono ?_
  rintro e u6 ⟨hb6, ak, ck, za, zc, rfl, hr6, hz6⟩
  have hbb := bel_then hb6 (new_bel u6 (.cells #[.int .i64 z0, .int .i64 z1, .int .i64 z2, .int .i64 z3, .int .i64 z4, .int .i64 z5, .int .i64 z6, .int .i64 z7, .int .i64 z8, .int .i64 z9, .slice za zn zc] 31))
  have kb7 := kb5.keep hbb
  have hy7 := Shape.below hy5 hbb
  have hz7 := Shape.any (Shape.below hz6 (new_bel u6 (.cells #[.int .i64 z0, .int .i64 z1, .int .i64 z2, .int .i64 z3, .int .i64 z4, .int .i64 z5, .int .i64 z6, .int .i64 z7, .int .i64 z8, .int .i64 z9, .slice za zn zc] 31)))
  have hB7 := bel_then hB5 hbb
  have kz7 := Box.new u6 31 #[.int .i64 z0, .int .i64 z1, .int .i64 z2, .int .i64 z3, .int .i64 z4, .int .i64 z5, .int .i64 z6, .int .i64 z7, .int .i64 z8, .int .i64 z9, .slice za zn zc]
  clear hr6 hz6 c0 c1 c2 c3 c4 c5 c6 c7 c8 c9 c10 m0 m1 p0 p1 km5 kp5 kb5 ko hm5 hp5 ho5 hr5 hy5 hB5 hb6 hbb HC2
  go_upto_region 7 with fail
  generalize World.alloc u6 _ = V7 at *
  generalize u6.heap.size = gz at *
  have b0 := kb7.cell 0 rfl
  rcases HAG.out with ⟨hle, hway⟩ | ⟨rfl, rfl, rfl, rfl, rfl, hmm⟩
  · have hli : (nL : Int) ≤ 1 := by omega
    rcases hway with rfl | hk | rfl
    · clear hle HAG
      go_wp2_with fail
      refine (nawake _).mono ?_
      rintro e u9 ⟨rfl, hb9⟩
      go_wp2
      go_ret
      exact ⟨rfl, bel_then hB7 hb9⟩
    · have q0 : (y0 != 2) = true := by rw [bne_iff_ne]; exact hk
      have HK : Hid (y0 ≠ 2) := hk
      clear hle HAG hk
      cases bb with
      | false =>
        go_wp2_with fail
        refine (nawake _).mono ?_
        rintro e u9 ⟨rfl, hb9⟩
        go_wp2
        go_ret
        exact ⟨rfl, bel_then hB7 hb9⟩
      | true =>
        go_wp2_with fail
        refine (nawake _).mono ?_
        rintro e u9 ⟨rfl, hb9⟩
        go_wp2
        go_ret
        exact ⟨rfl, bel_then hB7 hb9⟩
    · clear hle HAG
      cases bb with
      | false =>
        go_wp2_with fail
        refine (nawake _).mono ?_
        rintro e u9 ⟨rfl, hb9⟩
        go_wp2
        go_ret
        exact ⟨rfl, bel_then hB7 hb9⟩
      | true =>
        by_cases hk : y0 = 2
        · have q0 : (y0 != 2) = false := by rw [bne_eq_false_iff_eq]; exact hk
          clear hk
          go_wp2_with fail
          refine (nawake _).mono ?_
          rintro e u9 ⟨rfl, hb9⟩
          go_wp2
          go_ret
          exact ⟨rfl, bel_then hB7 hb9⟩
        · have q0 : (y0 != 2) = true := by rw [bne_iff_ne]; exact hk
          clear hk
          go_wp2_with fail
          refine (nawake _).mono ?_
          rintro e u9 ⟨rfl, hb9⟩
          go_wp2
          go_ret
          exact ⟨rfl, bel_then hB7 hb9⟩
  · have HMM : Hid (Alike ⟨2, y1, y2, y3, y4, y5, y6, y7, y8, y9, yl⟩ ⟨z0, z1, z2, z3, z4, z5, z6, z7, z8, z9, zl⟩) := hmm
    have HYZ2 := HYZ.out
    clear hmm HAG
    have b0 := kb7.cell 0 rfl
    have b1 := kb7.cell 1 rfl
    have b2 := kb7.cell 2 rfl
    have b3 := kb7.cell 3 rfl
    have b4 := kb7.cell 4 rfl
    have b5 := kb7.cell 5 rfl
    have b6 := kb7.cell 6 rfl
    have b7 := kb7.cell 7 rfl
    have b8 := kb7.cell 8 rfl
    have b9 := kb7.cell 9 rfl
    have b10 := kb7.cell 10 rfl
    have d0 := kz7.cell 0 rfl
    have d1 := kz7.cell 1 rfl
    have d2 := kz7.cell 2 rfl
    have d3 := kz7.cell 3 rfl
    have d4 := kz7.cell 4 rfl
    have d5 := kz7.cell 5 rfl
    have d6 := kz7.cell 6 rfl
    have d7 := kz7.cell 7 rfl
    have d8 := kz7.cell 8 rfl
    have d9 := kz7.cell 9 rfl
    have d10 := kz7.cell 10 rfl
    go_wp2_with fail
    refine (rsame 2 y1 y2 y3 y4 y5 y6 y7 y8 y9 ya yn yc yl z0 z1 z2 z3 z4 z5 z6 z7 z8 z9 za zn zc zl V7 hy7 hz7 (by omega) (by omega)).mono ?_
    rintro e u8 ⟨hs8, hb8⟩
    rw [hs8.is HMM.out]
    have hB8 := bel_then hB7 hb8
    clear b0 b1 b2 b3 b4 b5 b6 b7 b8 b9 b10 d0 d1 d2 d3 d4 d5 d6 d7 d8 d9 d10 kb7 kz7 hy7 hz7 hb8 hs8
    go_wp2_with fail
    refine (nawake _).mono ?_
    rintro e u9 ⟨rfl, hb9⟩
    go_wp2
    go_ret
    exact ⟨rfl, bel_then hB8 hb9⟩

end Go.Proofs.Ytgffeefipeblhaa
