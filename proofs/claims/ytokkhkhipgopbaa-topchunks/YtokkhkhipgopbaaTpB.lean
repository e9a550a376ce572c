/- TopChunks with letters. -/
import Derived.Test.YtokkhkhipgopbaaTpA
import Derived.Test.YtokkhkhipgopbaaChkL
import Derived.Test.YtokkhkhipgopbaaSm
namespace Go.Proofs.Ytokkhkhipgopbaa
open Go.ChangeShapes Go.WideShapes Go.ChangeAt Go.RowKit

theorem Box.tset1 {u : World} {b : Nat} {t : TypeId} {p0 p1 : Value} (h : Box u b t #[p0, p1]) (v : Value) : Box (u.setCell ⟨b, 1, none⟩ v) b t #[p0, v] := by
  have := h.set 1 v
  simp only [List.setIfInBounds_toArray, List.set_cons_zero, List.set_cons_succ] at this
  exact this
theorem Box.tset1of3 {u : World} {b : Nat} {t : TypeId} {p0 p1 p2 : Value} (h : Box u b t #[p0, p1, p2]) (v : Value) : Box (u.setCell ⟨b, 1, none⟩ v) b t #[p0, v, p2] := by
  have := h.set 1 v
  simp only [List.setIfInBounds_toArray, List.set_cons_zero, List.set_cons_succ] at this
  exact this
theorem Try.infoLy3 : (Try.prog.info? 31).map (fun i => (i.zero, i.size, i.bytes)) = some (some (.agg #[.slice none 0 0, .slice none 0 0, .int .i64 0]), 3, 56) := by kernel_rfl
theorem Try.infoXp2 : (Try.prog.info? 33).map (fun i => (i.zero, i.size, i.bytes)) = some (some (.agg #[.slice none 0 0, .slice none 0 0]), 2, 48) := by kernel_rfl
theorem take_up {α : Type} {l : List α} {k : Nat} (h : k < l.length) {d x : α} (hx : l.getD k d = x) : l.take k ++ [x] = l.take (k + 1) := by
  rw [List.take_succ_eq_append_getElem h, ← hx, List.getD_eq_getElem?_getD, List.getElem?_eq_getElem h]; rfl

set_option maxHeartbeats 1500000 in
set_option maxRecDepth 100000 in
theorem tl_chunks (dim : Int) (a : Option Addr) (n c : Nat) (ls : List Ly) (ta : Option Addr) (tn tc : Nat) (ts : List (List Int)) (sz : Int) (w : World)
    (hm : lysS.rep w everywhere [.slice a n c] ls) (ht : matS.rep w everywhere [.slice ta tn tc] ts) (hsz : 0 ≤ sz ∧ sz ≤ 255) :
    Calls Try.prog 3 #[.agg #[.int .i64 dim, .slice a n c], .slice ta tn tc, .int .u8 sz] w fun e w' => e = .returned (.bool true) ∧ Below w.heap.size w w' := by
  have HX : Hid (lysS.rep w everywhere [.slice a n c] ls) := hm
  have HTS : Hid (matS.rep w everywhere [.slice ta tn tc] ts) := ht
  have HL : Hid (ls.length = n) := (sliceS_len hm).1
  clear hm ht
  obtain ⟨z0, hz0, hz1, hz2⟩ : ∃ z0 : Nat, z0 < 64 ∧ sz.tmod 64 = (z0 : Int) ∧ IntKind.i64.wrap (sz.tmod 64) = (z0 : Int) := by
    refine ⟨(sz % 64).toNat, by omega, ?_, ?_⟩
    · rw [Int.tmod_eq_emod_of_nonneg hsz.1]; omega
    · rw [Int.tmod_eq_emod_of_nonneg hsz.1, IntKind.wrap_i64]; omega
  clear hsz
  have hB := new_bel w (.cells #[.int .i64 dim, .slice a n c] 24)
  have q := Box.new w 24 #[.int .i64 dim, .slice a n c]
  have HC1 : Hid (Calls _ _ _ _ _) := msmall a n c ls dim _ (Shape.below HX.out hB)
  go_enter Try.func3, Try.ntmps3
  go_wp2_with fail
  refine HC1.out.mono ?_
  rintro e u1 ⟨hs, hb1⟩
  have hB1 := bel_then hB hb1
  have q1 := q.keep hb1
  by_cases hS : Md.Small ls
  case neg =>
    rw [hs.not hS]
    clear hs hS HC1 hB q q1 hb1
    go_wp2_with (go_at_call 7; refine (tlives _).mono ?_; rintro e u9 ⟨rfl, hb9⟩)
    go_ret
    exact ⟨rfl, bel_then hB1 hb9⟩
  rw [hs.is hS]
  have HS : Hid (Md.Small ls) := hS
  have h1 := Shape.below HTS.out hB1
  clear hs hS HC1 hB q hb1
  go_wp2_with fail
  refine by_says (small ta tn tc ts everywhere u1 h1) (fun hS => ?_) (fun hS => ?_)
  case refine_2 =>
    clear hS h1 q1
    go_wp2_with (go_at_call 7; refine (tlives _).mono ?_; rintro e u9 ⟨rfl, hb9⟩)
    go_ret
    exact ⟨rfl, bel_then hB1 hb9⟩
  have HST : Hid (Mx.Small ts) := hS
  clear hS h1
  have p0 := q1.cell 0 rfl
  have p1 := q1.cell 1 rfl
  have HC2 : Hid (Calls _ _ _ _ _) := rmright a n c ls dim u1 (Shape.below HX.out hB1) (by have := HS.out.1; have := HL.out; omega) (fun l hl => Md.small_lsized (HS.out.2 l hl))
  go_wp2_with fail
  refine HC2.out.mono ?_
  rintro e u3 ⟨hs, hb3⟩
  have hB3 := bel_then hB1 hb3
  have q3 := q1.keep hb3
  clear HC2 hB1 q1 hb3 p0 p1
  by_cases hR : Md.Right dim ls
  case neg =>
    rw [hs.not hR]
    clear hs hR q3
    go_wp2_with (go_at_call 7; refine (tlives _).mono ?_; rintro e u9 ⟨rfl, hb9⟩)
    go_ret
    exact ⟨rfl, bel_then hB3 hb9⟩
  rw [hs.is hR]
  have HR : Hid (Md.Right dim ls) := hR
  have p0 := q3.cell 0 rfl
  have p1 := q3.cell 1 rfl
  have hn4 : n ≤ 4 := by have := HR.out.2.2.2.1; have := HL.out; omega
  have HD : Hid (dim ≤ 8) := HR.out.2.1
  clear hs hR
  have kM := Box.new u3 24 #[.int .i64 dim, .slice none 0 0]
  have hbM := new_bel u3 (.cells #[.int .i64 dim, .slice none 0 0] 24)
  have HM0 : Hid _ := And.intro kM hbM
  have r1 := (q3.keep hbM).cell 1 rfl
  have hlt3 : w.heap.size < u3.heap.size := q3.lt
  have HB3 : Hid (Below w.heap.size w u3 ∧ Box u3 w.heap.size 24 #[.int .i64 dim, .slice a n c]) := ⟨hB3, q3⟩
  obtain ⟨i0, hi0, hi1, hi2, hi3⟩ := info_parts Try.infoLy3
  obtain ⟨l0, hl0, hl1, hl2, hl3⟩ := info_parts Try.infoXp2
  clear kM hbM q3 hB3
  go_wp2
  go_loopw [44] (fun i wr => ∃ (k : Nat) (va : Option Addr) (vc : Nat), k ≤ n ∧ i = .int .i64 k ∧ Box wr u3.heap.size 24 #[.int .i64 dim, .slice va k vc] ∧ Own (inS lyS (fun b => b < w.heap.size ∨ u3.heap.size + 1 ≤ b)) wr (u3.heap.size + 1) 31 (.slice va k vc) (ls.take k) ∧ Below u3.heap.size u3 wr) (fun i _ => n - (intOf i).toNat)
  case atStart => exact ⟨0, none, 0, Nat.zero_le _, rfl, HM0.out.1, by rw [List.take_zero]; exact Own.nil _ _ _ _, HM0.out.2⟩
  case round =>
    clear HM0 r1 p0 p1
    obtain ⟨k, va, vc, hk, rfl, hM, hown, hbel⟩ := hrel
    obtain ⟨W0, hW0⟩ : ∃ W0, W0 = wr := ⟨_, rfl⟩
    subst hW0
    have hBw := bel_then HB3.out.1 hbel
    have hsz0 := hM.lt
    by_cases hlt : k < n
    · obtain ⟨b1, off, ag, ng, cg, ax, nx, cx, g, xs, cap, rfl, hb, hE, hg, hx, c0, c1, c2⟩ := ly_there HX.out hlt
      have hli : (k : Int) < (n : Int) := by omega
      have hk0 : (0 : Int) ≤ (k : Int) := by omega
      have hkl : k < ls.length := by have := HL.out; omega
      have HLR : Hid (Md.LRight (g, xs, cap, ()) dim) := by show Md.LRight _ _; rw [← hE]; exact HR.out.2.2.2.2 _ (in_of hkl ly0)
      have HLX : Hid (xs.length = nx) := (sliceS_len hx).1
      have hnx : nx ≤ 8 := by have h7 : xs.length ≤ 8 := HLR.out.2.1; have := HLX.out; omega
      have HT1 : Hid (ls.take k ++ [((g, xs, cap, ()) : Ly)] = ls.take (k + 1)) := take_up hkl hE
      have HTL : Hid ((ls.take k).length + 1 = k + 1) := by show _ = _; rw [List.length_take]; omega
      have d0 := (hBw.cell (by exact hb)).trans c0
      have d1 := (hBw.cell (by exact hb)).trans c1
      have d2 := (hBw.cell (by exact hb)).trans c2
      have hbn := bel_two W0 (.cells #[.slice ag ng cg, .slice ax nx cx, .int .i64 cap] 31) (.cells #[.slice ag ng cg, .slice none 0 0, .int .i64 cap] 31)
      have kL : Box ((W0.alloc (.cells #[.slice ag ng cg, .slice ax nx cx, .int .i64 cap] 31)).alloc (.cells #[.slice ag ng cg, .slice none 0 0, .int .i64 cap] 31)) W0.heap.size 31 #[.slice ag ng cg, .slice ax nx cx, .int .i64 cap] := (Box.new W0 _ _).keep (new_bel _ _)
      have kK := Box.new (W0.alloc (.cells #[.slice ag ng cg, .slice ax nx cx, .int .i64 cap] 31)) 31 #[.slice ag ng cg, .slice none 0 0, .int .i64 cap]
      rw [show (W0.alloc (.cells #[.slice ag ng cg, .slice ax nx cx, .int .i64 cap] 31)).heap.size = W0.heap.size + 1 by simp] at kK
      have HKO : Hid (Box W0 u3.heap.size 24 #[.int .i64 dim, .slice va k vc] ∧ Own (inS lyS (fun b => b < w.heap.size ∨ u3.heap.size + 1 ≤ b)) W0 (u3.heap.size + 1) 31 (.slice va k vc) (ls.take k) ∧ Below u3.heap.size u3 W0) := ⟨hM, hown, hbel⟩
      have HG : Hid (matS.rep w everywhere [.slice ag ng cg] g) := hg
      have HXX : Hid (xpsS.rep w everywhere [.slice ax nx cx] xs) := hx
      have HBw : Hid (Below w.heap.size w W0) := hBw
      have HQ0 : Hid (Box W0 w.heap.size 24 #[.int .i64 dim, .slice (some ⟨b1, off, none⟩) n c]) := HB3.out.2.keep hbel
      clear hE hg hx c0 c1 c2 hM hown hbel hBw
      go_upto_region 8 with fail
      clear d0 d1 d2
      generalize ((W0.alloc (.cells #[.slice ag ng cg, .slice ax nx cx, .int .i64 cap] 31)).alloc (.cells #[.slice ag ng cg, .slice none 0 0, .int .i64 cap] 31)) = W1 at *
      have y1 := kL.cell 1 rfl
      have HK0 : Hid (Box W1 (W0.heap.size + 1) 31 #[.slice ag ng cg, .slice none 0 0, .int .i64 cap] ∧ Below W0.heap.size W0 W1) := ⟨kK, hbn⟩
      clear kK hbn kL
      go_wp2
      go_loopw [56] (fun i wr => ∃ (j : Nat) (xa : Option Addr) (xc : Nat), j ≤ nx ∧ i = .int .i64 j ∧ Box wr (W0.heap.size + 1) 31 #[.slice ag ng cg, .slice xa j xc, .int .i64 cap] ∧ Own (inS xpS (fun b => b < w.heap.size ∨ W0.heap.size + 2 ≤ b)) wr (W0.heap.size + 2) 33 (.slice xa j xc) (xs.take j) ∧ Below W0.heap.size W0 wr) (fun i _ => nx - (intOf i).toNat)
      case atStart => exact ⟨0, none, 0, Nat.zero_le _, rfl, HK0.out.1, by rw [List.take_zero]; exact Own.nil _ _ _ _, HK0.out.2⟩
      case round =>
        clear HK0 y1
        obtain ⟨j, xa, xc, hj, rfl, hK, hown, hbel⟩ := hrel
        obtain ⟨W2, hW2⟩ : ∃ W2, W2 = wr := ⟨_, rfl⟩
        subst hW2
        have hBw := bel_then HBw.out hbel
        have hsz2 := hK.lt
        by_cases hjt : j < nx
        · obtain ⟨b2, off2, ai, ni, ci, ao, no, co, mi, mo, rfl, hb2, hE, hi, ho, c0, c1⟩ := xp_there HXX.out hjt
          have hji : (j : Int) < (nx : Int) := by omega
          have hj00 : (0 : Int) ≤ (j : Int) := by omega
          have hjl : j < xs.length := by have := HLX.out; omega
          have hXR : Ex.Right mi mo dim := by have h7 := HLR.out.2.2.2.2.2 _ (in_of hjl xp0); rw [hE] at h7; exact h7
          have HT2 : Hid (xs.take j ++ [((mi, mo, ()) : Xp)] = xs.take (j + 1)) := take_up hjl hE
          have HTL2 : Hid ((xs.take j).length + 1 = j + 1) := by show _ = _; rw [List.length_take]; omega
          have d0 := (hBw.cell (by exact hb2)).trans c0
          have d1 := (hBw.cell (by exact hb2)).trans c1
          have hbn := new_bel W2 (.cells #[.slice ai ni ci, .slice ao no co] 33)
          have kX := Box.new W2 33 #[.slice ai ni ci, .slice ao no co]
          have hEX : Exp (W2.alloc (.cells #[.slice ai ni ci, .slice ao no co] 33)) ai ni ci ao no co mi mo := ⟨Shape.any (Shape.below hi (bel_then hBw hbn)), Shape.any (Shape.below ho (bel_then hBw hbn))⟩
          have hK2 := hK.keep hbn
          have hown2 := hown.keep hbn
          have hq2 := (HQ0.out.keep hbel).keep hbn
          have hbel2 := bel_then hbel hbn
          have hs2 : (W2.alloc (.cells #[.slice ai ni ci, .slice ao no co] 33)).heap.size = W2.heap.size + 1 := by simp
          obtain ⟨s1, s2⟩ := exp_short hXR
          have him := exp_list mi mo dim
          have hip : Ck.imp (⟨(Ck.exp mi mo dim).toArray⟩ : ByteArray).data.toList = ((mi, mo, ()), dim, 0) := by rw [him]; exact Ck.imp_exp hXR
          have HEX : Hid (∀ u, Exp u ai ni ci ao no co mi mo → Calls Try.prog 8 #[.agg #[.slice ai ni ci, .slice ao no co], .int .i64 dim] u fun e w' => e = .returned (.tuple #[.string ⟨(Ck.exp mi mo dim).toArray⟩, .int .i64 0]) ∧ Below u.heap.size u w') := fun u h9 => kexport ai ni ci ao no co mi mo dim u h9 hXR
          obtain ⟨S, hSS⟩ : ∃ S : ByteArray, S = ⟨(Ck.exp mi mo dim).toArray⟩ := ⟨_, rfl⟩
          rw [← hSS] at HEX hip s1 s2
          obtain ⟨nc, hnc⟩ : ∃ nc, Ck.num S.size (1 + z0) = nc := ⟨_, rfl⟩
          have hnc6 : nc ≤ 600 := by have := num_le_size (n := S.size) (z := 1 + z0) (by omega); omega
          have HCU : Hid (∀ u, Calls Try.prog 9 #[.string S, .int .i64 (1 + (z0 : Int))] u fun e w' => Below u.heap.size u w' ∧ ∃ a c, e = .returned (.tuple #[.slice a nc c, .bool true]) ∧ Own strS w' u.heap.size 9 (.slice a nc c) (texts (Ck.cut S.data.toList (1 + z0)))) := fun u => by
            have h9 := kcut S (1 + z0) (by omega) (by omega) (by omega) nc hnc u
            rwa [show ((1 + z0 : Nat) : Int) = 1 + (z0 : Int) by omega] at h9
          have HJ : Hid _ := joined S (z := 1 + z0) (by omega)
          have HJL : Hid _ := joined_len S (z := 1 + z0) (by omega)
          have HIM : Hid (∀ u, Calls _ _ _ _ _) := fun u => kimport_at S (by omega) u mi mo dim 0 hip
          have hS6 : S.size ≤ 600 := s2
          clear hE hi ho c0 c1 hK hown hbel hBw hXR him hip hSS hnc s1 s2 hbn
          go_upto_region 11 with fail
          clear d0 d1
          generalize W2.alloc (.cells #[.slice ai ni ci, .slice ao no co] 33) = W3 at *
          have x0 := kX.cell 0 rfl
          have x1 := kX.cell 1 rfl
          have m0 := hq2.cell 0 rfl
          go_wp2_with fail
          refine (HEX.out W3 hEX).mono ?_
          rintro e u4 ⟨rfl, hb4⟩
          clear x0 x1 m0 hEX HEX kX
          go_wp2_with fail
          refine (HCU.out u4).mono ?_
          rintro e u5 ⟨hb5, a5, c5, rfl, ho5⟩
          have HJ2 : Hid (Calls _ _ _ _ _) := kjoin a5 nc c5 _ everywhere u5 ho5.is (by omega) (by rw [HJL.out]; omega)
          rw [HJ.out] at HJ2
          clear ho5 HCU HJ HJL
          go_wp2_with fail
          refine HJ2.out.mono ?_
          rintro e u6 ⟨rfl, hb6⟩
          clear HJ2
          go_wp2_with fail
          refine (HIM.out u6).mono ?_
          rintro e u7 ⟨hb7, yi, yni, yci, yo, yno, yco, rfl, hY7⟩
          have hb37 := bel_then (bel_then (bel_then hb4 hb5) hb6) hb7
          have hnb := new_bel u7 (.cells #[.slice yi yni yci, .slice yo yno yco] 33)
          have hb38 := bel_then hb37 hnb
          have h36 := (bel_then (bel_then hb4 hb5) hb6).size
          have kY := Box.new u7 33 #[.slice yi yni yci, .slice yo yno yco]
          have hK3 := hK2.keep hb38
          have hown3 := hown2.keep hb38
          have hq3 := hq2.keep hb38
          have hbel3 := bel_then hbel2 hb38
          have hel : (inS xpS (fun b => b < w.heap.size ∨ W0.heap.size + 2 ≤ b)).rep (u7.alloc (.cells #[.slice yi yni yci, .slice yo yno yco] 33)) (fun b => W3.heap.size ≤ b) [.slice yi yni yci, .slice yo yno yco] ((mi, mo, ()) : Xp) :=
            inS_of (xp_rep (matS.mono (Shape.below hY7.i hnb) (fun b (hb : u6.heap.size ≤ b) _ => by show W3.heap.size ≤ b; omega)) (matS.mono (Shape.below hY7.o hnb) (fun b (hb : u6.heap.size ≤ b) _ => by show W3.heap.size ≤ b; omega))) (fun b (hb : W3.heap.size ≤ b) => .inr (by omega))
          have hgK : ∀ b, Value.ownBlock (.slice xa j xc) = some b → W0.heap.size + 2 ≤ b ∧ b < W3.heap.size := fun b hb => hown2.lt b hb
          have hNeK : some (W0.heap.size + 1) ≠ Value.ownBlock (.slice xa j xc) := fun h => by have := (hown2.lt _ h.symm).1; omega
          clear hK2 hown2 hq2 hbel2 hb4 hb5 hb6 hb7 hb37 hb38 hY7 hnb HIM
          go_upto_region 14 with fail
          generalize World.alloc u7 _ = U at *
          have m0 := hq3.cell 0 rfl
          have src := hown3.esrc hel (fun b (hb : W3.heap.size ≤ b) h => by have := hgK b h.symm; omega)
          have ho4 := hown3.keep (new_bel U (.cells #[.slice yi yni yci, .slice yo yno yco] 33))
          have kK2 := hK3.keep (new_bel U (.cells #[.slice yi yni yci, .slice yo yno yco] 33))
          have hsm : (xs.take j).length + 1 ≤ 100000 := by rw [HTL2.out]; omega
          have hbs : ∀ o, W0.heap.size + 2 ≤ (U.alloc o).heap.size := fun o => by have := hbel3.size; have := hK3.lt; simp; omega
          have y0 := kY.cell 0 rfl
          have y1 := kY.cell 1 rfl
          have x1 := hK3.cell 1 rfl
          have hbelU := bel_alloc hbel3 (.cells #[.slice yi yni yci, .slice yo yno yco] 33)
          clear hown3 hel
          go_wp2_with (at_builtin; (refine wpList_appK (inS xpS (fun b => b < w.heap.size ∨ W0.heap.size + 2 ≤ b)) (by simp [Region.wanted]) (.tmp 100) (.tmp 102) 29 rfl (W0.heap.size + 2) 33 l0 _ 48 Try.underlying29 hl0 hl1 hl2 hl3 rfl (by show 0 < 2; omega) (by omega) (by rfl) ho4 (by rfl) src.1 src.2 hsm (hbs _) (j + 1) HTL2.out _ HT2.out ?_; intro a6 c6 u8 ho6 hg6 hb6 hat6; have kb := kK2.grown hg6 hNeK; have z1 := kb.cell 1 rfl; have f1 := kb.free 1))
          have HR6 : Hid _ := And.intro (kb.tset1of3 (.slice a6 (j + 1) c6)) (And.intro (ho6.aside (grown_set u8 (W0.heap.size + 1) 1 (.slice a6 (j + 1) c6)) (fun b hb => by omega) (fun h => by have := (ho6.lt _ h).1; omega)) (bel_put (i := 1) (hbelU.trans (hb6.mono (by omega))) (show W0.heap.size ≤ W0.heap.size + 1 by omega) (.slice a6 (j + 1) c6)))
          clear ho6 hg6 hb6 hat6 kb z1 f1 src ho4 kK2 y0 y1 x1 hbelU hbel3 hK3 hq3 m0 kY
          go_roundw
          case rel => exact ⟨j + 1, a6, c6, by omega, by go_num, HR6.out.1, HR6.out.2.1, HR6.out.2.2⟩
          case measure => simp [intOf]; omega
        · have hjn : j = nx := by omega
          subst hjn
          have hji : ¬ (j : Int) < (j : Int) := by omega
          rw [List.take_of_length_le (by have := HLX.out; omega)] at hown
          have kS := HKO.out.1.keep hbel
          have hoS := HKO.out.2.1.keep hbel
          have hbS := bel_then HKO.out.2.2 hbel
          have hNeS : some u3.heap.size ≠ Value.ownBlock (.slice va k vc) := fun h => by have := (HKO.out.2.1.lt _ h.symm).1; omega
          have hgS : ∀ b, Value.ownBlock (.slice va k vc) = some b → u3.heap.size + 1 ≤ b ∧ b < W0.heap.size := fun b hb => HKO.out.2.1.lt b hb
          have hel : (inS lyS (fun b => b < w.heap.size ∨ u3.heap.size + 1 ≤ b)).rep W2 (fun b => b < w.heap.size ∨ W0.heap.size + 2 ≤ b) [.slice ag ng cg, .slice xa j xc, .int .i64 cap] ((g, xs, cap, ()) : Ly) := by
            refine inS_of ?_ (fun b hb => by omega)
            exact ly_rep cap (matS.mono (Shape.now (Shape.low HG.out) hBw) (fun b hb _ => (.inl hb : b < w.heap.size ∨ W0.heap.size + 2 ≤ b))) (hown.among (Q := fun b => b < w.heap.size ∨ W0.heap.size + 2 ≤ b) (fun b hb => hb) (fun b hb _ _ => .inr hb))
          have src := hoS.esrc hel (fun b (hb : b < w.heap.size ∨ W0.heap.size + 2 ≤ b) h => by have := hgS b h.symm; omega)
          have ho3 := hoS.keep (new_bel W2 (.cells #[.slice ag ng cg, .slice xa j xc, .int .i64 cap] 31))
          have kS2 := kS.keep (new_bel W2 (.cells #[.slice ag ng cg, .slice xa j xc, .int .i64 cap] 31))
          have hsm : (ls.take k).length + 1 ≤ 100000 := by rw [HTL.out]; omega
          have hbs : ∀ o, u3.heap.size + 1 ≤ (W2.alloc o).heap.size := fun o => by have := hbS.size; simp; omega
          have y0 := hK.cell 0 rfl
          have y1 := hK.cell 1 rfl
          have y2 := hK.cell 2 rfl
          have x1 := kS.cell 1 rfl
          clear hoS hel hown
          go_wp2_with (at_builtin; (refine wpList_appK (inS lyS (fun b => b < w.heap.size ∨ u3.heap.size + 1 ≤ b)) (by simp [Region.wanted]) (.tmp 107) (.tmp 109) 22 rfl (u3.heap.size + 1) 31 i0 _ 56 Try.underlying22 hi0 hi1 hi2 hi3 rfl (by show 0 < 3; omega) (by omega) (by rfl) ho3 (by rfl) src.1 src.2 hsm (hbs _) (k + 1) HTL.out _ HT1.out ?_; intro a6 c6 u6 ho6 hg6 hb6 hat6; have kb := kS2.grown hg6 hNeS; have z1 := kb.cell 1 rfl; have f1 := kb.free 1))
          have HR6 : Hid _ := And.intro (kb.tset1 (.slice a6 (k + 1) c6)) (And.intro (ho6.aside (grown_set u6 u3.heap.size 1 (.slice a6 (k + 1) c6)) (fun b hb => by omega) (fun h => by have := (ho6.lt _ h).1; omega)) (bel_put (i := 1) ((bel_alloc hbS (.cells #[.slice ag ng cg, .slice xa j xc, .int .i64 cap] 31)).trans (hb6.mono (by omega))) (Nat.le_refl u3.heap.size) (.slice a6 (k + 1) c6)))
          clear ho6 hg6 hb6 hat6 kb z1 f1 src ho3 kS2 kS y0 y1 y2 x1 hbS hBw hK hbel
          go_roundw
          case rel => exact ⟨k + 1, a6, c6, by omega, by go_num, HR6.out.1, HR6.out.2.1, HR6.out.2.2⟩
          case measure => simp [intOf]; omega
    · have hkn : k = n := by omega
      subst hkn
      have hli : ¬ (k : Int) < (k : Int) := by omega
      rw [List.take_of_length_le (by have := HL.out; omega)] at hown
      have hlw := hown.plain
      have qW := HB3.out.2.keep hbel
      have hlx := Shape.below HX.out hBw
      have htx := Shape.below HTS.out hBw
      have x0 := hM.cell 0 rfl
      have x1 := hM.cell 1 rfl
      have p0 := qW.cell 0 rfl
      have p1 := qW.cell 1 rfl
      have hSZ := Ex.small_sized HST.out
      clear hown
      by_cases hT : Md.TRight dim ts
      · have HTR : Hid (Md.TRight dim ts) := hT
        have HFS : Hid (Ex.Sized (Md.forward ls ts)) := Md.tright_sized (Md.forward_right HR.out.2.2.2.2 HTR.out) HD.out
        clear hT
        go_wp2_with fail
        refine (mforward a k c ls dim ta tn tc ts W0 hlx htx HR.out HTR.out).mono ?_
        rintro e V4 ⟨hb4, ra, rc, rfl, hr4⟩
        have hM4 := hM.keep hb4
        have x0 := hM4.cell 0 rfl
        have x1 := hM4.cell 1 rfl
        go_wp2_with fail
        refine (mforward va k vc ls dim ta tn tc ts V4 (Shape.below hlw hb4) (Shape.below htx hb4) HR.out HTR.out).mono ?_
        rintro e V5 ⟨hb5, rb, rd, rfl, hr5⟩
        have hBU := bel_then (bel_then hBw hb4) hb5
        go_wp2_with fail
        refine (msame ra rb _ rc rd _ V5 (Shape.below hr4 hb5) hr5 HFS.out).mono ?_
        rintro e V6 ⟨rfl, hb6⟩
        have hBU6 := bel_then hBU hb6
        go_wp2_with (go_at_call 7; refine (tlives _).mono ?_; rintro e u9 ⟨rfl, hb9⟩)
        go_ret
        exact ⟨rfl, bel_then hBU6 hb9⟩
      · have HTN : Hid (¬ (Md.Right dim ls ∧ Md.TRight dim ts)) := fun h => hT h.2
        clear hT
        go_wp2_with fail
        refine (mforward_no a k c ls dim ta tn tc ts W0 hlx htx (by omega) (fun l hl => Md.small_lsized (HS.out.2 l hl)) hSZ HTN.out).mono ?_
        rintro e V4 ⟨rfl, hb4⟩
        have hM4 := hM.keep hb4
        have x0 := hM4.cell 0 rfl
        have x1 := hM4.cell 1 rfl
        go_wp2_with fail
        refine (mforward_no va k vc ls dim ta tn tc ts V4 (Shape.below hlw hb4) (Shape.below htx hb4) (by omega) (fun l hl => Md.small_lsized (HS.out.2 l hl)) hSZ HTN.out).mono ?_
        rintro e V5 ⟨rfl, hb5⟩
        have hBU := bel_then (bel_then hBw hb4) hb5
        go_wp2_with fail
        refine (msame none none 0 0 0 [] V5 (rep_none _ _ _) (rep_none _ _ _) ⟨by simp, fun l hl => by simp at hl⟩).mono ?_
        rintro e V6 ⟨rfl, hb6⟩
        have hBU6 := bel_then hBU hb6
        go_wp2_with (go_at_call 7; refine (tlives _).mono ?_; rintro e u9 ⟨rfl, hb9⟩)
        go_ret
        exact ⟨rfl, bel_then hBU6 hb9⟩

end Go.Proofs.Ytokkhkhipgopbaa
