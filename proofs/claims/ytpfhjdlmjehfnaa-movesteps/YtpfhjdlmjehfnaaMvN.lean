/- MoveSteps, with letters. -/
import Derived.Test.YtpfhjdlmjehfnaaMvI
import Derived.Test.YtpfhjdlmjehfnaaMvC
import Derived.Test.YtpfhjdlmjehfnaaMvD
import Derived.Test.YtpfhjdlmjehfnaaMvE
import Derived.Test.YtpfhjdlmjehfnaaMr
import Derived.Test.YtpfhjdlmjehfnaaSm
namespace Go.Proofs.Ytpfhjdlmjehfnaa
open Go.ChangeShapes Go.WideShapes Go.ChangeAt Go.RowKit



namespace Mq
theorem okay_add {e : Int} {m : List (List Int)} {x f t : Int} {s : ByteArray} {k : Int} (h : Okay e m x f t s k) (hn : ¬ Pl.Holds m x t) (he : e ≤ 1073741824) : Pl.Add e m x t (e + 1) (Pl.turn m x t true) 0 :=
  .inr (.inr ⟨fun hw => (by
    rcases hw with h1 | h1 | h1 | h1
    · exact h1 h.1
    · exact h1 h.2.1.1
    · exact h1 h.2.2.1
    · omega), hn, rfl, rfl, rfl⟩)
theorem add_still {e : Int} {m : List (List Int)} {x t E : Int} {M : List (List Int)} (h : Pl.Add e m x t E M 0) {y : Int} (hy : Pl.Holds m x y) (hne : y ≠ t) : Pl.Holds M x y := (Pl.Add.others h (y := x) (k := y) (fun h9 => hne h9.2)).2 hy
end Mq

set_option maxRecDepth 100000 in
set_option maxHeartbeats 1000000 in
theorem lsteps (AW : ∀ u, Calls Try.prog 11 #[] u fun r w' => r = .returned (.bool true) ∧ Below u.heap.size u w') (e : Int) (a : Option Addr) (n c : Nat) (m : List (List Int)) (x f t : Int) (s : ByteArray) (w : World) (h : matS.rep w everywhere [.slice a n c] m) (hsl : s.size ≤ maxLen) :
    Calls Try.prog 8 #[.agg #[.int .i64 e, .slice a n c], .int .i64 x, .int .i64 f, .int .i64 t, .string s] w fun r w' => r = .returned (.bool true) ∧ Below w.heap.size w w' := by
  have HAW := hidL AW
  have hm63 : s.size ≤ 9223372036854775807 := hsl
  have hbn := new_bel w (.cells #[.int .i64 e, .slice a n c] 24)
  have kb0 := Box.new w 24 #[.int .i64 e, .slice a n c]
  have HML : Hid (matS.rep w (· < w.heap.size) [.slice a n c] m) := Shape.low h
  have HMA : Hid (∀ u, Below w.heap.size w u → matS.rep u everywhere [.slice a n c] m) := fun u hu => Shape.below h hu
  have HSM : Hid (Calls _ _ _ _ _) := small a n c m everywhere _ (Shape.below h hbn)
  have HBN := hidL hbn
  clear h hbn AW
  go_enter Try.func8, Try.ntmps8
  go_upto_region 1 with fail
  generalize w.alloc (.cells #[.int .i64 e, .slice a n c] 24) = W at *
  have c0 := kb0.cell 0 rfl
  have c1 := kb0.cell 1 rfl
  go_wp2_with fail
  refine HSM.out.mono ?_
  rintro r W1 ⟨⟨bb, rfl, hbb⟩, h9⟩
  replace h9 := h9.symm
  subst h9
  clear HSM
  cases bb with
  | false =>
    clear hbb
    go_wp2_with (go_at_call 11; refine (HAW.out _).mono ?_; rintro r WZ ⟨rfl, hbz⟩)
    go_ret
    exact ⟨rfl, bel_then (HBN.out) hbz⟩
  | true =>
    have HZZ := hidL (hbb.1 rfl)
    have HZ := hidL (Ex.small_sized HZZ.out)
    clear hbb
    by_cases h3 : 300 < s.size
    · have h3i : (300 : Int) < (s.size : Int) := by omega
      go_wp2_with (go_at_call 11; refine (HAW.out _).mono ?_; rintro r WZ ⟨rfl, hbz⟩)
      go_ret
      exact ⟨rfl, bel_then (HBN.out) hbz⟩
    have h3i : ¬ (300 : Int) < (s.size : Int) := by omega
    by_cases he : 1073741824 < e
    · skip
      go_wp2_with (go_at_call 11; refine (HAW.out _).mono ?_; rintro r WZ ⟨rfl, hbz⟩)
      go_ret
      exact ⟨rfl, bel_then (HBN.out) hbz⟩
    obtain ⟨X, F9, T9, P, S, H, G, L, E, hI⟩ := Mq.begin_there e m x f t s 64
    rcases hI with ⟨h1, rfl, rfl, rfl, rfl, rfl, rfl, rfl, rfl, rfl⟩ | ⟨h1, h2, rfl, rfl, rfl, rfl, rfl, rfl, rfl, rfl, rfl⟩ | ⟨h1, h2, rfl, rfl, rfl, rfl, hS, hH, hG, hL, rfl⟩
    · have HI : Hid (Mq.Begin e m x f t s 64 0 0 0 0 0 [] [] [] 1) := .inl ⟨h1, rfl, rfl, rfl, rfl, rfl, rfl, rfl, rfl, rfl⟩
      clear h1
      have HC1 : Hid (Calls _ _ _ _ _) := mbegin e a n c m x f t s 64 0 0 0 0 0 [] [] [] 1 W (HMA.out _ HBN.out) HZ.out (by omega) HI.out
      clear HI
      go_wp2_with fail
      refine HC1.out.mono ?_
      rintro r u1 ⟨hb1, ha, nh, hc, ga, gc, la, lc, rfl, hH, hG, hL⟩
      obtain rfl : nh = 0 := (sliceS_len hH).1.symm
      have HB1 := hidL (bel_then (bel_then HBN.out hb1) (new_bel u1 (.cells #[.int .i64 0, .int .i64 0, .int .i64 0, .int .i64 0, .int .i64 0, .slice ha 0 hc, .slice ga 0 gc] 30)))
      clear hH hG hL hb1
      go_wp2_with (go_at_call 11; refine (HAW.out _).mono ?_; rintro r WZ ⟨rfl, hbz⟩)
      go_ret
      exact ⟨rfl, bel_then (HB1.out) hbz⟩
    · have HI : Hid (Mq.Begin e m x f t s 64 0 0 0 0 0 [] [] [] 5) := .inr (.inl ⟨h1, h2, rfl, rfl, rfl, rfl, rfl, rfl, rfl, rfl, rfl⟩)
      clear h1 h2
      have HC1 : Hid (Calls _ _ _ _ _) := mbegin e a n c m x f t s 64 0 0 0 0 0 [] [] [] 5 W (HMA.out _ HBN.out) HZ.out (by omega) HI.out
      clear HI
      go_wp2_with fail
      refine HC1.out.mono ?_
      rintro r u1 ⟨hb1, ha, nh, hc, ga, gc, la, lc, rfl, hH, hG, hL⟩
      obtain rfl : nh = 0 := (sliceS_len hH).1.symm
      have HB1 := hidL (bel_then (bel_then HBN.out hb1) (new_bel u1 (.cells #[.int .i64 0, .int .i64 0, .int .i64 0, .int .i64 0, .int .i64 0, .slice ha 0 hc, .slice ga 0 gc] 30)))
      clear hH hG hL hb1
      go_wp2_with (go_at_call 11; refine (HAW.out _).mono ?_; rintro r WZ ⟨rfl, hbz⟩)
      go_ret
      exact ⟨rfl, bel_then (HB1.out) hbz⟩
    · have hs0 : s.size ≠ 0 := h1.2.2.2.1
      obtain ⟨q, hq⟩ : ∃ q, Ck.num s.size 64 = q := ⟨_, rfl⟩
      replace hL : Mq.pieces (Mq.lst s) 64 = L := hL
      have HI : Hid (Mq.Begin e m x f t s 64 x f t 1 S (List.replicate q false) (List.replicate q noText) L 0) := .inr (.inr ⟨h1, h2, rfl, rfl, rfl, rfl, hS, by rw [← hq]; rfl, by rw [← hq]; rfl, hL, rfl⟩)
      have HLL : Hid (L.length = q) := by show _ = _; rw [← hL, pieces_len]; exact hq
      have hq1 : q ≤ 1000 := by rw [← hq]; exact Mq.num_few (by decide) (by omega)
      have hq0 : 0 < q := by rw [← hq]; exact (Ck.num_lt (by decide)).2 (by omega)
      have HUP : Hid (Mq.Up L S 0 1 (List.replicate q false) (List.replicate q noText)) := by
        have h9 := Mq.Up.first (L := L) (s := S) (by rw [HLL.out]; exact hq0)
        rw [HLL.out] at h9
        exact h9
      have HAL : Hid (Mq.all L = Mq.lst s) := by show _ = _; rw [← hL]; exact Mq.all_pieces (by decide)
      have HSR : Hid ((Cx.sum (Mq.all L) : Int) = S) := by show _ = _; rw [HAL.out]; exact hS
      have HLS : Hid (∀ y ∈ L, y.size ≤ 100) := fun y hy => by have := Mq.pieces_sizes s 64 y (by rw [hL]; exact hy); omega
      have HLZ : Hid ((Mq.all L).length ≤ 100000) := by show _ ≤ _; rw [HAL.out, Mq.lst_len]; omega
      obtain ⟨M2, hM2⟩ : ∃ M2, Pl.turn m x t true = M2 := ⟨_, rfl⟩
      have HAD : Hid (Pl.Add e m x t (e + 1) M2 0) := by have h9 := Mq.okay_add h1 h2 (by omega); rw [hM2] at h9; exact h9
      have HRM : Hid (Pl.Right (e + 1) M2) := HAD.out.right h1.1 
      have HHT : Hid (Pl.Holds M2 x t) := (HAD.out.done rfl).2
      have HHF : Hid (Pl.Holds M2 x f) := Mq.add_still HAD.out h1.2.1 (fun h9 => h2 (h9 ▸ h1.2.1))
      have he0 : 0 ≤ e := h1.1.1.1
      have HPS := hidL (Pl.small_brief HZZ.out)
      have HC1 : Hid (Calls _ _ _ _ _) := mbegin e a n c m x f t s 64 x f t 1 S _ _ L 0 W (HMA.out _ HBN.out) HZ.out (by omega) HI.out
      clear h1 h2 hS hH hG hL hM2 hq HI HZZ HZ
      go_wp2_with fail
      refine HC1.out.mono ?_
      rintro r u1 ⟨hb1, ha, nh, hc, ga, gc, la, lc, rfl, hH, hG, hL⟩
      obtain rfl : nh = q := by rw [← (sliceS_len hL).1]; exact HLL.out
      have hbn := new_bel u1 (.cells #[.int .i64 x, .int .i64 f, .int .i64 t, .int .i64 1, .int .i64 S, .slice ha nh hc, .slice ga nh gc] 30)
      have HBV := hidL (bel_then HBN.out hb1)
      have hlt0 := hidL kb0.lt
      have KPV : Hid (Box u1 w.heap.size 24 #[.int .i64 e, .slice a n c]) := kb0.keep hb1
      have km := Box.new u1 30 #[.int .i64 x, .int .i64 f, .int .i64 t, .int .i64 1, .int .i64 S, .slice ha nh hc, .slice ga nh gc]
      have HLA : Hid (∀ u, Below u1.heap.size u1 u → bagS.rep u everywhere [.slice la nh lc] L) := fun u hu => Shape.any (Shape.below hL hu)
      have hH2 := Shape.below (Shape.low hH) hbn
      have hG2 := Shape.below (Shape.low hG) hbn
      have HB2 := hidL hbn
      clear hH hG hL hb1 hbn HC1 kb0 c0 c1
      have kp := KPV.out.keep HB2.out
      have c0 := kp.cell 0 rfl; have c1 := kp.cell 1 rfl
      have d0 := km.cell 0 rfl; have d1 := km.cell 1 rfl; have d2 := km.cell 2 rfl; have d3 := km.cell 3 rfl; have d4 := km.cell 4 rfl; have d5 := km.cell 5 rfl; have d6 := km.cell 6 rfl
      go_upto_region 6 with fail
      generalize u1.alloc (.cells #[.int .i64 x, .int .i64 f, .int .i64 t, .int .i64 1, .int .i64 S, .slice ha nh hc, .slice ga nh gc] 30) = W2 at *
      have HC2 : Hid (Calls _ _ _ _ _) := mcommit (F := everywhere) x f t 1 S ha nh hc ga nh gc _ _ e a n c m 1 e 1 m W2 (Shape.any hH2) (Shape.any hG2) (HMA.out _ (bel_then HBV.out HB2.out)) hq1 hq1 HPS.out (.inl ⟨by decide, rfl, rfl, rfl, rfl⟩)
      go_wp2_with fail
      refine HC2.out.mono ?_
      rintro r u2 ⟨hb2, ha2, hc2, ga2, gc2, a2, c2, rfl, hx1, hx2, hx3⟩
      clear hx1 hx2 hx3 HC2 c0 c1 d0 d1 d2 d3 d4 d5 d6
      have hb3 := bel_then hb2 (bel_two u2 (.cells #[.int .i64 x, .int .i64 f, .int .i64 t, .int .i64 1, .int .i64 S, .slice ha2 nh hc2, .slice ga2 nh gc2] 30) (.cells #[.int .i64 e, .slice a2 n c2] 24))
      have km3 := km.keep hb3
      have kp3 := kp.keep hb3
      have kq3 := Box.two u2 (.cells #[.int .i64 x, .int .i64 f, .int .i64 t, .int .i64 1, .int .i64 S, .slice ha2 nh hc2, .slice ga2 nh gc2] 30) 24 #[.int .i64 e, .slice a2 n c2]
      have kn3 := (Box.new u2 30 #[.int .i64 x, .int .i64 f, .int .i64 t, .int .i64 1, .int .i64 S, .slice ha2 nh hc2, .slice ga2 nh gc2]).keep (new_bel _ (.cells #[.int .i64 e, .slice a2 n c2] 24))
      have hH3 := Shape.below hH2 hb3
      have hG3 := Shape.below hG2 hb3
      have HB3 := hidL (bel_then HB2.out hb3)
      have hK : u1.heap.size < u2.heap.size := (km.keep hb2).lt
      clear km kp hH2 hG2 hb2 hb3
      go_upto_region 7 with fail
      generalize (u2.alloc (.cells #[.int .i64 x, .int .i64 f, .int .i64 t, .int .i64 1, .int .i64 S, .slice ha2 nh hc2, .slice ga2 nh gc2] 30)).alloc (.cells #[.int .i64 e, .slice a2 n c2] 24) = W3 at *
      generalize u2.heap.size = K at *
      have HK := hidL hK
      clear hK
      have c0 := kp3.cell 0 rfl
      have d0 := kq3.cell 0 rfl
      have d3 := kn3.cell 3 rfl
      clear kn3 kp3
      go_upto_region 9 with fail
      clear c0 d0 d3
      go_wp2
      go_loopw [87] (fun v87 wr => ∃ (j : Nat) (P : Int) (H : List Bool) (G : List ByteArray) (ha : Option Addr) (hc : Nat) (ga : Option Addr) (gc : Nat), j ≤ nh ∧ v87 = .int .i64 j ∧ Hid (Mq.Up L S j P H G) ∧ Box wr u1.heap.size 30 #[.int .i64 x, .int .i64 f, .int .i64 t, .int .i64 P, .int .i64 S, .slice ha nh hc, .slice ga nh gc] ∧ Box wr (K + 1) 24 #[.int .i64 e, .slice a2 n c2] ∧ bitsS.rep wr (fun b => b ≠ u1.heap.size ∧ b ≠ K + 1) [.slice ha nh hc] H ∧ bagS.rep wr (fun b => b ≠ u1.heap.size ∧ b ≠ K + 1) [.slice ga nh gc] G ∧ Below u1.heap.size u1 wr) (fun v _ => nh - (intOf v).toNat)
      case atStart =>
        have hK := HK.out
        exact ⟨0, 1, _, _, ha, hc, ga, gc, Nat.zero_le _, rfl, HUP, km3, kq3, bitsS.mono hH3 (fun b hb _ => by have h9 : b < u1.heap.size := hb; exact ⟨by omega, by omega⟩), bagS.mono hG3 (fun b hb _ => by have h9 : b < u1.heap.size := hb; exact ⟨by omega, by omega⟩), HB3.out⟩
      case round =>
        clear km3 kq3 hH3 hG3 HUP HB3 HB2
        obtain ⟨j, P, H, G, ha, hc, ga, gc, hj, rfl, HU, km, kq, hH, hG, hbel⟩ := hrel
        by_cases hlt : j < nh
        · obtain ⟨b1, o1, rfl, _, hcell⟩ := (Texts.of_rep (HLA.out wr hbel)).at hlt
          have hlj : j < L.length := by rw [HLL.out]; exact hlt
          obtain ⟨P2, K2, J2, E2, hP⟩ := Mq.piece_there P S H G (j : Int) (L.getD j noText)
          have HU2 := hidL (HU.out.step hlj hP).1
          have HP1 : Hid (Calls _ _ _ _ _) := mpiece x f t P S ha nh hc ga nh gc H G (j : Int) (L.getD j noText) P2 E2 K2 J2 wr (Shape.any hH) (Shape.any hG) (HU.out.1.short (by rw [HLL.out]; exact hq1) HLS.out) (HLS.out _ (by rw [List.getD_eq_getElem?_getD, List.getElem?_eq_getElem hlj]; exact List.getElem_mem hlj)) hP
          generalize L.getD j noText = y at *
          have hli : (j : Int) < (nh : Int) := by omega
          have hj0 : (0 : Int) ≤ (j : Int) := by omega
          have HLT : Hid (u1.heap.size < wr.heap.size ∧ K + 1 < wr.heap.size) := ⟨km.lt, kq.lt⟩
          have c0 := km.cell 0 rfl; have c1 := km.cell 1 rfl; have c2 := km.cell 2 rfl; have c3 := km.cell 3 rfl; have c4 := km.cell 4 rfl; have c5 := km.cell 5 rfl; have c6 := km.cell 6 rfl
          clear hP hH hG HU hlj
          go_wp2_with fail
          refine HP1.out.mono ?_
          rintro r u3 ⟨hb3, ha3, hc3, ga3, gc3, rfl, hH3, hG3⟩
          have km3 := km.keep hb3
          have hK := HK.out
          have kq4 := (kq.keep hb3).all7_other (b2 := u1.heap.size) (by omega) (.int .i64 x) (.int .i64 f) (.int .i64 t) (.int .i64 P2) (.int .i64 S) (.slice ha3 nh hc3) (.slice ga3 nh gc3)
          have km4 := km3.all7 (.int .i64 x) (.int .i64 f) (.int .i64 t) (.int .i64 P2) (.int .i64 S) (.slice ha3 nh hc3) (.slice ga3 nh gc3)
          have hH4 := bitsS.mono (F' := fun b => b ≠ u1.heap.size ∧ b ≠ K + 1) (rep_all7 hH3 (b := u1.heap.size) (fun b hb => by have h9 : wr.heap.size ≤ b := hb; have := HLT.out; omega) (.int .i64 x) (.int .i64 f) (.int .i64 t) (.int .i64 P2) (.int .i64 S) (.slice ha3 nh hc3) (.slice ga3 nh gc3)) (fun b hb _ => by have h9 : wr.heap.size ≤ b := hb; have := HLT.out; exact ⟨by omega, by omega⟩)
          have hG4 := bagS.mono (F' := fun b => b ≠ u1.heap.size ∧ b ≠ K + 1) (rep_all7 hG3 (b := u1.heap.size) (fun b hb => by have h9 : wr.heap.size ≤ b := hb; have := HLT.out; omega) (.int .i64 x) (.int .i64 f) (.int .i64 t) (.int .i64 P2) (.int .i64 S) (.slice ha3 nh hc3) (.slice ga3 nh gc3)) (fun b hb _ => by have h9 : wr.heap.size ≤ b := hb; have := HLT.out; exact ⟨by omega, by omega⟩)
          have HB4 := hidL (bel_all7 (bel_then hbel hb3) (b := u1.heap.size) (Nat.le_refl _) (.int .i64 x) (.int .i64 f) (.int .i64 t) (.int .i64 P2) (.int .i64 S) (.slice ha3 nh hc3) (.slice ga3 nh gc3))
          clear c0 c1 c2 c3 c4 c5 c6 km kq hH3 hG3 hb3 HP1 hcell hK hbel
          have c0 := km3.cell 0 rfl; have c1 := km3.cell 1 rfl; have c2 := km3.cell 2 rfl; have c3 := km3.cell 3 rfl; have c4 := km3.cell 4 rfl; have c5 := km3.cell 5 rfl; have c6 := km3.cell 6 rfl
          have d0 := km3.free 0; have d1 := km3.free 1; have d2 := km3.free 2; have d3 := km3.free 3; have d4 := km3.free 4; have d5 := km3.free 5; have d6 := km3.free 6
          go_wp2
          go_roundw
          case rel => exact ⟨j + 1, P2, K2, J2, ha3, hc3, ga3, gc3, by omega, by go_num, HU2, km4, kq4, hH4, hG4, HB4.out⟩
          case measure => simp [intOf]; omega
        · obtain rfl : j = nh := by omega
          have hli : ¬ (j : Int) < (j : Int) := by omega
          obtain ⟨hp2, hgl⟩ := Mq.Up.right (L := L) (by rw [HLL.out]; exact HU.out) HSR.out
          subst hp2
          rw [hgl] at hG
          have hLH : H.length = j := (sliceS_len hH).1
          have HSH : Hid (Mq.Short H L) := by rw [← hgl]; exact HU.out.1.short (by rw [HLL.out]; exact hq1) HLS.out
          clear hgl HU
          have HC5 : Hid (Calls _ _ _ _ _) := mcommit (F := (· < w.heap.size)) x f t 2 S ha j hc ga j gc H L e a n c m 3 (e + 1) 0 M2 wr (Shape.any hH) (Shape.any hG) (Shape.now HML.out (bel_then HBV.out hbel)) hq1 hq1 HPS.out (.inr (.inr ⟨rfl, HAD.out, rfl, rfl⟩))
          have kp := KPV.out.keep hbel
          have HLT : Hid (u1.heap.size < wr.heap.size ∧ K + 1 < wr.heap.size ∧ w.heap.size < u1.heap.size ∧ u1.heap.size < K) := ⟨km.lt, kq.lt, KPV.out.lt, HK.out⟩
          have c0 := km.cell 0 rfl; have c1 := km.cell 1 rfl; have c2 := km.cell 2 rfl; have c3 := km.cell 3 rfl; have c4 := km.cell 4 rfl; have c5 := km.cell 5 rfl; have c6 := km.cell 6 rfl
          have d0 := kp.cell 0 rfl; have d1 := kp.cell 1 rfl
          clear hH hG hLH
          go_upto_region 14 with fail
          go_wp2_with fail
          refine HC5.out.mono ?_
          rintro r u5 ⟨hb5, ha5, hc5, ga5, gc5, a5, cc5, rfl, hH5, hG5, hm5⟩
          have hlt5 := HLT.out
          have km5 := km.keep hb5
          have kq5 := kq.keep hb5
          have kq6 := (kq5.all7_other (b2 := u1.heap.size) (by omega) (.int .i64 x) (.int .i64 f) (.int .i64 t) (.int .i64 3) (.int .i64 S) (.slice ha5 j hc5) (.slice ga5 j gc5)).all2 (.int .i64 (e + 1)) (.slice a5 n cc5)
          have km6 := (km5.all7 (.int .i64 x) (.int .i64 f) (.int .i64 t) (.int .i64 3) (.int .i64 S) (.slice ha5 j hc5) (.slice ga5 j gc5)).all2_other (b2 := K + 1) (by omega) (.int .i64 (e + 1)) (.slice a5 n cc5)
          have hH6 := Shape.any (Shape.all2 (b := K + 1) (rep_all7 hH5 (b := u1.heap.size) (fun b hb => by have h9 : wr.heap.size ≤ b := hb; omega) (.int .i64 x) (.int .i64 f) (.int .i64 t) (.int .i64 3) (.int .i64 S) (.slice ha5 j hc5) (.slice ga5 j gc5)) (fun b hb _ => by have h9 : wr.heap.size ≤ b := hb; omega) (.int .i64 (e + 1)) (.slice a5 n cc5))
          have hG6 := Shape.any (Shape.all2 (b := K + 1) (rep_all7 hG5 (b := u1.heap.size) (fun b hb => by have h9 : wr.heap.size ≤ b := hb; omega) (.int .i64 x) (.int .i64 f) (.int .i64 t) (.int .i64 3) (.int .i64 S) (.slice ha5 j hc5) (.slice ga5 j gc5)) (fun b hb _ => by have h9 : wr.heap.size ≤ b := hb; omega) (.int .i64 (e + 1)) (.slice a5 n cc5))
          have hm6 := Shape.any (Shape.all2 (b := K + 1) (rep_all7 hm5 (b := u1.heap.size) (fun b hb => by have h9 : b < w.heap.size ∨ wr.heap.size ≤ b := hb; omega) (.int .i64 x) (.int .i64 f) (.int .i64 t) (.int .i64 3) (.int .i64 S) (.slice ha5 j hc5) (.slice ga5 j gc5)) (fun b hb _ => by have h9 : b < w.heap.size ∨ wr.heap.size ≤ b := hb; omega) (.int .i64 (e + 1)) (.slice a5 n cc5))
          have HB6 := hidL (bel_all2 (bel_all7 (bel_then hbel hb5) (b := u1.heap.size) (Nat.le_refl _) (.int .i64 x) (.int .i64 f) (.int .i64 t) (.int .i64 3) (.int .i64 S) (.slice ha5 j hc5) (.slice ga5 j gc5)) (b := K + 1) (by omega) (.int .i64 (e + 1)) (.slice a5 n cc5))
          have hne5 : u1.heap.size ≠ K + 1 := by omega
          have hne6 : K + 1 ≠ u1.heap.size := by omega
          clear c0 c1 c2 c3 c4 c5 c6 d0 d1 km kq kp hH5 hG5 hm5 hb5 HC5 hbel hlt5
          have c0 := km5.cell 0 rfl; have c1 := km5.cell 1 rfl; have c2 := km5.cell 2 rfl; have c3 := km5.cell 3 rfl; have c4 := km5.cell 4 rfl; have c5 := km5.cell 5 rfl; have c6 := km5.cell 6 rfl
          have f0 := km5.free 0; have f1 := km5.free 1; have f2 := km5.free 2; have f3 := km5.free 3; have f4 := km5.free 4; have f5 := km5.free 5; have f6 := km5.free 6
          have d0 := kq5.cell 0 rfl; have d1 := kq5.cell 1 rfl
          have g0 := kq5.free 0; have g1 := kq5.free 1
          go_upto_region 15 with fail
          obtain ⟨W6, hW6⟩ : ∃ V, V = (((((((((u5.setCell ⟨u1.heap.size, 0, none⟩ (.int .i64 x)).setCell ⟨u1.heap.size, 1, none⟩ (.int .i64 f)).setCell ⟨u1.heap.size, 2, none⟩ (.int .i64 t)).setCell ⟨u1.heap.size, 3, none⟩ (.int .i64 3)).setCell ⟨u1.heap.size, 4, none⟩ (.int .i64 S)).setCell ⟨u1.heap.size, 5, none⟩ (.slice ha5 j hc5)).setCell ⟨u1.heap.size, 6, none⟩ (.slice ga5 j gc5)).setCell ⟨K + 1, 0, none⟩ (.int .i64 (e + 1))).setCell ⟨K + 1, 1, none⟩ (.slice a5 n cc5)) := ⟨_, rfl⟩
          rw [← hW6] at kq6 km6 hH6 hG6 hm6 HB6 ⊢
          clear hW6 c0 c1 c2 c3 c4 c5 c6 d0 d1 f0 f1 f2 f3 f4 f5 f6 g0 g1 km5 kq5 hne5 hne6
          have c0 := km6.cell 0 rfl; have c1 := km6.cell 1 rfl; have c2 := km6.cell 2 rfl; have c3 := km6.cell 3 rfl; have c4 := km6.cell 4 rfl; have c5 := km6.cell 5 rfl; have c6 := km6.cell 6 rfl
          have d0 := kq6.cell 0 rfl; have d1 := kq6.cell 1 rfl
          have HC7 : Hid (Calls _ _ _ _ _) := mcommit (F := everywhere) x f t 3 S ha5 j hc5 ga5 j gc5 H L (e + 1) a5 n cc5 M2 3 (e + 1) 1 M2 W6 hH6 hG6 hm6 hq1 hq1 (Pl.right_brief HRM.out) (.inl ⟨by decide, rfl, rfl, rfl, rfl⟩)
          go_wp2_with fail
          refine HC7.out.mono ?_
          rintro r u7 ⟨hb7, ha7, hc7, ga7, gc7, a7, c7, rfl, hx1, hx2, hx3⟩
          clear hx1 hx2 hx3 HC7 c0 c1 c2 c3 c4 c5 c6 d0 d1
          have hb8 := bel_then hb7 (bel_two u7 (.cells #[.int .i64 x, .int .i64 f, .int .i64 t, .int .i64 3, .int .i64 S, .slice ha7 j hc7, .slice ga7 j gc7] 30) (.cells #[.int .i64 (e + 1), .slice a7 n c7] 24))
          have km8 := km6.keep hb8
          have kq8 := kq6.keep hb8
          have kg8 := Box.two u7 (.cells #[.int .i64 x, .int .i64 f, .int .i64 t, .int .i64 3, .int .i64 S, .slice ha7 j hc7, .slice ga7 j gc7] 30) 24 #[.int .i64 (e + 1), .slice a7 n c7]
          have hH8 := Shape.below hH6 hb8
          have hG8 := Shape.below hG6 hb8
          have hm8 := Shape.below hm6 hb8
          have HB8 := hidL (bel_then HB6.out hb8)
          clear km6 kq6 hH6 hG6 hm6 hb7 hb8 HB6
          have c0 := km8.cell 0 rfl; have c1 := km8.cell 1 rfl; have c2 := km8.cell 2 rfl; have c3 := km8.cell 3 rfl; have c4 := km8.cell 4 rfl; have c5 := km8.cell 5 rfl; have c6 := km8.cell 6 rfl
          go_upto_region 16 with fail
          generalize (u7.alloc (.cells #[.int .i64 x, .int .i64 f, .int .i64 t, .int .i64 3, .int .i64 S, .slice ha7 j hc7, .slice ga7 j gc7] 30)).alloc (.cells #[.int .i64 (e + 1), .slice a7 n c7] 24) = W8 at *
          generalize u7.heap.size = K7 at *
          go_wp2_with fail
          refine (mabort x f t 3 S ha5 j hc5 ga5 j gc5 H L 3 7 W8 hH8 hG8 hq1 hq1 (.inl ⟨rfl, rfl, rfl⟩)).mono ?_
          rintro r u9 ⟨hb9, ha9, hc9, ga9, gc9, rfl, hH9, hG9⟩
          have hbn := new_bel u9 (.cells #[.int .i64 x, .int .i64 f, .int .i64 t, .int .i64 3, .int .i64 S, .slice ha9 j hc9, .slice ga9 j gc9] 30)
          have hb10 := bel_then hb9 hbn
          have kn10 := Box.new u9 30 #[.int .i64 x, .int .i64 f, .int .i64 t, .int .i64 3, .int .i64 S, .slice ha9 j hc9, .slice ga9 j gc9]
          have kq10 := kq8.keep hb10
          have kg10 := kg8.keep hb10
          have hH10 := Shape.any (Shape.below hH9 hbn)
          have hG10 := Shape.any (Shape.below hG9 hbn)
          have hm10 := Shape.below hm8 hb10
          have HB10 := hidL (bel_then HB8.out hb10)
          clear c0 c1 c2 c3 c4 c5 c6 km8 kq8 kg8 hH8 hG8 hm8 HB8 hH9 hG9 hb9 hbn hb10
          have c0 := kn10.cell 0 rfl; have c1 := kn10.cell 1 rfl; have c2 := kn10.cell 2 rfl; have c3 := kn10.cell 3 rfl; have c4 := kn10.cell 4 rfl; have c5 := kn10.cell 5 rfl; have c6 := kn10.cell 6 rfl
          go_upto_region 17 with fail
          generalize u9.alloc (.cells #[.int .i64 x, .int .i64 f, .int .i64 t, .int .i64 3, .int .i64 S, .slice ha9 j hc9, .slice ga9 j gc9] 30) = W10 at *
          generalize u9.heap.size = K9 at *
          go_wp2_with fail
          refine (mtext x f t 3 S ha9 j hc9 ga9 j gc9 H L s true W10 hH10 hG10 hq1 HLZ.out (.inl ⟨.inr rfl, by rw [HAL.out]; exact text_of s, rfl⟩)).mono ?_
          rintro r u11 ⟨rfl, hb11⟩
          have kn11 := kn10.keep hb11
          have kq11 := kq10.keep hb11
          have kg11 := kg10.keep hb11
          have hm11 := Shape.below hm10 hb11
          have HB11 := hidL (bel_then HB10.out hb11)
          have kp11 := KPV.out.keep HB11.out
          clear c0 c1 c2 c3 c4 c5 c6 kn10 kq10 kg10 hH10 hG10 hm10 hb11 HB10
          have HMZ : Hid (Ex.Sized M2) := (Pl.right_brief HRM.out).sized
          have HH1 : Hid (Calls _ _ _ _ _) := pholds (e + 1) a5 n cc5 M2 x t true u11 hm11 HMZ.out (tell_yes HHT.out)
          have d0 := kq11.cell 0 rfl; have d1 := kq11.cell 1 rfl
          have c0 := kp11.cell 0 rfl
          go_wp2_with fail
          refine HH1.out.mono ?_
          rintro r u12 ⟨rfl, hb12⟩
          have kn12 := kn11.keep hb12
          have kq12 := kq11.keep hb12
          have kg12 := kg11.keep hb12
          have HB12 := hidL (bel_then HB11.out hb12)
          have HH2 : Hid (Calls _ _ _ _ _) := pholds (e + 1) a5 n cc5 M2 x f true u12 (Shape.below hm11 hb12) HMZ.out (tell_yes HHF.out)
          clear c0 d0 d1 kn11 kq11 kg11 hm11 hb12 kp11 HB11 HH1
          have d0 := kq12.cell 0 rfl; have d1 := kq12.cell 1 rfl
          go_wp2_with fail
          refine HH2.out.mono ?_
          rintro r u13 ⟨rfl, hb13⟩
          have kn13 := kn12.keep hb13
          have kq13 := kq12.keep hb13
          have kg13 := kg12.keep hb13
          have HB13 := hidL (bel_then HBV.out (bel_then HB12.out hb13))
          clear d0 d1 kn12 kq12 kg12 hb13 HH2
          have d0 := kq13.cell 0 rfl
          have g0 := kg13.cell 0 rfl
          have f3 := kn13.cell 3 rfl
          clear kn13 kq13 kg13
          go_wp2_with (go_at_call 11; refine (HAW.out _).mono ?_; rintro r WZ ⟨rfl, hbz⟩)
          go_ret
          exact ⟨rfl, bel_then (HB13.out) hbz⟩

end Go.Proofs.Ytpfhjdlmjehfnaa
