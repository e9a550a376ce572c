/- What the document's Parts of layer 15 does when called. -/
import Derived.Test.YtfidgcanolegfaaGreatJd
namespace Go.Proofs.YtfidgcanolegfaaGreat
open Go.ChangeShapes Go.WideShapes Go.ChangeAt Go.RowKit

theorem Tryz.infoRpart : (Tryz.prog.info? 84).map (fun i => (i.zero, i.size, i.bytes)) = some (some (.agg #[.int .i64 0, .int .i64 0, .int .i64 0, .int .i64 0]), 4, 32) := by kernel_rfl
theorem Md.pairs_take (g : List (List Int)) {ts : List (List Int)} {k : Nat} (h : k < ts.length) {p q : Int} (hp : Md.first g (ts.getD k []) = p) (hq : Md.second g (ts.getD k []) = q) : (Md.pairs g ts).take k ++ [(p, q, ())] = (Md.pairs g ts).take (k + 1) := by
  have h2 : k < (Md.pairs g ts).length := by rw [Md.pairs_len]; exact h
  rw [List.take_succ_eq_append_getElem h2, ← get_of h2 (0, 0, ()), Md.pairs_at g h, hp, hq]

set_option maxHeartbeats 4000000 in
set_option maxRecDepth 100000 in
theorem rmparts (ag : Option Addr) (ng cg : Nat) (ax : Option Addr) (nx cx : Nat) (g : List (List Int)) (xs : List Xp) (cap dim : Int) (b : Option Addr) (m d : Nat) (ts : List (List Int)) (w : World) (hg : matS.rep w everywhere [.slice ag ng cg] g) (hx : xpsS.rep w everywhere [.slice ax nx cx] xs)
    (ht : matS.rep w everywhere [.slice b m d] ts) (hL : Md.LRight (g, xs, cap, ()) dim) (hd : dim ≤ 8) (hT : Md.TRight dim ts) :
    Calls Tryz.prog 31 #[.agg #[.slice ag ng cg, .slice ax nx cx, .int .i64 cap], .slice b m d] w fun e w' => Below w.heap.size w w' ∧ ∃ a' n' c', e = .returned (.slice a' n' c') ∧ ptsS.rep w' everywhere [.slice a' n' c'] (Md.parts (g, xs, cap, ()) ts) := by
  have hlt0 := (sliceS_len ht).1
  have hlx := (sliceS_len hx).1
  have hlg := (sliceS_len hg).1
  have hm : m ≤ 16 := by have := hT.2.1; omega
  have hng : ng ≤ 1000 := by have h7 : g.length = xs.length := hL.gate; have h8 : xs.length ≤ 8 := hL.2.1; omega
  have HP : Hid (Md.Picks g ts) := Md.picks hL hT hd
  have HL : Hid (ts.length = m) := hlt0
  have HLX : Hid (xs.length = nx) := hlx
  have HG : Hid (matS.rep w everywhere [.slice ag ng cg] g) := hg
  have HT : Hid (matS.rep w everywhere [.slice b m d] ts) := ht
  have hB := new_bel w (.cells #[.slice ag ng cg, .slice ax nx cx, .int .i64 cap] 65)
  have q0 := Box.new w 65 #[.slice ag ng cg, .slice ax nx cx, .int .i64 cap]
  have HQ0 : Hid _ := And.intro q0 hB
  obtain ⟨i0, hi0, hi1, hi2, hi3⟩ := info_parts Tryz.infoPair
  obtain ⟨j0, hj0, hj1, hj2, hj3⟩ := info_parts Tryz.infoRpart
  clear hlt0 hlx hlg hg hx ht hL hT hd q0 hB
  go_enter Tryz.func31, Tryz.ntmps31
  go_wp2
  go_loopw [5, 16] (fun v i wr => ∃ (k : Nat) (wa : Option Addr) (wc : Nat), k ≤ m ∧ v = .slice wa k wc ∧ i = .int .i64 k ∧ Own prS wr (w.heap.size + 1) 109 (.slice wa k wc) ((Md.pairs g ts).take k) ∧ Box wr w.heap.size 65 #[.slice ag ng cg, .slice ax nx cx, .int .i64 cap] ∧ Below w.heap.size w wr) (fun _ i _ => m - (intOf i).toNat)
  case atStart => exact ⟨0, none, 0, Nat.zero_le _, rfl, rfl, by rw [List.take_zero]; exact Own.nil _ _ _ _, HQ0.out.1, HQ0.out.2⟩
  case round =>
    clear HQ0
    obtain ⟨k, fa, fc, hk, rfl, rfl, hown, hbox, hbel⟩ := hrel
    obtain ⟨W0, hW0⟩ : ∃ W0, W0 = wr := ⟨_, rfl⟩
    subst hW0
    by_cases hlt : k < m
    · obtain ⟨b1, o1, A, C, rfl, _, c0, hr⟩ := mat_at (Shape.below HT.out hbel) hlt
      have hli : (k : Int) < (m : Int) := by omega
      have hk0 : (0 : Int) ≤ (k : Int) := by omega
      have hkl : k < ts.length := by have := HL.out; omega
      obtain ⟨hI, hv9⟩ := HP.out _ (Mx.getD_mem ts k hkl)
      obtain ⟨p, hp⟩ : ∃ p, Md.first g (ts.getD k []) = p := ⟨_, rfl⟩
      obtain ⟨q, hq⟩ : ∃ q, Md.second g (ts.getD k []) = q := ⟨_, rfl⟩
      obtain ⟨r, hr2⟩ : ∃ r, Md.w1 g (ts.getD k []) = r := ⟨_, rfl⟩
      obtain ⟨s, hs⟩ : ∃ s, Md.w2 g (ts.getD k []) = s := ⟨_, rfl⟩
      have HPT : Hid ((Md.pairs g ts).take k ++ [(p, q, ())] = (Md.pairs g ts).take (k + 1)) := Md.pairs_take g hkl hp hq
      have HPL : Hid (((Md.pairs g ts).take k).length + 1 = k + 1) := by show _ = _; rw [List.length_take, Md.pairs_len]; omega
      rw [hp, hq, hr2, hs] at hI
      have HC : Hid (Calls _ _ _ _ _) := rchoose ag A ng cg (ts.getD k []).length C g _ everywhere p q r s true W0 (Shape.below HG.out hbel) (Row.of_rep hr) hng hv9 hI
      have p0 := hbox.cell 0 rfl
      clear hp hq hr2 hs hI hr
      generalize ts.getD k [] = v at *
      go_wp2_with fail
      refine HC.out.mono ?_
      rintro e u1 ⟨rfl, hb1⟩
      have hbn := new_bel u1 (.cells #[.int .i64 p, .int .i64 q, .int .i64 r, .int .i64 s] 106)
      have hd1 := bel_then hb1 hbn
      have hownX := hown.keep hd1
      have hboxX := hbox.keep hd1
      have hbelX := bel_then hbel hd1
      have kc := Box.new u1 106 #[.int .i64 p, .int .i64 q, .int .i64 r, .int .i64 s]
      have hlt9 := (hbox.lt)
      go_upto_region 6 with fail
      clear p0 hown hbox hbel hb1 hbn hd1 HC c0
      generalize u1.alloc (.cells #[.int .i64 p, .int .i64 q, .int .i64 r, .int .i64 s] 106) = X at *
      have y0 := kc.cell 0 rfl
      have y1 := kc.cell 1 rfl
      have src := hownX.esrc (pr_rep X (fun _ => False) p q) (fun b hb => hb.elim)
      have ho3 := hownX.keep (new_bel X (.cells #[.int .i64 p, .int .i64 q] 109))
      have hsm : ((Md.pairs g ts).take k).length + 1 ≤ 100000 := by rw [HPL.out]; omega
      have hbs : ∀ o, w.heap.size + 1 ≤ (X.alloc o).heap.size := fun o => by have := hboxX.lt; simp; omega
      have hNe : some w.heap.size ≠ Value.ownBlock (.slice fa k fc) := fun h => by have := (hownX.lt _ h.symm).1; omega
      have kb2 := hboxX.keep (new_bel X (.cells #[.int .i64 p, .int .i64 q] 109))
      clear hownX
      go_wp2_with (at_builtin; (refine wpList_appK prS (by simp [Region.wanted]) (.tmp 27) (.tmp 33) 104 rfl (w.heap.size + 1) 109 i0 _ 16 Tryz.underlying104 hi0 hi1 hi2 hi3 rfl (by show 0 < 2; omega) (by omega) (by rfl) ho3 (by rfl) src.1 src.2 hsm (hbs _) (k + 1) HPL.out _ HPT.out ?_; intro a6 c6 u6 ho6 hg6 hb6 hat6))
      have HR6 : Hid _ := And.intro ho6 (And.intro (kb2.grown hg6 hNe) ((bel_alloc hbelX (.cells #[.int .i64 p, .int .i64 q] 109)).trans (hb6.mono (by omega))))
      clear ho6 hg6 hb6 hat6 src ho3 kb2 y0 y1 kc hboxX hbelX
      go_roundw
      case rel => exact ⟨k + 1, a6, c6, by omega, rfl, by go_num, HR6.out.1, HR6.out.2.1, HR6.out.2.2⟩
      case measure => simp [intOf]; omega
    · have hkn : k = m := by omega
      subst hkn
      have hli : ¬ (k : Int) < (k : Int) := by omega
      rw [List.take_of_length_le (by rw [Md.pairs_len]; have := HL.out; omega)] at hown
      have hfl := Flat.of_rep hown.is
      rw [Md.pairs_flat] at hfl
      obtain ⟨V, hV⟩ : ∃ V, V = W0 := ⟨_, rfl⟩
      subst hV
      have HFL : Hid (Flat V fa k (Md.wants g ts)) := hfl
      have HKL : Hid (Box V w.heap.size 65 #[.slice ag ng cg, .slice ax nx cx, .int .i64 cap] ∧ Below w.heap.size w V) := ⟨hbox, hbel⟩
      clear hown hfl hbox hbel
      go_wp2
      go_loopw [10, 11] (fun v i wr => ∃ (j n : Nat) (a : Option Addr) (c : Nat), j ≤ k ∧ v = .slice a n c ∧ i = .int .i64 j ∧ Hid ((Md.upto (g, xs, cap, ()) ts (j * 2)).length = n) ∧ Own ptS wr V.heap.size 84 (.slice a n c) (Md.upto (g, xs, cap, ()) ts (j * 2)) ∧ Below V.heap.size V wr) (fun _ i _ => k - (intOf i).toNat)
      case atStart => exact ⟨0, 0, none, 0, Nat.zero_le _, rfl, rfl, rfl, Own.nil _ _ _ _, Below.refl _ _⟩
      case round =>
        obtain ⟨j, n, a, c, hj, rfl, rfl, HN, hown, hbel⟩ := hrel
        have hBw := bel_then HKL.out.2 hbel
        by_cases hjt : j < k
        · obtain ⟨b1, o1, A, C, rfl, _, c0, hr⟩ := mat_at (Shape.below HT.out hBw) hjt
          have hji : (j : Int) < (k : Int) := by omega
          have hj00 : (0 : Int) ≤ (j : Int) := by omega
          have hjl : j < ts.length := by have := HL.out; omega
          obtain ⟨hI, hv9⟩ := HP.out _ (Mx.getD_mem ts j hjl)
          have hE := Md.chosen_at g hjl
          obtain ⟨p, hp⟩ : ∃ p, Md.first g (ts.getD j []) = p := ⟨_, rfl⟩
          obtain ⟨q, hq⟩ : ∃ q, Md.second g (ts.getD j []) = q := ⟨_, rfl⟩
          obtain ⟨r, hr2⟩ : ∃ r, Md.w1 g (ts.getD j []) = r := ⟨_, rfl⟩
          obtain ⟨s, hs⟩ : ∃ s, Md.w2 g (ts.getD j []) = s := ⟨_, rfl⟩
          rw [hp, hq, hr2, hs] at hI hE
          obtain ⟨s0, hs0⟩ : ∃ s0, Md.slot (g, xs, cap, ()) ts (j * 2) = s0 := ⟨_, rfl⟩
          obtain ⟨s1, hs1⟩ : ∃ s1, Md.slot (g, xs, cap, ()) ts (j * 2 + 1) = s1 := ⟨_, rfl⟩
          have HU := hid (Md.token_parts (l := (g, xs, cap, ())) hjl hE hs0 hs1)
          have HE0 : Hid (Sl.slot (Md.wants g ts) nx cap (j * 2 + 0) = s0) := by show _ = _; rw [← hs0, ← HLX.out]; rfl
          have HE1 : Hid (Sl.slot (Md.wants g ts) nx cap (j * 2 + 1) = s1) := by show _ = _; rw [← hs1, ← HLX.out]; rfl
          have hR := Row.of_rep hr
          have hgW := Shape.below HG.out hBw
          have HC : Hid (∀ u, Below wr.heap.size wr u → Calls Tryz.prog 66 #[.slice ag ng cg, .slice A (ts.getD j []).length C] u fun e w' => e = .returned (.tuple #[.agg #[.int .i64 p, .int .i64 q, .int .i64 r, .int .i64 s], .bool true]) ∧ Below u.heap.size u w') := fun u hu => rchoose ag A ng cg (ts.getD j []).length C g _ everywhere p q r s true u (Shape.below hgW hu) (hR.keep hu) hng hv9 hI
          have hn9 : n ≤ 100 := by have := HN.out; have := Md.upto_len (g, xs, cap, ()) ts (j * 2); omega
          have hnl : (Md.upto (g, xs, cap, ()) ts (j * 2)).length = n := HN.out
          clear hE hs0 hs1 hI hr hR hgW hp hq hr2 hs
          generalize Md.upto (g, xs, cap, ()) ts (j * 2) = U at *
          generalize (ts.getD j []).length = nv at *
          have HN2 : Hid (U.length = n) := hnl
          clear hnl HN
          have hkb := HKL.out.1.keep hbel
          have p0 := hkb.cell 0 rfl
          have hD : Below wr.heap.size wr wr.drew := (Below.refl _ wr).drew
          have hD2 : Below wr.heap.size wr (wr.alloc (.cells #[.int .i64 0, .int .i64 0, .int .i64 0, .int .i64 0] 106)).drew := (new_bel wr _).drew
          have kZ : Box (wr.alloc (.cells #[.int .i64 0, .int .i64 0, .int .i64 0, .int .i64 0] 106)).drew wr.heap.size 106 #[.int .i64 0, .int .i64 0, .int .i64 0, .int .i64 0] := Box.new wr _ _
          have ra0 : ∀ o, (wr.alloc o).cell? ⟨w.heap.size, 0, none⟩ = some (.slice ag ng cg) := fun o => (hkb.keep (new_bel wr o)).cell 0 rfl
          have rc0 : ∀ o, (wr.alloc o).cell? ⟨b1, o1 + j, none⟩ = some (.slice A nv C) := fun o => ((new_bel wr o).cell (World.block_lt_of_cell? wr _ c0)).trans c0
          go_upto_region 12 with fail
          go_cut [12, 13] from 36 to 87 (fun v12 v13 wx => ∃ G, v12 = .pointer (some ⟨G, 0, none⟩) ∧ v13 = .bool true ∧ wr.heap.size ≤ G ∧ Box wx G 106 #[.int .i64 p, .int .i64 q, .int .i64 r, .int .i64 s] ∧ Below wr.heap.size wr wx)
          case first =>
            rename_i Jx Kx hRJ hMK
            go_region_with
              (go_at_call 66; refine (HC.out _ (by first | exact hD | exact hD2)).mono ?_; rintro e u4 ⟨rfl, hb4⟩; try (have kY := kZ.keep hb4; have y0 := kY.cell 0 rfl; have y1 := kY.cell 1 rfl; have y2 := kY.cell 2 rfl; have y3 := kY.cell 3 rfl; have g0 := kY.free 0; have g1 := kY.free 1; have g2 := kY.free 2; have g3 := kY.free 3))
            all_goals
              refine hMK _ _ (Met.intro (hRJ _ _ ?_))
              (repeat apply Exists.intro)
              refine ⟨?_, rfl⟩
              first
                | exact ⟨u4.heap.size, rfl, rfl, (bel_then hD hb4).size, Box.new u4 _ _, bel_alloc (bel_then hD hb4) _⟩
                | exact ⟨wr.heap.size, rfl, rfl, Nat.le_refl _, kY.all4 _ _ _ _, bel_all4 (bel_then hD2 hb4) (Nat.le_refl _) _ _ _ _⟩
          case rest =>
            obtain ⟨G, rfl, rfl, hG, hKC, hbC⟩ := hcut
            have hownW := hown.keep hbC
            have hbelA := bel_then hbel hbC
            have HVL : Hid (∀ b, Value.ownBlock (.slice a n c) = some b → b < wr.heap.size) := fun b hb => (hown.lt b hb).2
            have HKC : Hid (Box wc G 106 #[.int .i64 p, .int .i64 q, .int .i64 r, .int .i64 s]) := hKC
            have HKW : Hid (Box wc w.heap.size 65 #[.slice ag ng cg, .slice ax nx cx, .int .i64 cap] ∧ w.heap.size < V.heap.size) := ⟨HKL.out.1.keep hbelA, HKL.out.1.lt⟩
            have d0 := hKC.cell 0 rfl
            have d2 := hKC.cell 2 rfl
            have e1 := HKW.out.1.cell 1 rfl
            have e2 := HKW.out.1.cell 2 rfl
            have hszA : ∀ o, V.heap.size ≤ (wc.alloc o).heap.size := fun o => by have := hbelA.size; simp; omega
            have HS0 : Hid (Calls Tryz.prog 67 #[.slice fa k fc, .int .i64 (nx : Int), .int .i64 cap, .int .i64 (j : Int), .int .i64 0] wc fun e w' => e = .returned (.int .i64 s0) ∧ w' = wc) := rslot fa k fc (Md.wants g ts) nx cap j 0 s0 wc (HFL.out.keep hbelA) (by omega) hjt (by omega) HE0.out
            obtain ⟨n1, hn1⟩ : ∃ n1, U.length + 1 = n1 := ⟨_, rfl⟩
            have HN1 : Hid (U.length + 1 = n1) := hn1
            have hsm : U.length + 1 ≤ 100000 := by have := HN2.out; omega
            clear hn1 hown hbel hbC hKC p0 hD hD2 kZ ra0 rc0 c0 hkb HC
            by_cases z0 : 0 ≤ s0
            · rw [if_pos z0] at HU
              have src1 := (hownW.psrc (j : Int) 0 p r)
              have hownA1 := hownW.keep (new_bel wc (.cells #[.int .i64 (j : Int), .int .i64 0, .int .i64 p, .int .i64 r] 84))
              have HBA : Hid (Below V.heap.size V wc) := hbelA
              clear hownW hbelA
              go_wp2_with fail
              refine by_same HS0.out ?_
              go_upto_region 15 with (at_builtin; (refine wpList_appK ptS (by simp [Region.wanted]) (.tmp 61) (.tmp 68) 61 rfl V.heap.size 84 j0 _ 32 Tryz.underlying61 hj0 hj1 hj2 hj3 rfl (by show 0 < 4; omega) (by omega) (by rfl) hownA1 (by rfl) src1.1 src1.2 hsm (hszA _) n1 HN1.out (U ++ [pt j 0 p r]) rfl ?_; intro a4 c4 u4 ho4 hg4 hb4 hat4))
              have kl := (HKW.out.1.keep (new_bel wc (.cells #[.int .i64 (j : Int), .int .i64 0, .int .i64 p, .int .i64 r] 84))).below hb4 (HKW.out.2)
              have k1 := (HKC.out.keep (new_bel wc (.cells #[.int .i64 (j : Int), .int .i64 0, .int .i64 p, .int .i64 r] 84))).grown hg4 (fun e => by have := HVL.out _ e.symm; omega)
              have hbelX := (bel_alloc HBA.out (.cells #[.int .i64 (j : Int), .int .i64 0, .int .i64 p, .int .i64 r] 84)).trans hb4
              have hownX := ho4
              have HNX : Hid ((U ++ [pt j 0 p r]).length = n1) := by show _ = _; rw [List.length_append]; exact HN1.out
              have hn19 : n1 ≤ 101 := by have := HN1.out; have := HN2.out; omega
              clear ho4 hg4 hb4 hat4 src1 hownA1 d0 d2 e1 e2
              generalize U ++ [pt j 0 p r] = U5 at *
              have y1 := kl.cell 1 rfl
              have y2 := kl.cell 2 rfl
              have v1 := k1.cell 1 rfl
              have v3 := k1.cell 3 rfl
              have hszX : ∀ o, V.heap.size ≤ (u4.alloc o).heap.size := fun o => by have := hbelX.size; simp; omega
              obtain ⟨n2, hn2⟩ : ∃ n2, U5.length + 1 = n2 := ⟨_, rfl⟩
              have HN2' : Hid (U5.length + 1 = n2) := hn2
              have hsm2 : U5.length + 1 ≤ 100000 := by have := HNX.out; omega
              have HS1 : Hid (Calls Tryz.prog 67 #[.slice fa k fc, .int .i64 (nx : Int), .int .i64 cap, .int .i64 (j : Int), .int .i64 1] u4 fun e w' => e = .returned (.int .i64 s1) ∧ w' = u4) := rslot fa k fc (Md.wants g ts) nx cap j 1 s1 u4 (HFL.out.keep hbelX) (by omega) hjt (by omega) HE1.out
              clear hn2
              by_cases z1 : 0 ≤ s1
              · rw [if_pos z1] at HU
                have src2 := (hownX.psrc (j : Int) 1 q s)
                have hownX1 := hownX.keep (new_bel u4 (.cells #[.int .i64 (j : Int), .int .i64 1, .int .i64 q, .int .i64 s] 84))
                have HBX : Hid (Below V.heap.size V u4) := hbelX
                clear hownX hbelX kl k1
                go_wp2_with fail
                refine by_same HS1.out ?_
                go_wp2_with (at_builtin; (refine wpList_appK ptS (by simp [Region.wanted]) (.tmp 79) (.tmp 86) 61 rfl V.heap.size 84 j0 _ 32 Tryz.underlying61 hj0 hj1 hj2 hj3 rfl (by show 0 < 4; omega) (by omega) (by rfl) hownX1 (by rfl) src2.1 src2.2 hsm2 (hszX _) n2 HN2'.out (U5 ++ [pt j 1 q s]) rfl ?_; intro a6 c6 u6 ho6 hg6 hb6 hat6))
                have HR6 : Hid _ := And.intro ho6 ((bel_alloc HBX.out (.cells #[.int .i64 (j : Int), .int .i64 1, .int .i64 q, .int .i64 s] 84)).trans hb6)
                clear ho6 hg6 hb6 hat6 src2 hownX1 y1 y2 v1 v3
                go_roundw
                case rel => exact ⟨j + 1, n2, a6, c6, by omega, rfl, by go_num, by show _ = _; rw [HU.out, List.length_append]; exact HN2'.out, by rw [HU.out]; exact HR6.out.1, HR6.out.2⟩
                case measure => simp [intOf]; omega
              · rw [if_neg z1, List.append_nil] at HU
                have HR6 : Hid _ := And.intro hownX hbelX
                clear hownX hbelX kl k1
                go_wp2_with fail
                refine by_same HS1.out ?_
                go_wp2
                go_roundw
                case rel => exact ⟨j + 1, n1, a4, c4, by omega, rfl, by go_num, by show _ = _; rw [HU.out]; exact HNX.out, by rw [HU.out]; exact HR6.out.1, HR6.out.2⟩
                case measure => simp [intOf]; omega
            · rw [if_neg z0, List.append_nil] at HU
              go_wp2_with fail
              refine by_same HS0.out ?_
              go_upto_region 15 with fail
              have kl := HKW.out.1
              have k1 := HKC.out
              have hbelX := hbelA
              have hownX := hownW
              have HNX := HN2
              clear hbelA hownW d0 d2 e1 e2
              have y1 := kl.cell 1 rfl
              have y2 := kl.cell 2 rfl
              have v1 := k1.cell 1 rfl
              have v3 := k1.cell 3 rfl
              have hszX : ∀ o, V.heap.size ≤ (wc.alloc o).heap.size := fun o => by have := hbelX.size; simp; omega
              obtain ⟨n2, hn2⟩ : ∃ n2, U.length + 1 = n2 := ⟨_, rfl⟩
              have HN2' : Hid (U.length + 1 = n2) := hn2
              have hsm2 : U.length + 1 ≤ 100000 := by have := HNX.out; omega
              have HS1 : Hid (Calls Tryz.prog 67 #[.slice fa k fc, .int .i64 (nx : Int), .int .i64 cap, .int .i64 (j : Int), .int .i64 1] wc fun e w' => e = .returned (.int .i64 s1) ∧ w' = wc) := rslot fa k fc (Md.wants g ts) nx cap j 1 s1 wc (HFL.out.keep hbelX) (by omega) hjt (by omega) HE1.out
              clear hn2
              by_cases z1 : 0 ≤ s1
              · rw [if_pos z1] at HU
                have src2 := (hownX.psrc (j : Int) 1 q s)
                have hownX1 := hownX.keep (new_bel wc (.cells #[.int .i64 (j : Int), .int .i64 1, .int .i64 q, .int .i64 s] 84))
                have HBX : Hid (Below V.heap.size V wc) := hbelX
                clear hownX hbelX kl k1
                go_wp2_with fail
                refine by_same HS1.out ?_
                go_wp2_with (at_builtin; (refine wpList_appK ptS (by simp [Region.wanted]) (.tmp 79) (.tmp 86) 61 rfl V.heap.size 84 j0 _ 32 Tryz.underlying61 hj0 hj1 hj2 hj3 rfl (by show 0 < 4; omega) (by omega) (by rfl) hownX1 (by rfl) src2.1 src2.2 hsm2 (hszX _) n2 HN2'.out (U ++ [pt j 1 q s]) rfl ?_; intro a6 c6 u6 ho6 hg6 hb6 hat6))
                have HR6 : Hid _ := And.intro ho6 ((bel_alloc HBX.out (.cells #[.int .i64 (j : Int), .int .i64 1, .int .i64 q, .int .i64 s] 84)).trans hb6)
                clear ho6 hg6 hb6 hat6 src2 hownX1 y1 y2 v1 v3
                go_roundw
                case rel => exact ⟨j + 1, n2, a6, c6, by omega, rfl, by go_num, by show _ = _; rw [HU.out, List.length_append]; exact HN2'.out, by rw [HU.out]; exact HR6.out.1, HR6.out.2⟩
                case measure => simp [intOf]; omega
              · rw [if_neg z1, List.append_nil] at HU
                have HR6 : Hid _ := And.intro hownX hbelX
                clear hownX hbelX kl k1
                go_wp2_with fail
                refine by_same HS1.out ?_
                go_wp2
                go_roundw
                case rel => exact ⟨j + 1, n, a, c, by omega, rfl, by go_num, by show _ = _; rw [HU.out]; exact HNX.out, by rw [HU.out]; exact HR6.out.1, HR6.out.2⟩
                case measure => simp [intOf]; omega
        · have hjk : j = k := by omega
          subst hjk
          have hji : ¬ (j : Int) < (j : Int) := by omega
          have hR := hown.is
          have e9 : Md.upto (g, xs, cap, ()) ts (j * 2) = Md.parts (g, xs, cap, ()) ts := by unfold Md.parts; rw [HL.out]
          rw [e9] at hR
          have HR9 : Hid _ := And.intro hBw hR
          clear hown hbel e9 hR
          go_wp2
          go_ret
          exact ⟨HR9.out.1, a, n, c, rfl, HR9.out.2⟩

end Go.Proofs.YtfidgcanolegfaaGreat
