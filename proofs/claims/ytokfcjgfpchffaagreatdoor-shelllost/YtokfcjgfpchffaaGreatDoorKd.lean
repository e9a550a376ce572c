/- 5 texts as one, in their order: MdlW, MdlX, MdlZ, MdlG, MdlH. -/
import Derived.Test.YtokfcjgfpchffaaGreatDoorKu
import Derived.Test.YtokfcjgfpchffaaGreatDoorLm

/- The fixed answer of layer 15's statements. -/
namespace Go.Proofs.YtokfcjgfpchffaaGreatDoor
open Go.ChangeShapes Go.WideShapes Go.ChangeAt Go.RowKit

namespace Md
end Md

end Go.Proofs.YtokfcjgfpchffaaGreatDoor

/- What the statements of layer 15 want besides the contracts. -/
namespace Go.Proofs.YtokfcjgfpchffaaGreatDoor
open Go.ChangeShapes Go.WideShapes Go.ChangeAt Go.RowKit

namespace Md
end Md

end Go.Proofs.YtokfcjgfpchffaaGreatDoor

/- Slices that the call owns, within structs in variables (no program in sight): what is written into a variable leaves the slices whose elements lead elsewhere; a piece of one element. -/
namespace Go.Proofs.YtokfcjgfpchffaaGreatDoor
open Go.ChangeShapes Go.WideShapes Go.ChangeAt Go.RowKit

namespace Md
end Md

end Go.Proofs.YtokfcjgfpchffaaGreatDoor

/- What the document's Parts of layer 15 does when called. -/
namespace Go.Proofs.YtokfcjgfpchffaaGreatDoor
open Go.ChangeShapes Go.WideShapes Go.ChangeAt Go.RowKit

theorem Tryz.infoRpart : (Tryz.prog.info? 77).map (fun i => (i.zero, i.size, i.bytes)) = some (some (.agg #[.int .i64 0, .int .i64 0, .int .i64 0, .int .i64 0]), 4, 32) := by kernel_rfl
theorem Md.pairs_take (g : List (List Int)) {ts : List (List Int)} {k : Nat} (h : k < ts.length) {p q : Int} (hp : Md.first g (ts.getD k []) = p) (hq : Md.second g (ts.getD k []) = q) : (Md.pairs g ts).take k ++ [(p, q, ())] = (Md.pairs g ts).take (k + 1) := by
  have h2 : k < (Md.pairs g ts).length := by rw [Md.pairs_len]; exact h
  rw [List.take_succ_eq_append_getElem h2, ← get_of h2 (0, 0, ()), Md.pairs_at g h, hp, hq]

set_option maxHeartbeats 4000000 in
set_option maxRecDepth 100000 in
theorem rmparts (ag : Option Addr) (ng cg : Nat) (ax : Option Addr) (nx cx : Nat) (g : List (List Int)) (xs : List Xp) (cap dim : Int) (b : Option Addr) (m d : Nat) (ts : List (List Int)) (w : World) (hg : matS.rep w everywhere [.slice ag ng cg] g) (hx : xpsS.rep w everywhere [.slice ax nx cx] xs)
    (ht : matS.rep w everywhere [.slice b m d] ts) (hL : Md.LRight (g, xs, cap, ()) dim) (hd : dim ≤ 8) (hT : Md.TRight dim ts) :
    Calls Tryz.prog 36 #[.agg #[.slice ag ng cg, .slice ax nx cx, .int .i64 cap], .slice b m d] w fun e w' => Below w.heap.size w w' ∧ ∃ a' n' c', e = .returned (.slice a' n' c') ∧ ptsS.rep w' everywhere [.slice a' n' c'] (Md.parts (g, xs, cap, ()) ts) := by
  have hlt0 := (sliceS_len ht).1
  have hlx := (sliceS_len hx).1
  have hlg := (sliceS_len hg).1
  have hm : m ≤ 16 := by have := hT.2.1; omega
  have hng : ng ≤ 1000 := by have h7 : g.length = xs.length := hL.gate; have h8 : xs.length ≤ 8 := hL.2.1; omega
  have HP : Hid (Md.Picks g ts) := Md.picks hL hT hd
  have HL : Hid (ts.length = m) := hlt0
  have HLX : Hid (xs.length = nx) := hlx
  have HG : Hid (matS.rep w everywhere [.slice ag ng cg] g) := hg
  have HT : Hid (matS.rep w everywhere [.slice b m d] ts) := ht
  have hB := new_bel w (.cells #[.slice ag ng cg, .slice ax nx cx, .int .i64 cap] 37)
  have q0 := Box.new w 37 #[.slice ag ng cg, .slice ax nx cx, .int .i64 cap]
  have HQ0 : Hid _ := And.intro q0 hB
  obtain ⟨i0, hi0, hi1, hi2, hi3⟩ := info_parts Tryz.infoPair
  obtain ⟨j0, hj0, hj1, hj2, hj3⟩ := info_parts Tryz.infoRpart
  clear hlt0 hlx hlg hg hx ht hL hT hd q0 hB
  go_enter Tryz.func36, Tryz.ntmps36
  go_wp2
  go_loopw [5, 16] (fun v i wr => ∃ (k : Nat) (wa : Option Addr) (wc : Nat), k ≤ m ∧ v = .slice wa k wc ∧ i = .int .i64 k ∧ Own prS wr (w.heap.size + 1) 119 (.slice wa k wc) ((Md.pairs g ts).take k) ∧ Box wr w.heap.size 37 #[.slice ag ng cg, .slice ax nx cx, .int .i64 cap] ∧ Below w.heap.size w wr) (fun _ i _ => m - (intOf i).toNat)
  case atStart => exact ⟨0, none, 0, Nat.zero_le _, rfl, rfl, by rw [List.take_zero]; exact Own.nil _ _ _ _, HQ0.out.1, HQ0.out.2⟩
  case round =>
    clear HQ0
    obtain ⟨k, fa, fc, hk, rfl, rfl, hown, hbox, hbel⟩ := hrel
    obtain ⟨W0, hW0⟩ : ∃ W0, W0 = wr := ⟨_, rfl⟩
    subst hW0
    by_cases hlt : k < m
    · obtain ⟨b1, o1, A, C, rfl, _, c0, hr⟩ := mat_at (Shape.below HT.out hbel) hlt
      have hli : (k : Int) < (m : Int) := by omega
      have hk0 : (0 : Int) ≤ (k : Int) := by omega
      have hkl : k < ts.length := by have := HL.out; omega
      obtain ⟨hI, hv9⟩ := HP.out _ (Mx.getD_mem ts k hkl)
      obtain ⟨p, hp⟩ : ∃ p, Md.first g (ts.getD k []) = p := ⟨_, rfl⟩
      obtain ⟨q, hq⟩ : ∃ q, Md.second g (ts.getD k []) = q := ⟨_, rfl⟩
      obtain ⟨r, hr2⟩ : ∃ r, Md.w1 g (ts.getD k []) = r := ⟨_, rfl⟩
      obtain ⟨s, hs⟩ : ∃ s, Md.w2 g (ts.getD k []) = s := ⟨_, rfl⟩
      have HPT : Hid ((Md.pairs g ts).take k ++ [(p, q, ())] = (Md.pairs g ts).take (k + 1)) := Md.pairs_take g hkl hp hq
      have HPL : Hid (((Md.pairs g ts).take k).length + 1 = k + 1) := by show _ = _; rw [List.length_take, Md.pairs_len]; omega
      rw [hp, hq, hr2, hs] at hI
      have HC : Hid (Calls _ _ _ _ _) := rchoose ag A ng cg (ts.getD k []).length C g _ everywhere p q r s true W0 (Shape.below HG.out hbel) (Row.of_rep hr) hng hv9 hI
      have p0 := hbox.cell 0 rfl
      clear hp hq hr2 hs hI hr
      generalize ts.getD k [] = v at *
      go_wp2_with fail
      refine HC.out.mono ?_
      rintro e u1 ⟨rfl, hb1⟩
      have hbn := new_bel u1 (.cells #[.int .i64 p, .int .i64 q, .int .i64 r, .int .i64 s] 116)
      have hd1 := bel_then hb1 hbn
      have hownX := hown.keep hd1
      have hboxX := hbox.keep hd1
      have hbelX := bel_then hbel hd1
      have kc := Box.new u1 116 #[.int .i64 p, .int .i64 q, .int .i64 r, .int .i64 s]
      have hlt9 := (hbox.lt)
      go_upto_region 6 with fail
      clear p0 hown hbox hbel hb1 hbn hd1 HC c0
      generalize u1.alloc (.cells #[.int .i64 p, .int .i64 q, .int .i64 r, .int .i64 s] 116) = X at *
      have y0 := kc.cell 0 rfl
      have y1 := kc.cell 1 rfl
      have src := hownX.esrc (pr_rep X (fun _ => False) p q) (fun b hb => hb.elim)
      have ho3 := hownX.keep (new_bel X (.cells #[.int .i64 p, .int .i64 q] 119))
      have hsm : ((Md.pairs g ts).take k).length + 1 ≤ 100000 := by rw [HPL.out]; omega
      have hbs : ∀ o, w.heap.size + 1 ≤ (X.alloc o).heap.size := fun o => by have := hboxX.lt; simp; omega
      have hNe : some w.heap.size ≠ Value.ownBlock (.slice fa k fc) := fun h => by have := (hownX.lt _ h.symm).1; omega
      have kb2 := hboxX.keep (new_bel X (.cells #[.int .i64 p, .int .i64 q] 119))
      clear hownX
      go_wp2_with (at_builtin; (refine wpList_appK prS (by simp [Region.wanted]) (.tmp 27) (.tmp 33) 114 rfl (w.heap.size + 1) 119 i0 _ 16 Tryz.underlying114 hi0 hi1 hi2 hi3 rfl (by show 0 < 2; omega) (by omega) (by rfl) ho3 (by rfl) src.1 src.2 hsm (hbs _) (k + 1) HPL.out _ HPT.out ?_; intro a6 c6 u6 ho6 hg6 hb6 hat6))
      have HR6 : Hid _ := And.intro ho6 (And.intro (kb2.grown hg6 hNe) ((bel_alloc hbelX (.cells #[.int .i64 p, .int .i64 q] 119)).trans (hb6.mono (by omega))))
      clear ho6 hg6 hb6 hat6 src ho3 kb2 y0 y1 kc hboxX hbelX
      go_roundw
      case rel => exact ⟨k + 1, a6, c6, by omega, rfl, by go_num, HR6.out.1, HR6.out.2.1, HR6.out.2.2⟩
      case measure => simp [intOf]; omega
    · have hkn : k = m := by omega
      subst hkn
      have hli : ¬ (k : Int) < (k : Int) := by omega
      rw [List.take_of_length_le (by rw [Md.pairs_len]; have := HL.out; omega)] at hown
      have hfl := Flat.of_rep hown.is
      rw [Md.pairs_flat] at hfl
      obtain ⟨V, hV⟩ : ∃ V, V = W0 := ⟨_, rfl⟩
      subst hV
      have HFL : Hid (Flat V fa k (Md.wants g ts)) := hfl
      have HKL : Hid (Box V w.heap.size 37 #[.slice ag ng cg, .slice ax nx cx, .int .i64 cap] ∧ Below w.heap.size w V) := ⟨hbox, hbel⟩
      clear hown hfl hbox hbel
      go_wp2
      go_loopw [10, 11] (fun v i wr => ∃ (j n : Nat) (a : Option Addr) (c : Nat), j ≤ k ∧ v = .slice a n c ∧ i = .int .i64 j ∧ Hid ((Md.upto (g, xs, cap, ()) ts (j * 2)).length = n) ∧ Own ptS wr V.heap.size 77 (.slice a n c) (Md.upto (g, xs, cap, ()) ts (j * 2)) ∧ Below V.heap.size V wr) (fun _ i _ => k - (intOf i).toNat)
      case atStart => exact ⟨0, 0, none, 0, Nat.zero_le _, rfl, rfl, rfl, Own.nil _ _ _ _, Below.refl _ _⟩
      case round =>
        obtain ⟨j, n, a, c, hj, rfl, rfl, HN, hown, hbel⟩ := hrel
        have hBw := bel_then HKL.out.2 hbel
        by_cases hjt : j < k
        · obtain ⟨b1, o1, A, C, rfl, _, c0, hr⟩ := mat_at (Shape.below HT.out hBw) hjt
          have hji : (j : Int) < (k : Int) := by omega
          have hj00 : (0 : Int) ≤ (j : Int) := by omega
          have hjl : j < ts.length := by have := HL.out; omega
          obtain ⟨hI, hv9⟩ := HP.out _ (Mx.getD_mem ts j hjl)
          have hE := Md.chosen_at g hjl
          obtain ⟨p, hp⟩ : ∃ p, Md.first g (ts.getD j []) = p := ⟨_, rfl⟩
          obtain ⟨q, hq⟩ : ∃ q, Md.second g (ts.getD j []) = q := ⟨_, rfl⟩
          obtain ⟨r, hr2⟩ : ∃ r, Md.w1 g (ts.getD j []) = r := ⟨_, rfl⟩
          obtain ⟨s, hs⟩ : ∃ s, Md.w2 g (ts.getD j []) = s := ⟨_, rfl⟩
          rw [hp, hq, hr2, hs] at hI hE
          obtain ⟨s0, hs0⟩ : ∃ s0, Md.slot (g, xs, cap, ()) ts (j * 2) = s0 := ⟨_, rfl⟩
          obtain ⟨s1, hs1⟩ : ∃ s1, Md.slot (g, xs, cap, ()) ts (j * 2 + 1) = s1 := ⟨_, rfl⟩
          have HU := hid (Md.token_parts (l := (g, xs, cap, ())) hjl hE hs0 hs1)
          have HE0 : Hid (Sl.slot (Md.wants g ts) nx cap (j * 2 + 0) = s0) := by show _ = _; rw [← hs0, ← HLX.out]; rfl
          have HE1 : Hid (Sl.slot (Md.wants g ts) nx cap (j * 2 + 1) = s1) := by show _ = _; rw [← hs1, ← HLX.out]; rfl
          have hR := Row.of_rep hr
          have hgW := Shape.below HG.out hBw
          have HC : Hid (∀ u, Below wr.heap.size wr u → Calls Tryz.prog 69 #[.slice ag ng cg, .slice A (ts.getD j []).length C] u fun e w' => e = .returned (.tuple #[.agg #[.int .i64 p, .int .i64 q, .int .i64 r, .int .i64 s], .bool true]) ∧ Below u.heap.size u w') := fun u hu => rchoose ag A ng cg (ts.getD j []).length C g _ everywhere p q r s true u (Shape.below hgW hu) (hR.keep hu) hng hv9 hI
          have hn9 : n ≤ 100 := by have := HN.out; have := Md.upto_len (g, xs, cap, ()) ts (j * 2); omega
          have hnl : (Md.upto (g, xs, cap, ()) ts (j * 2)).length = n := HN.out
          clear hE hs0 hs1 hI hr hR hgW hp hq hr2 hs
          generalize Md.upto (g, xs, cap, ()) ts (j * 2) = U at *
          generalize (ts.getD j []).length = nv at *
          have HN2 : Hid (U.length = n) := hnl
          clear hnl HN
          have hkb := HKL.out.1.keep hbel
          have p0 := hkb.cell 0 rfl
          have hD : Below wr.heap.size wr wr.drew := (Below.refl _ wr).drew
          have hD2 : Below wr.heap.size wr (wr.alloc (.cells #[.int .i64 0, .int .i64 0, .int .i64 0, .int .i64 0] 116)).drew := (new_bel wr _).drew
          have kZ : Box (wr.alloc (.cells #[.int .i64 0, .int .i64 0, .int .i64 0, .int .i64 0] 116)).drew wr.heap.size 116 #[.int .i64 0, .int .i64 0, .int .i64 0, .int .i64 0] := Box.new wr _ _
          have ra0 : ∀ o, (wr.alloc o).cell? ⟨w.heap.size, 0, none⟩ = some (.slice ag ng cg) := fun o => (hkb.keep (new_bel wr o)).cell 0 rfl
          have rc0 : ∀ o, (wr.alloc o).cell? ⟨b1, o1 + j, none⟩ = some (.slice A nv C) := fun o => ((new_bel wr o).cell (World.block_lt_of_cell? wr _ c0)).trans c0
          go_upto_region 12 with fail
          go_cut [12, 13] from 36 to 87 (fun v12 v13 wx => ∃ G, v12 = .pointer (some ⟨G, 0, none⟩) ∧ v13 = .bool true ∧ wr.heap.size ≤ G ∧ Box wx G 116 #[.int .i64 p, .int .i64 q, .int .i64 r, .int .i64 s] ∧ Below wr.heap.size wr wx)
          case first =>
            rename_i Jx Kx hRJ hMK
            go_region_with
              (go_at_call 69; refine (HC.out _ (by first | exact hD | exact hD2)).mono ?_; rintro e u4 ⟨rfl, hb4⟩; try (have kY := kZ.keep hb4; have y0 := kY.cell 0 rfl; have y1 := kY.cell 1 rfl; have y2 := kY.cell 2 rfl; have y3 := kY.cell 3 rfl; have g0 := kY.free 0; have g1 := kY.free 1; have g2 := kY.free 2; have g3 := kY.free 3))
            all_goals
              refine hMK _ _ (Met.intro (hRJ _ _ ?_))
              (repeat apply Exists.intro)
              refine ⟨?_, rfl⟩
              first
                | exact ⟨u4.heap.size, rfl, rfl, (bel_then hD hb4).size, Box.new u4 _ _, bel_alloc (bel_then hD hb4) _⟩
                | exact ⟨wr.heap.size, rfl, rfl, Nat.le_refl _, kY.all4 _ _ _ _, bel_all4 (bel_then hD2 hb4) (Nat.le_refl _) _ _ _ _⟩
          case rest =>
            obtain ⟨G, rfl, rfl, hG, hKC, hbC⟩ := hcut
            have hownW := hown.keep hbC
            have hbelA := bel_then hbel hbC
            have HVL : Hid (∀ b, Value.ownBlock (.slice a n c) = some b → b < wr.heap.size) := fun b hb => (hown.lt b hb).2
            have HKC : Hid (Box wc G 116 #[.int .i64 p, .int .i64 q, .int .i64 r, .int .i64 s]) := hKC
            have HKW : Hid (Box wc w.heap.size 37 #[.slice ag ng cg, .slice ax nx cx, .int .i64 cap] ∧ w.heap.size < V.heap.size) := ⟨HKL.out.1.keep hbelA, HKL.out.1.lt⟩
            have d0 := hKC.cell 0 rfl
            have d2 := hKC.cell 2 rfl
            have e1 := HKW.out.1.cell 1 rfl
            have e2 := HKW.out.1.cell 2 rfl
            have hszA : ∀ o, V.heap.size ≤ (wc.alloc o).heap.size := fun o => by have := hbelA.size; simp; omega
            have HS0 : Hid (Calls Tryz.prog 70 #[.slice fa k fc, .int .i64 (nx : Int), .int .i64 cap, .int .i64 (j : Int), .int .i64 0] wc fun e w' => e = .returned (.int .i64 s0) ∧ w' = wc) := rslot fa k fc (Md.wants g ts) nx cap j 0 s0 wc (HFL.out.keep hbelA) (by omega) hjt (by omega) HE0.out
            obtain ⟨n1, hn1⟩ : ∃ n1, U.length + 1 = n1 := ⟨_, rfl⟩
            have HN1 : Hid (U.length + 1 = n1) := hn1
            have hsm : U.length + 1 ≤ 100000 := by have := HN2.out; omega
            clear hn1 hown hbel hbC hKC p0 hD hD2 kZ ra0 rc0 c0 hkb HC
            by_cases z0 : 0 ≤ s0
            · rw [if_pos z0] at HU
              have src1 := (hownW.psrc (j : Int) 0 p r)
              have hownA1 := hownW.keep (new_bel wc (.cells #[.int .i64 (j : Int), .int .i64 0, .int .i64 p, .int .i64 r] 77))
              have HBA : Hid (Below V.heap.size V wc) := hbelA
              clear hownW hbelA
              go_wp2_with fail
              refine by_same HS0.out ?_
              go_upto_region 15 with (at_builtin; (refine wpList_appK ptS (by simp [Region.wanted]) (.tmp 61) (.tmp 68) 74 rfl V.heap.size 77 j0 _ 32 Tryz.underlying74 hj0 hj1 hj2 hj3 rfl (by show 0 < 4; omega) (by omega) (by rfl) hownA1 (by rfl) src1.1 src1.2 hsm (hszA _) n1 HN1.out (U ++ [pt j 0 p r]) rfl ?_; intro a4 c4 u4 ho4 hg4 hb4 hat4))
              have kl := (HKW.out.1.keep (new_bel wc (.cells #[.int .i64 (j : Int), .int .i64 0, .int .i64 p, .int .i64 r] 77))).below hb4 (HKW.out.2)
              have k1 := (HKC.out.keep (new_bel wc (.cells #[.int .i64 (j : Int), .int .i64 0, .int .i64 p, .int .i64 r] 77))).grown hg4 (fun e => by have := HVL.out _ e.symm; omega)
              have hbelX := (bel_alloc HBA.out (.cells #[.int .i64 (j : Int), .int .i64 0, .int .i64 p, .int .i64 r] 77)).trans hb4
              have hownX := ho4
              have HNX : Hid ((U ++ [pt j 0 p r]).length = n1) := by show _ = _; rw [List.length_append]; exact HN1.out
              have hn19 : n1 ≤ 101 := by have := HN1.out; have := HN2.out; omega
              clear ho4 hg4 hb4 hat4 src1 hownA1 d0 d2 e1 e2
              generalize U ++ [pt j 0 p r] = U5 at *
              have y1 := kl.cell 1 rfl
              have y2 := kl.cell 2 rfl
              have v1 := k1.cell 1 rfl
              have v3 := k1.cell 3 rfl
              have hszX : ∀ o, V.heap.size ≤ (u4.alloc o).heap.size := fun o => by have := hbelX.size; simp; omega
              obtain ⟨n2, hn2⟩ : ∃ n2, U5.length + 1 = n2 := ⟨_, rfl⟩
              have HN2' : Hid (U5.length + 1 = n2) := hn2
              have hsm2 : U5.length + 1 ≤ 100000 := by have := HNX.out; omega
              have HS1 : Hid (Calls Tryz.prog 70 #[.slice fa k fc, .int .i64 (nx : Int), .int .i64 cap, .int .i64 (j : Int), .int .i64 1] u4 fun e w' => e = .returned (.int .i64 s1) ∧ w' = u4) := rslot fa k fc (Md.wants g ts) nx cap j 1 s1 u4 (HFL.out.keep hbelX) (by omega) hjt (by omega) HE1.out
              clear hn2
              by_cases z1 : 0 ≤ s1
              · rw [if_pos z1] at HU
                have src2 := (hownX.psrc (j : Int) 1 q s)
                have hownX1 := hownX.keep (new_bel u4 (.cells #[.int .i64 (j : Int), .int .i64 1, .int .i64 q, .int .i64 s] 77))
                have HBX : Hid (Below V.heap.size V u4) := hbelX
                clear hownX hbelX kl k1
                go_wp2_with fail
                refine by_same HS1.out ?_
                go_wp2_with (at_builtin; (refine wpList_appK ptS (by simp [Region.wanted]) (.tmp 79) (.tmp 86) 74 rfl V.heap.size 77 j0 _ 32 Tryz.underlying74 hj0 hj1 hj2 hj3 rfl (by show 0 < 4; omega) (by omega) (by rfl) hownX1 (by rfl) src2.1 src2.2 hsm2 (hszX _) n2 HN2'.out (U5 ++ [pt j 1 q s]) rfl ?_; intro a6 c6 u6 ho6 hg6 hb6 hat6))
                have HR6 : Hid _ := And.intro ho6 ((bel_alloc HBX.out (.cells #[.int .i64 (j : Int), .int .i64 1, .int .i64 q, .int .i64 s] 77)).trans hb6)
                clear ho6 hg6 hb6 hat6 src2 hownX1 y1 y2 v1 v3
                go_roundw
                case rel => exact ⟨j + 1, n2, a6, c6, by omega, rfl, by go_num, by show _ = _; rw [HU.out, List.length_append]; exact HN2'.out, by rw [HU.out]; exact HR6.out.1, HR6.out.2⟩
                case measure => simp [intOf]; omega
              · rw [if_neg z1, List.append_nil] at HU
                have HR6 : Hid _ := And.intro hownX hbelX
                clear hownX hbelX kl k1
                go_wp2_with fail
                refine by_same HS1.out ?_
                go_wp2
                go_roundw
                case rel => exact ⟨j + 1, n1, a4, c4, by omega, rfl, by go_num, by show _ = _; rw [HU.out]; exact HNX.out, by rw [HU.out]; exact HR6.out.1, HR6.out.2⟩
                case measure => simp [intOf]; omega
            · rw [if_neg z0, List.append_nil] at HU
              go_wp2_with fail
              refine by_same HS0.out ?_
              go_upto_region 15 with fail
              have kl := HKW.out.1
              have k1 := HKC.out
              have hbelX := hbelA
              have hownX := hownW
              have HNX := HN2
              clear hbelA hownW d0 d2 e1 e2
              have y1 := kl.cell 1 rfl
              have y2 := kl.cell 2 rfl
              have v1 := k1.cell 1 rfl
              have v3 := k1.cell 3 rfl
              have hszX : ∀ o, V.heap.size ≤ (wc.alloc o).heap.size := fun o => by have := hbelX.size; simp; omega
              obtain ⟨n2, hn2⟩ : ∃ n2, U.length + 1 = n2 := ⟨_, rfl⟩
              have HN2' : Hid (U.length + 1 = n2) := hn2
              have hsm2 : U.length + 1 ≤ 100000 := by have := HNX.out; omega
              have HS1 : Hid (Calls Tryz.prog 70 #[.slice fa k fc, .int .i64 (nx : Int), .int .i64 cap, .int .i64 (j : Int), .int .i64 1] wc fun e w' => e = .returned (.int .i64 s1) ∧ w' = wc) := rslot fa k fc (Md.wants g ts) nx cap j 1 s1 wc (HFL.out.keep hbelX) (by omega) hjt (by omega) HE1.out
              clear hn2
              by_cases z1 : 0 ≤ s1
              · rw [if_pos z1] at HU
                have src2 := (hownX.psrc (j : Int) 1 q s)
                have hownX1 := hownX.keep (new_bel wc (.cells #[.int .i64 (j : Int), .int .i64 1, .int .i64 q, .int .i64 s] 77))
                have HBX : Hid (Below V.heap.size V wc) := hbelX
                clear hownX hbelX kl k1
                go_wp2_with fail
                refine by_same HS1.out ?_
                go_wp2_with (at_builtin; (refine wpList_appK ptS (by simp [Region.wanted]) (.tmp 79) (.tmp 86) 74 rfl V.heap.size 77 j0 _ 32 Tryz.underlying74 hj0 hj1 hj2 hj3 rfl (by show 0 < 4; omega) (by omega) (by rfl) hownX1 (by rfl) src2.1 src2.2 hsm2 (hszX _) n2 HN2'.out (U ++ [pt j 1 q s]) rfl ?_; intro a6 c6 u6 ho6 hg6 hb6 hat6))
                have HR6 : Hid _ := And.intro ho6 ((bel_alloc HBX.out (.cells #[.int .i64 (j : Int), .int .i64 1, .int .i64 q, .int .i64 s] 77)).trans hb6)
                clear ho6 hg6 hb6 hat6 src2 hownX1 y1 y2 v1 v3
                go_roundw
                case rel => exact ⟨j + 1, n2, a6, c6, by omega, rfl, by go_num, by show _ = _; rw [HU.out, List.length_append]; exact HN2'.out, by rw [HU.out]; exact HR6.out.1, HR6.out.2⟩
                case measure => simp [intOf]; omega
              · rw [if_neg z1, List.append_nil] at HU
                have HR6 : Hid _ := And.intro hownX hbelX
                clear hownX hbelX kl k1
                go_wp2_with fail
                refine by_same HS1.out ?_
                go_wp2
                go_roundw
                case rel => exact ⟨j + 1, n, a, c, by omega, rfl, by go_num, by show _ = _; rw [HU.out]; exact HNX.out, by rw [HU.out]; exact HR6.out.1, HR6.out.2⟩
                case measure => simp [intOf]; omega
        · have hjk : j = k := by omega
          subst hjk
          have hji : ¬ (j : Int) < (j : Int) := by omega
          have hR := hown.is
          have e9 : Md.upto (g, xs, cap, ()) ts (j * 2) = Md.parts (g, xs, cap, ()) ts := by unfold Md.parts; rw [HL.out]
          rw [e9] at hR
          have HR9 : Hid _ := And.intro hBw hR
          clear hown hbel e9 hR
          go_wp2
          go_ret
          exact ⟨HR9.out.1, a, n, c, rfl, HR9.out.2⟩

end Go.Proofs.YtokfcjgfpchffaaGreatDoor

/- What the document's Forward of layer 15 does when called. -/
namespace Go.Proofs.YtokfcjgfpchffaaGreatDoor
open Go.ChangeShapes Go.WideShapes Go.ChangeAt Go.RowKit

set_option maxHeartbeats 4000000 in
set_option maxRecDepth 100000 in
theorem rmforwardP {P : Nat → Prop} (a : Option Addr) (n c : Nat) (ls : List Ly) (dim : Int) (b : Option Addr) (m d : Nat) (ts : List (List Int)) (w : World) (h : lysS.rep w everywhere [.slice a n c] ls) (ht : matS.rep w P [.slice b m d] ts) (hR : Md.Right dim ls) (hT : Md.TRight dim ts) :
    Calls Tryz.prog 15 #[.agg #[.int .i64 dim, .slice a n c], .slice b m d] w fun e w' => Below w.heap.size w w' ∧ ∃ a' c', e = .returned (.slice a' m c') ∧ matS.rep w' (fun b => P b ∨ w.heap.size ≤ b) [.slice a' m c'] (Md.forward ls ts) := by
  have hl := (sliceS_len h).1
  have hlt0 := (sliceS_len ht).1
  have hB := new_bel w (.cells #[.int .i64 dim, .slice a n c] 41)
  have hn : n ≤ 4 := by have := hR.2.2.2.1; omega
  have HZ : Hid (∀ l ∈ ls, Md.LRight l dim) := hR.2.2.2.2
  have HL : Hid (ls.length = n) := hl
  have HLT : Hid (ts.length = m) := hlt0
  have hm : m ≤ 16 := by have := hT.2.1; omega
  have HX : Hid (lysS.rep w everywhere [.slice a n c] ls) := h
  have HT : Hid (matS.rep w P [.slice b m d] ts) := ht
  have HTR : Hid (Md.TRight dim ts) := hT
  have HD : Hid (dim ≤ 8) := hR.2.1
  obtain ⟨j0, hj0, hj1, hj2, hj3⟩ := info_parts Tryz.infoRow
  clear h ht hl hlt0 hR hT
  go_enter Tryz.func15, Tryz.ntmps15
  go_wp2
  go_loopw [1, 16] (fun v i wr => ∃ (k : Nat) (a' : Option Addr) (c' : Nat), k ≤ n ∧ v = .slice a' m c' ∧ i = .int .i64 k ∧ matS.rep wr (fun b => P b ∨ w.heap.size ≤ b) [.slice a' m c'] (Md.forward (ls.take k) ts) ∧ Below w.heap.size w wr) (fun _ i _ => n - (intOf i).toNat)
  case atStart => exact ⟨0, b, d, Nat.zero_le _, rfl, rfl, by rw [List.take_zero]; exact matS.mono (Shape.below HT.out hB) (fun _ hb _ => .inl hb), hB⟩
  case round =>
    clear hB
    obtain ⟨k, a', c', hk, rfl, rfl, htk, hbel⟩ := hrel
    obtain ⟨W0, hW0⟩ : ∃ W0, W0 = wr := ⟨_, rfl⟩
    subst hW0
    by_cases hlt : k < n
    · obtain ⟨b1, off, ag, ng, cg, ax, nx, cx, g, xs, cap, rfl, hb, hE, hg, hx, c0, c1, c2⟩ := ly_there HX.out hlt
      have hli : (k : Int) < (n : Int) := by omega
      have hk0 : (0 : Int) ≤ (k : Int) := by omega
      have hkl : k < ls.length := by have := HL.out; omega
      have hLR : Md.LRight (g, xs, cap, ()) dim := by rw [← hE]; exact HZ.out _ (in_of hkl ly0)
      have hTR : Md.TRight dim (Md.forward (ls.take k) ts) := Md.forward_right (fun l hl => HZ.out l (List.mem_of_mem_take hl)) HTR.out
      have HN : Hid (Md.forward (ls.take (k + 1)) ts = Md.step (g, xs, cap, ()) (Md.forward (ls.take k) ts)) := by show _ = _; rw [Md.forward_next hkl, hE]
      have d0 := (hbel.cell (by exact hb)).trans c0
      have d1 := (hbel.cell (by exact hb)).trans c1
      have d2 := (hbel.cell (by exact hb)).trans c2
      have hbn := new_bel W0 (.cells #[.slice ag ng cg, .slice ax nx cx, .int .i64 cap] 37)
      have kb := Box.new W0 37 #[.slice ag ng cg, .slice ax nx cx, .int .i64 cap]
      have hbelA := bel_then hbel hbn
      have htA := Shape.below htk hbn
      generalize Md.forward (ls.take k) ts = T at *
      have hTl : T.length = m := (sliceS_len htk).1
      have HC : Hid (Calls _ _ _ _ _) := rmparts ag ng cg ax nx cx g xs cap dim a' m c' T _ (Shape.below hg hbelA) (Shape.below hx hbelA) (Shape.any htA) hLR HD.out hTR
      have HLR : Hid (Md.LRight (g, xs, cap, ()) dim ∧ Md.TRight dim T) := ⟨hLR, hTR⟩
      have HXX : Hid (xpsS.rep w everywhere [.slice ax nx cx] xs) := hx
      have HLX : Hid (xs.length = nx) := (sliceS_len hx).1
      have HTl : Hid (T.length = m) := hTl
      clear hE hg hx c0 c1 c2 hLR hTR htk hbel hbn hTl
      go_wp2_with fail
      refine HC.out.mono ?_
      rintro e V ⟨hb3, pa, pn, pc, rfl, hps⟩
      obtain ⟨L, hL⟩ : ∃ L, L = W0.heap.size := ⟨_, rfl⟩
      have HKB : Hid (Box V L 37 #[.slice ag ng cg, .slice ax nx cx, .int .i64 cap]) := by rw [hL]; exact kb.keep hb3
      have HLE : Hid (L = W0.heap.size) := hL
      have HB3 : Hid (Below w.heap.size w V) := bel_then hbelA hb3
      have HT3 : Hid (matS.rep V (fun b => P b ∨ w.heap.size ≤ b) [.slice a' m c'] T) := Shape.below htA hb3
      have HPS : Hid (ptsS.rep V everywhere [.slice pa pn pc] (Md.parts (g, xs, cap, ()) T)) := hps
      have HPL : Hid ((Md.parts (g, xs, cap, ()) T).length = pn) := (sliceS_len hps).1
      have hpn : pn ≤ 32 := by have := Md.parts_len (g, xs, cap, ()) T; have := HTl.out; have := HPL.out; omega
      clear HC hbelA htA kb hb3 d0 d1 d2 hps
      go_upto_region 5 with fail
      rw [← hL]
      clear hL
      go_wp2
      go_loopw [8, 9] (fun v i wr => ∃ (t : Nat) (na : Option Addr) (nc : Nat), t ≤ m ∧ v = .slice na t nc ∧ i = .int .i64 t ∧ Own (inS rowS (fun b => P b ∨ w.heap.size ≤ b)) wr V.heap.size 31 (.slice na t nc) (Md.stepTo (g, xs, cap, ()) T t) ∧ Below V.heap.size V wr) (fun _ i _ => m - (intOf i).toNat)
      case atStart => exact ⟨0, none, 0, Nat.zero_le _, rfl, rfl, Own.nil _ _ _ _, Below.refl _ _⟩
      case round =>
        obtain ⟨t, na, nc, htm, rfl, rfl, hown, hbel⟩ := hrel
        obtain ⟨Wt, hWt⟩ : ∃ Wt, Wt = wr := ⟨_, rfl⟩
        subst hWt
        by_cases htt : t < m
        · obtain ⟨b1, o1, A, C, rfl, hb1, e0, hr⟩ := mat_at HT3.out htt
          have hti : (t : Int) < (m : Int) := by omega
          have ht0 : (0 : Int) ≤ (t : Int) := by omega
          have htl : t < T.length := by have := HTl.out; omega
          have HVL : Hid (((T.getD t []).length : Int) = dim) := (HLR.out.2.row htl).1
          obtain ⟨nv, hnv⟩ : ∃ nv, (T.getD t []).length = nv := ⟨_, rfl⟩
          rw [hnv] at e0 hr
          have HNV : Hid ((T.getD t []).length = nv) := hnv
          have hnv8 : nv ≤ 8 := by have := HVL.out; have := HD.out; omega
          have hdv : (nv : Int) = dim := by have := HVL.out; rw [hnv] at this; exact this
          have HDV : Hid ((nv : Int) = dim) := hdv
          have HST : Hid (Md.stepTo (g, xs, cap, ()) T (t + 1) = Md.stepTo (g, xs, cap, ()) T t ++ [Md.along (g, xs, cap, ()) T t (Md.parts (g, xs, cap, ()) T)]) := by show _ = _; rw [Md.stepTo_succ, Md.along_all _ htl]
          have HSL : Hid ((Md.stepTo (g, xs, cap, ()) T t).length + 1 = t + 1) := by show _ = _; rw [Md.stepTo_len]
          have HR0 : Hid (rowS.rep V (fun b => (P b ∨ w.heap.size ≤ b) ∧ b < V.heap.size) [.slice A nv C] (T.getD t [])) := rowS.mono hr (fun b hb hlt => ⟨hb, hlt⟩)
          have HE0 : Hid (V.cell? ⟨b1, o1 + t, none⟩ = some (.slice A nv C) ∧ b1 < V.heap.size) := ⟨e0, hb1⟩
          have HOW : Hid (Own (inS rowS (fun b => P b ∨ w.heap.size ≤ b)) Wt V.heap.size 31 (.slice na t nc) (Md.stepTo (g, xs, cap, ()) T t) ∧ Below V.heap.size V Wt) := ⟨hown, hbel⟩
          have c0 := (hbel.cell (by exact hb1)).trans e0
          clear hown hbel e0 hr hnv hdv
          go_wp2
          go_loopw [10, 35] (fun v i wr => ∃ (j : Nat) (va : Option Addr) (vc : Nat), j ≤ pn ∧ v = .slice va nv vc ∧ i = .int .i64 j ∧ rowS.rep wr (fun b => ((P b ∨ w.heap.size ≤ b) ∧ b < V.heap.size) ∨ Wt.heap.size ≤ b) [.slice va nv vc] (Md.along (g, xs, cap, ()) T t ((Md.parts (g, xs, cap, ()) T).take j)) ∧ Below Wt.heap.size Wt wr) (fun _ i _ => pn - (intOf i).toNat)
          case atStart =>
            refine ⟨0, A, C, Nat.zero_le _, rfl, rfl, ?_, Below.refl _ _⟩
            rw [List.take_zero, Md.along_nil]
            exact rowS.mono (Shape.below HR0.out HOW.out.2) (fun b hb _ => .inl hb)
          case round =>
            clear c0
            obtain ⟨j, va, vc, hj, rfl, rfl, hv, hbel⟩ := hrel
            have hbV := bel_then HOW.out.2 hbel
            by_cases hjt : j < pn
            · obtain ⟨b2, o2, tok, r, x, s, rfl, _, hE, c0, c1, c2, c3⟩ := pt_there (Shape.below HPS.out hbV) hjt
              have hji : (j : Int) < (pn : Int) := by omega
              have hj00 : (0 : Int) ≤ (j : Int) := by omega
              have hjl : j < (Md.parts (g, xs, cap, ()) T).length := by have := HPL.out; omega
              by_cases htk : tok = (t : Int)
              · subst htk
                have e1 : ((t : Int) == (t : Int)) = true := by simp
                have hfit := Md.part_fits (in_of hjl pt0)
                rw [hE] at hfit
                obtain ⟨x', rfl⟩ : ∃ x' : Nat, x = x' := ⟨x.toNat, by have : 0 ≤ x := hfit.2.2.1; omega⟩
                have hxl : x' < xs.length := by have : (x' : Int) < (xs.length : Int) := hfit.2.2.2; omega
                have hxm : x' < nx := by have := HLX.out; omega
                obtain ⟨b5, o5, ai, ni, ci, ao, no, co, mi, mo, rfl, hb5, hEx, hi, ho, x1, x2⟩ := xp_there HXX.out hxm
                have hbw := bel_then HB3.out hbV
                have hRx : Ex.Right mi mo dim := by have h7 := HLR.out.1.2.2.2.2.2 _ (in_of hxl xp0); rw [hEx] at h7; exact h7
                rw [← HDV.out] at hRx
                have HRx : Hid (Ex.Right mi mo nv) := hRx
                have hSi : Ex.Sized mi := Md.right_sized hRx.2.2.1 (by have := hRx.2.1; omega) (by omega)
                have hSo : Ex.Sized mo := Md.right_sized hRx.2.2.2 (by omega) (by have := hRx.2.1; omega)
                have HAL : Hid (Md.along (g, xs, cap, ()) T t ((Md.parts (g, xs, cap, ()) T).take (j + 1)) = Vx.add (Md.along (g, xs, cap, ()) T t ((Md.parts (g, xs, cap, ()) T).take j)) (Vx.scale (Ex.run mi mo (T.getD t [])) s)) := by
                  show _ = _
                  rw [Md.along_yes hjl (by rw [hE]; rfl), hE]
                  show Vx.add _ (Vx.scale (Ex.run (xs.getD x' xp0).1 (xs.getD x' xp0).2.1 (T.getD t [])) s) = _
                  rw [hEx]
                generalize Md.along (g, xs, cap, ()) T t ((Md.parts (g, xs, cap, ()) T).take j) = Al at *
                have hbn := new_bel wr (.cells #[.int .i64 (t : Int), .int .i64 r, .int .i64 (x' : Int), .int .i64 s] 77)
                have kp := Box.new wr 77 #[.int .i64 (t : Int), .int .i64 r, .int .i64 (x' : Int), .int .i64 s]
                have hbelX := bel_then hbel hbn
                have hbVX := bel_then hbV hbn
                have hbwX := bel_then hbw hbn
                have hvX := Shape.below hv hbn
                have kl := HKB.out.keep hbVX
                have f1 := (hbwX.cell (by exact hb5)).trans x1
                have f2 := (hbwX.cell (by exact hb5)).trans x2
                have f3 := (hbVX.cell (by exact HE0.out.2)).trans HE0.out.1
                have hXA : Exp (wr.alloc (.cells #[.int .i64 (t : Int), .int .i64 r, .int .i64 (x' : Int), .int .i64 s] 77)) ai ni ci ao no co mi mo := ⟨Shape.below hi hbwX, Shape.below ho hbwX⟩
                have hvr := (Row.of_rep HR0.out).keep hbVX
                have hxi : (x' : Int) < (nx : Int) := by omega
                have hx0 : (0 : Int) ≤ (x' : Int) := by omega
                have hszW : Wt.heap.size ≤ wr.heap.size := hbel.size
                clear hE hfit hEx hi ho x1 x2 hRx hv hbel hbV hbw hbn
                go_upto_region 14 with fail
                clear c0 c1 c2 c3
                generalize wr.alloc (.cells #[.int .i64 (t : Int), .int .i64 r, .int .i64 (x' : Int), .int .i64 s] 77) = X at *
                have HSZ : Hid (wr.heap.size < X.heap.size) := kp.lt
                have hD : Below X.heap.size X X.drew := (Below.refl _ X).drew
                have HC : Hid (Calls _ _ _ _ _) := rxrun ai ni ci ao no co mi mo A nv C (T.getD t []) X.drew (hXA.below hD) hSi hSo (hvr.keep hD) (by omega) HRx.out
                have HH : Hid (∀ u, Below X.heap.size X u → u.cell? ⟨L, 1, none⟩ = some (.slice (some ⟨b5, o5, none⟩) nx cx) ∧ u.cell? ⟨wr.heap.size, 2, none⟩ = some (.int .i64 (x' : Int)) ∧ u.cell? ⟨wr.heap.size, 3, none⟩ = some (.int .i64 s) ∧ u.cell? ⟨b5, o5 + x' * 2, none⟩ = some (.slice ai ni ci) ∧ u.cell? ⟨b5, o5 + x' * 2 + 1, none⟩ = some (.slice ao no co) ∧ u.cell? ⟨b1, o1 + t, none⟩ = some (.slice A nv C)) := fun u hb => ⟨(kl.keep hb).cell 1 rfl, (kp.keep hb).cell 2 rfl, (kp.keep hb).cell 3 rfl, (hb.cell (World.block_lt_of_cell? X _ f1)).trans f1, (hb.cell (World.block_lt_of_cell? X _ f2)).trans f2, (hb.cell (World.block_lt_of_cell? X _ f3)).trans f3⟩
                have g1 := kl.cell 1 rfl
                have g2 := kp.cell 2 rfl
                have g3 := kp.cell 3 rfl
                have hAr := Row.of_rep hvX
                clear hvr hXA hSi hSo
                go_region_held3 (fun w' => w'.cell? ⟨L, 1, none⟩ = some (.slice (some ⟨b5, o5, none⟩) nx cx) ∧ w'.cell? ⟨wr.heap.size, 2, none⟩ = some (.int .i64 (x' : Int)) ∧ w'.cell? ⟨wr.heap.size, 3, none⟩ = some (.int .i64 s) ∧ w'.cell? ⟨b5, o5 + x' * 2, none⟩ = some (.slice ai ni ci) ∧ w'.cell? ⟨b5, o5 + x' * 2 + 1, none⟩ = some (.slice ao no co) ∧ w'.cell? ⟨b1, o1 + t, none⟩ = some (.slice A nv C))
                  (first
                    | exact HH.out _ hd7
                    | exact HH.out _ hd6
                    | exact HH.out _ hd5
                    | exact HH.out _ hD
                    | exact HH.out _ (Below.refl _ _)
                    | go_keep)
                  (first
                    | (go_at_call 39; refine HC.out.mono ?_; rintro e u5 ⟨a5, c5, rfl, hr5, hb5'⟩; have hd5 := bel_then hD hb5')
                    | (go_at_call 38; refine (rscale a5 nv c5 s _ u5 (Row.of_rep hr5) (by omega)).mono ?_; rintro e u6 ⟨a6, c6, rfl, hr6, hb6'⟩; have hd6 := bel_then hd5 hb6')
                    | (go_at_call 37; refine (raddH va a6 nv vc c6 _ _ u6 (hAr.keep hd6) hr6 (by omega)).mono ?_; rintro e u7 ⟨a7, c7, rfl, hr7, hb7'⟩; have hd7 := bel_then hd6 hb7'))
                rw [← HAL.out] at hr7
                have hs6 : X.heap.size ≤ u6.heap.size := hd6.size
                have HR7 : Hid _ := And.intro (rowS.mono hr7 (fun b (hb : u6.heap.size ≤ b) _ => (.inr (by have := HSZ.out; omega) : ((P b ∨ w.heap.size ≤ b) ∧ b < V.heap.size) ∨ Wt.heap.size ≤ b))) (bel_then hbelX hd7)
                clear hr7 hr6 hr5 hd7 hd6 hd5 hD hb5' hb6' hb7' HH HC hAr hvX kl kp f1 f2 f3 g1 g2 g3 hbelX hbVX hbwX hs6
                go_wp2
                go_roundw
                case rel => exact ⟨j + 1, a7, c7, by omega, rfl, by go_num, HR7.out.1, HR7.out.2⟩
                case measure => simp [intOf]; omega
              · have e1 : (tok == (t : Int)) = false := by simpa using htk
                have HAL : Hid (Md.along (g, xs, cap, ()) T t ((Md.parts (g, xs, cap, ()) T).take (j + 1)) = Md.along (g, xs, cap, ()) T t ((Md.parts (g, xs, cap, ()) T).take j)) := Md.along_no hjl (by rw [hE]; exact htk)
                rw [← HAL.out] at hv
                have hbn := new_bel wr (.cells #[.int .i64 tok, .int .i64 r, .int .i64 x, .int .i64 s] 77)
                have HR7 : Hid _ := And.intro (Shape.below hv hbn) (bel_then hbel hbn)
                clear hv hbel hbn hE htk hbV
                go_wp2
                go_roundw
                case rel => exact ⟨j + 1, va, vc, by omega, rfl, by go_num, HR7.out.1, HR7.out.2⟩
                case measure => simp [intOf]; omega
            · have hjn : j = pn := by omega
              subst hjn
              have hji : ¬ (j : Int) < (j : Int) := by omega
              rw [List.take_of_length_le (by have := HPL.out; omega)] at hv
              have hown := HOW.out.1.keep hbel
              have hgO : ∀ b, Value.ownBlock (.slice na t nc) = some b → V.heap.size ≤ b ∧ b < Wt.heap.size := fun b hb => HOW.out.1.lt b hb
              have hwWt := (bel_then HB3.out HOW.out.2).size
              have src := hown.esrc (inS_of hv (fun b hb => hb.elim (fun h => h.1) (fun h => .inr (by omega)))) (fun b (hb : ((P b ∨ w.heap.size ≤ b) ∧ b < V.heap.size) ∨ Wt.heap.size ≤ b) h => by have := hgO b h.symm; rcases hb with hb | hb <;> omega)
              have ho3 := hown.keep (new_bel wr (.cells #[.slice va nv vc] 31))
              have hsm : (Md.stepTo (g, xs, cap, ()) T t).length + 1 ≤ 100000 := by rw [HSL.out]; omega
              have hbs : ∀ o, V.heap.size ≤ (wr.alloc o).heap.size := fun o => by have := hbV.size; simp; omega
              clear hown hv
              go_wp2_with (at_builtin; (refine wpList_appK (inS rowS (fun b => P b ∨ w.heap.size ≤ b)) (by simp [Region.wanted]) (.tmp 60) (.tmp 62) 32 rfl V.heap.size 31 j0 _ 24 Tryz.underlying32 hj0 hj1 hj2 hj3 rfl Nat.one_pos (by omega) (by rfl) ho3 (by rfl) src.1 src.2 hsm (hbs _) (t + 1) HSL.out _ HST.out.symm ?_; intro a6 c6 u6 ho6 hg6 hb6 hat6))
              have HR6 : Hid _ := And.intro ho6 ((bel_alloc hbV (.cells #[.slice va nv vc] 31)).trans hb6)
              clear ho6 hg6 hb6 hat6 src ho3 hbV hbel
              go_roundw
              case rel => exact ⟨t + 1, a6, c6, by omega, rfl, by go_num, HR6.out.1, HR6.out.2⟩
              case measure => simp [intOf]; omega
        · have htn : t = m := by omega
          subst htn
          have hti : ¬ (t : Int) < (t : Int) := by omega
          have hR := hown.among (Q := (fun b => P b ∨ w.heap.size ≤ b)) (fun _ hb => hb) (fun b hb _ _ => .inr (Nat.le_trans HB3.out.size hb))
          have e9 : Md.stepTo (g, xs, cap, ()) T t = Md.step (g, xs, cap, ()) T := by unfold Md.step; rw [HTl.out]
          rw [e9, ← HN.out] at hR
          have HR6 : Hid _ := And.intro hR (bel_then HB3.out hbel)
          clear hown hR hbel e9
          go_wp2
          go_roundw
          case rel => exact ⟨k + 1, na, nc, by omega, rfl, by go_num, HR6.out.1, HR6.out.2⟩
          case measure => simp [intOf]; omega
    · have hkn : k = n := by omega
      subst hkn
      have hli : ¬ (k : Int) < (k : Int) := by omega
      rw [List.take_of_length_le (by have := HL.out; omega)] at htk
      have HR5 : Hid _ := And.intro hbel htk
      clear htk hbel
      go_wp2
      go_ret
      exact ⟨HR5.out.1, _, _, rfl, HR5.out.2⟩
theorem rmforward (a : Option Addr) (n c : Nat) (ls : List Ly) (dim : Int) (b : Option Addr) (m d : Nat) (ts : List (List Int)) (w : World) (h : lysS.rep w everywhere [.slice a n c] ls) (ht : matS.rep w everywhere [.slice b m d] ts) (hR : Md.Right dim ls) (hT : Md.TRight dim ts) :
    Calls Tryz.prog 15 #[.agg #[.int .i64 dim, .slice a n c], .slice b m d] w fun e w' => Below w.heap.size w w' ∧ ∃ a' c', e = .returned (.slice a' m c') ∧ matS.rep w' everywhere [.slice a' m c'] (Md.forward ls ts) :=
  (rmforwardP a n c ls dim b m d ts w h ht hR hT).mono fun _ _ ⟨h1, a', c', h2, h3⟩ => ⟨h1, a', c', h2, Shape.any h3⟩

end Go.Proofs.YtokfcjgfpchffaaGreatDoor
