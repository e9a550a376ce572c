/- 5 texts as one, in their order: MdlC, MdlV, MdlD, MdlE, MdlF. -/
import Derived.Test.YtokfcjgfpchffaaGreatDoorMdlB
import Derived.Test.YtokfcjgfpchffaaGreatDoorKe
import Derived.Test.YtokfcjgfpchffaaGreatDoorKa

/- What model.Parts does when called. -/
namespace Go.Proofs.YtokfcjgfpchffaaGreatDoor
open Go.ChangeShapes Go.WideShapes Go.ChangeAt Go.RowKit

abbrev pr0 : Pr := (0, 0, ())
theorem pr_rep (w : World) (F : Nat → Prop) (p q : Int) : prS.rep w F [.int .i64 p, .int .i64 q] (p, q, ()) := ⟨[_], [_], rfl, rfl, [_], [], rfl, rfl, rfl⟩

/-- A token's two parts, by whether they have a slot. -/
theorem Md.token_parts {l : Ly} {ts : List (List Int)} {k : Nat} (hk : k < ts.length) {p q r s : Int} (hE : (Md.chosen l.1 ts).getD k pt0 = pt p q r s) {s0 s1 : Int} (h0 : Md.slot l ts (k * 2) = s0) (h1 : Md.slot l ts (k * 2 + 1) = s1) :
    Md.upto l ts ((k + 1) * 2) = (Md.upto l ts (k * 2) ++ (if 0 ≤ s0 then [pt k 0 p r] else [])) ++ (if 0 ≤ s1 then [pt k 1 q s] else []) := by
  rw [Md.chosen_at l.1 hk] at hE
  obtain ⟨rfl, rfl, rfl, rfl⟩ := Md.pt_eq hE
  rw [Md.upto_token, Md.one_even l hk, Md.one_odd l hk, h0, h1, List.append_assoc]

/-- Parts that the call owns lie in its own blocks. -/
theorem Own.pts_high {w : World} {base N : Nat} {e : TypeId} {a : Option Addr} {n c : Nat} {xs : List Pt} (h : Own ptS w base e (.slice a n c) xs) (hN : N ≤ base) : ptsS.rep w (N ≤ ·) [.slice a n c] xs := by
  obtain ⟨css, h1, h2⟩ := h
  have h3 : Own (inS ptS (base ≤ ·)) w base e (.slice a n c) xs := ⟨css, h1, h2.1, fun j d x hd hx => by
    have h4 := pt_is (h2.2 j d x hd hx)
    subst h4
    exact pt_rep _ _ _ _ _ _⟩
  exact ptsS.mono h3.within fun b hb _ => Nat.le_trans hN hb

set_option maxHeartbeats 4000000 in
set_option maxRecDepth 100000 in
theorem mpartsH (ag : Option Addr) (ng cg : Nat) (ax : Option Addr) (nx cx : Nat) (g : List (List Int)) (xs : List Xp) (cap dim : Int) (b : Option Addr) (m d : Nat) (ts : List (List Int)) (w : World) (hg : matS.rep w everywhere [.slice ag ng cg] g) (hx : xpsS.rep w everywhere [.slice ax nx cx] xs)
    (ht : matS.rep w everywhere [.slice b m d] ts) (hL : Md.LRight (g, xs, cap, ()) dim) (hd : dim ≤ 8) (hT : Md.TRight dim ts) :
    Calls Tryz.prog 85 #[.agg #[.slice ag ng cg, .slice ax nx cx, .int .i64 cap], .slice b m d] w fun e w' => Below w.heap.size w w' ∧ ∃ a' n' c', e = .returned (.slice a' n' c') ∧ ptsS.rep w' (w.heap.size ≤ ·) [.slice a' n' c'] (Md.parts (g, xs, cap, ()) ts) := by
  have hlt0 := (sliceS_len ht).1
  have hlx := (sliceS_len hx).1
  have hlg := (sliceS_len hg).1
  have hm : m ≤ 16 := by have := hT.2.1; omega
  have hng : ng ≤ 1000 := by have h7 : g.length = xs.length := hL.gate; have h8 : xs.length ≤ 8 := hL.2.1; omega
  have HP : Hid (Md.Picks g ts) := Md.picks hL hT hd
  have HF : Hid (∀ x ∈ Md.wants g ts, (Lit.int .i64 x).wf = true) := Md.want_fit hL hT
  have HL : Hid (ts.length = m) := hlt0
  have HLX : Hid (xs.length = nx) := hlx
  have hB := new_bel w (.cells #[.slice ag ng cg, .slice ax nx cx, .int .i64 cap] 37)
  have q0 := Box.new w 37 #[.slice ag ng cg, .slice ax nx cx, .int .i64 cap]
  have HC : Hid (Calls _ _ _ _ _) := mchoose ag ng cg b m d g ts _ (Shape.below hg hB) (Shape.below ht hB) hng (by omega) HP.out
  obtain ⟨i0, hi0, hi1, hi2, hi3⟩ := info_parts Tryz.infoPair
  obtain ⟨j0, hj0, hj1, hj2, hj3⟩ := info_parts Tryz.infoPart
  clear hlt0 hlx hlg hg hx ht hL hT hd
  go_enter Tryz.func85, Tryz.ntmps85
  go_wp2_with fail
  refine HC.out.mono ?_
  rintro e u1 ⟨hb1, B, rfl, hch⟩
  have q1 := q0.keep hb1
  have hB1 := bel_then hB hb1
  clear q0 hb1 hB HC
  go_wp2_with (at_make; refine wpList_make_full _ rfl _ _ 114 rfl u1.heap.size 119 i0 (.agg #[.int .i64 0, .int .i64 0]) 2 Tryz.underlying114 hi0 hi1 hi2 _ _ _ _ m rfl rfl (by rfl) (by rfl) ?b2 ?b3 (Nat.le_refl _) ?_)
  case b2 => rw [hi3]; omega
  case b3 => unfold maxLen; omega
  intro u2 hown0 hg0
  have hb2 : Below u1.heap.size u1 u2 := (Below.refl _ _).grown hg0 (Nat.le_refl _) (fun g hg => by cases hg)
  have HO : Hid (Own prS u2 u1.heap.size 119 (.slice (some ⟨u1.heap.size, 0, none⟩) m m) (List.replicate m pr0)) :=
    Own.made (z := [.int .i64 0, .int .i64 0]) (by show 0 < 2; omega) rfl hown0 (fun F => pr_rep _ _ 0 0)
  have HCH : Hid (ptsS.rep u1 everywhere [.slice (some ⟨B, 0, none⟩) m m] (Md.chosen g ts)) := hch.is
  have HQ : Hid (Box u1 w.heap.size 37 #[.slice ag ng cg, .slice ax nx cx, .int .i64 cap]) := q1
  have HB1 : Hid (Below w.heap.size w u1) := hB1
  clear hown0 hg0 hch q1 hB1
  go_wp2
  go_loopw [22] (fun i wr => ∃ k : Nat, k ≤ m ∧ i = .int .i64 k ∧ Own prS wr u1.heap.size 119 (.slice (some ⟨u1.heap.size, 0, none⟩) m m) (fillD pr0 (Md.pairs g ts) k) ∧ Below u1.heap.size u1 wr) (fun i _ => m - (intOf i).toNat)
  case atStart => exact ⟨0, Nat.zero_le _, rfl, by rw [fillD_zero, Md.pairs_len, HL.out]; exact HO.out, hb2⟩
  case round =>
    clear HO hb2
    obtain ⟨k, hk, rfl, hown, hbel⟩ := hrel
    obtain ⟨W0, hW0⟩ : ∃ W0, W0 = wr := ⟨_, rfl⟩
    subst hW0
    by_cases hlt : k < m
    · obtain ⟨b1, o1, p, q, r, s, he, _, hE, c0, c1, c2, c3⟩ := pt_there (Shape.below HCH.out hbel) hlt
      injection he with he; injection he with hx1 hx2 _; subst hx1; subst hx2
      rw [Nat.zero_add] at c0 c1 c2 c3
      have hli : (k : Int) < (m : Int) := by omega
      have hk0 : (0 : Int) ≤ (k : Int) := by omega
      have hkl : k < ts.length := by have := HL.out; omega
      have HE2 : Hid ((Md.pairs g ts).getD k pr0 = (p, q, ())) := by
        rw [Md.chosen_at g hkl] at hE
        obtain ⟨rfl, rfl, rfl, rfl⟩ := Md.pt_eq hE
        exact Md.pairs_at g hkl
      have hbn := new_bel W0 (.cells #[.int .i64 p, .int .i64 q, .int .i64 r, .int .i64 s] 165)
      have hown3 := hown.keep hbn
      have hB3 := bel_then hbel hbn
      obtain ⟨z0, y0⟩ := hown3.cellK hlt (i := 0) (by show 0 < 2; omega)
      obtain ⟨z1, y1⟩ := hown3.cellK hlt (i := 1) (by show 1 < 2; omega)
      have x0 : (W0.alloc (.cells #[.int .i64 p, .int .i64 q, .int .i64 r, .int .i64 s] 165)).cell? ⟨u1.heap.size, k * 2, none⟩ = some z0 := y0
      have x1 : (W0.alloc (.cells #[.int .i64 p, .int .i64 q, .int .i64 r, .int .i64 s] 165)).cell? ⟨u1.heap.size, k * 2 + 1, none⟩ = some z1 := y1
      have f0 := hown3.freeK (k * 2)
      have f1 := hown3.freeK (k * 2 + 1)
      have hst := hown3.storeK hlt (pr_rep _ (fun _ => False) p q) (fun b hb => hb.elim)
      rw [fillD_set (by rw [Md.pairs_len]; exact hkl) HE2.out] at hst
      have HST : Hid _ := And.intro hst (bel_run (vs := [.int .i64 p, .int .i64 q]) (i := k * 2) hB3 (Nat.le_refl u1.heap.size))
      clear hst hown hown3 hB3 hbel hbn y0 y1 hE
      go_wp2
      go_roundw
      case rel => exact ⟨k + 1, by omega, by go_num, HST.out.1, HST.out.2⟩
      case measure => simp [intOf]; omega
    · have hkn : k = m := by omega
      subst hkn
      have hli : ¬ (k : Int) < (k : Int) := by omega
      have e9 : fillD pr0 (Md.pairs g ts) k = Md.pairs g ts := by rw [← HL.out, ← Md.pairs_len g ts]; exact fillD_all _ _
      rw [e9] at hown
      have hfl := Flat.of_rep hown.is
      rw [Md.pairs_flat] at hfl
      have q2 := HQ.out.keep hbel
      have p1 := q2.cell 1 rfl
      have p2 := q2.cell 2 rfl
      have HC : Hid (Calls _ _ _ _ _) := assign (some ⟨u1.heap.size, 0, none⟩) k k (Md.wants g ts) nx cap W0 hfl (by omega) HF.out
      have HB2 : Hid (Below w.heap.size w W0) := bel_then HB1.out hbel
      have HCH2 : Hid (ptsS.rep W0 everywhere [.slice (some ⟨B, 0, none⟩) k k] (Md.chosen g ts)) := Shape.below HCH.out hbel
      clear e9 hown hfl q2 hbel HCH HB1 HQ
      go_wp2_with fail
      refine HC.out.mono ?_
      rintro e u3 ⟨hb3, S, rfl, hsl⟩
      have HB3 : Hid (Below w.heap.size w u3) := bel_then HB2.out hb3
      have HCH3 : Hid (ptsS.rep u3 everywhere [.slice (some ⟨B, 0, none⟩) k k] (Md.chosen g ts)) := Shape.below HCH2.out hb3
      have HSL : Hid (Flat u3 (some ⟨S, 0, none⟩) k (Sl.slots (Md.wants g ts) nx cap)) := hsl
      clear hb3 hsl p1 p2 HB2 HCH2 HC
      go_wp2
      go_loopw [9, 44] (fun v i wr => ∃ (j n : Nat) (a : Option Addr) (c : Nat), j ≤ k ∧ v = .slice a n c ∧ i = .int .i64 j ∧ Hid ((Md.upto (g, xs, cap, ()) ts (j * 2)).length = n) ∧ Own ptS wr u3.heap.size 95 (.slice a n c) (Md.upto (g, xs, cap, ()) ts (j * 2)) ∧ Below u3.heap.size u3 wr) (fun _ i _ => k - (intOf i).toNat)
      case atStart => exact ⟨0, 0, none, 0, Nat.zero_le _, rfl, rfl, rfl, Own.nil _ _ _ _, Below.refl _ _⟩
      case round =>
        obtain ⟨j, n, a, c, hj, rfl, rfl, HN, hown, hbel⟩ := hrel
        by_cases hjt : j < k
        · obtain ⟨b1, o1, p, q, r, s, he, _, hE, c0, c1, c2, c3⟩ := pt_there (Shape.below HCH3.out hbel) hjt
          injection he with he; injection he with hx1 hx2 _; subst hx1; subst hx2
          rw [Nat.zero_add] at c0 c1 c2 c3
          obtain ⟨b2, o2, he, _, d0, d1⟩ := (HSL.out.keep hbel).at hjt
          injection he with he; injection he with hx1 hx2 _; subst hx1; subst hx2
          rw [Nat.zero_add] at d0 d1
          have hjl : j < ts.length := by have := HL.out; omega
          have hwl := Md.wants_length g ts
          rw [Sl.slots_at _ _ (by omega)] at d0 d1
          obtain ⟨s0, hs0⟩ : ∃ s0, Md.slot (g, xs, cap, ()) ts (j * 2) = s0 := ⟨_, rfl⟩
          obtain ⟨s1, hs1⟩ : ∃ s1, Md.slot (g, xs, cap, ()) ts (j * 2 + 1) = s1 := ⟨_, rfl⟩
          have HU := hid (Md.token_parts (l := (g, xs, cap, ())) hjl hE hs0 hs1)
          have e0 : Sl.slot (Md.wants g ts) nx cap (j * 2) = s0 := by rw [← hs0, ← HLX.out]; rfl
          have e1 : Sl.slot (Md.wants g ts) nx cap (j * 2 + 1) = s1 := by rw [← hs1, ← HLX.out]; rfl
          rw [e0] at d0
          rw [e1] at d1
          have hji : (j : Int) < (k : Int) := by omega
          have hj00 : (0 : Int) ≤ (j : Int) := by omega
          have hn9 : n ≤ 100 := by have := HN.out; have := Md.upto_len (g, xs, cap, ()) ts (j * 2); omega
          have hnl : (Md.upto (g, xs, cap, ()) ts (j * 2)).length = n := HN.out
          clear hE hs0 hs1 e0 e1 hwl
          generalize Md.upto (g, xs, cap, ()) ts (j * 2) = U at *
          have HN2 : Hid (U.length = n) := hnl
          clear hnl HN
          have hd0 : (wr.alloc (.cells #[.int .i64 s0, .int .i64 s1] 119)).cell? ⟨B, j * 4, none⟩ = some (.int .i64 p) := (World.cell?_alloc_past _ _ _ (World.block_lt_of_cell? wr _ c0)).trans c0
          have hd1 : (wr.alloc (.cells #[.int .i64 s0, .int .i64 s1] 119)).cell? ⟨B, j * 4 + 1, none⟩ = some (.int .i64 q) := (World.cell?_alloc_past _ _ _ (World.block_lt_of_cell? wr _ c1)).trans c1
          have hd2 : (wr.alloc (.cells #[.int .i64 s0, .int .i64 s1] 119)).cell? ⟨B, j * 4 + 2, none⟩ = some (.int .i64 r) := (World.cell?_alloc_past _ _ _ (World.block_lt_of_cell? wr _ c2)).trans c2
          have hd3 : (wr.alloc (.cells #[.int .i64 s0, .int .i64 s1] 119)).cell? ⟨B, j * 4 + 3, none⟩ = some (.int .i64 s) := (World.cell?_alloc_past _ _ _ (World.block_lt_of_cell? wr _ c3)).trans c3
          have hbn := bel_two wr (.cells #[.int .i64 s0, .int .i64 s1] 119) (.cells #[.int .i64 p, .int .i64 q, .int .i64 r, .int .i64 s] 165)
          have k0 : Box ((wr.alloc (.cells #[.int .i64 s0, .int .i64 s1] 119)).alloc (.cells #[.int .i64 p, .int .i64 q, .int .i64 r, .int .i64 s] 165)) wr.heap.size 119 #[.int .i64 s0, .int .i64 s1] := (Box.new wr 119 _).keep (new_bel _ _)
          have k1 : Box ((wr.alloc (.cells #[.int .i64 s0, .int .i64 s1] 119)).alloc (.cells #[.int .i64 p, .int .i64 q, .int .i64 r, .int .i64 s] 165)) (wr.heap.size + 1) 165 #[.int .i64 p, .int .i64 q, .int .i64 r, .int .i64 s] := by
            have h7 := Box.new (wr.alloc (.cells #[.int .i64 s0, .int .i64 s1] 119)) 165 #[.int .i64 p, .int .i64 q, .int .i64 r, .int .i64 s]
            rwa [show (wr.alloc (.cells #[.int .i64 s0, .int .i64 s1] 119)).heap.size = wr.heap.size + 1 by simp] at h7
          have HVL : Hid (∀ b, Value.ownBlock (.slice a n c) = some b → b < wr.heap.size) := fun b hb => (hown.lt b hb).2
          have hownA := hown.keep hbn
          have hbelA := bel_then hbel hbn
          have hszw : ((wr.alloc (.cells #[.int .i64 s0, .int .i64 s1] 119)).alloc (.cells #[.int .i64 p, .int .i64 q, .int .i64 r, .int .i64 s] 165)).heap.size = wr.heap.size + 1 + 1 := by simp
          go_upto_region 13 with fail
          clear hd0 hd1 hd2 hd3 c0 c1 c2 c3 d0 d1 hown hbel hbn
          generalize ((wr.alloc (.cells #[.int .i64 s0, .int .i64 s1] 119)).alloc (.cells #[.int .i64 p, .int .i64 q, .int .i64 r, .int .i64 s] 165)) = W at *
          have HK : Hid (Box W wr.heap.size 119 #[.int .i64 s0, .int .i64 s1] ∧ Box W (wr.heap.size + 1) 165 #[.int .i64 p, .int .i64 q, .int .i64 r, .int .i64 s]) := ⟨k0, k1⟩
          have c0 := k0.cell 0 rfl
          have c1 := k0.cell 1 rfl
          have d0 := k1.cell 0 rfl
          have d1 := k1.cell 1 rfl
          have d2 := k1.cell 2 rfl
          have d3 := k1.cell 3 rfl
          have hsW : u3.heap.size ≤ W.heap.size := hbelA.size
          have hszA : ∀ o, u3.heap.size ≤ (W.alloc o).heap.size := fun o => by simp; omega
          clear k0 k1 hszw
          obtain ⟨n1, hn1⟩ : ∃ n1, U.length + 1 = n1 := ⟨_, rfl⟩
          have HN1 : Hid (U.length + 1 = n1) := hn1
          clear hn1
          have hsm : U.length + 1 ≤ 100000 := by have := HN2.out; omega
          by_cases z0 : 0 ≤ s0
          · rw [if_pos z0] at HU
            have src1 := (hownA.psrc (j : Int) 0 p r)
            have hownA1 := hownA.keep (new_bel W (.cells #[.int .i64 (j : Int), .int .i64 0, .int .i64 p, .int .i64 r] 95))
            have HBA : Hid (Below u3.heap.size u3 W) := hbelA
            clear hownA hbelA
            go_upto_region 15 with (at_builtin; (refine wpList_appK ptS (by simp [Region.wanted]) (.tmp 56) (.tmp 63) 90 rfl u3.heap.size 95 j0 _ 32 Tryz.underlying90 hj0 hj1 hj2 hj3 rfl (by show 0 < 4; omega) (by omega) (by rfl) hownA1 (by rfl) src1.1 src1.2 hsm (hszA _) n1 HN1.out (U ++ [pt j 0 p r]) rfl ?_; intro a4 c4 u4 ho4 hg4 hb4 hat4))
            have k0 := (HK.out.1.keep (new_bel W (.cells #[.int .i64 (j : Int), .int .i64 0, .int .i64 p, .int .i64 r] 95))).grown hg4 (fun e => by have := HVL.out _ e.symm; omega)
            have k1 := (HK.out.2.keep (new_bel W (.cells #[.int .i64 (j : Int), .int .i64 0, .int .i64 p, .int .i64 r] 95))).grown hg4 (fun e => by have := HVL.out _ e.symm; omega)
            have hbelX := (bel_alloc HBA.out (.cells #[.int .i64 (j : Int), .int .i64 0, .int .i64 p, .int .i64 r] 95)).trans hb4
            have hownX := ho4
            have HNX : Hid ((U ++ [pt j 0 p r]).length = n1) := by show _ = _; rw [List.length_append]; exact HN1.out
            have hn19 : n1 ≤ 101 := by have := HN1.out; have := HN2.out; omega
            clear ho4 hg4 hb4 hat4 src1 hownA1 c0 c1 d0 d1 d2 d3
            generalize U ++ [pt j 0 p r] = U5 at *
            have y1 := k0.cell 1 rfl
            have v1 := k1.cell 1 rfl
            have v3 := k1.cell 3 rfl
            have hszX : ∀ o, u3.heap.size ≤ (u4.alloc o).heap.size := fun o => by have := hbelX.size; simp; omega
            obtain ⟨n2, hn2⟩ : ∃ n2, U5.length + 1 = n2 := ⟨_, rfl⟩
            have HN2' : Hid (U5.length + 1 = n2) := hn2
            have hsm2 : U5.length + 1 ≤ 100000 := by have := HNX.out; omega
            clear hn2
            by_cases z1 : 0 ≤ s1
            · rw [if_pos z1] at HU
              have src2 := (hownX.psrc (j : Int) 1 q s)
              have hownX1 := hownX.keep (new_bel u4 (.cells #[.int .i64 (j : Int), .int .i64 1, .int .i64 q, .int .i64 s] 95))
              have HBX : Hid (Below u3.heap.size u3 u4) := hbelX
              clear hownX hbelX k0 k1
              go_wp2_with (at_builtin; (refine wpList_appK ptS (by simp [Region.wanted]) (.tmp 68) (.tmp 75) 90 rfl u3.heap.size 95 j0 _ 32 Tryz.underlying90 hj0 hj1 hj2 hj3 rfl (by show 0 < 4; omega) (by omega) (by rfl) hownX1 (by rfl) src2.1 src2.2 hsm2 (hszX _) n2 HN2'.out (U5 ++ [pt j 1 q s]) rfl ?_; intro a6 c6 u6 ho6 hg6 hb6 hat6))
              have HR6 : Hid _ := And.intro ho6 ((bel_alloc HBX.out (.cells #[.int .i64 (j : Int), .int .i64 1, .int .i64 q, .int .i64 s] 95)).trans hb6)
              clear ho6 hg6 hb6 hat6 src2 hownX1 y1 v1 v3
              go_roundw
              case rel => exact ⟨j + 1, n2, a6, c6, by omega, rfl, by go_num, by show _ = _; rw [HU.out, List.length_append]; exact HN2'.out, by rw [HU.out]; exact HR6.out.1, HR6.out.2⟩
              case measure => simp [intOf]; omega
            · rw [if_neg z1, List.append_nil] at HU
              have HR6 : Hid _ := And.intro hownX hbelX
              clear hownX hbelX k0 k1
              go_wp2
              go_roundw
              case rel => exact ⟨j + 1, n1, a4, c4, by omega, rfl, by go_num, by show _ = _; rw [HU.out]; exact HNX.out, by rw [HU.out]; exact HR6.out.1, HR6.out.2⟩
              case measure => simp [intOf]; omega
          · rw [if_neg z0, List.append_nil] at HU
            go_upto_region 15 with fail
            have k0 := HK.out.1
            have k1 := HK.out.2
            have hbelX := hbelA
            have hownX := hownA
            have HNX := HN2
            clear hbelA hownA c0 c1 d0 d1 d2 d3
            have y1 := k0.cell 1 rfl
            have v1 := k1.cell 1 rfl
            have v3 := k1.cell 3 rfl
            have hszX : ∀ o, u3.heap.size ≤ (W.alloc o).heap.size := fun o => by have := hbelX.size; simp; omega
            obtain ⟨n2, hn2⟩ : ∃ n2, U.length + 1 = n2 := ⟨_, rfl⟩
            have HN2' : Hid (U.length + 1 = n2) := hn2
            have hsm2 : U.length + 1 ≤ 100000 := by have := HNX.out; omega
            clear hn2
            by_cases z1 : 0 ≤ s1
            · rw [if_pos z1] at HU
              have src2 := (hownX.psrc (j : Int) 1 q s)
              have hownX1 := hownX.keep (new_bel W (.cells #[.int .i64 (j : Int), .int .i64 1, .int .i64 q, .int .i64 s] 95))
              have HBX : Hid (Below u3.heap.size u3 W) := hbelX
              clear hownX hbelX k0 k1
              go_wp2_with (at_builtin; (refine wpList_appK ptS (by simp [Region.wanted]) (.tmp 68) (.tmp 75) 90 rfl u3.heap.size 95 j0 _ 32 Tryz.underlying90 hj0 hj1 hj2 hj3 rfl (by show 0 < 4; omega) (by omega) (by rfl) hownX1 (by rfl) src2.1 src2.2 hsm2 (hszX _) n2 HN2'.out (U ++ [pt j 1 q s]) rfl ?_; intro a6 c6 u6 ho6 hg6 hb6 hat6))
              have HR6 : Hid _ := And.intro ho6 ((bel_alloc HBX.out (.cells #[.int .i64 (j : Int), .int .i64 1, .int .i64 q, .int .i64 s] 95)).trans hb6)
              clear ho6 hg6 hb6 hat6 src2 hownX1 y1 v1 v3
              go_roundw
              case rel => exact ⟨j + 1, n2, a6, c6, by omega, rfl, by go_num, by show _ = _; rw [HU.out, List.length_append]; exact HN2'.out, by rw [HU.out]; exact HR6.out.1, HR6.out.2⟩
              case measure => simp [intOf]; omega
            · rw [if_neg z1, List.append_nil] at HU
              have HR6 : Hid _ := And.intro hownX hbelX
              clear hownX hbelX k0 k1
              go_wp2
              go_roundw
              case rel => exact ⟨j + 1, n, a, c, by omega, rfl, by go_num, by show _ = _; rw [HU.out]; exact HNX.out, by rw [HU.out]; exact HR6.out.1, HR6.out.2⟩
              case measure => simp [intOf]; omega
        · have hjk : j = k := by omega
          subst hjk
          have hji : ¬ (j : Int) < (j : Int) := by omega
          have hR := hown.pts_high (Nat.le_trans HB3.out.size (Nat.le_refl _))
          have e9 : Md.upto (g, xs, cap, ()) ts (j * 2) = Md.parts (g, xs, cap, ()) ts := by unfold Md.parts; rw [HL.out]
          rw [e9] at hR
          have HR9 : Hid _ := And.intro (bel_then HB3.out hbel) hR
          clear hown hbel e9 hR
          go_wp2
          go_ret
          exact ⟨HR9.out.1, a, n, c, rfl, HR9.out.2⟩
end Go.Proofs.YtokfcjgfpchffaaGreatDoor

/- Sums of two rows, and where they lie: the program's and the document's Add once more; rows apart from a slice of rows; lists of rows that are added to. -/
namespace Go.Proofs.YtokfcjgfpchffaaGreatDoor
open Go.ChangeShapes Go.WideShapes Go.ChangeAt Go.RowKit

set_option maxRecDepth 100000 in
theorem raddH (a b : Option Addr) (n ca cb : Nat) (la lb : List Int) (w : World) (ha : Row .i64 w a n la) (hb : Row .i64 w b n lb) (hn : n ≤ 100000) :
    Calls Tryz.prog 37 #[.slice a n ca, .slice b n cb] w fun e w' => ∃ a' c', e = .returned (.slice a' n c') ∧ rowS.rep w' (w.heap.size ≤ ·) [.slice a' n c'] (Vx.add la lb) ∧ Below w.heap.size w w' := by
  obtain ⟨i0, hi, hz0, hz1, hz2⟩ := info_parts Tryz.infoInt
  have HA : Hid (la.length = n) := ha.len
  have HB : Hid (lb.length = n) := hb.len
  go_enter Tryz.func37, Tryz.ntmps37
  go_wp2
  go_loopw [5, 6] (fun v i wr => ∃ j : Nat, j ≤ n ∧ i = .int .i64 j ∧ wr.ownsRow w.heap.size 3 1 v j ((Vx.add (la.take j) (lb.take j)).map (Value.int .i64)) ∧ Below w.heap.size w wr) (fun _ i _ => n - (intOf i).toNat)
  case atStart => exact ⟨0, Nat.zero_le _, rfl, World.ownsRow_nil _ _ _ _, Below.refl _ _⟩
  case round =>
    obtain ⟨j, hj, rfl, hown, hbel⟩ := hrel
    by_cases hlt : j < n
    · obtain ⟨b1, o1, rfl, hb1, hc1⟩ := ha.at hlt
      obtain ⟨b2, o2, rfl, hb2, hc2⟩ := hb.at hlt
      have hd1 : wr.cell? ⟨b1, o1 + j, none⟩ = some (.int .i64 (la.getD j 0)) := (hbel.cell (by exact hb1)).trans hc1
      have hd2 : wr.cell? ⟨b2, o2 + j, none⟩ = some (.int .i64 (lb.getD j 0)) := (hbel.cell (by exact hb2)).trans hc2
      have hj0 : (0 : Int) ≤ (j : Int) := Int.natCast_nonneg _
      have hli : (j : Int) < (n : Int) := by omega
      have HS : Hid (Vx.add (la.take (j + 1)) (lb.take (j + 1)) = Vx.add (la.take j) (lb.take j) ++ [Fx.hold (IntKind.i64.wrap (Fx.hold (la.getD j 0) + Fx.hold (lb.getD j 0)))]) := by
        show _ = _
        rw [wrap_sum]; exact Vx.add_succ la lb j (by have := HA.out; omega) (by have := HB.out; omega)
      clear hc1 hc2
      generalize la.getD j 0 = x at *
      generalize lb.getD j 0 = y at *
      have l1 := Fx.hold_lo x; have l2 := Fx.hold_hi x; have l3 := Fx.hold_lo y; have l4 := Fx.hold_hi y
      have hsz := hbel.size
      have hne : ∀ g, g < w.heap.size → some g ≠ u5.ownBlock := fun g hg h => by have := (hown.lt g h.symm).1; omega
      have hne1 := hne b1 hb1; have hne2 := hne b2 hb2
      clear hne
      go_wp2
      go_region_held3 (fun w' => w'.cell? ⟨b1, o1 + j, none⟩ = some (.int .i64 x) ∧ w'.cell? ⟨b2, o2 + j, none⟩ = some (.int .i64 y))
        (first
          | go_keep
          | (go_split_ands
             refine ⟨?_, ?_⟩
             · (rw [hgrow.cell_far _ (by simp; omega) hne1]; assumption)
             · (rw [hgrow.cell_far _ (by simp; omega) hne2]; assumption)))
        (first
          | (go_at_call 71; refine by_same (rhold _ _) ?_)
          | (refine step_append_lies _ (by rfl) _ _ _ (by rfl) w.heap.size 3 i0 _ 1 8 Tryz.underlying31 hi hz0 hz1 hz2 rfl (by omega) _ _ _ (by rfl) ((hown.alloc _).drew) ⟨wr.heap.size, 0, none⟩ 1 1 [.int .i64 (Fx.hold (IntKind.i64.wrap (Fx.hold x + Fx.hold y)))] (by rfl) (by rfl) (World.news_of_block (cs := #[.int .i64 (Fx.hold (IntKind.i64.wrap (Fx.hold x + Fx.hold y)))]) (t := 3) (fr := (0, 0)) (heap_alloc_new wr _)) (by simp [Value.oneCell']) (by omega) (by unfold maxLen; omega) (by omega) (by simp; omega) (wr.heap.size + 1) (by simp) ?_; intro gg cap w1 hown1 hgrow hat hlt1))
      have hb' : Below w.heap.size w w1 := (hbel.alloc hbel.size _).drew.grown hgrow (by simp; omega) (fun g hg => (hown.lt g hg).1)
      have ho' := own_snoc hown1 HS.out
      clear hown1 hgrow hown
      go_wp2
      go_roundw
      case rel => exact ⟨j + 1, by omega, by go_num, ho', hb'⟩
      case measure => simp [intOf]; omega
    · have hkn : j = n := by omega
      subst hkn
      have e1 : la.take j = la := List.take_of_length_le (by have := HA.out; omega)
      have e2 : lb.take j = lb := List.take_of_length_le (by have := HB.out; omega)
      rw [e1, e2] at hown
      clear e1 e2
      obtain ⟨a', c', rfl, hcm, hrow⟩ := Row.of_owns hown
      have hrep := rep_high hown
      go_wp2
      go_ret
      exact ⟨a', c', rfl, hrep, hbel⟩

set_option maxRecDepth 100000 in
theorem vaddH (a b : Option Addr) (n ca cb : Nat) (la lb : List Int) (w : World) (ha : Row .i64 w a n la) (hb : Row .i64 w b n lb) (hn : n ≤ 100000) :
    Calls Tryz.prog 124 #[.slice a n ca, .slice b n cb] w fun e w' => ∃ a' c', e = .returned (.tuple #[.slice a' n c', .bool true]) ∧ rowS.rep w' (w.heap.size ≤ ·) [.slice a' n c'] (Vx.add la lb) ∧ Below w.heap.size w w' := by
  have hmf : ∀ (fn : Fn) (first cap : Array Value) (w : World), (Instr.makeFunc fn first cap).run Tryz.prog w = .ok (.func fn first cap) w := fun _ _ _ _ => rfl
  have h0 : Below w.heap.size w (w.alloc (.cells #[.slice none 0 0] 31)) := (Below.refl _ _).alloc (Nat.le_refl _) _
  have hc : (w.alloc (.cells #[.slice none 0 0] 31)).cell? ⟨w.heap.size, 0, none⟩ = some (.slice none 0 0) := by
    rw [World.cell?_alloc_at _ _ _ _ rfl]; rfl
  have hf : (w.alloc (.cells #[.slice none 0 0] 31)).frozen? ⟨w.heap.size, 0, none⟩ = false := World.frozen?_alloc_at _ _ _ _ rfl
  go_enter Tryz.func124, Tryz.ntmps124
  go_wp2_with fail
  refine (pairs_add a b n ca cb la lb w (w.alloc (.cells #[.slice none 0 0] 31)) w.heap.size ha hb hn h0 (Nat.le_refl _) (by simp) hc hf).mono ?_
  rintro e w1 ⟨rfl, hb1, v, hc1, hown⟩
  obtain ⟨a', c', rfl, hcm, hrow⟩ := Row.of_owns hown
  have hrep := rowS.mono (rep_high hown) (fun b (hb : w.heap.size + 1 ≤ b) _ => (by omega : w.heap.size ≤ b))
  go_wp2
  go_ret2
  exact ⟨a', c', rfl, hrep, hb1⟩


/-- A row lies in no block that is a slice of rows. -/
theorem Own.off {w : World} {base : Nat} {e : TypeId} {g n : Nat} {xs : List (List Int)} (h : Own rowS w base e (.slice (some ⟨g, 0, none⟩) n n) xs) {a : Option Addr} {m c : Nat} {l : List Int} {F : Nat → Prop} (hr : rowS.rep w F [.slice a m c] l) : rowS.rep w (fun b => b ≠ g) [.slice a m c] l := by
  have hl := (sliceS_len h.is).1
  obtain ⟨css, ⟨_, h1⟩, hall⟩ := h
  have hones : ∀ v ∈ css.flatten, ∃ a n c, v = .slice a n c := by
    intro v hv
    obtain ⟨d, hd, hvd⟩ := List.mem_flatten.1 hv
    obtain ⟨j, hj⟩ := List.getElem?_of_mem hd
    have hjl : j < css.length := (List.getElem?_eq_some_iff.1 hj).1
    obtain ⟨a, c, _, rfl, _⟩ := hall.2 j d _ hj (List.getElem?_eq_getElem (by rw [← hall.1]; exact hjl))
    exact ⟨_, _, _, List.mem_singleton.1 hvd⟩
  rcases h1 with ⟨he, h0⟩ | ⟨g', cap, cur, he, hb, hg, hnc, hcm, hcs, htake⟩
  · cases he
  · cases he
    obtain ⟨hm, hc1, hc2⟩ := sliceS_len hr
    by_cases h0 : m = 0
    · subst h0
      have := List.eq_nil_of_length_eq_zero hm
      subst this
      exact ⟨a, c, [], rfl, hc1, hc2, Shape.all_nil, .inl rfl⟩
    · refine (Row.of_rep hr).rep hc1 hc2 fun b off hb hbg => ?_
      subst hb
      subst hbg
      obtain ⟨b2, o2, he, _, hc⟩ := (Row.of_rep hr).at (j := 0) (by omega)
      cases he
      rw [cell_of_row w b (off + 0) cur e (0, 0) hg] at hc
      have hmem : Value.int .i64 (l.getD 0 0) ∈ css.flatten := by
        rw [← htake, List.take_of_length_le (by rw [Array.length_toList, hcs, hl]; exact Nat.le_refl _)]
        have h7 : cur.toList[off + 0]? = some (.int .i64 (l.getD 0 0)) := by simpa using hc
        exact List.mem_of_getElem? h7
      obtain ⟨_, _, _, h9⟩ := hones _ hmem
      cases h9

namespace Md
/-- The first k parts are added. -/
def combTo (ts : List (List Int)) (ps : List Pt) (zs : List (List Int)) (k : Nat) : List (List Int) := puts ts ((ps.zip zs).take k)
section
variable {ts zs : List (List Int)} {ps : List Pt} {k : Nat}
theorem combTo_zero (ts : List (List Int)) (ps : List Pt) (zs : List (List Int)) : combTo ts ps zs 0 = ts := by simp [combTo, puts]
theorem combTo_len (ts : List (List Int)) (ps : List Pt) (zs : List (List Int)) (k : Nat) : (combTo ts ps zs k).length = ts.length := puts_len _ _
theorem combTo_no (h : zs.length ≤ k) : combTo ts ps zs (k + 1) = combTo ts ps zs k := by
  unfold combTo
  rw [List.take_of_length_le (by rw [List.length_zip]; omega), List.take_of_length_le (by rw [List.length_zip]; omega)]
theorem combTo_yes (hp : k < ps.length) (ha : k < zs.length) : combTo ts ps zs (k + 1) = put (combTo ts ps zs k) (ps.getD k pt0) (zs.getD k []) := by
  unfold combTo
  have hz : k < (ps.zip zs).length := by rw [List.length_zip]; omega
  rw [List.take_succ_eq_append_getElem hz, puts_snoc, List.getElem_zip, get_of hp, get_of ha]
theorem combTo_all : combTo ts ps zs ps.length = combine ts ps zs := by
  unfold combTo combine
  rw [List.take_of_length_le (by rw [List.length_zip]; omega)]
theorem put_no {o : List (List Int)} {p : Pt} {a : List Int} (h : ¬ (0 ≤ p.1 ∧ p.1 < (o.length : Int) ∧ (o.getD p.1.toNat []).length = a.length)) : put o p a = o := by unfold put; rw [if_neg h]
theorem put_yes {o : List (List Int)} {t : Nat} {r x k : Int} {a : List Int} (h1 : t < o.length) (h2 : (o.getD t []).length = a.length) : put o (pt t r x k) a = o.set t (Vx.add (o.getD t []) (Vx.scale a k)) := by
  unfold put
  rw [if_pos ⟨by show (0 : Int) ≤ (t : Int); omega, by show (t : Int) < _; omega, h2⟩]
  rfl
theorem put_sized {N : Nat} {o : List (List Int)} {p : Pt} {a : List Int} (h : ∀ v ∈ o, v.length ≤ N) : ∀ v ∈ put o p a, v.length ≤ N := by
  unfold put
  split
  · rename_i hc
    intro v hv
    rcases List.mem_or_eq_of_mem_set hv with hv | rfl
    · exact h v hv
    · rw [Vx.add_length _ _ (by rw [Vx.scale_length, hc.2.2])]
      exact h _ (Mx.getD_mem o _ (by omega))
  · exact h
theorem puts_sized {N : Nat} (xs : List (Pt × List Int)) {o : List (List Int)} (h : ∀ v ∈ o, v.length ≤ N) : ∀ v ∈ puts o xs, v.length ≤ N := by
  induction xs generalizing o with
  | nil => exact h
  | cons x xs ih => exact ih (o := put o x.1 x.2) (put_sized h)
theorem combTo_sized {N : Nat} (h : ∀ v ∈ ts, v.length ≤ N) : ∀ v ∈ combTo ts ps zs k, v.length ≤ N := puts_sized _ h
end
end Md

end Go.Proofs.YtokfcjgfpchffaaGreatDoor

/- What model's run and Combine do when called. -/
namespace Go.Proofs.YtokfcjgfpchffaaGreatDoor
open Go.ChangeShapes Go.WideShapes Go.ChangeAt Go.RowKit

end Go.Proofs.YtokfcjgfpchffaaGreatDoor

/- What model.Combine does when called. -/
namespace Go.Proofs.YtokfcjgfpchffaaGreatDoor
open Go.ChangeShapes Go.WideShapes Go.ChangeAt Go.RowKit

/-- What 'make([][]int, n)' lays, among certain blocks. -/
theorem Own.rows_madeP {P : Nat → Prop} {w : World} {base g n c : Nat} {e : TypeId} (h : w.ownsRow base e 1 (.slice (some ⟨g, 0, none⟩) n c) n (madeCells #[.slice none 0 0] n).toList) : Own (inS rowS P) w base e (.slice (some ⟨g, 0, none⟩) n c) (List.replicate n []) :=
  Own.made (A := inS rowS P) (z := [.slice none 0 0]) (by show 0 < 1; omega) rfl (by show w.ownsRow base e 1 _ n (madeCells #[.slice none 0 0] (n * 1)).toList; rw [Nat.mul_one]; exact h) (fun F => rep_none _ _ _)

set_option maxHeartbeats 4000000 in
set_option maxRecDepth 100000 in
theorem mcombineH (a : Option Addr) (n c : Nat) (ts : List (List Int)) (pa : Option Addr) (pn pc : Nat) (ps : List Pt) (ya : Option Addr) (yn yc : Nat) (ys : List (List Int)) (w : World) (ht : matS.rep w everywhere [.slice a n c] ts) (hp : ptsS.rep w everywhere [.slice pa pn pc] ps) (hy : matS.rep w everywhere [.slice ya yn yc] ys)
    (hn : n ≤ 1000) (hpn : pn ≤ 1000) (hts : ∀ v ∈ ts, v.length ≤ 1000) (hys : ∀ v ∈ ys, v.length ≤ 1000) :
    Calls Tryz.prog 87 #[.slice a n c, .slice pa pn pc, .slice ya yn yc] w fun e w' => Below w.heap.size w w' ∧ ∃ a' c', e = .returned (.slice a' n c') ∧ matS.rep w' (w.heap.size ≤ ·) [.slice a' n c'] (Md.combine ts ps ys) := by
  have hlt0 := (sliceS_len ht).1
  have hlp := (sliceS_len hp).1
  have hly := (sliceS_len hy).1
  obtain ⟨i0, hi0, hi1, hi2, hi3⟩ := info_parts Tryz.infoRow
  have HL : Hid (ts.length = n) := hlt0
  have HLP : Hid (ps.length = pn) := hlp
  have HLY : Hid (ys.length = yn) := hly
  have HT : Hid (matS.rep w everywhere [.slice a n c] ts) := ht
  have HP : Hid (ptsS.rep w everywhere [.slice pa pn pc] ps) := hp
  have HY : Hid (matS.rep w everywhere [.slice ya yn yc] ys) := hy
  have HTS : Hid (∀ v ∈ ts, v.length ≤ 1000) := hts
  have HYS : Hid (∀ v ∈ ys, v.length ≤ 1000) := hys
  clear hlt0 hlp hly ht hp hy hts hys
  go_enter Tryz.func87, Tryz.ntmps87
  go_wp2_with (at_make; refine wpList_make_full _ rfl _ _ 32 rfl w.heap.size 31 i0 (.slice none 0 0) 1 Tryz.underlying32 hi0 hi1 hi2 _ _ _ _ n rfl rfl (by rfl) (by rfl) ?b2 ?b3 (Nat.le_refl _) ?_)
  case b2 => rw [hi3]; omega
  case b3 => unfold maxLen; omega
  intro u0 hown0 hg0
  have hb0 : Below w.heap.size w u0 := (Below.refl _ _).grown hg0 (Nat.le_refl _) (fun g hg => by cases hg)
  have HO : Hid (Own (inS rowS (w.heap.size ≤ ·)) u0 w.heap.size 31 (.slice (some ⟨w.heap.size, 0, none⟩) n n) (List.replicate n [])) := Own.rows_madeP hown0
  clear hown0 hg0
  go_wp2
  go_loopw [19] (fun i wr => ∃ k : Nat, k ≤ n ∧ i = .int .i64 k ∧ Own (inS rowS (w.heap.size ≤ ·)) wr w.heap.size 31 (.slice (some ⟨w.heap.size, 0, none⟩) n n) (fillD [] ts k) ∧ Below w.heap.size w wr) (fun i _ => n - (intOf i).toNat)
  case atStart => exact ⟨0, Nat.zero_le _, rfl, by rw [fillD_zero, HL.out]; exact HO.out, hb0⟩
  case round =>
    clear HO hb0
    obtain ⟨k, hk, rfl, hown, hbel⟩ := hrel
    obtain ⟨W0, hW0⟩ : ∃ W0, W0 = wr := ⟨_, rfl⟩
    subst hW0
    by_cases hlt : k < n
    · obtain ⟨b1, o1, A, C, rfl, _, c0, hr⟩ := mat_at (Shape.below HT.out hbel) hlt
      have hli : (k : Int) < (n : Int) := by omega
      have hk0 : (0 : Int) ≤ (k : Int) := by omega
      have hkl : k < ts.length := by have := HL.out; omega
      have hv9 := HTS.out _ (Mx.getD_mem ts k hkl)
      obtain ⟨v, hv⟩ : ∃ v, ts.getD k [] = v := ⟨_, rfl⟩
      rw [hv] at c0 hr hv9
      have HV : Hid (ts.getD k [] = v) := hv
      have HC : Hid (Calls _ _ _ _ _) := clone A v.length C v W0 (Shape.any hr) hv9
      have hsz := (hown.lt w.heap.size rfl).2
      clear hr hv
      go_wp2_with fail
      refine HC.out.mono ?_
      rintro e u1 ⟨hb1, a4, c4, rfl, ho4⟩
      have hown3 := hown.keep hb1
      obtain ⟨⟨z0, x0⟩, f0, hst⟩ := hown3.store rfl hlt (inS_of ho4.high (fun b (hb : W0.heap.size ≤ b) => by have := hbel.size; omega)) (fun b (hb : W0.heap.size ≤ b) => by omega)
      rw [fillD_set hkl HV.out] at hst
      have HST : Hid _ := And.intro hst (bel_put (i := k) (bel_then hbel hb1) (Nat.le_refl w.heap.size) (.slice a4 v.length c4))
      clear hst hown hown3 hb1 hbel ho4 HC c0
      go_wp2
      go_roundw
      case rel => exact ⟨k + 1, by omega, by go_num, HST.out.1, HST.out.2⟩
      case measure => simp [intOf]; omega
    · have hkn : k = n := by omega
      subst hkn
      have hli : ¬ (k : Int) < (k : Int) := by omega
      have e9 : fillD [] ts k = ts := by
        have := fillD_all [] ts
        rwa [HL.out] at this
      rw [e9] at hown
      have HO : Hid (Own (inS rowS (w.heap.size ≤ ·)) W0 w.heap.size 31 (.slice (some ⟨w.heap.size, 0, none⟩) k k) (Md.combTo ts ps ys 0)) := by rw [Md.combTo_zero]; exact hown
      clear e9 hown
      go_wp2
      go_loopw [32] (fun i wr => ∃ j : Nat, j ≤ pn ∧ i = .int .i64 j ∧ Own (inS rowS (w.heap.size ≤ ·)) wr w.heap.size 31 (.slice (some ⟨w.heap.size, 0, none⟩) k k) (Md.combTo ts ps ys j) ∧ Below w.heap.size w wr) (fun i _ => pn - (intOf i).toNat)
      case atStart => exact ⟨0, Nat.zero_le _, rfl, HO.out, hbel⟩
      case round =>
        clear HO hbel
        obtain ⟨j, hj, rfl, hown, hbel⟩ := hrel
        by_cases hjt : j < pn
        · obtain ⟨b1, o1, t, r, x, s, rfl, _, hE, c0, c1, c2, c3⟩ := pt_there (Shape.below HP.out hbel) hjt
          have hji : (j : Int) < (pn : Int) := by omega
          have hj0 : (0 : Int) ≤ (j : Int) := by omega
          have hjl : j < ps.length := by have := HLP.out; omega
          have hbn := new_bel wr (.cells #[.int .i64 t, .int .i64 r, .int .i64 x, .int .i64 s] 95)
          have kb := Box.new wr 95 #[.int .i64 t, .int .i64 r, .int .i64 x, .int .i64 s]
          have hbelA := bel_then hbel hbn
          have hownA := hown.keep hbn
          have HE : Hid (ps.getD j pt0 = pt t r x s) := hE
          clear hE
          by_cases hya : yn ≤ j
          · have hyi : (yn : Int) ≤ (j : Int) := by omega
            rw [← Md.combTo_no (by rw [HLY.out]; exact hya)] at hownA
            have HR : Hid _ := And.intro hownA hbelA
            clear hownA hbelA hown hbel hbn kb
            go_wp2
            go_roundw
            case rel => exact ⟨j + 1, by omega, by go_num, HR.out.1, HR.out.2⟩
            case measure => simp [intOf]; omega
          · have hyi : ¬ (yn : Int) ≤ (j : Int) := by omega
            have hyl : j < ys.length := by have := HLY.out; omega
            have HY1 : Hid (Md.combTo ts ps ys (j + 1) = Md.put (Md.combTo ts ps ys j) (pt t r x s) (ys.getD j [])) := by show _ = _; rw [Md.combTo_yes hjl hyl, HE.out]
            have HCL : Hid ((Md.combTo ts ps ys j).length = k) := by show _ = _; rw [Md.combTo_len]; exact HL.out
            by_cases htt : 0 ≤ t ∧ t < (k : Int)
            case neg =>
              have e9 : Md.combTo ts ps ys (j + 1) = Md.combTo ts ps ys j := by
                rw [HY1.out]
                refine Md.put_no fun h => htt ⟨h.1, ?_⟩
                have h7 : t < ((Md.combTo ts ps ys j).length : Int) := h.2.1
                rwa [HCL.out] at h7
              rw [← e9] at hownA
              have HR : Hid _ := And.intro hownA hbelA
              clear hownA hbelA hown hbel hbn kb e9
              rcases (by omega : t < 0 ∨ (¬ t < 0 ∧ (k : Int) ≤ t)) with g0 | ⟨g0, g1⟩
              all_goals
                clear htt
                go_wp2
                go_roundw
                case rel => exact ⟨j + 1, by omega, by go_num, HR.out.1, HR.out.2⟩
                case measure => simp [intOf]; omega
            obtain ⟨g0, g1⟩ := htt
            obtain ⟨t', rfl⟩ : ∃ t' : Nat, t = t' := ⟨t.toNat, by omega⟩
            have htk : t' < k := by omega
            obtain ⟨b2, o2, A, C, he, _, e0, hr⟩ := mat_at hownA.plain htk
            injection he with he; injection he with hx1 hx2 _; subst hx1; subst hx2
            rw [Nat.zero_add] at e0
            obtain ⟨b3, o3, A3, C3, rfl, hb3, e1, hr3⟩ := mat_at HY.out (j := j) (by omega)
            have hv9 := Md.combTo_sized (ps := ps) (zs := ys) (k := j) HTS.out _ (Mx.getD_mem (Md.combTo ts ps ys j) t' (by rw [HCL.out]; exact htk))
            have hy9 := HYS.out _ (Mx.getD_mem ys j hyl)
            obtain ⟨v, hv⟩ : ∃ v, (Md.combTo ts ps ys j).getD t' [] = v := ⟨_, rfl⟩
            obtain ⟨y, hyv⟩ : ∃ y, ys.getD j [] = y := ⟨_, rfl⟩
            rw [hv] at e0 hr hv9
            rw [hyv] at e1 hr3 hy9
            have HV : Hid ((Md.combTo ts ps ys j).getD t' [] = v ∧ ys.getD j [] = y) := ⟨hv, hyv⟩
            have d1 := (hbelA.cell (by exact hb3)).trans e1
            have hR := Row.of_rep hr
            have hR3 := (Row.of_rep hr3).keep hbelA
            have hsz := (hown.lt w.heap.size rfl).2
            have g2 : ¬ (t' : Int) < 0 := by omega
            have g3 : ¬ (k : Int) ≤ (t' : Int) := by omega
            have hjy : (j : Int) < (yn : Int) := by omega
            clear hv hyv e1 hr hr3 hown hbel hbn
            go_upto_region 11 with fail
            clear c0 c1 c2 c3
            generalize wr.alloc (.cells #[.int .i64 (t' : Int), .int .i64 r, .int .i64 x, .int .i64 s] 95) = W at *
            have c0 := kb.cell 0 rfl
            have c3 := kb.cell 3 rfl
            have hD : Below W.heap.size W W.drew := (Below.refl _ W).drew
            have HC : Hid (Calls _ _ _ _ _) := vscale A3 y.length C3 s y W.drew (hR3.keep hD) (by omega)
            clear hR3
            by_cases hvy : v.length = y.length
            · have HP1 : Hid (Md.combTo ts ps ys (j + 1) = (Md.combTo ts ps ys j).set t' (Vx.add v (Vx.scale y s))) := by
                show _ = _
                rw [HY1.out, HV.out.2, Md.put_yes (by rw [HCL.out]; exact htk) (by rw [HV.out.1]; exact hvy), HV.out.1]
              rw [hvy] at e0 hR
              clear hvy hv9
              have HH : Hid (∀ u, Below W.heap.size W u → u.cell? ⟨wr.heap.size, 0, none⟩ = some (.int .i64 (t' : Int)) ∧ u.cell? ⟨wr.heap.size, 3, none⟩ = some (.int .i64 s) ∧ u.cell? ⟨w.heap.size, t', none⟩ = some (.slice A y.length C) ∧ u.cell? ⟨b3, o3 + j, none⟩ = some (.slice A3 y.length C3)) := fun u hb => ⟨(kb.keep hb).cell 0 rfl, (kb.keep hb).cell 3 rfl, (hb.cell (World.block_lt_of_cell? W _ e0)).trans e0, (hb.cell (World.block_lt_of_cell? W _ d1)).trans d1⟩
              go_region_held3 (fun w' => w'.cell? ⟨wr.heap.size, 0, none⟩ = some (.int .i64 (t' : Int)) ∧ w'.cell? ⟨wr.heap.size, 3, none⟩ = some (.int .i64 s) ∧ w'.cell? ⟨w.heap.size, t', none⟩ = some (.slice A y.length C) ∧ w'.cell? ⟨b3, o3 + j, none⟩ = some (.slice A3 y.length C3))
                (first
                  | exact HH.out _ hd5
                  | exact HH.out _ hd4
                  | exact HH.out _ hD
                  | exact HH.out _ (Below.refl _ _)
                  | go_keep)
                (first
                | (go_at_call 125; refine HC.out.mono ?_; rintro e u3 ⟨a3, c3', rfl, hr4, hb3⟩; have hd4 := bel_then hD hb3)
                | (go_at_call 124; refine (vaddH A a3 y.length C c3' v (Vx.scale y s) u3 (hR.keep hd4) hr4 (by omega)).mono ?_; rintro e u4 ⟨a4, c4, rfl, hr5, hb5⟩; have hd5 := bel_then hd4 hb5))
              all_goals
                have kb5 := kb.keep hd5
                have c5 := kb5.cell 0 rfl
                have hown5 := hownA.keep hd5
                obtain ⟨⟨z0, x0⟩, f0, hst⟩ := hown5.store rfl htk (inS_of hr5 (fun b hb => by have h7 : u3.heap.size ≤ b := hb; have := hd4.size; have := kb.lt; omega)) (fun b hb => by have h7 : u3.heap.size ≤ b := hb; have := hd4.size; have := kb.lt; omega)
                rw [← HP1.out] at hst
                have HST : Hid _ := And.intro hst (bel_put (i := t') (bel_then hbelA hd5) (Nat.le_refl w.heap.size) (.slice a4 y.length c4))
                clear hst hown5 hd5 hd4 hr5 hr4 hb5 hb3 hownA hbelA HC hR kb kb5 c0 c3 e0 d1
                go_wp2
                go_roundw
                case rel => exact ⟨j + 1, by omega, by go_num, HST.out.1, HST.out.2⟩
                case measure => simp [intOf]; omega
            · have e9 : Md.combTo ts ps ys (j + 1) = Md.combTo ts ps ys j := by
                rw [HY1.out]
                refine Md.put_no fun h => hvy ?_
                have h7 : ((Md.combTo ts ps ys j).getD t' []).length = (ys.getD j []).length := h.2.2
                rwa [HV.out.1, HV.out.2] at h7
              rw [← e9] at hownA
              have HNE : Hid (v.length ≠ y.length) := hvy
              clear hvy
              have HH : Hid (∀ u, Below W.heap.size W u → u.cell? ⟨wr.heap.size, 0, none⟩ = some (.int .i64 (t' : Int)) ∧ u.cell? ⟨wr.heap.size, 3, none⟩ = some (.int .i64 s) ∧ u.cell? ⟨w.heap.size, t', none⟩ = some (.slice A v.length C) ∧ u.cell? ⟨b3, o3 + j, none⟩ = some (.slice A3 y.length C3)) := fun u hb => ⟨(kb.keep hb).cell 0 rfl, (kb.keep hb).cell 3 rfl, (hb.cell (World.block_lt_of_cell? W _ e0)).trans e0, (hb.cell (World.block_lt_of_cell? W _ d1)).trans d1⟩
              go_region_held3 (fun w' => w'.cell? ⟨wr.heap.size, 0, none⟩ = some (.int .i64 (t' : Int)) ∧ w'.cell? ⟨wr.heap.size, 3, none⟩ = some (.int .i64 s) ∧ w'.cell? ⟨w.heap.size, t', none⟩ = some (.slice A v.length C) ∧ w'.cell? ⟨b3, o3 + j, none⟩ = some (.slice A3 y.length C3))
                (first
                  | exact HH.out _ hd5
                  | exact HH.out _ hd4
                  | exact HH.out _ hD
                  | exact HH.out _ (Below.refl _ _)
                  | go_keep)
                (first
                | (go_at_call 125; refine HC.out.mono ?_; rintro e u3 ⟨a3, c3', rfl, hr4, hb3⟩; have hd4 := bel_then hD hb3)
                | (go_at_call 124; refine (vadd_no A a3 v.length y.length C c3' u3 HNE.out).mono ?_; rintro e u4 ⟨rfl, hb5⟩; have hd5 := bel_then hd4 hb5))
              all_goals
                have HR : Hid _ := And.intro (hownA.keep hd5) (bel_then hbelA hd5)
                clear hownA hbelA HC hR kb c0 c3 e0 d1 hd4 hd5 hb3 hb5 hr4 e9
                go_wp2
                go_roundw
                case rel => exact ⟨j + 1, by omega, by go_num, HR.out.1, HR.out.2⟩
                case measure => simp [intOf]; omega
        · have hjk : j = pn := by omega
          subst hjk
          have hji : ¬ (j : Int) < (j : Int) := by omega
          have e9 : Md.combTo ts ps ys j = Md.combine ts ps ys := by rw [← HLP.out]; exact Md.combTo_all
          rw [e9] at hown
          have hR := hown.within
          clear e9 hown
          go_wp2
          go_ret
          exact ⟨hbel, _, _, rfl, hR⟩
end Go.Proofs.YtokfcjgfpchffaaGreatDoor

/- What model.Forward does when called. -/
namespace Go.Proofs.YtokfcjgfpchffaaGreatDoor
open Go.ChangeShapes Go.WideShapes Go.ChangeAt Go.RowKit

theorem Md.answers_sized {l : Ly} {ts : List (List Int)} {dim : Int} (hl : Md.LRight l dim) (ht : Md.TRight dim ts) (hd : dim ≤ 8) : ∀ v ∈ Md.answers l ts (Md.parts l ts), v.length ≤ 1000 := by
  intro v hv
  obtain ⟨p, hp, rfl⟩ := List.mem_map.1 hv
  obtain ⟨h0, h1, h2, h3⟩ := Md.part_fits hp
  have h4 := (ht.row (t := p.1.toNat) (by omega)).1
  rw [Md.ans_len hl h4 h2 h3]
  omega
theorem Md.parts_len (l : Ly) (ts : List (List Int)) : (Md.parts l ts).length ≤ ts.length * 2 := Md.upto_len _ _ _
end Go.Proofs.YtokfcjgfpchffaaGreatDoor
