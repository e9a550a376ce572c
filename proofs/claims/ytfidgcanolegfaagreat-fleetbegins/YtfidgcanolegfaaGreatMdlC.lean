/- What model.Parts does when called. -/
import Derived.Test.YtfidgcanolegfaaGreatMdlB
import Derived.Test.YtfidgcanolegfaaGreatLits
namespace Go.Proofs.YtfidgcanolegfaaGreat
open Go.ChangeShapes Go.WideShapes Go.ChangeAt Go.RowKit

abbrev pr0 : Pr := (0, 0, ())
theorem pr_rep (w : World) (F : Nat → Prop) (p q : Int) : prS.rep w F [.int .i64 p, .int .i64 q] (p, q, ()) := ⟨[_], [_], rfl, rfl, [_], [], rfl, rfl, rfl⟩

/-- A token's two parts, by whether they have a slot. -/
theorem Md.token_parts {l : Ly} {ts : List (List Int)} {k : Nat} (hk : k < ts.length) {p q r s : Int} (hE : (Md.chosen l.1 ts).getD k pt0 = pt p q r s) {s0 s1 : Int} (h0 : Md.slot l ts (k * 2) = s0) (h1 : Md.slot l ts (k * 2 + 1) = s1) :
    Md.upto l ts ((k + 1) * 2) = (Md.upto l ts (k * 2) ++ (if 0 ≤ s0 then [pt k 0 p r] else [])) ++ (if 0 ≤ s1 then [pt k 1 q s] else []) := by
  rw [Md.chosen_at l.1 hk] at hE
  obtain ⟨rfl, rfl, rfl, rfl⟩ := Md.pt_eq hE
  rw [Md.upto_token, Md.one_even l hk, Md.one_odd l hk, h0, h1, List.append_assoc]

/-- Parts that the call owns lie in its own blocks. -/
theorem Own.pts_high {w : World} {base N : Nat} {e : TypeId} {a : Option Addr} {n c : Nat} {xs : List Pt} (h : Own ptS w base e (.slice a n c) xs) (hN : N ≤ base) : ptsS.rep w (N ≤ ·) [.slice a n c] xs := by
  obtain ⟨css, h1, h2⟩ := h
  have h3 : Own (inS ptS (base ≤ ·)) w base e (.slice a n c) xs := ⟨css, h1, h2.1, fun j d x hd hx => by
    have h4 := pt_is (h2.2 j d x hd hx)
    subst h4
    exact pt_rep _ _ _ _ _ _⟩
  exact ptsS.mono h3.within fun b hb _ => Nat.le_trans hN hb

set_option maxHeartbeats 4000000 in
set_option maxRecDepth 100000 in
theorem mpartsH (ag : Option Addr) (ng cg : Nat) (ax : Option Addr) (nx cx : Nat) (g : List (List Int)) (xs : List Xp) (cap dim : Int) (b : Option Addr) (m d : Nat) (ts : List (List Int)) (w : World) (hg : matS.rep w everywhere [.slice ag ng cg] g) (hx : xpsS.rep w everywhere [.slice ax nx cx] xs)
    (ht : matS.rep w everywhere [.slice b m d] ts) (hL : Md.LRight (g, xs, cap, ()) dim) (hd : dim ≤ 8) (hT : Md.TRight dim ts) :
    Calls Tryz.prog 79 #[.agg #[.slice ag ng cg, .slice ax nx cx, .int .i64 cap], .slice b m d] w fun e w' => Below w.heap.size w w' ∧ ∃ a' n' c', e = .returned (.slice a' n' c') ∧ ptsS.rep w' (w.heap.size ≤ ·) [.slice a' n' c'] (Md.parts (g, xs, cap, ()) ts) := by
  have hlt0 := (sliceS_len ht).1
  have hlx := (sliceS_len hx).1
  have hlg := (sliceS_len hg).1
  have hm : m ≤ 16 := by have := hT.2.1; omega
  have hng : ng ≤ 1000 := by have h7 : g.length = xs.length := hL.gate; have h8 : xs.length ≤ 8 := hL.2.1; omega
  have HP : Hid (Md.Picks g ts) := Md.picks hL hT hd
  have HF : Hid (∀ x ∈ Md.wants g ts, (Lit.int .i64 x).wf = true) := Md.want_fit hL hT
  have HL : Hid (ts.length = m) := hlt0
  have HLX : Hid (xs.length = nx) := hlx
  have hB := new_bel w (.cells #[.slice ag ng cg, .slice ax nx cx, .int .i64 cap] 65)
  have q0 := Box.new w 65 #[.slice ag ng cg, .slice ax nx cx, .int .i64 cap]
  have HC : Hid (Calls _ _ _ _ _) := mchoose ag ng cg b m d g ts _ (Shape.below hg hB) (Shape.below ht hB) hng (by omega) HP.out
  obtain ⟨i0, hi0, hi1, hi2, hi3⟩ := info_parts Tryz.infoPair
  obtain ⟨j0, hj0, hj1, hj2, hj3⟩ := info_parts Tryz.infoPart
  clear hlt0 hlx hlg hg hx ht hL hT hd
  go_enter Tryz.func79, Tryz.ntmps79
  go_wp2_with fail
  refine HC.out.mono ?_
  rintro e u1 ⟨hb1, B, rfl, hch⟩
  have q1 := q0.keep hb1
  have hB1 := bel_then hB hb1
  clear q0 hb1 hB HC
  go_wp2_with (at_make; refine wpList_make_full _ rfl _ _ 104 rfl u1.heap.size 109 i0 (.agg #[.int .i64 0, .int .i64 0]) 2 Tryz.underlying104 hi0 hi1 hi2 _ _ _ _ m rfl rfl (by rfl) (by rfl) ?b2 ?b3 (Nat.le_refl _) ?_)
  case b2 => rw [hi3]; omega
  case b3 => unfold maxLen; omega
  intro u2 hown0 hg0
  have hb2 : Below u1.heap.size u1 u2 := (Below.refl _ _).grown hg0 (Nat.le_refl _) (fun g hg => by cases hg)
  have HO : Hid (Own prS u2 u1.heap.size 109 (.slice (some ⟨u1.heap.size, 0, none⟩) m m) (List.replicate m pr0)) :=
    Own.made (z := [.int .i64 0, .int .i64 0]) (by show 0 < 2; omega) rfl hown0 (fun F => pr_rep _ _ 0 0)
  have HCH : Hid (ptsS.rep u1 everywhere [.slice (some ⟨B, 0, none⟩) m m] (Md.chosen g ts)) := hch.is
  have HQ : Hid (Box u1 w.heap.size 65 #[.slice ag ng cg, .slice ax nx cx, .int .i64 cap]) := q1
  have HB1 : Hid (Below w.heap.size w u1) := hB1
  clear hown0 hg0 hch q1 hB1
  go_wp2
  go_loopw [22] (fun i wr => ∃ k : Nat, k ≤ m ∧ i = .int .i64 k ∧ Own prS wr u1.heap.size 109 (.slice (some ⟨u1.heap.size, 0, none⟩) m m) (fillD pr0 (Md.pairs g ts) k) ∧ Below u1.heap.size u1 wr) (fun i _ => m - (intOf i).toNat)
  case atStart => exact ⟨0, Nat.zero_le _, rfl, by rw [fillD_zero, Md.pairs_len, HL.out]; exact HO.out, hb2⟩
  case round =>
    clear HO hb2
    obtain ⟨k, hk, rfl, hown, hbel⟩ := hrel
    obtain ⟨W0, hW0⟩ : ∃ W0, W0 = wr := ⟨_, rfl⟩
    subst hW0
    by_cases hlt : k < m
    · obtain ⟨b1, o1, p, q, r, s, he, _, hE, c0, c1, c2, c3⟩ := pt_there (Shape.below HCH.out hbel) hlt
      injection he with he; injection he with hx1 hx2 _; subst hx1; subst hx2
      rw [Nat.zero_add] at c0 c1 c2 c3
      have hli : (k : Int) < (m : Int) := by omega
      have hk0 : (0 : Int) ≤ (k : Int) := by omega
      have hkl : k < ts.length := by have := HL.out; omega
      have HE2 : Hid ((Md.pairs g ts).getD k pr0 = (p, q, ())) := by
        rw [Md.chosen_at g hkl] at hE
        obtain ⟨rfl, rfl, rfl, rfl⟩ := Md.pt_eq hE
        exact Md.pairs_at g hkl
      have hbn := new_bel W0 (.cells #[.int .i64 p, .int .i64 q, .int .i64 r, .int .i64 s] 154)
      have hown3 := hown.keep hbn
      have hB3 := bel_then hbel hbn
      obtain ⟨z0, y0⟩ := hown3.cellK hlt (i := 0) (by show 0 < 2; omega)
      obtain ⟨z1, y1⟩ := hown3.cellK hlt (i := 1) (by show 1 < 2; omega)
      have x0 : (W0.alloc (.cells #[.int .i64 p, .int .i64 q, .int .i64 r, .int .i64 s] 154)).cell? ⟨u1.heap.size, k * 2, none⟩ = some z0 := y0
      have x1 : (W0.alloc (.cells #[.int .i64 p, .int .i64 q, .int .i64 r, .int .i64 s] 154)).cell? ⟨u1.heap.size, k * 2 + 1, none⟩ = some z1 := y1
      have f0 := hown3.freeK (k * 2)
      have f1 := hown3.freeK (k * 2 + 1)
      have hst := hown3.storeK hlt (pr_rep _ (fun _ => False) p q) (fun b hb => hb.elim)
      rw [fillD_set (by rw [Md.pairs_len]; exact hkl) HE2.out] at hst
      have HST : Hid _ := And.intro hst (bel_run (vs := [.int .i64 p, .int .i64 q]) (i := k * 2) hB3 (Nat.le_refl u1.heap.size))
      clear hst hown hown3 hB3 hbel hbn y0 y1 hE
      go_wp2
      go_roundw
      case rel => exact ⟨k + 1, by omega, by go_num, HST.out.1, HST.out.2⟩
      case measure => simp [intOf]; omega
    · have hkn : k = m := by omega
      subst hkn
      have hli : ¬ (k : Int) < (k : Int) := by omega
      have e9 : fillD pr0 (Md.pairs g ts) k = Md.pairs g ts := by rw [← HL.out, ← Md.pairs_len g ts]; exact fillD_all _ _
      rw [e9] at hown
      have hfl := Flat.of_rep hown.is
      rw [Md.pairs_flat] at hfl
      have q2 := HQ.out.keep hbel
      have p1 := q2.cell 1 rfl
      have p2 := q2.cell 2 rfl
      have HC : Hid (Calls _ _ _ _ _) := assign (some ⟨u1.heap.size, 0, none⟩) k k (Md.wants g ts) nx cap W0 hfl (by omega) HF.out
      have HB2 : Hid (Below w.heap.size w W0) := bel_then HB1.out hbel
      have HCH2 : Hid (ptsS.rep W0 everywhere [.slice (some ⟨B, 0, none⟩) k k] (Md.chosen g ts)) := Shape.below HCH.out hbel
      clear e9 hown hfl q2 hbel HCH HB1 HQ
      go_wp2_with fail
      refine HC.out.mono ?_
      rintro e u3 ⟨hb3, S, rfl, hsl⟩
      have HB3 : Hid (Below w.heap.size w u3) := bel_then HB2.out hb3
      have HCH3 : Hid (ptsS.rep u3 everywhere [.slice (some ⟨B, 0, none⟩) k k] (Md.chosen g ts)) := Shape.below HCH2.out hb3
      have HSL : Hid (Flat u3 (some ⟨S, 0, none⟩) k (Sl.slots (Md.wants g ts) nx cap)) := hsl
      clear hb3 hsl p1 p2 HB2 HCH2 HC
      go_wp2
      go_loopw [9, 44] (fun v i wr => ∃ (j n : Nat) (a : Option Addr) (c : Nat), j ≤ k ∧ v = .slice a n c ∧ i = .int .i64 j ∧ Hid ((Md.upto (g, xs, cap, ()) ts (j * 2)).length = n) ∧ Own ptS wr u3.heap.size 97 (.slice a n c) (Md.upto (g, xs, cap, ()) ts (j * 2)) ∧ Below u3.heap.size u3 wr) (fun _ i _ => k - (intOf i).toNat)
      case atStart => exact ⟨0, 0, none, 0, Nat.zero_le _, rfl, rfl, rfl, Own.nil _ _ _ _, Below.refl _ _⟩
      case round =>
        obtain ⟨j, n, a, c, hj, rfl, rfl, HN, hown, hbel⟩ := hrel
        by_cases hjt : j < k
        · obtain ⟨b1, o1, p, q, r, s, he, _, hE, c0, c1, c2, c3⟩ := pt_there (Shape.below HCH3.out hbel) hjt
          injection he with he; injection he with hx1 hx2 _; subst hx1; subst hx2
          rw [Nat.zero_add] at c0 c1 c2 c3
          obtain ⟨b2, o2, he, _, d0, d1⟩ := (HSL.out.keep hbel).at hjt
          injection he with he; injection he with hx1 hx2 _; subst hx1; subst hx2
          rw [Nat.zero_add] at d0 d1
          have hjl : j < ts.length := by have := HL.out; omega
          have hwl := Md.wants_length g ts
          rw [Sl.slots_at _ _ (by omega)] at d0 d1
          obtain ⟨s0, hs0⟩ : ∃ s0, Md.slot (g, xs, cap, ()) ts (j * 2) = s0 := ⟨_, rfl⟩
          obtain ⟨s1, hs1⟩ : ∃ s1, Md.slot (g, xs, cap, ()) ts (j * 2 + 1) = s1 := ⟨_, rfl⟩
          have HU := hid (Md.token_parts (l := (g, xs, cap, ())) hjl hE hs0 hs1)
          have e0 : Sl.slot (Md.wants g ts) nx cap (j * 2) = s0 := by rw [← hs0, ← HLX.out]; rfl
          have e1 : Sl.slot (Md.wants g ts) nx cap (j * 2 + 1) = s1 := by rw [← hs1, ← HLX.out]; rfl
          rw [e0] at d0
          rw [e1] at d1
          have hji : (j : Int) < (k : Int) := by omega
          have hj00 : (0 : Int) ≤ (j : Int) := by omega
          have hn9 : n ≤ 100 := by have := HN.out; have := Md.upto_len (g, xs, cap, ()) ts (j * 2); omega
          have hnl : (Md.upto (g, xs, cap, ()) ts (j * 2)).length = n := HN.out
          clear hE hs0 hs1 e0 e1 hwl
          generalize Md.upto (g, xs, cap, ()) ts (j * 2) = U at *
          have HN2 : Hid (U.length = n) := hnl
          clear hnl HN
          have hd0 : (wr.alloc (.cells #[.int .i64 s0, .int .i64 s1] 109)).cell? ⟨B, j * 4, none⟩ = some (.int .i64 p) := (World.cell?_alloc_past _ _ _ (World.block_lt_of_cell? wr _ c0)).trans c0
          have hd1 : (wr.alloc (.cells #[.int .i64 s0, .int .i64 s1] 109)).cell? ⟨B, j * 4 + 1, none⟩ = some (.int .i64 q) := (World.cell?_alloc_past _ _ _ (World.block_lt_of_cell? wr _ c1)).trans c1
          have hd2 : (wr.alloc (.cells #[.int .i64 s0, .int .i64 s1] 109)).cell? ⟨B, j * 4 + 2, none⟩ = some (.int .i64 r) := (World.cell?_alloc_past _ _ _ (World.block_lt_of_cell? wr _ c2)).trans c2
          have hd3 : (wr.alloc (.cells #[.int .i64 s0, .int .i64 s1] 109)).cell? ⟨B, j * 4 + 3, none⟩ = some (.int .i64 s) := (World.cell?_alloc_past _ _ _ (World.block_lt_of_cell? wr _ c3)).trans c3
          have hbn := bel_two wr (.cells #[.int .i64 s0, .int .i64 s1] 109) (.cells #[.int .i64 p, .int .i64 q, .int .i64 r, .int .i64 s] 154)
          have k0 : Box ((wr.alloc (.cells #[.int .i64 s0, .int .i64 s1] 109)).alloc (.cells #[.int .i64 p, .int .i64 q, .int .i64 r, .int .i64 s] 154)) wr.heap.size 109 #[.int .i64 s0, .int .i64 s1] := (Box.new wr 109 _).keep (new_bel _ _)
          have k1 : Box ((wr.alloc (.cells #[.int .i64 s0, .int .i64 s1] 109)).alloc (.cells #[.int .i64 p, .int .i64 q, .int .i64 r, .int .i64 s] 154)) (wr.heap.size + 1) 154 #[.int .i64 p, .int .i64 q, .int .i64 r, .int .i64 s] := by
            have h7 := Box.new (wr.alloc (.cells #[.int .i64 s0, .int .i64 s1] 109)) 154 #[.int .i64 p, .int .i64 q, .int .i64 r, .int .i64 s]
            rwa [show (wr.alloc (.cells #[.int .i64 s0, .int .i64 s1] 109)).heap.size = wr.heap.size + 1 by simp] at h7
          have HVL : Hid (∀ b, Value.ownBlock (.slice a n c) = some b → b < wr.heap.size) := fun b hb => (hown.lt b hb).2
          have hownA := hown.keep hbn
          have hbelA := bel_then hbel hbn
          have hszw : ((wr.alloc (.cells #[.int .i64 s0, .int .i64 s1] 109)).alloc (.cells #[.int .i64 p, .int .i64 q, .int .i64 r, .int .i64 s] 154)).heap.size = wr.heap.size + 1 + 1 := by simp
          go_upto_region 13 with fail
          clear hd0 hd1 hd2 hd3 c0 c1 c2 c3 d0 d1 hown hbel hbn
          generalize ((wr.alloc (.cells #[.int .i64 s0, .int .i64 s1] 109)).alloc (.cells #[.int .i64 p, .int .i64 q, .int .i64 r, .int .i64 s] 154)) = W at *
          have HK : Hid (Box W wr.heap.size 109 #[.int .i64 s0, .int .i64 s1] ∧ Box W (wr.heap.size + 1) 154 #[.int .i64 p, .int .i64 q, .int .i64 r, .int .i64 s]) := ⟨k0, k1⟩
          have c0 := k0.cell 0 rfl
          have c1 := k0.cell 1 rfl
          have d0 := k1.cell 0 rfl
          have d1 := k1.cell 1 rfl
          have d2 := k1.cell 2 rfl
          have d3 := k1.cell 3 rfl
          have hsW : u3.heap.size ≤ W.heap.size := hbelA.size
          have hszA : ∀ o, u3.heap.size ≤ (W.alloc o).heap.size := fun o => by simp; omega
          clear k0 k1 hszw
          obtain ⟨n1, hn1⟩ : ∃ n1, U.length + 1 = n1 := ⟨_, rfl⟩
          have HN1 : Hid (U.length + 1 = n1) := hn1
          clear hn1
          have hsm : U.length + 1 ≤ 100000 := by have := HN2.out; omega
          by_cases z0 : 0 ≤ s0
          · rw [if_pos z0] at HU
            have src1 := (hownA.psrc (j : Int) 0 p r)
            have hownA1 := hownA.keep (new_bel W (.cells #[.int .i64 (j : Int), .int .i64 0, .int .i64 p, .int .i64 r] 97))
            have HBA : Hid (Below u3.heap.size u3 W) := hbelA
            clear hownA hbelA
            go_upto_region 15 with (at_builtin; (refine wpList_appK ptS (by simp [Region.wanted]) (.tmp 56) (.tmp 63) 78 rfl u3.heap.size 97 j0 _ 32 Tryz.underlying78 hj0 hj1 hj2 hj3 rfl (by show 0 < 4; omega) (by omega) (by rfl) hownA1 (by rfl) src1.1 src1.2 hsm (hszA _) n1 HN1.out (U ++ [pt j 0 p r]) rfl ?_; intro a4 c4 u4 ho4 hg4 hb4 hat4))
            have k0 := (HK.out.1.keep (new_bel W (.cells #[.int .i64 (j : Int), .int .i64 0, .int .i64 p, .int .i64 r] 97))).grown hg4 (fun e => by have := HVL.out _ e.symm; omega)
            have k1 := (HK.out.2.keep (new_bel W (.cells #[.int .i64 (j : Int), .int .i64 0, .int .i64 p, .int .i64 r] 97))).grown hg4 (fun e => by have := HVL.out _ e.symm; omega)
            have hbelX := (bel_alloc HBA.out (.cells #[.int .i64 (j : Int), .int .i64 0, .int .i64 p, .int .i64 r] 97)).trans hb4
            have hownX := ho4
            have HNX : Hid ((U ++ [pt j 0 p r]).length = n1) := by show _ = _; rw [List.length_append]; exact HN1.out
            have hn19 : n1 ≤ 101 := by have := HN1.out; have := HN2.out; omega
            clear ho4 hg4 hb4 hat4 src1 hownA1 c0 c1 d0 d1 d2 d3
            generalize U ++ [pt j 0 p r] = U5 at *
            have y1 := k0.cell 1 rfl
            have v1 := k1.cell 1 rfl
            have v3 := k1.cell 3 rfl
            have hszX : ∀ o, u3.heap.size ≤ (u4.alloc o).heap.size := fun o => by have := hbelX.size; simp; omega
            obtain ⟨n2, hn2⟩ : ∃ n2, U5.length + 1 = n2 := ⟨_, rfl⟩
            have HN2' : Hid (U5.length + 1 = n2) := hn2
            have hsm2 : U5.length + 1 ≤ 100000 := by have := HNX.out; omega
            clear hn2
            by_cases z1 : 0 ≤ s1
            · rw [if_pos z1] at HU
              have src2 := (hownX.psrc (j : Int) 1 q s)
              have hownX1 := hownX.keep (new_bel u4 (.cells #[.int .i64 (j : Int), .int .i64 1, .int .i64 q, .int .i64 s] 97))
              have HBX : Hid (Below u3.heap.size u3 u4) := hbelX
              clear hownX hbelX k0 k1
              go_wp2_with (at_builtin; (refine wpList_appK ptS (by simp [Region.wanted]) (.tmp 68) (.tmp 75) 78 rfl u3.heap.size 97 j0 _ 32 Tryz.underlying78 hj0 hj1 hj2 hj3 rfl (by show 0 < 4; omega) (by omega) (by rfl) hownX1 (by rfl) src2.1 src2.2 hsm2 (hszX _) n2 HN2'.out (U5 ++ [pt j 1 q s]) rfl ?_; intro a6 c6 u6 ho6 hg6 hb6 hat6))
              have HR6 : Hid _ := And.intro ho6 ((bel_alloc HBX.out (.cells #[.int .i64 (j : Int), .int .i64 1, .int .i64 q, .int .i64 s] 97)).trans hb6)
              clear ho6 hg6 hb6 hat6 src2 hownX1 y1 v1 v3
              go_roundw
              case rel => exact ⟨j + 1, n2, a6, c6, by omega, rfl, by go_num, by show _ = _; rw [HU.out, List.length_append]; exact HN2'.out, by rw [HU.out]; exact HR6.out.1, HR6.out.2⟩
              case measure => simp [intOf]; omega
            · rw [if_neg z1, List.append_nil] at HU
              have HR6 : Hid _ := And.intro hownX hbelX
              clear hownX hbelX k0 k1
              go_wp2
              go_roundw
              case rel => exact ⟨j + 1, n1, a4, c4, by omega, rfl, by go_num, by show _ = _; rw [HU.out]; exact HNX.out, by rw [HU.out]; exact HR6.out.1, HR6.out.2⟩
              case measure => simp [intOf]; omega
          · rw [if_neg z0, List.append_nil] at HU
            go_upto_region 15 with fail
            have k0 := HK.out.1
            have k1 := HK.out.2
            have hbelX := hbelA
            have hownX := hownA
            have HNX := HN2
            clear hbelA hownA c0 c1 d0 d1 d2 d3
            have y1 := k0.cell 1 rfl
            have v1 := k1.cell 1 rfl
            have v3 := k1.cell 3 rfl
            have hszX : ∀ o, u3.heap.size ≤ (W.alloc o).heap.size := fun o => by have := hbelX.size; simp; omega
            obtain ⟨n2, hn2⟩ : ∃ n2, U.length + 1 = n2 := ⟨_, rfl⟩
            have HN2' : Hid (U.length + 1 = n2) := hn2
            have hsm2 : U.length + 1 ≤ 100000 := by have := HNX.out; omega
            clear hn2
            by_cases z1 : 0 ≤ s1
            · rw [if_pos z1] at HU
              have src2 := (hownX.psrc (j : Int) 1 q s)
              have hownX1 := hownX.keep (new_bel W (.cells #[.int .i64 (j : Int), .int .i64 1, .int .i64 q, .int .i64 s] 97))
              have HBX : Hid (Below u3.heap.size u3 W) := hbelX
              clear hownX hbelX k0 k1
              go_wp2_with (at_builtin; (refine wpList_appK ptS (by simp [Region.wanted]) (.tmp 68) (.tmp 75) 78 rfl u3.heap.size 97 j0 _ 32 Tryz.underlying78 hj0 hj1 hj2 hj3 rfl (by show 0 < 4; omega) (by omega) (by rfl) hownX1 (by rfl) src2.1 src2.2 hsm2 (hszX _) n2 HN2'.out (U ++ [pt j 1 q s]) rfl ?_; intro a6 c6 u6 ho6 hg6 hb6 hat6))
              have HR6 : Hid _ := And.intro ho6 ((bel_alloc HBX.out (.cells #[.int .i64 (j : Int), .int .i64 1, .int .i64 q, .int .i64 s] 97)).trans hb6)
              clear ho6 hg6 hb6 hat6 src2 hownX1 y1 v1 v3
              go_roundw
              case rel => exact ⟨j + 1, n2, a6, c6, by omega, rfl, by go_num, by show _ = _; rw [HU.out, List.length_append]; exact HN2'.out, by rw [HU.out]; exact HR6.out.1, HR6.out.2⟩
              case measure => simp [intOf]; omega
            · rw [if_neg z1, List.append_nil] at HU
              have HR6 : Hid _ := And.intro hownX hbelX
              clear hownX hbelX k0 k1
              go_wp2
              go_roundw
              case rel => exact ⟨j + 1, n, a, c, by omega, rfl, by go_num, by show _ = _; rw [HU.out]; exact HNX.out, by rw [HU.out]; exact HR6.out.1, HR6.out.2⟩
              case measure => simp [intOf]; omega
        · have hjk : j = k := by omega
          subst hjk
          have hji : ¬ (j : Int) < (j : Int) := by omega
          have hR := hown.pts_high (Nat.le_trans HB3.out.size (Nat.le_refl _))
          have e9 : Md.upto (g, xs, cap, ()) ts (j * 2) = Md.parts (g, xs, cap, ()) ts := by unfold Md.parts; rw [HL.out]
          rw [e9] at hR
          have HR9 : Hid _ := And.intro (bel_then HB3.out hbel) hR
          clear hown hbel e9 hR
          go_wp2
          go_ret
          exact ⟨HR9.out.1, a, n, c, rfl, HR9.out.2⟩
theorem mparts (ag : Option Addr) (ng cg : Nat) (ax : Option Addr) (nx cx : Nat) (g : List (List Int)) (xs : List Xp) (cap dim : Int) (b : Option Addr) (m d : Nat) (ts : List (List Int)) (w : World) (hg : matS.rep w everywhere [.slice ag ng cg] g) (hx : xpsS.rep w everywhere [.slice ax nx cx] xs)
    (ht : matS.rep w everywhere [.slice b m d] ts) (hL : Md.LRight (g, xs, cap, ()) dim) (hd : dim ≤ 8) (hT : Md.TRight dim ts) :
    Calls Tryz.prog 79 #[.agg #[.slice ag ng cg, .slice ax nx cx, .int .i64 cap], .slice b m d] w fun e w' => Below w.heap.size w w' ∧ ∃ a' n' c', e = .returned (.slice a' n' c') ∧ ptsS.rep w' everywhere [.slice a' n' c'] (Md.parts (g, xs, cap, ()) ts) :=
  (mpartsH ag ng cg ax nx cx g xs cap dim b m d ts w hg hx ht hL hd hT).mono fun _ _ ⟨h1, a', n', c', h2, h3⟩ => ⟨h1, a', n', c', h2, Shape.any h3⟩

end Go.Proofs.YtfidgcanolegfaaGreat
