/- 2 texts as one, in their order: MvG, MvK. -/
import Derived.Test.YtpfhjdlmjehfnaaMvF
import Derived.Test.YtpfhjdlmjehfnaaMvI
import Derived.Test.YtpfhjdlmjehfnaaMvC

/- What the document's Piece of layer 22 does when called. -/
namespace Go.Proofs.Ytpfhjdlmjehfnaa
open Go.ChangeShapes Go.WideShapes Go.ChangeAt Go.RowKit


set_option maxRecDepth 100000 in
set_option maxHeartbeats 4000000 in
theorem rpiece (x f t p s : Int) (ha : Option Addr) (hn hc : Nat) (ga : Option Addr) (gn gc : Nat) (H : List Bool) (G : List ByteArray) (i : Int) (z : ByteArray) (P E : Int) (K9 : List Bool) (J : List ByteArray) (w : World) (hH : bitsS.rep w everywhere [.slice ha hn hc] H) (hG : bagS.rep w everywhere [.slice ga gn gc] G) (hS : Mq.Short H G) (hz : z.size ≤ 100) (hA : Mq.Piece p s H G i z P K9 J E) :
    Calls Try.prog 19 #[.agg #[.int .i64 x, .int .i64 f, .int .i64 t, .int .i64 p, .int .i64 s, .slice ha hn hc, .slice ga gn gc], .int .i64 i, .string z] w fun r w' => Below w.heap.size w w' ∧ ∃ ha' hc' ga' gc', r = .returned (.tuple #[.agg #[.int .i64 x, .int .i64 f, .int .i64 t, .int .i64 P, .int .i64 s, .slice ha' hn hc', .slice ga' gn gc'], .int .i64 E]) ∧ bitsS.rep w' everywhere [.slice ha' hn hc'] K9 ∧ bagS.rep w' everywhere [.slice ga' gn gc'] J := by
  have hn1 : hn ≤ 1000 := by have := (sliceS_len hH).1; have := hS.1; omega
  have gn1 : gn ≤ 1000 := by have := (sliceS_len hG).1; have := hS.2.1; omega
  have HP := hidL hA
  have HSZ := hidL (hA.short hS hz)
  have HSL := hidL (And.intro hn1 gn1)
  have HLN := hidL hA.len
  clear hA hS hz
  have hB := bel_two w (.cells #[.int .i64 x, .int .i64 f, .int .i64 t, .int .i64 p, .int .i64 s, .slice ha hn hc, .slice ga gn gc] 34) (.cells #[.int .i64 0, .int .i64 0, .int .i64 0, .int .i64 0, .int .i64 0, .slice none 0 0, .slice none 0 0] 34)
  have kp := (Box.new w 34 #[.int .i64 x, .int .i64 f, .int .i64 t, .int .i64 p, .int .i64 s, .slice ha hn hc, .slice ga gn gc]).keep (new_bel _ (.cells #[.int .i64 0, .int .i64 0, .int .i64 0, .int .i64 0, .int .i64 0, .slice none 0 0, .slice none 0 0] 34))
  have kr := Box.new (w.alloc (.cells #[.int .i64 x, .int .i64 f, .int .i64 t, .int .i64 p, .int .i64 s, .slice ha hn hc, .slice ga gn gc] 34)) 34 #[.int .i64 0, .int .i64 0, .int .i64 0, .int .i64 0, .int .i64 0, .slice none 0 0, .slice none 0 0]
  have e1 : (w.alloc (.cells #[.int .i64 x, .int .i64 f, .int .i64 t, .int .i64 p, .int .i64 s, .slice ha hn hc, .slice ga gn gc] 34)).heap.size = w.heap.size + 1 := by simp
  have eW : ((w.alloc (.cells #[.int .i64 x, .int .i64 f, .int .i64 t, .int .i64 p, .int .i64 s, .slice ha hn hc, .slice ga gn gc] 34)).alloc (.cells #[.int .i64 0, .int .i64 0, .int .i64 0, .int .i64 0, .int .i64 0, .slice none 0 0, .slice none 0 0] 34)).heap.size = w.heap.size + 2 := by simp
  rw [e1] at kr
  have HHW : Hid (∀ u, Below w.heap.size w u → bitsS.rep u everywhere [.slice ha hn hc] H) := fun u hu => Shape.below hH hu
  have HGW : Hid (∀ u, Below w.heap.size w u → bagS.rep u everywhere [.slice ga gn gc] G) := fun u hu => Shape.below hG hu
  have HLH : Hid (H.length = hn) := (sliceS_len hH).1
  have HLG : Hid (G.length = gn) := (sliceS_len hG).1
  clear hH hG e1
  go_enter Try.func19, Try.ntmps19
  go_upto_region 1 with fail
  generalize (w.alloc (.cells #[.int .i64 x, .int .i64 f, .int .i64 t, .int .i64 p, .int .i64 s, .slice ha hn hc, .slice ga gn gc] 34)).alloc (.cells #[.int .i64 0, .int .i64 0, .int .i64 0, .int .i64 0, .int .i64 0, .slice none 0 0, .slice none 0 0] 34) = W at *
  have e0 := kp.cell 0 rfl; have e1 := kp.cell 1 rfl; have e2 := kp.cell 2 rfl; have e3 := kp.cell 3 rfl; have e4 := kp.cell 4 rfl; have e5 := kp.cell 5 rfl; have e6 := kp.cell 6 rfl
  by_cases h1 : p = 1
  case neg =>
    have HN : Hid (¬ Mq.Fit p H G i) := fun h => h1 h.1
    have q1 : (p != 1) = true := by rw [bne_iff_ne]; exact h1
    clear h1
    have hpp : p = P ∧ H = K9 ∧ G = J ∧ 1 = E := by
      rcases HP.out with ⟨_, h⟩ | ⟨h, _⟩ | ⟨h, _⟩ | ⟨h, _⟩ | ⟨h, _⟩
      · exact h
      · exact absurd h HN.out
      · exact absurd h HN.out
      · exact absurd h HN.out
      · exact absurd h HN.out
    obtain ⟨rfl, rfl, rfl, rfl⟩ := hpp
    have d0 := kr.cell 0 rfl; have d1 := kr.cell 1 rfl; have d2 := kr.cell 2 rfl; have d3 := kr.cell 3 rfl; have d4 := kr.cell 4 rfl; have d5 := kr.cell 5 rfl; have d6 := kr.cell 6 rfl
    have g0 := kr.free 0; have g1 := kr.free 1; have g2 := kr.free 2; have g3 := kr.free 3; have g4 := kr.free 4; have g5 := kr.free 5; have g6 := kr.free 6
    have HBB := hidL hB
    go_wp2
    refine ret_var Try.underlying34 Try.infoMoveR rfl rfl rfl rfl (kr.all7 _ _ _ _ _ _ _) rfl ?_
    have hB9 := bel_all7 HBB.out (show w.heap.size ≤ w.heap.size + 1 by omega) (.int .i64 x) (.int .i64 f) (.int .i64 t) (.int .i64 p) (.int .i64 s) (.slice ha hn hc) (.slice ga gn gc)
    exact ⟨hB9, _, _, _, _, rfl, HHW.out _ hB9, HGW.out _ hB9⟩
  subst h1
  by_cases h2 : hn = gn
  case neg =>
    have HN : Hid (¬ Mq.Fit 1 H G i) := fun h => h2 (by have := HLH.out; have := HLG.out; have := h.2.1; omega)
    have q1 : ((hn : Int) != (gn : Int)) = true := by rw [bne_iff_ne]; omega
    clear h2
    have hpp : 1 = P ∧ H = K9 ∧ G = J ∧ 1 = E := by
      rcases HP.out with ⟨_, h⟩ | ⟨h, _⟩ | ⟨h, _⟩ | ⟨h, _⟩ | ⟨h, _⟩
      · exact h
      · exact absurd h HN.out
      · exact absurd h HN.out
      · exact absurd h HN.out
      · exact absurd h HN.out
    obtain ⟨rfl, rfl, rfl, rfl⟩ := hpp
    have d0 := kr.cell 0 rfl; have d1 := kr.cell 1 rfl; have d2 := kr.cell 2 rfl; have d3 := kr.cell 3 rfl; have d4 := kr.cell 4 rfl; have d5 := kr.cell 5 rfl; have d6 := kr.cell 6 rfl
    have g0 := kr.free 0; have g1 := kr.free 1; have g2 := kr.free 2; have g3 := kr.free 3; have g4 := kr.free 4; have g5 := kr.free 5; have g6 := kr.free 6
    have HBB := hidL hB
    go_wp2
    refine ret_var Try.underlying34 Try.infoMoveR rfl rfl rfl rfl (kr.all7 _ _ _ _ _ _ _) rfl ?_
    have hB9 := bel_all7 HBB.out (show w.heap.size ≤ w.heap.size + 1 by omega) (.int .i64 x) (.int .i64 f) (.int .i64 t) (.int .i64 1) (.int .i64 s) (.slice ha hn hc) (.slice ga gn gc)
    exact ⟨hB9, _, _, _, _, rfl, HHW.out _ hB9, HGW.out _ hB9⟩
  subst h2
  have q1 : ((hn : Int) != (hn : Int)) = false := by simp
  by_cases h3 : i < 0
  case pos =>
    have HN : Hid (¬ Mq.Fit 1 H G i) := fun h => by have := h.2.2.1; omega
    have hpp : 1 = P ∧ H = K9 ∧ G = J ∧ 1 = E := by
      rcases HP.out with ⟨_, h⟩ | ⟨h, _⟩ | ⟨h, _⟩ | ⟨h, _⟩ | ⟨h, _⟩
      · exact h
      · exact absurd h HN.out
      · exact absurd h HN.out
      · exact absurd h HN.out
      · exact absurd h HN.out
    obtain ⟨rfl, rfl, rfl, rfl⟩ := hpp
    have d0 := kr.cell 0 rfl; have d1 := kr.cell 1 rfl; have d2 := kr.cell 2 rfl; have d3 := kr.cell 3 rfl; have d4 := kr.cell 4 rfl; have d5 := kr.cell 5 rfl; have d6 := kr.cell 6 rfl
    have g0 := kr.free 0; have g1 := kr.free 1; have g2 := kr.free 2; have g3 := kr.free 3; have g4 := kr.free 4; have g5 := kr.free 5; have g6 := kr.free 6
    have HBB := hidL hB
    go_wp2
    refine ret_var Try.underlying34 Try.infoMoveR rfl rfl rfl rfl (kr.all7 _ _ _ _ _ _ _) rfl ?_
    have hB9 := bel_all7 HBB.out (show w.heap.size ≤ w.heap.size + 1 by omega) (.int .i64 x) (.int .i64 f) (.int .i64 t) (.int .i64 1) (.int .i64 s) (.slice ha hn hc) (.slice ga hn gc)
    exact ⟨hB9, _, _, _, _, rfl, HHW.out _ hB9, HGW.out _ hB9⟩
  by_cases h4 : (hn : Int) ≤ i
  case pos =>
    have HN : Hid (¬ Mq.Fit 1 H G i) := fun h => by have := h.2.2.2; have := HLH.out; omega
    have hpp : 1 = P ∧ H = K9 ∧ G = J ∧ 1 = E := by
      rcases HP.out with ⟨_, h⟩ | ⟨h, _⟩ | ⟨h, _⟩ | ⟨h, _⟩ | ⟨h, _⟩
      · exact h
      · exact absurd h HN.out
      · exact absurd h HN.out
      · exact absurd h HN.out
      · exact absurd h HN.out
    obtain ⟨rfl, rfl, rfl, rfl⟩ := hpp
    have d0 := kr.cell 0 rfl; have d1 := kr.cell 1 rfl; have d2 := kr.cell 2 rfl; have d3 := kr.cell 3 rfl; have d4 := kr.cell 4 rfl; have d5 := kr.cell 5 rfl; have d6 := kr.cell 6 rfl
    have g0 := kr.free 0; have g1 := kr.free 1; have g2 := kr.free 2; have g3 := kr.free 3; have g4 := kr.free 4; have g5 := kr.free 5; have g6 := kr.free 6
    have HBB := hidL hB
    go_wp2
    refine ret_var Try.underlying34 Try.infoMoveR rfl rfl rfl rfl (kr.all7 _ _ _ _ _ _ _) rfl ?_
    have hB9 := bel_all7 HBB.out (show w.heap.size ≤ w.heap.size + 1 by omega) (.int .i64 x) (.int .i64 f) (.int .i64 t) (.int .i64 1) (.int .i64 s) (.slice ha hn hc) (.slice ga hn gc)
    exact ⟨hB9, _, _, _, _, rfl, HHW.out _ hB9, HGW.out _ hB9⟩
  obtain ⟨k, rfl⟩ : ∃ k : Nat, i = (k : Int) := ⟨i.toNat, by omega⟩
  have hk : k < hn := by omega
  have HF : Hid (Mq.Fit 1 H G (k : Int)) := ⟨rfl, by rw [HLH.out, HLG.out], by omega, by rw [HLH.out]; omega⟩
  obtain ⟨b1, o1, rfl, _, _, hc9⟩ := bit_at (HHW.out _ hB) hk
  cases hb : H.getD k false with
  | true =>
    rw [hb] at hc9
    have hpp : 1 = P ∧ H = K9 ∧ G = J ∧ 5 = E := by
      rcases HP.out with ⟨h, _⟩ | ⟨_, _, h⟩ | ⟨_, h, _⟩ | ⟨_, h, _⟩ | ⟨_, h, _⟩
      · exact absurd HF.out h
      · exact h
      · rw [Int.toNat_natCast, hb] at h; cases h
      · rw [Int.toNat_natCast, hb] at h; cases h
      · rw [Int.toNat_natCast, hb] at h; cases h
    obtain ⟨rfl, rfl, rfl, rfl⟩ := hpp
    clear hb
    have d0 := kr.cell 0 rfl; have d1 := kr.cell 1 rfl; have d2 := kr.cell 2 rfl; have d3 := kr.cell 3 rfl; have d4 := kr.cell 4 rfl; have d5 := kr.cell 5 rfl; have d6 := kr.cell 6 rfl
    have g0 := kr.free 0; have g1 := kr.free 1; have g2 := kr.free 2; have g3 := kr.free 3; have g4 := kr.free 4; have g5 := kr.free 5; have g6 := kr.free 6
    have HBB := hidL hB
    go_wp2
    refine ret_var Try.underlying34 Try.infoMoveR rfl rfl rfl rfl (kr.all7 _ _ _ _ _ _ _) rfl ?_
    have hB9 := bel_all7 HBB.out (show w.heap.size ≤ w.heap.size + 1 by omega) (.int .i64 x) (.int .i64 f) (.int .i64 t) (.int .i64 1) (.int .i64 s) (.slice (some ⟨b1, o1, none⟩) hn hc) (.slice ga hn gc)
    exact ⟨hB9, _, _, _, _, rfl, HHW.out _ hB9, HGW.out _ hB9⟩
  | false =>
    rw [hb] at hc9
    have hpp : H.set k true = K9 ∧ G.set k z = J ∧ ((K9.contains false = true ∧ 1 = P ∧ 0 = E) ∨ (K9.contains false = false ∧ (Cx.sum (Mq.all J) : Int) ≠ s ∧ 4 = P ∧ 9 = E) ∨ (K9.contains false = false ∧ (Cx.sum (Mq.all J) : Int) = s ∧ 2 = P ∧ 0 = E)) := by
      rcases HP.out with ⟨h, _⟩ | ⟨_, h, _⟩ | ⟨_, _, h4, h5, h6⟩ | ⟨_, _, h4, h5, h6⟩ | ⟨_, _, h4, h5, h6⟩
      · exact absurd HF.out h
      · rw [Int.toNat_natCast, hb] at h; cases h
      · exact ⟨h4, h5, .inl h6⟩
      · exact ⟨h4, h5, .inr (.inl h6)⟩
      · exact ⟨h4, h5, .inr (.inr h6)⟩
    obtain ⟨hK9, hJ, hcs⟩ := hpp
    have HCS := hidL hcs
    have HKJ := hidL (And.intro hK9 hJ)
    have kn := Box.new W 34 #[.int .i64 x, .int .i64 f, .int .i64 t, .int .i64 1, .int .i64 s, .slice none 0 0, .slice none 0 0]
    have hbn := new_bel W (.cells #[.int .i64 x, .int .i64 f, .int .i64 t, .int .i64 1, .int .i64 s, .slice none 0 0, .slice none 0 0] 34)
    have kp2 := kp.keep hbn
    have kr2 := kr.keep hbn
    have hB2 := bel_then hB hbn
    rw [eW] at kn
    have hsz : (W.alloc (.cells #[.int .i64 x, .int .i64 f, .int .i64 t, .int .i64 1, .int .i64 s, .slice none 0 0, .slice none 0 0] 34)).heap.size = w.heap.size + 3 := by simp; omega
    clear hb hK9 hJ hcs hbn kp kr hB
    have HK1 : Hid (K9.length = hn) := by show _ = _; rw [HLN.out.1]; exact HLH.out
    have HJ1 : Hid (J.length = hn) := by show _ = _; rw [HLN.out.2]; exact HLG.out
    have HKS : Hid (∀ j, j < hn → K9.take (j + 1) = K9.take j ++ [if j = k then true else H.getD j false]) := fun j hj => by
      rw [← HKJ.out.1]
      exact Mq.set_to H k j true (by rw [HLH.out]; exact hj) false
    have HJS : Hid (∀ j, j < hn → J.take (j + 1) = J.take j ++ [if j = k then z else G.getD j noText]) := fun j hj => by
      rw [← HKJ.out.2]
      exact Mq.set_to G k j z (by rw [HLG.out]; exact hj) noText
    obtain ⟨i0, hi0, hi1, hi2, hi3⟩ := info_parts Try.infoBool
    obtain ⟨j0, hj0, hj1, hj2, hj3⟩ := info_parts Try.infoText
    go_upto_region 8 with fail
    clear hc9 e0 e1 e2 e3 e4 e5 e6
    generalize W.alloc (.cells #[.int .i64 x, .int .i64 f, .int .i64 t, .int .i64 1, .int .i64 s, .slice none 0 0, .slice none 0 0] 34) = W2 at *
    clear eW
    go_wp2
    go_loopw [9, 10] (fun v i wr => ∃ (j : Nat) (va : Option Addr) (vc : Nat) (vb : Option Addr) (vd : Nat), j ≤ hn ∧ i = .int .i64 j ∧ v = .bool (!((K9.take j).contains false)) ∧ Box wr w.heap.size 34 #[.int .i64 x, .int .i64 f, .int .i64 t, .int .i64 1, .int .i64 s, .slice (some ⟨b1, o1, none⟩) hn hc, .slice ga hn gc] ∧ Box wr (w.heap.size + 1) 34 #[.int .i64 0, .int .i64 0, .int .i64 0, .int .i64 0, .int .i64 0, .slice none 0 0, .slice none 0 0] ∧ Box wr (w.heap.size + 2) 34 #[.int .i64 x, .int .i64 f, .int .i64 t, .int .i64 1, .int .i64 s, .slice va j vc, .slice vb j vd] ∧ Own boolS wr (w.heap.size + 3) 4 (.slice va j vc) (K9.take j) ∧ Own strS wr (w.heap.size + 3) 9 (.slice vb j vd) (J.take j) ∧ Apart (.slice va j vc) (.slice vb j vd) ∧ Below w.heap.size w wr) (fun _ i _ => hn - (intOf i).toNat)
    case atStart => exact ⟨0, none, 0, none, 0, Nat.zero_le _, rfl, rfl, kp2, kr2, kn, Own.nil _ _ _ _, Own.nil _ _ _ _, Apart.none _, hB2⟩
    case round =>
      clear kp2 kr2 kn hB2 hsz
      obtain ⟨j, va, vc, vb, vd, hj, rfl, rfl, kp, kr, kn, hoB, hoT, hap, hbel⟩ := hrel
      have c5 := kp.cell 5 rfl
      have c6 := kp.cell 6 rfl
      have hlk := kn.lt
      by_cases hlt : j < hn
      · have hli : (j : Int) < (hn : Int) := by omega
        have hj00 : (0 : Int) ≤ (j : Int) := by omega
        have HT1 : Hid ((K9.take j).length = j) := by show _ = _; rw [List.length_take, HK1.out]; omega
        have HT2 : Hid ((J.take j).length = j) := by show _ = _; rw [List.length_take, HJ1.out]; omega
        have hk1 := HKS.out j hlt
        have hk2 := HJS.out j hlt
        have n5 := kn.cell 5 rfl
        by_cases hjk : j = k
        · rw [if_pos hjk] at hk1 hk2
          obtain rfl := hjk
          have hqe : ((j : Int) == (j : Int)) = true := by simp
          have HV : Hid ((K9.take j).contains false = (K9.take (j + 1)).contains false) := by
            show _ = _
            rw [hk1, Bool.eq_iff_iff, List.contains_iff_mem, List.contains_iff_mem, List.mem_append]
            simp
          have hb1 := (new_bel wr (.cells #[.bool true] 4))
          have hs1 := (hoB.one plain_bool (cs := [.bool true]) (x := true) rfl)
          have hs2 : bitsS.rep (wr.alloc (.cells #[.bool true] 4)) (fun b => False ∨ b = wr.heap.size) [.slice (some ⟨wr.heap.size, 0, none⟩) 1 1] [true] :=  hs1.1
          have hs3 := hs1.2
          have ho1 := hoB.keep hb1
          have hw0 : (wr.alloc (.cells #[.bool true] 4)).heap.size = wr.heap.size + 1 := by simp
          have hw1 : w.heap.size + 3 ≤ (wr.alloc (.cells #[.bool true] 4)).heap.size := by rw [hw0]; omega
          have hlT := fun b hb => (hoT.lt b hb).2
          have hne : some (w.heap.size + 2) ≠ Value.ownBlock (.slice va j vc) := fun h => by have := (hoB.lt _ h.symm).1; omega
          have hne1 : some (w.heap.size + 1) ≠ Value.ownBlock (.slice va j vc) := fun h => by have := (hoB.lt _ h.symm).1; omega
          have hne0 : some w.heap.size ≠ Value.ownBlock (.slice va j vc) := fun h => by have := (hoB.lt _ h.symm).1; omega
          have hm1 : (K9.take j).length + 1 ≤ 100000 := by rw [HT1.out]; omega
          have hm2 : (K9.take j).length + 1 = j + 1 := by rw [HT1.out]
          obtain ⟨L1, hL1⟩ : ∃ L1, K9.take (j + 1) = L1 := ⟨_, rfl⟩
          have HL1 := hidL hL1
          rw [hL1] at hk1 HV
          replace hk1 := hk1.symm
          generalize K9.take j = L0 at *
          obtain ⟨v, hv⟩ : ∃ v, L0.contains false = v := ⟨_, rfl⟩
          rw [hv]
          rw [hv] at HV
          have kn1 := kn.keep hb1
          clear hs1 hv hL1
          go_upto_region 13 with (at_builtin; refine wpList_appK boolS (by simp [Region.wanted]) (.tmp 55) (.tmp 56) 27 rfl (w.heap.size + 3) 4 i0 (.bool false) 1 Try.underlying27 hi0 hi1 hi2 hi3 rfl Nat.one_pos (by omega) (by rfl) ho1 (by rfl) hs2 hs3 hm1 hw1 (j + 1) hm2 L1 hk1 ?_; intro a6 c6' u6 ho6 hg6 hb6 hat6; have kn6 := kn1.grown hg6 hne; have f5 := kn6.free 5; have n5' := kn6.cell 5 rfl)
          clear f5 n5 n5' c5 c6
          have kn7 : Box (u6.setCell ⟨w.heap.size + 2, 5, none⟩ (.slice a6 (j + 1) c6')) (w.heap.size + 2) 34 #[.int .i64 x, .int .i64 f, .int .i64 t, .int .i64 1, .int .i64 s, .slice a6 (j + 1) c6', .slice vb j vd] := kn6.set 5 _
          have kp7 := ((kp.keep hb1).grown hg6 hne0).other (b2 := w.heap.size + 2) (i := 5) (.slice a6 (j + 1) c6') (by omega)
          have kr7 := ((kr.keep hb1).grown hg6 hne1).other (b2 := w.heap.size + 2) (i := 5) (.slice a6 (j + 1) c6') (by omega)
          have hoB7 := ho6.past plain_bool (show w.heap.size + 2 < w.heap.size + 3 by omega) 5 (.slice a6 (j + 1) c6')
          have hoT7 := ((hoT.keep hb1).beside plain_str hap hg6).past plain_str (show w.heap.size + 2 < w.heap.size + 3 by omega) 5 (.slice a6 (j + 1) c6')
          have hap7 : Apart (.slice a6 (j + 1) c6') (.slice vb j vd) := hap.grow (fun b hb => by have := hlT b hb; rw [hw0]; omega) hat6
          have hB7 := bel_put (i := 5) ((bel_then hbel hb1).trans (hb6.mono (show w.heap.size ≤ w.heap.size + 3 by omega))) (show w.heap.size ≤ w.heap.size + 2 by omega) (.slice a6 (j + 1) c6')
          clear kn6 kn1 kn kp kr hoB hoT hap hbel ho6 hb6 hb1 hs2 hs3 ho1 hw0 hw1 hlT hne hne1 hne0 hm1 hm2 hg6 hat6 hk1
          generalize u6.setCell ⟨w.heap.size + 2, 5, none⟩ (.slice a6 (j + 1) c6') = W7 at *
          have hb1 := (new_bel W7 (.cells #[.string z] 9))
          have hs1 := (hoT7.one plain_str (cs := [.string z]) (x := z) rfl)
          have hs2 : bagS.rep (W7.alloc (.cells #[.string z] 9)) (fun b => False ∨ b = W7.heap.size) [.slice (some ⟨W7.heap.size, 0, none⟩) 1 1] [z] :=  hs1.1
          have hs3 := hs1.2
          have ho1 := hoT7.keep hb1
          have hlw := kn7.lt
          have hw0 : (W7.alloc (.cells #[.string z] 9)).heap.size = W7.heap.size + 1 := by simp
          have hw1 : w.heap.size + 3 ≤ (W7.alloc (.cells #[.string z] 9)).heap.size := by rw [hw0]; omega
          have hlB := fun b hb => (hoB7.lt b hb).2
          have hne : some (w.heap.size + 2) ≠ Value.ownBlock (.slice vb j vd) := fun h => by have := (hoT7.lt _ h.symm).1; omega
          have hne1 : some (w.heap.size + 1) ≠ Value.ownBlock (.slice vb j vd) := fun h => by have := (hoT7.lt _ h.symm).1; omega
          have hne0 : some w.heap.size ≠ Value.ownBlock (.slice vb j vd) := fun h => by have := (hoT7.lt _ h.symm).1; omega
          have hm1 : (J.take j).length + 1 ≤ 100000 := by rw [HT2.out]; omega
          have hm2 : (J.take j).length + 1 = j + 1 := by rw [HT2.out]
          obtain ⟨L3, hL3⟩ : ∃ L3, J.take (j + 1) = L3 := ⟨_, rfl⟩
          have HL3 := hidL hL3
          rw [hL3] at hk2
          replace hk2 := hk2.symm
          generalize J.take j = L2 at *
          have kn1 := kn7.keep hb1
          clear hs1 hL3
          have n6 := kn7.cell 6 rfl
          go_wp2_with (at_builtin; refine wpList_appK strS (by simp [Region.wanted]) (.tmp 60) (.tmp 62) 28 rfl (w.heap.size + 3) 9 j0 (.string noText) 16 Try.underlying28 hj0 hj1 hj2 hj3 rfl Nat.one_pos (by omega) (by rfl) ho1 (by rfl) hs2 hs3 hm1 hw1 (j + 1) hm2 L3 hk2 ?_; intro a8 c8 u8 ho8 hg8 hb8 hat8; have kn8 := kn1.grown hg8 hne; have f6 := kn8.free 6; have n6' := kn8.cell 6 rfl)
          clear f6 n6 n6'
          have kn9 : Box (u8.setCell ⟨w.heap.size + 2, 6, none⟩ (.slice a8 (j + 1) c8)) (w.heap.size + 2) 34 #[.int .i64 x, .int .i64 f, .int .i64 t, .int .i64 1, .int .i64 s, .slice a6 (j + 1) c6', .slice a8 (j + 1) c8] := kn8.set 6 _
          have kp9 := ((kp7.keep hb1).grown hg8 hne0).other (b2 := w.heap.size + 2) (i := 6) (.slice a8 (j + 1) c8) (by omega)
          have kr9 := ((kr7.keep hb1).grown hg8 hne1).other (b2 := w.heap.size + 2) (i := 6) (.slice a8 (j + 1) c8) (by omega)
          have hoT9 := ho8.past plain_str (show w.heap.size + 2 < w.heap.size + 3 by omega) 6 (.slice a8 (j + 1) c8)
          have hoB9 := ((hoB7.keep hb1).beside plain_bool hap7.symm hg8).past plain_bool (show w.heap.size + 2 < w.heap.size + 3 by omega) 6 (.slice a8 (j + 1) c8)
          have hap9 : Apart (.slice a6 (j + 1) c6') (.slice a8 (j + 1) c8) := (hap7.symm.grow (v1' := .slice a8 (j + 1) c8) (fun b hb => by have := hlB b hb; rw [hw0]; omega) hat8).symm
          have hB9 := bel_put (i := 6) ((bel_then hB7 hb1).trans (hb8.mono (show w.heap.size ≤ w.heap.size + 3 by omega))) (show w.heap.size ≤ w.heap.size + 2 by omega) (.slice a8 (j + 1) c8)
          clear kn8 kn1 kn7 kp7 kr7 hoB7 hoT7 hap7 hB7 ho8 hb8 hb1 hs2 hs3 ho1 hw0 hw1 hlB hne hne1 hne0 hm1 hm2 hg8 hat8 hk2 hlw
          generalize u8.setCell ⟨w.heap.size + 2, 6, none⟩ (.slice a8 (j + 1) c8) = W9 at *
          have HR := hidL (And.intro kp9 (And.intro kr9 (And.intro kn9 (And.intro hoB9 (And.intro hoT9 (And.intro hap9 hB9))))))
          clear kp9 kr9 kn9 hoB9 hoT9 hap9 hB9
          go_roundw
          case rel =>
            have h9 := HR.out
            rw [← HL1.out, ← HL3.out] at h9
            exact ⟨j + 1, a6, c6', a8, c8, by omega, by go_num, by rw [HL1.out, ← HV.out], h9.1, h9.2.1, h9.2.2.1, h9.2.2.2.1, h9.2.2.2.2.1, h9.2.2.2.2.2.1, h9.2.2.2.2.2.2⟩
          case measure => simp [intOf]; omega
        · rw [if_neg hjk] at hk1 hk2
          have hqe : ((j : Int) == (k : Int)) = false := by rw [beq_eq_false_iff_ne]; omega
          obtain ⟨b3, o3, he3, _, _, hc9⟩ := bit_at (HHW.out _ hbel) hlt
          cases he3
          obtain ⟨b2, o2, rfl, hb2, hd9⟩ := (Texts.of_rep (HGW.out _ hbel)).at hlt
          have HH9 : Hid (∀ u, Below w.heap.size w u → u.cell? ⟨b1, o1 + j, none⟩ = some (.bool (H.getD j false))) := fun u hu => by
            obtain ⟨b4, o4, he4, _, _, h9⟩ := bit_at (HHW.out _ hu) hlt
            cases he4
            exact h9
          have HG9 : Hid (∀ u, Below w.heap.size w u → u.cell? ⟨b2, o2 + j, none⟩ = some (.string (G.getD j noText))) := fun u hu => by
            obtain ⟨b4, o4, he4, _, h9⟩ := (Texts.of_rep (HGW.out _ hu)).at hlt
            cases he4
            exact h9
          clear hd9 hjk
          obtain ⟨h9, hh9⟩ : ∃ v, H.getD j false = v := ⟨_, rfl⟩
          obtain ⟨z9, hz9⟩ : ∃ v, G.getD j noText = v := ⟨_, rfl⟩
          rw [hh9] at hk1 hc9 HH9
          rw [hz9] at hk2 HG9
          clear hh9 hz9
          have HV : Hid ((K9.take (j + 1)).contains false = ((K9.take j).contains false || !h9)) := by
            show _ = _
            rw [hk1, Bool.eq_iff_iff, Bool.or_eq_true, List.contains_iff_mem, List.contains_iff_mem, List.mem_append]
            cases h9 <;> simp
          have pa5 : ∀ o, (wr.alloc o).cell? ⟨w.heap.size + 2, 5, none⟩ = _ := fun o => (kn.keep (new_bel wr o)).cell 5 rfl
          have pc5 : ∀ o, (wr.alloc o).cell? ⟨w.heap.size, 5, none⟩ = _ := fun o => (kp.keep (new_bel wr o)).cell 5 rfl
          have ph5 : ∀ o, (wr.alloc o).cell? ⟨b1, o1 + j, none⟩ = _ := fun o => HH9.out _ (bel_alloc hbel o)
          have hb1 := (new_bel wr (.cells #[.bool h9] 4)).drew
          have hs1 := (hoB.one plain_bool (cs := [.bool h9]) (x := h9) rfl)
          have hs2 : bitsS.rep (wr.alloc (.cells #[.bool h9] 4)).drew (fun b => False ∨ b = wr.heap.size) [.slice (some ⟨wr.heap.size, 0, none⟩) 1 1] [h9] := rep_draw hs1.1
          have hs3 := hs1.2
          have ho1 := hoB.keep hb1
          have hw0 : (wr.alloc (.cells #[.bool h9] 4)).drew.heap.size = wr.heap.size + 1 := by simp
          have hw1 : w.heap.size + 3 ≤ (wr.alloc (.cells #[.bool h9] 4)).drew.heap.size := by rw [hw0]; omega
          have hlT := fun b hb => (hoT.lt b hb).2
          have hne : some (w.heap.size + 2) ≠ Value.ownBlock (.slice va j vc) := fun h => by have := (hoB.lt _ h.symm).1; omega
          have hne1 : some (w.heap.size + 1) ≠ Value.ownBlock (.slice va j vc) := fun h => by have := (hoB.lt _ h.symm).1; omega
          have hne0 : some w.heap.size ≠ Value.ownBlock (.slice va j vc) := fun h => by have := (hoB.lt _ h.symm).1; omega
          have hm1 : (K9.take j).length + 1 ≤ 100000 := by rw [HT1.out]; omega
          have hm2 : (K9.take j).length + 1 = j + 1 := by rw [HT1.out]
          obtain ⟨L1, hL1⟩ : ∃ L1, K9.take (j + 1) = L1 := ⟨_, rfl⟩
          have HL1 := hidL hL1
          rw [hL1] at hk1 HV
          replace hk1 := hk1.symm
          generalize K9.take j = L0 at *
          obtain ⟨v, hv⟩ : ∃ v, L0.contains false = v := ⟨_, rfl⟩
          rw [hv]
          rw [hv] at HV
          have kn1 := kn.keep hb1
          clear hs1 hv hL1
          go_upto_region 14 with fail
          go_region_law (first
            | (refine step_app boolS (by simp [Region.wanted]) (.tmp 66) (.tmp 72) 27 (by rfl) (w.heap.size + 3) 4 i0 (.bool false) 1 Try.underlying27 hi0 hi1 hi2 hi3 rfl Nat.one_pos (by omega) (by rfl) ho1 (by rfl) hs2 hs3 hm1 hw1 (j + 1) hm2 L1 hk1 ?_; intro a6 c6' u6 ho6 hg6 hb6 hat6; have kn6 := kn1.grown hg6 hne; have f5 := kn6.free 5; have n5' := kn6.cell 5 rfl)
            | (go_simp; go_wp2))
          all_goals
            clear f5 n5 n5' c5 c6 pa5 pc5 ph5 hc9
            have kn7 : Box (u6.setCell ⟨w.heap.size + 2, 5, none⟩ (.slice a6 (j + 1) c6')) (w.heap.size + 2) 34 #[.int .i64 x, .int .i64 f, .int .i64 t, .int .i64 1, .int .i64 s, .slice a6 (j + 1) c6', .slice vb j vd] := kn6.set 5 _
            have kp7 := ((kp.keep hb1).grown hg6 hne0).other (b2 := w.heap.size + 2) (i := 5) (.slice a6 (j + 1) c6') (by omega)
            have kr7 := ((kr.keep hb1).grown hg6 hne1).other (b2 := w.heap.size + 2) (i := 5) (.slice a6 (j + 1) c6') (by omega)
            have hoB7 := ho6.past plain_bool (show w.heap.size + 2 < w.heap.size + 3 by omega) 5 (.slice a6 (j + 1) c6')
            have hoT7 := ((hoT.keep hb1).beside plain_str hap hg6).past plain_str (show w.heap.size + 2 < w.heap.size + 3 by omega) 5 (.slice a6 (j + 1) c6')
            have hap7 : Apart (.slice a6 (j + 1) c6') (.slice vb j vd) := hap.grow (fun b hb => by have := hlT b hb; rw [hw0]; omega) hat6
            have hB7 := bel_put (i := 5) ((bel_then hbel hb1).trans (hb6.mono (show w.heap.size ≤ w.heap.size + 3 by omega))) (show w.heap.size ≤ w.heap.size + 2 by omega) (.slice a6 (j + 1) c6')
            clear kn6 kn1 kn kp kr hoB hoT hap hbel ho6 hb6 hb1 hs2 hs3 ho1 hw0 hw1 hlT hne hne1 hne0 hm1 hm2 hg6 hat6 hk1
            generalize u6.setCell ⟨w.heap.size + 2, 5, none⟩ (.slice a6 (j + 1) c6') = W7 at *
            have hb1 := (new_bel W7 (.cells #[.string z9] 9)).drew
            have hs1 := (hoT7.one plain_str (cs := [.string z9]) (x := z9) rfl)
            have hs2 : bagS.rep (W7.alloc (.cells #[.string z9] 9)).drew (fun b => False ∨ b = W7.heap.size) [.slice (some ⟨W7.heap.size, 0, none⟩) 1 1] [z9] := rep_draw hs1.1
            have hs3 := hs1.2
            have ho1 := hoT7.keep hb1
            have hlw := kn7.lt
            have hw0 : (W7.alloc (.cells #[.string z9] 9)).drew.heap.size = W7.heap.size + 1 := by simp
            have hw1 : w.heap.size + 3 ≤ (W7.alloc (.cells #[.string z9] 9)).drew.heap.size := by rw [hw0]; omega
            have hlB := fun b hb => (hoB7.lt b hb).2
            have hne : some (w.heap.size + 2) ≠ Value.ownBlock (.slice vb j vd) := fun h => by have := (hoT7.lt _ h.symm).1; omega
            have hne1 : some (w.heap.size + 1) ≠ Value.ownBlock (.slice vb j vd) := fun h => by have := (hoT7.lt _ h.symm).1; omega
            have hne0 : some w.heap.size ≠ Value.ownBlock (.slice vb j vd) := fun h => by have := (hoT7.lt _ h.symm).1; omega
            have hm1 : (J.take j).length + 1 ≤ 100000 := by rw [HT2.out]; omega
            have hm2 : (J.take j).length + 1 = j + 1 := by rw [HT2.out]
            obtain ⟨L3, hL3⟩ : ∃ L3, J.take (j + 1) = L3 := ⟨_, rfl⟩
            have HL3 := hidL hL3
            rw [hL3] at hk2
            replace hk2 := hk2.symm
            generalize J.take j = L2 at *
            have kn1 := kn7.keep hb1
            clear hs1 hL3
            have n6 := kn7.cell 6 rfl
            have c6 := kp7.cell 6 rfl
            have hd9 := HG9.out _ hB7
            have pa6 : ∀ o, (W7.alloc o).cell? ⟨w.heap.size + 2, 6, none⟩ = _ := fun o => (kn7.keep (new_bel W7 o)).cell 6 rfl
            have pc6 : ∀ o, (W7.alloc o).cell? ⟨w.heap.size, 6, none⟩ = _ := fun o => (kp7.keep (new_bel W7 o)).cell 6 rfl
            have ph6 : ∀ o, (W7.alloc o).cell? ⟨b2, o2 + j, none⟩ = _ := fun o => HG9.out _ (bel_alloc hB7 o)
            go_upto_region 15 with fail
            go_region_law (first
              | (refine step_app strS (by simp [Region.wanted]) (.tmp 76) (.tmp 82) 28 (by rfl) (w.heap.size + 3) 9 j0 (.string noText) 16 Try.underlying28 hj0 hj1 hj2 hj3 rfl Nat.one_pos (by omega) (by rfl) ho1 (by rfl) hs2 hs3 hm1 hw1 (j + 1) hm2 L3 hk2 ?_; intro a8 c8 u8 ho8 hg8 hb8 hat8; have kn8 := kn1.grown hg8 hne; have f6 := kn8.free 6; have n6' := kn8.cell 6 rfl)
              | (go_simp; go_wp2))
            all_goals
              clear f6 n6 n6' c6 pa6 pc6 ph6 hd9
              have kn9 : Box (u8.setCell ⟨w.heap.size + 2, 6, none⟩ (.slice a8 (j + 1) c8)) (w.heap.size + 2) 34 #[.int .i64 x, .int .i64 f, .int .i64 t, .int .i64 1, .int .i64 s, .slice a6 (j + 1) c6', .slice a8 (j + 1) c8] := kn8.set 6 _
              have kp9 := ((kp7.keep hb1).grown hg8 hne0).other (b2 := w.heap.size + 2) (i := 6) (.slice a8 (j + 1) c8) (by omega)
              have kr9 := ((kr7.keep hb1).grown hg8 hne1).other (b2 := w.heap.size + 2) (i := 6) (.slice a8 (j + 1) c8) (by omega)
              have hoT9 := ho8.past plain_str (show w.heap.size + 2 < w.heap.size + 3 by omega) 6 (.slice a8 (j + 1) c8)
              have hoB9 := ((hoB7.keep hb1).beside plain_bool hap7.symm hg8).past plain_bool (show w.heap.size + 2 < w.heap.size + 3 by omega) 6 (.slice a8 (j + 1) c8)
              have hap9 : Apart (.slice a6 (j + 1) c6') (.slice a8 (j + 1) c8) := (hap7.symm.grow (v1' := .slice a8 (j + 1) c8) (fun b hb => by have := hlB b hb; rw [hw0]; omega) hat8).symm
              have hB9 := bel_put (i := 6) ((bel_then hB7 hb1).trans (hb8.mono (show w.heap.size ≤ w.heap.size + 3 by omega))) (show w.heap.size ≤ w.heap.size + 2 by omega) (.slice a8 (j + 1) c8)
              clear kn8 kn1 kn7 kp7 kr7 hoB7 hoT7 hap7 hB7 ho8 hb8 hb1 hs2 hs3 ho1 hw0 hw1 hlB hne hne1 hne0 hm1 hm2 hg8 hat8 hk2 hlw
              generalize u8.setCell ⟨w.heap.size + 2, 6, none⟩ (.slice a8 (j + 1) c8) = W9 at *
              have c5 := kp9.cell 5 rfl
              have hc9 := HH9.out _ hB9
              have HR := hidL (And.intro kp9 (And.intro kr9 (And.intro kn9 (And.intro hoB9 (And.intro hoT9 (And.intro hap9 hB9))))))
              clear kp9 kr9 kn9 hoB9 hoT9 hap9 hB9
              cases v
              all_goals
                go_wp2
                go_roundw
                case rel =>
                  have h8 := HR.out
                  rw [← HL1.out, ← HL3.out] at h8
                  exact ⟨j + 1, a6, c6', a8, c8, by omega, by go_num, by rw [HL1.out, HV.out]; simp, h8.1, h8.2.1, h8.2.2.1, h8.2.2.2.1, h8.2.2.2.2.1, h8.2.2.2.2.2.1, h8.2.2.2.2.2.2⟩
                case measure => simp [intOf]; omega
      · have hjn : j = hn := by omega
        subst hjn
        have hli : ¬ (j : Int) < (j : Int) := by omega
        have ht1 : K9.take j = K9 := List.take_of_length_le (by rw [HK1.out]; exact Nat.le_refl _)
        have ht2 : J.take j = J := List.take_of_length_le (by rw [HJ1.out]; exact Nat.le_refl _)
        rw [ht1] at hoB ⊢
        rw [ht2] at hoT
        have hJo := hoT.is
        have k5 := kn.cell 6 rfl
        have k6 := kp.cell 4 rfl
        clear ht1 ht2 c6 hap
        obtain ⟨v, hv⟩ : ∃ v, K9.contains false = v := ⟨_, rfl⟩
        rw [hv] at HCS ⊢
        cases v with
        | true =>
          have hcs : 1 = P ∧ 0 = E := by
            rcases HCS.out with ⟨_, h⟩ | ⟨h, _⟩ | ⟨h, _⟩
            · exact h
            · cases h
            · cases h
          obtain ⟨rfl, rfl⟩ := hcs
          clear hv k5 k6 hJo
          have n0 := kn.cell 0 rfl; have n1 := kn.cell 1 rfl; have n2 := kn.cell 2 rfl; have n3 := kn.cell 3 rfl; have n4 := kn.cell 4 rfl; have n5 := kn.cell 5 rfl; have n6 := kn.cell 6 rfl
          have d0 := kr.cell 0 rfl; have d1 := kr.cell 1 rfl; have d2 := kr.cell 2 rfl; have d3 := kr.cell 3 rfl; have d4 := kr.cell 4 rfl; have d5 := kr.cell 5 rfl; have d6 := kr.cell 6 rfl
          have g0 := kr.free 0; have g1 := kr.free 1; have g2 := kr.free 2; have g3 := kr.free 3; have g4 := kr.free 4; have g5 := kr.free 5; have g6 := kr.free 6
          have HO3 := hidL (hoB)
          have HO4 := hidL (hoT)
          have HBB := hidL (hbel)
          clear hoB hoT
          go_wp2
          refine ret_var Try.underlying34 Try.infoMoveR rfl rfl rfl rfl (kr.all7 _ _ _ _ _ _ _) rfl ?_
          exact ⟨bel_all7 HBB.out (by omega) _ _ _ _ _ _ _, _, _, _, _, rfl, Shape.any ((HO3.out.past7 plain_bool (by omega) _ _ _ _ _ _ _).top plain_bool), Shape.any ((HO4.out.past7 plain_str (by omega) _ _ _ _ _ _ _).top plain_str)⟩
        | false =>
          obtain ⟨S, hSS⟩ : ∃ S, (⟨(Mq.all J).toArray⟩ : ByteArray) = S := ⟨_, rfl⟩
          obtain ⟨q, hq⟩ : ∃ q, Cx.sum (Mq.all J) = q := ⟨_, rfl⟩
          have HJN : Hid (∀ x : Later wr, Calls Try.prog 21 #[.slice vb j vd] x.u fun r w' => r = .returned (.string S) ∧ Below x.u.heap.size x.u w') := fun x => rjoin vb j vd J S x.u (Shape.below hJo x.h) HSZ.out.all HSL.out.1 hSS
          have HU : Hid (∀ x : Later wr, Calls Try.prog 34 #[.string S] x.u fun r w' => r = .returned (.int .i64 (q : Nat)) ∧ w' = x.u) := fun x => by
            have h9 := rsum (⟨(Mq.all J).toArray⟩ : ByteArray) (by have h8 := HSZ.out.all; rw [bsize]; unfold maxLen; omega) x.u
            rw [show crc ⟨(Mq.all J).toArray⟩ = q from hq, hSS] at h9
            exact h9
          rw [hq] at HCS
          have hne9 : Nonempty (Later wr) := Later.there wr
          have y5 : ∀ x : Later wr, x.u.cell? ⟨w.heap.size + 2, 6, none⟩ = _ := fun x => x.cell k5
          have y6 : ∀ x : Later wr, x.u.cell? ⟨w.heap.size, 4, none⟩ = _ := fun x => x.cell k6
          clear hJo hSS hq k5 k6 hv
          rcases HCS.out with ⟨h, _⟩ | ⟨_, hns, rfl, rfl⟩ | ⟨_, hes, rfl, rfl⟩
          · cases h
          · have qs : ((q : Int) != s) = true := by rw [bne_iff_ne]; exact hns
            clear hns HCS
            go_wp2
            refine region_later (by kernel_rfl) (by kernel_rfl) ?_
            repeat (go_big_quiet_step (first
              | (go_at_call 21; with_reducible exact Later.call (HJN.out _))
              | (go_at_call 34; with_reducible exact Later.same (HU.out _))))
            refine wpQuiet_nil ?_
            intro x9
            obtain ⟨W9, hb9⟩ := x9
            have kn9 := kn.keep hb9
            have kr9 := kr.keep hb9
            have hB9 := bel_then hbel hb9
            have hO8 := hoB.keep hb9
            have hO9 := hoT.keep hb9
            clear kn kr kp hbel hoB hoT y5 y6 HJN HU hne9
            have v3 := kn9.cell 3 rfl
            have f3 := kn9.free 3
            go_upto_region 21 with fail
            have kn10 : Box (W9.setCell ⟨w.heap.size + 2, 3, none⟩ (.int .i64 4)) (w.heap.size + 2) 34 #[.int .i64 x, .int .i64 f, .int .i64 t, .int .i64 4, .int .i64 s, .slice va j vc, .slice vb j vd] := kn9.set 3 _
            have kr10 := kr9.other (b2 := w.heap.size + 2) (i := 3) (.int .i64 4) (by omega)
            have hO10 := hO8.past plain_bool (show w.heap.size + 2 < w.heap.size + 3 by omega) 3 (.int .i64 4)
            have hO11 := hO9.past plain_str (show w.heap.size + 2 < w.heap.size + 3 by omega) 3 (.int .i64 4)
            have hB10 := bel_put (i := 3) hB9 (show w.heap.size ≤ w.heap.size + 2 by omega) (.int .i64 4)
            clear v3 f3 kn9 kr9 hO8 hO9 hB9 hb9
            generalize W9.setCell ⟨w.heap.size + 2, 3, none⟩ (.int .i64 4) = W10 at *
            have n0 := kn10.cell 0 rfl; have n1 := kn10.cell 1 rfl; have n2 := kn10.cell 2 rfl; have n3 := kn10.cell 3 rfl; have n4 := kn10.cell 4 rfl; have n5 := kn10.cell 5 rfl; have n6 := kn10.cell 6 rfl
            have d0 := kr10.cell 0 rfl; have d1 := kr10.cell 1 rfl; have d2 := kr10.cell 2 rfl; have d3 := kr10.cell 3 rfl; have d4 := kr10.cell 4 rfl; have d5 := kr10.cell 5 rfl; have d6 := kr10.cell 6 rfl
            have g0 := kr10.free 0; have g1 := kr10.free 1; have g2 := kr10.free 2; have g3 := kr10.free 3; have g4 := kr10.free 4; have g5 := kr10.free 5; have g6 := kr10.free 6
            have HO3 := hidL (hO10)
            have HO4 := hidL (hO11)
            have HBB := hidL (hB10)
            clear hO10 hO11 hB10
            go_wp2
            refine ret_var Try.underlying34 Try.infoMoveR rfl rfl rfl rfl (kr10.all7 _ _ _ _ _ _ _) rfl ?_
            exact ⟨bel_all7 HBB.out (by omega) _ _ _ _ _ _ _, _, _, _, _, rfl, Shape.any ((HO3.out.past7 plain_bool (by omega) _ _ _ _ _ _ _).top plain_bool), Shape.any ((HO4.out.past7 plain_str (by omega) _ _ _ _ _ _ _).top plain_str)⟩
          · have qs : ((q : Int) != s) = false := by rw [bne_eq_false_iff_eq]; exact hes
            clear hes HCS
            go_wp2
            refine region_later (by kernel_rfl) (by kernel_rfl) ?_
            repeat (go_big_quiet_step (first
              | (go_at_call 21; with_reducible exact Later.call (HJN.out _))
              | (go_at_call 34; with_reducible exact Later.same (HU.out _))))
            refine wpQuiet_nil ?_
            intro x9
            obtain ⟨W9, hb9⟩ := x9
            have kn9 := kn.keep hb9
            have kr9 := kr.keep hb9
            have hB9 := bel_then hbel hb9
            have hO8 := hoB.keep hb9
            have hO9 := hoT.keep hb9
            clear kn kr kp hbel hoB hoT y5 y6 HJN HU hne9
            have v3 := kn9.cell 3 rfl
            have f3 := kn9.free 3
            go_upto_region 23 with fail
            have kn10 : Box (W9.setCell ⟨w.heap.size + 2, 3, none⟩ (.int .i64 2)) (w.heap.size + 2) 34 #[.int .i64 x, .int .i64 f, .int .i64 t, .int .i64 2, .int .i64 s, .slice va j vc, .slice vb j vd] := kn9.set 3 _
            have kr10 := kr9.other (b2 := w.heap.size + 2) (i := 3) (.int .i64 2) (by omega)
            have hO10 := hO8.past plain_bool (show w.heap.size + 2 < w.heap.size + 3 by omega) 3 (.int .i64 2)
            have hO11 := hO9.past plain_str (show w.heap.size + 2 < w.heap.size + 3 by omega) 3 (.int .i64 2)
            have hB10 := bel_put (i := 3) hB9 (show w.heap.size ≤ w.heap.size + 2 by omega) (.int .i64 2)
            clear v3 f3 kn9 kr9 hO8 hO9 hB9 hb9
            generalize W9.setCell ⟨w.heap.size + 2, 3, none⟩ (.int .i64 2) = W10 at *
            have n0 := kn10.cell 0 rfl; have n1 := kn10.cell 1 rfl; have n2 := kn10.cell 2 rfl; have n3 := kn10.cell 3 rfl; have n4 := kn10.cell 4 rfl; have n5 := kn10.cell 5 rfl; have n6 := kn10.cell 6 rfl
            have d0 := kr10.cell 0 rfl; have d1 := kr10.cell 1 rfl; have d2 := kr10.cell 2 rfl; have d3 := kr10.cell 3 rfl; have d4 := kr10.cell 4 rfl; have d5 := kr10.cell 5 rfl; have d6 := kr10.cell 6 rfl
            have g0 := kr10.free 0; have g1 := kr10.free 1; have g2 := kr10.free 2; have g3 := kr10.free 3; have g4 := kr10.free 4; have g5 := kr10.free 5; have g6 := kr10.free 6
            have HO3 := hidL (hO10)
            have HO4 := hidL (hO11)
            have HBB := hidL (hB10)
            clear hO10 hO11 hB10
            go_wp2
            refine ret_var Try.underlying34 Try.infoMoveR rfl rfl rfl rfl (kr10.all7 _ _ _ _ _ _ _) rfl ?_
            exact ⟨bel_all7 HBB.out (by omega) _ _ _ _ _ _ _, _, _, _, _, rfl, Shape.any ((HO3.out.past7 plain_bool (by omega) _ _ _ _ _ _ _).top plain_bool), Shape.any ((HO4.out.past7 plain_str (by omega) _ _ _ _ _ _ _).top plain_str)⟩

end Go.Proofs.Ytpfhjdlmjehfnaa

/- MovePieces, with letters. -/
namespace Go.Proofs.Ytpfhjdlmjehfnaa
open Go.ChangeShapes Go.WideShapes Go.ChangeAt Go.RowKit



set_option maxRecDepth 100000 in
set_option maxHeartbeats 4000000 in
theorem lpieces (AW : ∀ u, Calls Try.prog 11 #[] u fun r w' => r = .returned (.bool true) ∧ Below u.heap.size u w') (x f t p s : Int) (ha : Option Addr) (hn hc : Nat) (ga : Option Addr) (gn gc : Nat) (H : List Bool) (G : List ByteArray) (i : Int) (z : ByteArray) (w : World) (hH : bitsS.rep w everywhere [.slice ha hn hc] H) (hG : bagS.rep w everywhere [.slice ga gn gc] G) (hzl : z.size ≤ maxLen) :
    Calls Try.prog 4 #[.agg #[.int .i64 x, .int .i64 f, .int .i64 t, .int .i64 p, .int .i64 s, .slice ha hn hc, .slice ga gn gc], .int .i64 i, .string z] w fun r w' => r = .returned (.bool true) ∧ Below w.heap.size w w' := by
  have HAW := hidL AW
  have hm63 : z.size ≤ 9223372036854775807 := hzl
  have hbn := new_bel w (.cells #[.int .i64 x, .int .i64 f, .int .i64 t, .int .i64 p, .int .i64 s, .slice ha hn hc, .slice ga gn gc] 30)
  have kb0 := Box.new w 30 #[.int .i64 x, .int .i64 f, .int .i64 t, .int .i64 p, .int .i64 s, .slice ha hn hc, .slice ga gn gc]
  have HHW : Hid (∀ u, Below w.heap.size w u → bitsS.rep u everywhere [.slice ha hn hc] H) := fun u hu => Shape.below hH hu
  have HGW : Hid (∀ u, Below w.heap.size w u → bagS.rep u everywhere [.slice ga gn gc] G) := fun u hu => Shape.below hG hu
  have HSM : Hid (Calls _ _ _ _ _) := msmall x f t p s ha hn hc ga gn gc H G _ (Shape.below hH hbn) (Shape.below hG hbn)
  have HBN := hidL hbn
  have HLH : Hid (H.length = hn) := (sliceS_len hH).1
  have HLG : Hid (G.length = gn) := (sliceS_len hG).1
  clear hH hG hbn AW
  go_enter Try.func4, Try.ntmps4
  go_upto_region 1 with fail
  generalize w.alloc (.cells #[.int .i64 x, .int .i64 f, .int .i64 t, .int .i64 p, .int .i64 s, .slice ha hn hc, .slice ga gn gc] 30) = W at *
  have c0 := kb0.cell 0 rfl; have c1 := kb0.cell 1 rfl; have c2 := kb0.cell 2 rfl; have c3 := kb0.cell 3 rfl; have c4 := kb0.cell 4 rfl; have c5 := kb0.cell 5 rfl; have c6 := kb0.cell 6 rfl
  by_cases h3 : 100 < z.size
  · have h3i : (100 : Int) < (z.size : Int) := by omega
    go_wp2_with fail
    refine HSM.out.mono ?_
    rintro r u1 ⟨⟨b, rfl, hf⟩, hb1⟩
    have HB1 := hidL (bel_then HBN.out hb1)
    clear hf HSM hb1
    cases b
    all_goals
      go_wp2_with (go_at_call 11; refine (HAW.out _).mono ?_; rintro r WZ ⟨rfl, hbz⟩)
      go_ret
      exact ⟨rfl, bel_then (HB1.out) hbz⟩
  have h3i : ¬ (100 : Int) < (z.size : Int) := by omega
  go_wp2_with fail
  refine HSM.out.mono ?_
  rintro r u1 ⟨⟨b, rfl, hf⟩, hb1⟩
  have HB1 := hidL (bel_then HBN.out hb1)
  have kb1 := kb0.keep hb1
  clear HSM hb1 c0 c1 c2 c3 c4 c5 c6 kb0
  cases b with
  | false =>
    clear hf
    go_wp2_with (go_at_call 11; refine (HAW.out _).mono ?_; rintro r WZ ⟨rfl, hbz⟩)
    go_ret
    exact ⟨rfl, bel_then (HB1.out) hbz⟩
  | true =>
    have HS : Hid (Mq.Short H G) := (hf rfl).short
    have hn1 : hn ≤ 100000 := by have := HS.out.1; rw [HLH.out] at this; omega
    have gn1 : gn ≤ 1000 := by have := HS.out.2.1; rw [HLG.out] at this; omega
    have hal := hidL HS.out.all
    obtain ⟨P, K9, J, E, hP⟩ := Mq.piece_there p s H G i z
    have HP := hidL hP
    obtain ⟨S, B, hT⟩ := Mq.text_there p G
    have HT := hidL hT
    have HC1 : Hid (Calls _ _ _ _ _) := mpiece x f t p s ha hn hc ga gn gc H G i z P E K9 J u1 (HHW.out _ HB1.out) (HGW.out _ HB1.out) HS.out (by omega) hP
    have c0 := kb1.cell 0 rfl; have c1 := kb1.cell 1 rfl; have c2 := kb1.cell 2 rfl; have c3 := kb1.cell 3 rfl; have c4 := kb1.cell 4 rfl; have c5 := kb1.cell 5 rfl; have c6 := kb1.cell 6 rfl
    clear hf hP hT
    go_wp2_with fail
    refine HC1.out.mono ?_
    rintro r u2 ⟨hb2, ha2, hc2, ga2, gc2, rfl, hH2, hG2⟩
    have hbn := new_bel u2 (.cells #[.int .i64 x, .int .i64 f, .int .i64 t, .int .i64 P, .int .i64 s, .slice ha2 hn hc2, .slice ga2 gn gc2] 30)
    have kb2 := (kb1.keep hb2).keep hbn
    have km2 := Box.new u2 30 #[.int .i64 x, .int .i64 f, .int .i64 t, .int .i64 P, .int .i64 s, .slice ha2 hn hc2, .slice ga2 gn gc2]
    have HB2 := hidL (bel_then (bel_then HB1.out hb2) hbn)
    have hH3 := Shape.any (Shape.below hH2 hbn)
    have hG3 := Shape.any (Shape.below hG2 hbn)
    clear hH2 hG2 hb2 hbn kb1 c0 c1 c2 c3 c4 c5 c6 HC1
    have c0 := kb2.cell 0 rfl; have c1 := kb2.cell 1 rfl; have c2 := kb2.cell 2 rfl; have c3 := kb2.cell 3 rfl; have c4 := kb2.cell 4 rfl; have c5 := kb2.cell 5 rfl; have c6 := kb2.cell 6 rfl
    go_wp2_with fail
    generalize u2.alloc (.cells #[.int .i64 x, .int .i64 f, .int .i64 t, .int .i64 P, .int .i64 s, .slice ha2 hn hc2, .slice ga2 gn gc2] 30) = W2 at *
    generalize u2.heap.size = B1 at *
    refine (mref x f t p s ha hn hc ga gn gc W2).mono ?_
    rintro r u3 ⟨rfl, hb3⟩
    have HB3 := hidL (bel_then HB2.out hb3)
    have HC3 : Hid (Calls _ _ _ _ _) := rpiece x f t p s ha hn hc ga gn gc H G i z P E K9 J u3 (HHW.out _ HB3.out) (HGW.out _ HB3.out) HS.out (by omega) HP.out
    go_wp2_with fail
    refine HC3.out.mono ?_
    rintro r u4 ⟨hb4, ia, ic, ja, jc, rfl, iH, iG⟩
    have hbn := new_bel u4 (.cells #[.int .i64 x, .int .i64 f, .int .i64 t, .int .i64 P, .int .i64 s, .slice ia hn ic, .slice ja gn jc] 34)
    have hb34 := bel_then (bel_then hb3 hb4) hbn
    have kb4 := kb2.keep hb34
    have km4 := km2.keep hb34
    have kn4 := Box.new u4 34 #[.int .i64 x, .int .i64 f, .int .i64 t, .int .i64 P, .int .i64 s, .slice ia hn ic, .slice ja gn jc]
    have HB4 := hidL (bel_then HB2.out hb34)
    have hH4 := Shape.below hH3 hb34
    have hG4 := Shape.below hG3 hb34
    have iH4 := Shape.below iH hbn
    have iG4 := Shape.below iG hbn
    clear hH3 hG3 iH iG hb3 hb4 hbn hb34 kb2 km2 c0 c1 c2 c3 c4 c5 c6 HC3 HB3
    have c0 := kb4.cell 0 rfl; have c1 := kb4.cell 1 rfl; have c2 := kb4.cell 2 rfl; have c3 := kb4.cell 3 rfl; have c4 := kb4.cell 4 rfl; have c5 := kb4.cell 5 rfl; have c6 := kb4.cell 6 rfl
    go_wp2_with fail
    generalize u4.alloc (.cells #[.int .i64 x, .int .i64 f, .int .i64 t, .int .i64 P, .int .i64 s, .slice ia hn ic, .slice ja gn jc] 34) = W4 at *
    generalize u4.heap.size = B2 at *
    refine (mtext x f t p s ha hn hc ga gn gc H G S B W4 (HHW.out _ HB4.out) (HGW.out _ HB4.out) gn1 hal.out HT.out).mono ?_
    rintro r u5 ⟨rfl, hb5⟩
    have kb5 := kb4.keep hb5
    have HGU := hidL (HGW.out _ (bel_then HB4.out hb5))
    clear kb4 c0 c1 c2 c3 c4 c5 c6
    have c3 := kb5.cell 3 rfl
    have c6 := kb5.cell 6 rfl
    clear kb5
    rcases HT.out with ⟨hp2 | hp2, hS, hB⟩ | ⟨hp2, hS, hB⟩
    · subst hp2
      subst hB
      have HJ : Hid (Calls _ _ _ _ _) := rjoin ga gn gc G S u5 HGU.out hal.out gn1 hS
      clear hS HT
      go_wp2_with fail
      refine HJ.out.mono ?_
      rintro r u6 ⟨rfl, hb6⟩
      have hb7 := bel_then hb5 hb6
      have km7 := km4.keep hb7
      have kn7 := kn4.keep hb7
      have HB7 := hidL (bel_then HB4.out hb7)
      have hH7 := Shape.below hH4 hb7
      have hG7 := Shape.below hG4 hb7
      have iH7 := Shape.below iH4 hb7
      have iG7 := Shape.below iG4 hb7
      have hne9 : Nonempty (Later u6) := Later.there u6
      have d0 : ∀ x : Later u6, x.u.cell? ⟨B1, 0, none⟩ = _ := fun x => x.cell (km7.cell 0 rfl)
      have d1 : ∀ x : Later u6, x.u.cell? ⟨B1, 1, none⟩ = _ := fun x => x.cell (km7.cell 1 rfl)
      have d2 : ∀ x : Later u6, x.u.cell? ⟨B1, 2, none⟩ = _ := fun x => x.cell (km7.cell 2 rfl)
      have d3 : ∀ x : Later u6, x.u.cell? ⟨B1, 3, none⟩ = _ := fun x => x.cell (km7.cell 3 rfl)
      have d4 : ∀ x : Later u6, x.u.cell? ⟨B1, 4, none⟩ = _ := fun x => x.cell (km7.cell 4 rfl)
      have d5 : ∀ x : Later u6, x.u.cell? ⟨B1, 5, none⟩ = _ := fun x => x.cell (km7.cell 5 rfl)
      have d6 : ∀ x : Later u6, x.u.cell? ⟨B1, 6, none⟩ = _ := fun x => x.cell (km7.cell 6 rfl)
      have e0 : ∀ x : Later u6, x.u.cell? ⟨B2, 0, none⟩ = _ := fun x => x.cell (kn7.cell 0 rfl)
      have e1 : ∀ x : Later u6, x.u.cell? ⟨B2, 1, none⟩ = _ := fun x => x.cell (kn7.cell 1 rfl)
      have e2 : ∀ x : Later u6, x.u.cell? ⟨B2, 2, none⟩ = _ := fun x => x.cell (kn7.cell 2 rfl)
      have e3 : ∀ x : Later u6, x.u.cell? ⟨B2, 3, none⟩ = _ := fun x => x.cell (kn7.cell 3 rfl)
      have e4 : ∀ x : Later u6, x.u.cell? ⟨B2, 4, none⟩ = _ := fun x => x.cell (kn7.cell 4 rfl)
      have e5 : ∀ x : Later u6, x.u.cell? ⟨B2, 5, none⟩ = _ := fun x => x.cell (kn7.cell 5 rfl)
      have e6 : ∀ x : Later u6, x.u.cell? ⟨B2, 6, none⟩ = _ := fun x => x.cell (kn7.cell 6 rfl)
      have HRF : Hid (∀ x : Later u6, Calls Try.prog 15 _ x.u _) := fun y => mref x f t P s ha2 hn hc2 ga2 gn gc2 y.u
      have HSA : Hid (∀ x : Later u6, Calls Try.prog 14 _ x.u _) := fun y => msame x f t P s ha2 hn hc2 ga2 gn gc2 K9 J ia ic ja jc y.u (Shape.below hH7 y.h) (Shape.below hG7 y.h) (Shape.below iH7 y.h) (Shape.below iG7 y.h) (by omega) (by omega)
      have HAX : Hid (∀ x : Later u6, Calls Try.prog 11 #[] x.u fun r w' => r = .returned (.bool true) ∧ Below x.u.heap.size x.u w') := fun y => HAW.out y.u
      have qe : (E == E) = true := by simp
      clear km4 kn4 km7 kn7 hH4 hG4 iH4 iG4 hH7 hG7 iH7 iG7 hb5 hb7
      go_wp2
      refine region_later (by kernel_rfl) (by kernel_rfl) ?_
      repeat (go_big_quiet_step (first
        | (go_at_call 15; with_reducible exact Later.call (HRF.out _))
        | (go_at_call 14; with_reducible exact Later.call (HSA.out _))
        | (go_at_call 11; with_reducible exact Later.call (HAX.out _))))
      refine wpQuiet_nil ?_
      intro x9
      obtain ⟨W9, hb9⟩ := x9
      go_wp2
      go_ret
      exact ⟨rfl, bel_then HB7.out hb9⟩
    · subst hp2
      subst hB
      have HJ : Hid (Calls _ _ _ _ _) := rjoin ga gn gc G S u5 HGU.out hal.out gn1 hS
      clear hS HT
      go_wp2_with fail
      refine HJ.out.mono ?_
      rintro r u6 ⟨rfl, hb6⟩
      have hb7 := bel_then hb5 hb6
      have km7 := km4.keep hb7
      have kn7 := kn4.keep hb7
      have HB7 := hidL (bel_then HB4.out hb7)
      have hH7 := Shape.below hH4 hb7
      have hG7 := Shape.below hG4 hb7
      have iH7 := Shape.below iH4 hb7
      have iG7 := Shape.below iG4 hb7
      have hne9 : Nonempty (Later u6) := Later.there u6
      have d0 : ∀ x : Later u6, x.u.cell? ⟨B1, 0, none⟩ = _ := fun x => x.cell (km7.cell 0 rfl)
      have d1 : ∀ x : Later u6, x.u.cell? ⟨B1, 1, none⟩ = _ := fun x => x.cell (km7.cell 1 rfl)
      have d2 : ∀ x : Later u6, x.u.cell? ⟨B1, 2, none⟩ = _ := fun x => x.cell (km7.cell 2 rfl)
      have d3 : ∀ x : Later u6, x.u.cell? ⟨B1, 3, none⟩ = _ := fun x => x.cell (km7.cell 3 rfl)
      have d4 : ∀ x : Later u6, x.u.cell? ⟨B1, 4, none⟩ = _ := fun x => x.cell (km7.cell 4 rfl)
      have d5 : ∀ x : Later u6, x.u.cell? ⟨B1, 5, none⟩ = _ := fun x => x.cell (km7.cell 5 rfl)
      have d6 : ∀ x : Later u6, x.u.cell? ⟨B1, 6, none⟩ = _ := fun x => x.cell (km7.cell 6 rfl)
      have e0 : ∀ x : Later u6, x.u.cell? ⟨B2, 0, none⟩ = _ := fun x => x.cell (kn7.cell 0 rfl)
      have e1 : ∀ x : Later u6, x.u.cell? ⟨B2, 1, none⟩ = _ := fun x => x.cell (kn7.cell 1 rfl)
      have e2 : ∀ x : Later u6, x.u.cell? ⟨B2, 2, none⟩ = _ := fun x => x.cell (kn7.cell 2 rfl)
      have e3 : ∀ x : Later u6, x.u.cell? ⟨B2, 3, none⟩ = _ := fun x => x.cell (kn7.cell 3 rfl)
      have e4 : ∀ x : Later u6, x.u.cell? ⟨B2, 4, none⟩ = _ := fun x => x.cell (kn7.cell 4 rfl)
      have e5 : ∀ x : Later u6, x.u.cell? ⟨B2, 5, none⟩ = _ := fun x => x.cell (kn7.cell 5 rfl)
      have e6 : ∀ x : Later u6, x.u.cell? ⟨B2, 6, none⟩ = _ := fun x => x.cell (kn7.cell 6 rfl)
      have HRF : Hid (∀ x : Later u6, Calls Try.prog 15 _ x.u _) := fun y => mref x f t P s ha2 hn hc2 ga2 gn gc2 y.u
      have HSA : Hid (∀ x : Later u6, Calls Try.prog 14 _ x.u _) := fun y => msame x f t P s ha2 hn hc2 ga2 gn gc2 K9 J ia ic ja jc y.u (Shape.below hH7 y.h) (Shape.below hG7 y.h) (Shape.below iH7 y.h) (Shape.below iG7 y.h) (by omega) (by omega)
      have HAX : Hid (∀ x : Later u6, Calls Try.prog 11 #[] x.u fun r w' => r = .returned (.bool true) ∧ Below x.u.heap.size x.u w') := fun y => HAW.out y.u
      have qe : (E == E) = true := by simp
      clear km4 kn4 km7 kn7 hH4 hG4 iH4 iG4 hH7 hG7 iH7 iG7 hb5 hb7
      go_wp2
      refine region_later (by kernel_rfl) (by kernel_rfl) ?_
      repeat (go_big_quiet_step (first
        | (go_at_call 15; with_reducible exact Later.call (HRF.out _))
        | (go_at_call 14; with_reducible exact Later.call (HSA.out _))
        | (go_at_call 11; with_reducible exact Later.call (HAX.out _))))
      refine wpQuiet_nil ?_
      intro x9
      obtain ⟨W9, hb9⟩ := x9
      go_wp2
      go_ret
      exact ⟨rfl, bel_then HB7.out hb9⟩
    · subst hB
      subst hS
      have q2 : (p == 2) = false := by rw [beq_eq_false_iff_ne]; exact fun h => hp2 (.inl h)
      have q3 : (p == 3) = false := by rw [beq_eq_false_iff_ne]; exact fun h => hp2 (.inr h)
      clear hp2 HT
      have hb7 := bel_then hb5 (Below.refl _ _)
      have km7 := km4.keep hb7
      have kn7 := kn4.keep hb7
      have HB7 := hidL (bel_then HB4.out hb7)
      have hH7 := Shape.below hH4 hb7
      have hG7 := Shape.below hG4 hb7
      have iH7 := Shape.below iH4 hb7
      have iG7 := Shape.below iG4 hb7
      have hne9 : Nonempty (Later u5) := Later.there u5
      have d0 : ∀ x : Later u5, x.u.cell? ⟨B1, 0, none⟩ = _ := fun x => x.cell (km7.cell 0 rfl)
      have d1 : ∀ x : Later u5, x.u.cell? ⟨B1, 1, none⟩ = _ := fun x => x.cell (km7.cell 1 rfl)
      have d2 : ∀ x : Later u5, x.u.cell? ⟨B1, 2, none⟩ = _ := fun x => x.cell (km7.cell 2 rfl)
      have d3 : ∀ x : Later u5, x.u.cell? ⟨B1, 3, none⟩ = _ := fun x => x.cell (km7.cell 3 rfl)
      have d4 : ∀ x : Later u5, x.u.cell? ⟨B1, 4, none⟩ = _ := fun x => x.cell (km7.cell 4 rfl)
      have d5 : ∀ x : Later u5, x.u.cell? ⟨B1, 5, none⟩ = _ := fun x => x.cell (km7.cell 5 rfl)
      have d6 : ∀ x : Later u5, x.u.cell? ⟨B1, 6, none⟩ = _ := fun x => x.cell (km7.cell 6 rfl)
      have e0 : ∀ x : Later u5, x.u.cell? ⟨B2, 0, none⟩ = _ := fun x => x.cell (kn7.cell 0 rfl)
      have e1 : ∀ x : Later u5, x.u.cell? ⟨B2, 1, none⟩ = _ := fun x => x.cell (kn7.cell 1 rfl)
      have e2 : ∀ x : Later u5, x.u.cell? ⟨B2, 2, none⟩ = _ := fun x => x.cell (kn7.cell 2 rfl)
      have e3 : ∀ x : Later u5, x.u.cell? ⟨B2, 3, none⟩ = _ := fun x => x.cell (kn7.cell 3 rfl)
      have e4 : ∀ x : Later u5, x.u.cell? ⟨B2, 4, none⟩ = _ := fun x => x.cell (kn7.cell 4 rfl)
      have e5 : ∀ x : Later u5, x.u.cell? ⟨B2, 5, none⟩ = _ := fun x => x.cell (kn7.cell 5 rfl)
      have e6 : ∀ x : Later u5, x.u.cell? ⟨B2, 6, none⟩ = _ := fun x => x.cell (kn7.cell 6 rfl)
      have HRF : Hid (∀ x : Later u5, Calls Try.prog 15 _ x.u _) := fun y => mref x f t P s ha2 hn hc2 ga2 gn gc2 y.u
      have HSA : Hid (∀ x : Later u5, Calls Try.prog 14 _ x.u _) := fun y => msame x f t P s ha2 hn hc2 ga2 gn gc2 K9 J ia ic ja jc y.u (Shape.below hH7 y.h) (Shape.below hG7 y.h) (Shape.below iH7 y.h) (Shape.below iG7 y.h) (by omega) (by omega)
      have HAX : Hid (∀ x : Later u5, Calls Try.prog 11 #[] x.u fun r w' => r = .returned (.bool true) ∧ Below x.u.heap.size x.u w') := fun y => HAW.out y.u
      have qe : (E == E) = true := by simp
      clear km4 kn4 km7 kn7 hH4 hG4 iH4 iG4 hH7 hG7 iH7 iG7 hb5 hb7
      go_wp2
      refine region_later (by kernel_rfl) (by kernel_rfl) ?_
      repeat (go_big_quiet_step (first
        | (go_at_call 15; with_reducible exact Later.call (HRF.out _))
        | (go_at_call 14; with_reducible exact Later.call (HSA.out _))
        | (go_at_call 11; with_reducible exact Later.call (HAX.out _))))
      refine wpQuiet_nil ?_
      intro x9
      obtain ⟨W9, hb9⟩ := x9
      go_wp2
      go_ret
      exact ⟨rfl, bel_then HB7.out hb9⟩

end Go.Proofs.Ytpfhjdlmjehfnaa
