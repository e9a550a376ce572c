/- What Piece of package move does when called. -/
import Derived.Test.YtpfhjdlmjehfnaaMvB
namespace Go.Proofs.Ytpfhjdlmjehfnaa
open Go.ChangeShapes Go.WideShapes Go.ChangeAt Go.RowKit


set_option maxRecDepth 100000 in
set_option maxHeartbeats 4000000 in
theorem mpiece (x f t p s : Int) (ha : Option Addr) (hn hc : Nat) (ga : Option Addr) (gn gc : Nat) (H : List Bool) (G : List ByteArray) (i : Int) (z : ByteArray) (P E : Int) (K9 : List Bool) (J : List ByteArray) (w : World) (hH : bitsS.rep w everywhere [.slice ha hn hc] H) (hG : bagS.rep w everywhere [.slice ga gn gc] G) (hS : Mq.Short H G) (hz : z.size ≤ 100) (hA : Mq.Piece p s H G i z P K9 J E) :
    Calls Try.prog 18 #[.agg #[.int .i64 x, .int .i64 f, .int .i64 t, .int .i64 p, .int .i64 s, .slice ha hn hc, .slice ga gn gc], .int .i64 i, .string z] w fun r w' => Below w.heap.size w w' ∧ ∃ ha' hc' ga' gc', r = .returned (.tuple #[.agg #[.int .i64 x, .int .i64 f, .int .i64 t, .int .i64 P, .int .i64 s, .slice ha' hn hc', .slice ga' gn gc'], .int .i64 E]) ∧ bitsS.rep w' (w.heap.size ≤ ·) [.slice ha' hn hc'] K9 ∧ bagS.rep w' (w.heap.size ≤ ·) [.slice ga' gn gc'] J := by
  have hn1 : hn ≤ 1000 := by have := (sliceS_len hH).1; have := hS.1; omega
  have gn1 : gn ≤ 1000 := by have := (sliceS_len hG).1; have := hS.2.1; omega
  have HP := hidL hA
  have HSZ := hidL (hA.short hS hz)
  have HSL := hidL (And.intro hn1 gn1)
  clear hA hS hz
  have hB := bel_two w (.cells #[.int .i64 x, .int .i64 f, .int .i64 t, .int .i64 p, .int .i64 s, .slice ha hn hc, .slice ga gn gc] 30) (.cells #[.int .i64 0, .int .i64 0, .int .i64 0, .int .i64 0, .int .i64 0, .slice none 0 0, .slice none 0 0] 30)
  have kp := (Box.new w 30 #[.int .i64 x, .int .i64 f, .int .i64 t, .int .i64 p, .int .i64 s, .slice ha hn hc, .slice ga gn gc]).keep (new_bel _ (.cells #[.int .i64 0, .int .i64 0, .int .i64 0, .int .i64 0, .int .i64 0, .slice none 0 0, .slice none 0 0] 30))
  have kr := Box.new (w.alloc (.cells #[.int .i64 x, .int .i64 f, .int .i64 t, .int .i64 p, .int .i64 s, .slice ha hn hc, .slice ga gn gc] 30)) 30 #[.int .i64 0, .int .i64 0, .int .i64 0, .int .i64 0, .int .i64 0, .slice none 0 0, .slice none 0 0]
  have e1 : (w.alloc (.cells #[.int .i64 x, .int .i64 f, .int .i64 t, .int .i64 p, .int .i64 s, .slice ha hn hc, .slice ga gn gc] 30)).heap.size = w.heap.size + 1 := by simp
  have e2 : ((w.alloc (.cells #[.int .i64 x, .int .i64 f, .int .i64 t, .int .i64 p, .int .i64 s, .slice ha hn hc, .slice ga gn gc] 30)).alloc (.cells #[.int .i64 0, .int .i64 0, .int .i64 0, .int .i64 0, .int .i64 0, .slice none 0 0, .slice none 0 0] 30)).heap.size = w.heap.size + 2 := by simp
  rw [e1] at kr
  have HC1 : Hid (Calls _ _ _ _ _) := mcopied x f t p s ha hn hc ga gn gc H G _ (Shape.below hH hB) (Shape.below hG hB) hn1 gn1
  have HHW : Hid (∀ u, Below w.heap.size w u → bitsS.rep u everywhere [.slice ha hn hc] H) := fun u hu => Shape.below hH hu
  have HGW : Hid (∀ u, Below w.heap.size w u → bagS.rep u everywhere [.slice ga gn gc] G) := fun u hu => Shape.below hG hu
  have HE2 := hidL e2
  have HLH : Hid (H.length = hn) := (sliceS_len hH).1
  have HLG : Hid (G.length = gn) := (sliceS_len hG).1
  clear hH hG e1 e2
  go_enter Try.func18, Try.ntmps18
  go_upto_region 1 with fail
  generalize (w.alloc (.cells #[.int .i64 x, .int .i64 f, .int .i64 t, .int .i64 p, .int .i64 s, .slice ha hn hc, .slice ga gn gc] 30)).alloc (.cells #[.int .i64 0, .int .i64 0, .int .i64 0, .int .i64 0, .int .i64 0, .slice none 0 0, .slice none 0 0] 30) = W at *
  have c0 := kp.cell 0 rfl; have c1 := kp.cell 1 rfl; have c2 := kp.cell 2 rfl; have c3 := kp.cell 3 rfl; have c4 := kp.cell 4 rfl; have c5 := kp.cell 5 rfl; have c6 := kp.cell 6 rfl
  go_upto_region 2 with (go_at_call 35; refine HC1.out.mono ?_; rintro r u1 ⟨hb1, ha2, hc2, ga2, gc2, N, rfl, ho1, ho2, hN, hlt⟩)
  have hbn := new_bel u1 (.cells #[.int .i64 x, .int .i64 f, .int .i64 t, .int .i64 p, .int .i64 s, .slice ha2 hn hc2, .slice ga2 gn gc2] 30)
  have kp2 := (kp.keep hb1).keep hbn
  have kr2 := (kr.keep hb1).keep hbn
  have kn2 := Box.new u1 30 #[.int .i64 x, .int .i64 f, .int .i64 t, .int .i64 p, .int .i64 s, .slice ha2 hn hc2, .slice ga2 gn gc2]
  have hB2 := bel_then (bel_then hB hb1) hbn
  have hl1 := fun b hb => (ho1.lt b hb).2
  have hl2 := fun b hb => (ho2.lt b hb).2
  have ho3 := ho1.keep hbn
  have ho4 := ho2.keep hbn
  have hs1 := hb1.size
  rw [HE2.out] at ho3 hN hs1
  clear c0 c1 c2 c3 c4 c5 c6 kp kr hB hb1 hbn HC1 ho1 ho2
  generalize u1.alloc (.cells #[.int .i64 x, .int .i64 f, .int .i64 t, .int .i64 p, .int .i64 s, .slice ha2 hn hc2, .slice ga2 gn gc2] 30) = W2 at *
  generalize u1.heap.size = K at *
  clear HE2
  have e0 := kp2.cell 0 rfl; have e1 := kp2.cell 1 rfl; have e2 := kp2.cell 2 rfl; have e3 := kp2.cell 3 rfl; have e4 := kp2.cell 4 rfl; have e5 := kp2.cell 5 rfl; have e6 := kp2.cell 6 rfl
  by_cases h1 : p = 1
  case neg =>
    have HN : Hid (¬ Mq.Fit p H G i) := fun h => h1 h.1
    have q1 : (p != 1) = true := by rw [bne_iff_ne]; exact h1
    clear h1
    have hpp : p = P ∧ H = K9 ∧ G = J ∧ 1 = E := by
      rcases HP.out with ⟨_, h⟩ | ⟨h, _⟩ | ⟨h, _⟩ | ⟨h, _⟩ | ⟨h, _⟩
      · exact h
      · exact absurd h HN.out
      · exact absurd h HN.out
      · exact absurd h HN.out
      · exact absurd h HN.out
    obtain ⟨rfl, rfl, rfl, rfl⟩ := hpp
    have c0 := kn2.cell 0 rfl; have c1 := kn2.cell 1 rfl; have c2 := kn2.cell 2 rfl; have c3 := kn2.cell 3 rfl; have c4 := kn2.cell 4 rfl; have c5 := kn2.cell 5 rfl; have c6 := kn2.cell 6 rfl
    have d0 := kr2.cell 0 rfl; have d1 := kr2.cell 1 rfl; have d2 := kr2.cell 2 rfl; have d3 := kr2.cell 3 rfl; have d4 := kr2.cell 4 rfl; have d5 := kr2.cell 5 rfl; have d6 := kr2.cell 6 rfl
    have g0 := kr2.free 0; have g1 := kr2.free 1; have g2 := kr2.free 2; have g3 := kr2.free 3; have g4 := kr2.free 4; have g5 := kr2.free 5; have g6 := kr2.free 6
    have HO3 := hidL (ho3)
    have HO4 := hidL (ho4)
    have HBB := hidL (hB2)
    clear ho3 ho4 hl1 hl2 hlt
    go_wp2
    refine ret_var Try.underlying30 Try.infoMove rfl rfl rfl rfl (kr2.all7 _ _ _ _ _ _ _) rfl ?_
    refine ⟨bel_all7 HBB.out (by omega) _ _ _ _ _ _ _, _, _, _, _, rfl, bitsS.mono (rep_all7 (HO3.out.top plain_bool) (fun b hb => ?_) _ _ _ _ _ _ _) (fun b hb _ => by have h9 : w.heap.size + 2 ≤ b := hb; show w.heap.size ≤ b; omega), bagS.mono (rep_all7 (HO4.out.top plain_str) (fun b hb => ?_) _ _ _ _ _ _ _) (fun b hb _ => by have h9 : N ≤ b := hb; show w.heap.size ≤ b; omega)⟩
    · have h9 : w.heap.size + 2 ≤ b := hb; omega
    · have h9 : N ≤ b := hb; omega
  subst h1
  by_cases h2 : hn = gn
  case neg =>
    have HN : Hid (¬ Mq.Fit 1 H G i) := fun h => h2 (by have := HLH.out; have := HLG.out; have := h.2.1; omega)
    have q1 : ((hn : Int) != (gn : Int)) = true := by rw [bne_iff_ne]; omega
    clear h2
    have hpp : 1 = P ∧ H = K9 ∧ G = J ∧ 1 = E := by
      rcases HP.out with ⟨_, h⟩ | ⟨h, _⟩ | ⟨h, _⟩ | ⟨h, _⟩ | ⟨h, _⟩
      · exact h
      · exact absurd h HN.out
      · exact absurd h HN.out
      · exact absurd h HN.out
      · exact absurd h HN.out
    obtain ⟨rfl, rfl, rfl, rfl⟩ := hpp
    have c0 := kn2.cell 0 rfl; have c1 := kn2.cell 1 rfl; have c2 := kn2.cell 2 rfl; have c3 := kn2.cell 3 rfl; have c4 := kn2.cell 4 rfl; have c5 := kn2.cell 5 rfl; have c6 := kn2.cell 6 rfl
    have d0 := kr2.cell 0 rfl; have d1 := kr2.cell 1 rfl; have d2 := kr2.cell 2 rfl; have d3 := kr2.cell 3 rfl; have d4 := kr2.cell 4 rfl; have d5 := kr2.cell 5 rfl; have d6 := kr2.cell 6 rfl
    have g0 := kr2.free 0; have g1 := kr2.free 1; have g2 := kr2.free 2; have g3 := kr2.free 3; have g4 := kr2.free 4; have g5 := kr2.free 5; have g6 := kr2.free 6
    have HO3 := hidL (ho3)
    have HO4 := hidL (ho4)
    have HBB := hidL (hB2)
    clear ho3 ho4 hl1 hl2 hlt
    go_wp2
    refine ret_var Try.underlying30 Try.infoMove rfl rfl rfl rfl (kr2.all7 _ _ _ _ _ _ _) rfl ?_
    refine ⟨bel_all7 HBB.out (by omega) _ _ _ _ _ _ _, _, _, _, _, rfl, bitsS.mono (rep_all7 (HO3.out.top plain_bool) (fun b hb => ?_) _ _ _ _ _ _ _) (fun b hb _ => by have h9 : w.heap.size + 2 ≤ b := hb; show w.heap.size ≤ b; omega), bagS.mono (rep_all7 (HO4.out.top plain_str) (fun b hb => ?_) _ _ _ _ _ _ _) (fun b hb _ => by have h9 : N ≤ b := hb; show w.heap.size ≤ b; omega)⟩
    · have h9 : w.heap.size + 2 ≤ b := hb; omega
    · have h9 : N ≤ b := hb; omega
  subst h2
  have q1 : ((hn : Int) != (hn : Int)) = false := by simp
  by_cases h3 : i < 0
  case pos =>
    have HN : Hid (¬ Mq.Fit 1 H G i) := fun h => by have := h.2.2.1; omega
    have hpp : 1 = P ∧ H = K9 ∧ G = J ∧ 1 = E := by
      rcases HP.out with ⟨_, h⟩ | ⟨h, _⟩ | ⟨h, _⟩ | ⟨h, _⟩ | ⟨h, _⟩
      · exact h
      · exact absurd h HN.out
      · exact absurd h HN.out
      · exact absurd h HN.out
      · exact absurd h HN.out
    obtain ⟨rfl, rfl, rfl, rfl⟩ := hpp
    have c0 := kn2.cell 0 rfl; have c1 := kn2.cell 1 rfl; have c2 := kn2.cell 2 rfl; have c3 := kn2.cell 3 rfl; have c4 := kn2.cell 4 rfl; have c5 := kn2.cell 5 rfl; have c6 := kn2.cell 6 rfl
    have d0 := kr2.cell 0 rfl; have d1 := kr2.cell 1 rfl; have d2 := kr2.cell 2 rfl; have d3 := kr2.cell 3 rfl; have d4 := kr2.cell 4 rfl; have d5 := kr2.cell 5 rfl; have d6 := kr2.cell 6 rfl
    have g0 := kr2.free 0; have g1 := kr2.free 1; have g2 := kr2.free 2; have g3 := kr2.free 3; have g4 := kr2.free 4; have g5 := kr2.free 5; have g6 := kr2.free 6
    have HO3 := hidL (ho3)
    have HO4 := hidL (ho4)
    have HBB := hidL (hB2)
    clear ho3 ho4 hl1 hl2 hlt
    go_wp2
    refine ret_var Try.underlying30 Try.infoMove rfl rfl rfl rfl (kr2.all7 _ _ _ _ _ _ _) rfl ?_
    refine ⟨bel_all7 HBB.out (by omega) _ _ _ _ _ _ _, _, _, _, _, rfl, bitsS.mono (rep_all7 (HO3.out.top plain_bool) (fun b hb => ?_) _ _ _ _ _ _ _) (fun b hb _ => by have h9 : w.heap.size + 2 ≤ b := hb; show w.heap.size ≤ b; omega), bagS.mono (rep_all7 (HO4.out.top plain_str) (fun b hb => ?_) _ _ _ _ _ _ _) (fun b hb _ => by have h9 : N ≤ b := hb; show w.heap.size ≤ b; omega)⟩
    · have h9 : w.heap.size + 2 ≤ b := hb; omega
    · have h9 : N ≤ b := hb; omega
  by_cases h4 : (hn : Int) ≤ i
  case pos =>
    have HN : Hid (¬ Mq.Fit 1 H G i) := fun h => by have := h.2.2.2; have := HLH.out; omega
    have hpp : 1 = P ∧ H = K9 ∧ G = J ∧ 1 = E := by
      rcases HP.out with ⟨_, h⟩ | ⟨h, _⟩ | ⟨h, _⟩ | ⟨h, _⟩ | ⟨h, _⟩
      · exact h
      · exact absurd h HN.out
      · exact absurd h HN.out
      · exact absurd h HN.out
      · exact absurd h HN.out
    obtain ⟨rfl, rfl, rfl, rfl⟩ := hpp
    have c0 := kn2.cell 0 rfl; have c1 := kn2.cell 1 rfl; have c2 := kn2.cell 2 rfl; have c3 := kn2.cell 3 rfl; have c4 := kn2.cell 4 rfl; have c5 := kn2.cell 5 rfl; have c6 := kn2.cell 6 rfl
    have d0 := kr2.cell 0 rfl; have d1 := kr2.cell 1 rfl; have d2 := kr2.cell 2 rfl; have d3 := kr2.cell 3 rfl; have d4 := kr2.cell 4 rfl; have d5 := kr2.cell 5 rfl; have d6 := kr2.cell 6 rfl
    have g0 := kr2.free 0; have g1 := kr2.free 1; have g2 := kr2.free 2; have g3 := kr2.free 3; have g4 := kr2.free 4; have g5 := kr2.free 5; have g6 := kr2.free 6
    have HO3 := hidL (ho3)
    have HO4 := hidL (ho4)
    have HBB := hidL (hB2)
    clear ho3 ho4 hl1 hl2 hlt
    go_wp2
    refine ret_var Try.underlying30 Try.infoMove rfl rfl rfl rfl (kr2.all7 _ _ _ _ _ _ _) rfl ?_
    refine ⟨bel_all7 HBB.out (by omega) _ _ _ _ _ _ _, _, _, _, _, rfl, bitsS.mono (rep_all7 (HO3.out.top plain_bool) (fun b hb => ?_) _ _ _ _ _ _ _) (fun b hb _ => by have h9 : w.heap.size + 2 ≤ b := hb; show w.heap.size ≤ b; omega), bagS.mono (rep_all7 (HO4.out.top plain_str) (fun b hb => ?_) _ _ _ _ _ _ _) (fun b hb _ => by have h9 : N ≤ b := hb; show w.heap.size ≤ b; omega)⟩
    · have h9 : w.heap.size + 2 ≤ b := hb; omega
    · have h9 : N ≤ b := hb; omega
  obtain ⟨k, rfl⟩ : ∃ k : Nat, i = (k : Int) := ⟨i.toNat, by omega⟩
  have hk : k < hn := by omega
  have HF : Hid (Mq.Fit 1 H G (k : Int)) := ⟨rfl, by rw [HLH.out, HLG.out], by omega, by rw [HLH.out]; omega⟩
  obtain ⟨b1, o1, rfl, _, _, hc⟩ := bit_at (HHW.out _ hB2) hk
  cases hb : H.getD k false with
  | true =>
    rw [hb] at hc
    have hpp : 1 = P ∧ H = K9 ∧ G = J ∧ 5 = E := by
      rcases HP.out with ⟨h, _⟩ | ⟨_, _, h⟩ | ⟨_, h, _⟩ | ⟨_, h, _⟩ | ⟨_, h, _⟩
      · exact absurd HF.out h
      · exact h
      · rw [Int.toNat_natCast, hb] at h; cases h
      · rw [Int.toNat_natCast, hb] at h; cases h
      · rw [Int.toNat_natCast, hb] at h; cases h
    obtain ⟨rfl, rfl, rfl, rfl⟩ := hpp
    clear hb
    have c0 := kn2.cell 0 rfl; have c1 := kn2.cell 1 rfl; have c2 := kn2.cell 2 rfl; have c3 := kn2.cell 3 rfl; have c4 := kn2.cell 4 rfl; have c5 := kn2.cell 5 rfl; have c6 := kn2.cell 6 rfl
    have d0 := kr2.cell 0 rfl; have d1 := kr2.cell 1 rfl; have d2 := kr2.cell 2 rfl; have d3 := kr2.cell 3 rfl; have d4 := kr2.cell 4 rfl; have d5 := kr2.cell 5 rfl; have d6 := kr2.cell 6 rfl
    have g0 := kr2.free 0; have g1 := kr2.free 1; have g2 := kr2.free 2; have g3 := kr2.free 3; have g4 := kr2.free 4; have g5 := kr2.free 5; have g6 := kr2.free 6
    have HO3 := hidL (ho3)
    have HO4 := hidL (ho4)
    have HBB := hidL (hB2)
    clear ho3 ho4 hl1 hl2 hlt
    go_wp2
    refine ret_var Try.underlying30 Try.infoMove rfl rfl rfl rfl (kr2.all7 _ _ _ _ _ _ _) rfl ?_
    refine ⟨bel_all7 HBB.out (by omega) _ _ _ _ _ _ _, _, _, _, _, rfl, bitsS.mono (rep_all7 (HO3.out.top plain_bool) (fun b hb => ?_) _ _ _ _ _ _ _) (fun b hb _ => by have h9 : w.heap.size + 2 ≤ b := hb; show w.heap.size ≤ b; omega), bagS.mono (rep_all7 (HO4.out.top plain_str) (fun b hb => ?_) _ _ _ _ _ _ _) (fun b hb _ => by have h9 : N ≤ b := hb; show w.heap.size ≤ b; omega)⟩
    · have h9 : w.heap.size + 2 ≤ b := hb; omega
    · have h9 : N ≤ b := hb; omega
  | false =>
    rw [hb] at hc
    have hpp : H.set k true = K9 ∧ G.set k z = J ∧ ((K9.contains false = true ∧ 1 = P ∧ 0 = E) ∨ (K9.contains false = false ∧ (Cx.sum (Mq.all J) : Int) ≠ s ∧ 4 = P ∧ 9 = E) ∨ (K9.contains false = false ∧ (Cx.sum (Mq.all J) : Int) = s ∧ 2 = P ∧ 0 = E)) := by
      rcases HP.out with ⟨h, _⟩ | ⟨_, h, _⟩ | ⟨_, _, h4, h5, h6⟩ | ⟨_, _, h4, h5, h6⟩ | ⟨_, _, h4, h5, h6⟩
      · exact absurd HF.out h
      · rw [Int.toNat_natCast, hb] at h; cases h
      · exact ⟨h4, h5, .inl h6⟩
      · exact ⟨h4, h5, .inr (.inl h6)⟩
      · exact ⟨h4, h5, .inr (.inr h6)⟩
    obtain ⟨hK9, hJ, hcs⟩ := hpp
    have HCS := hidL hcs
    obtain ⟨g1, rfl, hg1, _, _⟩ := ho3.form (by omega)
    obtain ⟨g2, rfl, hg2, _, _⟩ := ho4.form (by omega)
    have hg3 := hlt g1 rfl
    have hg4 := hl2 g2 rfl
    obtain ⟨⟨z1, x1⟩, f1, hO1⟩ := Own.store (A := boolS) (v := .bool true) (x := true) (F := fun _ => False) rfl ho3 hk rfl (fun _ h => h.elim)
    rw [hK9] at hO1
    have hO2 := ho4.still plain_str (grown_set W2 g1 k (.bool true)) (fun b hb h => by cases hb; have h9 : g1 = g2 := Option.some.inj h; omega)
    have kn3 := kn2.other (b2 := g1) (i := k) (.bool true) (by omega)
    have kp3 := kp2.other (b2 := g1) (i := k) (.bool true) (by omega)
    have kr3 := kr2.other (b2 := g1) (i := k) (.bool true) (by omega)
    have hB3 := bel_put (i := k) hB2 (show w.heap.size ≤ g1 by omega) (.bool true)
    have v5 := kn2.cell 5 rfl
    have hki : (k : Int) < (hn : Int) := by omega
    have hk0 : (0 : Int) ≤ (k : Int) := by omega
    clear hb hK9 hcs ho3 ho4 kn2 kp2 kr2 hB2
    go_upto_region 7 with fail
    clear hc v5 e0 e1 e2 e3 e4 e5 e6 x1 f1
    generalize W2.setCell ⟨g1, k, none⟩ (.bool true) = W3 at *
    obtain ⟨⟨z2, x2⟩, f2, hO4⟩ := Own.store (A := strS) (v := .string z) (x := z) (F := fun _ => False) rfl hO2 hk rfl (fun _ h => h.elim)
    rw [hJ] at hO4
    have hO3 := hO1.still plain_bool (grown_set W3 g2 k (.string z)) (fun b hb h => by cases hb; have h9 : g2 = g1 := Option.some.inj h; omega)
    have kn4 := kn3.other (b2 := g2) (i := k) (.string z) (by omega)
    have kp4 := kp3.other (b2 := g2) (i := k) (.string z) (by omega)
    have kr4 := kr3.other (b2 := g2) (i := k) (.string z) (by omega)
    have hB4 := bel_put (i := k) hB3 (show w.heap.size ≤ g2 by omega) (.string z)
    have v6 := kn3.cell 6 rfl
    clear hO1 hO2 kn3 kp3 kr3 hB3 hJ
    go_upto_region 8 with fail
    clear x2 f2 v6
    generalize W3.setCell ⟨g2, k, none⟩ (.string z) = W4 at *
    obtain ⟨v, hv⟩ : ∃ v, K9.contains false = v := ⟨_, rfl⟩
    have HC : Hid (Calls _ _ _ _ _) := containsB _ _ _ _ v W4 (Shape.any (hO3.top plain_bool)) HSL.out.1 hv
    have v5 := kn4.cell 5 rfl
    rw [hv] at HCS
    have k5 := kn4.cell 6 rfl
    have k6 := kp4.cell 4 rfl
    clear hv
    cases v with
    | true =>
      go_upto_region 9 with (go_at_call 36; refine HC.out.mono ?_; rintro r u3 ⟨rfl, h9⟩; replace h9 := h9.symm; subst h9)
      clear v5 HC
      have hcs : 1 = P ∧ 0 = E := by
        rcases HCS.out with ⟨_, h⟩ | ⟨h, _⟩ | ⟨h, _⟩
        · exact h
        · cases h
        · cases h
      obtain ⟨rfl, rfl⟩ := hcs
      clear k5 k6
      have c0 := kn4.cell 0 rfl; have c1 := kn4.cell 1 rfl; have c2 := kn4.cell 2 rfl; have c3 := kn4.cell 3 rfl; have c4 := kn4.cell 4 rfl; have c5 := kn4.cell 5 rfl; have c6 := kn4.cell 6 rfl
      have d0 := kr4.cell 0 rfl; have d1 := kr4.cell 1 rfl; have d2 := kr4.cell 2 rfl; have d3 := kr4.cell 3 rfl; have d4 := kr4.cell 4 rfl; have d5 := kr4.cell 5 rfl; have d6 := kr4.cell 6 rfl
      have g0 := kr4.free 0; have g1 := kr4.free 1; have g2 := kr4.free 2; have g3 := kr4.free 3; have g4 := kr4.free 4; have g5 := kr4.free 5; have g6 := kr4.free 6
      have HO3 := hidL (hO3)
      have HO4 := hidL (hO4)
      have HBB := hidL (hB4)
      clear hlt
      go_wp2
      refine ret_var Try.underlying30 Try.infoMove rfl rfl rfl rfl (kr4.all7 _ _ _ _ _ _ _) rfl ?_
      refine ⟨bel_all7 HBB.out (by omega) _ _ _ _ _ _ _, _, _, _, _, rfl, bitsS.mono (rep_all7 (HO3.out.top plain_bool) (fun b hb => ?_) _ _ _ _ _ _ _) (fun b hb _ => by have h9 : w.heap.size + 2 ≤ b := hb; show w.heap.size ≤ b; omega), bagS.mono (rep_all7 (HO4.out.top plain_str) (fun b hb => ?_) _ _ _ _ _ _ _) (fun b hb _ => by have h9 : N ≤ b := hb; show w.heap.size ≤ b; omega)⟩
      · have h9 : w.heap.size + 2 ≤ b := hb; omega
      · have h9 : N ≤ b := hb; omega
    | false =>
      go_upto_region 10 with (go_at_call 36; refine HC.out.mono ?_; rintro r u3 ⟨rfl, h9⟩; replace h9 := h9.symm; subst h9)
      clear v5 HC
      obtain ⟨S, hSS⟩ : ∃ S, (⟨(Mq.all J).toArray⟩ : ByteArray) = S := ⟨_, rfl⟩
      obtain ⟨q, hq⟩ : ∃ q, Cx.sum (Mq.all J) = q := ⟨_, rfl⟩
      have hJo := Shape.any (hO4.top plain_str)
      have HJ : Hid (∀ x : Later W4, Calls Try.prog 37 #[.slice (some ⟨g2, 0, none⟩) hn gc2] x.u fun r w' => r = .returned (.string S) ∧ Below x.u.heap.size x.u w') := fun x => by
        have h9 := kjoin _ _ gc2 J everywhere x.u (Shape.below hJo x.h) (by have := HSL.out.1; omega) (by rw [all_lists]; exact HSZ.out.all)
        rw [all_lists, hSS] at h9
        exact h9
      have HU : Hid (∀ x : Later W4, Calls Try.prog 31 #[.string S] x.u fun r w' => r = .returned (.int .i64 (q : Nat)) ∧ w' = x.u) := fun x => by
        have h9 := csum (⟨(Mq.all J).toArray⟩ : ByteArray) (by have h8 := HSZ.out.all; rw [bsize]; unfold maxLen; omega) x.u
        rw [show crc ⟨(Mq.all J).toArray⟩ = q from hq, hSS] at h9
        exact h9
      rw [hq] at HCS
      have hne9 : Nonempty (Later W4) := Later.there W4
      have y5 : ∀ x : Later W4, x.u.cell? ⟨K, 6, none⟩ = _ := fun x => x.cell k5
      have y6 : ∀ x : Later W4, x.u.cell? ⟨w.heap.size, 4, none⟩ = _ := fun x => x.cell k6
      clear hJo hSS hq k5 k6
      rcases HCS.out with ⟨h, _⟩ | ⟨_, hns, rfl, rfl⟩ | ⟨_, hes, rfl, rfl⟩
      · cases h
      · have qs : ((q : Int) != s) = true := by rw [bne_iff_ne]; exact hns
        clear hns HCS
        go_wp2
        refine region_later (by kernel_rfl) (by kernel_rfl) ?_
        repeat (go_big_quiet_step (first
          | (go_at_call 37; with_reducible exact Later.call (HJ.out _))
          | (go_at_call 31; with_reducible exact Later.same (HU.out _))))
        refine wpQuiet_nil ?_
        intro x9
        obtain ⟨W9, hb9⟩ := x9
        have kn9 := kn4.keep hb9
        have kr9 := kr4.keep hb9
        have hB9 := bel_then hB4 hb9
        have hO8 := hO3.keep hb9
        have hO9 := hO4.keep hb9
        clear kn4 kr4 kp4 hB4 hO3 hO4 y5 y6 HJ HU hne9
        have v3 := kn9.cell 3 rfl
        have f3 := kn9.free 3
        go_upto_region 12 with fail
        have kn10 : Box (W9.setCell ⟨K, 3, none⟩ (.int .i64 4)) K 30 #[.int .i64 x, .int .i64 f, .int .i64 t, .int .i64 4, .int .i64 s, .slice (some ⟨g1, 0, none⟩) hn hc2, .slice (some ⟨g2, 0, none⟩) hn gc2] := kn9.set 3 _
        have kr10 := kr9.other (b2 := K) (i := 3) (.int .i64 4) (by omega)
        have hO10 := hO8.still plain_bool (grown_set W9 K 3 (.int .i64 4)) (fun b hb h => by cases hb; have h9 : K = g1 := Option.some.inj h; omega)
        have hO11 := hO9.still plain_str (grown_set W9 K 3 (.int .i64 4)) (fun b hb h => by cases hb; have h9 : K = g2 := Option.some.inj h; omega)
        have hB10 := bel_put (i := 3) hB9 (show w.heap.size ≤ K by omega) (.int .i64 4)
        clear v3 f3 kn9 kr9 hO8 hO9 hB9 hb9
        generalize W9.setCell ⟨K, 3, none⟩ (.int .i64 4) = W10 at *
        have c0 := kn10.cell 0 rfl; have c1 := kn10.cell 1 rfl; have c2 := kn10.cell 2 rfl; have c3 := kn10.cell 3 rfl; have c4 := kn10.cell 4 rfl; have c5 := kn10.cell 5 rfl; have c6 := kn10.cell 6 rfl
        have d0 := kr10.cell 0 rfl; have d1 := kr10.cell 1 rfl; have d2 := kr10.cell 2 rfl; have d3 := kr10.cell 3 rfl; have d4 := kr10.cell 4 rfl; have d5 := kr10.cell 5 rfl; have d6 := kr10.cell 6 rfl
        have g0 := kr10.free 0; have g1 := kr10.free 1; have g2 := kr10.free 2; have g3 := kr10.free 3; have g4 := kr10.free 4; have g5 := kr10.free 5; have g6 := kr10.free 6
        have HO3 := hidL (hO10)
        have HO4 := hidL (hO11)
        have HBB := hidL (hB10)
        clear hlt
        go_wp2
        refine ret_var Try.underlying30 Try.infoMove rfl rfl rfl rfl (kr10.all7 _ _ _ _ _ _ _) rfl ?_
        refine ⟨bel_all7 HBB.out (by omega) _ _ _ _ _ _ _, _, _, _, _, rfl, bitsS.mono (rep_all7 (HO3.out.top plain_bool) (fun b hb => ?_) _ _ _ _ _ _ _) (fun b hb _ => by have h9 : w.heap.size + 2 ≤ b := hb; show w.heap.size ≤ b; omega), bagS.mono (rep_all7 (HO4.out.top plain_str) (fun b hb => ?_) _ _ _ _ _ _ _) (fun b hb _ => by have h9 : N ≤ b := hb; show w.heap.size ≤ b; omega)⟩
        · have h9 : w.heap.size + 2 ≤ b := hb; omega
        · have h9 : N ≤ b := hb; omega
      · have qs : ((q : Int) != s) = false := by rw [bne_eq_false_iff_eq]; exact hes
        clear hes HCS
        go_wp2
        refine region_later (by kernel_rfl) (by kernel_rfl) ?_
        repeat (go_big_quiet_step (first
          | (go_at_call 37; with_reducible exact Later.call (HJ.out _))
          | (go_at_call 31; with_reducible exact Later.same (HU.out _))))
        refine wpQuiet_nil ?_
        intro x9
        obtain ⟨W9, hb9⟩ := x9
        have kn9 := kn4.keep hb9
        have kr9 := kr4.keep hb9
        have hB9 := bel_then hB4 hb9
        have hO8 := hO3.keep hb9
        have hO9 := hO4.keep hb9
        clear kn4 kr4 kp4 hB4 hO3 hO4 y5 y6 HJ HU hne9
        have v3 := kn9.cell 3 rfl
        have f3 := kn9.free 3
        go_upto_region 14 with fail
        have kn10 : Box (W9.setCell ⟨K, 3, none⟩ (.int .i64 2)) K 30 #[.int .i64 x, .int .i64 f, .int .i64 t, .int .i64 2, .int .i64 s, .slice (some ⟨g1, 0, none⟩) hn hc2, .slice (some ⟨g2, 0, none⟩) hn gc2] := kn9.set 3 _
        have kr10 := kr9.other (b2 := K) (i := 3) (.int .i64 2) (by omega)
        have hO10 := hO8.still plain_bool (grown_set W9 K 3 (.int .i64 2)) (fun b hb h => by cases hb; have h9 : K = g1 := Option.some.inj h; omega)
        have hO11 := hO9.still plain_str (grown_set W9 K 3 (.int .i64 2)) (fun b hb h => by cases hb; have h9 : K = g2 := Option.some.inj h; omega)
        have hB10 := bel_put (i := 3) hB9 (show w.heap.size ≤ K by omega) (.int .i64 2)
        clear v3 f3 kn9 kr9 hO8 hO9 hB9 hb9
        generalize W9.setCell ⟨K, 3, none⟩ (.int .i64 2) = W10 at *
        have c0 := kn10.cell 0 rfl; have c1 := kn10.cell 1 rfl; have c2 := kn10.cell 2 rfl; have c3 := kn10.cell 3 rfl; have c4 := kn10.cell 4 rfl; have c5 := kn10.cell 5 rfl; have c6 := kn10.cell 6 rfl
        have d0 := kr10.cell 0 rfl; have d1 := kr10.cell 1 rfl; have d2 := kr10.cell 2 rfl; have d3 := kr10.cell 3 rfl; have d4 := kr10.cell 4 rfl; have d5 := kr10.cell 5 rfl; have d6 := kr10.cell 6 rfl
        have g0 := kr10.free 0; have g1 := kr10.free 1; have g2 := kr10.free 2; have g3 := kr10.free 3; have g4 := kr10.free 4; have g5 := kr10.free 5; have g6 := kr10.free 6
        have HO3 := hidL (hO10)
        have HO4 := hidL (hO11)
        have HBB := hidL (hB10)
        clear hlt
        go_wp2
        refine ret_var Try.underlying30 Try.infoMove rfl rfl rfl rfl (kr10.all7 _ _ _ _ _ _ _) rfl ?_
        refine ⟨bel_all7 HBB.out (by omega) _ _ _ _ _ _ _, _, _, _, _, rfl, bitsS.mono (rep_all7 (HO3.out.top plain_bool) (fun b hb => ?_) _ _ _ _ _ _ _) (fun b hb _ => by have h9 : w.heap.size + 2 ≤ b := hb; show w.heap.size ≤ b; omega), bagS.mono (rep_all7 (HO4.out.top plain_str) (fun b hb => ?_) _ _ _ _ _ _ _) (fun b hb _ => by have h9 : N ≤ b := hb; show w.heap.size ≤ b; omega)⟩
        · have h9 : w.heap.size + 2 ≤ b := hb; omega
        · have h9 : N ≤ b := hb; omega

end Go.Proofs.Ytpfhjdlmjehfnaa
