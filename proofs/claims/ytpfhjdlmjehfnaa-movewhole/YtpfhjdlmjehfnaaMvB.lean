/- What Abort, Text and Piece of package move do when called. -/
import Derived.Test.YtpfhjdlmjehfnaaMvA
import Derived.Test.YtpfhjdlmjehfnaaJoinA
import Derived.Test.YtpfhjdlmjehfnaaCrcA
namespace Go.Proofs.Ytpfhjdlmjehfnaa
open Go.ChangeShapes Go.WideShapes Go.ChangeAt Go.RowKit


theorem all_lists (G : List ByteArray) : (lists G).flatten = Mq.all G := rfl

/-! ### Text -/
set_option maxRecDepth 100000 in
set_option linter.unusedVariables false in
theorem mtext (x f t p s : Int) (ha : Option Addr) (hn hc : Nat) (ga : Option Addr) (gn gc : Nat) (H : List Bool) (G : List ByteArray) (S : ByteArray) (B : Bool) (w : World) (hH : bitsS.rep w everywhere [.slice ha hn hc] H) (hG : bagS.rep w everywhere [.slice ga gn gc] G) (hs : gn ≤ 1000) (hl : (Mq.all G).length ≤ 100000) (hT : Mq.Text p G S B) :
    Calls Try.prog 20 #[.agg #[.int .i64 x, .int .i64 f, .int .i64 t, .int .i64 p, .int .i64 s, .slice ha hn hc, .slice ga gn gc]] w fun r w' => r = .returned (.tuple #[.string S, .bool B]) ∧ Below w.heap.size w w' := by
  have hB := new_bel w (.cells #[.int .i64 x, .int .i64 f, .int .i64 t, .int .i64 p, .int .i64 s, .slice ha hn hc, .slice ga gn gc] 30)
  have kp := Box.new w 30 #[.int .i64 x, .int .i64 f, .int .i64 t, .int .i64 p, .int .i64 s, .slice ha hn hc, .slice ga gn gc]
  have HC : Hid (Calls _ _ _ _ _) := kjoin ga gn gc G everywhere _ (Shape.below hG hB) (by omega) (by rw [all_lists]; exact hl)
  rw [all_lists] at HC
  have HB := hidL hB
  have HT := hidL hT
  obtain ⟨l, hll⟩ : ∃ l, (⟨(Mq.all G).toArray⟩ : ByteArray) = l := ⟨_, rfl⟩
  have HL := hidL hll
  rw [hll] at HC
  clear hH hG hs hl hT hll hB
  by_cases h2 : p = 2
  · subst h2
    obtain ⟨rfl, rfl⟩ : l = S ∧ true = B := by
      rcases HT.out with ⟨_, h, hb⟩ | ⟨h, _⟩
      · exact ⟨HL.out.symm.trans h, hb⟩
      · exact absurd (.inl rfl) h
    go_enter Try.func20, Try.ntmps20
    go_upto_region 1 with fail
    generalize w.alloc (.cells #[.int .i64 x, .int .i64 f, .int .i64 t, .int .i64 2, .int .i64 s, .slice ha hn hc, .slice ga gn gc] 30) = W at *
    have c3 := kp.cell 3 rfl
    have c6 := kp.cell 6 rfl
    go_wp2_with (go_at_call 37; refine HC.out.mono ?_; rintro r u1 ⟨rfl, hb1⟩)
    go_ret2
    exact ⟨rfl, bel_then HB.out hb1⟩
  by_cases h3 : p = 3
  · subst h3
    obtain ⟨rfl, rfl⟩ : l = S ∧ true = B := by
      rcases HT.out with ⟨_, h, hb⟩ | ⟨h, _⟩
      · exact ⟨HL.out.symm.trans h, hb⟩
      · exact absurd (.inr rfl) h
    go_enter Try.func20, Try.ntmps20
    go_upto_region 1 with fail
    generalize w.alloc (.cells #[.int .i64 x, .int .i64 f, .int .i64 t, .int .i64 3, .int .i64 s, .slice ha hn hc, .slice ga gn gc] 30) = W at *
    have c3 := kp.cell 3 rfl
    have c6 := kp.cell 6 rfl
    go_wp2_with (go_at_call 37; refine HC.out.mono ?_; rintro r u1 ⟨rfl, hb1⟩)
    go_ret2
    exact ⟨rfl, bel_then HB.out hb1⟩
  · obtain ⟨rfl, rfl⟩ : noText = S ∧ false = B := by
      rcases HT.out with ⟨h, _⟩ | ⟨_, h, hb⟩
      · exact absurd h (fun h => h.elim h2 h3)
      · exact ⟨h, hb⟩
    have q2 : (p != 2) = true := by rw [bne_iff_ne]; exact h2
    have q3 : (p != 3) = true := by rw [bne_iff_ne]; exact h3
    clear h2 h3 HC
    go_enter Try.func20, Try.ntmps20
    go_upto_region 1 with fail
    generalize w.alloc (.cells #[.int .i64 x, .int .i64 f, .int .i64 t, .int .i64 p, .int .i64 s, .slice ha hn hc, .slice ga gn gc] 30) = W at *
    have c3 := kp.cell 3 rfl
    go_wp2
    go_ret2
    exact ⟨rfl, HB.out⟩

/-! ### Abort -/
set_option maxRecDepth 100000 in
set_option maxHeartbeats 1000000 in
theorem mabort (x f t p s : Int) (ha : Option Addr) (hn hc : Nat) (ga : Option Addr) (gn gc : Nat) (H : List Bool) (G : List ByteArray) (P E : Int) (w : World) (hH : bitsS.rep w everywhere [.slice ha hn hc] H) (hG : bagS.rep w everywhere [.slice ga gn gc] G) (hn1 : hn ≤ 1000) (gn1 : gn ≤ 1000) (hA : Mq.Abort p P E) :
    Calls Try.prog 23 #[.agg #[.int .i64 x, .int .i64 f, .int .i64 t, .int .i64 p, .int .i64 s, .slice ha hn hc, .slice ga gn gc]] w fun r w' => Below w.heap.size w w' ∧ ∃ ha' hc' ga' gc', r = .returned (.tuple #[.agg #[.int .i64 x, .int .i64 f, .int .i64 t, .int .i64 P, .int .i64 s, .slice ha' hn hc', .slice ga' gn gc'], .int .i64 E]) ∧ bitsS.rep w' (w.heap.size ≤ ·) [.slice ha' hn hc'] H ∧ bagS.rep w' (w.heap.size ≤ ·) [.slice ga' gn gc'] G := by
  have HP := hidL hA
  clear hA
  have hB := bel_two w (.cells #[.int .i64 x, .int .i64 f, .int .i64 t, .int .i64 p, .int .i64 s, .slice ha hn hc, .slice ga gn gc] 30) (.cells #[.int .i64 0, .int .i64 0, .int .i64 0, .int .i64 0, .int .i64 0, .slice none 0 0, .slice none 0 0] 30)
  have kp := (Box.new w 30 #[.int .i64 x, .int .i64 f, .int .i64 t, .int .i64 p, .int .i64 s, .slice ha hn hc, .slice ga gn gc]).keep (new_bel _ (.cells #[.int .i64 0, .int .i64 0, .int .i64 0, .int .i64 0, .int .i64 0, .slice none 0 0, .slice none 0 0] 30))
  have kr := Box.new (w.alloc (.cells #[.int .i64 x, .int .i64 f, .int .i64 t, .int .i64 p, .int .i64 s, .slice ha hn hc, .slice ga gn gc] 30)) 30 #[.int .i64 0, .int .i64 0, .int .i64 0, .int .i64 0, .int .i64 0, .slice none 0 0, .slice none 0 0]
  have e1 : (w.alloc (.cells #[.int .i64 x, .int .i64 f, .int .i64 t, .int .i64 p, .int .i64 s, .slice ha hn hc, .slice ga gn gc] 30)).heap.size = w.heap.size + 1 := by simp
  have e2 : ((w.alloc (.cells #[.int .i64 x, .int .i64 f, .int .i64 t, .int .i64 p, .int .i64 s, .slice ha hn hc, .slice ga gn gc] 30)).alloc (.cells #[.int .i64 0, .int .i64 0, .int .i64 0, .int .i64 0, .int .i64 0, .slice none 0 0, .slice none 0 0] 30)).heap.size = w.heap.size + 2 := by simp
  rw [e1] at kr
  have HC1 : Hid (Calls _ _ _ _ _) := mcopied x f t p s ha hn hc ga gn gc H G _ (Shape.below hH hB) (Shape.below hG hB) hn1 gn1
  have HHW : Hid (∀ u, Below w.heap.size w u → bitsS.rep u everywhere [.slice ha hn hc] H) := fun u hu => Shape.below hH hu
  have HGW : Hid (∀ u, Below w.heap.size w u → bagS.rep u everywhere [.slice ga gn gc] G) := fun u hu => Shape.below hG hu
  have HE2 := hidL e2
  have HLH : Hid (H.length = hn) := (sliceS_len hH).1
  have HLG : Hid (G.length = gn) := (sliceS_len hG).1
  clear hH hG e1 e2
  go_enter Try.func23, Try.ntmps23
  go_upto_region 1 with fail
  generalize (w.alloc (.cells #[.int .i64 x, .int .i64 f, .int .i64 t, .int .i64 p, .int .i64 s, .slice ha hn hc, .slice ga gn gc] 30)).alloc (.cells #[.int .i64 0, .int .i64 0, .int .i64 0, .int .i64 0, .int .i64 0, .slice none 0 0, .slice none 0 0] 30) = W at *
  have c0 := kp.cell 0 rfl; have c1 := kp.cell 1 rfl; have c2 := kp.cell 2 rfl; have c3 := kp.cell 3 rfl; have c4 := kp.cell 4 rfl; have c5 := kp.cell 5 rfl; have c6 := kp.cell 6 rfl
  go_upto_region 2 with (go_at_call 35; refine HC1.out.mono ?_; rintro r u1 ⟨hb1, ha2, hc2, ga2, gc2, N, rfl, ho1, ho2, hN, hlt⟩)
  have hbn := new_bel u1 (.cells #[.int .i64 x, .int .i64 f, .int .i64 t, .int .i64 p, .int .i64 s, .slice ha2 hn hc2, .slice ga2 gn gc2] 30)
  have kp2 := (kp.keep hb1).keep hbn
  have kr2 := (kr.keep hb1).keep hbn
  have kn2 := Box.new u1 30 #[.int .i64 x, .int .i64 f, .int .i64 t, .int .i64 p, .int .i64 s, .slice ha2 hn hc2, .slice ga2 gn gc2]
  have hB2 := bel_then (bel_then hB hb1) hbn
  have hl1 := fun b hb => (ho1.lt b hb).2
  have hl2 := fun b hb => (ho2.lt b hb).2
  have ho3 := ho1.keep hbn
  have ho4 := ho2.keep hbn
  have hs1 := hb1.size
  rw [HE2.out] at ho3 hN hs1
  clear c0 c1 c2 c3 c4 c5 c6 kp kr hB hb1 hbn HC1 ho1 ho2
  generalize u1.alloc (.cells #[.int .i64 x, .int .i64 f, .int .i64 t, .int .i64 p, .int .i64 s, .slice ha2 hn hc2, .slice ga2 gn gc2] 30) = W2 at *
  generalize u1.heap.size = K at *
  clear HE2
  rcases HP.out with ⟨rfl, rfl, rfl⟩ | ⟨hp, rfl, rfl⟩
  · have e3 := kp2.cell 3 rfl
    have c0 := kn2.cell 0 rfl; have c1 := kn2.cell 1 rfl; have c2 := kn2.cell 2 rfl; have c3 := kn2.cell 3 rfl; have c4 := kn2.cell 4 rfl; have c5 := kn2.cell 5 rfl; have c6 := kn2.cell 6 rfl
    have d0 := kr2.cell 0 rfl; have d1 := kr2.cell 1 rfl; have d2 := kr2.cell 2 rfl; have d3 := kr2.cell 3 rfl; have d4 := kr2.cell 4 rfl; have d5 := kr2.cell 5 rfl; have d6 := kr2.cell 6 rfl
    have g0 := kr2.free 0; have g1 := kr2.free 1; have g2 := kr2.free 2; have g3 := kr2.free 3; have g4 := kr2.free 4; have g5 := kr2.free 5; have g6 := kr2.free 6
    have HO3 := hidL (ho3)
    have HO4 := hidL (ho4)
    have HBB := hidL (hB2)
    clear ho3 ho4 hl1 hl2 hlt
    go_wp2
    refine ret_var Try.underlying30 Try.infoMove rfl rfl rfl rfl (kr2.all7 _ _ _ _ _ _ _) rfl ?_
    refine ⟨bel_all7 HBB.out (by omega) _ _ _ _ _ _ _, _, _, _, _, rfl, bitsS.mono (rep_all7 (HO3.out.top plain_bool) (fun b hb => ?_) _ _ _ _ _ _ _) (fun b hb _ => by have h9 : w.heap.size + 2 ≤ b := hb; show w.heap.size ≤ b; omega), bagS.mono (rep_all7 (HO4.out.top plain_str) (fun b hb => ?_) _ _ _ _ _ _ _) (fun b hb _ => by have h9 : N ≤ b := hb; show w.heap.size ≤ b; omega)⟩
    · have h9 : w.heap.size + 2 ≤ b := hb; omega
    · have h9 : N ≤ b := hb; omega
  · have e3 := kp2.cell 3 rfl
    have f3 := kn2.free 3
    have q3 : (p == 3) = false := by rw [beq_eq_false_iff_ne]; exact hp
    have c3 := kn2.cell 3 rfl
    go_upto_region 5 with fail
    have kn3 : Box (W2.setCell ⟨K, 3, none⟩ (.int .i64 4)) K 30 #[.int .i64 x, .int .i64 f, .int .i64 t, .int .i64 4, .int .i64 s, .slice ha2 hn hc2, .slice ga2 gn gc2] := kn2.set 3 _
    have kr3 := kr2.other (b2 := K) (i := 3) (.int .i64 4) (by omega)
    have ho5 := ho3.still plain_bool (grown_set W2 K 3 (.int .i64 4)) (fun b hb h => by have := hl1 b hb; have := Option.some.inj h; omega)
    have ho6 := ho4.still plain_str (grown_set W2 K 3 (.int .i64 4)) (fun b hb h => by have := hl2 b hb; have := Option.some.inj h; omega)
    have hB3 := bel_put (i := 3) hB2 (show w.heap.size ≤ K by omega) (.int .i64 4)
    clear e3 f3 c3 kn2 kr2 ho3 ho4 hB2 kp2
    generalize W2.setCell ⟨K, 3, none⟩ (.int .i64 4) = W3 at *
    have c0 := kn3.cell 0 rfl; have c1 := kn3.cell 1 rfl; have c2 := kn3.cell 2 rfl; have c3 := kn3.cell 3 rfl; have c4 := kn3.cell 4 rfl; have c5 := kn3.cell 5 rfl; have c6 := kn3.cell 6 rfl
    have d0 := kr3.cell 0 rfl; have d1 := kr3.cell 1 rfl; have d2 := kr3.cell 2 rfl; have d3 := kr3.cell 3 rfl; have d4 := kr3.cell 4 rfl; have d5 := kr3.cell 5 rfl; have d6 := kr3.cell 6 rfl
    have g0 := kr3.free 0; have g1 := kr3.free 1; have g2 := kr3.free 2; have g3 := kr3.free 3; have g4 := kr3.free 4; have g5 := kr3.free 5; have g6 := kr3.free 6
    have HO3 := hidL (ho5)
    have HO4 := hidL (ho6)
    have HBB := hidL (hB3)
    clear ho5 ho6 hl1 hl2 hlt
    go_wp2
    refine ret_var Try.underlying30 Try.infoMove rfl rfl rfl rfl (kr3.all7 _ _ _ _ _ _ _) rfl ?_
    refine ⟨bel_all7 HBB.out (by omega) _ _ _ _ _ _ _, _, _, _, _, rfl, bitsS.mono (rep_all7 (HO3.out.top plain_bool) (fun b hb => ?_) _ _ _ _ _ _ _) (fun b hb _ => by have h9 : w.heap.size + 2 ≤ b := hb; show w.heap.size ≤ b; omega), bagS.mono (rep_all7 (HO4.out.top plain_str) (fun b hb => ?_) _ _ _ _ _ _ _) (fun b hb _ => by have h9 : N ≤ b := hb; show w.heap.size ≤ b; omega)⟩
    · have h9 : w.heap.size + 2 ≤ b := hb; omega
    · have h9 : N ≤ b := hb; omega

end Go.Proofs.Ytpfhjdlmjehfnaa
