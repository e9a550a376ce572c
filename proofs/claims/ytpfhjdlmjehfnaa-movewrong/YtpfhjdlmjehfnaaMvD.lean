/- What Begin of package move does when called. -/
import Derived.Test.YtpfhjdlmjehfnaaMvA
import Derived.Test.YtpfhjdlmjehfnaaCutA
import Derived.Test.YtpfhjdlmjehfnaaCrcA
namespace Go.Proofs.Ytpfhjdlmjehfnaa
open Go.ChangeShapes Go.WideShapes Go.ChangeAt Go.RowKit


/-! ### What make lays -/
theorem made_rep {α : Type} {A : Shape α} {v : Value} {x : α} (w : World) (n : Nat) (e : TypeId) (hx : ∀ u F, A.rep u F [v] x) (hn : n ≤ maxLen) : (sliceS A).rep (w.alloc (.cells (madeCells #[v] n) e)) (· = w.heap.size) [.slice (some ⟨w.heap.size, 0, none⟩) n n] (List.replicate n x) := by
  have h1 := made_flat [v] (by simp) n
  have h2 : (madeCells #[v] n).toList = (List.replicate n [v]).flatten := by
    have h9 := h1
    rw [show n * [v].length = n by simp] at h9
    exact h9
  have h3 : madeCells #[v] n = (List.replicate n [v]).flatten.toArray := by rw [← h2, Array.toArray_toList]
  refine ⟨_, _, List.replicate n [v], by rw [List.length_replicate], by rw [List.length_replicate]; exact Nat.le_refl _, hn, ⟨by simp, fun j c y hc hy => ?_⟩, .inr ⟨w.heap.size, 0, rfl, rfl, by simp, fun j u hu => ?_⟩⟩
  · have e1 := (List.mem_replicate.1 (List.mem_of_getElem? hc)).2
    have e2 := (List.mem_replicate.1 (List.mem_of_getElem? hy)).2
    rw [e1, e2]; exact hx _ _
  · rw [cell_of_row _ w.heap.size (0 + j) (madeCells #[v] n) e (0, 0) (heap_alloc_new w _), h3, Nat.zero_add, List.getElem?_toArray]
    exact hu
theorem pieces_texts (l : List UInt8) (k : Nat) : Mq.pieces l k = texts (Ck.cut l k) := rfl
theorem pieces_len (s : ByteArray) (k : Nat) : (Mq.pieces (Mq.lst s) k).length = Ck.num s.size k := by
  rw [pieces_texts, texts_len, Ck.cut_len, Mq.lst, list_size]

set_option maxRecDepth 100000 in
set_option maxHeartbeats 20000000 in
theorem mbegin (e : Int) (a : Option Addr) (n c : Nat) (m : List (List Int)) (x f t : Int) (s : ByteArray) (k : Int) (X F9 T9 P S : Int) (H : List Bool) (G L : List ByteArray) (E : Int) (w : World) (h : matS.rep w everywhere [.slice a n c] m) (hz : Ex.Sized m) (hs : s.size ≤ 1000) (hI : Mq.Begin e m x f t s k X F9 T9 P S H G L E) :
    Calls Try.prog 12 #[.agg #[.int .i64 e, .slice a n c], .int .i64 x, .int .i64 f, .int .i64 t, .string s, .int .i64 k] w fun r w' => Below w.heap.size w w' ∧ ∃ ha nh hc ga gc la lc, r = .returned (.tuple #[.agg #[.int .i64 X, .int .i64 F9, .int .i64 T9, .int .i64 P, .int .i64 S, .slice ha nh hc, .slice ga nh gc], .slice la nh lc, .int .i64 E]) ∧ bitsS.rep w' (w.heap.size ≤ ·) [.slice ha nh hc] H ∧ bagS.rep w' (w.heap.size ≤ ·) [.slice ga nh gc] G ∧ bagS.rep w' (w.heap.size ≤ ·) [.slice la nh lc] L := by
  have hB := bel_two w (.cells #[.int .i64 e, .slice a n c] 24) (.cells #[.int .i64 0, .int .i64 0, .int .i64 0, .int .i64 0, .int .i64 0, .slice none 0 0, .slice none 0 0] 30)
  have kp := (Box.new w 24 #[.int .i64 e, .slice a n c]).keep (new_bel _ (.cells #[.int .i64 0, .int .i64 0, .int .i64 0, .int .i64 0, .int .i64 0, .slice none 0 0, .slice none 0 0] 30))
  have kr := Box.new (w.alloc (.cells #[.int .i64 e, .slice a n c] 24)) 30 #[.int .i64 0, .int .i64 0, .int .i64 0, .int .i64 0, .int .i64 0, .slice none 0 0, .slice none 0 0]
  have e1 : (w.alloc (.cells #[.int .i64 e, .slice a n c] 24)).heap.size = w.heap.size + 1 := by simp
  have e2 : ((w.alloc (.cells #[.int .i64 e, .slice a n c] 24)).alloc (.cells #[.int .i64 0, .int .i64 0, .int .i64 0, .int .i64 0, .int .i64 0, .slice none 0 0, .slice none 0 0] 30)).heap.size = w.heap.size + 2 := by simp
  rw [e1] at kr
  have HE2 := hidL e2
  have HMA : Hid (∀ u, Below w.heap.size w u → matS.rep u everywhere [.slice a n c] m) := fun u hu => Shape.below h hu
  have HZ := hidL hz
  have HS := hidL hs
  have HI := hidL hI
  clear h hz hI e1 e2
  by_cases hk : k < 1 ∨ 64 < k
  case pos =>
    have HN : Hid (¬ Mq.Okay e m x f t s k) := fun h => by have := h.2.2.2.2; omega
    have hpp : 0 = X ∧ 0 = F9 ∧ 0 = T9 ∧ 0 = P ∧ 0 = S ∧ [] = H ∧ [] = G ∧ [] = L ∧ 1 = E := by
      rcases HI.out with ⟨_, h⟩ | ⟨h, _⟩ | ⟨h, _⟩
      · exact h
      · exact absurd h HN.out
      · exact absurd h HN.out
    obtain ⟨rfl, rfl, rfl, rfl, rfl, rfl, rfl, rfl, rfl⟩ := hpp
    clear HN HI
    have HC := hidL (fun u => kcut_no s k hk u)
    clear hk
    go_enter Try.func12, Try.ntmps12
    go_upto_region 1 with fail
    generalize (w.alloc (.cells #[.int .i64 e, .slice a n c] 24)).alloc (.cells #[.int .i64 0, .int .i64 0, .int .i64 0, .int .i64 0, .int .i64 0, .slice none 0 0, .slice none 0 0] 30) = W at *
    go_upto_region 2 with (go_at_call 28; refine (HC.out _).mono ?_; rintro r u1 ⟨rfl, h9⟩; replace h9 := h9.symm; subst h9)
    have KR := hidL (kr)
    have HBB := hidL (hB)
    have d0 := kr.cell 0 rfl; have d1 := kr.cell 1 rfl; have d2 := kr.cell 2 rfl; have d3 := kr.cell 3 rfl; have d4 := kr.cell 4 rfl; have d5 := kr.cell 5 rfl; have d6 := kr.cell 6 rfl
    have g0 := kr.free 0; have g1 := kr.free 1; have g2 := kr.free 2; have g3 := kr.free 3; have g4 := kr.free 4; have g5 := kr.free 5; have g6 := kr.free 6
    clear HC
    go_wp2
    refine ret_three Try.underlying30 Try.infoMove rfl rfl rfl rfl rfl (KR.out.all7 _ _ _ _ _ _ _) rfl ?_
    exact ⟨bel_all7 HBB.out (by omega) _ _ _ _ _ _ _, none, 0, 0, none, 0, none, 0, rfl, rep_none _ _ _, rep_none _ _ _, rep_none _ _ _⟩
  obtain ⟨z, rfl⟩ : ∃ z : Nat, k = (z : Int) := ⟨k.toNat, by omega⟩
  obtain ⟨N, hN⟩ : ∃ N, Ck.num s.size z = N := ⟨_, rfl⟩
  have HCUT : Hid (∀ u, Calls _ _ _ u _) := fun u => kcut s z (by omega) (by omega) (by omega) N hN u
  have hk1 : 1 ≤ z ∧ z ≤ 64 := by omega
  have HNN := hidL (And.intro hN hk1)
  clear hk hN
  by_cases h0 : s.size = 0
  case pos =>
    have HN : Hid (¬ Mq.Okay e m x f t s (z : Int)) := fun h => h.2.2.2.1 h0
    have q0 := str_none h0
    have hpp : 0 = X ∧ 0 = F9 ∧ 0 = T9 ∧ 0 = P ∧ 0 = S ∧ [] = H ∧ [] = G ∧ [] = L ∧ 1 = E := by
      rcases HI.out with ⟨_, h⟩ | ⟨h, _⟩ | ⟨h, _⟩
      · exact h
      · exact absurd h HN.out
      · exact absurd h HN.out
    obtain ⟨rfl, rfl, rfl, rfl, rfl, rfl, rfl, rfl, rfl⟩ := hpp
    clear HN HI
    clear h0
    go_enter Try.func12, Try.ntmps12
    go_upto_region 1 with fail
    generalize (w.alloc (.cells #[.int .i64 e, .slice a n c] 24)).alloc (.cells #[.int .i64 0, .int .i64 0, .int .i64 0, .int .i64 0, .int .i64 0, .slice none 0 0, .slice none 0 0] 30) = W at *
    go_upto_region 2 with (go_at_call 28; refine (HCUT.out _).mono ?_; rintro r u1 ⟨hb1, a1, c1, rfl, ho1⟩)
    have hB1 := bel_then hB hb1
    replace kr := kr.keep hb1
    have KR := hidL (kr)
    have HBB := hidL (hB1)
    have d0 := kr.cell 0 rfl; have d1 := kr.cell 1 rfl; have d2 := kr.cell 2 rfl; have d3 := kr.cell 3 rfl; have d4 := kr.cell 4 rfl; have d5 := kr.cell 5 rfl; have d6 := kr.cell 6 rfl
    have g0 := kr.free 0; have g1 := kr.free 1; have g2 := kr.free 2; have g3 := kr.free 3; have g4 := kr.free 4; have g5 := kr.free 5; have g6 := kr.free 6
    clear ho1
    go_wp2
    refine ret_three Try.underlying30 Try.infoMove rfl rfl rfl rfl rfl (KR.out.all7 _ _ _ _ _ _ _) rfl ?_
    exact ⟨bel_all7 HBB.out (by omega) _ _ _ _ _ _ _, none, 0, 0, none, 0, none, 0, rfl, rep_none _ _ _, rep_none _ _ _, rep_none _ _ _⟩
  have q0 := str_some h0
  by_cases hl : Pl.Right e m ∧ Pl.Holds m x f
  case neg =>
    have HN : Hid (¬ Mq.Okay e m x f t s (z : Int)) := fun h => hl ⟨h.1, h.2.1⟩
    have HLV : Hid (∀ u, Below w.heap.size w u → Calls Try.prog 29 #[.agg #[.int .i64 e, .slice a n c], .int .i64 x, .int .i64 f] u fun r w' => r = .returned (.bool false) ∧ Below u.heap.size u w') := fun u hu => (mleave e a n c m x f u (HMA.out u hu) HZ.out).mono fun _ _ ⟨h1, h2⟩ => ⟨h1.not hl, h2⟩
    have hpp : 0 = X ∧ 0 = F9 ∧ 0 = T9 ∧ 0 = P ∧ 0 = S ∧ [] = H ∧ [] = G ∧ [] = L ∧ 1 = E := by
      rcases HI.out with ⟨_, h⟩ | ⟨h, _⟩ | ⟨h, _⟩
      · exact h
      · exact absurd h HN.out
      · exact absurd h HN.out
    obtain ⟨rfl, rfl, rfl, rfl, rfl, rfl, rfl, rfl, rfl⟩ := hpp
    clear HN HI
    clear h0 hl
    go_enter Try.func12, Try.ntmps12
    go_upto_region 1 with fail
    generalize (w.alloc (.cells #[.int .i64 e, .slice a n c] 24)).alloc (.cells #[.int .i64 0, .int .i64 0, .int .i64 0, .int .i64 0, .int .i64 0, .slice none 0 0, .slice none 0 0] 30) = W at *
    go_upto_region 2 with (go_at_call 28; refine (HCUT.out _).mono ?_; rintro r u1 ⟨hb1, a1, c1, rfl, ho1⟩)
    have hB1 := bel_then hB hb1
    replace kr := kr.keep hb1
    replace kp := kp.keep hb1
    have c0 := kp.cell 0 rfl; have c1 := kp.cell 1 rfl
    go_upto_region 3 with (go_at_call 29; refine (HLV.out _ hB1).mono ?_; rintro r u2 ⟨rfl, hb2⟩)
    have hB2 := bel_then hB1 hb2
    replace kr := kr.keep hb2
    have KR := hidL (kr)
    have HBB := hidL (hB2)
    have d0 := kr.cell 0 rfl; have d1 := kr.cell 1 rfl; have d2 := kr.cell 2 rfl; have d3 := kr.cell 3 rfl; have d4 := kr.cell 4 rfl; have d5 := kr.cell 5 rfl; have d6 := kr.cell 6 rfl
    have g0 := kr.free 0; have g1 := kr.free 1; have g2 := kr.free 2; have g3 := kr.free 3; have g4 := kr.free 4; have g5 := kr.free 5; have g6 := kr.free 6
    clear ho1
    go_wp2
    refine ret_three Try.underlying30 Try.infoMove rfl rfl rfl rfl rfl (KR.out.all7 _ _ _ _ _ _ _) rfl ?_
    exact ⟨bel_all7 HBB.out (by omega) _ _ _ _ _ _ _, none, 0, 0, none, 0, none, 0, rfl, rep_none _ _ _, rep_none _ _ _, rep_none _ _ _⟩
  have HLV : Hid (∀ u, Below w.heap.size w u → Calls Try.prog 29 #[.agg #[.int .i64 e, .slice a n c], .int .i64 x, .int .i64 f] u fun r w' => r = .returned (.bool true) ∧ Below u.heap.size u w') := fun u hu => (mleave e a n c m x f u (HMA.out u hu) HZ.out).mono fun _ _ ⟨h1, h2⟩ => ⟨h1.is hl, h2⟩
  by_cases ht : 1 ≤ t ∧ t ≤ 4
  case neg =>
    have HN : Hid (¬ Mq.Okay e m x f t s (z : Int)) := fun h => ht h.2.2.1
    have HND : Hid (∀ u, Calls Try.prog 30 #[.int .i64 t] u fun r w' => r = .returned (.bool false) ∧ w' = u) := fun u => (mnode t u).mono fun _ _ ⟨h1, h2⟩ => ⟨h1.not ht, h2⟩
    have hpp : 0 = X ∧ 0 = F9 ∧ 0 = T9 ∧ 0 = P ∧ 0 = S ∧ [] = H ∧ [] = G ∧ [] = L ∧ 1 = E := by
      rcases HI.out with ⟨_, h⟩ | ⟨h, _⟩ | ⟨h, _⟩
      · exact h
      · exact absurd h HN.out
      · exact absurd h HN.out
    obtain ⟨rfl, rfl, rfl, rfl, rfl, rfl, rfl, rfl, rfl⟩ := hpp
    clear HN HI
    clear h0 hl ht
    go_enter Try.func12, Try.ntmps12
    go_upto_region 1 with fail
    generalize (w.alloc (.cells #[.int .i64 e, .slice a n c] 24)).alloc (.cells #[.int .i64 0, .int .i64 0, .int .i64 0, .int .i64 0, .int .i64 0, .slice none 0 0, .slice none 0 0] 30) = W at *
    go_upto_region 2 with (go_at_call 28; refine (HCUT.out _).mono ?_; rintro r u1 ⟨hb1, a1, c1, rfl, ho1⟩)
    have hB1 := bel_then hB hb1
    replace kr := kr.keep hb1
    replace kp := kp.keep hb1
    have c0 := kp.cell 0 rfl; have c1 := kp.cell 1 rfl
    go_upto_region 3 with (first
      | (go_at_call 29; refine (HLV.out _ hB1).mono ?_; rintro r u2 ⟨rfl, hb2⟩)
      | (go_at_call 30; refine (HND.out _).mono ?_; rintro r u3 ⟨rfl, h9⟩; replace h9 := h9.symm; subst h9))
    have hB2 := bel_then hB1 hb2
    replace kr := kr.keep hb2
    have KR := hidL (kr)
    have HBB := hidL (hB2)
    have d0 := kr.cell 0 rfl; have d1 := kr.cell 1 rfl; have d2 := kr.cell 2 rfl; have d3 := kr.cell 3 rfl; have d4 := kr.cell 4 rfl; have d5 := kr.cell 5 rfl; have d6 := kr.cell 6 rfl
    have g0 := kr.free 0; have g1 := kr.free 1; have g2 := kr.free 2; have g3 := kr.free 3; have g4 := kr.free 4; have g5 := kr.free 5; have g6 := kr.free 6
    clear ho1
    go_wp2
    refine ret_three Try.underlying30 Try.infoMove rfl rfl rfl rfl rfl (KR.out.all7 _ _ _ _ _ _ _) rfl ?_
    exact ⟨bel_all7 HBB.out (by omega) _ _ _ _ _ _ _, none, 0, 0, none, 0, none, 0, rfl, rep_none _ _ _, rep_none _ _ _, rep_none _ _ _⟩
  have HND : Hid (∀ u, Calls Try.prog 30 #[.int .i64 t] u fun r w' => r = .returned (.bool true) ∧ w' = u) := fun u => (mnode t u).mono fun _ _ ⟨h1, h2⟩ => ⟨h1.is ht, h2⟩
  have HO : Hid (Mq.Okay e m x f t s (z : Int)) := ⟨hl.1, hl.2, ht, h0, by omega⟩
  by_cases hh : Pl.Holds m x t
  · have hpp : 0 = X ∧ 0 = F9 ∧ 0 = T9 ∧ 0 = P ∧ 0 = S ∧ [] = H ∧ [] = G ∧ [] = L ∧ 5 = E := by
      rcases HI.out with ⟨h, _⟩ | ⟨_, _, h⟩ | ⟨_, h, _⟩
      · exact absurd HO.out h
      · exact h
      · exact absurd hh h
    obtain ⟨rfl, rfl, rfl, rfl, rfl, rfl, rfl, rfl, rfl⟩ := hpp
    have HHD : Hid (∀ u, Below w.heap.size w u → Calls Try.prog 27 #[.agg #[.int .i64 e, .slice a n c], .int .i64 x, .int .i64 t] u fun r w' => r = .returned (.bool true) ∧ Below u.heap.size u w') := fun u hu => pholds e a n c m x t true u (HMA.out u hu) HZ.out (tell_yes hh)
    clear h0 hl ht hh HI
    go_enter Try.func12, Try.ntmps12
    go_upto_region 1 with fail
    generalize (w.alloc (.cells #[.int .i64 e, .slice a n c] 24)).alloc (.cells #[.int .i64 0, .int .i64 0, .int .i64 0, .int .i64 0, .int .i64 0, .slice none 0 0, .slice none 0 0] 30) = W at *
    go_upto_region 2 with (go_at_call 28; refine (HCUT.out _).mono ?_; rintro r u1 ⟨hb1, a1, c1, rfl, ho1⟩)
    have hB1 := bel_then hB hb1
    replace kr := kr.keep hb1
    replace kp := kp.keep hb1
    have c0 := kp.cell 0 rfl; have c1 := kp.cell 1 rfl
    go_upto_region 4 with (first
      | (go_at_call 29; refine (HLV.out _ hB1).mono ?_; rintro r u2 ⟨rfl, hb2⟩)
      | (go_at_call 30; refine (HND.out _).mono ?_; rintro r u3 ⟨rfl, h9⟩; replace h9 := h9.symm; subst h9))
    have hB2 := bel_then hB1 hb2
    replace kr := kr.keep hb2
    replace kp := kp.keep hb2
    clear c0 c1
    have c0 := kp.cell 0 rfl; have c1 := kp.cell 1 rfl
    go_upto_region 5 with (go_at_call 27; refine (HHD.out _ hB2).mono ?_; rintro r u4 ⟨rfl, hb4⟩)
    have hB4 := bel_then hB2 hb4
    replace kr := kr.keep hb4
    have KR := hidL (kr)
    have HBB := hidL (hB4)
    have d0 := kr.cell 0 rfl; have d1 := kr.cell 1 rfl; have d2 := kr.cell 2 rfl; have d3 := kr.cell 3 rfl; have d4 := kr.cell 4 rfl; have d5 := kr.cell 5 rfl; have d6 := kr.cell 6 rfl
    have g0 := kr.free 0; have g1 := kr.free 1; have g2 := kr.free 2; have g3 := kr.free 3; have g4 := kr.free 4; have g5 := kr.free 5; have g6 := kr.free 6
    clear ho1
    go_wp2
    refine ret_three Try.underlying30 Try.infoMove rfl rfl rfl rfl rfl (KR.out.all7 _ _ _ _ _ _ _) rfl ?_
    exact ⟨bel_all7 HBB.out (by omega) _ _ _ _ _ _ _, none, 0, 0, none, 0, none, 0, rfl, rep_none _ _ _, rep_none _ _ _, rep_none _ _ _⟩
  · have hpp : x = X ∧ f = F9 ∧ t = T9 ∧ 1 = P ∧ (Cx.sum (Mq.lst s) : Int) = S ∧ List.replicate (Ck.num s.size (z : Int).toNat) false = H ∧ List.replicate (Ck.num s.size (z : Int).toNat) noText = G ∧ Mq.pieces (Mq.lst s) (z : Int).toNat = L ∧ 0 = E := by
      rcases HI.out with ⟨h, _⟩ | ⟨_, h, _⟩ | ⟨_, _, h⟩
      · exact absurd HO.out h
      · exact absurd h hh
      · exact h
    obtain ⟨rfl, rfl, rfl, rfl, hS, hH, hG, hL, rfl⟩ := hpp
    rw [Int.toNat_natCast, HNN.out.1] at hH hG
    rw [Int.toNat_natCast] at hL
    have HHD : Hid (∀ u, Below w.heap.size w u → Calls Try.prog 27 #[.agg #[.int .i64 e, .slice a n c], .int .i64 x, .int .i64 t] u fun r w' => r = .returned (.bool false) ∧ Below u.heap.size u w') := fun u hu => pholds e a n c m x t false u (HMA.out u hu) HZ.out (tell_no hh)
    have hN9 : N ≤ 1000 := by
      rw [← HNN.out.1]
      rcases Nat.lt_or_ge 1000 (Ck.num s.size z) with h9 | h9
      · have h8 := (Ck.num_lt (n := s.size) (size := z) (by have := HNN.out.2; omega)).1 h9
        have := Nat.mul_le_mul_left 1000 HNN.out.2.1
        omega
      · exact h9
    have HMB : Hid (∀ u : World, (Instr.makeSlice 27 (.int .i64 (N : Int)) (.int .i64 (N : Int))).run Try.prog u = .ok (.slice (some ⟨u.heap.size, 0, none⟩) N N) (u.alloc (.cells (madeCells #[.bool false] N) 4))) := fun u => run_make_row' (P := Try.prog) 27 4 (.bool false) 1 Try.underlying27 Try.infoBool rfl .i64 .i64 N (by omega) (by omega) u
    have HMT : Hid (∀ u : World, (Instr.makeSlice 28 (.int .i64 (N : Int)) (.int .i64 (N : Int))).run Try.prog u = .ok (.slice (some ⟨u.heap.size, 0, none⟩) N N) (u.alloc (.cells (madeCells #[.string noText] N) 9))) := fun u => run_make_row' (P := Try.prog) 28 9 (.string noText) 16 Try.underlying28 Try.infoText rfl .i64 .i64 N (by omega) (by omega) u
    have HCS : Hid (∀ u, Calls Try.prog 31 #[.string s] u fun r w' => r = .returned (.int .i64 S) ∧ w' = u) := fun u => by
      have h9 := csum s (by have := HS.out; unfold maxLen; omega) u
      rw [show ((crc s : Nat) : Int) = S from hS] at h9
      exact h9
    clear h0 hl ht hh HI hS
    go_enter Try.func12, Try.ntmps12
    go_upto_region 1 with fail
    generalize (w.alloc (.cells #[.int .i64 e, .slice a n c] 24)).alloc (.cells #[.int .i64 0, .int .i64 0, .int .i64 0, .int .i64 0, .int .i64 0, .slice none 0 0, .slice none 0 0] 30) = W at *
    go_upto_region 2 with (go_at_call 28; refine (HCUT.out _).mono ?_; rintro r u1 ⟨hb1, a1, c1, rfl, ho1⟩)
    have hB1 := bel_then hB hb1
    replace kr := kr.keep hb1
    replace kp := kp.keep hb1
    have HL9 : Hid (∀ u, Below u1.heap.size u1 u → bagS.rep u (w.heap.size + 2 ≤ ·) [.slice a1 N c1] L) := fun u hu => by
      have h9 := Shape.below ho1.texts_high hu
      rw [HE2.out] at h9
      rw [← hL, pieces_texts]
      exact h9
    have c0 := kp.cell 0 rfl; have c1 := kp.cell 1 rfl
    go_upto_region 4 with (first
      | (go_at_call 29; refine (HLV.out _ hB1).mono ?_; rintro r u2 ⟨rfl, hb2⟩)
      | (go_at_call 30; refine (HND.out _).mono ?_; rintro r u3 ⟨rfl, h9⟩; replace h9 := h9.symm; subst h9))
    have hB2 := bel_then hB1 hb2
    replace kr := kr.keep hb2
    replace kp := kp.keep hb2
    clear c0 c1
    have c0 := kp.cell 0 rfl; have c1 := kp.cell 1 rfl
    go_upto_region 6 with (go_at_call 27; refine (HHD.out _ hB2).mono ?_; rintro r u4 ⟨rfl, hb4⟩)
    have hB4 := bel_then hB2 hb4
    replace kr := kr.keep hb4
    have hmb := HMB.out u4.drew
    have hmt := HMT.out u4.drew
    obtain ⟨A1, hA1⟩ : ∃ V, u4.alloc (.cells (madeCells #[.bool false] N) 4) = V := ⟨_, rfl⟩
    obtain ⟨B1, hB1'⟩ : ∃ V, u4.alloc (.cells (madeCells #[.string noText] N) 9) = V := ⟨_, rfl⟩
    have sA : A1.heap.size = u4.heap.size + 1 := by rw [← hA1]; simp
    have sB : B1.heap.size = u4.heap.size + 1 := by rw [← hB1']; simp
    have hmt2 := HMT.out A1.drew
    have hmb2 := HMB.out B1.drew
    rw [show (u4.drew).alloc (.cells (madeCells #[.bool false] N) 4) = A1.drew by rw [← hA1]; rfl, show (u4.drew).heap.size = u4.heap.size from rfl] at hmb
    rw [show (u4.drew).alloc (.cells (madeCells #[.string noText] N) 9) = B1.drew by rw [← hB1']; rfl, show (u4.drew).heap.size = u4.heap.size from rfl] at hmt
    have bA1 : Below u4.heap.size u4 A1 := by rw [← hA1]; exact new_bel _ _
    have bB1 : Below u4.heap.size u4 B1 := by rw [← hB1']; exact new_bel _ _
    obtain ⟨A2, hA2⟩ : ∃ V, A1.alloc (.cells (madeCells #[.string noText] N) 9) = V := ⟨_, rfl⟩
    obtain ⟨B2, hB2'⟩ : ∃ V, B1.alloc (.cells (madeCells #[.bool false] N) 4) = V := ⟨_, rfl⟩
    rw [show (A1.drew).alloc (.cells (madeCells #[.string noText] N) 9) = A2.drew by rw [← hA2]; rfl, show (A1.drew).heap.size = A1.heap.size from rfl] at hmt2
    rw [show (B1.drew).alloc (.cells (madeCells #[.bool false] N) 4) = B2.drew by rw [← hB2']; rfl, show (B1.drew).heap.size = B1.heap.size from rfl] at hmb2
    have bA2 : Below A1.heap.size A1 A2 := by rw [← hA2]; exact new_bel _ _
    have bB2 : Below B1.heap.size B1 B2 := by rw [← hB2']; exact new_bel _ _
    have rA1 : bitsS.rep A2 (u4.heap.size ≤ ·) [.slice (some ⟨u4.heap.size, 0, none⟩) N N] H := by
      rw [← hH]
      have h9 := bitsS.mono (made_rep u4 N 4 (A := boolS) (v := .bool false) (x := false) (fun _ _ => rfl) (by unfold maxLen; omega)) (F' := (u4.heap.size ≤ ·)) fun b hb _ => by show _ ≤ _; have h7 := (show b = _ from hb); omega
      rw [hA1] at h9
      exact Shape.below h9 bA2
    have rA2 : bagS.rep A2 (u4.heap.size ≤ ·) [.slice (some ⟨A1.heap.size, 0, none⟩) N N] G := by
      rw [← hG]
      have h9 := bagS.mono (made_rep A1 N 9 (A := strS) (v := .string noText) (x := noText) (fun _ _ => rfl) (by unfold maxLen; omega)) (F' := (u4.heap.size ≤ ·)) fun b hb _ => by show _ ≤ _; have h7 := (show b = _ from hb); omega
      rw [hA2] at h9
      exact h9
    have rB1 : bagS.rep B2 (u4.heap.size ≤ ·) [.slice (some ⟨u4.heap.size, 0, none⟩) N N] G := by
      rw [← hG]
      have h9 := bagS.mono (made_rep u4 N 9 (A := strS) (v := .string noText) (x := noText) (fun _ _ => rfl) (by unfold maxLen; omega)) (F' := (u4.heap.size ≤ ·)) fun b hb _ => by show _ ≤ _; have h7 := (show b = _ from hb); omega
      rw [hB1'] at h9
      exact Shape.below h9 bB2
    have rB2 : bitsS.rep B2 (u4.heap.size ≤ ·) [.slice (some ⟨B1.heap.size, 0, none⟩) N N] H := by
      rw [← hH]
      have h9 := bitsS.mono (made_rep B1 N 4 (A := boolS) (v := .bool false) (x := false) (fun _ _ => rfl) (by unfold maxLen; omega)) (F' := (u4.heap.size ≤ ·)) fun b hb _ => by show _ ≤ _; have h7 := (show b = _ from hb); omega
      rw [hB2'] at h9
      exact h9
    have qA := bel_then bA1 bA2
    have qB := bel_then bB1 bB2
    have kA := kr.keep qA
    have kB := kr.keep qB
    have hlt := kr.lt
    have hu4 := hb2.trans (hb4.mono hb2.size)
    have RA := hidL (And.intro kA (And.intro (bel_then hB4 qA) (And.intro rA1 (And.intro rA2 (HL9.out _ (bel_then hu4 qA))))))
    have RB := hidL (And.intro kB (And.intro (bel_then hB4 qB) (And.intro rB1 (And.intro rB2 (HL9.out _ (bel_then hu4 qB))))))
    have d0 := kA.cell 0 rfl; have d1 := kA.cell 1 rfl; have d2 := kA.cell 2 rfl; have d3 := kA.cell 3 rfl; have d4 := kA.cell 4 rfl; have d5 := kA.cell 5 rfl; have d6 := kA.cell 6 rfl
    have g0 := kA.free 0; have g1 := kA.free 1; have g2 := kA.free 2; have g3 := kA.free 3; have g4 := kA.free 4; have g5 := kA.free 5; have g6 := kA.free 6
    have dd0 := kB.cell 0 rfl; have dd1 := kB.cell 1 rfl; have dd2 := kB.cell 2 rfl; have dd3 := kB.cell 3 rfl; have dd4 := kB.cell 4 rfl; have dd5 := kB.cell 5 rfl; have dd6 := kB.cell 6 rfl
    have gg0 := kB.free 0; have gg1 := kB.free 1; have gg2 := kB.free 2; have gg3 := kB.free 3; have gg4 := kB.free 4; have gg5 := kB.free 5; have gg6 := kB.free 6
    clear hA1 hB1' hA2 hB2' sA sB bA1 bB1 bA2 bB2 rA1 rA2 rB1 rB2 qA qB kA kB hu4 c0 c1 ho1 hb1 hb2 hb4 hB1 hB2 hB4 hB kp kr hH hG hL
    go_region_with (go_at_call 31; refine (HCS.out _).mono ?_; rintro r u5 ⟨rfl, h9⟩; replace h9 := h9.symm; subst h9)
    · skip
      clear d0 d1 d2 d3 d4 d5 d6 g0 g1 g2 g3 g4 g5 g6 dd0 dd1 dd2 dd3 dd4 dd5 dd6 gg0 gg1 gg2 gg3 gg4 gg5 gg6
      clear hmb hmt hmb2 hmt2
      go_wp2
      refine ret_three Try.underlying30 Try.infoMove rfl rfl rfl rfl rfl (RA.out.1.all7 _ _ _ _ _ _ _).draw rfl ?_
      exact ⟨(bel_all7 RA.out.2.1 (by omega) _ _ _ _ _ _ _).drew, _, _, _, _, _, _, _, rfl, bitsS.mono (rep_draw (rep_all7 RA.out.2.2.1 (fun b hb => by have h9 : u4.heap.size ≤ b := hb; omega) _ _ _ _ _ _ _)) (fun b hb _ => by have h9 : u4.heap.size ≤ b := hb; show w.heap.size ≤ b; omega), bagS.mono (rep_draw (rep_all7 RA.out.2.2.2.1 (fun b hb => by have h9 : u4.heap.size ≤ b := hb; omega) _ _ _ _ _ _ _)) (fun b hb _ => by have h9 : u4.heap.size ≤ b := hb; show w.heap.size ≤ b; omega), bagS.mono (rep_draw (rep_all7 RA.out.2.2.2.2 (fun b hb => by have h9 : w.heap.size + 2 ≤ b := hb; omega) _ _ _ _ _ _ _)) (fun b hb _ => by have h9 : w.heap.size + 2 ≤ b := hb; show w.heap.size ≤ b; omega)⟩
    · skip
      clear d0 d1 d2 d3 d4 d5 d6 g0 g1 g2 g3 g4 g5 g6 dd0 dd1 dd2 dd3 dd4 dd5 dd6 gg0 gg1 gg2 gg3 gg4 gg5 gg6
      clear hmb hmt hmb2 hmt2
      go_wp2
      refine ret_three Try.underlying30 Try.infoMove rfl rfl rfl rfl rfl (RB.out.1.all7 _ _ _ _ _ _ _).draw rfl ?_
      exact ⟨(bel_all7 RB.out.2.1 (by omega) _ _ _ _ _ _ _).drew, _, _, _, _, _, _, _, rfl, bitsS.mono (rep_draw (rep_all7 RB.out.2.2.2.1 (fun b hb => by have h9 : u4.heap.size ≤ b := hb; omega) _ _ _ _ _ _ _)) (fun b hb _ => by have h9 : u4.heap.size ≤ b := hb; show w.heap.size ≤ b; omega), bagS.mono (rep_draw (rep_all7 RB.out.2.2.1 (fun b hb => by have h9 : u4.heap.size ≤ b := hb; omega) _ _ _ _ _ _ _)) (fun b hb _ => by have h9 : u4.heap.size ≤ b := hb; show w.heap.size ≤ b; omega), bagS.mono (rep_draw (rep_all7 RB.out.2.2.2.2 (fun b hb => by have h9 : w.heap.size + 2 ≤ b := hb; omega) _ _ _ _ _ _ _)) (fun b hb _ => by have h9 : w.heap.size + 2 ≤ b := hb; show w.heap.size ≤ b; omega)⟩
    · skip
      clear d0 d1 d2 d3 d4 d5 d6 g0 g1 g2 g3 g4 g5 g6 dd0 dd1 dd2 dd3 dd4 dd5 dd6 gg0 gg1 gg2 gg3 gg4 gg5 gg6
      clear hmb hmt hmb2 hmt2
      go_wp2
      refine ret_three Try.underlying30 Try.infoMove rfl rfl rfl rfl rfl (RA.out.1.all7 _ _ _ _ _ _ _).draw rfl ?_
      exact ⟨(bel_all7 RA.out.2.1 (by omega) _ _ _ _ _ _ _).drew, _, _, _, _, _, _, _, rfl, bitsS.mono (rep_draw (rep_all7 RA.out.2.2.1 (fun b hb => by have h9 : u4.heap.size ≤ b := hb; omega) _ _ _ _ _ _ _)) (fun b hb _ => by have h9 : u4.heap.size ≤ b := hb; show w.heap.size ≤ b; omega), bagS.mono (rep_draw (rep_all7 RA.out.2.2.2.1 (fun b hb => by have h9 : u4.heap.size ≤ b := hb; omega) _ _ _ _ _ _ _)) (fun b hb _ => by have h9 : u4.heap.size ≤ b := hb; show w.heap.size ≤ b; omega), bagS.mono (rep_draw (rep_all7 RA.out.2.2.2.2 (fun b hb => by have h9 : w.heap.size + 2 ≤ b := hb; omega) _ _ _ _ _ _ _)) (fun b hb _ => by have h9 : w.heap.size + 2 ≤ b := hb; show w.heap.size ≤ b; omega)⟩
    · skip
      clear d0 d1 d2 d3 d4 d5 d6 g0 g1 g2 g3 g4 g5 g6 dd0 dd1 dd2 dd3 dd4 dd5 dd6 gg0 gg1 gg2 gg3 gg4 gg5 gg6
      clear hmb hmt hmb2 hmt2
      go_wp2
      refine ret_three Try.underlying30 Try.infoMove rfl rfl rfl rfl rfl (RA.out.1.all7 _ _ _ _ _ _ _).draw rfl ?_
      exact ⟨(bel_all7 RA.out.2.1 (by omega) _ _ _ _ _ _ _).drew, _, _, _, _, _, _, _, rfl, bitsS.mono (rep_draw (rep_all7 RA.out.2.2.1 (fun b hb => by have h9 : u4.heap.size ≤ b := hb; omega) _ _ _ _ _ _ _)) (fun b hb _ => by have h9 : u4.heap.size ≤ b := hb; show w.heap.size ≤ b; omega), bagS.mono (rep_draw (rep_all7 RA.out.2.2.2.1 (fun b hb => by have h9 : u4.heap.size ≤ b := hb; omega) _ _ _ _ _ _ _)) (fun b hb _ => by have h9 : u4.heap.size ≤ b := hb; show w.heap.size ≤ b; omega), bagS.mono (rep_draw (rep_all7 RA.out.2.2.2.2 (fun b hb => by have h9 : w.heap.size + 2 ≤ b := hb; omega) _ _ _ _ _ _ _)) (fun b hb _ => by have h9 : w.heap.size + 2 ≤ b := hb; show w.heap.size ≤ b; omega)⟩
    · skip
      clear d0 d1 d2 d3 d4 d5 d6 g0 g1 g2 g3 g4 g5 g6 dd0 dd1 dd2 dd3 dd4 dd5 dd6 gg0 gg1 gg2 gg3 gg4 gg5 gg6
      clear hmb hmt hmb2 hmt2
      go_wp2
      refine ret_three Try.underlying30 Try.infoMove rfl rfl rfl rfl rfl (RB.out.1.all7 _ _ _ _ _ _ _).draw rfl ?_
      exact ⟨(bel_all7 RB.out.2.1 (by omega) _ _ _ _ _ _ _).drew, _, _, _, _, _, _, _, rfl, bitsS.mono (rep_draw (rep_all7 RB.out.2.2.2.1 (fun b hb => by have h9 : u4.heap.size ≤ b := hb; omega) _ _ _ _ _ _ _)) (fun b hb _ => by have h9 : u4.heap.size ≤ b := hb; show w.heap.size ≤ b; omega), bagS.mono (rep_draw (rep_all7 RB.out.2.2.1 (fun b hb => by have h9 : u4.heap.size ≤ b := hb; omega) _ _ _ _ _ _ _)) (fun b hb _ => by have h9 : u4.heap.size ≤ b := hb; show w.heap.size ≤ b; omega), bagS.mono (rep_draw (rep_all7 RB.out.2.2.2.2 (fun b hb => by have h9 : w.heap.size + 2 ≤ b := hb; omega) _ _ _ _ _ _ _)) (fun b hb _ => by have h9 : w.heap.size + 2 ≤ b := hb; show w.heap.size ≤ b; omega)⟩
    · skip
      clear d0 d1 d2 d3 d4 d5 d6 g0 g1 g2 g3 g4 g5 g6 dd0 dd1 dd2 dd3 dd4 dd5 dd6 gg0 gg1 gg2 gg3 gg4 gg5 gg6
      clear hmb hmt hmb2 hmt2
      go_wp2
      refine ret_three Try.underlying30 Try.infoMove rfl rfl rfl rfl rfl (RB.out.1.all7 _ _ _ _ _ _ _).draw rfl ?_
      exact ⟨(bel_all7 RB.out.2.1 (by omega) _ _ _ _ _ _ _).drew, _, _, _, _, _, _, _, rfl, bitsS.mono (rep_draw (rep_all7 RB.out.2.2.2.1 (fun b hb => by have h9 : u4.heap.size ≤ b := hb; omega) _ _ _ _ _ _ _)) (fun b hb _ => by have h9 : u4.heap.size ≤ b := hb; show w.heap.size ≤ b; omega), bagS.mono (rep_draw (rep_all7 RB.out.2.2.1 (fun b hb => by have h9 : u4.heap.size ≤ b := hb; omega) _ _ _ _ _ _ _)) (fun b hb _ => by have h9 : u4.heap.size ≤ b := hb; show w.heap.size ≤ b; omega), bagS.mono (rep_draw (rep_all7 RB.out.2.2.2.2 (fun b hb => by have h9 : w.heap.size + 2 ≤ b := hb; omega) _ _ _ _ _ _ _)) (fun b hb _ => by have h9 : w.heap.size + 2 ≤ b := hb; show w.heap.size ≤ b; omega)⟩

end Go.Proofs.Ytpfhjdlmjehfnaa
