/- What the document's Join, Same and Piece of layer 22 do when called. -/
import Derived.Test.YtpfhjdlmjehfnaaMvA
import Derived.Test.YtpfhjdlmjehfnaaCrcA
import Derived.Test.YtpfhjdlmjehfnaaBagC
namespace Go.Proofs.Ytpfhjdlmjehfnaa
open Go.ChangeShapes Go.WideShapes Go.ChangeAt Go.RowKit


/-! ### Join -/
theorem Mq.all_to (G : List ByteArray) {k : Nat} (h : k < G.length) : Mq.all (G.take (k + 1)) = Mq.all (G.take k) ++ (G.getD k noText).data.toList := by
  unfold Mq.all
  rw [Bx.take_text G k h, List.map_append, List.flatten_append]
  simp
set_option maxRecDepth 100000 in
theorem rjoin (a : Option Addr) (n c : Nat) (G : List ByteArray) (S : ByteArray) (w : World) (h : bagS.rep w everywhere [.slice a n c] G) (hl : (Mq.all G).length ≤ 100000) (hn : n ≤ 1000) (hS : (⟨(Mq.all G).toArray⟩ : ByteArray) = S) :
    Calls Try.prog 21 #[.slice a n c] w fun r w' => r = .returned (.string S) ∧ Below w.heap.size w w' := by
  have HL := hidL (sliceS_len h).1
  have HT := hidL (Texts.of_rep h)
  have HS := hidL hS
  have HK : Hid (∀ k, k ≤ n → (Mq.all (G.take k)).length ≤ 100000) := fun k _ => by
    refine Nat.le_trans ?_ hl
    have h9 : Mq.all G = Mq.all (G.take k) ++ Mq.all (G.drop k) := by
      unfold Mq.all
      rw [← List.flatten_append, ← List.map_append, List.take_append_drop]
    rw [h9, List.length_append]
    omega
  clear h hl hS
  go_enter Try.func21, Try.ntmps21
  go_wp2
  go_loopw [3, 4] (fun v i wr => ∃ k : Nat, ∃ T : ByteArray, k ≤ n ∧ i = .int .i64 k ∧ v = .string T ∧ Hid ((⟨(Mq.all (G.take k)).toArray⟩ : ByteArray) = T) ∧ wr = w) (fun _ i _ => n - (intOf i).toNat)
  case atStart => exact ⟨0, _, Nat.zero_le _, rfl, rfl, rfl, rfl⟩
  case round =>
    obtain ⟨k, T, hk, rfl, rfl, HE, hww⟩ := hrel
    replace hww := hww.symm
    subst hww
    by_cases hlt : k < n
    · obtain ⟨b1, o1, rfl, hb1, hc⟩ := HT.out.at hlt
      have hli : (k : Int) < (n : Int) := by omega
      have hs1 := HK.out k (by omega)
      have hs2 := HK.out (k + 1) (by omega)
      have e9 := Mq.all_to G (k := k) (by have := HL.out; omega)
      obtain ⟨z, hz⟩ : ∃ z, G.getD k noText = z := ⟨_, rfl⟩
      rw [hz] at e9 hc
      have hT2 : (⟨(Mq.all (G.take (k + 1))).toArray⟩ : ByteArray) = T ++ z := by
        rw [e9, ← HE.out]
        have e8 : z = ⟨z.data.toList.toArray⟩ := by cases z; simp
        conv => rhs; rw [e8]
        rw [bcat]
      have hsz : ¬ (9223372036854775807 < T.size + z.size) := by
        rw [e9, List.length_append] at hs2
        have h7 : T.size = (Mq.all (G.take k)).length := by rw [← HE.out, bsize]
        have h8 : z.data.toList.length = z.size := list_size z
        omega
      have HT2 := hidL hT2
      clear hs1 hs2 e9 hz hT2
      go_wp2
      go_roundw
      case rel => exact ⟨k + 1, T ++ z, by omega, by go_num, rfl, HT2.out, (by trivial)⟩
      case measure => simp [intOf]; omega
    · have hkn : k = n := by omega
      subst hkn
      have hli : ¬ (k : Int) < (k : Int) := by omega
      obtain rfl : T = S := by
        have h9 := HE.out
        rw [List.take_of_length_le (by have := HL.out; omega), HS.out] at h9
        exact h9.symm
      go_wp2
      go_ret
      exact ⟨rfl, Below.refl _ _⟩

/-! ### Same -/
set_option maxRecDepth 100000 in
set_option maxHeartbeats 2000000 in
theorem msame (x f t p s : Int) (ha : Option Addr) (hn hc : Nat) (ga : Option Addr) (gn gc : Nat) (H : List Bool) (G : List ByteArray) (hb : Option Addr) (hbc : Nat) (gb : Option Addr) (gbc : Nat) (w : World) (hH : bitsS.rep w everywhere [.slice ha hn hc] H) (hG : bagS.rep w everywhere [.slice ga gn gc] G) (hH2 : bitsS.rep w everywhere [.slice hb hn hbc] H) (hG2 : bagS.rep w everywhere [.slice gb gn gbc] G) (hn1 : hn ≤ 100000) (gn1 : gn ≤ 100000) :
    Calls Try.prog 14 #[.agg #[.int .i64 x, .int .i64 f, .int .i64 t, .int .i64 p, .int .i64 s, .slice ha hn hc, .slice ga gn gc], .agg #[.int .i64 x, .int .i64 f, .int .i64 t, .int .i64 p, .int .i64 s, .slice hb hn hbc, .slice gb gn gbc]] w fun r w' => r = .returned (.bool true) ∧ Below w.heap.size w w' := by
  have hB := bel_two w (.cells #[.int .i64 x, .int .i64 f, .int .i64 t, .int .i64 p, .int .i64 s, .slice ha hn hc, .slice ga gn gc] 34) (.cells #[.int .i64 x, .int .i64 f, .int .i64 t, .int .i64 p, .int .i64 s, .slice hb hn hbc, .slice gb gn gbc] 34)
  have kp := (Box.new w 34 #[.int .i64 x, .int .i64 f, .int .i64 t, .int .i64 p, .int .i64 s, .slice ha hn hc, .slice ga gn gc]).keep (new_bel _ (.cells #[.int .i64 x, .int .i64 f, .int .i64 t, .int .i64 p, .int .i64 s, .slice hb hn hbc, .slice gb gn gbc] 34))
  have kr := Box.new (w.alloc (.cells #[.int .i64 x, .int .i64 f, .int .i64 t, .int .i64 p, .int .i64 s, .slice ha hn hc, .slice ga gn gc] 34)) 34 #[.int .i64 x, .int .i64 f, .int .i64 t, .int .i64 p, .int .i64 s, .slice hb hn hbc, .slice gb gn gbc]
  have e1 : (w.alloc (.cells #[.int .i64 x, .int .i64 f, .int .i64 t, .int .i64 p, .int .i64 s, .slice ha hn hc, .slice ga gn gc] 34)).heap.size = w.heap.size + 1 := by simp
  rw [e1] at kr
  have HHW : Hid (∀ u, Below w.heap.size w u → bitsS.rep u everywhere [.slice ha hn hc] H) := fun u hu => Shape.below hH hu
  have HGW : Hid (∀ u, Below w.heap.size w u → bagS.rep u everywhere [.slice ga gn gc] G) := fun u hu => Shape.below hG hu
  have HHV : Hid (∀ u, Below w.heap.size w u → bitsS.rep u everywhere [.slice hb hn hbc] H) := fun u hu => Shape.below hH2 hu
  have HGV : Hid (∀ u, Below w.heap.size w u → bagS.rep u everywhere [.slice gb gn gbc] G) := fun u hu => Shape.below hG2 hu
  have b0 : (x != x) = false := by simp
  have b1 : (f != f) = false := by simp
  have b2 : (t != t) = false := by simp
  have b3 : (p != p) = false := by simp
  have b4 : (s != s) = false := by simp
  have b5 : ((hn : Int) != (hn : Int)) = false := by simp
  have b6 : ((gn : Int) != (gn : Int)) = false := by simp
  clear hH hG hH2 hG2 e1
  go_enter Try.func14, Try.ntmps14
  go_upto_region 1 with fail
  generalize (w.alloc (.cells #[.int .i64 x, .int .i64 f, .int .i64 t, .int .i64 p, .int .i64 s, .slice ha hn hc, .slice ga gn gc] 34)).alloc (.cells #[.int .i64 x, .int .i64 f, .int .i64 t, .int .i64 p, .int .i64 s, .slice hb hn hbc, .slice gb gn gbc] 34) = W at *
  have c0 := kp.cell 0 rfl; have c1 := kp.cell 1 rfl; have c2 := kp.cell 2 rfl; have c3 := kp.cell 3 rfl; have c4 := kp.cell 4 rfl; have c5 := kp.cell 5 rfl; have c6 := kp.cell 6 rfl
  have d0 := kr.cell 0 rfl; have d1 := kr.cell 1 rfl; have d2 := kr.cell 2 rfl; have d3 := kr.cell 3 rfl; have d4 := kr.cell 4 rfl; have d5 := kr.cell 5 rfl; have d6 := kr.cell 6 rfl
  go_wp2
  clear c0 c1 c2 c3 c4 c5 c6 d0 d1 d2 d3 d4 d5 d6 b0 b1 b2 b3 b4 b5 b6
  go_loopw [5] (fun i wr => ∃ k : Nat, k ≤ hn ∧ i = .int .i64 k ∧ Below w.heap.size w wr ∧ Box wr w.heap.size 34 #[.int .i64 x, .int .i64 f, .int .i64 t, .int .i64 p, .int .i64 s, .slice ha hn hc, .slice ga gn gc] ∧ Box wr (w.heap.size + 1) 34 #[.int .i64 x, .int .i64 f, .int .i64 t, .int .i64 p, .int .i64 s, .slice hb hn hbc, .slice gb gn gbc]) (fun i _ => hn - (intOf i).toNat)
  case atStart => exact ⟨0, Nat.zero_le _, rfl, hB, kp, kr⟩
  case round =>
    clear kp kr hB
    obtain ⟨k, hk, rfl, hbel, kp, kr⟩ := hrel
    have c5 := kp.cell 5 rfl
    have d5 := kr.cell 5 rfl
    by_cases hlt : k < hn
    · have hli : (k : Int) < (hn : Int) := by omega
      obtain ⟨b1, o1, rfl, _, hb1, hc1⟩ := bit_at (HHW.out _ hbel) hlt
      obtain ⟨b2, o2, rfl, _, hb2, hc2⟩ := bit_at (HHV.out _ hbel) hlt
      generalize H.getD k false = z at *
      have q : (z != z) = false := by simp
      have hk0 : (0 : Int) ≤ (k : Int) := by omega
      go_wp2
      go_quiet (fail)
      go_wp2
      go_roundw
      case rel => exact ⟨k + 1, by omega, by go_num, bel_drewN hbel _, kp.keep (bel_drewN (Below.refl _ _) _), kr.keep (bel_drewN (Below.refl _ _) _)⟩
      case measure => simp [intOf]; omega
    · have hli : ¬ (k : Int) < (hn : Int) := by omega
      go_wp2
      clear c5 d5 hli
      obtain ⟨W0, hW0⟩ : ∃ W0, W0 = wr := ⟨_, rfl⟩
      subst hW0
      go_loopw [6] (fun i wr => ∃ k : Nat, k ≤ gn ∧ i = .int .i64 k ∧ Below w.heap.size w wr ∧ Box wr w.heap.size 34 #[.int .i64 x, .int .i64 f, .int .i64 t, .int .i64 p, .int .i64 s, .slice ha hn hc, .slice ga gn gc] ∧ Box wr (w.heap.size + 1) 34 #[.int .i64 x, .int .i64 f, .int .i64 t, .int .i64 p, .int .i64 s, .slice hb hn hbc, .slice gb gn gbc]) (fun i _ => gn - (intOf i).toNat)
      case atStart => exact ⟨0, Nat.zero_le _, rfl, hbel, kp, kr⟩
      case round =>
        clear kp kr hbel
        obtain ⟨j, hj, rfl, hbel, kp, kr⟩ := hrel
        have c6 := kp.cell 6 rfl
        have d6 := kr.cell 6 rfl
        by_cases hlt : j < gn
        · have hli : (j : Int) < (gn : Int) := by omega
          obtain ⟨b1, o1, rfl, hb1, hc1⟩ := (Texts.of_rep (HGW.out _ hbel)).at hlt
          obtain ⟨b2, o2, rfl, hb2, hc2⟩ := (Texts.of_rep (HGV.out _ hbel)).at hlt
          generalize G.getD j noText = z at *
          have q : (z.toList == z.toList) = true := text_eq rfl
          have hk0 : (0 : Int) ≤ (j : Int) := by omega
          go_wp2
          go_quiet (fail)
          go_wp2
          go_roundw
          case rel => exact ⟨j + 1, by omega, by go_num, bel_drewN hbel _, kp.keep (bel_drewN (Below.refl _ _) _), kr.keep (bel_drewN (Below.refl _ _) _)⟩
          case measure => simp [intOf]; omega
        · have hli : ¬ (j : Int) < (gn : Int) := by omega
          go_wp2
          go_ret
          exact ⟨rfl, hbel⟩

/-! ### Piece -/
/-- The first k, the one at j among them set anew. -/
theorem Mq.set_to {α : Type} (l : List α) (j k : Nat) (x : α) (hj : k < l.length) (d : α) : (l.set j x).take (k + 1) = (l.set j x).take k ++ [if k = j then x else l.getD k d] := by
  rw [List.take_succ_eq_append_getElem (by rw [List.length_set]; exact hj), List.getElem_set]
  congr 2
  by_cases h : k = j
  · rw [if_pos h, if_pos h.symm]
  · rw [if_neg h, if_neg (fun e => h e.symm), List.getD_eq_getElem?_getD, List.getElem?_eq_getElem hj]
    rfl

/-! ### Slices that grow side by side (no program in sight) -/
def Apart (v1 v2 : Value) : Prop := ∀ b, v1.ownBlock = some b → v2.ownBlock ≠ some b
theorem Apart.symm {v1 v2 : Value} (h : Apart v1 v2) : Apart v2 v1 := fun b h1 h2 => h b h2 h1
theorem Apart.none (v : Value) {n c : Nat} : Apart (.slice none n c) v := fun b h => by cases h
theorem Apart.grow {v1 v2 v1' : Value} (h : Apart v1 v2) {N : Nat} (hlt : ∀ b, v2.ownBlock = some b → b < N) (hat : v1'.ownBlock = v1.ownBlock ∨ v1'.ownBlock = some N) : Apart v1' v2 := fun b hb h2 => by
  rcases hat with h9 | h9
  · exact h b (h9 ▸ hb) h2
  · rw [h9] at hb
    have := hlt b h2
    have := Option.some.inj hb
    omega
theorem Own.beside {α : Type} {A : Shape α} {w u : World} {base : Nat} {e : TypeId} {v1 v2 : Value} {xs : List α} (hf : Plain A) (h : Own A w base e v2 xs) (ha : Apart v1 v2) (hg : w.grownBy u v1.ownBlock) : Own A u base e v2 xs := h.still hf hg fun b hb h9 => ha b h9 hb
theorem Own.past {α : Type} {A : Shape α} {w : World} {base : Nat} {e : TypeId} {v : Value} {xs : List α} (hf : Plain A) (h : Own A w base e v xs) {M : Nat} (hM : M < base) (i : Nat) (x : Value) : Own A (w.setCell ⟨M, i, none⟩ x) base e v xs := h.still hf (grown_set w M i x) fun b hb h9 => by have := (h.lt b hb).1; have := Option.some.inj h9; omega
theorem Own.past7 {α : Type} {A : Shape α} {w : World} {base : Nat} {e : TypeId} {v : Value} {xs : List α} (hf : Plain A) (h : Own A w base e v xs) {M : Nat} (hM : M < base) (v0 v1 v2 v3 v4 v5 v6 : Value) : Own A (((((((w.setCell ⟨M, 0, none⟩ v0).setCell ⟨M, 1, none⟩ v1).setCell ⟨M, 2, none⟩ v2).setCell ⟨M, 3, none⟩ v3).setCell ⟨M, 4, none⟩ v4).setCell ⟨M, 5, none⟩ v5).setCell ⟨M, 6, none⟩ v6) base e v xs := h.still hf (grown_all7 w M v0 v1 v2 v3 v4 v5 v6) fun b hb h9 => by have := (h.lt b hb).1; have := Option.some.inj h9; omega


end Go.Proofs.Ytpfhjdlmjehfnaa
