/- What the document's at, four, all and Export of layer 16 do when called. -/
import Derived.Test.YtgbcneiciefkkaaChkB
import Derived.Test.YtgbcneiciefkkaaTk
namespace Go.Proofs.Ytgbcneiciefkkaa
open Go.ChangeShapes Go.WideShapes Go.ChangeAt Go.RowKit

theorem krat (s : ByteArray) (i : Int) (k : Nat) (h : Four s i k) (w : World) : Calls Try.prog 31 #[.string s, .int .i64 i] w fun e w' => e = .returned (.int .i64 (Wx.sg (Wx.at4 s.data.toList k))) ∧ Below w.heap.size w w' := by
  obtain ⟨rfl, hk, hf⟩ := h
  have hm : s.size ≤ 9223372036854775807 := hf
  have g0 : (k : Int) < (s.size : Int) := by omega
  have g1 : ((k : Int) + 1) < (s.size : Int) := by omega
  have g2 : ((k : Int) + 2) < (s.size : Int) := by omega
  have g3 : ((k : Int) + 3) < (s.size : Int) := by omega
  have n1 : 0 ≤ (k : Int) + 1 := by omega
  have n2 : 0 ≤ (k : Int) + 2 := by omega
  have n3 : 0 ≤ (k : Int) + 3 := by omega
  clear hk
  have HE : Hid _ := at4_is s (i := k) (by omega)
  have hnl := Wx.at4_lt s.data.toList k
  generalize Wx.at4 s.data.toList k = n at *
  have b0 := (s[k]'(by omega)).toNat_lt
  have b1 := (s[k + 1]'(by omega)).toNat_lt
  have b2 := (s[k + 2]'(by omega)).toNat_lt
  have b3 := (s[k + 3]'(by omega)).toNat_lt
  have HG : Hid (∀ n : Nat, 2147483647 < n → Wx.sg n = (n : Int) - 4294967296) := fun n h => by unfold Wx.sg; rw [if_pos h]
  have HG2 : Hid (∀ n : Nat, ¬ 2147483647 < n → Wx.sg n = (n : Int)) := fun n h => by unfold Wx.sg; rw [if_neg h]
  have hne9 : Nonempty (Later w) := Later.there w
  go_enter Try.func31, Try.ntmps31
  go_wp2
  refine region_later (by kernel_rfl) (by kernel_rfl) ?_
  repeat (go_big_quiet_step (fail))
  refine wpQuiet_nil ?_
  intro x9
  obtain ⟨W9, hb9⟩ := x9
  have hv : ((s[k].toNat : Nat) : Int) + 256 * ((s[k + 1].toNat : Nat) : Int) + 65536 * ((s[k + 2].toNat : Nat) : Int) + 16777216 * ((s[k + 3].toNat : Nat) : Int) = (n : Int) := by rw [HE.out]; omega
  rw [hv]
  clear hv HE
  by_cases hn : 2147483647 < n
  · have hn2 : (2147483647 : Int) < (n : Int) := by omega
    have HR : Hid _ := HG.out n hn
    go_wp2
    go_ret
    exact ⟨ret_int HR.out.symm, hb9⟩
  · have hn2 : ¬ (2147483647 : Int) < (n : Int) := by omega
    have HR : Hid _ := HG2.out n hn
    go_wp2
    go_ret
    exact ⟨ret_int HR.out.symm, hb9⟩

theorem krfour (n : Int) (h0 : -2147483648 ≤ n) (h1 : n < 4294967296) (w : World) : Calls Try.prog 24 #[.int .i64 n] w fun e w' => e = .returned (.string ⟨(Wx.four (Wx.un n)).toArray⟩) ∧ Below w.heap.size w w' := by
  have hm := Wx.un_lt n
  have hback := four_back w (Wx.un n)
  obtain ⟨m, em⟩ : ∃ m, m = Wx.un n := ⟨_, rfl⟩
  rw [← em] at hm hback
  have t0 : (m : Int).tmod 256 = ((m % 256 : Nat) : Int) := by rw [Int.tmod_eq_emod_of_nonneg (by omega)]; rfl
  have d1 : (m : Int).tdiv 256 = ((m / 256 : Nat) : Int) := by rw [Int.tdiv_eq_ediv_of_nonneg (by omega)]; rfl
  have d2 : (m : Int).tdiv 65536 = ((m / 65536 : Nat) : Int) := by rw [Int.tdiv_eq_ediv_of_nonneg (by omega)]; rfl
  have d3 : (m : Int).tdiv 16777216 = ((m / 16777216 : Nat) : Int) := by rw [Int.tdiv_eq_ediv_of_nonneg (by omega)]; rfl
  have t1 : ((m / 256 : Nat) : Int).tmod 256 = ((m / 256 % 256 : Nat) : Int) := by rw [Int.tmod_eq_emod_of_nonneg (by omega)]; rfl
  have t2 : ((m / 65536 : Nat) : Int).tmod 256 = ((m / 65536 % 256 : Nat) : Int) := by rw [Int.tmod_eq_emod_of_nonneg (by omega)]; rfl
  have t3 : ((m / 16777216 : Nat) : Int).tmod 256 = ((m / 16777216 % 256 : Nat) : Int) := by rw [Int.tmod_eq_emod_of_nonneg (by omega)]; rfl
  have c0 : m % 256 < 256 := by omega
  have c1 : m / 256 % 256 < 256 := by omega
  have c2 : m / 65536 % 256 < 256 := by omega
  have c3 : m / 16777216 % 256 < 256 := by omega
  have b1 : m / 256 < 4294967296 := by omega
  have b2 : m / 65536 < 4294967296 := by omega
  have b3 : m / 16777216 < 4294967296 := by omega
  rw [← em]
  by_cases hn : n < 0
  · have e : n + 4294967296 = (m : Int) := by rw [em]; unfold Wx.un; omega
    clear em
    generalize m % 256 = y0 at *
    generalize m / 256 % 256 = y1 at *
    generalize m / 65536 % 256 = y2 at *
    generalize m / 16777216 % 256 = y3 at *
    generalize m / 256 = z1 at *
    generalize m / 65536 = z2 at *
    generalize m / 16777216 = z3 at *
    go_enter Try.func24, Try.ntmps24
    go_wp2
    go_ret
    exact ⟨rfl, new_bel _ _⟩
  · have e : n = (m : Int) := by rw [em]; unfold Wx.un; omega
    clear em
    subst e
    generalize m % 256 = y0 at *
    generalize m / 256 % 256 = y1 at *
    generalize m / 65536 % 256 = y2 at *
    generalize m / 16777216 % 256 = y3 at *
    generalize m / 256 = z1 at *
    generalize m / 65536 = z2 at *
    generalize m / 16777216 = z3 at *
    go_enter Try.func24, Try.ntmps24
    go_wp2
    go_ret
    exact ⟨rfl, new_bel _ _⟩


theorem krall (a : Option Addr) (n c : Nat) (m : List (List Int)) (w : World) (hm : matS.rep w everywhere [.slice a n c] m) (hn : n ≤ 8) (hs : ∀ r ∈ m, r.length ≤ 8) (hh : ∀ r ∈ m, ∀ x ∈ r, -2147483648 ≤ x ∧ x ≤ 2147483647) :
    Calls Try.prog 25 #[.slice a n c] w fun e w' => e = .returned (.string ⟨(Wx.F (m.flatten.map Wx.un)).toArray⟩) ∧ Below w.heap.size w w' := by
  have HL : Hid (m.length = n) := (sliceS_len hm).1
  have HS : Hid (∀ r ∈ m, r.length ≤ 8) := hs
  have HH : Hid (∀ r ∈ m, ∀ x ∈ r, -2147483648 ≤ x ∧ x ≤ 2147483647) := hh
  have HM : Hid (matS.rep w everywhere [.slice a n c] m) := hm
  obtain ⟨T, HT⟩ : ∃ T, Hid ((⟨(Wx.F (m.flatten.map Wx.un)).toArray⟩ : ByteArray) = T) := ⟨_, rfl⟩
  rw [HT.out]
  clear hm hs hh
  go_enter Try.func25, Try.ntmps25
  go_wp2
  go_loopw [3, 4] (fun v i wr => ∃ k : Nat, k ≤ n ∧ i = .int .i64 k ∧ v = .string ⟨(Wx.F ((m.take k).flatten.map Wx.un)).toArray⟩ ∧ Below w.heap.size w wr) (fun _ i _ => n - (intOf i).toNat)
  case atStart => exact ⟨0, Nat.zero_le _, rfl, rfl, Below.refl _ _⟩
  case round =>
    obtain ⟨k, hk, rfl, rfl, hbel⟩ := hrel
    by_cases hlt : k < n
    · have hli : (k : Int) < (n : Int) := by omega
      obtain ⟨b1, o1, A1, C1, rfl, _, c1, r1⟩ := mat_at (Shape.below HM.out hbel) hlt
      have HF : Hid _ := F_rows m k (by have := HL.out; omega)
      have h8 : (m.getD k []).length ≤ 8 := HS.out _ (Mx.getD_mem m k (by have := HL.out; omega))
      have HX : Hid (∀ x ∈ m.getD k [], -2147483648 ≤ x ∧ x ≤ 2147483647) := HH.out _ (Mx.getD_mem m k (by have := HL.out; omega))
      have HC : Hid _ := flat_take_le HS.out k
      generalize Wx.F ((m.take k).flatten.map Wx.un) = L at *
      generalize m.getD k [] = r at *
      obtain ⟨q, hq⟩ : ∃ q, r.length = q := ⟨_, rfl⟩
      have HQ : Hid (r.length = q) := hq
      rw [hq] at c1 r1 h8
      clear hq
      obtain ⟨W0, hW0⟩ : ∃ W0, W0 = wr := ⟨_, rfl⟩
      subst hW0
      go_wp2
      go_loopw [3, 5] (fun v i wr => ∃ j : Nat, j ≤ q ∧ i = .int .i64 j ∧ v = .string ⟨(L ++ Wx.F ((r.take j).map Wx.un)).toArray⟩ ∧ Below W0.heap.size W0 wr) (fun _ i _ => q - (intOf i).toNat)
      case atStart => exact ⟨0, Nat.zero_le _, rfl, by simp [Wx.F_nil], Below.refl _ _⟩
      case round =>
        obtain ⟨j, hj, rfl, rfl, hbel2⟩ := hrel
        have c2 := (hbel2.cell (World.block_lt_of_cell? _ _ c1)).trans c1
        by_cases hlt2 : j < q
        · have hli2 : (j : Int) < (q : Int) := by omega
          obtain ⟨b2, o2, rfl, _, c3⟩ := (Row.of_rep (Shape.below r1 hbel2)).at hlt2
          have HS2 : Hid _ := F_snoc r j (by have := HQ.out; omega)
          have HM2 : Hid _ := F_take_len r j (by have := HQ.out; omega)
          obtain ⟨g2, g3⟩ := HX.out _ (Mx.num_mem r j (by have := HQ.out; omega))
          generalize r.getD j 0 = x at *
          have HD : Hid _ := bcat (L ++ Wx.F ((r.take j).map Wx.un)) (Wx.four (Wx.un x))
          rw [List.append_assoc, ← HS2.out] at HD
          have z1 := bsize (L ++ Wx.F ((r.take j).map Wx.un))
          have z2 := bsize (Wx.four (Wx.un x))
          rw [List.length_append, HM2.out] at z1
          rw [Wx.four_len] at z2
          have HV : Hid _ := krfour x g2 (by omega)
          have HCL := HC.out
          generalize (⟨(Wx.four (Wx.un x)).toArray⟩ : ByteArray) = Q at *
          generalize (⟨(L ++ Wx.F ((r.take j).map Wx.un)).toArray⟩ : ByteArray) = D at *
          have hcat : ¬ (9223372036854775807 < D.size + Q.size) := by omega
          clear c1
          go_wp2_with fail
          refine (HV.out _).mono ?_
          rintro e u3 ⟨rfl, hb3⟩
          have hbel3 := bel_then hbel2 hb3
          go_wp2
          go_roundw
          case rel => exact ⟨j + 1, by omega, by go_num, by rw [HD.out], hbel3⟩
          case measure => simp [intOf]; omega
        · have hjq : j = q := by omega
          subst hjq
          have hli2 : ¬ (j : Int) < (j : Int) := by omega
          have HA : Hid (L ++ Wx.F ((r.take j).map Wx.un) = Wx.F ((m.take (k + 1)).flatten.map Wx.un)) := by show _ = _; rw [List.take_of_length_le (by have := HQ.out; omega), ← HF.out]
          rw [HA.out]
          have hB2 := bel_then hbel hbel2
          clear c1
          go_wp2
          go_roundw
          case rel => exact ⟨k + 1, by omega, by go_num, by trivial, hB2⟩
          case measure => simp [intOf]; omega
    · have hkn : k = n := by omega
      subst hkn
      have hli : ¬ (k : Int) < (k : Int) := by omega
      have HA : Hid ((⟨(Wx.F ((m.take k).flatten.map Wx.un)).toArray⟩ : ByteArray) = T) := by show _ = _; rw [List.take_of_length_le (by have := HL.out; omega), HT.out]
      rw [HA.out]
      go_wp2
      go_ret
      exact ⟨rfl, hbel⟩

end Go.Proofs.Ytgbcneiciefkkaa
