/- What the smaller functions of package chunk do when called: numbers in four bytes, rows that are added. -/
import Derived.Test.YtokkhkhipgopbaaWk
import Derived.Test.YtokkhkhipgopbaaCk
import Derived.Test.YtokkhkhipgopbaaExpA
namespace Go.Proofs.Ytokkhkhipgopbaa
open Go.ChangeShapes Go.WideShapes Go.ChangeAt Go.RowKit

set_option maxRecDepth 100000 in
theorem knumberAt (s : ByteArray) (i : Int) (k : Nat) (h : Four s i k) (w : World) : Calls Try.prog 20 #[.string s, .int .i64 i] w fun e w' => e = .returned (.int .i64 (Wx.at4 s.data.toList k : Nat)) ∧ Below w.heap.size w w' := by
  obtain ⟨rfl, hk, hf⟩ := h
  have hm : s.size ≤ 9223372036854775807 := hf
  have g0 : (k : Int) < (s.size : Int) := by omega
  have g1 : ((k : Int) + 1) < (s.size : Int) := by omega
  have g2 : ((k : Int) + 2) < (s.size : Int) := by omega
  have g3 : ((k : Int) + 3) < (s.size : Int) := by omega
  have n1 : 0 ≤ (k : Int) + 1 := by omega
  have n2 : 0 ≤ (k : Int) + 2 := by omega
  have n3 : 0 ≤ (k : Int) + 3 := by omega
  clear hk
  have HE : Hid _ := at4_is s (i := k) (by omega)
  have b0 := (s[k]'(by omega)).toNat_lt
  have b1 := (s[k + 1]'(by omega)).toNat_lt
  have b2 := (s[k + 2]'(by omega)).toNat_lt
  have b3 := (s[k + 3]'(by omega)).toNat_lt
  have o1 := or1 (s[k]'(by omega)) (s[k + 1]'(by omega))
  have o2 := or2 (s[k]'(by omega)) (s[k + 1]'(by omega)) (s[k + 2]'(by omega))
  have o3 := or3 (s[k]'(by omega)) (s[k + 1]'(by omega)) (s[k + 2]'(by omega)) (s[k + 3]'(by omega))
  have hne9 : Nonempty (Later w) := Later.there w
  go_enter Try.func20, Try.ntmps20
  go_wp2
  refine region_later (by kernel_rfl) (by kernel_rfl) ?_
  repeat (go_big_quiet_step (fail))
  refine wpQuiet_nil ?_
  intro x9
  obtain ⟨W9, hb9⟩ := x9
  go_wp2
  go_ret
  exact ⟨ret_int (by rw [HE.out]; omega), hb9⟩

set_option maxRecDepth 100000 in
theorem ksigned (n : Nat) (hn : n < 4294967296) (w : World) : Calls Try.prog 45 #[.int .i64 (n : Int)] w fun e w' => e = .returned (.int .i64 (Wx.sg n)) ∧ w' = w := by
  have HE : Hid (IntKind.i32.wrap (n : Int) = Wx.sg n) := by
    show _ = _
    rw [IntKind.wrap_i32]
    unfold Wx.sg
    split <;> omega
  have h1 : -2147483648 ≤ Wx.sg n := by unfold Wx.sg; split <;> omega
  have h2 : Wx.sg n ≤ 2147483647 := by unfold Wx.sg; split <;> omega
  generalize Wx.sg n = x at *
  have he := HE.out
  go_enter Try.func45, Try.ntmps45
  go_wp2
  go_ret
  exact ⟨rfl, rfl⟩

set_option maxRecDepth 100000 in
theorem kaddNumber (v : Value) (n : Int) (l : List UInt8) (base : Nat) (w : World) (ho : OwnB w base v l) (hb : base ≤ w.heap.size) (hl : l.length ≤ 1000) :
    Calls Try.prog 17 #[v, .int .i64 n] w fun e w' => ∃ v', e = .returned v' ∧ OwnB w' base v' (l ++ Wx.four (Wx.un n)) ∧ Below base w w' := by
  obtain ⟨i0, hi0, hz0, hz1, hz2⟩ := info_parts Try.infoByte
  have hu : n % 4294967296 = (Wx.un n : Nat) := by unfold Wx.un; omega
  have hlt := Wx.un_lt n
  generalize Wx.un n = m at *
  have k0 : (m : Int) % 256 = ((m % 256 : Nat) : Int) := by omega
  have k1 : (m : Int) / 256 % 256 = ((m / 256 % 256 : Nat) : Int) := by omega
  have k2 : (m : Int) / 65536 % 256 = ((m / 65536 % 256 : Nat) : Int) := by omega
  have k3 : (m : Int) / 16777216 = ((m / 16777216 % 256 : Nat) : Int) := by omega
  have HN : Hid ((Wx.four m).map (fun b => Value.int .u8 (b.toNat : Nat)) = [.int .u8 ((m % 256 : Nat) : Int), .int .u8 ((m / 256 % 256 : Nat) : Int), .int .u8 ((m / 65536 % 256 : Nat) : Int), .int .u8 ((m / 16777216 % 256 : Nat) : Int)]) := by
    show _ = _
    unfold Wx.four
    simp only [List.map_cons, List.map_nil]
    rw [toNat_mod, toNat_mod, toNat_mod, toNat_mod]
  have c0 : m % 256 < 256 := by omega
  have c1 : m / 256 % 256 < 256 := by omega
  have c2 : m / 65536 % 256 < 256 := by omega
  have c3 : m / 16777216 % 256 < 256 := by omega
  generalize m % 256 = y0 at *
  generalize m / 256 % 256 = y1 at *
  generalize m / 65536 % 256 = y2 at *
  generalize m / 16777216 % 256 = y3 at *
  have s1 := four_src w y0 y1 y2 y3
  go_enter Try.func17, Try.ntmps17
  go_wp2_with (at_builtin; refine wpList_append_own _ rfl (.tmp 8) (.tmp 20) 50 rfl base 5 i0 (.int .u8 0) 1 1 Try.underlying50 hi0 hz0 hz1 hz2 rfl Nat.one_pos _ _ _ (by rfl) (ho.keep (new_bel w _)) ⟨w.heap.size, 0, none⟩ 4 4 [.int .u8 (y0 : Int), .int .u8 (y1 : Int), .int .u8 (y2 : Int), .int .u8 (y3 : Int)] (by rfl) rfl s1.1 s1.2 (by unfold maxLen; omega) (by omega) (by simp; omega) ?_; intro v5 w5 ho5 hg5 hn5)
  go_ret
  refine ⟨v5, rfl, ?_, ?_⟩
  · unfold OwnB
    rw [List.length_append, Wx.four_len, List.map_append, HN.out]
    exact ho5
  · exact ((Below.refl base w).alloc hb _).grown hg5 (by simp; omega) (fun g hg => (ho.lt g hg).1)

/-! ### Rows -/
theorem flat_le {m : List (List Int)} (h : ∀ r ∈ m, r.length ≤ 8) : m.flatten.length ≤ 8 * m.length := by
  induction m with
  | nil => simp
  | cons r m ih =>
    have h1 := h r (by simp)
    have h2 := ih fun s hs => h s (by simp [hs])
    rw [List.flatten_cons, List.length_append, List.length_cons]
    omega
theorem flat_take_le {m : List (List Int)} (h : ∀ r ∈ m, r.length ≤ 8) (k : Nat) : (Wx.F ((m.take k).flatten.map Wx.un)).length ≤ 32 * k := by
  have h1 := flat_le (m := m.take k) fun r hr => h r (List.mem_of_mem_take hr)
  rw [Wx.F_len, List.length_map]
  have : (m.take k).length ≤ k := by rw [List.length_take]; omega
  omega
theorem F_rows (m : List (List Int)) (k : Nat) (h : k < m.length) : Wx.F ((m.take (k + 1)).flatten.map Wx.un) = Wx.F ((m.take k).flatten.map Wx.un) ++ Wx.F ((m.getD k []).map Wx.un) := by
  rw [Mx.take_row m k h, List.flatten_append, List.flatten_singleton, List.map_append, Wx.F_append]
theorem rep_base {α : Type} {A : Shape α} {w u : World} {base : Nat} {cs : List Value} {x : α} (h : A.rep w (· < base) cs x) (hb : Below base w u) : A.rep u (· < base) cs x := A.keep h fun b h1 _ => hb.block b h1

set_option maxRecDepth 100000 in
theorem kaddRows (v0 : Value) (l : List UInt8) (base : Nat) (a : Option Addr) (n c : Nat) (m : List (List Int)) (w : World) (ho : OwnB w base v0 l) (hb : base ≤ w.heap.size) (hm : matS.rep w (· < base) [.slice a n c] m) (hn : n ≤ 8) (hs : ∀ r ∈ m, r.length ≤ 8) (hl : l.length ≤ 400) :
    Calls Try.prog 18 #[v0, .slice a n c] w fun e w' => ∃ v', e = .returned v' ∧ OwnB w' base v' (l ++ Wx.F (m.flatten.map Wx.un)) ∧ Below base w w' := by
  have HL : Hid (m.length = n) := (sliceS_len hm).1
  have HS : Hid (∀ r ∈ m, r.length ≤ 8) := hs
  have HM : Hid (matS.rep w (· < base) [.slice a n c] m) := hm
  clear hm hs
  go_enter Try.func18, Try.ntmps18
  go_wp2
  go_loopw [0, 11] (fun v i wr => ∃ k : Nat, k ≤ n ∧ i = .int .i64 k ∧ OwnB wr base v (l ++ Wx.F ((m.take k).flatten.map Wx.un)) ∧ Below base w wr ∧ Hid (base ≤ wr.heap.size)) (fun _ i _ => n - (intOf i).toNat)
  case atStart => exact ⟨0, Nat.zero_le _, rfl, by simpa [Wx.F_nil] using ho, Below.refl _ _, hb⟩
  case round =>
    obtain ⟨k, hk, rfl, hown, hbel, HZ⟩ := hrel
    by_cases hlt : k < n
    · have hli : (k : Int) < (n : Int) := by omega
      obtain ⟨b1, o1, A1, C1, rfl, _, c1, r1⟩ := mat_at (rep_base HM.out hbel) hlt
      have HF : Hid _ := F_rows m k (by have := HL.out; omega)
      have h8 : (m.getD k []).length ≤ 8 := HS.out _ (Mx.getD_mem m k (by have := HL.out; omega))
      have HC : Hid ((l ++ Wx.F ((m.take k).flatten.map Wx.un)).length ≤ 700) := by
        show _ ≤ _
        have := flat_take_le HS.out k
        rw [List.length_append]
        omega
      have HG : Hid (l ++ Wx.F ((m.take (k + 1)).flatten.map Wx.un) = l ++ Wx.F ((m.take k).flatten.map Wx.un) ++ Wx.F ((m.getD k []).map Wx.un)) := by
        show _ = _
        rw [HF.out, List.append_assoc]
      clear HF
      generalize m.getD k [] = r at *
      generalize l ++ Wx.F ((m.take k).flatten.map Wx.un) = L at *
      obtain ⟨q, hq⟩ : ∃ q, r.length = q := ⟨_, rfl⟩
      have HQ : Hid (r.length = q) := hq
      rw [hq] at c1 r1 h8
      clear hq
      obtain ⟨W0, hW0⟩ : ∃ W0, W0 = wr := ⟨_, rfl⟩
      subst hW0
      go_wp2
      go_loopw [0, 17] (fun v i wr => ∃ j : Nat, j ≤ q ∧ i = .int .i64 j ∧ OwnB wr base v (L ++ Wx.F ((r.take j).map Wx.un)) ∧ Below base W0 wr ∧ Hid (base ≤ wr.heap.size)) (fun _ i _ => q - (intOf i).toNat)
      case atStart => exact ⟨0, Nat.zero_le _, rfl, by simpa [Wx.F_nil] using hown, Below.refl _ _, HZ⟩
      case round =>
        obtain ⟨j, hj, rfl, hown2, hbel2, HZ2⟩ := hrel
        by_cases hlt2 : j < q
        · have hli2 : (j : Int) < (q : Int) := by omega
          obtain ⟨b2, o2, rfl, _, c2⟩ := (Row.of_rep (rep_base r1 hbel2)).at hlt2
          have HS2 : Hid _ := F_snoc r j (by have := HQ.out; omega)
          have HM2 : Hid _ := F_take_len r j (by have := HQ.out; omega)
          generalize r.getD j 0 = x at *
          go_wp2_with fail
          refine (kaddNumber _ x _ base _ hown2 HZ2.out (by have := HC.out; rw [List.length_append, HM2.out]; omega)).mono ?_
          rintro e u4 ⟨v4, rfl, ho4, hb4⟩
          have HZ4 : Hid (base ≤ u4.heap.size) := Nat.le_trans HZ2.out hb4.size
          go_wp2
          go_roundw
          case rel => exact ⟨j + 1, by omega, by go_num, by rw [HS2.out, ← List.append_assoc]; exact ho4, hbel2.trans hb4, HZ4⟩
          case measure => simp [intOf]; omega
        · have hjq : j = q := by omega
          subst hjq
          have hli2 : ¬ (j : Int) < (j : Int) := by omega
          have HA : Hid (r.take j = r) := List.take_of_length_le (by have := HQ.out; omega)
          rw [HA.out, ← HG.out] at hown2
          have hB2 := hbel.trans hbel2
          go_wp2
          go_roundw
          case rel => exact ⟨k + 1, by omega, by go_num, hown2, hB2, HZ2⟩
          case measure => simp [intOf]; omega
    · have hkn : k = n := by omega
      subst hkn
      have hli : ¬ (k : Int) < (k : Int) := by omega
      have HA : Hid (m.take k = m) := List.take_of_length_le (by have := HL.out; omega)
      rw [HA.out] at hown
      go_wp2
      go_ret
      exact ⟨u0, rfl, by rw [← List.map_flatten]; exact hown, hbel⟩

end Go.Proofs.Ytokkhkhipgopbaa
