/- What shell's number, numbersOf and told do when called. -/
import Derived.Test.YtokfcjgfpchffaaGreatDoorShA
import Derived.Test.YtokfcjgfpchffaaGreatDoorKx
namespace Go.Proofs.YtokfcjgfpchffaaGreatDoor
open Go.ChangeShapes Go.WideShapes Go.ChangeAt Go.RowKit

/-- Few digits. -/
theorem Sh.dig_short : ∀ (k n : Nat), n < 10 ^ (k + 1) → (Sh.dig n).length ≤ k + 1
  | 0, n, h => by rw [Sh.dig_low (by omega)]; exact Nat.le_refl _
  | k + 1, n, h => by
    by_cases h9 : n ≤ 9
    · rw [Sh.dig_low h9]; show 1 ≤ _; omega
    · rw [Sh.dig_high h9, List.length_append]
      have h1 := Sh.dig_short k (n / 10) (by rw [Nat.pow_succ] at h; omega)
      show _ + 1 ≤ _
      omega
set_option maxRecDepth 100000 in
set_option maxHeartbeats 4000000 in
theorem pnumber (s : ByteArray) (hs : s.size ≤ 1000000) (v : Nat) (b : Bool) (hy : Sh.Num s.data.toList → b = true ∧ v = Sh.val s.data.toList) (hno : ¬ Sh.Num s.data.toList → b = false ∧ v = 0) (w : World) :
    Calls Tryz.prog 108 #[.string s] w fun e w' => e = .returned (.tuple #[.int .i64 (v : Nat), .bool b]) ∧ w' = w := by
  have HYE : Hid _ := hy
  have HNO : Hid _ := hno
  clear hy hno
  have HSZ : Hid (s.data.toList.length = s.size) := list_size s
  go_enter Tryz.func108, Tryz.ntmps108
  by_cases h0 : s.size = 0
  · have HN : Hid (¬ Sh.Num s.data.toList) := fun h => h.1 (List.eq_nil_of_length_eq_zero (by rw [HSZ.out]; exact h0))
    have e0 : (s.toList == ([] : List UInt8)) = true := str_none h0
    go_wp2
    go_ret2
    obtain ⟨e1, e2⟩ := HNO.out (HN.out)
    subst e1 e2
    exact ⟨rfl, rfl⟩
  · have e0 : (s.toList == ([] : List UInt8)) = false := str_some h0
    have hp : 0 < s.size := by omega
    have hpi : (0 : Int) < (s.size : Int) := by omega
    by_cases h9 : 9 < s.size
    · have HN : Hid (¬ Sh.Num s.data.toList) := fun h => by have := h.2.1; have := HSZ.out; omega
      have e9 : (9 : Int) < (s.size : Int) := by omega
      go_wp2
      go_ret2
      obtain ⟨e1, e2⟩ := HNO.out (HN.out)
      subst e1 e2
      exact ⟨rfl, rfl⟩
    · have e9 : ¬ (9 : Int) < (s.size : Int) := by omega
      have HG : Hid (s.data.toList.getD 0 0 = s[0]) := by
        show _ = _
        rw [List.getD_eq_getElem?_getD, List.getElem?_eq_getElem (by rw [list_size]; exact hp)]
        rfl
      by_cases h1 : 1 < s.size
      · have e1 : (1 : Int) < (s.size : Int) := by omega
        by_cases hc : s[0] = 48
        · have q0 : (((s[0]).toNat : Int) == 48) = true := by rw [hc]; rfl
          have HN : Hid (¬ Sh.Num s.data.toList) := fun h => by
            rcases h.2.2.1 with h8 | h8
            · have := HSZ.out; omega
            · exact h8 (HG.out.trans hc)
          go_wp2
          go_ret2
          obtain ⟨e1, e2⟩ := HNO.out (HN.out)
          subst e1 e2
          exact ⟨rfl, rfl⟩
        · have q0 : (((s[0]).toNat : Int) == 48) = false := by
            have h8 : ¬ (s[0]).toNat = 48 := fun h => hc (UInt8.toNat_inj.1 h)
            rw [beq_eq_false_iff_ne]
            omega
          have HL1 : Hid (s.data.toList.length = 1 ∨ s.data.toList.getD 0 0 ≠ 48) := .inr (by rw [HG.out]; exact hc)
          go_wp2
          go_loopw [4, 25] (fun v i wr => ∃ (k : Nat), k ≤ s.size ∧ i = .int .i64 k ∧ v = .int .i64 (Sh.val (s.data.toList.take k) : Nat) ∧ (∀ x ∈ s.data.toList.take k, Sh.isDig x) ∧ wr = w) (fun _ i _ => s.size - (intOf i).toNat)
          case atStart => exact ⟨0, by omega, rfl, rfl, by simp, rfl⟩
          case round =>
            obtain ⟨k, hk, rfl, rfl, hd, hww⟩ := hrel
            replace hww := hww.symm
            subst hww
            have hv : Sh.val (s.data.toList.take k) < 1000000000 := by
              have h1 := Sh.val_lt hd
              have h2 : (10 : Nat) ^ (s.data.toList.take k).length ≤ 10 ^ 9 := Nat.pow_le_pow_right (by omega) (by rw [List.length_take]; omega)
              have h3 : (10 : Nat) ^ 9 = 1000000000 := rfl
              omega
            by_cases hlt : k < s.size
            · have hli : (k : Int) < (s.size : Int) := by omega
              have hz : (0 : Int) ≤ (k : Int) := by omega
              have HS : Hid (Sh.val (s.data.toList.take (k + 1)) = 10 * Sh.val (s.data.toList.take k) + ((s[k]).toNat - 48)) := Sh.val_step s hlt
              have HM : Hid (s[k] ∈ s.data.toList) := Sh.at_mem s hlt
              have HDD : Hid (Sh.isDig (s[k]) → ∀ x ∈ s.data.toList.take (k + 1), Sh.isDig x) := Sh.dig_step s hlt hd
              have hb := (s[k]).toNat_lt
              clear hd
              generalize Sh.val (s.data.toList.take k) = x at *
              by_cases q1 : (s[k]).toNat < 48
              · have q2 : ((s[k]).toNat : Int) < 48 := by omega
                go_wp2
                go_ret2
                obtain ⟨e1, e2⟩ := HNO.out (fun h => by have h9 := (h.2.2.2 _ HM.out).1; omega)
                subst e1 e2
                exact ⟨rfl, rfl⟩
              · have q2 : ¬ ((s[k]).toNat : Int) < 48 := by omega
                by_cases q3 : 57 < (s[k]).toNat
                · have q4 : (57 : Int) < ((s[k]).toNat : Int) := by omega
                  go_wp2
                  go_ret2
                  obtain ⟨e1, e2⟩ := HNO.out (fun h => by have h9 := (h.2.2.2 _ HM.out).2; omega)
                  subst e1 e2
                  exact ⟨rfl, rfl⟩
                · have q4 : ¬ (57 : Int) < ((s[k]).toNat : Int) := by omega
                  have HD2 : Hid (∀ x ∈ s.data.toList.take (k + 1), Sh.isDig x) := HDD.out ⟨by omega, by omega⟩
                  go_wp2
                  go_roundw
                  case rel => exact ⟨k + 1, by omega, by go_num, by rw [HS.out]; go_num, HD2.out, by trivial⟩
                  case measure => first | (simp [intOf]; done) | (simp [intOf]; omega)
            · have hkn : k = s.size := by omega
              subst hkn
              have hall : s.data.toList.take s.size = s.data.toList := List.take_of_length_le (by rw [HSZ.out]; exact Nat.le_refl _)
              rw [hall] at hd hv ⊢
              have HNUM : Hid (Sh.Num s.data.toList) := ⟨fun h => by have h9 := HSZ.out; rw [h] at h9; have h8 : 0 = s.size := h9; omega, by rw [HSZ.out]; omega, HL1.out, hd⟩
              clear hd hall
              go_wp2
              go_ret2
              obtain ⟨e1, e2⟩ := HYE.out HNUM.out
              subst e1 e2
              exact ⟨rfl, rfl⟩
      · have e1 : ¬ (1 : Int) < (s.size : Int) := by omega
        have HL1 : Hid (s.data.toList.length = 1 ∨ s.data.toList.getD 0 0 ≠ 48) := .inl (by have := HSZ.out; omega)
        go_wp2
        go_loopw [4, 25] (fun v i wr => ∃ (k : Nat), k ≤ s.size ∧ i = .int .i64 k ∧ v = .int .i64 (Sh.val (s.data.toList.take k) : Nat) ∧ (∀ x ∈ s.data.toList.take k, Sh.isDig x) ∧ wr = w) (fun _ i _ => s.size - (intOf i).toNat)
        case atStart => exact ⟨0, by omega, rfl, rfl, by simp, rfl⟩
        case round =>
          obtain ⟨k, hk, rfl, rfl, hd, hww⟩ := hrel
          replace hww := hww.symm
          subst hww
          have hv : Sh.val (s.data.toList.take k) < 1000000000 := by
            have h1 := Sh.val_lt hd
            have h2 : (10 : Nat) ^ (s.data.toList.take k).length ≤ 10 ^ 9 := Nat.pow_le_pow_right (by omega) (by rw [List.length_take]; omega)
            have h3 : (10 : Nat) ^ 9 = 1000000000 := rfl
            omega
          by_cases hlt : k < s.size
          · have hli : (k : Int) < (s.size : Int) := by omega
            have hz : (0 : Int) ≤ (k : Int) := by omega
            have HS : Hid (Sh.val (s.data.toList.take (k + 1)) = 10 * Sh.val (s.data.toList.take k) + ((s[k]).toNat - 48)) := Sh.val_step s hlt
            have HM : Hid (s[k] ∈ s.data.toList) := Sh.at_mem s hlt
            have HDD : Hid (Sh.isDig (s[k]) → ∀ x ∈ s.data.toList.take (k + 1), Sh.isDig x) := Sh.dig_step s hlt hd
            have hb := (s[k]).toNat_lt
            clear hd
            generalize Sh.val (s.data.toList.take k) = x at *
            by_cases q1 : (s[k]).toNat < 48
            · have q2 : ((s[k]).toNat : Int) < 48 := by omega
              go_wp2
              go_ret2
              obtain ⟨e1, e2⟩ := HNO.out (fun h => by have h9 := (h.2.2.2 _ HM.out).1; omega)
              subst e1 e2
              exact ⟨rfl, rfl⟩
            · have q2 : ¬ ((s[k]).toNat : Int) < 48 := by omega
              by_cases q3 : 57 < (s[k]).toNat
              · have q4 : (57 : Int) < ((s[k]).toNat : Int) := by omega
                go_wp2
                go_ret2
                obtain ⟨e1, e2⟩ := HNO.out (fun h => by have h9 := (h.2.2.2 _ HM.out).2; omega)
                subst e1 e2
                exact ⟨rfl, rfl⟩
              · have q4 : ¬ (57 : Int) < ((s[k]).toNat : Int) := by omega
                have HD2 : Hid (∀ x ∈ s.data.toList.take (k + 1), Sh.isDig x) := HDD.out ⟨by omega, by omega⟩
                go_wp2
                go_roundw
                case rel => exact ⟨k + 1, by omega, by go_num, by rw [HS.out]; go_num, HD2.out, by trivial⟩
                case measure => first | (simp [intOf]; done) | (simp [intOf]; omega)
          · have hkn : k = s.size := by omega
            subst hkn
            have hall : s.data.toList.take s.size = s.data.toList := List.take_of_length_le (by rw [HSZ.out]; exact Nat.le_refl _)
            rw [hall] at hd hv ⊢
            have HNUM : Hid (Sh.Num s.data.toList) := ⟨fun h => by have h9 := HSZ.out; rw [h] at h9; have h8 : 0 = s.size := h9; omega, by rw [HSZ.out]; omega, HL1.out, hd⟩
            clear hd hall
            go_wp2
            go_ret2
            obtain ⟨e1, e2⟩ := HYE.out HNUM.out
            subst e1 e2
            exact ⟨rfl, rfl⟩

set_option maxRecDepth 100000 in
set_option maxHeartbeats 4000000 in
theorem pnumbers_yes (a : Option Addr) (n c : Nat) (l : List ByteArray) (w : World) (h : bagS.rep w everywhere [.slice a n c] l) (hn : n ≤ 3000) (hz : ∀ x ∈ l, x.size ≤ 1000000) (hy : ∀ x ∈ l, Sh.Num x.data.toList) :
    Calls Tryz.prog 63 #[.slice a n c] w fun e w' => Below w.heap.size w w' ∧ ∃ a' c', e = .returned (.tuple #[.slice a' n c', .bool true]) ∧ Own (intS .i64) w' w.heap.size 3 (.slice a' n c') (Sh.nums l) := by
  obtain ⟨i0, hi0, hi1, hi2, hi3⟩ := info_parts Tryz.infoInt
  have HT : Hid (Texts w a n l) := Texts.of_rep h
  have HLN : Hid (l.length = n) := (Texts.of_rep h).1
  have HZ : Hid _ := hz
  have HY : Hid _ := hy
  clear h hz hy
  go_enter Tryz.func63, Tryz.ntmps63
  go_wp2
  go_loopw [4, 11] (fun v i wr => ∃ (k : Nat) (a' : Option Addr) (c' : Nat), k ≤ n ∧ v = .slice a' k c' ∧ i = .int .i64 k ∧ Own (intS .i64) wr w.heap.size 3 (.slice a' k c') (Sh.nums (l.take k)) ∧ Below w.heap.size w wr) (fun _ i _ => n - (intOf i).toNat)
  case atStart => exact ⟨0, none, 0, Nat.zero_le _, rfl, rfl, by rw [List.take_zero]; exact Own.nil _ _ _ _, Below.refl _ _⟩
  case round =>
    obtain ⟨k, fa, fc, hk, rfl, rfl, hown, hbel⟩ := hrel
    by_cases hlt : k < n
    · have hkl : k < l.length := by rw [HLN.out]; exact hlt
      obtain ⟨b1, o1, rfl, hb1, hc1⟩ := (HT.out.keep hbel).at hlt
      have hli : (k : Int) < (n : Int) := by omega
      have hz0 : (0 : Int) ≤ (k : Int) := by omega
      have HST : Hid _ := Sh.nums_step l hkl
      have HZX : Hid _ := HZ.out _ (Sh.getD_mem l hkl)
      have HNX : Hid _ := HY.out _ (Sh.getD_mem l hkl)
      have HLK : Hid ((Sh.nums (l.take k)).length = k) := by show _ = _; rw [Sh.nums_len, List.length_take]; omega
      generalize l.getD k noText = x at *
      have HN9 : Hid (Calls _ _ _ _ _) := pnumber x HZX.out (Sh.val x.data.toList) true (fun _ => ⟨rfl, rfl⟩) (fun h => absurd HNX.out h) wr
      have hv : Sh.val x.data.toList < 1000000000 := by rw [← Sh.num_yes HNX.out]; exact Sh.num_lt HNX.out
      generalize Sh.val x.data.toList = v at *
      have hsrc := hown.esrc (F := fun _ => False) (cs := [.int .i64 (v : Int)]) (x := (v : Int)) (e := 3) rfl (fun b hb => hb.elim)
      have hown1 := hown.keep (new_bel wr (.cells #[.int .i64 (v : Int)] 3))
      have hB1 : Below w.heap.size w (wr.alloc (.cells #[.int .i64 (v : Int)] 3)) := bel_alloc hbel _
      have hsz : w.heap.size ≤ (wr.alloc (.cells #[.int .i64 (v : Int)] 3)).heap.size := hB1.size
      have hlen : (Sh.nums (l.take k)).length + 1 ≤ 100000 := by rw [HLK.out]; omega
      have hkk : (Sh.nums (l.take k)).length + 1 = k + 1 := by rw [HLK.out]
      obtain ⟨L2, HL2⟩ : ∃ L2, Hid (Sh.nums (l.take (k + 1)) = L2) := ⟨_, rfl⟩
      have hcat := HST.out.trans HL2.out
      generalize Sh.nums (l.take k) = L at *
      go_wp2_with fail
      refine by_same HN9.out ?_
      go_wp2_with (at_builtin; refine wpList_appK (intS .i64) (by simp [Region.wanted]) (.tmp 22) (.tmp 24) 31 rfl w.heap.size 3 i0 (.int .i64 0) 8 Tryz.underlying31 hi0 hi1 hi2 hi3 rfl Nat.one_pos (by omega) (by rfl) hown1 (by rfl) hsrc.1 hsrc.2 hlen hsz (k + 1) hkk L2 hcat ?_; intro a4 c4 u4 ho4 hg4 hb4 hat4)
      go_roundw
      case rel => exact ⟨k + 1, a4, c4, by omega, rfl, by go_num, by rw [HL2.out]; exact ho4, hB1.trans hb4⟩
      case measure => first | (simp [intOf]; done) | (simp [intOf]; omega)
    · have hkn : k = n := by omega
      subst hkn
      have hli : ¬ (k : Int) < (k : Int) := by omega
      rw [List.take_of_length_le (by rw [HLN.out]; exact Nat.le_refl _)] at hown
      go_wp2
      go_ret2
      exact ⟨hbel, fa, fc, rfl, hown⟩
set_option maxRecDepth 100000 in
set_option maxHeartbeats 4000000 in
theorem pnumbers_no (a : Option Addr) (n c : Nat) (l : List ByteArray) (w : World) (h : bagS.rep w everywhere [.slice a n c] l) (hn : n ≤ 3000) (hz : ∀ x ∈ l, x.size ≤ 1000000) (m : Nat) (hm : m < n) (hbad : ¬ Sh.Num (l.getD m noText).data.toList) (hy : ∀ j, j < m → Sh.Num (l.getD j noText).data.toList) :
    Calls Tryz.prog 63 #[.slice a n c] w fun e w' => Below w.heap.size w w' ∧ e = .returned (.tuple #[.slice none 0 0, .bool false]) := by
  obtain ⟨i0, hi0, hi1, hi2, hi3⟩ := info_parts Tryz.infoInt
  have HT : Hid (Texts w a n l) := Texts.of_rep h
  have HLN : Hid (l.length = n) := (Texts.of_rep h).1
  have HZ : Hid _ := hz
  have HY : Hid _ := hy
  have HBAD : Hid _ := hbad
  clear h hz hy hbad
  go_enter Tryz.func63, Tryz.ntmps63
  go_wp2
  go_loopw [4, 11] (fun v i wr => ∃ (k : Nat) (a' : Option Addr) (c' : Nat), k ≤ m ∧ v = .slice a' k c' ∧ i = .int .i64 k ∧ Own (intS .i64) wr w.heap.size 3 (.slice a' k c') (Sh.nums (l.take k)) ∧ Below w.heap.size w wr) (fun _ i _ => m - (intOf i).toNat)
  case atStart => exact ⟨0, none, 0, Nat.zero_le _, rfl, rfl, by rw [List.take_zero]; exact Own.nil _ _ _ _, Below.refl _ _⟩
  case round =>
    obtain ⟨k, fa, fc, hk, rfl, rfl, hown, hbel⟩ := hrel
    have hlt : k < n := by omega
    have hkl : k < l.length := by rw [HLN.out]; exact hlt
    obtain ⟨b1, o1, rfl, hb1, hc1⟩ := (HT.out.keep hbel).at hlt
    have hli : (k : Int) < (n : Int) := by omega
    have hz0 : (0 : Int) ≤ (k : Int) := by omega
    have HZX : Hid _ := HZ.out _ (Sh.getD_mem l hkl)
    by_cases hkm : k < m
    · have HST : Hid _ := Sh.nums_step l hkl
      have HNX : Hid _ := HY.out _ hkm
      have HLK : Hid ((Sh.nums (l.take k)).length = k) := by show _ = _; rw [Sh.nums_len, List.length_take]; omega
      clear HBAD
      generalize l.getD k noText = x at *
      have HN9 : Hid (Calls _ _ _ _ _) := pnumber x HZX.out (Sh.val x.data.toList) true (fun _ => ⟨rfl, rfl⟩) (fun h => absurd HNX.out h) wr
      have hv : Sh.val x.data.toList < 1000000000 := by rw [← Sh.num_yes HNX.out]; exact Sh.num_lt HNX.out
      generalize Sh.val x.data.toList = v at *
      have hsrc := hown.esrc (F := fun _ => False) (cs := [.int .i64 (v : Int)]) (x := (v : Int)) (e := 3) rfl (fun b hb => hb.elim)
      have hown1 := hown.keep (new_bel wr (.cells #[.int .i64 (v : Int)] 3))
      have hB1 : Below w.heap.size w (wr.alloc (.cells #[.int .i64 (v : Int)] 3)) := bel_alloc hbel _
      have hsz : w.heap.size ≤ (wr.alloc (.cells #[.int .i64 (v : Int)] 3)).heap.size := hB1.size
      have hlen : (Sh.nums (l.take k)).length + 1 ≤ 100000 := by rw [HLK.out]; omega
      have hkk : (Sh.nums (l.take k)).length + 1 = k + 1 := by rw [HLK.out]
      obtain ⟨L2, HL2⟩ : ∃ L2, Hid (Sh.nums (l.take (k + 1)) = L2) := ⟨_, rfl⟩
      have hcat := HST.out.trans HL2.out
      generalize Sh.nums (l.take k) = L at *
      go_wp2_with fail
      refine by_same HN9.out ?_
      go_wp2_with (at_builtin; refine wpList_appK (intS .i64) (by simp [Region.wanted]) (.tmp 22) (.tmp 24) 31 rfl w.heap.size 3 i0 (.int .i64 0) 8 Tryz.underlying31 hi0 hi1 hi2 hi3 rfl Nat.one_pos (by omega) (by rfl) hown1 (by rfl) hsrc.1 hsrc.2 hlen hsz (k + 1) hkk L2 hcat ?_; intro a4 c4 u4 ho4 hg4 hb4 hat4)
      go_roundw
      case rel => exact ⟨k + 1, a4, c4, by omega, rfl, by go_num, by rw [HL2.out]; exact ho4, hB1.trans hb4⟩
      case measure => first | (simp [intOf]; done) | (simp [intOf]; omega)
    · have hkm2 : k = m := by omega
      subst hkm2
      have HN9 : Hid (Calls _ _ _ _ _) := pnumber (l.getD k noText) HZX.out 0 false (fun h => absurd h HBAD.out) (fun _ => ⟨rfl, rfl⟩) wr
      generalize l.getD k noText = x at *
      go_wp2_with fail
      refine by_same HN9.out ?_
      go_wp2
      go_ret2
      exact ⟨hbel, rfl⟩

/-- Numbers, each behind a blank. -/
def Sh.behind (l : List Int) : List UInt8 := (l.map fun n => 32 :: Sh.dig n.toNat).flatten
theorem Sh.behind_step (l : List Int) {k : Nat} (h : k < l.length) : Sh.behind (l.take (k + 1)) = Sh.behind (l.take k) ++ 32 :: Sh.dig (l.getD k 0).toNat := by
  unfold Sh.behind
  rw [List.take_succ_eq_append_getElem h, List.map_append, List.flatten_append, List.getD_eq_getElem?_getD, List.getElem?_eq_getElem h]
  simp
theorem Sh.behind_len (l : List Int) (h : ∀ n ∈ l, 0 ≤ n ∧ n < 1000000000000) : (Sh.behind l).length ≤ 13 * l.length := by
  unfold Sh.behind
  induction l with
  | nil => exact Nat.le_refl _
  | cons n r ih =>
    have h1 := h n List.mem_cons_self
    have h2 := Sh.dig_short 11 n.toNat (by omega)
    have h3 := ih (fun x hx => h x (List.mem_cons_of_mem _ hx))
    rw [List.map_cons, List.flatten_cons, List.length_append, List.length_cons, List.length_cons]
    omega
set_option maxRecDepth 100000 in
set_option maxHeartbeats 4000000 in
theorem ptold_error (a : Option Addr) (n c : Nat) (e : Nat) (he : 0 < e) (he9 : e ≤ 1000) (w : World) (hE : Env w) :
    Calls Tryz.prog 33 #[.slice a n c, .int .i64 (e : Int)] w fun r w' => r = .returned (.string ⟨(Sc.errW ++ Sh.dig e).toArray⟩) ∧ Below w.heap.size w w' := by
  have e0 : ((e : Int) != 0) = true := by rw [bne_iff_ne]; omega
  have HD : Hid (Calls _ _ _ _ _) := sitoa e (by omega) w hE
  have HL : Hid ((Sh.dig e).length ≤ 12) := Sh.dig_short 11 e (by omega)
  obtain ⟨D, hD⟩ : ∃ D : ByteArray, (⟨(Sh.dig e).toArray⟩ : ByteArray) = D := ⟨_, rfl⟩
  obtain ⟨R, hR⟩ : ∃ R : ByteArray, (⟨#[101, 114, 114, 111, 114, 32]⟩ : ByteArray) ++ D = R := ⟨_, rfl⟩
  have HR : Hid (R = ⟨(Sc.errW ++ Sh.dig e).toArray⟩) := by
    show _ = _
    rw [← hR, ← hD]
    exact bcat Sc.errW (Sh.dig e)
  have hsz : ¬ (9223372036854775807 < 6 + D.size) := by
    have h2 : D.size = (Sh.dig e).length := by rw [← hD]; exact (list_size _).symm.trans (by simp)
    have := HL.out
    omega
  rw [hD] at HD
  clear hD HL
  go_enter Tryz.func33, Tryz.ntmps33
  go_wp2_with fail
  refine HD.out.mono ?_
  rintro r u1 ⟨rfl, hb1⟩
  go_wp2
  go_ret
  exact ⟨by rw [← HR.out]; rfl, hb1⟩
set_option maxRecDepth 100000 in
set_option maxHeartbeats 4000000 in
theorem ptold_ok (a : Option Addr) (n c : Nat) (l : List Int) (w : World) (h : rowS.rep w everywhere [.slice a n c] l) (hn : n ≤ 1000) (hz : ∀ x ∈ l, 0 ≤ x ∧ x < 1000000000000) (hE : Env w) :
    Calls Tryz.prog 33 #[.slice a n c, .int .i64 0] w fun r w' => r = .returned (.string ⟨(Sc.okW ++ Sh.behind l).toArray⟩) ∧ Below w.heap.size w w' := by
  have HROW : Hid (Row .i64 w a n l) := Row.of_rep h
  have HLN : Hid (l.length = n) := (sliceS_len h).1
  have HZ : Hid _ := hz
  have HE : Hid _ := hE
  clear h hz hE
  go_enter Tryz.func33, Tryz.ntmps33
  go_wp2
  go_loopw [5, 15] (fun v i wr => ∃ (k : Nat) (T : ByteArray), k ≤ n ∧ v = .string T ∧ i = .int .i64 k ∧ Hid (T = ⟨(Sc.okW ++ Sh.behind (l.take k)).toArray⟩) ∧ Below w.heap.size w wr) (fun _ i _ => n - (intOf i).toNat)
  case atStart => exact ⟨0, _, Nat.zero_le _, rfl, rfl, (by show _ = _; rw [List.take_zero]; rfl), Below.refl _ _⟩
  case round =>
    obtain ⟨k, T, hk, rfl, rfl, HT, hbel⟩ := hrel
    by_cases hlt : k < n
    · have hkl : k < l.length := by rw [HLN.out]; exact hlt
      obtain ⟨b1, o1, rfl, hb1, hc1⟩ := (HROW.out.keep hbel).at hlt
      have hli : (k : Int) < (n : Int) := by omega
      have hz0 : (0 : Int) ≤ (k : Int) := by omega
      have hmem : l.getD k 0 ∈ l := by
        rw [List.getD_eq_getElem?_getD, List.getElem?_eq_getElem hkl]
        exact List.getElem_mem hkl
      obtain ⟨m, hm⟩ : ∃ m : Nat, l.getD k 0 = (m : Int) := ⟨(l.getD k 0).toNat, by have := (HZ.out _ hmem).1; omega⟩
      have hm9 : m < 1000000000000 := by have := (HZ.out _ hmem).2; omega
      have hstep := Sh.behind_step l hkl
      have hlen := Sh.behind_len (l.take k) (fun x hx => HZ.out x (List.mem_of_mem_take hx))
      rw [List.length_take] at hlen
      rw [hm] at hc1 hstep
      rw [show ((m : Int)).toNat = m by omega] at hstep
      have HD : Hid (Calls _ _ _ _ _) := sitoa m (by omega) wr (HE.out.keep hbel)
      obtain ⟨D, hD⟩ : ∃ D : ByteArray, (⟨(Sh.dig m).toArray⟩ : ByteArray) = D := ⟨_, rfl⟩
      obtain ⟨S, hS⟩ : ∃ S : ByteArray, (⟨#[32]⟩ : ByteArray) ++ D = S := ⟨_, rfl⟩
      obtain ⟨R, hR⟩ : ∃ R : ByteArray, T ++ S = R := ⟨_, rfl⟩
      have hS2 : S = ⟨(32 :: Sh.dig m).toArray⟩ := by rw [← hS, ← hD]; exact bcat [32] (Sh.dig m)
      have HR : Hid (R = ⟨(Sc.okW ++ Sh.behind (l.take (k + 1))).toArray⟩) := by
        show _ = _
        rw [← hR, HT.out, hS2, hstep, ← List.append_assoc]
        exact bcat _ _
      have hDs : D.size ≤ 12 := by
        have h2 : D.size = (Sh.dig m).length := by rw [← hD]; exact bsize _
        have := Sh.dig_short 11 m (by omega)
        omega
      have hSs : S.size ≤ 13 := by
        have h2 : S.size = (32 :: Sh.dig m).length := by rw [hS2]; exact bsize _
        have h3 : D.size = (Sh.dig m).length := by rw [← hD]; exact bsize _
        rw [List.length_cons] at h2
        omega
      have hTs : T.size ≤ 100000 := by
        have h2 : T.size = (Sc.okW ++ Sh.behind (l.take k)).length := by rw [HT.out]; exact bsize _
        rw [List.length_append] at h2
        have h3 : Sc.okW.length = 2 := rfl
        omega
      have hs1 : ¬ (9223372036854775807 < 1 + D.size) := by omega
      have hs2 : ¬ (9223372036854775807 < T.size + S.size) := by omega
      rw [hD] at HD
      have HB := hid hbel
      clear hD hS2 HT hstep hlen hmem hm hbel hDs hSs hTs
      go_wp2_with (go_at_call 68; refine HD.out.mono ?_; rintro r u1 ⟨rfl, hb1⟩)
      have HB1 := hid (bel_then HB.out hb1)
      clear hb1
      go_roundw
      case rel => exact ⟨k + 1, R, by omega, rfl, by go_num, HR, HB1.out⟩
      case measure => first | (simp [intOf]; done) | (simp [intOf]; omega)
    · have hkn : k = n := by omega
      subst hkn
      have hli : ¬ (k : Int) < (k : Int) := by omega
      have HE2 : Hid (T = ⟨(Sc.okW ++ Sh.behind l).toArray⟩) := by
        show _ = _
        rw [HT.out, List.take_of_length_le (by rw [HLN.out]; exact Nat.le_refl _)]
      go_wp2
      go_ret
      exact ⟨by rw [← HE2.out]; rfl, hbel⟩

end Go.Proofs.YtokfcjgfpchffaaGreatDoor
