/- 3 texts as one, in their order: ScA, ScB, ScC. -/
import Derived.Test.YtokfcjgfpchffaaGreatDoorKs
import Derived.Test.YtokfcjgfpchffaaGreatDoorJg
import Derived.Test.YtokfcjgfpchffaaGreatDoorKa

/- What the document's Split, Numbers and Digits of layer 20 do when called. -/
namespace Go.Proofs.YtokfcjgfpchffaaGreatDoor
open Go.ChangeShapes Go.WideShapes Go.ChangeAt Go.RowKit

/-- Lists of bytes as texts. -/
def Sh.texts (l : List (List UInt8)) : List ByteArray := l.map fun x => ⟨x.toArray⟩
theorem Sh.texts_len (l : List (List UInt8)) : (Sh.texts l).length = l.length := by unfold Sh.texts; rw [List.length_map]
theorem Sh.texts_snoc (l : List (List UInt8)) (x : List UInt8) : Sh.texts (l ++ [x]) = Sh.texts l ++ [⟨x.toArray⟩] := by unfold Sh.texts; rw [List.map_append]; rfl
set_option maxRecDepth 100000 in
set_option maxHeartbeats 4000000 in
theorem rsplit (s : ByteArray) (c : UInt8) (hs : s.size ≤ 80000) (n : Nat) (hn : (Sh.pieces c s.data.toList).length = n) (w : World) :
    Calls Tryz.prog 11 #[.string s, .int .u8 (c.toNat : Nat)] w fun e w' => Below w.heap.size w w' ∧ ∃ a cap, e = .returned (.slice a n cap) ∧ Own strS w' w.heap.size 9 (.slice a n cap) (Sh.texts (Sh.pieces c s.data.toList)) := by
  obtain ⟨i0, hi0, hi1, hi2, hi3⟩ := info_parts Tryz.infoText
  have HS : Hid (s.data.toList.length = s.size) := list_size s
  have HN : Hid ((Sh.pieces c s.data.toList).length = n) := hn
  have HFEW : Hid (∀ i start out, Sh.At c s.data.toList i start out → out.length ≤ 80001) := fun i start out h => by
    have h1 := congrArg List.length h.all
    have h2 := Sh.pieces_len c s.data.toList
    rw [List.length_append] at h1
    have h3 := HS.out
    omega
  clear hn
  go_enter Tryz.func11, Tryz.ntmps11
  go_wp2
  go_loopw [5, 6, 7] (fun lv fv iv wr => ∃ (i start j : Nat) (a : Option Addr) (cap : Nat) (out : List (List UInt8)), lv = .slice a j cap ∧ fv = .int .i64 start ∧ iv = .int .i64 i ∧ i ≤ s.size + 1 ∧ (i ≤ s.size → Sh.At c s.data.toList i start out) ∧ (i = s.size + 1 → out = Sh.pieces c s.data.toList) ∧ out.length = j ∧ Own strS wr w.heap.size 9 (.slice a j cap) (Sh.texts out) ∧ Below w.heap.size w wr) (fun _ _ iv _ => s.size + 1 - (intOf iv).toNat)
  case atStart => exact ⟨0, 0, 0, none, 0, [], rfl, rfl, rfl, by omega, fun _ => Sh.At.start _ _, fun h => by omega, rfl, Own.nil _ _ _ _, Below.refl _ _⟩
  case round =>
    obtain ⟨i, start, j, a, cap, out, rfl, rfl, rfl, hi, hA, hF, hj, hown, hbel⟩ := hrel
    by_cases h1 : i = s.size + 1
    · have hli : ¬ (i : Int) ≤ (s.size : Int) := by omega
      have hf := hF h1
      subst hf
      have hjn : j = n := by rw [← hj]; exact HN.out
      subst hjn
      clear hA hF h1 hj
      go_wp2
      go_ret
      exact ⟨hbel, a, cap, rfl, hown⟩
    · have hle : i ≤ s.size := by omega
      have HA : Hid _ := (hA hle)
      have HJ : Hid _ := hj
      have hli : (i : Int) ≤ (s.size : Int) := by omega
      have hst : start ≤ i := HA.out.here
      have hs0 : (0 : Int) ≤ (start : Int) := by omega
      clear hA hF hj hi h1
      by_cases h2 : i = s.size
      · subst h2
        have HI : Hid (s.size ≤ s.size) := Nat.le_refl _
        have HD : Hid (out ++ [(s.data.toList.drop start).take (s.size - start)] = Sh.pieces c s.data.toList) := by
          have h9 := HA.out
          rw [← HS.out] at h9
          have h8 := h9.done
          rw [HS.out] at h8
          exact h8.symm
        obtain ⟨D, hD, hDl, _⟩ := cut_mid s (i := start) (j := s.size) HA.out.here HI.out
        have HP : Hid (Sh.texts out ++ [D] = Sh.texts (out ++ [(s.data.toList.drop start).take (s.size - start)])) := by
          show _ = _
          rw [Sh.texts_snoc, text_is hDl]
        have HLN : Hid ((Sh.texts out).length = j) := by show _ = _; rw [Sh.texts_len]; exact HJ.out
        obtain ⟨hsrc, hoff⟩ := Own.text D hown
        have hown1 := hown.keep (new_bel wr (.cells #[.string D] 9))
        have hB1 : Below w.heap.size w (wr.alloc (.cells #[.string D] 9)) := bel_alloc hbel _
        have hsz : w.heap.size ≤ (wr.alloc (.cells #[.string D] 9)).heap.size := hB1.size
        have hlen : (Sh.texts out).length + 1 ≤ 100000 := by rw [HLN.out]; have := HJ.out; have := HFEW.out _ _ _ HA.out; omega
        have hk : (Sh.texts out).length + 1 = j + 1 := by rw [HLN.out]
        obtain ⟨L2, HL2⟩ : ∃ L2, Hid (Sh.texts (out ++ [(s.data.toList.drop start).take (s.size - start)]) = L2) := ⟨_, rfl⟩
        have hcat := HP.out.trans HL2.out
        have hj9 : j ≤ 90000 := by have := HJ.out; have := HFEW.out _ _ _ HA.out; omega
        generalize Sh.texts out = L at *
        clear hDl
        go_wp2_with (at_builtin; refine wpList_appK strS (by simp [Region.wanted]) (.tmp 25) (.tmp 30) 24 rfl w.heap.size 9 i0 (.string noText) 16 Tryz.underlying24 hi0 hi1 hi2 hi3 rfl Nat.one_pos (by omega) (by rfl) hown1 (by rfl) hsrc hoff hlen hsz (j + 1) hk L2 hcat ?_; intro a4 c4 u4 ho4 hg4 hb4 hat4)
        go_roundw
        case rel => exact ⟨s.size + 1, s.size + 1, j + 1, a4, c4, _, rfl, by go_num, by go_num, by omega, fun h => by omega, fun _ => HD.out, by rw [List.length_append, HJ.out]; rfl, by rw [HL2.out]; exact ho4, hB1.trans hb4⟩
        case measure => first | (simp [intOf]; done) | (simp [intOf]; omega)
      · have hlt : i < s.size := by omega
        have hne1 : ((i : Int) == (s.size : Int)) = false := by rw [beq_eq_false_iff_ne]; omega
        have hz0 : (0 : Int) ≤ (i : Int) := by omega
        have hil : (i : Int) < (s.size : Int) := by omega
        have HI : Hid (i ≤ s.size) := hle
        have HIL : Hid (i < s.data.toList.length) := by show i < _; rw [HS.out]; exact hlt
        by_cases hc : s[i] = c
        · have HX : Hid (Sh.At c s.data.toList (i + 1) (i + 1) (out ++ [(s.data.toList.drop start).take (i - start)])) := HA.out.split HIL.out hc
          have hq : (((s[i]).toNat : Int) == (c.toNat : Int)) = true := by rw [hc]; exact beq_self_eq_true _
          clear hc
          obtain ⟨D, hD, hDl, _⟩ := cut_mid s (i := start) (j := i) HA.out.here HI.out
          have HP : Hid (Sh.texts out ++ [D] = Sh.texts (out ++ [(s.data.toList.drop start).take (i - start)])) := by
            show _ = _
            rw [Sh.texts_snoc, text_is hDl]
          have HLN : Hid ((Sh.texts out).length = j) := by show _ = _; rw [Sh.texts_len]; exact HJ.out
          obtain ⟨hsrc, hoff⟩ := Own.text D hown
          have hown1 := hown.keep (new_bel wr (.cells #[.string D] 9))
          have hB1 : Below w.heap.size w (wr.alloc (.cells #[.string D] 9)) := bel_alloc hbel _
          have hsz : w.heap.size ≤ (wr.alloc (.cells #[.string D] 9)).heap.size := hB1.size
          have hlen : (Sh.texts out).length + 1 ≤ 100000 := by rw [HLN.out]; have := HJ.out; have := HFEW.out _ _ _ HA.out; omega
          have hk : (Sh.texts out).length + 1 = j + 1 := by rw [HLN.out]
          obtain ⟨L2, HL2⟩ : ∃ L2, Hid (Sh.texts (out ++ [(s.data.toList.drop start).take (i - start)]) = L2) := ⟨_, rfl⟩
          have hcat := HP.out.trans HL2.out
          have hj9 : j ≤ 90000 := by have := HJ.out; have := HFEW.out _ _ _ HA.out; omega
          generalize Sh.texts out = L at *
          clear hDl
          go_wp2_with (at_builtin; refine wpList_appK strS (by simp [Region.wanted]) (.tmp 25) (.tmp 30) 24 rfl w.heap.size 9 i0 (.string noText) 16 Tryz.underlying24 hi0 hi1 hi2 hi3 rfl Nat.one_pos (by omega) (by rfl) hown1 (by rfl) hsrc hoff hlen hsz (j + 1) hk L2 hcat ?_; intro a4 c4 u4 ho4 hg4 hb4 hat4)
          go_roundw
          case rel => exact ⟨i + 1, i + 1, j + 1, a4, c4, _, rfl, by go_num, by go_num, by omega, fun _ => HX.out, fun h => by omega, by rw [List.length_append, HJ.out]; rfl, by rw [HL2.out]; exact ho4, hB1.trans hb4⟩
          case measure => first | (simp [intOf]; done) | (simp [intOf]; omega)
        · have HX : Hid (Sh.At c s.data.toList (i + 1) start out) := HA.out.step HIL.out hc
          have hq : (((s[i]).toNat : Int) == (c.toNat : Int)) = false := by
            have hq0 : ¬ (s[i]).toNat = c.toNat := fun h => hc (UInt8.toNat_inj.1 h)
            rw [beq_eq_false_iff_ne]
            omega
          have HO : Hid _ := (And.intro hown hbel)
          clear hc hown hbel
          go_wp2
          go_roundw
          case rel => exact ⟨i + 1, start, j, a, cap, out, rfl, rfl, by go_num, by omega, fun _ => HX.out, fun h => by omega, HJ.out, HO.out.1, HO.out.2⟩
          case measure => first | (simp [intOf]; done) | (simp [intOf]; omega)

end Go.Proofs.YtokfcjgfpchffaaGreatDoor

/- What the document's number, Numbers and Digits of layer 20 do when called. -/
namespace Go.Proofs.YtokfcjgfpchffaaGreatDoor
open Go.ChangeShapes Go.WideShapes Go.ChangeAt Go.RowKit

instance (l : List UInt8) : Decidable (Sh.Num l) := by unfold Sh.Num; infer_instance
/-- What is written in a text: a number, or none. -/
def Sh.num (s : ByteArray) : Nat := if Sh.Num s.data.toList then Sh.val s.data.toList else 0
theorem Sh.num_yes {s : ByteArray} (h : Sh.Num s.data.toList) : Sh.num s = Sh.val s.data.toList := if_pos h
theorem Sh.num_lt {s : ByteArray} (h : Sh.Num s.data.toList) : Sh.num s < 1000000000 := by
  rw [Sh.num_yes h]
  have h1 := Sh.val_lt h.2.2.2
  have h2 : (10 : Nat) ^ s.data.toList.length ≤ 10 ^ 9 := Nat.pow_le_pow_right (by omega) h.2.1
  have h3 : (10 : Nat) ^ 9 = 1000000000 := rfl
  omega
theorem Sh.val_step (s : ByteArray) {k : Nat} (h : k < s.size) : Sh.val (s.data.toList.take (k + 1)) = 10 * Sh.val (s.data.toList.take k) + ((s[k]).toNat - 48) := by
  have hl : k < s.data.toList.length := by rw [Array.length_toList]; exact h
  rw [List.take_succ_eq_append_getElem hl, Sh.val_snoc]
  rfl
theorem Sh.at_mem (s : ByteArray) {k : Nat} (h : k < s.size) : s[k] ∈ s.data.toList := by
  have hl : k < s.data.toList.length := by rw [Array.length_toList]; exact h
  exact List.getElem_mem hl
theorem Sh.dig_step (s : ByteArray) {k : Nat} (h : k < s.size) (hd : ∀ x ∈ s.data.toList.take k, Sh.isDig x) (hk : Sh.isDig (s[k])) : ∀ x ∈ s.data.toList.take (k + 1), Sh.isDig x := by
  have hl : k < s.data.toList.length := by rw [Array.length_toList]; exact h
  intro x hx
  rw [List.take_succ_eq_append_getElem hl] at hx
  rcases List.mem_append.1 hx with h1 | h1
  · exact hd x h1
  · rw [List.mem_singleton.1 h1]
    exact hk
set_option maxRecDepth 100000 in
set_option maxHeartbeats 4000000 in
theorem rnumber (s : ByteArray) (hs : s.size ≤ 100000) (v : Nat) (b : Bool) (hy : Sh.Num s.data.toList → b = true ∧ v = Sh.val s.data.toList) (hno : ¬ Sh.Num s.data.toList → b = false ∧ v = 0) (w : World) :
    Calls Tryz.prog 49 #[.string s] w fun e w' => e = .returned (.tuple #[.int .i64 (v : Nat), .bool b]) ∧ w' = w := by
  have HYE : Hid _ := hy
  have HNO : Hid _ := hno
  clear hy hno
  have HSZ : Hid (s.data.toList.length = s.size) := list_size s
  go_enter Tryz.func49, Tryz.ntmps49
  by_cases h0 : s.size = 0
  · have HN : Hid (¬ Sh.Num s.data.toList) := fun h => h.1 (List.eq_nil_of_length_eq_zero (by rw [HSZ.out]; exact h0))
    have e0 : ((s.size : Int) == 0) = true := by rw [beq_iff_eq]; omega
    go_wp2
    go_ret2
    obtain ⟨e1, e2⟩ := HNO.out (HN.out)
    subst e1 e2
    exact ⟨rfl, rfl⟩
  · have e0 : ((s.size : Int) == 0) = false := by rw [beq_eq_false_iff_ne]; omega
    have hp : 0 < s.size := by omega
    have hpi : (0 : Int) < (s.size : Int) := by omega
    by_cases h9 : 9 < s.size
    · have HN : Hid (¬ Sh.Num s.data.toList) := fun h => by have := h.2.1; have := HSZ.out; omega
      have e9 : (9 : Int) < (s.size : Int) := by omega
      go_wp2
      go_ret2
      obtain ⟨e1, e2⟩ := HNO.out (HN.out)
      subst e1 e2
      exact ⟨rfl, rfl⟩
    · have e9 : ¬ (9 : Int) < (s.size : Int) := by omega
      have HG : Hid (s.data.toList.getD 0 0 = s[0]) := by
        show _ = _
        rw [List.getD_eq_getElem?_getD, List.getElem?_eq_getElem (by rw [list_size]; exact hp)]
        rfl
      by_cases hc : s[0] = 48
      · have q0 : (((s[0]).toNat : Int) == 48) = true := by rw [hc]; rfl
        by_cases h1 : 1 < s.size
        · have e1 : (1 : Int) < (s.size : Int) := by omega
          have HN : Hid (¬ Sh.Num s.data.toList) := fun h => by
            rcases h.2.2.1 with h8 | h8
            · have := HSZ.out; omega
            · exact h8 (HG.out.trans hc)
          go_wp2
          go_ret2
          obtain ⟨e1, e2⟩ := HNO.out (HN.out)
          subst e1 e2
          exact ⟨rfl, rfl⟩
        · have e1 : ¬ (1 : Int) < (s.size : Int) := by omega
          have HL1 : Hid (s.data.toList.length = 1 ∨ s.data.toList.getD 0 0 ≠ 48) := .inl (by have := HSZ.out; omega)
          go_wp2
          go_loopw [4, 5] (fun v i wr => ∃ (k : Nat), k ≤ s.size ∧ i = .int .i64 k ∧ v = .int .i64 (Sh.val (s.data.toList.take k) : Nat) ∧ (∀ x ∈ s.data.toList.take k, Sh.isDig x) ∧ wr = w) (fun _ i _ => s.size - (intOf i).toNat)
          case atStart => exact ⟨0, by omega, rfl, rfl, by simp, rfl⟩
          case round =>
            obtain ⟨k, hk, rfl, rfl, hd, hww⟩ := hrel
            replace hww := hww.symm
            subst hww
            have hv : Sh.val (s.data.toList.take k) < 1000000000 := by
              have h1 := Sh.val_lt hd
              have h2 : (10 : Nat) ^ (s.data.toList.take k).length ≤ 10 ^ 9 := Nat.pow_le_pow_right (by omega) (by rw [List.length_take]; omega)
              have h3 : (10 : Nat) ^ 9 = 1000000000 := rfl
              omega
            by_cases hlt : k < s.size
            · have hli : (k : Int) < (s.size : Int) := by omega
              have hz : (0 : Int) ≤ (k : Int) := by omega
              have HS : Hid (Sh.val (s.data.toList.take (k + 1)) = 10 * Sh.val (s.data.toList.take k) + ((s[k]).toNat - 48)) := Sh.val_step s hlt
              have HM : Hid (s[k] ∈ s.data.toList) := Sh.at_mem s hlt
              have HDD : Hid (Sh.isDig (s[k]) → ∀ x ∈ s.data.toList.take (k + 1), Sh.isDig x) := Sh.dig_step s hlt hd
              have hb := (s[k]).toNat_lt
              clear hd
              generalize Sh.val (s.data.toList.take k) = x at *
              by_cases q1 : (s[k]).toNat < 48
              · have q2 : ((s[k]).toNat : Int) < 48 := by omega
                go_wp2
                go_ret2
                obtain ⟨e1, e2⟩ := HNO.out (fun h => by have h9 := (h.2.2.2 _ HM.out).1; omega)
                subst e1 e2
                exact ⟨rfl, rfl⟩
              · have q2 : ¬ ((s[k]).toNat : Int) < 48 := by omega
                by_cases q3 : 57 < (s[k]).toNat
                · have q4 : (57 : Int) < ((s[k]).toNat : Int) := by omega
                  go_wp2
                  go_ret2
                  obtain ⟨e1, e2⟩ := HNO.out (fun h => by have h9 := (h.2.2.2 _ HM.out).2; omega)
                  subst e1 e2
                  exact ⟨rfl, rfl⟩
                · have q4 : ¬ (57 : Int) < ((s[k]).toNat : Int) := by omega
                  have HD2 : Hid (∀ x ∈ s.data.toList.take (k + 1), Sh.isDig x) := HDD.out ⟨by omega, by omega⟩
                  go_wp2
                  go_roundw
                  case rel => exact ⟨k + 1, by omega, by go_num, by rw [HS.out]; go_num, HD2.out, by trivial⟩
                  case measure => first | (simp [intOf]; done) | (simp [intOf]; omega)
            · have hkn : k = s.size := by omega
              subst hkn
              have hall : s.data.toList.take s.size = s.data.toList := List.take_of_length_le (by rw [HSZ.out]; exact Nat.le_refl _)
              rw [hall] at hd hv ⊢
              have HNUM : Hid (Sh.Num s.data.toList) := ⟨fun h => by have h9 := HSZ.out; rw [h] at h9; have h8 : 0 = s.size := h9; omega, by rw [HSZ.out]; omega, HL1.out, hd⟩
              clear hd hall
              go_wp2
              go_ret2
              obtain ⟨e1, e2⟩ := HYE.out HNUM.out
              subst e1 e2
              exact ⟨rfl, rfl⟩
      · have q0 : (((s[0]).toNat : Int) == 48) = false := by
          have h8 : ¬ (s[0]).toNat = 48 := fun h => hc (UInt8.toNat_inj.1 h)
          rw [beq_eq_false_iff_ne]
          omega
        have HL1 : Hid (s.data.toList.length = 1 ∨ s.data.toList.getD 0 0 ≠ 48) := .inr (by rw [HG.out]; exact hc)
        go_wp2
        go_loopw [4, 5] (fun v i wr => ∃ (k : Nat), k ≤ s.size ∧ i = .int .i64 k ∧ v = .int .i64 (Sh.val (s.data.toList.take k) : Nat) ∧ (∀ x ∈ s.data.toList.take k, Sh.isDig x) ∧ wr = w) (fun _ i _ => s.size - (intOf i).toNat)
        case atStart => exact ⟨0, by omega, rfl, rfl, by simp, rfl⟩
        case round =>
          obtain ⟨k, hk, rfl, rfl, hd, hww⟩ := hrel
          replace hww := hww.symm
          subst hww
          have hv : Sh.val (s.data.toList.take k) < 1000000000 := by
            have h1 := Sh.val_lt hd
            have h2 : (10 : Nat) ^ (s.data.toList.take k).length ≤ 10 ^ 9 := Nat.pow_le_pow_right (by omega) (by rw [List.length_take]; omega)
            have h3 : (10 : Nat) ^ 9 = 1000000000 := rfl
            omega
          by_cases hlt : k < s.size
          · have hli : (k : Int) < (s.size : Int) := by omega
            have hz : (0 : Int) ≤ (k : Int) := by omega
            have HS : Hid (Sh.val (s.data.toList.take (k + 1)) = 10 * Sh.val (s.data.toList.take k) + ((s[k]).toNat - 48)) := Sh.val_step s hlt
            have HM : Hid (s[k] ∈ s.data.toList) := Sh.at_mem s hlt
            have HDD : Hid (Sh.isDig (s[k]) → ∀ x ∈ s.data.toList.take (k + 1), Sh.isDig x) := Sh.dig_step s hlt hd
            have hb := (s[k]).toNat_lt
            clear hd
            generalize Sh.val (s.data.toList.take k) = x at *
            by_cases q1 : (s[k]).toNat < 48
            · have q2 : ((s[k]).toNat : Int) < 48 := by omega
              go_wp2
              go_ret2
              obtain ⟨e1, e2⟩ := HNO.out (fun h => by have h9 := (h.2.2.2 _ HM.out).1; omega)
              subst e1 e2
              exact ⟨rfl, rfl⟩
            · have q2 : ¬ ((s[k]).toNat : Int) < 48 := by omega
              by_cases q3 : 57 < (s[k]).toNat
              · have q4 : (57 : Int) < ((s[k]).toNat : Int) := by omega
                go_wp2
                go_ret2
                obtain ⟨e1, e2⟩ := HNO.out (fun h => by have h9 := (h.2.2.2 _ HM.out).2; omega)
                subst e1 e2
                exact ⟨rfl, rfl⟩
              · have q4 : ¬ (57 : Int) < ((s[k]).toNat : Int) := by omega
                have HD2 : Hid (∀ x ∈ s.data.toList.take (k + 1), Sh.isDig x) := HDD.out ⟨by omega, by omega⟩
                go_wp2
                go_roundw
                case rel => exact ⟨k + 1, by omega, by go_num, by rw [HS.out]; go_num, HD2.out, by trivial⟩
                case measure => first | (simp [intOf]; done) | (simp [intOf]; omega)
          · have hkn : k = s.size := by omega
            subst hkn
            have hall : s.data.toList.take s.size = s.data.toList := List.take_of_length_le (by rw [HSZ.out]; exact Nat.le_refl _)
            rw [hall] at hd hv ⊢
            have HNUM : Hid (Sh.Num s.data.toList) := ⟨fun h => by have h9 := HSZ.out; rw [h] at h9; have h8 : 0 = s.size := h9; omega, by rw [HSZ.out]; omega, HL1.out, hd⟩
            clear hd hall
            go_wp2
            go_ret2
            obtain ⟨e1, e2⟩ := HYE.out HNUM.out
            subst e1 e2
            exact ⟨rfl, rfl⟩

/-- The numbers that texts are. -/
def Sh.nums (l : List ByteArray) : List Int := l.map fun x => ((Sh.val x.data.toList : Nat) : Int)
theorem Sh.nums_len (l : List ByteArray) : (Sh.nums l).length = l.length := by unfold Sh.nums; rw [List.length_map]
theorem Sh.nums_step (l : List ByteArray) {k : Nat} (h : k < l.length) : Sh.nums (l.take k) ++ [((Sh.val (l.getD k noText).data.toList : Nat) : Int)] = Sh.nums (l.take (k + 1)) := by
  unfold Sh.nums
  rw [List.take_succ_eq_append_getElem h, List.map_append, List.map_singleton, List.getD_eq_getElem?_getD, List.getElem?_eq_getElem h]
  rfl
theorem Sh.getD_mem (l : List ByteArray) {k : Nat} (h : k < l.length) : l.getD k noText ∈ l := by
  rw [List.getD_eq_getElem?_getD, List.getElem?_eq_getElem h]
  exact List.getElem_mem h
set_option maxRecDepth 100000 in
set_option maxHeartbeats 4000000 in
theorem rnumbers_yes (a : Option Addr) (n c : Nat) (l : List ByteArray) (w : World) (h : bagS.rep w everywhere [.slice a n c] l) (hn : n ≤ 3000) (hz : ∀ x ∈ l, x.size ≤ 100000) (hy : ∀ x ∈ l, Sh.Num x.data.toList) :
    Calls Tryz.prog 18 #[.slice a n c] w fun e w' => Below w.heap.size w w' ∧ ∃ a' c', e = .returned (.tuple #[.slice a' n c', .bool true]) ∧ Own (intS .i64) w' w.heap.size 3 (.slice a' n c') (Sh.nums l) := by
  obtain ⟨i0, hi0, hi1, hi2, hi3⟩ := info_parts Tryz.infoInt
  have HT : Hid (Texts w a n l) := Texts.of_rep h
  have HLN : Hid (l.length = n) := (Texts.of_rep h).1
  have HZ : Hid _ := hz
  have HY : Hid _ := hy
  clear h hz hy
  go_enter Tryz.func18, Tryz.ntmps18
  go_wp2
  go_loopw [4, 5] (fun v i wr => ∃ (k : Nat) (a' : Option Addr) (c' : Nat), k ≤ n ∧ v = .slice a' k c' ∧ i = .int .i64 k ∧ Own (intS .i64) wr w.heap.size 3 (.slice a' k c') (Sh.nums (l.take k)) ∧ Below w.heap.size w wr) (fun _ i _ => n - (intOf i).toNat)
  case atStart => exact ⟨0, none, 0, Nat.zero_le _, rfl, rfl, by rw [List.take_zero]; exact Own.nil _ _ _ _, Below.refl _ _⟩
  case round =>
    obtain ⟨k, fa, fc, hk, rfl, rfl, hown, hbel⟩ := hrel
    by_cases hlt : k < n
    · have hkl : k < l.length := by rw [HLN.out]; exact hlt
      obtain ⟨b1, o1, rfl, hb1, hc1⟩ := (HT.out.keep hbel).at hlt
      have hli : (k : Int) < (n : Int) := by omega
      have hz0 : (0 : Int) ≤ (k : Int) := by omega
      have HST : Hid _ := Sh.nums_step l hkl
      have HZX : Hid _ := HZ.out _ (Sh.getD_mem l hkl)
      have HNX : Hid _ := HY.out _ (Sh.getD_mem l hkl)
      have HLK : Hid ((Sh.nums (l.take k)).length = k) := by show _ = _; rw [Sh.nums_len, List.length_take]; omega
      generalize l.getD k noText = x at *
      have HN9 : Hid (Calls _ _ _ _ _) := rnumber x HZX.out (Sh.val x.data.toList) true (fun _ => ⟨rfl, rfl⟩) (fun h => absurd HNX.out h) wr
      have hv : Sh.val x.data.toList < 1000000000 := by rw [← Sh.num_yes HNX.out]; exact Sh.num_lt HNX.out
      generalize Sh.val x.data.toList = v at *
      have hsrc := hown.esrc (F := fun _ => False) (cs := [.int .i64 (v : Int)]) (x := (v : Int)) (e := 3) rfl (fun b hb => hb.elim)
      have hown1 := hown.keep (new_bel wr (.cells #[.int .i64 (v : Int)] 3))
      have hB1 : Below w.heap.size w (wr.alloc (.cells #[.int .i64 (v : Int)] 3)) := bel_alloc hbel _
      have hsz : w.heap.size ≤ (wr.alloc (.cells #[.int .i64 (v : Int)] 3)).heap.size := hB1.size
      have hlen : (Sh.nums (l.take k)).length + 1 ≤ 100000 := by rw [HLK.out]; omega
      have hkk : (Sh.nums (l.take k)).length + 1 = k + 1 := by rw [HLK.out]
      obtain ⟨L2, HL2⟩ : ∃ L2, Hid (Sh.nums (l.take (k + 1)) = L2) := ⟨_, rfl⟩
      have hcat := HST.out.trans HL2.out
      generalize Sh.nums (l.take k) = L at *
      go_wp2_with fail
      refine by_same HN9.out ?_
      go_wp2_with (at_builtin; refine wpList_appK (intS .i64) (by simp [Region.wanted]) (.tmp 24) (.tmp 26) 31 rfl w.heap.size 3 i0 (.int .i64 0) 8 Tryz.underlying31 hi0 hi1 hi2 hi3 rfl Nat.one_pos (by omega) (by rfl) hown1 (by rfl) hsrc.1 hsrc.2 hlen hsz (k + 1) hkk L2 hcat ?_; intro a4 c4 u4 ho4 hg4 hb4 hat4)
      go_roundw
      case rel => exact ⟨k + 1, a4, c4, by omega, rfl, by go_num, by rw [HL2.out]; exact ho4, hB1.trans hb4⟩
      case measure => first | (simp [intOf]; done) | (simp [intOf]; omega)
    · have hkn : k = n := by omega
      subst hkn
      have hli : ¬ (k : Int) < (k : Int) := by omega
      rw [List.take_of_length_le (by rw [HLN.out]; exact Nat.le_refl _)] at hown
      go_wp2
      go_ret2
      exact ⟨hbel, fa, fc, rfl, hown⟩
set_option maxRecDepth 100000 in
set_option maxHeartbeats 4000000 in
theorem rnumbers_no (a : Option Addr) (n c : Nat) (l : List ByteArray) (w : World) (h : bagS.rep w everywhere [.slice a n c] l) (hn : n ≤ 3000) (hz : ∀ x ∈ l, x.size ≤ 100000) (m : Nat) (hm : m < n) (hbad : ¬ Sh.Num (l.getD m noText).data.toList) (hy : ∀ j, j < m → Sh.Num (l.getD j noText).data.toList) :
    Calls Tryz.prog 18 #[.slice a n c] w fun e w' => Below w.heap.size w w' ∧ e = .returned (.tuple #[.slice none 0 0, .bool false]) := by
  obtain ⟨i0, hi0, hi1, hi2, hi3⟩ := info_parts Tryz.infoInt
  have HT : Hid (Texts w a n l) := Texts.of_rep h
  have HLN : Hid (l.length = n) := (Texts.of_rep h).1
  have HZ : Hid _ := hz
  have HY : Hid _ := hy
  have HBAD : Hid _ := hbad
  clear h hz hy hbad
  go_enter Tryz.func18, Tryz.ntmps18
  go_wp2
  go_loopw [4, 5] (fun v i wr => ∃ (k : Nat) (a' : Option Addr) (c' : Nat), k ≤ m ∧ v = .slice a' k c' ∧ i = .int .i64 k ∧ Own (intS .i64) wr w.heap.size 3 (.slice a' k c') (Sh.nums (l.take k)) ∧ Below w.heap.size w wr) (fun _ i _ => m - (intOf i).toNat)
  case atStart => exact ⟨0, none, 0, Nat.zero_le _, rfl, rfl, by rw [List.take_zero]; exact Own.nil _ _ _ _, Below.refl _ _⟩
  case round =>
    obtain ⟨k, fa, fc, hk, rfl, rfl, hown, hbel⟩ := hrel
    have hlt : k < n := by omega
    have hkl : k < l.length := by rw [HLN.out]; exact hlt
    obtain ⟨b1, o1, rfl, hb1, hc1⟩ := (HT.out.keep hbel).at hlt
    have hli : (k : Int) < (n : Int) := by omega
    have hz0 : (0 : Int) ≤ (k : Int) := by omega
    have HZX : Hid _ := HZ.out _ (Sh.getD_mem l hkl)
    by_cases hkm : k < m
    · have HST : Hid _ := Sh.nums_step l hkl
      have HNX : Hid _ := HY.out _ hkm
      have HLK : Hid ((Sh.nums (l.take k)).length = k) := by show _ = _; rw [Sh.nums_len, List.length_take]; omega
      clear HBAD
      generalize l.getD k noText = x at *
      have HN9 : Hid (Calls _ _ _ _ _) := rnumber x HZX.out (Sh.val x.data.toList) true (fun _ => ⟨rfl, rfl⟩) (fun h => absurd HNX.out h) wr
      have hv : Sh.val x.data.toList < 1000000000 := by rw [← Sh.num_yes HNX.out]; exact Sh.num_lt HNX.out
      generalize Sh.val x.data.toList = v at *
      have hsrc := hown.esrc (F := fun _ => False) (cs := [.int .i64 (v : Int)]) (x := (v : Int)) (e := 3) rfl (fun b hb => hb.elim)
      have hown1 := hown.keep (new_bel wr (.cells #[.int .i64 (v : Int)] 3))
      have hB1 : Below w.heap.size w (wr.alloc (.cells #[.int .i64 (v : Int)] 3)) := bel_alloc hbel _
      have hsz : w.heap.size ≤ (wr.alloc (.cells #[.int .i64 (v : Int)] 3)).heap.size := hB1.size
      have hlen : (Sh.nums (l.take k)).length + 1 ≤ 100000 := by rw [HLK.out]; omega
      have hkk : (Sh.nums (l.take k)).length + 1 = k + 1 := by rw [HLK.out]
      obtain ⟨L2, HL2⟩ : ∃ L2, Hid (Sh.nums (l.take (k + 1)) = L2) := ⟨_, rfl⟩
      have hcat := HST.out.trans HL2.out
      generalize Sh.nums (l.take k) = L at *
      go_wp2_with fail
      refine by_same HN9.out ?_
      go_wp2_with (at_builtin; refine wpList_appK (intS .i64) (by simp [Region.wanted]) (.tmp 24) (.tmp 26) 31 rfl w.heap.size 3 i0 (.int .i64 0) 8 Tryz.underlying31 hi0 hi1 hi2 hi3 rfl Nat.one_pos (by omega) (by rfl) hown1 (by rfl) hsrc.1 hsrc.2 hlen hsz (k + 1) hkk L2 hcat ?_; intro a4 c4 u4 ho4 hg4 hb4 hat4)
      go_roundw
      case rel => exact ⟨k + 1, a4, c4, by omega, rfl, by go_num, by rw [HL2.out]; exact ho4, hB1.trans hb4⟩
      case measure => first | (simp [intOf]; done) | (simp [intOf]; omega)
    · have hkm2 : k = m := by omega
      subst hkm2
      have HN9 : Hid (Calls _ _ _ _ _) := rnumber (l.getD k noText) HZX.out 0 false (fun h => absurd h HBAD.out) (fun _ => ⟨rfl, rfl⟩) wr
      generalize l.getD k noText = x at *
      go_wp2_with fail
      refine by_same HN9.out ?_
      go_wp2
      go_ret2
      exact ⟨hbel, rfl⟩

end Go.Proofs.YtokfcjgfpchffaaGreatDoor

/- What the document's Digits of layer 20 does when called. -/
namespace Go.Proofs.YtokfcjgfpchffaaGreatDoor
open Go.ChangeShapes Go.WideShapes Go.ChangeAt Go.RowKit

theorem Sh.dig_last (m : Nat) : Sh.dig m = (Sh.dig m).dropLast ++ [UInt8.ofNat (48 + m % 10)] := by
  by_cases h : m ≤ 9
  · rw [Sh.dig_low h, show m % 10 = m by omega]
    rfl
  · rw [Sh.dig_high h, List.dropLast_concat]
theorem Sh.dig_front {m : Nat} (h : ¬ m ≤ 9) : (Sh.dig m).dropLast = Sh.dig (m / 10) := by rw [Sh.dig_high h, List.dropLast_concat]
theorem Sh.dig_none {m : Nat} (h : m ≤ 9) : (Sh.dig m).dropLast = [] := by rw [Sh.dig_low h]; rfl
theorem Sh.dig_len (n : Nat) : (Sh.dig n).length ≤ n + 1 := by
  induction n using Nat.strongRecOn with
  | ind n ih =>
    by_cases h : n ≤ 9
    · rw [Sh.dig_low h]
      show 1 ≤ n + 1
      omega
    · rw [Sh.dig_high h, List.length_append]
      have := ih (n / 10) (by omega)
      show _ + 1 ≤ n + 1
      omega
/-- The byte of a digit. -/
theorem Sh.dig_byte (d : Nat) (h : d ≤ 9) : (UInt8.ofNat (48 + d)).toNat = 48 + d := by rw [UInt8.toNat_ofNat']; omega
theorem Sh.one_back {W : World} {b : Nat} {x : UInt8} (h : W.heap[b]? = some (.cells #[.int .u8 (x.toNat : Nat)] 5 (0, 0))) : (convert 43 9 (.slice (some ⟨b, 0, none⟩) 1 1)).run Tryz.prog W = .ok (.string ⟨#[x]⟩) W := by
  refine run_convert_bytes_back (P := Tryz.prog) W 43 9 5 ⟨b, 0, none⟩ 1 [x] Tryz.underlying43 Tryz.underlying5 Tryz.underlying9 fun j hj => ?_
  rw [show (⟨b, 0, none⟩ : Addr).add j = ⟨b, j, none⟩ by unfold Addr.add; split <;> simp_all, cell_of_row W b j _ _ _ h]
  match j, hj with
  | 0, _ => rfl
/-- The same of a digit, as the walk has it. -/
theorem Sh.digit_back (w : World) (d : Nat) (h : d ≤ 9) : (convert 43 9 (.slice (some ⟨w.heap.size, 0, none⟩) 1 1)).run Tryz.prog (w.alloc (.cells #[.int .u8 (48 + (d : Int))] 5)) = .ok (.string ⟨#[UInt8.ofNat (48 + d)]⟩) (w.alloc (.cells #[.int .u8 (48 + (d : Int))] 5)) := by
  have e : (48 + (d : Int)) = ((UInt8.ofNat (48 + d)).toNat : Nat) := by rw [Sh.dig_byte d h]; omega
  rw [e]
  exact Sh.one_back (heap_new w _ _ rfl)
set_option maxRecDepth 100000 in
set_option maxHeartbeats 4000000 in
theorem rdigits (n : Nat) (hn : n ≤ 4000000000) (w : World) :
    Calls Tryz.prog 16 #[.int .i64 (n : Int)] w fun e w' => e = .returned (.string ⟨(Sh.dig n).toArray⟩) ∧ Below w.heap.size w w' := by
  have hback := Sh.digit_back w (n % 10) (by omega)
  have hrem : (n : Int).tmod 10 = ((n % 10 : Nat) : Int) := by rw [Int.tmod_eq_emod_of_nonneg (by omega)]; rfl
  have hd9 : n % 10 ≤ 9 := by omega
  have HINIT : Hid (Sh.dig n = (Sh.dig n).dropLast ++ [UInt8.ofNat (48 + n % 10)]) := Sh.dig_last n
  have hw8 : IntKind.u8.wrap (48 + ((n % 10 : Nat) : Int)) = 48 + ((n % 10 : Nat) : Int) := by rw [IntKind.wrap_u8]; omega
  have HLEN : Hid ((Sh.dig n).length ≤ n + 1) := Sh.dig_len n
  generalize n % 10 = d at *
  obtain ⟨x, hx⟩ : ∃ x, UInt8.ofNat (48 + d) = x := ⟨_, rfl⟩
  rw [hx] at hback HINIT
  clear hx
  have hB := new_bel w (.cells #[.int .u8 (48 + (d : Int))] 5)
  go_enter Tryz.func16, Tryz.ntmps16
  go_wp2
  clear hback hrem hw8
  go_loopw [0, 3] (fun kv tv wr => ∃ (k : Nat) (T : List UInt8), k ≤ n ∧ kv = .int .i64 k ∧ tv = .string ⟨T.toArray⟩ ∧ Hid (Sh.dig n = (Sh.dig k).dropLast ++ T) ∧ Below w.heap.size w wr) (fun kv _ _ => (intOf kv).toNat)
  case atStart => exact ⟨n, [x], Nat.le_refl _, rfl, rfl, HINIT, hB⟩
  case round =>
    clear HINIT hB
    obtain ⟨k, T, hk, rfl, rfl, HT, hbel⟩ := hrel
    by_cases h9 : 9 < k
    · have h9i : (9 : Int) < (k : Int) := by omega
      obtain ⟨q, hq⟩ : ∃ q, k / 10 = q := ⟨_, rfl⟩
      have hqk : q < k := by omega
      have hquo : (k : Int).tdiv 10 = (q : Int) := by rw [Int.tdiv_eq_ediv_of_nonneg (by omega)]; omega
      have HF : Hid (Sh.dig n = (Sh.dig q).dropLast ++ (UInt8.ofNat (48 + q % 10) :: T)) := by
        show _ = _
        rw [HT.out, Sh.dig_front (by omega), hq, List.append_cons]
        congr 1
        exact Sh.dig_last q
      have hback := Sh.digit_back wr (q % 10) (by omega)
      have hrem : (q : Int).tmod 10 = ((q % 10 : Nat) : Int) := by rw [Int.tmod_eq_emod_of_nonneg (by omega)]; rfl
      have hd9 : q % 10 ≤ 9 := by omega
      have hw8 : IntKind.u8.wrap (48 + ((q % 10 : Nat) : Int)) = 48 + ((q % 10 : Nat) : Int) := by rw [IntKind.wrap_u8]; omega
      have HTL : Hid (T.length ≤ n + 1) := by
        have h1 := HLEN.out
        rw [HT.out, List.length_append] at h1
        exact Nat.le_trans (Nat.le_add_left _ _) h1
      clear hq HT
      generalize q % 10 = d' at *
      obtain ⟨D, hD⟩ : ∃ D : ByteArray, (⟨#[UInt8.ofNat (48 + d')]⟩ : ByteArray) = D := ⟨_, rfl⟩
      obtain ⟨S, hS⟩ : ∃ S : ByteArray, (⟨T.toArray⟩ : ByteArray) = S := ⟨_, rfl⟩
      obtain ⟨R, hR⟩ : ∃ R : ByteArray, D ++ S = R := ⟨_, rfl⟩
      have HR : Hid (R = ⟨(UInt8.ofNat (48 + d') :: T).toArray⟩) := by
        show _ = _
        rw [← hR, ← hD, ← hS]
        exact bcat [UInt8.ofNat (48 + d')] T
      have hsz : ¬ (9223372036854775807 < D.size + S.size) := by
        have h1 : D.size = 1 := by rw [← hD]; rfl
        have h2 : S.size = T.length := by rw [← hS]; exact (list_size _).symm.trans (by simp)
        have := HTL.out
        omega
      rw [hD] at hback
      rw [hS]
      clear hD hS
      have hB1 := bel_alloc hbel (.cells #[.int .u8 (48 + (d' : Int))] 5)
      clear hbel
      go_wp2
      go_roundw
      case rel => exact ⟨q, _, by omega, rfl, by rw [HR.out], HF, hB1⟩
      case measure => first | (simp [intOf]; done) | (simp [intOf]; omega)
    · have h9i : ¬ (9 : Int) < (k : Int) := by omega
      have HE : Hid (T = Sh.dig n) := by
        show _ = _
        rw [HT.out, Sh.dig_none (by omega)]
        rfl
      have hx := HE.out
      subst hx
      go_wp2
      go_ret
      exact ⟨rfl, hbel⟩

end Go.Proofs.YtokfcjgfpchffaaGreatDoor
