/- What Cut of package chunk does when called: pieces of a text. -/
import Derived.Test.YtpfhjdlmjehfnaaJoinA
import Derived.Test.YtpfhjdlmjehfnaaTk
import Derived.Test.YtpfhjdlmjehfnaaAk
namespace Go.Proofs.Ytpfhjdlmjehfnaa
open Go.ChangeShapes Go.WideShapes Go.ChangeAt Go.RowKit

def sizeOf : Value → Nat
  | .string t => t.size
  | _ => 0
set_option maxRecDepth 100000 in
theorem kcut_no (s : ByteArray) (size : Int) (h : size < 1 ∨ 64 < size) (w : World) :
    Calls Try.prog 28 #[.string s, .int .i64 size] w fun e w' => e = .returned (.tuple #[.slice none 0 0, .bool false]) ∧ w' = w := by
  by_cases h1 : size < 1
  · go_enter Try.func28, Try.ntmps28
    go_wp2
    go_ret2
    exact ⟨rfl, rfl⟩
  · have h2 : 64 < size := by omega
    go_enter Try.func28, Try.ntmps28
    go_wp2
    go_ret2
    exact ⟨rfl, rfl⟩

set_option maxRecDepth 100000 in
theorem kcut (s : ByteArray) (size : Nat) (h1 : 1 ≤ size) (h2 : size ≤ 64) (hs : s.size ≤ 100000) (n : Nat) (hn : Ck.num s.size size = n) (w : World) :
    Calls Try.prog 28 #[.string s, .int .i64 (size : Int)] w fun e w' => Below w.heap.size w w' ∧ ∃ a c, e = .returned (.tuple #[.slice a n c, .bool true]) ∧ Own strS w' w.heap.size 9 (.slice a n c) (texts (Ck.cut s.data.toList size)) := by
  obtain ⟨i0, hi0, hi1, hi2, hi3⟩ := info_parts Try.infoText
  have q1 : ¬ (size : Int) < 1 := by omega
  have q2 : ¬ (64 : Int) < (size : Int) := by omega
  have HS : Hid (s.data.toList.length = s.size) := list_size s
  have HN : Hid (Ck.num s.size size = n) := hn
  have HC : Hid (texts (Ck.cut s.data.toList size) = texts (Ck.cutTo s.data.toList size n)) := by
    show _ = _
    unfold Ck.cut
    rw [HS.out, hn]
  have HM : Hid (∀ i, i < n ↔ i * size < s.size) := fun i => by
    have := Ck.num_lt (n := s.size) (i := i) (show 0 < size by omega)
    rw [hn] at this
    exact this
  clear hn
  go_enter Try.func28, Try.ntmps28
  go_wp2
  go_loopw [0, 6] (fun sv pv wr => ∃ (i : Nat) (t : ByteArray) (ap : Option Addr) (cp : Nat), sv = .string t ∧ pv = .slice ap i cp ∧ Hid (i ≤ n ∧ t.data.toList = s.data.toList.drop (i * size)) ∧ Own strS wr w.heap.size 9 (.slice ap i cp) (texts (Ck.cutTo s.data.toList size i)) ∧ Below w.heap.size w wr) (fun sv _ _ => sizeOf sv)
  case atStart => exact ⟨0, s, none, 0, rfl, rfl, ⟨Nat.zero_le _, by rw [Nat.zero_mul, List.drop_zero]⟩, Own.nil _ _ _ _, Below.refl _ _⟩
  case round =>
    obtain ⟨i, t, ap, cp, rfl, rfl, HT, hown, hbel⟩ := hrel
    have HTS : Hid (t.size = s.size - i * size) := by
      show _ = _
      have := congrArg List.length HT.out.2
      rw [list_size, List.length_drop, list_size] at this
      exact this
    by_cases h0 : t.size = 0
    · have e0 : (t.toList == ([] : List UInt8)) = true := str_none h0
      have HI : Hid (i = n) := by
        show _ = _
        have h3 := HTS.out
        have h4 := HT.out.1
        have h5 := HM.out i
        rcases Nat.lt_or_ge i n with h6 | h6
        · have := h5.1 h6; omega
        · omega
      obtain rfl := HI.out
      go_wp2
      go_ret2
      exact ⟨hbel, ap, cp, rfl, by rw [HC.out]; exact hown⟩
    · have e0 : (t.toList == ([] : List UInt8)) = false := str_some h0
      have HI : Hid (i < n) := by
        show _ < _
        have h3 := HTS.out
        exact (HM.out i).2 (by omega)
      obtain ⟨M, hM⟩ : ∃ M, min size t.size = M := ⟨_, rfl⟩
      have HMM : Hid (min size t.size = M) := hM
      have hM1 : M ≤ t.size := by omega
      have hM0 : 0 < M := by omega
      clear hM
      obtain ⟨D, hD, hDl, hDs⟩ := cut_to t hM1
      obtain ⟨E, hE, hEl, hEs⟩ := cut_from t hM1
      have HP : Hid (texts (Ck.cutTo s.data.toList size i) ++ [D] = texts (Ck.cutTo s.data.toList size (i + 1))) := by
        show _ = _
        have e : D = ⟨(Ck.piece s.data.toList size i).toArray⟩ := by
          apply text_is
          rw [hDl]
          unfold Ck.piece
          rw [← HT.out.2, ← HMM.out]
          rcases Nat.le_total size t.size with h | h
          · rw [Nat.min_eq_left h]
          · rw [Nat.min_eq_right h, List.take_of_length_le (by rw [list_size]; omega), List.take_of_length_le (by rw [list_size]; omega)]
        rw [e, Ck.cutTo_succ]
        unfold texts
        rw [List.map_append]
        rfl
      have HE : Hid (E.data.toList = s.data.toList.drop ((i + 1) * size)) := by
        show _ = _
        rw [hEl, HT.out.2, List.drop_drop, Nat.add_mul, Nat.one_mul]
        rcases Nat.le_total size t.size with h | h
        · rw [← HMM.out, Nat.min_eq_left h]
        · have h7 := HTS.out
          rw [List.drop_of_length_le (by rw [HS.out, ← HMM.out, Nat.min_eq_right h]; omega), List.drop_of_length_le (by rw [HS.out]; omega)]
      have HIS : Hid (i + 1 ≤ n ∧ i ≤ 100000) := by
        refine ⟨HI.out, ?_⟩
        have := (HM.out i).1 HI.out
        have : i * 1 ≤ i * size := Nat.mul_le_mul_left i h1
        omega
      have HLN : Hid ((texts (Ck.cutTo s.data.toList size i)).length = i) := by show _ = _; rw [texts_len, Ck.cutTo_len]
      obtain ⟨hsrc, hoff⟩ := Own.text D hown
      have hown1 := hown.keep (new_bel wr (.cells #[.string D] 9))
      have hB1 : Below w.heap.size w (wr.alloc (.cells #[.string D] 9)) := bel_alloc hbel _
      have hsz : w.heap.size ≤ (wr.alloc (.cells #[.string D] 9)).heap.size := hB1.size
      have hlen : (texts (Ck.cutTo s.data.toList size i)).length + 1 ≤ 100000 := by rw [HLN.out]; have := HIS.out; have := HI.out; have h5 := (HM.out i).1 HI.out; have : i * 1 ≤ i * size := Nat.mul_le_mul_left i h1; omega
      have hk : (texts (Ck.cutTo s.data.toList size i)).length + 1 = i + 1 := by rw [HLN.out]
      obtain ⟨L2, HL2⟩ : ∃ L2, Hid (texts (Ck.cutTo s.data.toList size (i + 1)) = L2) := ⟨_, rfl⟩
      have hcat := HP.out.trans HL2.out
      generalize texts (Ck.cutTo s.data.toList size i) = L at *
      clear hDl hEl
      have HMS : Hid (sizeOf (.string E) < sizeOf (.string t)) := by show E.size < t.size; omega
      have hmin : min (size : Int) (t.size : Int) = (M : Int) := by have := HMM.out; omega
      go_wp2_with (at_builtin; refine wpList_appK strS (by simp [Region.wanted]) (.tmp 20) (.tmp 24) 28 rfl w.heap.size 9 i0 (.string noText) 16 Try.underlying28 hi0 hi1 hi2 hi3 rfl Nat.one_pos (by omega) (by rfl) hown1 (by rfl) hsrc hoff hlen hsz (i + 1) hk L2 hcat ?_; intro a4 c4 u4 ho4 hg4 hb4 hat4)
      go_roundw
      case rel => exact ⟨i + 1, E, a4, c4, rfl, rfl, ⟨HIS.out.1, HE.out⟩, by rw [HL2.out]; exact ho4, hB1.trans hb4⟩
      case measure => exact HMS.out

end Go.Proofs.Ytpfhjdlmjehfnaa
