/- What bag.Twice, the document's answers for layer 8 and the fixed answer of its laws do when called. -/
import Derived.Test.YtkpbkknneebdmaaBagB
namespace Go.Proofs.Ytkpbkknneebdmaa
open Go.ChangeShapes Go.WideShapes Go.ChangeAt Go.RowKit

theorem btwice_out (a : Option Addr) (n c : Nat) (l : List ByteArray) (i : Int) (w : World) (ha : bagS.rep w everywhere [.slice a n c] l) (hn : n ≤ 50000) (hi : ¬ (0 ≤ i ∧ i < (n : Int))) :
    Calls Try.prog 11 #[.slice a n c, .int .i64 i] w fun e w' => Below w.heap.size w w' ∧ ∃ a' c', e = .returned (.slice a' n c') ∧ bagS.rep w' everywhere [.slice a' n c'] l := by
  have HA : Hid (bagS.rep w everywhere [.slice a n c] l) := ha
  have HI : Hid (¬ (0 ≤ i ∧ i < (n : Int))) := hi
  clear hi ha
  go_enter Try.func11, Try.ntmps11
  go_wp2_with (go_at_call 15; refine by_says (has _ _ _ _ _) (fun h => absurd h HI.out) (fun _ => ?_))
  refine (concat_one a n c l w _ HA.out hn).mono ?_
  rintro e u1 ⟨hb1, a1, c1, rfl, hr1⟩
  go_wp2
  go_ret
  exact ⟨hb1, a1, c1, rfl, hr1⟩

theorem btwice_in (a : Option Addr) (n c : Nat) (l : List ByteArray) (k : Nat) (w : World) (ha : bagS.rep w everywhere [.slice a n c] l) (hn : n ≤ 50000) (hk : k < n) :
    Calls Try.prog 11 #[.slice a n c, .int .i64 k] w fun e w' => Below w.heap.size w w' ∧ ∃ a' c', e = .returned (.slice a' (Bx.put l (l.getD k noText)).length c') ∧ bagS.rep w' everywhere [.slice a' (Bx.put l (l.getD k noText)).length c'] (Bx.put l (l.getD k noText)) := by
  have HP : Hid (∀ x, Calls Try.prog 14 #[.slice a n c, .string x] w fun e w' => Below w.heap.size w w' ∧ ∃ a' c', e = .returned (.slice a' (Bx.put l x).length c') ∧ bagS.rep w' everywhere [.slice a' (Bx.put l x).length c'] (Bx.put l x)) := fun x => bput a n c l x w ha hn
  obtain ⟨b1, o1, rfl, hb1, hcell⟩ := (Texts.of_rep ha).at hk
  have HI : Hid (0 ≤ (k : Int) ∧ (k : Int) < (n : Int)) := ⟨by omega, by omega⟩
  have hkn : (k : Int) < (n : Int) := by omega
  clear ha
  generalize l.getD k noText = x at *
  go_enter Try.func11, Try.ntmps11
  go_wp2_with (go_at_call 15; refine by_says (has _ _ _ _ _) (fun _ => ?_) (fun h => absurd HI.out h))
  refine Calls.mono (HP.out x) ?_
  rintro e u1 ⟨hb1, a1, c1, rfl, hr1⟩
  go_wp2
  go_ret
  exact ⟨hb1, a1, c1, rfl, hr1⟩

theorem rput (a : Option Addr) (n c : Nat) (l : List ByteArray) (s : ByteArray) (w : World) (ha : bagS.rep w everywhere [.slice a n c] l) (hn : n ≤ 50000) :
    Calls Try.prog 12 #[.slice a n c, .string s] w fun e w' => Below w.heap.size w w' ∧ ∃ a' c', e = .returned (.slice a' (Bx.put l s).length c') ∧ bagS.rep w' everywhere [.slice a' (Bx.put l s).length c'] (Bx.put l s) := by
  obtain ⟨i0, hi0, hi1, hi2, hi3⟩ := info_parts Try.infoText
  have hl := (sliceS_len ha).1
  have hA := Shape.low ha
  by_cases hg : n > 199
  · rw [Bx.put_full (by omega), hl]
    have hi : (199 : Int) < (n : Int) := by omega
    go_enter Try.func12, Try.ntmps12
    go_wp2_with (at_builtin; refine wpList_app strS (by simp [Region.wanted]) (.tmp 6) (.tmp 7) 22 rfl w.heap.size 9 i0 (.string noText) 16 Try.underlying22 hi0 hi1 hi2 hi3 rfl Nat.one_pos (by omega) (by rfl) (Own.nil strS w w.heap.size 9) (by rfl) hA (fun b _ h => by cases h) (by show 0 + n ≤ _; omega) (Nat.le_refl _) ?_; intro a4 c4 u4 ho4 hg4 hb4 hat4; rw [show ([] : List ByteArray).length + n = n by simp] at ho4 ⊢)
    go_ret
    exact ⟨hb4, a4, c4, rfl, ho4.is⟩
  · rw [Bx.put_room (by omega), show (l ++ [s]).length = n + 1 by simp [hl]]
    have hi : ¬ (199 : Int) < (n : Int) := by omega
    have HL : Hid (l.length = n) := hl
    clear hl
    go_enter Try.func12, Try.ntmps12
    go_wp2_with (first
      | (at_builtin; refine wpList_app strS (by simp [Region.wanted]) (.tmp 6) (.tmp 7) 22 rfl w.heap.size 9 i0 (.string noText) 16 Try.underlying22 hi0 hi1 hi2 hi3 rfl Nat.one_pos (by omega) (by rfl) (Own.nil strS w w.heap.size 9) (by rfl) hA (fun b _ h => by cases h) (by show 0 + n ≤ _; omega) (Nat.le_refl _) ?_; intro a4 c4 u4 ho4 hg4 hb4 hat4; rw [show ([] : List ByteArray).length + n = n by simp] at ho4 ⊢; rw [List.nil_append] at ho4)
      | (at_builtin; refine wpList_app strS (by simp [Region.wanted]) (.tmp 13) (.tmp 15) 22 rfl w.heap.size 9 i0 (.string noText) 16 Try.underlying22 hi0 hi1 hi2 hi3 rfl Nat.one_pos (by omega) (by rfl) (ho4.keep (new_bel u4 _)) (by rfl) (ho4.text s).1 (ho4.text s).2 (by rw [HL.out]; omega) (by have := hb4.size; simp; omega) ?_; intro a6 c6 u6 ho6 hg6 hb6 hat6; rw [HL.out] at ho6 ⊢))
    go_ret
    exact ⟨(bel_alloc hb4 _).trans hb6, a6, c6, rfl, ho6.is⟩

theorem rwithout (a : Option Addr) (n c : Nat) (l : List ByteArray) (i : Int) (k : Nat) (w : World) (ha : bagS.rep w everywhere [.slice a n c] l) (hn : n ≤ 50000) (hk : ∀ j : Nat, j < n → ((j : Int) = i ↔ j = k)) :
    Calls Try.prog 13 #[.slice a n c, .int .i64 i] w fun e w' => Below w.heap.size w w' ∧ ∃ a' c', e = .returned (.slice a' (Bx.without l k).length c') ∧ bagS.rep w' everywhere [.slice a' (Bx.without l k).length c'] (Bx.without l k) := by
  obtain ⟨i0, hi0, hi1, hi2, hi3⟩ := info_parts Try.infoText
  have HL : Hid (l.length = n) := (sliceS_len ha).1
  have HT := Texts.of_rep ha
  have HK : Hid (∀ j : Nat, j < n → ((j : Int) = i ↔ j = k)) := hk
  clear ha hk
  go_enter Try.func13, Try.ntmps13
  go_wp2
  go_loopw [5, 6] (fun v i wr => ∃ j z : Nat, ∃ a2 c2, j ≤ n ∧ i = .int .i64 j ∧ v = .slice a2 z c2 ∧ Own strS wr w.heap.size 9 (.slice a2 z c2) (Bx.without (l.take j) k) ∧ Below w.heap.size w wr) (fun _ i _ => n - (intOf i).toNat)
  case atStart => exact ⟨0, 0, none, 0, Nat.zero_le _, rfl, rfl, by rw [List.take_zero]; unfold Bx.without; simpa using Own.nil strS w w.heap.size 9, Below.refl _ _⟩
  case round =>
    obtain ⟨j, z, a2, c2, hj, rfl, rfl, ho2, hb2⟩ := hrel
    by_cases hlt : j < n
    · have hli : (j : Int) < (n : Int) := by omega
      have HS : Hid (Bx.without (l.take (j + 1)) k = if j = k then Bx.without (l.take j) k else Bx.without (l.take j) k ++ [l.getD j noText]) := Bx.without_step k j (by have := HL.out; omega)
      have HZ : Hid ((Bx.without (l.take j) k).length = z) := (sliceS_len ho2.is).1
      have HZ2 : Hid (z ≤ 60000) := by
        show _ ≤ _
        rw [← HZ.out]
        unfold Bx.without
        rw [List.length_append, List.length_take, List.length_drop, List.length_take]
        omega
      by_cases he : j = k
      · have e0 : ((j : Int) != i) = false := by rw [bne_eq_false_iff_eq]; exact (HK.out j hlt).2 he
        have HE : Hid (j = k) := he
        clear he
        go_wp2
        go_roundw
        case rel => exact ⟨j + 1, z, a2, c2, by omega, by go_num, rfl, by rw [HS.out, if_pos HE.out]; exact ho2, hb2⟩
        case measure => simp [intOf]; omega
      · have e0 : ((j : Int) != i) = true := by rw [bne_iff_ne]; exact fun h => he ((HK.out j hlt).1 h)
        have HE : Hid (¬ j = k) := he
        clear he
        obtain ⟨b1, o1, rfl, hb1, hcell⟩ := (HT.keep hb2).at hlt
        generalize Bx.without (l.take j) k = xs at *
        generalize l.getD j noText = x at *
        go_wp2_with (at_builtin; refine wpList_app strS (by simp [Region.wanted]) (.tmp 16) (.tmp 21) 22 rfl w.heap.size 9 i0 (.string noText) 16 Try.underlying22 hi0 hi1 hi2 hi3 rfl Nat.one_pos (by omega) (by rfl) (ho2.keep (new_bel wr _)) (by rfl) (ho2.text x).1 (ho2.text x).2 (by rw [HZ.out]; have := HZ2.out; omega) (by have := hb2.size; simp; omega) ?_; intro a4 c4 u4 ho4 hg4 hb4 hat4; rw [HZ.out] at ho4 ⊢)
        have hB4 := (bel_alloc hb2 _).trans hb4
        go_roundw
        case rel => exact ⟨j + 1, _, a4, c4, by omega, by go_num, rfl, by rw [HS.out, if_neg HE.out]; exact ho4, hB4⟩
        case measure => simp [intOf]; omega
    · have hjn : j = n := by omega
      subst hjn
      have hli : ¬ (j : Int) < (j : Int) := by omega
      rw [List.take_of_length_le (by have := HL.out; omega)] at ho2
      have hz := (sliceS_len ho2.is).1
      subst hz
      go_wp2
      go_ret
      exact ⟨hb2, a2, c2, rfl, ho2.is⟩

theorem rsame (a : Option Addr) (n c : Nat) (l : List ByteArray) (b : Option Addr) (m d : Nat) (r : List ByteArray) (w : World) (ha : bagS.rep w everywhere [.slice a n c] l) (hb : bagS.rep w everywhere [.slice b m d] r) (hn : n ≤ 50000) :
    Calls Try.prog 10 #[.slice a n c, .slice b m d] w fun e w' => Says e (l = r) ∧ Below w.heap.size w w' := by
  have HL : Hid (l.length = n) := (sliceS_len ha).1
  have HR : Hid (r.length = m) := (sliceS_len hb).1
  have hTa := Texts.of_rep ha
  have hTb := Texts.of_rep hb
  clear ha hb
  by_cases hnm : n = m
  · subst hnm
    have q : ((n : Int) != (n : Int)) = false := by simp
    go_enter Try.func10, Try.ntmps10
    go_wp2
    go_loopw [5] (fun i wr => ∃ k : Nat, k ≤ n ∧ i = .int .i64 k ∧ Below w.heap.size w wr ∧ Hid (∀ j, j < k → l.getD j noText = r.getD j noText)) (fun i _ => n - (intOf i).toNat)
    case atStart => exact ⟨0, Nat.zero_le _, rfl, Below.refl _ _, fun j h => by omega⟩
    case round =>
      obtain ⟨k, hk, rfl, hbel, HJ⟩ := hrel
      by_cases hlt : k < n
      · have hli : (k : Int) < (n : Int) := by omega
        obtain ⟨b1, o1, rfl, hb1, hc1⟩ := (hTa.keep hbel).at hlt
        obtain ⟨b2, o2, rfl, hb2, hc2⟩ := (hTb.keep hbel).at hlt
        have HS : Hid (l.getD k noText = r.getD k noText → ∀ j, j < k + 1 → l.getD j noText = r.getD j noText) := by
          intro h j hj
          rcases Nat.lt_or_ge j k with h1 | h1
          · exact HJ.out j h1
          · have e : j = k := by omega
            subst e; exact h
        have HN : Hid (l = r → l.getD k noText = r.getD k noText) := fun h => by rw [h]
        generalize l.getD k noText = x at *
        generalize r.getD k noText = y at *
        have hd1 : ∀ x : Later wr, x.u.cell? ⟨b1, o1 + k, none⟩ = _ := fun x => x.cell hc1
        have hd2 : ∀ x : Later wr, x.u.cell? ⟨b2, o2 + k, none⟩ = _ := fun x => x.cell hc2
        have hne9 : Nonempty (Later wr) := Later.there wr
        clear hc1 hc2
        by_cases hxy : x = y
        · have q2 : (x.toList == y.toList) = true := text_eq hxy
          have HXY : Hid (x = y) := hxy
          clear hxy
          go_wp2
          refine region_later (by kernel_rfl) (by kernel_rfl) ?_
          repeat (go_big_quiet_step (fail))
          refine wpQuiet_nil ?_
          intro x9
          obtain ⟨W9, hb9⟩ := x9
          have hbel9 := bel_then hbel hb9
          go_wp2
          go_roundw
          case rel => exact ⟨k + 1, by omega, by go_num, hbel9, HS.out HXY.out⟩
          case measure => simp [intOf]; omega
        · have q2 : (x.toList == y.toList) = false := text_ne hxy
          have HXY : Hid (¬ x = y) := hxy
          clear hxy
          go_wp2
          refine region_later (by kernel_rfl) (by kernel_rfl) ?_
          repeat (go_big_quiet_step (fail))
          refine wpQuiet_nil ?_
          intro x9
          obtain ⟨W9, hb9⟩ := x9
          have hbel9 := bel_then hbel hb9
          go_wp2
          go_ret
          exact ⟨Says.no fun h => HXY.out (HN.out h), hbel9⟩
      · have hkn : k = n := by omega
        subst hkn
        have hli : ¬ (k : Int) < (k : Int) := by omega
        go_wp2
        go_ret
        exact ⟨Says.yes (Bx.like (by rw [HL.out, HR.out]) (by rw [HL.out]; exact HJ.out)), hbel⟩
  · have q : ((n : Int) != (m : Int)) = true := by rw [bne_iff_ne]; omega
    go_enter Try.func10, Try.ntmps10
    go_wp2
    go_ret
    exact ⟨Says.no fun h => hnm (by rw [← HL.out, ← HR.out, h]), Below.refl _ _⟩

theorem bawake (w : World) : Calls Try.prog 8 #[] w fun e w' => e = .returned (.bool true) ∧ Below w.heap.size w w' := by
  have h0 := laid_text w ⟨#[97]⟩ 9
  have h1 : Below w.heap.size w (w.alloc (.cells #[.string ⟨#[97]⟩] 9)) := new_bel _ _
  have e1 : ((⟨#[97]⟩ : ByteArray).toList == (⟨#[97]⟩ : ByteArray).toList) = true := text_eq rfl
  have e2 : ((⟨#[98]⟩ : ByteArray).toList == (⟨#[98]⟩ : ByteArray).toList) = true := text_eq rfl
  go_enter Try.func8, Try.ntmps8
  go_wp2_with fail
  refine (bput_room _ 1 1 [⟨#[97]⟩] ⟨#[98]⟩ _ h0 (by omega)).mono ?_
  rintro e u1 ⟨hb1, a1, c1, rfl, hr1⟩
  have hB1 := bel_then h1 hb1
  clear h0 h1 hb1
  go_wp2_with fail
  refine (btake_in a1 2 c1 _ 0 u1 hr1 (by omega) (by omega)).mono ?_
  rintro e u2 ⟨hb2, a2, c2, rfl, hr2⟩
  have hB2 := bel_then hB1 hb2
  replace hr2 : bagS.rep u2 everywhere [.slice a2 1 c2] [⟨#[98]⟩] := hr2
  clear hr1 hb2
  obtain ⟨b1, o1, rfl, hbb, hcell⟩ := (Texts.of_rep hr2).at (show 0 < 1 by omega)
  replace hcell : u2.cell? ⟨b1, o1, none⟩ = some (.string ⟨#[98]⟩) := hcell
  rw [show ([⟨#[97]⟩] ++ [⟨#[98]⟩] : List ByteArray).getD 0 noText = ⟨#[97]⟩ from rfl]
  go_wp2_with fail
  refine (btwice_in _ 1 c2 _ 0 u2 hr2 (by omega) (by omega)).mono ?_
  rw [show Bx.put [⟨#[98]⟩] ([⟨#[98]⟩].getD 0 noText) = [⟨#[98]⟩, ⟨#[98]⟩] from rfl]
  rintro e u3 ⟨hb3, a3, c3, rfl, hr3⟩
  have hB3 := bel_then hB2 hb3
  clear hr2 hr3
  go_wp2
  go_ret
  exact ⟨rfl, hB3⟩

end Go.Proofs.Ytkpbkknneebdmaa
