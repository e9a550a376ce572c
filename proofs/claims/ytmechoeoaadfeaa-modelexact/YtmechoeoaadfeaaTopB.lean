/- What the document's answers for layer 4 do when called, and the fixed answer of the laws of layer 4. -/
import Derived.Test.YtmechoeoaadfeaaTopA
namespace Go.Proofs.Ytmechoeoaadfeaa
open Go.ChangeShapes Go.WideShapes Go.ChangeAt Go.RowKit

theorem rrank (a : Option Addr) (n c : Nat) (l : List Int) (at1 : Nat) (w : World) (ha : Row .i64 w a n l) (hn : n ≤ 100000) (hat : at1 < n) :
    Calls Try.prog 63 #[.slice a n c, .int .i64 at1] w fun e w' => e = .returned (.int .i64 (Tx.rank l at1 n)) ∧ Below w.heap.size w w' := by
  have hai : (at1 : Int) < (n : Int) := by omega
  have ha0 : (0 : Int) ≤ (at1 : Int) := by omega
  go_enter Try.func63, Try.ntmps63
  go_wp2
  go_loopw [5, 6] (fun v i wr => ∃ k : Nat, k ≤ n ∧ i = .int .i64 k ∧ v = .int .i64 (Tx.rank l at1 k) ∧ Below w.heap.size w wr) (fun _ i _ => n - (intOf i).toNat)
  case atStart => exact ⟨0, Nat.zero_le _, rfl, rfl, Below.refl _ _⟩
  case round =>
    obtain ⟨k, hk, rfl, rfl, hbel⟩ := hrel
    by_cases hlt : k < n
    · have hli : (k : Int) < (n : Int) := by omega
      have hk0 : (0 : Int) ≤ (k : Int) := by omega
      have hrow := ha.keep hbel
      obtain ⟨b1, o1, rfl, hb1, hc1⟩ := hrow.at hlt
      obtain ⟨b2, o2, he, hb2, hc2⟩ := hrow.at hat
      cases he
      have hd1 : ∀ x9 : Later wr, x9.u.cell? ⟨b1, o1 + k, none⟩ = some (.int .i64 (l.getD k 0)) := fun x9 => x9.cell hc1
      have hd2 : ∀ x9 : Later wr, x9.u.cell? ⟨b1, o1 + at1, none⟩ = some (.int .i64 (l.getD at1 0)) := fun x9 => x9.cell hc2
      have hne9 : Nonempty (Later wr) := Later.there wr
      clear hc1 hc2 hrow
      have hr0 := Tx.rank_le l at1 k
      by_cases hA : Tx.Ahead l at1 k
      · have HP : Hid (Tx.rank l at1 (k + 1) = Tx.rank l at1 k + 1) := Tx.rank_yes hA
        unfold Tx.Ahead at hA
        generalize Tx.rank l at1 k = r at *
        generalize l.getD k 0 = x at *
        generalize l.getD at1 0 = y at *
        rcases hA with hA | ⟨hA, hB⟩
        · go_wp2
          refine region_later (by kernel_rfl) (by kernel_rfl) ?_
          repeat (go_big_quiet_step (fail))
          refine wpQuiet_nil ?_
          intro x9
          obtain ⟨W9, hb9⟩ := x9
          have hbel9 := bel_then hbel hb9
          go_wp2
          go_roundw
          case rel => exact ⟨k + 1, by omega, by go_num, by rw [HP.out]; go_num, hbel9⟩
          case measure => simp [intOf]; omega
        · subst hA
          have e0 : ¬ (x < x) := by omega
          have e1 : (x == x) = true := by simp
          have e2 : (k : Int) < (at1 : Int) := by omega
          go_wp2
          refine region_later (by kernel_rfl) (by kernel_rfl) ?_
          repeat (go_big_quiet_step (fail))
          refine wpQuiet_nil ?_
          intro x9
          obtain ⟨W9, hb9⟩ := x9
          have hbel9 := bel_then hbel hb9
          go_wp2
          go_roundw
          case rel => exact ⟨k + 1, by omega, by go_num, by rw [HP.out]; go_num, hbel9⟩
          case measure => simp [intOf]; omega
      · have HP : Hid (Tx.rank l at1 (k + 1) = Tx.rank l at1 k) := Tx.rank_no hA
        unfold Tx.Ahead at hA
        generalize Tx.rank l at1 k = r at *
        generalize l.getD k 0 = x at *
        generalize l.getD at1 0 = y at *
        have e0 : ¬ (y < x) := fun h => hA (.inl h)
        by_cases hxy : x = y
        · subst hxy
          have e1 : (x == x) = true := by simp
          have e2 : ¬ (k : Int) < (at1 : Int) := fun h => hA (.inr ⟨rfl, by omega⟩)
          clear hA
          go_wp2
          refine region_later (by kernel_rfl) (by kernel_rfl) ?_
          repeat (go_big_quiet_step (fail))
          refine wpQuiet_nil ?_
          intro x9
          obtain ⟨W9, hb9⟩ := x9
          have hbel9 := bel_then hbel hb9
          go_wp2
          go_roundw
          case rel => exact ⟨k + 1, by omega, by go_num, by rw [HP.out], hbel9⟩
          case measure => simp [intOf]; omega
        · have e1 : (x == y) = false := by simp [hxy]
          have e3 : decide (y < x) = false := by simp; omega
          clear hA hxy
          go_wp2
          refine region_later (by kernel_rfl) (by kernel_rfl) ?_
          repeat (go_big_quiet_step (fail))
          refine wpQuiet_nil ?_
          intro x9
          obtain ⟨W9, hb9⟩ := x9
          have hbel9 := bel_then hbel hb9
          go_wp2
          go_roundw
          case rel => exact ⟨k + 1, by omega, by go_num, by rw [HP.out], hbel9⟩
          case measure => simp [intOf]; omega
    · have hkn : k = n := by omega
      subst hkn
      have hli : ¬ (k : Int) < (k : Int) := by omega
      go_wp2
      go_ret
      exact ⟨rfl, hbel⟩

theorem rof (a : Option Addr) (n c : Nat) (l : List Int) (rk : Nat) (r : Int) (w : World) (ha : Row .i64 w a n l) (hn : n ≤ 100000) (hr : r = -1 ∨ ∃ j : Nat, j < n ∧ r = j) (h : ∀ i, i < n → (Tx.rank l i n = rk ↔ (i : Int) = r)) :
    Calls Try.prog 44 #[.slice a n c, .int .i64 rk] w fun e w' => e = .returned (.int .i64 r) ∧ Below w.heap.size w w' := by
  have HR : Hid (r = -1 ∨ ∃ j : Nat, j < n ∧ r = j) := hr
  have H : Hid (∀ i, i < n → (Tx.rank l i n = rk ↔ (i : Int) = r)) := h
  clear h hr
  go_enter Try.func44, Try.ntmps44
  go_wp2
  go_loopw [5] (fun i wr => ∃ k : Nat, k ≤ n ∧ i = .int .i64 k ∧ Hid (∀ i, i < k → Tx.rank l i n ≠ rk) ∧ Below w.heap.size w wr) (fun i _ => n - (intOf i).toNat)
  case atStart => exact ⟨0, Nat.zero_le _, rfl, fun i hi => by omega, Below.refl _ _⟩
  case round =>
    obtain ⟨k, hk, rfl, HI, hbel⟩ := hrel
    by_cases hlt : k < n
    · have hli : (k : Int) < (n : Int) := by omega
      have hrow := ha.keep hbel
      by_cases hq : Tx.rank l k n = rk
      · have hkr := (H.out k hlt).1 hq
        subst hkr
        have e1 : (((Tx.rank l k n : Nat) : Int) == (rk : Int)) = true := by rw [hq]; simp
        clear hq
        go_wp2_with fail
        refine (rrank a n c l k wr hrow hn hlt).mono ?_
        rintro e w2 ⟨rfl, hb2⟩
        have hbel2 := bel_then hbel hb2
        generalize Tx.rank l k n = q at *
        go_wp2
        go_ret
        exact ⟨rfl, hbel2⟩
      · have e1 : (((Tx.rank l k n : Nat) : Int) == (rk : Int)) = false := by rw [beq_eq_false_iff_ne]; omega
        have HQ : Hid (∀ i, i < k + 1 → Tx.rank l i n ≠ rk) := fun i hi => by
          by_cases c : i < k
          · exact HI.out i c
          · have : i = k := by omega
            subst this; exact hq
        clear hq
        go_wp2_with fail
        refine (rrank a n c l k wr hrow hn hlt).mono ?_
        rintro e w2 ⟨rfl, hb2⟩
        have hbel2 := bel_then hbel hb2
        generalize Tx.rank l k n = q at *
        go_wp2
        go_roundw
        case rel => exact ⟨k + 1, by omega, by go_num, HQ, hbel2⟩
        case measure => simp [intOf]; omega
    · have hkn : k = n := by omega
      subst hkn
      have hli : ¬ (k : Int) < (k : Int) := by omega
      have hm : r = -1 := by
        rcases HR.out with e | ⟨j, hj, e⟩
        · exact e
        · exact absurd ((H.out j hj).2 e.symm) (HI.out j hj)
      subst hm
      go_wp2
      go_ret
      exact ⟨rfl, hbel⟩

end Go.Proofs.Ytmechoeoaadfeaa
