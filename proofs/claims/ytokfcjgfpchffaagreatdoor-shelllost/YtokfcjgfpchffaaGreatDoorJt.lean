/- 6 texts as one, in their order: TopA, TopB, ShareA, GateA, SltA, SltB. -/
import Derived.Test.YtokfcjgfpchffaaGreatDoorKe
import Derived.Test.YtokfcjgfpchffaaGreatDoorKb
import Derived.Test.YtokfcjgfpchffaaGreatDoorKv
import Derived.Test.YtokfcjgfpchffaaGreatDoorJm
import Derived.Test.YtokfcjgfpchffaaGreatDoorKa
import Derived.Laws.StructEq
import Derived.Maps.OwnOps
import Derived.Maps.Views
import Derived.ChangeKeysEq

/- What the functions of package top and the document's answers for layer 4 do when called. -/
namespace Go.Proofs.YtokfcjgfpchffaaGreatDoor
open Go.ChangeShapes Go.WideShapes Go.ChangeAt Go.RowKit

set_option maxRecDepth 100000 in
theorem bestBut (a : Option Addr) (n c : Nat) (l : List Int) (but : Int) (w : World) (ha : Row .i64 w a n l) (hn : n ≤ 100000) :
    Calls Tryz.prog 197 #[.slice a n c, .int .i64 but] w fun e w' => e = .returned (.int .i64 (Tx.pick l but n)) ∧ w' = w := by
  go_enter Tryz.func197, Tryz.ntmps197
  go_wp2
  go_loopw [5, 10] (fun v i wr => ∃ k : Nat, k ≤ n ∧ i = .int .i64 k ∧ v = .int .i64 (Tx.pick l but k) ∧ wr = w) (fun _ i _ => n - (intOf i).toNat)
  case atStart => exact ⟨0, Nat.zero_le _, rfl, rfl, rfl⟩
  case round =>
    obtain ⟨k, hk, rfl, rfl, hww⟩ := hrel
    replace hww := hww.symm
    subst hww
    by_cases hlt : k < n
    · have hli : (k : Int) < (n : Int) := by omega
      by_cases hb : (k : Int) = but
      · obtain ⟨b1, o1, rfl, hb1, hc1⟩ := ha.at hlt
        have e0 : ((k : Int) != but) = false := by simp [hb]
        have HP : Hid (Tx.pick l but (k + 1) = Tx.pick l but k) := Tx.pick_but hb
        clear hb
        generalize Tx.pick l but k = p at *
        generalize l.getD k 0 = x at *
        go_wp2
        go_roundw
        case rel => exact ⟨k + 1, by omega, by go_num, by rw [HP.out], by trivial⟩
        case measure => simp [intOf]; omega
      · have e0 : ((k : Int) != but) = true := by simp [hb]
        rcases Tx.pick_or l but k with hp | ⟨j, hj, hp⟩
        · obtain ⟨b1, o1, rfl, hb1, hc1⟩ := ha.at hlt
          have HP : Hid (Tx.pick l but (k + 1) = k) := Tx.pick_one hb hp
          rw [hp]
          clear hb hp
          generalize l.getD k 0 = x at *
          go_wp2
          go_roundw
          case rel => exact ⟨k + 1, by omega, by go_num, by rw [HP.out], by trivial⟩
          case measure => simp [intOf]; omega
        · obtain ⟨b1, o1, rfl, hb1, hc1⟩ := ha.at hlt
          obtain ⟨b2, o2, he, hb2, hc2⟩ := ha.at (show j < n by omega)
          cases he
          have hji : (j : Int) < (n : Int) := by omega
          have hj0 : (0 : Int) ≤ (j : Int) := by omega
          have e1 : ((j : Int) == -1) = false := by simp
          by_cases hl : l.getD j 0 < l.getD k 0
          · have HP : Hid (Tx.pick l but (k + 1) = k) := Tx.pick_more hb hp hl
            rw [hp]
            clear hb hp
            generalize l.getD k 0 = x at *
            generalize l.getD j 0 = y at *
            go_wp2
            go_roundw
            case rel => exact ⟨k + 1, by omega, by go_num, by rw [HP.out], by trivial⟩
            case measure => simp [intOf]; omega
          · have HP : Hid (Tx.pick l but (k + 1) = j) := (Tx.pick_stay hp hl).trans hp
            rw [hp]
            clear hb hp
            generalize l.getD k 0 = x at *
            generalize l.getD j 0 = y at *
            go_wp2
            go_roundw
            case rel => exact ⟨k + 1, by omega, by go_num, by rw [HP.out], by trivial⟩
            case measure => simp [intOf]; omega
    · have hkn : k = n := by omega
      subst hkn
      have hli : ¬ (k : Int) < (k : Int) := by omega
      go_wp2
      go_ret
      exact ⟨rfl, rfl⟩

set_option maxRecDepth 100000 in
theorem best (a : Option Addr) (n c : Nat) (l : List Int) (w : World) (ha : Row .i64 w a n l) (hn : n ≤ 100000) :
    Calls Tryz.prog 196 #[.slice a n c] w fun e w' => e = .returned (.int .i64 (Tx.best l)) ∧ w' = w := by
  have HB : Hid (Tx.pick l (-1) n = Tx.best l) := by show _ = _; unfold Tx.best; rw [ha.len]
  go_enter Tryz.func196, Tryz.ntmps196
  go_wp2_with (go_at_call 197; refine by_same (bestBut a n c l (-1) _ ha hn) ?_)
  rw [HB.out]
  go_ret
  exact ⟨rfl, rfl⟩

set_option maxRecDepth 100000 in
theorem two (a : Option Addr) (n c : Nat) (l : List Int) (w : World) (ha : Row .i64 w a n l) (hn : n ≤ 100000) :
    Calls Tryz.prog 182 #[.slice a n c] w fun e w' => e = .returned (.tuple #[.int .i64 (Tx.best l), .int .i64 (Tx.second l)]) ∧ w' = w := by
  have HB : Hid (Tx.pick l (Tx.best l) n = Tx.second l) := by show _ = _; unfold Tx.second; rw [ha.len]
  go_enter Tryz.func182, Tryz.ntmps182
  go_wp2_with (first
    | (go_at_call 196; refine by_same (best a n c l _ ha hn) ?_)
    | (go_at_call 197; refine by_same (bestBut a n c l (Tx.best l) _ ha hn) ?_)
    | fail)
  rw [HB.out]
  go_ret2
  exact ⟨rfl, rfl⟩

end Go.Proofs.YtokfcjgfpchffaaGreatDoor

/- What the document's answers for layer 4 do when called, and the fixed answer of the laws of layer 4. -/
namespace Go.Proofs.YtokfcjgfpchffaaGreatDoor
open Go.ChangeShapes Go.WideShapes Go.ChangeAt Go.RowKit

set_option maxRecDepth 100000 in
theorem rrank (a : Option Addr) (n c : Nat) (l : List Int) (at1 : Nat) (w : World) (ha : Row .i64 w a n l) (hn : n ≤ 100000) (hat : at1 < n) :
    Calls Tryz.prog 151 #[.slice a n c, .int .i64 at1] w fun e w' => e = .returned (.int .i64 (Tx.rank l at1 n)) ∧ Below w.heap.size w w' := by
  have hai : (at1 : Int) < (n : Int) := by omega
  have ha0 : (0 : Int) ≤ (at1 : Int) := by omega
  go_enter Tryz.func151, Tryz.ntmps151
  go_wp2
  go_loopw [5, 6] (fun v i wr => ∃ k : Nat, k ≤ n ∧ i = .int .i64 k ∧ v = .int .i64 (Tx.rank l at1 k) ∧ Below w.heap.size w wr) (fun _ i _ => n - (intOf i).toNat)
  case atStart => exact ⟨0, Nat.zero_le _, rfl, rfl, Below.refl _ _⟩
  case round =>
    obtain ⟨k, hk, rfl, rfl, hbel⟩ := hrel
    by_cases hlt : k < n
    · have hli : (k : Int) < (n : Int) := by omega
      have hk0 : (0 : Int) ≤ (k : Int) := by omega
      have hrow := ha.keep hbel
      obtain ⟨b1, o1, rfl, hb1, hc1⟩ := hrow.at hlt
      obtain ⟨b2, o2, he, hb2, hc2⟩ := hrow.at hat
      cases he
      have hd1 : ∀ x9 : Later wr, x9.u.cell? ⟨b1, o1 + k, none⟩ = some (.int .i64 (l.getD k 0)) := fun x9 => x9.cell hc1
      have hd2 : ∀ x9 : Later wr, x9.u.cell? ⟨b1, o1 + at1, none⟩ = some (.int .i64 (l.getD at1 0)) := fun x9 => x9.cell hc2
      have hne9 : Nonempty (Later wr) := Later.there wr
      clear hc1 hc2 hrow
      have hr0 := Tx.rank_le l at1 k
      by_cases hA : Tx.Ahead l at1 k
      · have HP : Hid (Tx.rank l at1 (k + 1) = Tx.rank l at1 k + 1) := Tx.rank_yes hA
        unfold Tx.Ahead at hA
        generalize Tx.rank l at1 k = r at *
        generalize l.getD k 0 = x at *
        generalize l.getD at1 0 = y at *
        rcases hA with hA | ⟨hA, hB⟩
        · go_wp2
          refine region_later (by kernel_rfl) (by kernel_rfl) ?_
          repeat (go_big_quiet_step (fail))
          refine wpQuiet_nil ?_
          intro x9
          obtain ⟨W9, hb9⟩ := x9
          have hbel9 := bel_then hbel hb9
          go_wp2
          go_roundw
          case rel => exact ⟨k + 1, by omega, by go_num, by rw [HP.out]; go_num, hbel9⟩
          case measure => simp [intOf]; omega
        · subst hA
          have e0 : ¬ (x < x) := by omega
          have e1 : (x == x) = true := by simp
          have e2 : (k : Int) < (at1 : Int) := by omega
          go_wp2
          refine region_later (by kernel_rfl) (by kernel_rfl) ?_
          repeat (go_big_quiet_step (fail))
          refine wpQuiet_nil ?_
          intro x9
          obtain ⟨W9, hb9⟩ := x9
          have hbel9 := bel_then hbel hb9
          go_wp2
          go_roundw
          case rel => exact ⟨k + 1, by omega, by go_num, by rw [HP.out]; go_num, hbel9⟩
          case measure => simp [intOf]; omega
      · have HP : Hid (Tx.rank l at1 (k + 1) = Tx.rank l at1 k) := Tx.rank_no hA
        unfold Tx.Ahead at hA
        generalize Tx.rank l at1 k = r at *
        generalize l.getD k 0 = x at *
        generalize l.getD at1 0 = y at *
        have e0 : ¬ (y < x) := fun h => hA (.inl h)
        by_cases hxy : x = y
        · subst hxy
          have e1 : (x == x) = true := by simp
          have e2 : ¬ (k : Int) < (at1 : Int) := fun h => hA (.inr ⟨rfl, by omega⟩)
          clear hA
          go_wp2
          refine region_later (by kernel_rfl) (by kernel_rfl) ?_
          repeat (go_big_quiet_step (fail))
          refine wpQuiet_nil ?_
          intro x9
          obtain ⟨W9, hb9⟩ := x9
          have hbel9 := bel_then hbel hb9
          go_wp2
          go_roundw
          case rel => exact ⟨k + 1, by omega, by go_num, by rw [HP.out], hbel9⟩
          case measure => simp [intOf]; omega
        · have e1 : (x == y) = false := by simp [hxy]
          have e3 : decide (y < x) = false := by simp; omega
          clear hA hxy
          go_wp2
          refine region_later (by kernel_rfl) (by kernel_rfl) ?_
          repeat (go_big_quiet_step (fail))
          refine wpQuiet_nil ?_
          intro x9
          obtain ⟨W9, hb9⟩ := x9
          have hbel9 := bel_then hbel hb9
          go_wp2
          go_roundw
          case rel => exact ⟨k + 1, by omega, by go_num, by rw [HP.out], hbel9⟩
          case measure => simp [intOf]; omega
    · have hkn : k = n := by omega
      subst hkn
      have hli : ¬ (k : Int) < (k : Int) := by omega
      go_wp2
      go_ret
      exact ⟨rfl, hbel⟩

set_option maxRecDepth 100000 in
theorem rof (a : Option Addr) (n c : Nat) (l : List Int) (rk : Nat) (r : Int) (w : World) (ha : Row .i64 w a n l) (hn : n ≤ 100000) (hr : r = -1 ∨ ∃ j : Nat, j < n ∧ r = j) (h : ∀ i, i < n → (Tx.rank l i n = rk ↔ (i : Int) = r)) :
    Calls Tryz.prog 112 #[.slice a n c, .int .i64 rk] w fun e w' => e = .returned (.int .i64 r) ∧ Below w.heap.size w w' := by
  have HR : Hid (r = -1 ∨ ∃ j : Nat, j < n ∧ r = j) := hr
  have H : Hid (∀ i, i < n → (Tx.rank l i n = rk ↔ (i : Int) = r)) := h
  clear h hr
  go_enter Tryz.func112, Tryz.ntmps112
  go_wp2
  go_loopw [5] (fun i wr => ∃ k : Nat, k ≤ n ∧ i = .int .i64 k ∧ Hid (∀ i, i < k → Tx.rank l i n ≠ rk) ∧ Below w.heap.size w wr) (fun i _ => n - (intOf i).toNat)
  case atStart => exact ⟨0, Nat.zero_le _, rfl, fun i hi => by omega, Below.refl _ _⟩
  case round =>
    obtain ⟨k, hk, rfl, HI, hbel⟩ := hrel
    by_cases hlt : k < n
    · have hli : (k : Int) < (n : Int) := by omega
      have hrow := ha.keep hbel
      by_cases hq : Tx.rank l k n = rk
      · have hkr := (H.out k hlt).1 hq
        subst hkr
        have e1 : (((Tx.rank l k n : Nat) : Int) == (rk : Int)) = true := by rw [hq]; simp
        clear hq
        go_wp2_with fail
        refine (rrank a n c l k wr hrow hn hlt).mono ?_
        rintro e w2 ⟨rfl, hb2⟩
        have hbel2 := bel_then hbel hb2
        generalize Tx.rank l k n = q at *
        go_wp2
        go_ret
        exact ⟨rfl, hbel2⟩
      · have e1 : (((Tx.rank l k n : Nat) : Int) == (rk : Int)) = false := by rw [beq_eq_false_iff_ne]; omega
        have HQ : Hid (∀ i, i < k + 1 → Tx.rank l i n ≠ rk) := fun i hi => by
          by_cases c : i < k
          · exact HI.out i c
          · have : i = k := by omega
            subst this; exact hq
        clear hq
        go_wp2_with fail
        refine (rrank a n c l k wr hrow hn hlt).mono ?_
        rintro e w2 ⟨rfl, hb2⟩
        have hbel2 := bel_then hbel hb2
        generalize Tx.rank l k n = q at *
        go_wp2
        go_roundw
        case rel => exact ⟨k + 1, by omega, by go_num, HQ, hbel2⟩
        case measure => simp [intOf]; omega
    · have hkn : k = n := by omega
      subst hkn
      have hli : ¬ (k : Int) < (k : Int) := by omega
      have hm : r = -1 := by
        rcases HR.out with e | ⟨j, hj, e⟩
        · exact e
        · exact absurd ((H.out j hj).2 e.symm) (HI.out j hj)
      subst hm
      go_wp2
      go_ret
      exact ⟨rfl, hbel⟩

end Go.Proofs.YtokfcjgfpchffaaGreatDoor

/- What the functions of package share, the document's answers for layer 5, and the laws' fixed answer do when called: the integer functions of Sx, the world as it was, for every int. -/
namespace Go.Proofs.YtokfcjgfpchffaaGreatDoor
open Go.ChangeShapes Go.WideShapes Go.ChangeAt Go.RowKit

set_option maxRecDepth 100000 in
theorem weight (n : Int) (w : World) : Calls Tryz.prog 198 #[.int .i64 n] w fun e w' => e = .returned (.int .i64 (Sx.part n)) ∧ w' = w := by
  have h4 : n < 0 ∨ n = 0 ∨ 2147483647 < n ∨ (0 < n ∧ n ≤ 2147483647) := by omega
  have hr := hold n w
  rcases h4 with h | rfl | h | ⟨h, g⟩
  · have hn : Fx.hold n < 0 := by unfold Fx.hold; split <;> (try split) <;> omega
    rw [Sx.part_neg h]
    generalize Fx.hold n = m at *
    have hmx : max m 0 = 0 := by omega
    go_enter Tryz.func198, Tryz.ntmps198
    go_wp2_with (go_at_call 154; refine by_same hr ?_)
    go_ret
    exact ⟨rfl, rfl⟩
  · rw [show Fx.hold 0 = 0 from rfl] at hr
    go_enter Tryz.func198, Tryz.ntmps198
    go_wp2_with (go_at_call 154; refine by_same hr ?_)
    go_ret
    exact ⟨ret_int (show (1 : Int) = Sx.part 0 from rfl), rfl⟩
  · rw [Fx.hold_big h] at hr
    rw [Sx.part_big h]
    go_enter Tryz.func198, Tryz.ntmps198
    go_wp2_with (go_at_call 154; refine by_same hr ?_)
    go_ret
    exact ⟨rfl, rfl⟩
  · rw [Fx.hold_id (by omega) (by omega)] at hr
    rw [Sx.part_mid (by omega) g]
    have hmx : max n 0 = n := by omega
    go_enter Tryz.func198, Tryz.ntmps198
    go_wp2_with (go_at_call 154; refine by_same hr ?_)
    go_ret
    exact ⟨rfl, rfl⟩

set_option maxRecDepth 100000 in
theorem shares (a b : Int) (w : World) : Calls Tryz.prog 183 #[.int .i64 a, .int .i64 b] w fun e w' => e = .returned (.tuple #[.int .i64 (Sx.share a b), .int .i64 (65536 - Sx.share a b)]) ∧ w' = w := by
  have a1 := Sx.part_lo a; have a2 := Sx.part_hi a; have b1 := Sx.part_lo b; have b2 := Sx.part_hi b
  have s1 := Sx.share_lo a b; have s2 := Sx.share_hi a b
  have hne : ((Sx.part a + Sx.part b) == 0) = false := by simp; omega
  have e := Sx.share_tdiv a b
  rw [← e] at s1 s2
  have HE : Hid ((Sx.part a * 65536).tdiv (Sx.part a + Sx.part b) = Sx.share a b) := e
  clear e
  go_enter Tryz.func183, Tryz.ntmps183
  go_wp2_with (first
    | (go_at_call 198; refine by_same (weight _ _) ?_)
    | fail)
  rw [HE.out]
  go_ret2
  exact ⟨rfl, rfl⟩

set_option maxRecDepth 100000 in
theorem rpart (n : Int) (w : World) : Calls Tryz.prog 152 #[.int .i64 n] w fun e w' => e = .returned (.int .i64 (Sx.part n)) ∧ w' = w := by
  by_cases h1 : n < 0
  · rw [Sx.part_neg h1]
    go_enter Tryz.func152, Tryz.ntmps152
    go_wp2
    go_ret
    exact ⟨rfl, rfl⟩
  · by_cases h2 : 2147483647 < n
    · rw [Sx.part_big h2]
      go_enter Tryz.func152, Tryz.ntmps152
      go_wp2
      go_ret
      exact ⟨rfl, rfl⟩
    · rw [Sx.part_mid (by omega) (by omega)]
      go_enter Tryz.func152, Tryz.ntmps152
      go_wp2
      go_ret
      exact ⟨rfl, rfl⟩

set_option maxRecDepth 100000 in
set_option maxHeartbeats 1000000 in
theorem rshare (a b : Int) (w : World) : Calls Tryz.prog 113 #[.int .i64 a, .int .i64 b] w fun e w' => e = .returned (.int .i64 (Sx.share a b)) ∧ w' = w := by
  have a1 := Sx.part_lo a; have a2 := Sx.part_hi a; have b1 := Sx.part_lo b; have b2 := Sx.part_hi b
  have hr := rpart a; have hs := rpart b
  have HS : Hid (∀ q left : Int, q * (Sx.part a + Sx.part b) + left = Sx.part a * 65536 → 0 ≤ left → left < Sx.part a + Sx.part b → q = Sx.share a b) := fun _ _ h0 h1 h2 => Sx.share_eq h0 h1 h2
  generalize Sx.part a = x at *
  generalize Sx.part b = y at *
  generalize Sx.share a b = s at *
  go_enter Tryz.func113, Tryz.ntmps113
  go_wp2_with (first
    | (go_at_call 152; first | refine by_same (hr _) ?_ | refine by_same (hs _) ?_)
    | fail)
  go_loopw [7, 8, 9] (fun u v i wr => ∃ (k : Nat) (q l : Int), k ≤ 16 ∧ i = .int .i64 k ∧ u = .int .i64 q ∧ v = .int .i64 l ∧ 0 ≤ q ∧ q < 2 ^ k ∧ 0 ≤ l ∧ l < x + y ∧ q * (x + y) + l = x * 2 ^ k ∧ wr = w) (fun _ _ i _ => 16 - (intOf i).toNat)
  case atStart => exact ⟨0, 0, x, by omega, rfl, rfl, rfl, by omega, by decide, by omega, by omega, by omega, rfl⟩
  case round =>
    obtain ⟨k, q, l, hk, rfl, rfl, rfl, hq0, hq1, hl0, hl1, he, hww⟩ := hrel
    replace hww := hww.symm
    subst hww
    have HE : Hid (q * (x + y) + l = x * 2 ^ k) := he
    have HQ : Hid (q < 2 ^ k) := hq1
    have hq2 := Int.lt_of_lt_of_le hq1 (Sx.pow_hi hk)
    clear he hq1
    by_cases hlt : k < 16
    · have hli : (k : Int) < 16 := by omega
      by_cases hc : x + y ≤ 2 * l
      · go_wp2
        go_roundw
        case rel => exact ⟨k + 1, 2 * q + 1, 2 * l - (x + y), by omega, by go_num, rfl, rfl, by omega, by have := HQ.out; rw [Int.pow_succ]; omega, by omega, by omega, Sx.step_yes HE.out, by trivial⟩
        case measure => simp [intOf]; omega
      · go_wp2
        go_roundw
        case rel => exact ⟨k + 1, 2 * q, 2 * l, by omega, by go_num, rfl, rfl, by omega, by have := HQ.out; rw [Int.pow_succ]; omega, by omega, by omega, Sx.step_no HE.out, by trivial⟩
        case measure => simp [intOf]; omega
    · have hkn : k = 16 := by omega
      subst hkn
      have hq := HS.out q l HE.out hl0 hl1
      subst hq
      clear HS HE HQ
      go_wp2
      go_ret
      exact ⟨rfl, rfl⟩

end Go.Proofs.YtokfcjgfpchffaaGreatDoor

/- What gate's Choose and the document's do when called: the choice that Gx tells, and nothing that was there is written. -/
namespace Go.Proofs.YtokfcjgfpchffaaGreatDoor
open Go.ChangeShapes Go.WideShapes Go.ChangeAt Go.RowKit

theorem Tryz.infoChoice : (Tryz.prog.info? 165).map (·.size) = some 4 := by kernel_rfl

/-! ### Variables of four cells -/
theorem Box.all4 {u : World} {b : Nat} {t : TypeId} {p0 p1 p2 p3 : Value} (h : Box u b t #[p0, p1, p2, p3]) (v0 v1 v2 v3 : Value) : Box ((((u.setCell ⟨b, 0, none⟩ v0).setCell ⟨b, 1, none⟩ v1).setCell ⟨b, 2, none⟩ v2).setCell ⟨b, 3, none⟩ v3) b t #[v0, v1, v2, v3] := by
  have := (((h.set 0 v0).set 1 v1).set 2 v2).set 3 v3
  simp only [List.setIfInBounds_toArray, List.set_cons_zero, List.set_cons_succ] at this
  exact this
theorem bel_all4 {B : Nat} {a u : World} (h : Below B a u) {b : Nat} (hb : B ≤ b) (v0 v1 v2 v3 : Value) : Below B a ((((u.setCell ⟨b, 0, none⟩ v0).setCell ⟨b, 1, none⟩ v1).setCell ⟨b, 2, none⟩ v2).setCell ⟨b, 3, none⟩ v3) := bel_put (bel_put (bel_put (bel_put h hb v0) hb v1) hb v2) hb v3

/-! ### '==' of a choice and itself -/
theorem Tryz.infoRchoice : (Tryz.prog.info? 116).map (·.size) = some 4 := by kernel_rfl
set_option maxRecDepth 100000 in
set_option maxHeartbeats 1000000 in
theorem choose (a b : Option Addr) (n c nv cb : Nat) (m : List (List Int)) (v : List Int) (F : Nat → Prop) (p q r t : Int) (ok : Bool) (w : World) (hm : matS.rep w F [.slice a n c] m) (hv : Row .i64 w b nv v) (hn : n ≤ 1000) (hnv : nv ≤ 1000) (h : Gx.Is m v p q r t ok) :
    Calls Tryz.prog 155 #[.slice a n c, .slice b nv cb] w fun e w' => e = .returned (.tuple #[.agg #[.int .i64 p, .int .i64 q, .int .i64 r, .int .i64 t], .bool ok]) ∧ Below w.heap.size w w' := by
  have hl := (sliceS_len hm).1
  have hvl := hv.len
  subst hvl
  have hB := new_bel w (.cells #[.int .i64 0, .int .i64 0, .int .i64 0, .int .i64 0] 165)
  have k0 := Box.new w 165 #[.int .i64 0, .int .i64 0, .int .i64 0, .int .i64 0]
  have hm1 := Shape.below hm hB
  have hv1 := hv.keep hB
  clear hm hv
  by_cases hf : Mx.Fits m v.length
  case neg =>
    obtain ⟨rfl, hno, rfl, rfl, rfl, rfl⟩ : ok = false ∧ ¬ (Mx.Fits m v.length ∧ m ≠ []) ∧ p = 0 ∧ q = 0 ∧ r = 0 ∧ t = 0 := by
      rcases h with h | h
      · exact h
      · exact absurd h.2.1 hf
    have HF : Hid (¬ Mx.Fits m v.length) := hf
    clear hf h hno
    go_enter Tryz.func155, Tryz.ntmps155
    go_wp2_with fail
    refine (mapply a b n c v.length cb m v F _ hm1 hv1 (by omega) (by omega)).mono ?_
    rintro e u1 ⟨hg, hb1⟩
    obtain rfl := hg.no HF.out
    have k1 := k0.keep hb1
    have hB1 := bel_then hB hb1
    have c0 := k1.cell 0 rfl; have c1 := k1.cell 1 rfl; have c2 := k1.cell 2 rfl; have c3 := k1.cell 3 rfl
    have f0 := k1.free 0; have f1 := k1.free 1; have f2 := k1.free 2; have f3 := k1.free 3
    clear hg hm1 hv1 k0 hB hb1
    go_wp2
    refine ret_var Tryz.underlying165 Tryz.infoChoice rfl rfl rfl rfl (k1.all4 _ _ _ _) rfl ?_
    exact ⟨rfl, bel_all4 hB1 (Nat.le_refl _) _ _ _ _⟩
  have HF : Hid (Mx.Fits m v.length) := hf
  by_cases hz : n = 0
  · have hm0 : m = [] := List.eq_nil_of_length_eq_zero (by omega)
    obtain ⟨rfl, hno, rfl, rfl, rfl, rfl⟩ : ok = false ∧ ¬ (Mx.Fits m v.length ∧ m ≠ []) ∧ p = 0 ∧ q = 0 ∧ r = 0 ∧ t = 0 := by
      rcases h with h | h
      · exact h
      · exact absurd hm0 h.2.2.1
    have ez : ((n : Int) == 0) = true := by rw [hz]; rfl
    clear hf h hno hm0 hz hl
    go_enter Tryz.func155, Tryz.ntmps155
    go_wp2_with fail
    refine (mapply a b n c v.length cb m v F _ hm1 hv1 (by omega) (by omega)).mono ?_
    rintro e u1 ⟨hg, hb1⟩
    obtain ⟨a1, c1, rfl, _⟩ := hg.yes HF.out
    have k1 := k0.keep hb1
    have hB1 := bel_then hB hb1
    have c0 := k1.cell 0 rfl; have c1 := k1.cell 1 rfl; have c2 := k1.cell 2 rfl; have c3 := k1.cell 3 rfl
    have f0 := k1.free 0; have f1 := k1.free 1; have f2 := k1.free 2; have f3 := k1.free 3
    clear hg hm1 hv1 k0 hB hb1
    go_wp2
    refine ret_var Tryz.underlying165 Tryz.infoChoice rfl rfl rfl rfl (k1.all4 _ _ _ _) rfl ?_
    exact ⟨rfl, bel_all4 hB1 (Nat.le_refl _) _ _ _ _⟩
  have hne : m ≠ [] := fun h0 => hz (by rw [← hl, h0]; rfl)
  obtain rfl : ok = true := by
    rcases h with h | h
    · exact absurd ⟨hf, hne⟩ h.2.1
    · exact h.1
  have ez : ((n : Int) == 0) = false := by rw [beq_eq_false_iff_ne]; omega
  have hform := h.form
  have HP : Hid (Tx.best (Mx.app m v) = p) := h.yes.2.2.1.symm
  have HQ : Hid (Tx.second (Mx.app m v) = q) := h.yes.2.2.2.1.symm
  clear h hf hne
  have HT : Hid (∀ (u : World) (a1 : Option Addr) (c1 : Nat), Row .i64 u a1 n (Mx.app m v) → Calls Tryz.prog 182 #[.slice a1 n c1] u fun e w' => e = .returned (.tuple #[.int .i64 p, .int .i64 q]) ∧ w' = u) := fun u a1 c1 hr => by
    have := two a1 n c1 (Mx.app m v) u hr (by omega)
    rw [HP.out, HQ.out] at this
    exact this
  rcases hform with ⟨h1, rfl, rfl, rfl, rfl⟩ | ⟨h2, i, j, hi, hj, hne, rfl, rfl, _, _, _, hr, ht⟩
  · clear hl hz
    go_enter Tryz.func155, Tryz.ntmps155
    go_wp2_with fail
    refine (mapply a b n c v.length cb m v F _ hm1 hv1 (by omega) (by omega)).mono ?_
    rintro e u1 ⟨hg, hb1⟩
    obtain ⟨a1, c1, rfl, hr1⟩ := hg.yes HF.out
    have hr1 := Row.of_rep hr1
    have k1 := k0.keep hb1
    have hB1 := bel_then hB hb1
    have c0 := k1.cell 0 rfl; have c1' := k1.cell 1 rfl; have c2 := k1.cell 2 rfl; have c3 := k1.cell 3 rfl
    have f0 := k1.free 0; have f1 := k1.free 1; have f2 := k1.free 2; have f3 := k1.free 3
    clear hg hm1 hv1 k0 hB hb1
    go_wp2_with (go_at_call 182; refine by_same (HT.out _ _ _ hr1) ?_)
    refine ret_var Tryz.underlying165 Tryz.infoChoice rfl rfl rfl rfl (k1.all4 _ _ _ _) rfl ?_
    exact ⟨rfl, bel_all4 hB1 (Nat.le_refl _) _ _ _ _⟩
  · have hi' : i < n := by omega
    have hj' : j < n := by omega
    subst hr
    subst ht
    clear hl hz h2 hi hj hne HP HQ
    obtain ⟨x, hx⟩ : ∃ x, (Mx.app m v).getD i 0 = x := ⟨_, rfl⟩
    obtain ⟨y, hy⟩ : ∃ y, (Mx.app m v).getD j 0 = y := ⟨_, rfl⟩
    rw [hx, hy]
    have HX : Hid ((Mx.app m v).getD i 0 = x) := hx
    have HY : Hid ((Mx.app m v).getD j 0 = y) := hy
    clear hx hy
    go_enter Tryz.func155, Tryz.ntmps155
    go_wp2_with fail
    refine (mapply a b n c v.length cb m v F _ hm1 hv1 (by omega) (by omega)).mono ?_
    rintro e u1 ⟨hg, hb1⟩
    obtain ⟨a1, c1, rfl, hr1⟩ := hg.yes HF.out
    have hr1 := Row.of_rep hr1
    have k1 := k0.keep hb1
    have hB1 := bel_then hB hb1
    clear hg hm1 hv1 k0 hB hb1
    have e0 : ¬ ((j : Int) < 0) := by omega
    have ei : (i : Int) < (n : Int) := by omega
    have ej : (j : Int) < (n : Int) := by omega
    have ei0 : (0 : Int) ≤ (i : Int) := by omega
    have ej0 : (0 : Int) ≤ (j : Int) := by omega
    have HC : Hid (Calls _ _ _ _ _) := HT.out u1 a1 c1 hr1
    obtain ⟨b1, o1, rfl, hb1, hc1⟩ := hr1.at hi'
    obtain ⟨b2, o2, he, hb2, hc2⟩ := hr1.at hj'
    cases he
    rw [HX.out] at hc1
    rw [HY.out] at hc2
    have hd1 : ∀ x9 : Later u1, x9.u.cell? ⟨b1, o1 + i, none⟩ = some (.int .i64 x) := fun x9 => x9.cell hc1
    have hd2 : ∀ x9 : Later u1, x9.u.cell? ⟨b1, o1 + j, none⟩ = some (.int .i64 y) := fun x9 => x9.cell hc2
    have hne9 : Nonempty (Later u1) := Later.there u1
    clear hc1 hc2 hr1 HT hb1 hb2
    go_wp2_with (go_at_call 182; refine by_same HC.out ?_)
    refine region_later (by kernel_rfl) (by kernel_rfl) ?_
    repeat (go_big_quiet_step ((go_at_call 183; exact Later.same (shares _ _ _))))
    refine wpQuiet_nil ?_
    intro x9
    obtain ⟨W9, hb9⟩ := x9
    have k9 := k1.keep hb9
    have hB9 := bel_then hB1 hb9
    have c0 := k9.cell 0 rfl; have c1' := k9.cell 1 rfl; have c2 := k9.cell 2 rfl; have c3 := k9.cell 3 rfl
    have f0 := k9.free 0; have f1 := k9.free 1; have f2 := k9.free 2; have f3 := k9.free 3
    go_wp2
    refine ret_var Tryz.underlying165 Tryz.infoChoice rfl rfl rfl rfl (k9.all4 _ _ _ _) rfl ?_
    exact ⟨rfl, bel_all4 hB9 (Nat.le_refl _) _ _ _ _⟩

set_option maxRecDepth 100000 in
set_option maxHeartbeats 1000000 in
theorem rchoose (a b : Option Addr) (n c nv cb : Nat) (m : List (List Int)) (v : List Int) (F : Nat → Prop) (p q r t : Int) (ok : Bool) (w : World) (hm : matS.rep w F [.slice a n c] m) (hv : Row .i64 w b nv v) (hn : n ≤ 1000) (hnv : nv ≤ 1000) (h : Gx.Is m v p q r t ok) :
    Calls Tryz.prog 69 #[.slice a n c, .slice b nv cb] w fun e w' => e = .returned (.tuple #[.agg #[.int .i64 p, .int .i64 q, .int .i64 r, .int .i64 t], .bool ok]) ∧ Below w.heap.size w w' := by
  have hl := (sliceS_len hm).1
  have hvl := hv.len
  subst hvl
  have hB := new_bel w (.cells #[.int .i64 0, .int .i64 0, .int .i64 0, .int .i64 0] 116)
  have k0 := Box.new w 116 #[.int .i64 0, .int .i64 0, .int .i64 0, .int .i64 0]
  have hm1 := Shape.below hm hB
  have hv1 := hv.keep hB
  clear hm hv
  by_cases hf : Mx.Fits m v.length
  case neg =>
    obtain ⟨rfl, hno, rfl, rfl, rfl, rfl⟩ : ok = false ∧ ¬ (Mx.Fits m v.length ∧ m ≠ []) ∧ p = 0 ∧ q = 0 ∧ r = 0 ∧ t = 0 := by
      rcases h with h | h
      · exact h
      · exact absurd h.2.1 hf
    have HF : Hid (¬ Mx.Fits m v.length) := hf
    clear hf h hno
    go_enter Tryz.func69, Tryz.ntmps69
    go_wp2_with fail
    refine (rapply a b n c v.length cb m v F _ hm1 hv1 (by omega) (by omega)).mono ?_
    rintro e u1 ⟨hg, hb1⟩
    obtain rfl := hg.no HF.out
    have k1 := k0.keep hb1
    have hB1 := bel_then hB hb1
    have c0 := k1.cell 0 rfl; have c1 := k1.cell 1 rfl; have c2 := k1.cell 2 rfl; have c3 := k1.cell 3 rfl
    have f0 := k1.free 0; have f1 := k1.free 1; have f2 := k1.free 2; have f3 := k1.free 3
    clear hg hm1 hv1 k0 hB hb1
    go_wp2
    refine ret_var Tryz.underlying116 Tryz.infoRchoice rfl rfl rfl rfl (k1.all4 _ _ _ _) rfl ?_
    exact ⟨rfl, bel_all4 hB1 (Nat.le_refl _) _ _ _ _⟩
  have HF : Hid (Mx.Fits m v.length) := hf
  by_cases hz : n = 0
  · have hm0 : m = [] := List.eq_nil_of_length_eq_zero (by omega)
    obtain ⟨rfl, hno, rfl, rfl, rfl, rfl⟩ : ok = false ∧ ¬ (Mx.Fits m v.length ∧ m ≠ []) ∧ p = 0 ∧ q = 0 ∧ r = 0 ∧ t = 0 := by
      rcases h with h | h
      · exact h
      · exact absurd hm0 h.2.2.1
    have ez : ((n : Int) == 0) = true := by rw [hz]; rfl
    clear hf h hno hm0 hz hl
    go_enter Tryz.func69, Tryz.ntmps69
    go_wp2_with fail
    refine (rapply a b n c v.length cb m v F _ hm1 hv1 (by omega) (by omega)).mono ?_
    rintro e u1 ⟨hg, hb1⟩
    obtain ⟨a1, c1, rfl, _⟩ := hg.yes HF.out
    have k1 := k0.keep hb1
    have hB1 := bel_then hB hb1
    have c0 := k1.cell 0 rfl; have c1 := k1.cell 1 rfl; have c2 := k1.cell 2 rfl; have c3 := k1.cell 3 rfl
    have f0 := k1.free 0; have f1 := k1.free 1; have f2 := k1.free 2; have f3 := k1.free 3
    clear hg hm1 hv1 k0 hB hb1
    go_wp2
    refine ret_var Tryz.underlying116 Tryz.infoRchoice rfl rfl rfl rfl (k1.all4 _ _ _ _) rfl ?_
    exact ⟨rfl, bel_all4 hB1 (Nat.le_refl _) _ _ _ _⟩
  have hne : m ≠ [] := fun h0 => hz (by rw [← hl, h0]; rfl)
  obtain rfl : ok = true := by
    rcases h with h | h
    · exact absurd ⟨hf, hne⟩ h.2.1
    · exact h.1
  have ez : ((n : Int) == 0) = false := by rw [beq_eq_false_iff_ne]; omega
  have hform := h.form
  have HP : Hid (Tx.best (Mx.app m v) = p) := h.yes.2.2.1.symm
  have HQ : Hid (Tx.second (Mx.app m v) = q) := h.yes.2.2.2.1.symm
  clear h hf hne
  have HO1 : Hid (p = -1 ∨ ∃ j : Nat, j < n ∧ p = j) := by
    have := Tx.pick_or (Mx.app m v) (-1) (Mx.app m v).length
    rw [show Tx.pick (Mx.app m v) (-1) (Mx.app m v).length = p from HP.out] at this
    rcases this with h | ⟨j, hj, h⟩
    · exact .inl h
    · exact .inr ⟨j, by rw [Mx.app_length] at hj; omega, h⟩
  have HO2 : Hid (q = -1 ∨ ∃ j : Nat, j < n ∧ q = j) := by
    have := Tx.pick_or (Mx.app m v) (Tx.best (Mx.app m v)) (Mx.app m v).length
    rw [show Tx.pick (Mx.app m v) (Tx.best (Mx.app m v)) (Mx.app m v).length = q from HQ.out] at this
    rcases this with h | ⟨j, hj, h⟩
    · exact .inl h
    · exact .inr ⟨j, by rw [Mx.app_length] at hj; omega, h⟩
  have HT1 : Hid (∀ (u : World) (a1 : Option Addr) (c1 : Nat), Row .i64 u a1 n (Mx.app m v) → Calls Tryz.prog 112 #[.slice a1 n c1, .int .i64 0] u fun e w' => e = .returned (.int .i64 p) ∧ Below u.heap.size u w') := fun u a1 c1 hr =>
    rof a1 n c1 (Mx.app m v) 0 p u hr (by omega) HO1.out (fun i hi => by rw [← HP.out]; exact Tx.rank_best hr.len i hi)
  have HT2 : Hid (∀ (u : World) (a1 : Option Addr) (c1 : Nat), Row .i64 u a1 n (Mx.app m v) → Calls Tryz.prog 112 #[.slice a1 n c1, .int .i64 1] u fun e w' => e = .returned (.int .i64 q) ∧ Below u.heap.size u w') := fun u a1 c1 hr =>
    rof a1 n c1 (Mx.app m v) 1 q u hr (by omega) HO2.out (fun i hi => by rw [← HQ.out]; exact Tx.rank_second hr.len i hi)
  rcases hform with ⟨h1, rfl, rfl, rfl, rfl⟩ | ⟨h2, i, j, hi, hj, hne, rfl, rfl, _, _, _, hr, ht⟩
  · clear hl hz
    go_enter Tryz.func69, Tryz.ntmps69
    go_wp2_with fail
    refine (rapply a b n c v.length cb m v F _ hm1 hv1 (by omega) (by omega)).mono ?_
    rintro e u1 ⟨hg, hb1⟩
    obtain ⟨a1, c1, rfl, hr1⟩ := hg.yes HF.out
    have hr1 := Row.of_rep hr1
    have k1 := k0.keep hb1
    have hB1 := bel_then hB hb1
    clear hg hm1 hv1 k0 hB hb1
    go_wp2_with fail
    refine (HT1.out u1 a1 c1 hr1).mono ?_
    rintro e u2 ⟨rfl, hb2⟩
    go_wp2_with fail
    refine (HT2.out u2 a1 c1 (hr1.keep hb2)).mono ?_
    rintro e u3 ⟨rfl, hb3⟩
    have k3 := (k1.keep hb2).keep hb3
    have hB3 := bel_then (bel_then hB1 hb2) hb3
    have c0 := k3.cell 0 rfl; have c1' := k3.cell 1 rfl; have c2 := k3.cell 2 rfl; have c3 := k3.cell 3 rfl
    have f0 := k3.free 0; have f1 := k3.free 1; have f2 := k3.free 2; have f3 := k3.free 3
    clear k1 hB1 hb2 hb3 hr1
    go_wp2
    refine ret_var Tryz.underlying116 Tryz.infoRchoice rfl rfl rfl rfl (k3.all4 _ _ _ _) rfl ?_
    exact ⟨rfl, bel_all4 hB3 (Nat.le_refl _) _ _ _ _⟩
  · have hi' : i < n := by omega
    have hj' : j < n := by omega
    subst hr
    subst ht
    clear hl hz h2 hi hj hne HP HQ
    obtain ⟨x, hx⟩ : ∃ x, (Mx.app m v).getD i 0 = x := ⟨_, rfl⟩
    obtain ⟨y, hy⟩ : ∃ y, (Mx.app m v).getD j 0 = y := ⟨_, rfl⟩
    rw [hx, hy]
    have HX : Hid ((Mx.app m v).getD i 0 = x) := hx
    have HY : Hid ((Mx.app m v).getD j 0 = y) := hy
    clear hx hy
    go_enter Tryz.func69, Tryz.ntmps69
    go_wp2_with fail
    refine (rapply a b n c v.length cb m v F _ hm1 hv1 (by omega) (by omega)).mono ?_
    rintro e u1 ⟨hg, hb1⟩
    obtain ⟨a1, c1, rfl, hr1⟩ := hg.yes HF.out
    have hr1 := Row.of_rep hr1
    have k1 := k0.keep hb1
    have hB1 := bel_then hB hb1
    clear hg hm1 hv1 k0 hB hb1
    go_wp2_with fail
    refine (HT1.out u1 a1 c1 hr1).mono ?_
    rintro e u2 ⟨rfl, hb2⟩
    go_wp2_with fail
    refine (HT2.out u2 a1 c1 (hr1.keep hb2)).mono ?_
    rintro e u3 ⟨rfl, hb3⟩
    have k3 := (k1.keep hb2).keep hb3
    have hB3 := bel_then (bel_then hB1 hb2) hb3
    have hr3 := (hr1.keep hb2).keep hb3
    clear k1 hB1 hb2 hb3 hr1
    have e0 : (0 : Int) ≤ (j : Int) := by omega
    have ei : (i : Int) < (n : Int) := by omega
    have ej : (j : Int) < (n : Int) := by omega
    have ei0 : (0 : Int) ≤ (i : Int) := by omega
    have ej0 : (0 : Int) ≤ (j : Int) := by omega
    obtain ⟨b1, o1, rfl, hb1, hc1⟩ := hr3.at hi'
    obtain ⟨b2, o2, he, hb2, hc2⟩ := hr3.at hj'
    cases he
    rw [HX.out] at hc1
    rw [HY.out] at hc2
    have hd1 : ∀ x9 : Later u3, x9.u.cell? ⟨b1, o1 + i, none⟩ = some (.int .i64 x) := fun x9 => x9.cell hc1
    have hd2 : ∀ x9 : Later u3, x9.u.cell? ⟨b1, o1 + j, none⟩ = some (.int .i64 y) := fun x9 => x9.cell hc2
    have hne9 : Nonempty (Later u3) := Later.there u3
    clear hc1 hc2 hr3 HT1 HT2 HO1 HO2 hb1 hb2
    have hs1 := Sx.share_lo x y
    have hs2 := Sx.share_hi x y
    go_wp2
    refine region_later (by kernel_rfl) (by kernel_rfl) ?_
    repeat (go_big_quiet_step ((go_at_call 113; exact Later.same (rshare _ _ _))))
    refine wpQuiet_nil ?_
    intro x9
    obtain ⟨W9, hb9⟩ := x9
    have k9 := k3.keep hb9
    have hB9 := bel_then hB3 hb9
    have c0 := k9.cell 0 rfl; have c1' := k9.cell 1 rfl; have c2 := k9.cell 2 rfl; have c3 := k9.cell 3 rfl
    have f0 := k9.free 0; have f1 := k9.free 1; have f2 := k9.free 2; have f3 := k9.free 3
    go_wp2
    refine ret_var Tryz.underlying116 Tryz.infoRchoice rfl rfl rfl rfl (k9.all4 _ _ _ _) rfl ?_
    exact ⟨rfl, bel_all4 hB9 (Nat.le_refl _) _ _ _ _⟩

end Go.Proofs.YtokfcjgfpchffaaGreatDoor

/- What slots.Assign and the document's ahead and Slot do when called. -/
namespace Go.Proofs.YtokfcjgfpchffaaGreatDoor
open Go.ChangeShapes Go.WideShapes Go.ChangeAt Go.RowKit Go.Maps

theorem Tryz.infoPair : (Tryz.prog.info? 119).map (fun i => (i.zero, i.size, i.bytes)) = some (some (.agg #[.int .i64 0, .int .i64 0]), 2, 16) := by kernel_rfl
theorem keyInt : Keyed Tryz.prog 3 := int_keyed Tryz.underlying3
theorem zeroInt (w : World) : (zeroValue 3).run Tryz.prog w = .ok (.int .i64 0) w := by kernel_rfl
theorem index2 (p q : Int) (k : Nat) (hk : k < 2) (x : Int) (h0 : k = 0 → x = p) (h1 : k = 1 → x = q) (w : World) : (Instr.index 119 (.agg #[.int .i64 p, .int .i64 q]) (.int .i64 (k : Int))).run Tryz.prog w = .ok (.int .i64 x) w := by
  have i0 : ∀ w : World, (Instr.index 119 (.agg #[.int .i64 p, .int .i64 q]) (.int .i64 0)).run Tryz.prog w = .ok (.int .i64 p) w := fun _ => by kernel_rfl
  have i1 : ∀ w : World, (Instr.index 119 (.agg #[.int .i64 p, .int .i64 q]) (.int .i64 1)).run Tryz.prog w = .ok (.int .i64 q) w := fun _ => by kernel_rfl
  rcases (by omega : k = 0 ∨ k = 1) with rfl | rfl
  · rw [h0 rfl]; exact i0 w
  · rw [h1 rfl]; exact i1 w

/-! ### '==' of pairs -/
/-- Block B is the map of what was given by the first i parts. -/
def Given (u : World) (B : Nat) (l : List Int) (E C : Int) (i : Nat) : Prop :=
  ∃ D : DataW Unit, u.ownsMap Tryz.prog 3 (plainElem Tryz.prog 3) B i D ∧ ∀ x : Int, D.atKey (.int .i64 x) (.lit (.int .i64 0)) = .lit (.int .i64 (Sl.giv l E C i x))
theorem owns_map {u : World} {B i : Nat} {D : DataW Unit} (h : u.ownsMap Tryz.prog 3 (plainElem Tryz.prog 3) B i D) : IsMap D := by
  obtain ⟨es, clock, _, _, _, hD⟩ := h
  exact ⟨_, hD⟩
theorem Given.made (w : World) (l : List Int) (E C : Int) : Given (w.alloc (.map #[] 0)) w.heap.size l E C 0 :=
  ⟨.map [], World.ownsMap_made _ _ _ _, fun x => by rw [Sl.giv_zero]; rfl⟩
theorem Given.kept {u u' : World} {B : Nat} {l : List Int} {E C : Int} {i : Nat} (h : Given u B l E C i) {row : Option Nat} (hg : u.grownBy u' row) (hne : some B ≠ row) : Given u' B l E C i := by
  obtain ⟨D, h1, h2⟩ := h
  exact ⟨D, h1.kept hg hne, h2⟩
theorem Given.no {u : World} {B : Nat} {l : List Int} {E C : Int} {i : Nat} (h : Given u B l E C i) (hi : i < l.length) {x : Int} (hx : l.getD i 0 = x) (hno : ¬ (0 ≤ x ∧ x < E ∧ Sl.giv l E C i x < C)) : Given u B l E C (i + 1) := by
  obtain ⟨D, h1, h2⟩ := h
  refine ⟨D, h1.mono (Nat.le_succ _), fun z => ?_⟩
  rw [h2 z]
  by_cases e : z = x
  · subst e; rw [Sl.giv_no hi hx hno]
  · rw [Sl.giv_other hi (by rw [hx]; exact e)]
theorem Given.yes {u : World} {B : Nat} {l : List Int} {E C : Int} {i : Nat} {x y : Int} {D : DataW Unit} (hk : keyOf Tryz.prog 3 (.int .i64 x) = some (.int .i64 x)) (h1 : u.ownsMap Tryz.prog 3 (plainElem Tryz.prog 3) B (i + 1) (D.put (.int .i64 x) (.lit (.int .i64 (y + 1)))))
    (hm : IsMap D) (h2 : ∀ x : Int, D.atKey (.int .i64 x) (.lit (.int .i64 0)) = .lit (.int .i64 (Sl.giv l E C i x))) (hi : i < l.length) (hx : l.getD i 0 = x) (hy : y = Sl.giv l E C i x) (g0 : 0 ≤ x) (g1 : x < E) (g2 : Sl.giv l E C i x < C) : Given u B l E C (i + 1) := by
  refine ⟨_, h1, fun z => ?_⟩
  by_cases e : z = x
  · subst e
    rw [atKey_put_same hm (keyInt.key hk), Sl.giv_yes hi hx g0 g1 g2, hy]
  · rw [atKey_put_other (fun h => e (by injection h)), h2 z, Sl.giv_other hi (by rw [hx]; exact e)]

/-- The first i parts are done: the slots lie in the block behind the map's, and what is given in that. -/
def Part (w u : World) (n : Nat) (l : List Int) (E C : Int) (i : Nat) : Prop :=
  u.ownsRow (w.heap.size + 1) 119 2 (.slice (some ⟨w.heap.size + 1, 0, none⟩) n n) n ((fill (Sl.upto l E C i) (n * 2)).map (Value.int .i64)) ∧ Given u w.heap.size l E C i ∧ Below w.heap.size w u
section
variable {w u : World} {n : Nat} {l : List Int} {E C : Int} {i : Nat}
theorem Part.bel (h : Part w u n l E C i) : Below w.heap.size w u := h.2.2
theorem Part.alloc (h : Part w u n l E C i) (o : Obj) : Part w (u.alloc o) n l E C i :=
  ⟨h.1.alloc o, h.2.1.kept (World.grownBy_alloc u o none) (by simp), bel_alloc h.2.2 o⟩
theorem Part.cell (h : Part w u n l E C i) {j : Nat} (hj : j < n * 2) : ∃ z, u.cell? ⟨w.heap.size + 1, j, none⟩ = some z := by
  refine ⟨(((fill (Sl.upto l E C i) (n * 2)).map (Value.int .i64)))[j]'(by rw [h.1.1]; exact hj), ?_⟩
  rw [h.1.cellAt j hj]
  exact List.getElem?_eq_getElem _
theorem Part.free (h : Part w u n l E C i) (j : Nat) : u.frozen? ⟨w.heap.size + 1, j, none⟩ = false := h.1.frozenAt j
theorem Part.start {u0 : World} (h : u0.ownsRow (w.heap.size + 1) 119 2 (.slice (some ⟨w.heap.size + 1, 0, none⟩) n n) n (madeCells (Value.agg #[.int .i64 0, .int .i64 0]).cells (n * 2)).toList) (hg : (w.alloc (.map #[] 0)).grownBy u0 none) : Part w u0 n l E C 0 := by
  refine ⟨?_, (Given.made w l E C).kept hg (by simp), (new_bel w _).grown hg (by simp) (fun g hg => by cases hg)⟩
  have e : (madeCells (Value.agg #[.int .i64 0, .int .i64 0]).cells (n * 2)).toList = (fill (Sl.upto l E C 0) (n * 2)).map (Value.int .i64) := by
    rw [show (Value.agg #[.int .i64 0, .int .i64 0]).cells = #[.int .i64 0, .int .i64 0] from rfl, made_pairs]
    simp [fill, Sl.upto]
  rw [e] at h
  exact h
theorem set_map (L : List Int) (j : Nat) (x : Int) : (L.map (Value.int .i64)).set j (.int .i64 x) = (L.set j x).map (Value.int .i64) := by rw [List.map_set]
theorem Part.no (h : Part w u n l E C i) (hl : l.length = n * 2) (hi : i < n * 2) {x : Int} (hx : l.getD i 0 = x) (hno : ¬ (0 ≤ x ∧ x < E ∧ Sl.giv l E C i x < C)) : Part w (u.setCell ⟨w.heap.size + 1, i, none⟩ (.int .i64 (-1))) n l E C (i + 1) := by
  obtain ⟨h1, h2, h3⟩ := h
  obtain ⟨k1, k2⟩ := h1.stored i (.int .i64 (-1))
  refine ⟨?_, (h2.kept k2 (by simp)).no (by omega) hx hno, bel_put h3 (by omega) _⟩
  rw [set_map] at k1
  have e := fill_set (Sl.upto l E C i) (n * 2) (-1) (by rw [Sl.upto_len]; exact hi)
  rw [Sl.upto_len] at e
  rw [Sl.upto_succ, Sl.slot_no hx hno, ← e]
  exact k1
theorem Part.yes {w1 : World} {x y : Int} {D : DataW Unit} (h : Part w u n l E C i) (hl : l.length = n * 2) (hi : i < n * 2) (hx : l.getD i 0 = x) (hk : keyOf Tryz.prog 3 (.int .i64 x) = some (.int .i64 x)) (hy : y = Sl.giv l E C i x) (g0 : 0 ≤ x) (g1 : x < E) (g2 : Sl.giv l E C i x < C)
    (hm : IsMap D) (hD : ∀ x : Int, D.atKey (.int .i64 x) (.lit (.int .i64 0)) = .lit (.int .i64 (Sl.giv l E C i x)))
    (hw : w1.ownsMap Tryz.prog 3 (plainElem Tryz.prog 3) w.heap.size (i + 1) (D.put (.int .i64 x) (.lit (.int .i64 (y + 1))))) (hg : ((u.setCell ⟨w.heap.size + 1, i, none⟩ (.int .i64 (-1))).setCell ⟨w.heap.size + 1, i, none⟩ (.int .i64 y)).grownBy w1 (some w.heap.size)) : Part w w1 n l E C (i + 1) := by
  obtain ⟨h1, h2, h3⟩ := h
  obtain ⟨k1, k2⟩ := h1.stored i (.int .i64 (-1))
  obtain ⟨k3, k4⟩ := k1.stored i (.int .i64 y)
  have hb := bel_put (i := i) (bel_put (i := i) h3 (b := w.heap.size + 1) (by omega) (.int .i64 (-1))) (b := w.heap.size + 1) (by omega) (.int .i64 y)
  refine ⟨?_, Given.yes hk hw hm hD (by omega) hx hy g0 g1 g2, hb.grown hg hb.size (fun j hj => by cases hj; exact Nat.le_refl _)⟩
  have k5 := k3.kept hg (.inr (by show some (w.heap.size + 1) ≠ some w.heap.size; simp))
  rw [set_map, set_map] at k5
  have e := Sl.put_one (done := Sl.upto l E C i) (n := n * 2) (y := -1) (x := y) (by rw [Sl.upto_len]; exact hi)
  rw [Sl.upto_len] at e
  rw [Sl.upto_succ, Sl.slot_yes hx g0 g1 g2, ← hy, ← e]
  exact k5
theorem Part.done (h : Part w u n l E C (n * 2)) (hl : l.length = n * 2) : Flat u (some ⟨w.heap.size + 1, 0, none⟩) n (Sl.slots l E C) := by
  have h1 := h.1
  rw [fill_full _ _ (Sl.upto_len _ _ _ _)] at h1
  have := Flat.of_owns h1
  unfold Sl.slots
  rw [hl]
  exact this
theorem Part.looked (h : Part w u n l E C i) : ∃ D : DataW Unit, (u.setCell ⟨w.heap.size + 1, i, none⟩ (.int .i64 (-1))).ownsMap Tryz.prog 3 (plainElem Tryz.prog 3) w.heap.size i D ∧ (∀ y : Int, ((u.setCell ⟨w.heap.size + 1, i, none⟩ (.int .i64 (-1))).setCell ⟨w.heap.size + 1, i, none⟩ (.int .i64 y)).ownsMap Tryz.prog 3 (plainElem Tryz.prog 3) w.heap.size i D) ∧ IsMap D ∧ ∀ x : Int, D.atKey (.int .i64 x) (.lit (.int .i64 0)) = .lit (.int .i64 (Sl.giv l E C i x)) := by
  obtain ⟨h1, ⟨D, h2, hD⟩, h3⟩ := h
  have k2 := h2.kept (grown_set u (w.heap.size + 1) i (.int .i64 (-1))) (by simp)
  exact ⟨D, k2, fun y => k2.kept (grown_set _ (w.heap.size + 1) i (.int .i64 y)) (by simp), owns_map h2, hD⟩
end

set_option maxHeartbeats 4000000 in
set_option maxRecDepth 100000 in
theorem assign (a : Option Addr) (n c : Nat) (l : List Int) (E C : Int) (w : World) (h : Flat w a n l) (hn : n ≤ 1000) (hf : ∀ x ∈ l, (Lit.int .i64 x).wf = true) :
    Calls Tryz.prog 121 #[.slice a n c, .int .i64 E, .int .i64 C] w fun e w' => Below w.heap.size w w' ∧ ∃ b, e = .returned (.slice (some ⟨b, 0, none⟩) n n) ∧ Flat w' (some ⟨b, 0, none⟩) n (Sl.slots l E C) := by
  obtain ⟨i0, hi0, hi1, hi2, hi3⟩ := info_parts Tryz.infoPair
  have hmm := @run_makeMap Tryz.prog
  have HF : Hid (∀ x ∈ l, (Lit.int .i64 x).wf = true) := hf
  have HL : Hid (l.length = n * 2) := h.len
  have HH : Hid (Flat w a n l) := h
  clear hf h
  go_enter Tryz.func121, Tryz.ntmps121
  go_wp2_with (at_make; refine wpList_make_full _ rfl _ _ 114 rfl (w.heap.size + 1) 119 i0 (.agg #[.int .i64 0, .int .i64 0]) 2 Tryz.underlying114 hi0 hi1 hi2 _ _ _ _ n rfl rfl (by rfl) (by rfl) ?b2 ?b3 ?b4 ?_)
  case b2 => rw [hi3]; omega
  case b3 => unfold maxLen; omega
  case b4 => simp
  intro u0 hown0 hg0
  have HP : Hid (Part w u0 n l E C 0) := Part.start hown0 hg0
  clear hown0 hg0 hmm
  go_wp2
  go_loopw [20] (fun i wr => ∃ j : Nat, j ≤ n ∧ i = .int .i64 j ∧ Part w wr n l E C (j * 2)) (fun i _ => n - (intOf i).toNat)
  case atStart => exact ⟨0, Nat.zero_le _, rfl, HP.out⟩
  case round =>
    clear HP
    obtain ⟨j, hj, rfl, hp⟩ := hrel
    obtain ⟨W0, hW0⟩ : ∃ W0, W0 = wr := ⟨_, rfl⟩
    subst hW0
    by_cases hlt : j < n
    · obtain ⟨b1, o1, rfl, _, c0, c1⟩ := (HH.out.keep hp.bel).at hlt
      have hli : (j : Int) < (n : Int) := by omega
      have hj0 : (0 : Int) ≤ (j : Int) := by omega
      obtain ⟨p, hP⟩ : ∃ p, l.getD (j * 2) 0 = p := ⟨_, rfl⟩
      obtain ⟨q, hQ⟩ : ∃ q, l.getD (j * 2 + 1) 0 = q := ⟨_, rfl⟩
      rw [hP] at c0
      rw [hQ] at c1
      have HPQ : Hid (l.getD (j * 2) 0 = p ∧ l.getD (j * 2 + 1) 0 = q) := ⟨hP, hQ⟩
      have HP : Hid (Part w (W0.alloc (.cells #[.int .i64 p, .int .i64 q] 119)) n l E C (j * 2)) := hp.alloc _
      clear hP hQ hp
      go_wp2
      go_loopw [26] (fun i wr => ∃ k : Nat, k ≤ 2 ∧ i = .int .i64 k ∧ Part w wr n l E C (j * 2 + k)) (fun i _ => 2 - (intOf i).toNat)
      case atStart => exact ⟨0, Nat.zero_le _, rfl, HP.out⟩
      case round =>
        clear HP c0 c1
        obtain ⟨k, hk, rfl, hp⟩ := hrel
        by_cases hk2 : k < 2
        · have hkc : (k : Int) < 2 := by omega
          have hk0 : (0 : Int) ≤ (k : Int) := by omega
          obtain ⟨x, hX⟩ : ∃ x, l.getD (j * 2 + k) 0 = x := ⟨_, rfl⟩
          have hix := index2 p q k hk2 x (fun e => by subst e; rw [← hX]; exact HPQ.out.1) (fun e => by subst e; rw [← hX]; exact HPQ.out.2)
          have HX : Hid (l.getD (j * 2 + k) 0 = x) := hX
          have hkey : keyOf Tryz.prog 3 (.int .i64 x) = some (.int .i64 x) := keyOf_int_mk Tryz.underlying3 (HF.out x (by rw [← hX]; exact Sl.num_mem (by have := HL.out; omega)))
          obtain ⟨z, hz⟩ := hp.cell (j := j * 2 + k) (by omega)
          have f0 := hp.free (j * 2 + k)
          obtain ⟨D, hown, hown2, hm, hD⟩ := hp.looked
          obtain ⟨y, hY⟩ : ∃ y, Sl.giv l E C (j * 2 + k) x = y := ⟨_, rfl⟩
          have hy9 : 0 ≤ y ∧ y ≤ 2000 := by have := Sl.giv_le l E C x (j * 2 + k); omega
          have HY : Hid (Sl.giv l E C (j * 2 + k) x = y) := hY
          have HD : Hid (∀ x : Int, D.atKey (.int .i64 x) (.lit (.int .i64 0)) = .lit (.int .i64 (Sl.giv l E C (j * 2 + k) x))) := hD
          have HP : Hid (Part w wr n l E C (j * 2 + k)) := hp
          clear hX hD hY hp
          by_cases hin : 0 ≤ x ∧ x < E ∧ y < C
          · obtain ⟨g0, g1, g2⟩ := hin
            go_wp2_with (first
              | (at_lookup; refine wpList_lookup_own_int _ rfl _ _ 191 rfl 3 3 .i64 keyInt Tryz.underlying191 Tryz.underlying3 (zeroInt _) w.heap.size (j * 2 + k) _ rfl hown _ _ rfl hkey ?_; intro c9 hat hwc; obtain rfl : c9 = y := (by have h7 := HD.out x; rw [hat, HY.out] at h7; injection h7 with h7; injection h7); clear hat hwc)
              | (at_mapUpdate; refine wpList_mapUpdate_own _ rfl _ _ _ 191 rfl 3 3 keyInt Tryz.underlying191 _ w.heap.size (j * 2 + k) _ rfl (hown2 _) (by unfold maxLen; omega) _ _ _ rfl rfl hkey _ [] (plainElem_int Tryz.underlying3 (WalkArith.wf_i64 (by omega))) ?_; intro w1 hown3 hgrow3)
              | go_in)
            go_roundw
            case rel => exact ⟨k + 1, by omega, by go_num, HP.out.yes HL.out (by omega) HX.out hkey HY.out.symm g0 g1 (by rw [HY.out]; exact g2) hm HD.out hown3 hgrow3⟩
            case measure => simp [intOf]; omega
          · have HN : Hid (¬ (0 ≤ x ∧ x < E ∧ Sl.giv l E C (j * 2 + k) x < C)) := by rw [HY.out]; exact hin
            rcases (by omega : x < 0 ∨ (0 ≤ x ∧ E ≤ x) ∨ (0 ≤ x ∧ x < E ∧ C ≤ y)) with g0 | ⟨g0, g1⟩ | ⟨g0, g1, g2⟩
            all_goals
              clear hin
              go_wp2_with (first
                | (at_lookup; refine wpList_lookup_own_int _ rfl _ _ 191 rfl 3 3 .i64 keyInt Tryz.underlying191 Tryz.underlying3 (zeroInt _) w.heap.size (j * 2 + k) _ rfl hown _ _ rfl hkey ?_; intro c9 hat hwc; obtain rfl : c9 = y := (by have h7 := HD.out x; rw [hat, HY.out] at h7; injection h7 with h7; injection h7); clear hat hwc)
                | go_in)
              go_roundw
              case rel => exact ⟨k + 1, by omega, by go_num, HP.out.no HL.out (by omega) HX.out HN.out⟩
              case measure => simp [intOf]; omega
        · have hkk : k = 2 := by omega
          subst hkk
          have hli2 : ¬ ((2 : Nat) : Int) < 2 := by omega
          go_wp2
          go_roundw
          case rel => exact ⟨j + 1, by omega, by go_num, by rw [Nat.add_mul, Nat.one_mul]; exact hp⟩
          case measure => simp [intOf]; omega
    · have hjn : j = n := by omega
      subst hjn
      have hli : ¬ (j : Int) < (j : Int) := by omega
      go_wp2
      go_ret
      exact ⟨hp.bel, _, rfl, hp.done HL.out⟩

end Go.Proofs.YtokfcjgfpchffaaGreatDoor

/- What the document's ahead and Slot do when called, and the fixed answer of the laws of layer 14. -/
namespace Go.Proofs.YtokfcjgfpchffaaGreatDoor
open Go.ChangeShapes Go.WideShapes Go.ChangeAt Go.RowKit Go.Maps

theorem Sl.cut_yes {l : List Int} {x : Int} {p P m : Nat} (hm : Sl.cnt l x (min p P) = m) (h : p < P) (hp : p < l.length) (e : l.getD p 0 = x) : Sl.cnt l x (min (p + 1) P) = m + 1 := by
  rw [Nat.min_eq_left (by omega)] at hm ⊢
  rw [Sl.cnt_yes hp e, hm]
theorem Sl.cut_no {l : List Int} {x : Int} {p P m : Nat} (hm : Sl.cnt l x (min p P) = m) (hp : p < l.length) (h : ¬ (p < P ∧ l.getD p 0 = x)) : Sl.cnt l x (min (p + 1) P) = m := by
  by_cases hlt : p < P
  · rw [Nat.min_eq_left (by omega)] at hm ⊢
    rw [Sl.cnt_no hp (fun e => h ⟨hlt, e⟩)]
    exact hm
  · rw [Nat.min_eq_right (by omega)] at hm ⊢
    exact hm

set_option maxRecDepth 100000 in
set_option maxHeartbeats 4000000 in
theorem ahead (a : Option Addr) (n c : Nat) (l : List Int) (t k : Nat) (x : Int) (m0 : Nat) (w : World) (h : Flat w a n l) (hn : n ≤ 1000) (ht : t < n) (hk : k < 2) (hm0 : Sl.cnt l x (t * 2 + k) = m0) :
    Calls Tryz.prog 114 #[.slice a n c, .int .i64 (t : Int), .int .i64 (k : Int), .int .i64 x] w fun e w' => e = .returned (.int .i64 (m0 : Int)) ∧ w' = w := by
  have HL : Hid (l.length = n * 2) := h.len
  have HH : Hid (Flat w a n l) := h
  have HM : Hid (Sl.cnt l x (t * 2 + k) = m0) := hm0
  clear h hm0
  go_enter Tryz.func114, Tryz.ntmps114
  go_wp2
  go_loopw [9, 10] (fun v i wr => ∃ j m : Nat, j ≤ t + 1 ∧ v = .int .i64 m ∧ i = .int .i64 j ∧ Hid (Sl.cnt l x (min (j * 2) (t * 2 + k)) = m) ∧ wr = w) (fun _ i _ => t + 1 - (intOf i).toNat)
  case atStart => exact ⟨0, 0, Nat.zero_le _, rfl, rfl, by show _ = _; rw [Nat.zero_mul, Nat.min_eq_left (Nat.zero_le _), Sl.cnt_zero], rfl⟩
  case round =>
    obtain ⟨j, m, hj, rfl, rfl, HC, hww⟩ := hrel
    replace hww := hww.symm
    subst hww
    by_cases hlt : j ≤ t
    · have hli : (j : Int) ≤ (t : Int) := by omega
      have hj0 : (0 : Int) ≤ (j : Int) := by omega
      have hjn : (j : Int) < (n : Int) := by omega
      go_wp2
      go_loopw [9, 11] (fun v i wr => ∃ r m : Nat, r ≤ 2 ∧ v = .int .i64 m ∧ i = .int .i64 r ∧ Hid (Sl.cnt l x (min (j * 2 + r) (t * 2 + k)) = m) ∧ wr = w) (fun _ i _ => 2 - (intOf i).toNat)
      case atStart => exact ⟨0, m, Nat.zero_le _, rfl, rfl, HC, rfl⟩
      case round =>
        clear HC
        obtain ⟨r, m, hr, rfl, rfl, HC, hww⟩ := hrel
        replace hww := hww.symm
        subst hww
        by_cases hr2 : r < 2
        · obtain ⟨b1, o1, rfl, _, hc1⟩ := HH.out.one (j := j) (by omega) hr2
          obtain ⟨X, hX⟩ : ∃ X, l.getD (j * 2 + r) 0 = X := ⟨_, rfl⟩
          rw [hX] at hc1
          have HX : Hid (l.getD (j * 2 + r) 0 = X) := hX
          have hm9 : m ≤ 3000 := by have h7 := Sl.cnt_le l x (min (j * 2 + r) (t * 2 + k)); rw [HC.out] at h7; omega
          have hrc : (r : Int) < 2 := by omega
          have hr0 : (0 : Int) ≤ (r : Int) := by omega
          clear hX
          by_cases hx : X = x
          · have e1 : (X == x) = true := by rw [hx]; simp
            by_cases hjt : j < t
            · have e2 : (j : Int) < (t : Int) := by omega
              have HC2 : Hid (Sl.cnt l x (min (j * 2 + (r + 1)) (t * 2 + k)) = m + 1) := Sl.cut_yes (p := j * 2 + r) HC.out (by omega) (by have := HL.out; omega) (HX.out.trans hx)
              clear hx
              go_wp2
              go_roundw
              case rel => exact ⟨r + 1, m + 1, by omega, by go_num, by go_num, HC2, by trivial⟩
              case measure => simp [intOf]; omega
            · have e2 : ¬ (j : Int) < (t : Int) := by omega
              by_cases hrk : r < k
              · have e3 : (r : Int) < (k : Int) := by omega
                have HC2 : Hid (Sl.cnt l x (min (j * 2 + (r + 1)) (t * 2 + k)) = m + 1) := Sl.cut_yes (p := j * 2 + r) HC.out (by omega) (by have := HL.out; omega) (HX.out.trans hx)
                clear hx
                go_wp2
                go_roundw
                case rel => exact ⟨r + 1, m + 1, by omega, by go_num, by go_num, HC2, by trivial⟩
                case measure => simp [intOf]; omega
              · have e3 : ¬ (r : Int) < (k : Int) := by omega
                have HC2 : Hid (Sl.cnt l x (min (j * 2 + (r + 1)) (t * 2 + k)) = m) := Sl.cut_no (p := j * 2 + r) HC.out (by have := HL.out; omega) (fun h => by omega)
                clear hx
                go_wp2
                go_roundw
                case rel => exact ⟨r + 1, m, by omega, rfl, by go_num, HC2, by trivial⟩
                case measure => simp [intOf]; omega
          · have e1 : (X == x) = false := by simpa using hx
            have HC2 : Hid (Sl.cnt l x (min (j * 2 + (r + 1)) (t * 2 + k)) = m) := Sl.cut_no (p := j * 2 + r) HC.out (by have := HL.out; omega) (fun h => hx (by rw [← HX.out]; exact h.2))
            clear hx
            go_wp2
            go_roundw
            case rel => exact ⟨r + 1, m, by omega, rfl, by go_num, HC2, by trivial⟩
            case measure => simp [intOf]; omega
        · have hrr : r = 2 := by omega
          subst hrr
          have hli2 : ¬ ((2 : Nat) : Int) < 2 := by omega
          have HC2 : Hid (Sl.cnt l x (min ((j + 1) * 2) (t * 2 + k)) = m) := by show _ = _; rw [Nat.add_mul, Nat.one_mul]; exact HC.out
          have hj9 : j ≤ 2000 := by omega
          go_wp2
          go_roundw
          case rel => exact ⟨j + 1, m, by omega, rfl, by go_num, HC2, by trivial⟩
          case measure => simp [intOf]; omega
    · have hjt : j = t + 1 := by omega
      subst hjt
      have hli : ¬ ((t + 1 : Nat) : Int) ≤ (t : Int) := by omega
      have hmm : m = m0 := by have h7 := HC.out; rw [Nat.min_eq_right (by omega), HM.out] at h7; exact h7.symm
      subst hmm
      go_wp2
      go_ret
      exact ⟨rfl, rfl⟩

set_option maxRecDepth 100000 in
theorem rslot (a : Option Addr) (n c : Nat) (l : List Int) (E C : Int) (t k : Nat) (s : Int) (w : World) (h : Flat w a n l) (hn : n ≤ 1000) (ht : t < n) (hk : k < 2) (hs : Sl.slot l E C (t * 2 + k) = s) :
    Calls Tryz.prog 70 #[.slice a n c, .int .i64 E, .int .i64 C, .int .i64 (t : Int), .int .i64 (k : Int)] w fun e w' => e = .returned (.int .i64 s) ∧ w' = w := by
  obtain ⟨b1, o1, rfl, _, hc1⟩ := h.one ht hk
  obtain ⟨X, hX⟩ : ∃ X, l.getD (t * 2 + k) 0 = X := ⟨_, rfl⟩
  obtain ⟨m, hm⟩ : ∃ m, Sl.cnt l X (t * 2 + k) = m := ⟨_, rfl⟩
  rw [hX] at hc1
  have hA := ahead _ n c l t k X m w h hn ht hk hm
  have htn : (t : Int) < (n : Int) := by omega
  have ht0 : (0 : Int) ≤ (t : Int) := by omega
  have hkc : (k : Int) < 2 := by omega
  have hk0 : (0 : Int) ≤ (k : Int) := by omega
  unfold Sl.slot at hs
  rw [hX, hm] at hs
  by_cases hin : 0 ≤ X ∧ X < E ∧ (m : Int) < C
  · rw [if_pos hin] at hs
    obtain ⟨g0, g1, g2⟩ := hin
    subst hs
    clear hX hm h
    go_enter Tryz.func70, Tryz.ntmps70
    go_wp2_with (go_at_call 114; refine by_same hA ?_)
    go_ret
    exact ⟨rfl, rfl⟩
  · rw [if_neg hin] at hs
    subst hs
    rcases (by omega : X < 0 ∨ (0 ≤ X ∧ E ≤ X) ∨ (0 ≤ X ∧ X < E ∧ C ≤ (m : Int))) with g0 | ⟨g0, g1⟩ | ⟨g0, g1, g2⟩
    all_goals
      clear hin hX hm h
      go_enter Tryz.func70, Tryz.ntmps70
      go_wp2_with (go_at_call 114; refine by_same hA ?_)
      go_ret
      exact ⟨rfl, rfl⟩

end Go.Proofs.YtokfcjgfpchffaaGreatDoor
