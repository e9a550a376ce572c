/- What the functions of package top and the document's answers for layer 4 do when called. -/
import Derived.Test.YtokkhkhipgopbaaBase
import Derived.Test.YtokkhkhipgopbaaJb
namespace Go.Proofs.Ytokkhkhipgopbaa
open Go.ChangeShapes Go.WideShapes Go.ChangeAt Go.RowKit

set_option maxRecDepth 100000 in
theorem bestBut (a : Option Addr) (n c : Nat) (l : List Int) (but : Int) (w : World) (ha : Row .i64 w a n l) (hn : n ≤ 100000) :
    Calls Try.prog 65 #[.slice a n c, .int .i64 but] w fun e w' => e = .returned (.int .i64 (Tx.pick l but n)) ∧ w' = w := by
  go_enter Try.func65, Try.ntmps65
  go_wp2
  go_loopw [5, 10] (fun v i wr => ∃ k : Nat, k ≤ n ∧ i = .int .i64 k ∧ v = .int .i64 (Tx.pick l but k) ∧ wr = w) (fun _ i _ => n - (intOf i).toNat)
  case atStart => exact ⟨0, Nat.zero_le _, rfl, rfl, rfl⟩
  case round =>
    obtain ⟨k, hk, rfl, rfl, hww⟩ := hrel
    replace hww := hww.symm
    subst hww
    by_cases hlt : k < n
    · have hli : (k : Int) < (n : Int) := by omega
      by_cases hb : (k : Int) = but
      · obtain ⟨b1, o1, rfl, hb1, hc1⟩ := ha.at hlt
        have e0 : ((k : Int) != but) = false := by simp [hb]
        have HP : Hid (Tx.pick l but (k + 1) = Tx.pick l but k) := Tx.pick_but hb
        clear hb
        generalize Tx.pick l but k = p at *
        generalize l.getD k 0 = x at *
        go_wp2
        go_roundw
        case rel => exact ⟨k + 1, by omega, by go_num, by rw [HP.out], by trivial⟩
        case measure => simp [intOf]; omega
      · have e0 : ((k : Int) != but) = true := by simp [hb]
        rcases Tx.pick_or l but k with hp | ⟨j, hj, hp⟩
        · obtain ⟨b1, o1, rfl, hb1, hc1⟩ := ha.at hlt
          have HP : Hid (Tx.pick l but (k + 1) = k) := Tx.pick_one hb hp
          rw [hp]
          clear hb hp
          generalize l.getD k 0 = x at *
          go_wp2
          go_roundw
          case rel => exact ⟨k + 1, by omega, by go_num, by rw [HP.out], by trivial⟩
          case measure => simp [intOf]; omega
        · obtain ⟨b1, o1, rfl, hb1, hc1⟩ := ha.at hlt
          obtain ⟨b2, o2, he, hb2, hc2⟩ := ha.at (show j < n by omega)
          cases he
          have hji : (j : Int) < (n : Int) := by omega
          have hj0 : (0 : Int) ≤ (j : Int) := by omega
          have e1 : ((j : Int) == -1) = false := by simp
          by_cases hl : l.getD j 0 < l.getD k 0
          · have HP : Hid (Tx.pick l but (k + 1) = k) := Tx.pick_more hb hp hl
            rw [hp]
            clear hb hp
            generalize l.getD k 0 = x at *
            generalize l.getD j 0 = y at *
            go_wp2
            go_roundw
            case rel => exact ⟨k + 1, by omega, by go_num, by rw [HP.out], by trivial⟩
            case measure => simp [intOf]; omega
          · have HP : Hid (Tx.pick l but (k + 1) = j) := (Tx.pick_stay hp hl).trans hp
            rw [hp]
            clear hb hp
            generalize l.getD k 0 = x at *
            generalize l.getD j 0 = y at *
            go_wp2
            go_roundw
            case rel => exact ⟨k + 1, by omega, by go_num, by rw [HP.out], by trivial⟩
            case measure => simp [intOf]; omega
    · have hkn : k = n := by omega
      subst hkn
      have hli : ¬ (k : Int) < (k : Int) := by omega
      go_wp2
      go_ret
      exact ⟨rfl, rfl⟩

set_option maxRecDepth 100000 in
theorem best (a : Option Addr) (n c : Nat) (l : List Int) (w : World) (ha : Row .i64 w a n l) (hn : n ≤ 100000) :
    Calls Try.prog 64 #[.slice a n c] w fun e w' => e = .returned (.int .i64 (Tx.best l)) ∧ w' = w := by
  have HB : Hid (Tx.pick l (-1) n = Tx.best l) := by show _ = _; unfold Tx.best; rw [ha.len]
  go_enter Try.func64, Try.ntmps64
  go_wp2_with (go_at_call 65; refine by_same (bestBut a n c l (-1) _ ha hn) ?_)
  rw [HB.out]
  go_ret
  exact ⟨rfl, rfl⟩

set_option maxRecDepth 100000 in
theorem two (a : Option Addr) (n c : Nat) (l : List Int) (w : World) (ha : Row .i64 w a n l) (hn : n ≤ 100000) :
    Calls Try.prog 60 #[.slice a n c] w fun e w' => e = .returned (.tuple #[.int .i64 (Tx.best l), .int .i64 (Tx.second l)]) ∧ w' = w := by
  have HB : Hid (Tx.pick l (Tx.best l) n = Tx.second l) := by show _ = _; unfold Tx.second; rw [ha.len]
  go_enter Try.func60, Try.ntmps60
  go_wp2_with (first
    | (go_at_call 64; refine by_same (best a n c l _ ha hn) ?_)
    | (go_at_call 65; refine by_same (bestBut a n c l (Tx.best l) _ ha hn) ?_)
    | fail)
  rw [HB.out]
  go_ret2
  exact ⟨rfl, rfl⟩

end Go.Proofs.Ytokkhkhipgopbaa
