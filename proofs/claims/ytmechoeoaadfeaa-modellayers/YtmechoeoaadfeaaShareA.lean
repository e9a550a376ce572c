/- What the functions of package share, the document's answers for layer 5, and the laws' fixed answer do when called: the integer functions of Sx, the world as it was, for every int. -/
import Derived.Test.YtmechoeoaadfeaaBase
import Derived.Test.YtmechoeoaadfeaaHold
import Derived.Test.YtmechoeoaadfeaaSx
namespace Go.Proofs.Ytmechoeoaadfeaa
open Go.ChangeShapes Go.WideShapes Go.ChangeAt Go.RowKit

theorem weight (n : Int) (w : World) : Calls Try.prog 69 #[.int .i64 n] w fun e w' => e = .returned (.int .i64 (Sx.part n)) ∧ w' = w := by
  have h4 : n < 0 ∨ n = 0 ∨ 2147483647 < n ∨ (0 < n ∧ n ≤ 2147483647) := by omega
  have hr := hold n w
  rcases h4 with h | rfl | h | ⟨h, g⟩
  · have hn : Fx.hold n < 0 := by unfold Fx.hold; split <;> (try split) <;> omega
    rw [Sx.part_neg h]
    generalize Fx.hold n = m at *
    go_enter Try.func69, Try.ntmps69
    go_wp2_with (go_at_call 59; refine by_same hr ?_)
    go_ret
    exact ⟨rfl, rfl⟩
  · rw [show Fx.hold 0 = 0 from rfl] at hr
    go_enter Try.func69, Try.ntmps69
    go_wp2_with (go_at_call 59; refine by_same hr ?_)
    go_ret
    exact ⟨ret_int (show (1 : Int) = Sx.part 0 from rfl), rfl⟩
  · rw [Fx.hold_big h] at hr
    rw [Sx.part_big h]
    go_enter Try.func69, Try.ntmps69
    go_wp2_with (go_at_call 59; refine by_same hr ?_)
    go_ret
    exact ⟨rfl, rfl⟩
  · rw [Fx.hold_id (by omega) (by omega)] at hr
    rw [Sx.part_mid (by omega) g]
    go_enter Try.func69, Try.ntmps69
    go_wp2_with (go_at_call 59; refine by_same hr ?_)
    go_ret
    exact ⟨rfl, rfl⟩

theorem shares (a b : Int) (w : World) : Calls Try.prog 61 #[.int .i64 a, .int .i64 b] w fun e w' => e = .returned (.tuple #[.int .i64 (Sx.share a b), .int .i64 (65536 - Sx.share a b)]) ∧ w' = w := by
  have a1 := Sx.part_lo a; have a2 := Sx.part_hi a; have b1 := Sx.part_lo b; have b2 := Sx.part_hi b
  have s1 := Sx.share_lo a b; have s2 := Sx.share_hi a b
  have hne : ((Sx.part a + Sx.part b) == 0) = false := by simp; omega
  have e := Sx.share_tdiv a b
  rw [← e] at s1 s2
  have HE : Hid ((Sx.part a * 65536).tdiv (Sx.part a + Sx.part b) = Sx.share a b) := e
  clear e
  go_enter Try.func61, Try.ntmps61
  go_wp2_with (first
    | (go_at_call 69; refine by_same (weight _ _) ?_)
    | fail)
  rw [HE.out]
  go_ret2
  exact ⟨rfl, rfl⟩

theorem rpart (n : Int) (w : World) : Calls Try.prog 64 #[.int .i64 n] w fun e w' => e = .returned (.int .i64 (Sx.part n)) ∧ w' = w := by
  by_cases h1 : n < 0
  · rw [Sx.part_neg h1]
    go_enter Try.func64, Try.ntmps64
    go_wp2
    go_ret
    exact ⟨rfl, rfl⟩
  · by_cases h2 : 2147483647 < n
    · rw [Sx.part_big h2]
      go_enter Try.func64, Try.ntmps64
      go_wp2
      go_ret
      exact ⟨rfl, rfl⟩
    · rw [Sx.part_mid (by omega) (by omega)]
      go_enter Try.func64, Try.ntmps64
      go_wp2
      go_ret
      exact ⟨rfl, rfl⟩

set_option maxHeartbeats 1000000 in
theorem rshare (a b : Int) (w : World) : Calls Try.prog 45 #[.int .i64 a, .int .i64 b] w fun e w' => e = .returned (.int .i64 (Sx.share a b)) ∧ w' = w := by
  have a1 := Sx.part_lo a; have a2 := Sx.part_hi a; have b1 := Sx.part_lo b; have b2 := Sx.part_hi b
  have hr := rpart a; have hs := rpart b
  have HS : Hid (∀ q left : Int, q * (Sx.part a + Sx.part b) + left = Sx.part a * 65536 → 0 ≤ left → left < Sx.part a + Sx.part b → q = Sx.share a b) := fun _ _ h0 h1 h2 => Sx.share_eq h0 h1 h2
  generalize Sx.part a = x at *
  generalize Sx.part b = y at *
  generalize Sx.share a b = s at *
  go_enter Try.func45, Try.ntmps45
  go_wp2_with (first
    | (go_at_call 64; first | refine by_same (hr _) ?_ | refine by_same (hs _) ?_)
    | fail)
  go_loopw [7, 8, 9] (fun u v i wr => ∃ (k : Nat) (q l : Int), k ≤ 16 ∧ i = .int .i64 k ∧ u = .int .i64 q ∧ v = .int .i64 l ∧ 0 ≤ q ∧ q < 2 ^ k ∧ 0 ≤ l ∧ l < x + y ∧ q * (x + y) + l = x * 2 ^ k ∧ wr = w) (fun _ _ i _ => 16 - (intOf i).toNat)
  case atStart => exact ⟨0, 0, x, by omega, rfl, rfl, rfl, by omega, by decide, by omega, by omega, by omega, rfl⟩
  case round =>
    obtain ⟨k, q, l, hk, rfl, rfl, rfl, hq0, hq1, hl0, hl1, he, hww⟩ := hrel
    replace hww := hww.symm
    subst hww
    have HE : Hid (q * (x + y) + l = x * 2 ^ k) := he
    have HQ : Hid (q < 2 ^ k) := hq1
    have hq2 := Int.lt_of_lt_of_le hq1 (Sx.pow_hi hk)
    clear he hq1
    by_cases hlt : k < 16
    · have hli : (k : Int) < 16 := by omega
      by_cases hc : x + y ≤ 2 * l
      · go_wp2
        go_roundw
        case rel => exact ⟨k + 1, 2 * q + 1, 2 * l - (x + y), by omega, by go_num, rfl, rfl, by omega, by have := HQ.out; rw [Int.pow_succ]; omega, by omega, by omega, Sx.step_yes HE.out, by trivial⟩
        case measure => simp [intOf]; omega
      · go_wp2
        go_roundw
        case rel => exact ⟨k + 1, 2 * q, 2 * l, by omega, by go_num, rfl, rfl, by omega, by have := HQ.out; rw [Int.pow_succ]; omega, by omega, by omega, Sx.step_no HE.out, by trivial⟩
        case measure => simp [intOf]; omega
    · have hkn : k = 16 := by omega
      subst hkn
      have hq := HS.out q l HE.out hl0 hl1
      subst hq
      clear HS HE HQ
      go_wp2
      go_ret
      exact ⟨rfl, rfl⟩

end Go.Proofs.Ytmechoeoaadfeaa
