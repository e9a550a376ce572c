/- What the functions of package share, the document's answers for layer 5, and the laws' fixed answer do when called: the integer functions of Sx, the world as it was, for every int. -/
import Derived.Test.YtokkhkhipgopbaaBase
import Derived.Test.YtokkhkhipgopbaaHold
import Derived.Test.YtokkhkhipgopbaaJb
namespace Go.Proofs.Ytokkhkhipgopbaa
open Go.ChangeShapes Go.WideShapes Go.ChangeAt Go.RowKit

set_option maxRecDepth 100000 in
theorem weight (n : Int) (w : World) : Calls Try.prog 66 #[.int .i64 n] w fun e w' => e = .returned (.int .i64 (Sx.part n)) ∧ w' = w := by
  have h4 : n < 0 ∨ n = 0 ∨ 2147483647 < n ∨ (0 < n ∧ n ≤ 2147483647) := by omega
  have hr := hold n w
  rcases h4 with h | rfl | h | ⟨h, g⟩
  · have hn : Fx.hold n < 0 := by unfold Fx.hold; split <;> (try split) <;> omega
    rw [Sx.part_neg h]
    generalize Fx.hold n = m at *
    go_enter Try.func66, Try.ntmps66
    go_wp2_with (go_at_call 57; refine by_same hr ?_)
    go_ret
    exact ⟨rfl, rfl⟩
  · rw [show Fx.hold 0 = 0 from rfl] at hr
    go_enter Try.func66, Try.ntmps66
    go_wp2_with (go_at_call 57; refine by_same hr ?_)
    go_ret
    exact ⟨ret_int (show (1 : Int) = Sx.part 0 from rfl), rfl⟩
  · rw [Fx.hold_big h] at hr
    rw [Sx.part_big h]
    go_enter Try.func66, Try.ntmps66
    go_wp2_with (go_at_call 57; refine by_same hr ?_)
    go_ret
    exact ⟨rfl, rfl⟩
  · rw [Fx.hold_id (by omega) (by omega)] at hr
    rw [Sx.part_mid (by omega) g]
    go_enter Try.func66, Try.ntmps66
    go_wp2_with (go_at_call 57; refine by_same hr ?_)
    go_ret
    exact ⟨rfl, rfl⟩

set_option maxRecDepth 100000 in
theorem shares (a b : Int) (w : World) : Calls Try.prog 61 #[.int .i64 a, .int .i64 b] w fun e w' => e = .returned (.tuple #[.int .i64 (Sx.share a b), .int .i64 (65536 - Sx.share a b)]) ∧ w' = w := by
  have a1 := Sx.part_lo a; have a2 := Sx.part_hi a; have b1 := Sx.part_lo b; have b2 := Sx.part_hi b
  have s1 := Sx.share_lo a b; have s2 := Sx.share_hi a b
  have hne : ((Sx.part a + Sx.part b) == 0) = false := by simp; omega
  have e := Sx.share_tdiv a b
  rw [← e] at s1 s2
  have HE : Hid ((Sx.part a * 65536).tdiv (Sx.part a + Sx.part b) = Sx.share a b) := e
  clear e
  go_enter Try.func61, Try.ntmps61
  go_wp2_with (first
    | (go_at_call 66; refine by_same (weight _ _) ?_)
    | fail)
  rw [HE.out]
  go_ret2
  exact ⟨rfl, rfl⟩



end Go.Proofs.Ytokkhkhipgopbaa
