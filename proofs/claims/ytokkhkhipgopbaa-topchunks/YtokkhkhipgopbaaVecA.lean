/- What the functions of package vec and the document's answers for layer 2 do when called (first part: those that only read, and the closures). -/
import Derived.Test.YtokkhkhipgopbaaHold
import Derived.Test.YtokkhkhipgopbaaJb
namespace Go.Proofs.Ytokkhkhipgopbaa
open Go.ChangeShapes Go.WideShapes Go.ChangeAt Go.RowKit

set_option maxRecDepth 100000 in
theorem scale1 (n k : Int) (P : Nat) (w : World) (hc : w.cell? ⟨P, 0, none⟩ = some (.int .i64 k)) :
    Calls Try.prog 53 #[.int .i64 n, .pointer (some ⟨P, 0, none⟩)] w fun e w' => e = .returned (.int .i64 (Fx.mul n k)) ∧ w' = w := by
  go_enter Try.func53, Try.ntmps53
  go_wp2_with (go_at_call 54; refine (fmul _ _ _).mono ?_; rintro e w' ⟨rfl, rfl⟩)
  go_ret
  exact ⟨rfl, rfl⟩

set_option maxRecDepth 100000 in
theorem relu1 (n : Int) (w : World) :
    Calls Try.prog 63 #[.int .i64 n] w fun e w' => e = .returned (.int .i64 (Vx.rel n)) ∧ w' = w := by
  have e : Vx.rel n = if Fx.hold n < 0 then 0 else Fx.hold n := rfl
  by_cases h : Fx.hold n < 0
  · rw [if_pos h] at e
    have HE : Hid (Vx.rel n = 0) := e
    clear e
    go_enter Try.func63, Try.ntmps63
    go_wp2_with (go_at_call 57; refine (hold _ _).mono ?_; rintro e w' ⟨rfl, rfl⟩)
    all_goals go_ret
    all_goals exact ⟨ret_int HE.out.symm, rfl⟩
  · rw [if_neg h] at e
    have HE : Hid (Vx.rel n = Fx.hold n) := e
    clear e
    go_enter Try.func63, Try.ntmps63
    go_wp2_with (go_at_call 57; refine (hold _ _).mono ?_; rintro e w' ⟨rfl, rfl⟩)
    all_goals go_ret
    all_goals exact ⟨ret_int (by have := HE.out; omega), rfl⟩

set_option maxRecDepth 100000 in
theorem dot1 (x y s : Int) (P : Nat) (w : World) (hc : w.cell? ⟨P, 0, none⟩ = some (.int .i64 s)) (hf : w.frozen? ⟨P, 0, none⟩ = false) :
    Calls Try.prog 67 #[.int .i64 x, .int .i64 y, .pointer (some ⟨P, 0, none⟩)] w fun e w' =>
      e = .returned (.tuple #[]) ∧ w' = (w.setCell ⟨P, 0, none⟩ (.int .i64 (Fx.add s (Fx.mul x y)))).drew := by
  go_enter Try.func67, Try.ntmps67
  go_wp2
  go_region_with (first | (go_at_call 54; refine (fmul _ _ _).mono ?_; rintro e w' ⟨rfl, rfl⟩) | (go_at_call 51; refine (fadd _ _ _).mono ?_; rintro e w' ⟨rfl, rfl⟩))
  all_goals go_end0
  all_goals exact ⟨rfl, rfl⟩

set_option maxRecDepth 100000 in
theorem same_true (a b : Option Addr) (n ca cb : Nat) (l : List Int) (w : World) (ha : Row .i64 w a n l) (hb : Row .i64 w b n l) (hn : n ≤ 100000) :
    Calls Try.prog 28 #[.slice a n ca, .slice b n cb] w fun e w' => e = .returned (.bool true) ∧ Below w.heap.size w w' := by
  have e0 : ((n : Int) != (n : Int)) = false := by simp
  go_enter Try.func28, Try.ntmps28
  go_wp2
  go_loopw [5] (fun i wr => ∃ k : Nat, k ≤ n ∧ i = .int .i64 k ∧ Below w.heap.size w wr) (fun i _ => n - (intOf i).toNat)
  case atStart => exact ⟨0, Nat.zero_le _, rfl, Below.refl _ _⟩
  case round =>
    obtain ⟨k, hk, rfl, hbel⟩ := hrel
    by_cases hlt : k < n
    · obtain ⟨b1, o1, rfl, hb1, hc1⟩ := ha.at hlt
      obtain ⟨b2, o2, rfl, hb2, hc2⟩ := hb.at hlt
      have hd1 : wr.cell? ⟨b1, o1 + k, none⟩ = some (.int .i64 (l.getD k 0)) := (hbel.cell (by exact hb1)).trans hc1
      have hd2 : wr.cell? ⟨b2, o2 + k, none⟩ = some (.int .i64 (l.getD k 0)) := (hbel.cell (by exact hb2)).trans hc2
      have hli : (k : Int) < (n : Int) := by omega
      have hne : (l.getD k 0 != l.getD k 0) = false := by simp
      clear hc1 hc2
      go_wp2
      go_quiet (fail)
      go_wp2
      go_roundw
      case rel => exact ⟨k + 1, by omega, by go_num, bel_drewN hbel _⟩
      case measure => simp [intOf]; omega
    · go_wp2
      go_ret
      exact ⟨rfl, hbel⟩

end Go.Proofs.Ytokkhkhipgopbaa
