/- What the document's Told and Same of layer 10 do when called. -/
import Derived.Test.YtfdbnongpkiibaaLinkD
import Derived.Laws.StructEq
namespace Go.Proofs.Ytfdbnongpkiibaa
open Go.ChangeShapes Go.WideShapes Go.ChangeAt Go.RowKit

theorem Try.infoRframe : (Try.prog.info? 40).map (fun i => (i.zero, i.size, i.bytes)) = some (some (.agg #[.int .i64 0, .string ByteArray.empty]), 2, 24) := by kernel_rfl

/-- '==' of two frames. -/
theorem eqFrame (a b : Int) (s t : ByteArray) (w : World) : (Op.equalIn 10000 40 (.agg #[.int .i64 a, .string s]) (.agg #[.int .i64 b, .string t])).run Try.prog w = .ok (a == b && s.toList == t.toList) w := by
  have u3 := Try.underlying3
  have a3 := Try.isAgg3
  have z3 := Try.sizeOf3
  have u9 := Try.underlying9
  have a9 := Try.isAgg9
  have z9 := Try.sizeOf9
  have hS : Try.prog.underlying 40 = some (.struct (Try.prog.fieldsOf 40)) := by kernel_rfl
  have hp : Try.prog.stoodInHeld 40 = false := by kernel_rfl
  rw [show (10000 : Nat) = 9999 + 1 from rfl, run_equalIn_agg w 9999 40 _ _ hS hp]
  simp only [Program.fieldsOf, Try.underlying40]
  go_simp
  by_cases h1 : a = b <;> by_cases h2 : s.toList = t.toList <;> simp [h1, h2]
theorem neqFrame (a : Int) (s : ByteArray) (w : World) : (binOp .neq 40 (.agg #[.int .i64 a, .string s]) (.agg #[.int .i64 a, .string s])).run Try.prog w = .ok (.bool false) w := by
  rw [run_neq_struct, eqFrame]
  simp

set_option maxHeartbeats 2000000 in
theorem rlsame (x : Int) (a : Option Addr) (n c : Nat) (l : List Fr) (b : Option Addr) (d : Nat) (w : World) (h1 : frsS.rep w everywhere [.slice a n c] l) (h2 : frsS.rep w everywhere [.slice b n d] l) (hn : n ≤ 1000) :
    Calls Try.prog 12 #[.agg #[.int .i64 x, .slice a n c], .agg #[.int .i64 x, .slice b n d]] w fun e w' => e = .returned (.bool true) ∧ Below w.heap.size w w' := by
  have hA := Shape.low h1
  have hB := Shape.low h2
  have ex : (x != x) = false := by simp
  have en : ((n : Int) != (n : Int)) = false := by simp
  clear h1 h2
  go_enter Try.func12, Try.ntmps12
  go_wp2
  go_loopw [5] (fun i wr => ∃ k : Nat, k ≤ n ∧ i = .int .i64 k ∧ Box wr w.heap.size 27 #[.int .i64 x, .slice a n c] ∧ Box wr (w.heap.size + 1) 27 #[.int .i64 x, .slice b n d] ∧ Below w.heap.size w wr) (fun i _ => n - (intOf i).toNat)
  case atStart => exact ⟨0, Nat.zero_le _, rfl, (two_vars w _ _ _ _).1, (two_vars w _ _ _ _).2, bel_alloc (new_bel _ _) _⟩
  case round =>
    obtain ⟨k, hk, rfl, hb1, hb2, hbel⟩ := hrel
    have p1 := hb1.cell 1 rfl
    have p2 := hb2.cell 1 rfl
    by_cases hlt : k < n
    · obtain ⟨g1, o1, rfl, _, _, c1, c2⟩ := fr_at (Shape.now hA hbel) hlt
      obtain ⟨g2, o2, rfl, _, _, c3, c4⟩ := fr_at (Shape.now hB hbel) hlt
      have hli : (k : Int) < (n : Int) := by omega
      have hk0 : (0 : Int) ≤ (k : Int) := by omega
      generalize (l.getD k fr0).1 = X at *
      generalize (l.getD k fr0).2.1 = Y at *
      have hne := neqFrame X Y
      go_wp2
      go_quiet (fail)
      go_wp2
      go_roundw
      case rel => exact ⟨k + 1, by omega, by go_num, hb1, hb2, bel_drewN hbel _⟩
      case measure => simp [intOf]; omega
    · have hkn : k = n := by omega
      subst hkn
      have hli : ¬ (k : Int) < (k : Int) := by omega
      go_wp2
      go_ret
      exact ⟨rfl, hbel⟩

end Go.Proofs.Ytfdbnongpkiibaa
