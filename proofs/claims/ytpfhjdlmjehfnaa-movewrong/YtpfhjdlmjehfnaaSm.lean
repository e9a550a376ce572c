/- What the document's Small of rows of rows does when called. -/
import Derived.Test.YtpfhjdlmjehfnaaBase
import Derived.Test.YtpfhjdlmjehfnaaMx
namespace Go.Proofs.Ytpfhjdlmjehfnaa
open Go.ChangeShapes Go.WideShapes Go.ChangeAt Go.RowKit

set_option maxRecDepth 100000 in
theorem small (a : Option Addr) (n c : Nat) (m : List (List Int)) (F : Nat → Prop) (w : World) (hm : matS.rep w F [.slice a n c] m) :
    Calls Try.prog 10 #[.slice a n c] w fun e w' => Says e (Mx.Small m) ∧ w' = w := by
  obtain ⟨hl, hc1, hc2⟩ := sliceS_len hm
  have HL : Hid (m.length = n) := hl
  clear hl
  go_enter Try.func10, Try.ntmps10
  go_wp2
  go_loopw [3] (fun i wr => ∃ k : Nat, k ≤ n ∧ k ≤ 30 ∧ i = .int .i64 k ∧ wr = w ∧ Hid (∀ l ∈ m.take k, l.length ≤ 30)) (fun i _ => 30 - (intOf i).toNat)
  case atStart => exact ⟨0, Nat.zero_le _, by omega, rfl, rfl, Mx.all_zero⟩
  case round =>
    obtain ⟨k, hk, hk30, rfl, rfl, HI⟩ := hrel
    by_cases hlt : k < n
    · by_cases h30 : k < 30
      · obtain ⟨b1, o1, A, C, rfl, hb1, hcell, hr⟩ := mat_at hm hlt
        have hli : (k : Int) < (n : Int) := by omega
        have hli2 : (k : Int) < 30 := by omega
        have HM : Hid (m.getD k [] ∈ m) := Mx.getD_mem m k (by have := HL.out; omega)
        have HS : Hid ((m.getD k []).length ≤ 30 → ∀ l ∈ m.take (k + 1), l.length ≤ 30) := fun h => Mx.all_succ (by have := HL.out; omega) HI.out h
        clear hr
        generalize m.getD k [] = r at *
        by_cases hr : 30 < r.length
        · have hri : (30 : Int) < (r.length : Int) := by omega
          go_wp2
          go_ret
          exact ⟨Says.no (fun h => by have := h.2 r HM.out; omega), rfl⟩
        · have hri : ¬ (30 : Int) < (r.length : Int) := by omega
          go_wp2
          go_roundw
          case rel => exact ⟨k + 1, by omega, by omega, by go_num, by trivial, HS.out (by omega)⟩
          case measure => simp [intOf]; omega
      · have hli : (k : Int) < (n : Int) := by omega
        have hli2 : ¬ (k : Int) < 30 := by omega
        have hn : ¬ (n : Int) ≤ 30 := by omega
        go_wp2
        go_ret
        exact ⟨Says.no (fun h => by have := h.1; have := HL.out; omega), rfl⟩
    · have hli : ¬ (k : Int) < (n : Int) := by omega
      have hn : (n : Int) ≤ 30 := by omega
      go_wp2
      go_ret
      exact ⟨Says.yes (⟨by have := HL.out; omega, Mx.all_full (by have := HL.out; omega) HI.out⟩), rfl⟩

end Go.Proofs.Ytpfhjdlmjehfnaa
