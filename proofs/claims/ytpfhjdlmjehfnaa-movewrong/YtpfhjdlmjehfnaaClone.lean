/- What slices.Clone of numbers does when called. -/
import Derived.Test.YtpfhjdlmjehfnaaBase
import Derived.Test.YtpfhjdlmjehfnaaSlot
import Derived.Lib.SliceRun
import Derived.Lib.EndianMore
namespace Go.Proofs.Ytpfhjdlmjehfnaa
open Go.ChangeShapes Go.WideShapes Go.ChangeAt Go.RowKit

theorem row_nil {k : IntKind} {w : World} {F : Nat → Prop} {n c : Nat} {l : List Int} (h : (sliceS (intS k)).rep w F [.slice none n c] l) : n = 0 ∧ l = [] := by
  have hl := (sliceS_len h).1
  have h0 : n = 0 := by
    rcases (Row.of_rep h).2 with h0 | ⟨b, off, h, _⟩
    · exact h0
    · cases h
  exact ⟨h0, List.eq_nil_of_length_eq_zero (by omega)⟩

set_option maxRecDepth 100000 in
theorem clone (a : Option Addr) (n c : Nat) (l : List Int) (w : World) (h : rowS.rep w everywhere [.slice a n c] l) (hn : n ≤ 1000) :
    Calls Try.prog 54 #[.slice a n c] w fun e w' => Below w.heap.size w w' ∧ ∃ a' c', e = .returned (.slice a' n c') ∧ Own (intS .i64) w' w.heap.size 3 (.slice a' n c') l := by
  obtain ⟨i0, hi0, hi1, hi2, hi3⟩ := info_parts Try.infoInt
  have q22 : ∀ (w : World) (a : Option Addr) (n c n' c' : Nat), (binOp .eql 67 (.slice a n c) (.slice none n' c')).run Try.prog w = .ok (.bool a.isNone) w := fun w a n c n' c' => Lib.run_eql_slice_nil w _ _ a n c n' c' Try.underlying67
  cases a with
  | none =>
    obtain ⟨rfl, rfl⟩ := row_nil h
    clear h
    go_enter Try.func54, Try.ntmps54
    go_wp2
    go_ret
    exact ⟨Below.refl _ _, none, 0, rfl, Own.nil _ _ _ _⟩
  | some ad =>
    have hr := Shape.now (Shape.low h) (new_bel w (.cells #[] 3))
    have HZ : Hid (([] : List Int).length + n = n) := Nat.zero_add n
    have ho : Own (intS .i64) (w.alloc (.cells #[] 3)) w.heap.size 3 (.slice (some ⟨w.heap.size, 0, none⟩) 0 0) [] := Own.empty _ w _
    have hap := Own.apart ho (Nat.le_refl _)
    have hsm : ([] : List Int).length + n ≤ 100000 := by rw [HZ.out]; omega
    have hsz : w.heap.size ≤ (w.alloc (.cells #[] 3)).heap.size := by simp
    clear h
    go_enter Try.func54, Try.ntmps54
    go_wp2_with (at_builtin; (refine wpList_app (intS .i64) (by simp [Region.wanted]) (.tmp 5) (.tmp 6) 67 rfl w.heap.size 3 i0 (.int .i64 0) 8 Try.underlying67 hi0 hi1 hi2 hi3 rfl Nat.one_pos (by omega) (by rfl) ho (by rfl) hr hap hsm hsz ?_; intro a4 c4 u4 ho4 hg4 hb4 hat4; rw [HZ.out] at ho4 ⊢))
    go_ret
    exact ⟨(new_bel w _).trans hb4, a4, c4, rfl, ho4⟩

end Go.Proofs.Ytpfhjdlmjehfnaa
