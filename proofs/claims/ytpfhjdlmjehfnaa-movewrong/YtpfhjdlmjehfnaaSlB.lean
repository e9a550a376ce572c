/- What slices.Contains and slices.Delete of numbers, and slices.Clone of rows do when called. -/
import Derived.Test.YtpfhjdlmjehfnaaSlicesA
import Derived.Test.YtpfhjdlmjehfnaaAk
import Derived.Shelf.Slices.Turned
import Derived.Shelf.Slices.Cells
namespace Go.Proofs.Ytpfhjdlmjehfnaa
open Go.ChangeShapes Go.WideShapes Go.ChangeAt Go.RowKit

def renContains : Go.Shelf.Ren := ⟨fun | 107 => 45 | 108 => 59 | n => n, fun | 28 => 67 | 3 => 3 | 4 => 4 | 0 => 0 | n => n, fun | n => n⟩
theorem laysContains : Go.Proofs.Lays.n107 Try.prog renContains :=
  { mixed := by kernel_rfl
    f107 := Try.func45.trans (congrArg some (by kernel_rfl))
    f108 := Try.func59.trans (congrArg some (by kernel_rfl))
    t0 := Try.underlying0
    a0 := Try.isAgg0
    z0 := Try.sizeOf0
    v0 := Try.zeroValue0
    t3 := Try.underlying3
    a3 := Try.isAgg3
    z3 := Try.sizeOf3
    v3 := Try.zeroValue3
    t4 := Try.underlying4
    a4 := Try.isAgg4
    z4 := Try.sizeOf4
    v4 := Try.zeroValue4
    t28 := Try.underlying67
    a28 := Try.isAgg67
    z28 := Try.sizeOf67
    v28 := Try.zeroValue67 }

theorem contains (a : Option Addr) (n c : Nat) (l : List Int) (x : Int) (w : World) (h : Row .i64 w a n l) (hn : n ≤ 100000) :
    Calls Try.prog 45 #[.slice a n c, .int .i64 x] w fun e w' => e = .returned (.bool (l.contains x)) ∧ w' = w := by
  have hl := h.len
  rcases h.2 with h0 | ⟨b, off, rfl, hc⟩
  · subst h0
    have hnil := List.eq_nil_of_length_eq_zero hl
    subst hnil
    exact Any.slices_Contains_int_empty laysContains a c x w
  · have ht : l.take n = l := List.take_of_length_le (by omega)
    have := Any.slices_Contains_int laysContains b off n c l x w (by omega) (by omega) (fun j hj => hc j (by omega))
    rw [ht] at this
    exact this

/-- All but the one at i. -/
def delAt (l : List Int) (i : Nat) : List Int := l.take i ++ l.drop (i + 1)
theorem delAt_len (l : List Int) (i : Nat) (h : i < l.length) : (delAt l i).length = l.length - 1 := by
  unfold delAt
  simp only [List.length_append, List.length_take, List.length_drop]
  omega
set_option maxRecDepth 100000 in
theorem cloneM {P : Nat → Prop} (a : Option Addr) (n c : Nat) (l : List (List Int)) (w : World) (h : matS.rep w P [.slice a n c] l) (hP : ∀ b, P b → b < w.heap.size) (hn : n ≤ 1000) :
    Calls Try.prog 53 #[.slice a n c] w fun e w' => Below w.heap.size w w' ∧ ∃ a' c', e = .returned (.slice a' n c') ∧ Own (inS rowS P) w' w.heap.size 67 (.slice a' n c') l := by
  obtain ⟨i0, hi0, hi1, hi2, hi3⟩ := info_parts Try.infoRow
  have q22 : ∀ (w : World) (a : Option Addr) (n c n' c' : Nat), (binOp .eql 22 (.slice a n c) (.slice none n' c')).run Try.prog w = .ok (.bool a.isNone) w := fun w a n c n' c' => Lib.run_eql_slice_nil w _ _ a n c n' c' Try.underlying22
  cases a with
  | none =>
    have hl := (sliceS_len h).1
    have h0 : n = 0 := by
      by_cases h0 : 0 < n
      · obtain ⟨b, off, A, C, hb, _⟩ := mat_at h h0
        cases hb
      · omega
    subst h0
    have hnil := List.eq_nil_of_length_eq_zero hl
    subst hnil
    clear h hl
    go_enter Try.func53, Try.ntmps53
    go_wp2
    go_ret
    exact ⟨Below.refl _ _, none, 0, rfl, Own.nil _ _ _ _⟩
  | some ad =>
    have hr0 : (sliceS (inS rowS P)).rep w P [.slice (some ad) n c] l := by
      obtain ⟨a1, c1, css, h1, h2, h3, h4, h5⟩ := h
      exact ⟨a1, c1, css, h1, h2, h3, ⟨h4.1, fun j cs x hc hx => rowS.mono (h4.2 j cs x hc hx) fun b hb _ => ⟨hb, hb⟩⟩, h5⟩
    have hr := Shape.below hr0 (new_bel w (.cells #[] 67))
    have HZ : Hid (([] : List (List Int)).length + n = n) := Nat.zero_add n
    have ho : Own (inS rowS P) (w.alloc (.cells #[] 67)) w.heap.size 67 (.slice (some ⟨w.heap.size, 0, none⟩) 0 0) [] := Own.empty _ w _
    have hap : ∀ b, P b → some b ≠ Value.ownBlock (.slice (some ⟨w.heap.size, 0, none⟩) 0 0) := fun b hb => Own.apart ho (Nat.le_refl _) b (hP b hb)
    have hsm : ([] : List (List Int)).length + n ≤ 100000 := by rw [HZ.out]; omega
    have hsz : w.heap.size ≤ (w.alloc (.cells #[] 67)).heap.size := by simp
    clear h hr0
    go_enter Try.func53, Try.ntmps53
    go_wp2_with (at_builtin; (refine wpList_app (inS rowS P) (by simp [Region.wanted]) (.tmp 5) (.tmp 6) 22 rfl w.heap.size 67 i0 (.slice none 0 0) 24 Try.underlying22 hi0 hi1 hi2 hi3 rfl Nat.one_pos (by omega) (by rfl) ho (by rfl) hr hap hsm hsz ?_; intro a4 c4 u4 ho4 hg4 hb4 hat4; rw [HZ.out] at ho4 ⊢))
    go_ret
    exact ⟨(new_bel w _).trans hb4, a4, c4, rfl, ho4⟩

end Go.Proofs.Ytpfhjdlmjehfnaa
