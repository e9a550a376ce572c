/- What slices.Clone, slices.IndexFunc and slices.DeleteFunc of frames, and link.Told do when called. -/
import Derived.Test.YtfdbnongpkiibaaLinkA
import Derived.Lib.SliceRun
import Derived.Lib.EndianMore
namespace Go.Proofs.Ytfdbnongpkiibaa
open Go.ChangeShapes Go.WideShapes Go.ChangeAt Go.RowKit

theorem Try.infoFrame : (Try.prog.info? 45).map (fun i => (i.zero, i.size, i.bytes)) = some (some (.agg #[.int .i64 0, .string ByteArray.empty]), 2, 24) := by kernel_rfl

/-! ### Clone -/
set_option maxHeartbeats 1000000 in
theorem fclone (a : Option Addr) (n c : Nat) (l : List Fr) (w : World) (h : frsS.rep w everywhere [.slice a n c] l) (hn : n ≤ 1000) :
    Calls Try.prog 16 #[.slice a n c] w fun e w' => Below w.heap.size w w' ∧ ∃ a' c', e = .returned (.slice a' n c') ∧ Own frS w' w.heap.size 45 (.slice a' n c') l := by
  obtain ⟨i0, hi0, hi1, hi2, hi3⟩ := info_parts Try.infoFrame
  have q22 : ∀ (w : World) (a : Option Addr) (n c n' c' : Nat), (binOp .eql 22 (.slice a n c) (.slice none n' c')).run Try.prog w = .ok (.bool a.isNone) w := fun w a n c n' c' => Lib.run_eql_slice_nil w _ _ a n c n' c' Try.underlying22
  cases a with
  | none =>
    obtain ⟨rfl, rfl⟩ := frs_nil h
    clear h
    go_enter Try.func16, Try.ntmps16
    go_wp2
    go_ret
    exact ⟨Below.refl _ _, none, 0, rfl, Own.nil _ _ _ _⟩
  | some ad =>
    have hr := Shape.now (Shape.low h) (new_bel w (.cells #[] 45))
    have HZ : Hid (([] : List Fr).length + n = n) := Nat.zero_add n
    have ho : Own frS (w.alloc (.cells #[] 45)) w.heap.size 45 (.slice (some ⟨w.heap.size, 0, none⟩) 0 0) [] := Own.empty _ w _
    have hap := Own.apart ho (Nat.le_refl _)
    have hsm : ([] : List Fr).length + n ≤ 100000 := by rw [HZ.out]; omega
    have hsz : w.heap.size ≤ (w.alloc (.cells #[] 45)).heap.size := by simp
    clear h
    go_enter Try.func16, Try.ntmps16
    go_wp2_with (at_builtin; (refine wpList_app frS (by simp [Region.wanted]) (.tmp 5) (.tmp 6) 22 rfl w.heap.size 45 i0 (.agg #[.int .i64 0, .string ByteArray.empty]) 24 Try.underlying22 hi0 hi1 hi2 hi3 rfl (Nat.succ_pos 1) (by omega) (by rfl) ho (by rfl) hr hap hsm hsz ?_; intro a4 c4 u4 ho4 hg4 hb4 hat4; rw [HZ.out] at ho4 ⊢))
    go_ret
    exact ⟨(new_bel w _).trans hb4, a4, c4, rfl, ho4⟩

/-! ### IndexFunc -/
theorem istold (x q : Int) (t : ByteArray) (B : Nat) (w : World) (hc : w.cell? ⟨B, 0, none⟩ = some (.int .i64 q)) :
    Calls Try.prog 17 #[.agg #[.int .i64 x, .string t], .pointer (some ⟨B, 0, none⟩)] w fun e w' => e = .returned (.bool (x == q)) ∧ Below w.heap.size w w' := by
  have hc2 : ∀ o, (w.alloc o).cell? ⟨B, 0, none⟩ = some (.int .i64 q) := fun o => Lib.cell?_alloc_some o hc
  clear hc
  by_cases h : x = q
  · have e : (x == q) = true := by simpa using h
    rw [e]
    clear h
    go_enter Try.func17, Try.ntmps17
    go_wp2
    go_ret
    exact ⟨rfl, new_bel _ _⟩
  · have e : (x == q) = false := by simpa using h
    rw [e]
    clear h
    go_enter Try.func17, Try.ntmps17
    go_wp2
    go_ret
    exact ⟨rfl, new_bel _ _⟩

set_option maxHeartbeats 1000000 in
theorem findex (a : Option Addr) (n c : Nat) (l : List Fr) (q : Int) (B : Nat) (w : World) (h : frsS.rep w everywhere [.slice a n c] l) (hn : n ≤ 1000) (hc : w.cell? ⟨B, 0, none⟩ = some (.int .i64 q)) :
    Calls Try.prog 19 #[.slice a n c, .func (.func 17) #[] #[.pointer (some ⟨B, 0, none⟩)]] w fun e w' =>
      (((∀ j, j < n → (l.getD j fr0).1 ≠ q) ∧ e = .returned (.int .i64 (-1))) ∨ ∃ k, k < n ∧ (l.getD k fr0).1 = q ∧ (∀ j, j < k → (l.getD j fr0).1 ≠ q) ∧ e = .returned (.int .i64 (k : Nat))) ∧ Below w.heap.size w w' := by
  have hA := Shape.low h
  have hB : B < w.heap.size := World.block_lt_of_cell? w _ hc
  clear h
  go_enter Try.func19, Try.ntmps19
  go_wp2
  go_loopw [8] (fun i wr => ∃ k : Nat, k ≤ n ∧ i = .int .i64 k ∧ (∀ j, j < k → (l.getD j fr0).1 ≠ q) ∧ Below w.heap.size w wr) (fun i _ => n - (intOf i).toNat)
  case atStart => exact ⟨0, Nat.zero_le _, rfl, fun j hj => by omega, Below.refl _ _⟩
  case round =>
    obtain ⟨k, hk, rfl, hno, hbel⟩ := hrel
    have HN : Hid (∀ j, j < k → (l.getD j fr0).1 ≠ q) := hno
    clear hno
    by_cases hlt : k < n
    · obtain ⟨b1, o1, rfl, hb1, hb2, hcell, hcell2⟩ := fr_at (Shape.now hA hbel) hlt
      have hli : (k : Int) < (n : Int) := by omega
      have hcq := (hbel.cell (p := ⟨B, 0, none⟩) hB).trans hc
      have HX : Hid (∀ x, (l.getD k fr0).1 = x → ∀ j, j < k + 1 → j ≠ k ∨ (l.getD j fr0).1 = x) := fun x hx j _ => by
        by_cases e : j = k
        · subst e; exact .inr hx
        · exact .inl e
      obtain ⟨x, hx⟩ : ∃ x, (l.getD k fr0).1 = x := ⟨_, rfl⟩
      rw [hx] at hcell
      have HE : Hid ((l.getD k fr0).1 = x) := hx
      clear hx
      generalize (l.getD k fr0).2.1 = y at *
      have hcall := istold x q y B wr hcq
      by_cases hq : x = q
      · have e : (x == q) = true := by simpa using hq
        rw [e] at hcall
        have HQ : Hid (x = q) := hq
        clear e hq
        go_wp2_with (go_at_call 17; refine hcall.mono ?_; rintro e u1 ⟨rfl, hb3⟩)
        go_ret
        exact ⟨.inr ⟨k, hlt, HE.out.trans HQ.out, HN.out, rfl⟩, bel_then hbel hb3⟩
      · have e : (x == q) = false := by simpa using hq
        rw [e] at hcall
        have HQ : Hid (x ≠ q) := hq
        clear e hq
        go_wp2_with (go_at_call 17; refine hcall.mono ?_; rintro e u1 ⟨rfl, hb3⟩)
        go_roundw
        case rel =>
          refine ⟨k + 1, by omega, by go_num, fun j hj => ?_, bel_then hbel hb3⟩
          by_cases e : j = k
          · subst e; rw [HE.out]; exact HQ.out
          · exact HN.out j (by omega)
        case measure => simp [intOf]; omega
    · have hkn : k = n := by omega
      subst hkn
      have hli : ¬ (k : Int) < (k : Int) := by omega
      go_wp2
      go_ret
      exact ⟨.inl ⟨HN.out, rfl⟩, hbel⟩

end Go.Proofs.Ytfdbnongpkiibaa
