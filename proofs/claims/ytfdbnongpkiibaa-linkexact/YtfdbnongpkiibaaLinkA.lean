/- What link.Right and the document's Right of layer 10 do when called. -/
import Derived.Test.YtfdbnongpkiibaaBase
import Derived.Test.YtfdbnongpkiibaaLx
namespace Go.Proofs.Ytfdbnongpkiibaa
open Go.ChangeShapes Go.WideShapes Go.ChangeAt Go.RowKit

theorem Try.infoLink : (Try.prog.info? 24).map (·.size) = some 2 := by kernel_rfl
theorem Try.infoRlink : (Try.prog.info? 27).map (·.size) = some 2 := by kernel_rfl

set_option maxHeartbeats 1000000 in
theorem lright (next : Int) (a : Option Addr) (n c : Nat) (l : List Fr) (w : World) (h : frsS.rep w everywhere [.slice a n c] l) :
    Calls Try.prog 14 #[.agg #[.int .i64 next, .slice a n c]] w fun e w' => Says e (Lx.Right next l) ∧ Below w.heap.size w w' := by
  have hl := (sliceS_len h).1
  have hA := Shape.low h
  by_cases h0 : next < 0
  · clear h hA
    go_enter Try.func14, Try.ntmps14
    go_wp2
    go_ret
    exact ⟨Says.no fun h => by have := h.1; omega, new_bel _ _⟩
  by_cases h1 : 2147483647 < next
  · clear h hA
    go_enter Try.func14, Try.ntmps14
    go_wp2
    go_ret
    exact ⟨Says.no fun h => by have := h.2.1; omega, new_bel _ _⟩
  by_cases h2 : 64 < n
  · have h2i : (64 : Int) < (n : Int) := by omega
    clear h hA
    go_enter Try.func14, Try.ntmps14
    go_wp2
    go_ret
    exact ⟨Says.no fun h => by have := h.2.2.1; omega, new_bel _ _⟩
  have h2i : ¬ (64 : Int) < (n : Int) := by omega
  have HR : Hid (Lx.Right next l ↔ ∀ j, j < n → Lx.Fine next l j) := by
    show _ ↔ _
    constructor
    · intro h j hj; exact h.2.2.2 j (by omega)
    · intro h; exact ⟨by omega, by omega, by omega, fun j hj => h j (by omega)⟩
  have HL : Hid (Lx.least l 0 = 0) := Lx.least_zero l
  have HS : Hid (∀ k, Lx.least l (k + 1) = (l.getD k fr0).1 + 1) := Lx.least_succ l
  have HF : Hid (∀ k, (∀ j, j < k → Lx.Fine next l j) → (Lx.Fine next l k ↔ Lx.least l k ≤ (l.getD k fr0).1 ∧ (l.getD k fr0).1 < next)) := fun k h => Lx.fine_least h
  clear h
  generalize Lx.Right next l = R at *
  go_enter Try.func14, Try.ntmps14
  go_wp2
  go_loopw [3, 23] (fun v i wr => ∃ k : Nat, k ≤ n ∧ i = .int .i64 k ∧ v = .int .i64 (Lx.least l k) ∧ 0 ≤ Lx.least l k ∧ (∀ j, j < k → Lx.Fine next l j) ∧ Box wr w.heap.size 24 #[.int .i64 next, .slice a n c] ∧ Below w.heap.size w wr) (fun _ i _ => n - (intOf i).toNat)
  case atStart => exact ⟨0, Nat.zero_le _, rfl, by rw [HL.out], by rw [HL.out]; omega, fun j hj => by omega, Box.new _ _ _, new_bel _ _⟩
  case round =>
    obtain ⟨k, hk, rfl, rfl, hz0, hgood, hbox, hbel⟩ := hrel
    have c0 := hbox.cell 0 rfl
    have c1 := hbox.cell 1 rfl
    have c2 : ∀ o, (wr.alloc o).cell? ⟨w.heap.size, 0, none⟩ = some (.int .i64 next) := fun o => (hbox.keep (new_bel wr o)).cell 0 rfl
    by_cases hlt : k < n
    · obtain ⟨b1, o1, rfl, hb1, hb2, hcell, hcell2⟩ := fr_at (Shape.now hA hbel) hlt
      have hli : (k : Int) < (n : Int) := by omega
      have HG : Hid (Lx.Fine next l k ↔ Lx.least l k ≤ (l.getD k fr0).1 ∧ (l.getD k fr0).1 < next) := HF.out k hgood
      have HN : Hid (Lx.least l (k + 1) = (l.getD k fr0).1 + 1) := HS.out k
      have HD : Hid (∀ j, j < k → Lx.Fine next l j) := hgood
      clear hgood
      generalize Lx.least l k = z at *
      generalize (l.getD k fr0).1 = x at *
      generalize (l.getD k fr0).2.1 = y at *
      by_cases hx1 : x < z
      · go_wp2
        go_ret
        exact ⟨Says.no fun h => by have := HG.out.1 (HR.out.1 h k hlt); omega, bel_alloc hbel _⟩
      by_cases hx2 : next ≤ x
      · go_wp2
        go_ret
        exact ⟨Says.no fun h => by have := HG.out.1 (HR.out.1 h k hlt); omega, bel_alloc hbel _⟩
      have hlow : 0 ≤ x := by omega
      go_wp2
      go_roundw
      case rel =>
        refine ⟨k + 1, by omega, by go_num, by rw [HN.out], by rw [HN.out]; omega, fun j hj => ?_, hbox.keep (new_bel _ _), bel_alloc hbel _⟩
        by_cases e : j = k
        · subst e; exact HG.out.2 ⟨by omega, by omega⟩
        · exact HD.out j (by omega)
      case measure => simp [intOf]; omega
    · have hkn : k = n := by omega
      subst hkn
      have hli : ¬ (k : Int) < (k : Int) := by omega
      go_wp2
      go_ret
      exact ⟨Says.yes (HR.out.2 hgood), hbel⟩

set_option maxHeartbeats 2000000 in
theorem rlright (next : Int) (a : Option Addr) (n c : Nat) (l : List Fr) (w : World) (h : frsS.rep w everywhere [.slice a n c] l) (hn : n ≤ 1000) :
    Calls Try.prog 15 #[.agg #[.int .i64 next, .slice a n c]] w fun e w' => Says e (Lx.Right next l) ∧ Below w.heap.size w w' := by
  have hl := (sliceS_len h).1
  have hA := Shape.low h
  have HR : Hid (Lx.Right next l ↔ 0 ≤ next ∧ next < 2147483648 ∧ n < 65 ∧ ∀ j, j < n → Lx.Fine next l j) := by
    show _ ↔ _
    constructor
    · intro h; exact ⟨h.1, by have := h.2.1; omega, by have := h.2.2.1; omega, fun j hj => h.2.2.2 j (by omega)⟩
    · intro h; exact ⟨h.1, by omega, by omega, fun j hj => h.2.2.2 j (by omega)⟩
  clear h
  generalize Lx.Right next l = R at *
  go_enter Try.func15, Try.ntmps15
  go_wp2
  go_loopw [3] (fun i wr => ∃ k : Nat, k ≤ n ∧ i = .int .i64 k ∧ (∀ j, j < k → Lx.Fine next l j) ∧ Box wr w.heap.size 27 #[.int .i64 next, .slice a n c] ∧ Below w.heap.size w wr) (fun i _ => n - (intOf i).toNat)
  case atStart => exact ⟨0, Nat.zero_le _, rfl, fun j hj => by omega, Box.new _ _ _, new_bel _ _⟩
  case round =>
    obtain ⟨k, hk, rfl, hgood, hbox, hbel⟩ := hrel
    have hc0 := hbox.cell 0 rfl
    have hc1 := hbox.cell 1 rfl
    by_cases hlt : k < n
    · obtain ⟨b1, o1, rfl, hb1, hbw, hcell, _⟩ := fr_at (Shape.now hA hbel) hlt
      have hli : (k : Int) < (n : Int) := by omega
      have hk0 : (0 : Int) ≤ (k : Int) := by omega
      have HG : Hid (Lx.Fine next l k ↔ 0 ≤ (l.getD k fr0).1 ∧ (l.getD k fr0).1 < next ∧ (0 < k → (l.getD (k - 1) fr0).1 < (l.getD k fr0).1)) := Iff.rfl
      have HX : Hid (∀ k' : Nat, k' = k + 1 → Lx.Fine next l k → ∀ j, j < k' → Lx.Fine next l j) := fun k' e hf j hj => by
        by_cases ej : j = k
        · subst ej; exact hf
        · exact hgood j (by omega)
      clear hgood
      by_cases hp : 0 < k
      · obtain ⟨b2, o2, he, hb2, _, hcell2, _⟩ := fr_at (Shape.now hA hbel) (show k - 1 < n by omega)
        have e := Option.some.inj he
        injection e with e1 e2 e3
        subst e1; subst e2
        clear he hb2
        have hpi : (0 : Int) < (k : Int) := by omega
        have hw1 : IntKind.i64.wrap ((k : Int) - 1) = ((k - 1 : Nat) : Int) := by rw [IntKind.wrap_i64]; omega
        have hk1 : (0 : Int) ≤ ((k - 1 : Nat) : Int) := by omega
        have hk2 : ((k - 1 : Nat) : Int) < (n : Int) := by omega
        generalize (l.getD (k - 1) fr0).1 = y at *
        generalize (l.getD k fr0).1 = x at *
        generalize hq : k - 1 = q at *
        by_cases hx1 : x < 0
        · have d1 : decide (x < 0) = true := decide_eq_true hx1
          go_wp2
          go_quiet (fail)
          go_wp2
          go_ret
          exact ⟨Says.no fun h => by have := HG.out.1 ((HR.out.1 h).2.2.2 k hlt); omega, bel_drewN hbel _⟩
        have d1 : decide (x < 0) = false := decide_eq_false hx1
        by_cases hx2 : next ≤ x
        · have d2 : decide (next ≤ x) = true := decide_eq_true hx2
          go_wp2
          go_quiet (fail)
          go_wp2
          go_ret
          exact ⟨Says.no fun h => by have := HG.out.1 ((HR.out.1 h).2.2.2 k hlt); omega, bel_drewN hbel _⟩
        have d2 : decide (next ≤ x) = false := decide_eq_false hx2
        have d3 : decide ((0 : Int) < (k : Int)) = true := decide_eq_true hpi
        by_cases hx3 : x ≤ y
        · have d4 : decide (x ≤ y) = true := decide_eq_true hx3
          go_wp2
          go_quiet (fail)
          go_wp2
          go_ret
          exact ⟨Says.no fun h => by have := (HG.out.1 ((HR.out.1 h).2.2.2 k hlt)).2.2 hp; omega, bel_drewN hbel _⟩
        have d4 : decide (x ≤ y) = false := decide_eq_false hx3
        go_wp2
        go_quiet (fail)
        go_wp2
        go_roundw
        case rel => exact ⟨k + 1, by omega, by go_num, HX.out _ rfl (HG.out.2 ⟨by omega, by omega, fun _ => by omega⟩), hbox, bel_drewN hbel _⟩
        case measure => simp [intOf]; omega
      · generalize (l.getD (k - 1) fr0).1 = y at *
        generalize (l.getD k fr0).1 = x at *
        by_cases hx1 : x < 0
        · have d1 : decide (x < 0) = true := decide_eq_true hx1
          go_wp2
          go_quiet (fail)
          go_wp2
          go_ret
          exact ⟨Says.no fun h => by have := HG.out.1 ((HR.out.1 h).2.2.2 k hlt); omega, bel_drewN hbel _⟩
        have d1 : decide (x < 0) = false := decide_eq_false hx1
        by_cases hx2 : next ≤ x
        · have d2 : decide (next ≤ x) = true := decide_eq_true hx2
          go_wp2
          go_quiet (fail)
          go_wp2
          go_ret
          exact ⟨Says.no fun h => by have := HG.out.1 ((HR.out.1 h).2.2.2 k hlt); omega, bel_drewN hbel _⟩
        have d2 : decide (next ≤ x) = false := decide_eq_false hx2
        have d3 : decide ((0 : Int) < (k : Int)) = false := decide_eq_false (by omega)
        go_wp2
        go_quiet (fail)
        go_wp2
        go_roundw
        case rel => exact ⟨k + 1, by omega, by go_num, HX.out _ rfl (HG.out.2 ⟨by omega, by omega, fun h => absurd h hp⟩), hbox, bel_drewN hbel _⟩
        case measure => simp [intOf]; omega
    · have hkn : k = n := by omega
      subst hkn
      have hli : ¬ (k : Int) < (k : Int) := by omega
      have HD : Hid (∀ j, j < k → Lx.Fine next l j) := hgood
      clear hgood
      by_cases h0 : 0 ≤ next
      · by_cases h1 : next < 2147483648
        · by_cases h2 : k < 65
          · have h2i : (k : Int) < 65 := by omega
            go_wp2
            go_ret
            exact ⟨Says.yes (HR.out.2 ⟨h0, h1, h2, HD.out⟩), hbel⟩
          · have h2i : ¬ (k : Int) < 65 := by omega
            go_wp2
            go_ret
            exact ⟨Says.no fun h => h2 (HR.out.1 h).2.2.1, hbel⟩
        · go_wp2
          go_ret
          exact ⟨Says.no fun h => by have := (HR.out.1 h).2.1; omega, hbel⟩
      · go_wp2
        go_ret
        exact ⟨Says.no fun h => by have := (HR.out.1 h).1; omega, hbel⟩

end Go.Proofs.Ytfdbnongpkiibaa
