/- What window.Right and window.settle, and the document's Right and Same of layer 9 do when called. -/
import Derived.Test.YtlfbponacoombaaSlicesA
import Derived.Test.YtlfbponacoombaaNy
namespace Go.Proofs.Ytlfbponacoombaa
open Go.ChangeShapes Go.WideShapes Go.ChangeAt Go.RowKit

theorem Try.infoWin : (Try.prog.info? 24).map (·.size) = some 2 := by kernel_rfl
theorem Try.infoRwin : (Try.prog.info? 26).map (·.size) = some 2 := by kernel_rfl

/-- 's[1:]' -/
theorem tail_cut {a : Option Addr} {n c : Nat} {l : List Int} {w : World} {F : Nat → Prop} (h : rowS.rep w F [.slice a n c] l) (h1 : 1 ≤ n) :
    ∃ D, (∀ u : World, (Instr.slice 22 (.slice a n c) (some (.int .i64 1)) none none).run Try.prog u = .ok (.slice D (n - 1) (c - 1)) u) ∧ rowS.rep w F [.slice D (n - 1) (c - 1)] l.tail := by
  obtain ⟨hl, hc1, hc2⟩ := sliceS_len h
  obtain ⟨i0, hi, hz0, hz1, hz2⟩ := info_parts Try.infoInt
  have hr := rep_drop h (k := 1) h1
  rw [List.drop_one] at hr
  refine ⟨_, fun u => ?_, hr⟩
  rw [run_slice_l u 22 a n c Try.underlying22 .i64 1 (by omega) (by omega)]
  simp [sizeOf, typeInfo, go_sem, hi, hz1, intS]

set_option maxHeartbeats 1000000 in
theorem right (low : Int) (a : Option Addr) (n c : Nat) (l : List Int) (w : World) (h : rowS.rep w everywhere [.slice a n c] l) :
    Calls Try.prog 12 #[.agg #[.int .i64 low, .slice a n c]] w fun e w' => Says e (Nx.Right ⟨low, l⟩) ∧ Below w.heap.size w w' := by
  have hl := (sliceS_len h).1
  have hA := Shape.low h
  by_cases h0 : low < 0
  · clear h hA
    go_enter Try.func12, Try.ntmps12
    go_wp2
    go_ret
    exact ⟨Says.no fun h => by have := h.1; simp only at this; omega, new_bel _ _⟩
  by_cases h1 : 2147483647 < low
  · clear h hA
    go_enter Try.func12, Try.ntmps12
    go_wp2
    go_ret
    exact ⟨Says.no fun h => by have := h.2.1; simp only at this; omega, new_bel _ _⟩
  by_cases h2 : 32 < n
  · have h2i : (32 : Int) < (n : Int) := by omega
    clear h hA
    go_enter Try.func12, Try.ntmps12
    go_wp2
    go_ret
    exact ⟨Says.no fun h => by have := h.2.2.1; simp only at this; omega, new_bel _ _⟩
  have h2i : ¬ (32 : Int) < (n : Int) := by omega
  have HR : Hid (Nx.Right ⟨low, l⟩ ↔ ∀ j, j < n → Nx.Good low l j) := by
    have := Nx.right_good (low := low) (l := l) (by omega) (by omega) (by omega)
    rw [hl] at this
    exact this
  have HL : Hid (Nx.least low l 0 = low) := Nx.least_zero low l
  have HS : Hid (∀ k, Nx.least low l (k + 1) = l.getD k 0 + 1) := Nx.least_succ low l
  clear h
  generalize Nx.Right ⟨low, l⟩ = R at *
  go_enter Try.func12, Try.ntmps12
  go_wp2
  go_loopw [3, 25] (fun v i wr => ∃ k : Nat, k ≤ n ∧ i = .int .i64 k ∧ v = .int .i64 (Nx.least low l k) ∧ 0 ≤ Nx.least low l k ∧ (∀ j, j < k → Nx.Good low l j) ∧ Below w.heap.size w wr) (fun _ i _ => n - (intOf i).toNat)
  case atStart => exact ⟨0, Nat.zero_le _, rfl, by rw [HL.out], by rw [HL.out]; omega, fun j hj => by omega, new_bel _ _⟩
  case round =>
    obtain ⟨k, hk, rfl, rfl, hz0, hgood, hbel⟩ := hrel
    by_cases hlt : k < n
    · obtain ⟨b1, o1, rfl, hb1, hcell⟩ := (Row.of_rep (Shape.now hA hbel)).at hlt
      have hli : (k : Int) < (n : Int) := by omega
      have HG : Hid (Nx.Good low l k ↔ Nx.least low l k ≤ l.getD k 0 ∧ l.getD k 0 ≤ 2147483647) := Iff.rfl
      have HN : Hid (Nx.least low l (k + 1) = l.getD k 0 + 1) := HS.out k
      have HD : Hid (∀ j, j < k → Nx.Good low l j) := hgood
      clear hgood
      generalize Nx.least low l k = z at *
      generalize l.getD k 0 = x at *
      by_cases hx1 : x < z
      · go_wp2
        go_ret
        exact ⟨Says.no fun h => by have := HG.out.1 (HR.out.1 h k hlt); omega, hbel⟩
      by_cases hx2 : 2147483647 < x
      · go_wp2
        go_ret
        exact ⟨Says.no fun h => by have := HG.out.1 (HR.out.1 h k hlt); omega, hbel⟩
      have hlow : 0 ≤ x := by omega
      go_wp2
      go_roundw
      case rel =>
        refine ⟨k + 1, by omega, by go_num, by rw [HN.out], by rw [HN.out]; omega, fun j hj => ?_, hbel⟩
        by_cases e : j = k
        · subst e; exact HG.out.2 ⟨by omega, by omega⟩
        · exact HD.out j (by omega)
      case measure => simp [intOf]; omega
    · have hkn : k = n := by omega
      subst hkn
      have hli : ¬ (k : Int) < (k : Int) := by omega
      go_wp2
      go_ret
      exact ⟨Says.yes (HR.out.2 hgood), hbel⟩

set_option maxHeartbeats 1000000 in
theorem rright (low : Int) (a : Option Addr) (n c : Nat) (l : List Int) (w : World) (h : rowS.rep w everywhere [.slice a n c] l) :
    Calls Try.prog 13 #[.agg #[.int .i64 low, .slice a n c]] w fun e w' => Says e (Nx.Right ⟨low, l⟩) ∧ Below w.heap.size w w' := by
  have hl := (sliceS_len h).1
  have hA := Shape.low h
  by_cases h0 : low < 0
  · clear h hA
    go_enter Try.func13, Try.ntmps13
    go_wp2
    go_ret
    exact ⟨Says.no fun h => by have := h.1; simp only at this; omega, new_bel _ _⟩
  by_cases h1 : 2147483647 < low
  · clear h hA
    go_enter Try.func13, Try.ntmps13
    go_wp2
    go_ret
    exact ⟨Says.no fun h => by have := h.2.1; simp only at this; omega, new_bel _ _⟩
  by_cases h2 : 32 < n
  · have h2i : (32 : Int) < (n : Int) := by omega
    clear h hA
    go_enter Try.func13, Try.ntmps13
    go_wp2
    go_ret
    exact ⟨Says.no fun h => by have := h.2.2.1; simp only at this; omega, new_bel _ _⟩
  have h2i : ¬ (32 : Int) < (n : Int) := by omega
  have HR : Hid (Nx.Right ⟨low, l⟩ ↔ ∀ j, j < n → Nx.Fine low l j) := by
    have := Nx.right_fine (low := low) (l := l) (by omega) (by omega) (by omega)
    rw [hl] at this
    exact this
  clear h
  generalize Nx.Right ⟨low, l⟩ = R at *
  go_enter Try.func13, Try.ntmps13
  go_wp2
  go_loopw [3] (fun i wr => ∃ k : Nat, k ≤ n ∧ i = .int .i64 k ∧ (∀ j, j < k → Nx.Fine low l j) ∧ Box wr w.heap.size 26 #[.int .i64 low, .slice a n c] ∧ Below w.heap.size w wr) (fun i _ => n - (intOf i).toNat)
  case atStart => exact ⟨0, Nat.zero_le _, rfl, fun j hj => by omega, Box.new _ _ _, new_bel _ _⟩
  case round =>
    obtain ⟨k, hk, rfl, hgood, hbox, hbel⟩ := hrel
    have hc0 := hbox.cell 0 rfl
    have hc1 := hbox.cell 1 rfl
    by_cases hlt : k < n
    · obtain ⟨b1, o1, rfl, hb1, hcell⟩ := (Row.of_rep (Shape.now hA hbel)).at hlt
      have hli : (k : Int) < (n : Int) := by omega
      have hk0 : (0 : Int) ≤ (k : Int) := by omega
      have HG : Hid (Nx.Fine low l k ↔ low ≤ l.getD k 0 ∧ l.getD k 0 ≤ 2147483647 ∧ (0 < k → l.getD (k - 1) 0 < l.getD k 0)) := Iff.rfl
      have HD : Hid (∀ j, j < k → Nx.Fine low l j) := hgood
      have hnext : (∀ k' : Nat, k' = k + 1 → Nx.Fine low l k → ∀ j, j < k' → Nx.Fine low l j) := fun k' e hf j hj => by
        by_cases ej : j = k
        · subst ej; exact hf
        · exact hgood j (by omega)
      have HX : Hid (∀ k' : Nat, k' = k + 1 → Nx.Fine low l k → ∀ j, j < k' → Nx.Fine low l j) := hnext
      clear hgood hnext
      by_cases hp : 0 < k
      · obtain ⟨b2, o2, he, hb2, hcell2⟩ := (Row.of_rep (Shape.now hA hbel)).at (show k - 1 < n by omega)
        have e := Option.some.inj he
        injection e with e1 e2 e3
        subst e1; subst e2
        clear he hb2
        have hpi : (0 : Int) < (k : Int) := by omega
        have hw1 : IntKind.i64.wrap ((k : Int) - 1) = ((k - 1 : Nat) : Int) := by rw [IntKind.wrap_i64]; omega
        have hk1 : (0 : Int) ≤ ((k - 1 : Nat) : Int) := by omega
        have hk2 : ((k - 1 : Nat) : Int) < (n : Int) := by omega
        generalize l.getD (k - 1) 0 = y at *
        generalize l.getD k 0 = x at *
        generalize hq : k - 1 = q at *
        by_cases hx1 : x < low
        · have d1 : decide (x < low) = true := decide_eq_true hx1
          go_wp2
          go_quiet (fail)
          go_wp2
          go_ret
          exact ⟨Says.no fun h => by have := HG.out.1 (HR.out.1 h k hlt); omega, bel_drewN hbel _⟩
        have d1 : decide (x < low) = false := decide_eq_false hx1
        by_cases hx2 : 2147483647 < x
        · have d2 : decide (2147483647 < x) = true := decide_eq_true hx2
          go_wp2
          go_quiet (fail)
          go_wp2
          go_ret
          exact ⟨Says.no fun h => by have := HG.out.1 (HR.out.1 h k hlt); omega, bel_drewN hbel _⟩
        have d2 : decide (2147483647 < x) = false := decide_eq_false hx2
        have d3 : decide ((0 : Int) < (k : Int)) = true := decide_eq_true hpi
        by_cases hx3 : x ≤ y
        · have d4 : decide (x ≤ y) = true := decide_eq_true hx3
          go_wp2
          go_quiet (fail)
          go_wp2
          go_ret
          exact ⟨Says.no fun h => by have := (HG.out.1 (HR.out.1 h k hlt)).2.2 hp; omega, bel_drewN hbel _⟩
        have d4 : decide (x ≤ y) = false := decide_eq_false hx3
        go_wp2
        go_quiet (fail)
        go_wp2
        go_roundw
        case rel => exact ⟨k + 1, by omega, by go_num, HX.out _ rfl (HG.out.2 ⟨by omega, by omega, fun _ => by omega⟩), hbox, bel_drewN hbel _⟩
        case measure => simp [intOf]; omega
      · generalize l.getD (k - 1) 0 = y at *
        generalize l.getD k 0 = x at *
        by_cases hx1 : x < low
        · have d1 : decide (x < low) = true := decide_eq_true hx1
          go_wp2
          go_quiet (fail)
          go_wp2
          go_ret
          exact ⟨Says.no fun h => by have := HG.out.1 (HR.out.1 h k hlt); omega, bel_drewN hbel _⟩
        have d1 : decide (x < low) = false := decide_eq_false hx1
        by_cases hx2 : 2147483647 < x
        · have d2 : decide (2147483647 < x) = true := decide_eq_true hx2
          go_wp2
          go_quiet (fail)
          go_wp2
          go_ret
          exact ⟨Says.no fun h => by have := HG.out.1 (HR.out.1 h k hlt); omega, bel_drewN hbel _⟩
        have d2 : decide (2147483647 < x) = false := decide_eq_false hx2
        have d3 : decide ((0 : Int) < (k : Int)) = false := decide_eq_false (by omega)
        go_wp2
        go_quiet (fail)
        go_wp2
        go_roundw
        case rel => exact ⟨k + 1, by omega, by go_num, HX.out _ rfl (HG.out.2 ⟨by omega, by omega, fun h => absurd h hp⟩), hbox, bel_drewN hbel _⟩
        case measure => simp [intOf]; omega
    · have hkn : k = n := by omega
      subst hkn
      have hli : ¬ (k : Int) < (k : Int) := by omega
      go_wp2
      go_ret
      exact ⟨Says.yes (HR.out.2 hgood), hbel⟩

end Go.Proofs.Ytlfbponacoombaa
