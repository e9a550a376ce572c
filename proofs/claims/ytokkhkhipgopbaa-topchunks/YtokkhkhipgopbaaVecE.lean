/- What the functions of package vec do when called (fifth part: Scale and Relu), and the laws' fixed answer. -/
import Derived.Test.YtokkhkhipgopbaaVecD
namespace Go.Proofs.Ytokkhkhipgopbaa
open Go.ChangeShapes Go.WideShapes Go.ChangeAt Go.RowKit

set_option maxRecDepth 100000 in
theorem each_scale (a : Option Addr) (n ca : Nat) (c : Int) (P : Nat) (la : List Int) (w : World) (ha : Row .i64 w a n la) (hn : n ≤ 100000) (hc : w.cell? ⟨P, 0, none⟩ = some (.int .i64 c)) :
    Calls Try.prog 52 #[.slice a n ca, .func (.func 53) #[] #[.pointer (some ⟨P, 0, none⟩)]] w fun e w' => ∃ a' c', e = .returned (.slice a' n c') ∧ Row .i64 w' a' n (Vx.scale la c) ∧ Below w.heap.size w w' := by
  obtain ⟨i0, hi, hz0, hz1, hz2⟩ := info_parts Try.infoInt
  have HA : Hid (la.length = n) := ha.len
  go_enter Try.func52, Try.ntmps52
  go_wp2_with (at_make; refine wpList_make_full _ rfl _ _ 47 rfl w.heap.size 3 i0 (.int .i64 0) 1 Try.underlying47 hi hz0 hz1 _ _ _ _ n rfl rfl (by rfl) (by rfl) ?b2 ?b3 (Nat.le_refl _) ?_)
  case b2 => rw [hz2]; omega
  case b3 => unfold maxLen; omega
  intro w1 hown hgrow
  have hb1 : Below w.heap.size w w1 := (Below.refl _ _).grown hgrow (Nat.le_refl _) (fun _ h => by cases h)
  have hown1 : w1.ownsRow w.heap.size 3 1 (.slice (some ⟨w.heap.size, 0, none⟩) n n) n ((fill (Vx.scale (la.take 0) c) n).map (Value.int .i64)) := by
    have h := hown
    rw [fill_zero] at h
    exact h
  clear hown hgrow
  go_wp2
  go_loopw [13] (fun i wr => ∃ k : Nat, k ≤ n ∧ i = .int .i64 k ∧ wr.ownsRow w.heap.size 3 1 (.slice (some ⟨w.heap.size, 0, none⟩) n n) n ((fill (Vx.scale (la.take k) c) n).map (Value.int .i64)) ∧ Below w.heap.size w wr) (fun i _ => n - (intOf i).toNat)
  case atStart => exact ⟨0, Nat.zero_le _, rfl, hown1, hb1⟩
  case round =>
    clear hown1 hb1
    obtain ⟨k, hk, rfl, hown, hbel⟩ := hrel
    by_cases hlt : k < n
    · obtain ⟨b1, o1, rfl, hb1, hc1⟩ := ha.at hlt
      have hd1 : wr.cell? ⟨b1, o1 + k, none⟩ = some (.int .i64 (la.getD k 0)) := (hbel.cell (by exact hb1)).trans hc1
      have hli : (k : Int) < (n : Int) := by omega
      have hdl : (Vx.scale (la.take k) c).length = k := by rw [Vx.scale_length]; simp; have := HA.out; omega
      obtain ⟨z, hz⟩ := fill_get (Vx.scale (la.take k) c) n k hlt (by omega)
      have hce : wr.cell? ⟨w.heap.size, k, none⟩ = some (.int .i64 z) := (hown.cellAt k (by omega)).trans hz
      have hfe : wr.frozen? ⟨w.heap.size, k, none⟩ = false := hown.frozenAt k
      have HS : Hid ((((fill (Vx.scale (la.take k) c) n).map (Value.int .i64)).set k (.int .i64 (Fx.mul (la.getD k 0) c))) = (fill (Vx.scale (la.take (k + 1)) c) n).map (Value.int .i64)) := by
        show _ = _
        rw [Vx.scale_succ la c k (by have := HA.out; omega), ← fill_set _ _ _ (by omega), hdl, List.map_set]
      clear hc1 hz hdl
      generalize la.getD k 0 = x at *
      go_wp2_with (go_at_call 53; refine by_same (scale1 x c P _ ((hbel.cell (World.block_lt_of_cell? w _ hc)).trans hc)) ?_)
      have hst := hown.stored k (.int .i64 (Fx.mul x c))
      rw [HS.out] at hst
      clear hown hce hfe
      go_roundw
      case rel => exact ⟨k + 1, by omega, by go_num, hst.1, hbel.setCell (Nat.le_refl _) _⟩
      case measure => simp [intOf]; omega
    · have hkn : k = n := by omega
      subst hkn
      have e1 : la.take k = la := List.take_of_length_le (by have := HA.out; omega)
      rw [e1, fill_full _ _ (by rw [Vx.scale_length]; exact HA.out)] at hown
      clear e1
      obtain ⟨a', c', hv, hcm, hrow⟩ := Row.of_owns hown
      cases hv
      clear hown
      go_wp2
      go_ret
      exact ⟨_, _, rfl, hrow, hbel⟩

set_option maxRecDepth 100000 in
theorem each_relu (a : Option Addr) (n ca : Nat) (la : List Int) (w : World) (ha : Row .i64 w a n la) (hn : n ≤ 100000) :
    Calls Try.prog 52 #[.slice a n ca, .func (.func 63) #[] #[]] w fun e w' => ∃ a' c', e = .returned (.slice a' n c') ∧ Row .i64 w' a' n (Vx.relu la) ∧ Below w.heap.size w w' := by
  obtain ⟨i0, hi, hz0, hz1, hz2⟩ := info_parts Try.infoInt
  have HA : Hid (la.length = n) := ha.len
  go_enter Try.func52, Try.ntmps52
  go_wp2_with (at_make; refine wpList_make_full _ rfl _ _ 47 rfl w.heap.size 3 i0 (.int .i64 0) 1 Try.underlying47 hi hz0 hz1 _ _ _ _ n rfl rfl (by rfl) (by rfl) ?b2 ?b3 (Nat.le_refl _) ?_)
  case b2 => rw [hz2]; omega
  case b3 => unfold maxLen; omega
  intro w1 hown hgrow
  have hb1 : Below w.heap.size w w1 := (Below.refl _ _).grown hgrow (Nat.le_refl _) (fun _ h => by cases h)
  have hown1 : w1.ownsRow w.heap.size 3 1 (.slice (some ⟨w.heap.size, 0, none⟩) n n) n ((fill (Vx.relu (la.take 0)) n).map (Value.int .i64)) := by
    have h := hown
    rw [fill_zero] at h
    exact h
  clear hown hgrow
  go_wp2
  go_loopw [13] (fun i wr => ∃ k : Nat, k ≤ n ∧ i = .int .i64 k ∧ wr.ownsRow w.heap.size 3 1 (.slice (some ⟨w.heap.size, 0, none⟩) n n) n ((fill (Vx.relu (la.take k)) n).map (Value.int .i64)) ∧ Below w.heap.size w wr) (fun i _ => n - (intOf i).toNat)
  case atStart => exact ⟨0, Nat.zero_le _, rfl, hown1, hb1⟩
  case round =>
    clear hown1 hb1
    obtain ⟨k, hk, rfl, hown, hbel⟩ := hrel
    by_cases hlt : k < n
    · obtain ⟨b1, o1, rfl, hb1, hc1⟩ := ha.at hlt
      have hd1 : wr.cell? ⟨b1, o1 + k, none⟩ = some (.int .i64 (la.getD k 0)) := (hbel.cell (by exact hb1)).trans hc1
      have hli : (k : Int) < (n : Int) := by omega
      have hdl : (Vx.relu (la.take k)).length = k := by rw [Vx.relu_length]; simp; have := HA.out; omega
      obtain ⟨z, hz⟩ := fill_get (Vx.relu (la.take k)) n k hlt (by omega)
      have hce : wr.cell? ⟨w.heap.size, k, none⟩ = some (.int .i64 z) := (hown.cellAt k (by omega)).trans hz
      have hfe : wr.frozen? ⟨w.heap.size, k, none⟩ = false := hown.frozenAt k
      have HS : Hid ((((fill (Vx.relu (la.take k)) n).map (Value.int .i64)).set k (.int .i64 (Vx.rel (la.getD k 0)))) = (fill (Vx.relu (la.take (k + 1))) n).map (Value.int .i64)) := by
        show _ = _
        rw [Vx.relu_succ la k (by have := HA.out; omega), ← fill_set _ _ _ (by omega), hdl, List.map_set]
      clear hc1 hz hdl
      generalize la.getD k 0 = x at *
      go_wp2_with (go_at_call 63; refine by_same (relu1 x _) ?_)
      have hst := hown.stored k (.int .i64 (Vx.rel x))
      rw [HS.out] at hst
      clear hown hce hfe
      go_roundw
      case rel => exact ⟨k + 1, by omega, by go_num, hst.1, hbel.setCell (Nat.le_refl _) _⟩
      case measure => simp [intOf]; omega
    · have hkn : k = n := by omega
      subst hkn
      have e1 : la.take k = la := List.take_of_length_le (by have := HA.out; omega)
      rw [e1, fill_full _ _ (by rw [Vx.relu_length]; exact HA.out)] at hown
      clear e1
      obtain ⟨a', c', hv, hcm, hrow⟩ := Row.of_owns hown
      cases hv
      clear hown
      go_wp2
      go_ret
      exact ⟨_, _, rfl, hrow, hbel⟩

set_option maxRecDepth 100000 in
theorem vscale (a : Option Addr) (n ca : Nat) (k : Int) (la : List Int) (w : World) (ha : Row .i64 w a n la) (hn : n ≤ 100000) :
    Calls Try.prog 42 #[.slice a n ca, .int .i64 k] w fun e w' => ∃ a' c', e = .returned (.slice a' n c') ∧ Row .i64 w' a' n (Vx.scale la k) ∧ Below w.heap.size w w' := by
  have hmf : ∀ (fn : Fn) (first cap : Array Value) (w : World), (Instr.makeFunc fn first cap).run Try.prog w = .ok (.func fn first cap) w := fun _ _ _ _ => rfl
  have h0 : Below w.heap.size w (w.alloc (.cells #[.int .i64 k] 3)) := (Below.refl _ _).alloc (Nat.le_refl _) _
  have hc : (w.alloc (.cells #[.int .i64 k] 3)).cell? ⟨w.heap.size, 0, none⟩ = some (.int .i64 k) := by
    rw [World.cell?_alloc_at _ _ _ _ rfl]; rfl
  go_enter Try.func42, Try.ntmps42
  go_wp2_with fail
  refine (each_scale a n ca k w.heap.size la (w.alloc (.cells #[.int .i64 k] 3)) (ha.keep h0) hn hc).mono ?_
  rintro e w1 ⟨a', c', rfl, hrow, hb1⟩
  go_wp2
  go_ret
  exact ⟨a', c', rfl, hrow, h0.trans (hb1.mono (by simp))⟩

set_option maxRecDepth 100000 in
theorem vrelu (a : Option Addr) (n ca : Nat) (la : List Int) (w : World) (ha : Row .i64 w a n la) (hn : n ≤ 100000) :
    Calls Try.prog 56 #[.slice a n ca] w fun e w' => ∃ a' c', e = .returned (.slice a' n c') ∧ Row .i64 w' a' n (Vx.relu la) ∧ Below w.heap.size w w' := by
  go_enter Try.func56, Try.ntmps56
  go_wp2_with fail
  refine (each_relu a n ca la w ha hn).mono ?_
  rintro e w1 ⟨a', c', rfl, hrow, hb1⟩
  go_wp2
  go_ret
  exact ⟨a', c', rfl, hrow, hb1⟩

end Go.Proofs.Ytokkhkhipgopbaa
