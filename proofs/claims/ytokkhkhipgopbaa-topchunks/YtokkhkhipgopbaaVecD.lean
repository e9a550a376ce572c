/- What the functions of package vec and the document's answers for layer 2 do when called (fourth part: Add). -/
import Derived.Test.YtokkhkhipgopbaaVecC
namespace Go.Proofs.Ytokkhkhipgopbaa
open Go.ChangeShapes Go.WideShapes Go.ChangeAt Go.RowKit

theorem wrap_sum (x y : Int) : IntKind.i64.wrap (Fx.hold x + Fx.hold y) = Fx.hold x + Fx.hold y := by
  have := Fx.hold_lo x; have := Fx.hold_hi x; have := Fx.hold_lo y; have := Fx.hold_hi y
  rw [IntKind.wrap_i64]; omega

set_option maxRecDepth 100000 in
theorem add1 (x y : Int) (P base n : Nat) (v : Value) (l : List Int) (w : World) (hc : w.cell? ⟨P, 0, none⟩ = some v) (hf : w.frozen? ⟨P, 0, none⟩ = false)
    (hown : w.ownsRow base 3 1 v n (l.map (Value.int .i64))) (hP : P < base) (hbase : base ≤ w.heap.size) (hn : n ≤ 100000) :
    Calls Try.prog 50 #[.int .i64 x, .int .i64 y, .pointer (some ⟨P, 0, none⟩)] w fun e w' =>
      e = .returned (.tuple #[]) ∧ ∃ v', w'.cell? ⟨P, 0, none⟩ = some v' ∧ w'.frozen? ⟨P, 0, none⟩ = false ∧ w'.ownsRow base 3 1 v' (n + 1) ((l ++ [Fx.add x y]).map (Value.int .i64)) ∧ Below P w w' := by
  obtain ⟨i0, hi, hz0, hz1, hz2⟩ := info_parts Try.infoInt
  have hne : some P ≠ v.ownBlock := fun h => by have := (hown.lt P h.symm).1; omega
  have hlt := World.block_lt_of_cell? w _ hc
  have hnew := World.new_ne w _ hc
  go_enter Try.func50, Try.ntmps50
  go_wp2
  go_region_law
    (first
      | (refine step_append_lies _ (by rfl) _ _ _ (by rfl) base 3 i0 _ 1 8 Try.underlying47 hi hz0 hz1 hz2 rfl (by omega) _ _ _ (by rfl) ((hown.alloc _).drew) ⟨w.heap.size, 0, none⟩ 1 1 [.int .i64 (Fx.add x y)] (by rfl) (by rfl) (World.news_of_block (cs := #[.int .i64 (Fx.add x y)]) (t := 3) (fr := (0, 0)) (heap_alloc_new w _)) (by simp [Value.oneCell']) (by omega) (by unfold maxLen; omega) (by omega) (by simp; omega) (w.heap.size + 1) (by simp) ?_; intro gg cap w1 hown1 hgrow hat hlt1; have hfw : w1.frozen? ⟨P, 0, none⟩ = false := (hgrow.frozen_far _ (by simp; omega) hne).trans ((World.frozen?_alloc_past _ _ _ hlt).trans hf); have hcw : w1.cell? ⟨P, 0, none⟩ = some v := (hgrow.cell_far _ (by simp; omega) hne).trans ((World.cell?_alloc_past _ _ _ hlt).trans hc))
      | (go_simp; go_wp2_with (go_at_call 51; refine by_same (fadd _ _ _) ?_)))
  all_goals go_end0
  all_goals
    refine ⟨rfl, .slice (some ⟨gg, 0, none⟩) (n + 1) cap, World.cell?_setCell_same _ _ _ hcw, (World.frozen?_setCell _ _ _ _).trans hfw, ?_, ?_⟩
    · rw [List.map_append]
      exact ownsRow_setCell_below hown1 (by exact hP) _
    · exact (((Below.refl P w).alloc (by omega) _).drew.grown hgrow (by simp; omega) (fun g hg => by have := (hown.lt g hg).1; omega)).setCell (Nat.le_refl _) _

set_option maxRecDepth 100000 in
theorem pairs_add (a b : Option Addr) (n ca cb : Nat) (la lb : List Int) (w0 w : World) (P : Nat) (ha : Row .i64 w0 a n la) (hb : Row .i64 w0 b n lb) (hn : n ≤ 100000)
    (h0 : Below w0.heap.size w0 w) (hP : w0.heap.size ≤ P) (hPw : P + 1 ≤ w.heap.size) (hc : w.cell? ⟨P, 0, none⟩ = some (.slice none 0 0)) (hf : w.frozen? ⟨P, 0, none⟩ = false) :
    Calls Try.prog 49 #[.slice a n ca, .slice b n cb, .func (.func 50) #[] #[.pointer (some ⟨P, 0, none⟩)]] w fun e w' =>
      e = .returned (.bool true) ∧ Below w0.heap.size w0 w' ∧ ∃ v, w'.cell? ⟨P, 0, none⟩ = some v ∧ w'.ownsRow (P + 1) 3 1 v n ((Vx.add la lb).map (Value.int .i64)) := by
  have hal := ha.len; have hbl := hb.len
  have HA : Hid (la.length = n) := hal; have HB : Hid (lb.length = n) := hbl
  clear hal hbl
  have e0 : ((n : Int) != (n : Int)) = false := by simp
  go_enter Try.func49, Try.ntmps49
  go_wp2
  go_loopw [16] (fun i wr => ∃ k : Nat, k ≤ n ∧ i = .int .i64 k ∧ Below w0.heap.size w0 wr ∧ P + 1 ≤ wr.heap.size ∧ wr.frozen? ⟨P, 0, none⟩ = false ∧
      ∃ v, wr.cell? ⟨P, 0, none⟩ = some v ∧ wr.ownsRow (P + 1) 3 1 v k ((Vx.add (la.take k) (lb.take k)).map (Value.int .i64))) (fun i _ => n - (intOf i).toNat)
  case atStart => exact ⟨0, Nat.zero_le _, rfl, h0, hPw, hf, _, hc, World.ownsRow_nil _ _ _ _⟩
  case round =>
    obtain ⟨k, hk, rfl, hbel, hPr, hfr, v, hcr, hown⟩ := hrel
    by_cases hlt : k < n
    · obtain ⟨b1, o1, rfl, hb1, hc1⟩ := ha.at hlt
      obtain ⟨b2, o2, rfl, hb2, hc2⟩ := hb.at hlt
      have hd1 : wr.cell? ⟨b1, o1 + k, none⟩ = some (.int .i64 (la.getD k 0)) := (hbel.cell (by exact hb1)).trans hc1
      have hd2 : wr.cell? ⟨b2, o2 + k, none⟩ = some (.int .i64 (lb.getD k 0)) := (hbel.cell (by exact hb2)).trans hc2
      have hli : (k : Int) < (n : Int) := by omega
      have HS : Hid (Vx.add (la.take (k + 1)) (lb.take (k + 1)) = Vx.add (la.take k) (lb.take k) ++ [Fx.add (la.getD k 0) (lb.getD k 0)]) := Vx.add_succ la lb k (by have := HA.out; omega) (by have := HB.out; omega)
      clear hc1 hc2
      generalize la.getD k 0 = x at *
      generalize lb.getD k 0 = y at *
      go_wp2_with (go_at_call 50; refine (add1 x y P (P + 1) k v (Vx.add (la.take k) (lb.take k)) _ hcr hfr hown (by omega) hPr (by omega)).mono ?_; rintro e w' ⟨rfl, v', hcv, hfv, hov, hbv⟩)
      go_roundw
      case rel => exact ⟨k + 1, by omega, by go_num, hbel.trans (hbv.mono hP), by have := hbv.size; omega, hfv, v', hcv, by rw [HS.out]; exact hov⟩
      case measure => simp [intOf]; omega
    · have hkn : k = n := by omega
      subst hkn
      have e1 : la.take k = la := List.take_of_length_le (by have := HA.out; omega)
      have e2 : lb.take k = lb := List.take_of_length_le (by have := HB.out; omega)
      rw [e1, e2] at hown
      clear e1 e2
      go_wp2
      go_ret
      exact ⟨rfl, hbel, v, hcr, hown⟩

set_option maxRecDepth 100000 in
theorem vadd (a b : Option Addr) (n ca cb : Nat) (la lb : List Int) (w : World) (ha : Row .i64 w a n la) (hb : Row .i64 w b n lb) (hn : n ≤ 100000) :
    Calls Try.prog 41 #[.slice a n ca, .slice b n cb] w fun e w' => ∃ a' c', e = .returned (.tuple #[.slice a' n c', .bool true]) ∧ Row .i64 w' a' n (Vx.add la lb) ∧ Below w.heap.size w w' := by
  have hmf : ∀ (fn : Fn) (first cap : Array Value) (w : World), (Instr.makeFunc fn first cap).run Try.prog w = .ok (.func fn first cap) w := fun _ _ _ _ => rfl
  have h0 : Below w.heap.size w (w.alloc (.cells #[.slice none 0 0] 47)) := (Below.refl _ _).alloc (Nat.le_refl _) _
  have hc : (w.alloc (.cells #[.slice none 0 0] 47)).cell? ⟨w.heap.size, 0, none⟩ = some (.slice none 0 0) := by
    rw [World.cell?_alloc_at _ _ _ _ rfl]; rfl
  have hf : (w.alloc (.cells #[.slice none 0 0] 47)).frozen? ⟨w.heap.size, 0, none⟩ = false := World.frozen?_alloc_at _ _ _ _ rfl
  go_enter Try.func41, Try.ntmps41
  go_wp2_with fail
  refine (pairs_add a b n ca cb la lb w (w.alloc (.cells #[.slice none 0 0] 47)) w.heap.size ha hb hn h0 (Nat.le_refl _) (by simp) hc hf).mono ?_
  rintro e w1 ⟨rfl, hb1, v, hc1, hown⟩
  obtain ⟨a', c', rfl, hcm, hrow⟩ := Row.of_owns hown
  go_wp2
  go_ret2
  exact ⟨a', c', rfl, hrow, hb1⟩

set_option maxRecDepth 100000 in
theorem vadd_no (a b : Option Addr) (n m ca cb : Nat) (w : World) (h : n ≠ m) :
    Calls Try.prog 41 #[.slice a n ca, .slice b m cb] w fun e w' => e = .returned (.tuple #[.slice none 0 0, .bool false]) ∧ Below w.heap.size w w' := by
  have hmf : ∀ (fn : Fn) (first cap : Array Value) (w : World), (Instr.makeFunc fn first cap).run Try.prog w = .ok (.func fn first cap) w := fun _ _ _ _ => rfl
  have h0 : Below w.heap.size w (w.alloc (.cells #[.slice none 0 0] 47)) := (Below.refl _ _).alloc (Nat.le_refl _) _
  go_enter Try.func41, Try.ntmps41
  go_wp2_with fail
  refine (pairs_no a b n m ca cb _ _ h).mono ?_
  rintro e w1 ⟨rfl, rfl⟩
  go_wp2
  go_ret2
  exact ⟨rfl, h0⟩

end Go.Proofs.Ytokkhkhipgopbaa
