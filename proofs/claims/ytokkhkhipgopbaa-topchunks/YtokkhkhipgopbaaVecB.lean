/- What the functions of package vec and the document's answers for layer 2 do when called (second part: Dot). -/
import Derived.Test.YtokkhkhipgopbaaVecA
namespace Go.Proofs.Ytokkhkhipgopbaa
open Go.ChangeShapes Go.WideShapes Go.ChangeAt Go.RowKit

set_option maxRecDepth 100000 in
theorem pairs_dot (a b : Option Addr) (n ca cb : Nat) (la lb : List Int) (w0 w : World) (P : Nat) (ha : Row .i64 w0 a n la) (hb : Row .i64 w0 b n lb) (hn : n ≤ 100000)
    (h0 : Below w0.heap.size w0 w) (hP : w0.heap.size ≤ P) (hc : w.cell? ⟨P, 0, none⟩ = some (.int .i64 0)) (hf : w.frozen? ⟨P, 0, none⟩ = false) :
    Calls Try.prog 49 #[.slice a n ca, .slice b n cb, .func (.func 67) #[] #[.pointer (some ⟨P, 0, none⟩)]] w fun e w' =>
      e = .returned (.bool true) ∧ Below w0.heap.size w0 w' ∧ w'.cell? ⟨P, 0, none⟩ = some (.int .i64 (Vx.dot la lb)) := by
  have hal := ha.len; have hbl := hb.len
  have HA : Hid (la.length = n) := hal; have HB : Hid (lb.length = n) := hbl
  clear hal hbl
  have e0 : ((n : Int) != (n : Int)) = false := by simp
  go_enter Try.func49, Try.ntmps49
  go_wp2
  go_loopw [16] (fun i wr => ∃ k : Nat, k ≤ n ∧ i = .int .i64 k ∧ Below w0.heap.size w0 wr ∧ wr.cell? ⟨P, 0, none⟩ = some (.int .i64 (Vx.dot (la.take k) (lb.take k))) ∧ wr.frozen? ⟨P, 0, none⟩ = false) (fun i _ => n - (intOf i).toNat)
  case atStart => exact ⟨0, Nat.zero_le _, rfl, h0, hc, hf⟩
  case round =>
    obtain ⟨k, hk, rfl, hbel, hcr, hfr⟩ := hrel
    by_cases hlt : k < n
    · obtain ⟨b1, o1, rfl, hb1, hc1⟩ := ha.at hlt
      obtain ⟨b2, o2, rfl, hb2, hc2⟩ := hb.at hlt
      have hd1 : wr.cell? ⟨b1, o1 + k, none⟩ = some (.int .i64 (la.getD k 0)) := (hbel.cell (by exact hb1)).trans hc1
      have hd2 : wr.cell? ⟨b2, o2 + k, none⟩ = some (.int .i64 (lb.getD k 0)) := (hbel.cell (by exact hb2)).trans hc2
      have hli : (k : Int) < (n : Int) := by omega
      have HS : Hid (Vx.dot (la.take (k + 1)) (lb.take (k + 1)) = Fx.add (Vx.dot (la.take k) (lb.take k)) (Fx.mul (la.getD k 0) (lb.getD k 0))) := Vx.dot_succ la lb k (by have := HA.out; omega) (by have := HB.out; omega)
      clear hc1 hc2
      generalize la.getD k 0 = x at *
      generalize lb.getD k 0 = y at *
      generalize Vx.dot (la.take k) (lb.take k) = s at *
      have hce : (wr.setCell ⟨P, 0, none⟩ (.int .i64 (Fx.add s (Fx.mul x y)))).cell? ⟨P, 0, none⟩ = some (.int .i64 (Fx.add s (Fx.mul x y))) := World.cell?_setCell_same _ _ _ hcr
      have hfe : (wr.setCell ⟨P, 0, none⟩ (.int .i64 (Fx.add s (Fx.mul x y)))).frozen? ⟨P, 0, none⟩ = false := (World.frozen?_setCell _ _ _ _).trans hfr
      go_wp2_with (go_at_call 67; refine (dot1 x y s P _ (by assumption) (by assumption)).mono ?_; rintro e w' ⟨rfl, rfl⟩)
      go_roundw
      case rel => exact ⟨k + 1, by omega, by go_num, (hbel.setCell (by exact hP) _).drew, by rw [HS.out]; exact hce, hfe⟩
      case measure => simp [intOf]; omega
    · have hkn : k = n := by omega
      have e1 : la.take k = la := List.take_of_length_le (by have := HA.out; omega)
      have e2 : lb.take k = lb := List.take_of_length_le (by have := HB.out; omega)
      rw [e1, e2] at hcr
      clear e1 e2
      go_wp2
      go_ret
      exact ⟨rfl, hbel, hcr⟩

set_option maxRecDepth 100000 in
theorem pairs_no (a b : Option Addr) (n m ca cb : Nat) (v : Value) (w : World) (h : n ≠ m) :
    Calls Try.prog 49 #[.slice a n ca, .slice b m cb, v] w fun e w' => e = .returned (.bool false) ∧ w' = w := by
  have e0 : ((n : Int) != (m : Int)) = true := by rw [bne_iff_ne]; omega
  go_enter Try.func49, Try.ntmps49
  go_wp2
  go_ret
  exact ⟨rfl, rfl⟩

set_option maxRecDepth 100000 in
theorem vdot (a b : Option Addr) (n ca cb : Nat) (la lb : List Int) (w : World) (ha : Row .i64 w a n la) (hb : Row .i64 w b n lb) (hn : n ≤ 100000) :
    Calls Try.prog 62 #[.slice a n ca, .slice b n cb] w fun e w' => e = .returned (.tuple #[.int .i64 (Vx.dot la lb), .bool true]) ∧ Below w.heap.size w w' := by
  have hmf : ∀ (fn : Fn) (first cap : Array Value) (w : World), (Instr.makeFunc fn first cap).run Try.prog w = .ok (.func fn first cap) w := fun _ _ _ _ => rfl
  have h0 : Below w.heap.size w (w.alloc (.cells #[.int .i64 0] 3)) := (Below.refl _ _).alloc (Nat.le_refl _) _
  have hc : (w.alloc (.cells #[.int .i64 0] 3)).cell? ⟨w.heap.size, 0, none⟩ = some (.int .i64 0) := by
    rw [World.cell?_alloc_at _ _ _ _ rfl]; rfl
  have hf : (w.alloc (.cells #[.int .i64 0] 3)).frozen? ⟨w.heap.size, 0, none⟩ = false := World.frozen?_alloc_at _ _ _ _ rfl
  go_enter Try.func62, Try.ntmps62
  go_wp2_with fail
  refine (pairs_dot a b n ca cb la lb w (w.alloc (.cells #[.int .i64 0] 3)) w.heap.size ha hb hn h0 (Nat.le_refl _) hc hf).mono ?_
  rintro e w1 ⟨rfl, hb1, hc1⟩
  go_wp2
  go_ret2
  exact ⟨rfl, hb1⟩

set_option maxRecDepth 100000 in
theorem vdot_no (a b : Option Addr) (n m ca cb : Nat) (w : World) (h : n ≠ m) :
    Calls Try.prog 62 #[.slice a n ca, .slice b m cb] w fun e w' => e = .returned (.tuple #[.int .i64 0, .bool false]) ∧ Below w.heap.size w w' := by
  have hmf : ∀ (fn : Fn) (first cap : Array Value) (w : World), (Instr.makeFunc fn first cap).run Try.prog w = .ok (.func fn first cap) w := fun _ _ _ _ => rfl
  have h0 : Below w.heap.size w (w.alloc (.cells #[.int .i64 0] 3)) := (Below.refl _ _).alloc (Nat.le_refl _) _
  go_enter Try.func62, Try.ntmps62
  go_wp2_with fail
  refine (pairs_no a b n m ca cb _ _ h).mono ?_
  rintro e w1 ⟨rfl, rfl⟩
  go_wp2
  go_ret2
  exact ⟨rfl, h0⟩

end Go.Proofs.Ytokkhkhipgopbaa
