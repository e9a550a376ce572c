/- 7 texts as one, in their order: Hold, VecA, VecB, VecC, VecD, VecE, VecF. -/
import Derived.Test.YtokfcjgfpchffaaGreatDoorKe
import Derived.Test.YtokfcjgfpchffaaGreatDoorKb

/- What the functions of package fix, the document's answers for layer 1, and the laws' fixed answer do when called: the integer functions of Fx, the world as it was, for every int. -/
namespace Go.Proofs.YtokfcjgfpchffaaGreatDoor
open Go.ChangeShapes Go.WideShapes Go.ChangeAt Go.RowKit

set_option maxRecDepth 100000 in
theorem hold (n : Int) (w : World) : Calls Tryz.prog 154 #[.int .i64 n] w fun e w' => e = .returned (.int .i64 (Fx.hold n)) ∧ w' = w := by
  by_cases h1 : 2147483647 < n
  · go_enter Tryz.func154, Tryz.ntmps154
    go_wp2
    go_ret
    exact ⟨ret_int (Fx.hold_big h1).symm, rfl⟩
  · by_cases h2 : n < -2147483647
    · go_enter Tryz.func154, Tryz.ntmps154
      go_wp2
      go_ret
      exact ⟨ret_int (Fx.hold_small h2).symm, rfl⟩
    · go_enter Tryz.func154, Tryz.ntmps154
      go_wp2
      go_ret
      exact ⟨ret_int (Fx.hold_id (by omega) (by omega)).symm, rfl⟩
set_option maxRecDepth 100000 in
theorem rhold (n : Int) (w : World) : Calls Tryz.prog 71 #[.int .i64 n] w fun e w' => e = .returned (.int .i64 (Fx.hold n)) ∧ w' = w := by
  by_cases h1 : 2147483647 < n
  · go_enter Tryz.func71, Tryz.ntmps71
    go_wp2
    go_ret
    exact ⟨ret_int (Fx.hold_big h1).symm, rfl⟩
  · by_cases h2 : n < -2147483647
    · go_enter Tryz.func71, Tryz.ntmps71
      go_wp2
      go_ret
      exact ⟨ret_int (Fx.hold_small h2).symm, rfl⟩
    · go_enter Tryz.func71, Tryz.ntmps71
      go_wp2
      go_ret
      exact ⟨ret_int (Fx.hold_id (by omega) (by omega)).symm, rfl⟩
set_option maxRecDepth 100000 in
theorem fadd (a b : Int) (w : World) : Calls Tryz.prog 159 #[.int .i64 a, .int .i64 b] w fun e w' => e = .returned (.int .i64 (Fx.add a b)) ∧ w' = w := by
  have := Fx.hold_lo a; have := Fx.hold_hi a; have := Fx.hold_lo b; have := Fx.hold_hi b
  go_enter Tryz.func159, Tryz.ntmps159
  go_wp2_with (go_at_call 154; refine (hold _ _).mono ?_; rintro e w' ⟨rfl, rfl⟩)
  go_ret
  exact ⟨rfl, rfl⟩
set_option maxRecDepth 100000 in
theorem fmul (a b : Int) (w : World) : Calls Tryz.prog 162 #[.int .i64 a, .int .i64 b] w fun e w' => e = .returned (.int .i64 (Fx.mul a b)) ∧ w' = w := by
  have := (Fx.prod_bd a b).1; have := (Fx.prod_bd a b).2
  go_enter Tryz.func162, Tryz.ntmps162
  go_wp2_with (go_at_call 154; refine (hold _ _).mono ?_; rintro e w' ⟨rfl, rfl⟩)
  go_ret
  exact ⟨rfl, rfl⟩
set_option maxRecDepth 100000 in
theorem rmul (a b : Int) (w : World) : Calls Tryz.prog 72 #[.int .i64 a, .int .i64 b] w fun e w' => e = .returned (.int .i64 (Fx.mul a b)) ∧ w' = w := by
  have a1 := Fx.hold_lo a; have a2 := Fx.hold_hi a; have b1 := Fx.hold_lo b; have b2 := Fx.hold_hi b
  by_cases hx : Fx.hold a < 0
  · by_cases hy : Fx.hold b < 0
    · have p := Fx.abs_prod (-Fx.hold a) (-Fx.hold b) (by omega) (by omega) (by omega) (by omega)
      obtain ⟨p1, p2⟩ := p
      obtain ⟨q1, q2⟩ := Fx.tdiv_bd p1 p2
      go_enter Tryz.func72, Tryz.ntmps72
      go_wp2_with (go_at_call 71; refine (rhold _ _).mono ?_; rintro e w' ⟨rfl, rfl⟩)
      go_ret
      exact ⟨ret_int (Fx.mul_nn a b), rfl⟩
    · have p := Fx.abs_prod (-Fx.hold a) (Fx.hold b) (by omega) (by omega) (by omega) (by omega)
      obtain ⟨p1, p2⟩ := p
      obtain ⟨q1, q2⟩ := Fx.tdiv_bd p1 p2
      go_enter Tryz.func72, Tryz.ntmps72
      go_wp2_with (go_at_call 71; refine (rhold _ _).mono ?_; rintro e w' ⟨rfl, rfl⟩)
      go_ret
      exact ⟨ret_int (Fx.mul_np a b), rfl⟩
  · by_cases hy : Fx.hold b < 0
    · have p := Fx.abs_prod (Fx.hold a) (-Fx.hold b) (by omega) (by omega) (by omega) (by omega)
      obtain ⟨p1, p2⟩ := p
      obtain ⟨q1, q2⟩ := Fx.tdiv_bd p1 p2
      go_enter Tryz.func72, Tryz.ntmps72
      go_wp2_with (go_at_call 71; refine (rhold _ _).mono ?_; rintro e w' ⟨rfl, rfl⟩)
      go_ret
      exact ⟨ret_int (Fx.mul_pn a b), rfl⟩
    · have p := Fx.abs_prod (Fx.hold a) (Fx.hold b) (by omega) (by omega) (by omega) (by omega)
      obtain ⟨p1, p2⟩ := p
      obtain ⟨q1, q2⟩ := Fx.tdiv_bd p1 p2
      go_enter Tryz.func72, Tryz.ntmps72
      go_wp2_with (go_at_call 71; refine (rhold _ _).mono ?_; rintro e w' ⟨rfl, rfl⟩)
      go_ret
      exact ⟨rfl, rfl⟩
end Go.Proofs.YtokfcjgfpchffaaGreatDoor

/- What the functions of package vec and the document's answers for layer 2 do when called (first part: those that only read, and the closures). -/
namespace Go.Proofs.YtokfcjgfpchffaaGreatDoor
open Go.ChangeShapes Go.WideShapes Go.ChangeAt Go.RowKit

set_option maxRecDepth 100000 in
theorem scale1 (n k : Int) (P : Nat) (w : World) (hc : w.cell? ⟨P, 0, none⟩ = some (.int .i64 k)) :
    Calls Tryz.prog 161 #[.int .i64 n, .pointer (some ⟨P, 0, none⟩)] w fun e w' => e = .returned (.int .i64 (Fx.mul n k)) ∧ w' = w := by
  go_enter Tryz.func161, Tryz.ntmps161
  go_wp2_with (go_at_call 162; refine (fmul _ _ _).mono ?_; rintro e w' ⟨rfl, rfl⟩)
  go_ret
  exact ⟨rfl, rfl⟩

set_option maxRecDepth 100000 in
theorem relu1 (n : Int) (w : World) :
    Calls Tryz.prog 201 #[.int .i64 n] w fun e w' => e = .returned (.int .i64 (Vx.rel n)) ∧ w' = w := by
  have e : Vx.rel n = if Fx.hold n < 0 then 0 else Fx.hold n := rfl
  by_cases h : Fx.hold n < 0
  · rw [if_pos h] at e
    have HE : Hid (Vx.rel n = 0) := e
    clear e
    go_enter Tryz.func201, Tryz.ntmps201
    go_wp2_with (go_at_call 154; refine (hold _ _).mono ?_; rintro e w' ⟨rfl, rfl⟩)
    all_goals go_ret
    all_goals exact ⟨ret_int (by have := HE.out; omega), rfl⟩
  · rw [if_neg h] at e
    have HE : Hid (Vx.rel n = Fx.hold n) := e
    clear e
    go_enter Tryz.func201, Tryz.ntmps201
    go_wp2_with (go_at_call 154; refine (hold _ _).mono ?_; rintro e w' ⟨rfl, rfl⟩)
    all_goals go_ret
    all_goals exact ⟨ret_int (by have := HE.out; omega), rfl⟩

set_option maxRecDepth 100000 in
theorem dot1 (x y s : Int) (P : Nat) (w : World) (hc : w.cell? ⟨P, 0, none⟩ = some (.int .i64 s)) (hf : w.frozen? ⟨P, 0, none⟩ = false) :
    Calls Tryz.prog 204 #[.int .i64 x, .int .i64 y, .pointer (some ⟨P, 0, none⟩)] w fun e w' =>
      e = .returned (.tuple #[]) ∧ w' = (w.setCell ⟨P, 0, none⟩ (.int .i64 (Fx.add s (Fx.mul x y)))).drew := by
  go_enter Tryz.func204, Tryz.ntmps204
  go_wp2
  go_region_with (first | (go_at_call 162; refine (fmul _ _ _).mono ?_; rintro e w' ⟨rfl, rfl⟩) | (go_at_call 159; refine (fadd _ _ _).mono ?_; rintro e w' ⟨rfl, rfl⟩))
  all_goals go_end0
  all_goals exact ⟨rfl, rfl⟩

end Go.Proofs.YtokfcjgfpchffaaGreatDoor

/- What the functions of package vec and the document's answers for layer 2 do when called (second part: Dot). -/
namespace Go.Proofs.YtokfcjgfpchffaaGreatDoor
open Go.ChangeShapes Go.WideShapes Go.ChangeAt Go.RowKit

set_option maxRecDepth 100000 in
theorem rdot (a b : Option Addr) (n ca cb : Nat) (la lb : List Int) (w : World) (ha : Row .i64 w a n la) (hb : Row .i64 w b n lb) (hn : n ≤ 100000) :
    Calls Tryz.prog 115 #[.slice a n ca, .slice b n cb] w fun e w' => e = .returned (.int .i64 (Vx.dot la lb)) ∧ Below w.heap.size w w' := by
  have hal := ha.len; have hbl := hb.len
  have HA : Hid (la.length = n) := hal; have HB : Hid (lb.length = n) := hbl
  clear hal hbl
  go_enter Tryz.func115, Tryz.ntmps115
  go_wp2
  go_loopw [5, 6] (fun s i wr => ∃ k : Nat, k ≤ n ∧ i = .int .i64 k ∧ s = .int .i64 (Vx.dot (la.take k) (lb.take k)) ∧ Below w.heap.size w wr) (fun _ i _ => n - (intOf i).toNat)
  case atStart => exact ⟨0, Nat.zero_le _, rfl, rfl, Below.refl _ _⟩
  case round =>
    obtain ⟨k, hk, rfl, rfl, hbel⟩ := hrel
    by_cases hlt : k < n
    · obtain ⟨b1, o1, rfl, hb1, hc1⟩ := ha.at hlt
      obtain ⟨b2, o2, rfl, hb2, hc2⟩ := hb.at hlt
      have hd1 : wr.cell? ⟨b1, o1 + k, none⟩ = some (.int .i64 (la.getD k 0)) := (hbel.cell (by exact hb1)).trans hc1
      have hd2 : wr.cell? ⟨b2, o2 + k, none⟩ = some (.int .i64 (lb.getD k 0)) := (hbel.cell (by exact hb2)).trans hc2
      have hli : (k : Int) < (n : Int) := by omega
      have HS : Hid (Vx.dot (la.take (k + 1)) (lb.take (k + 1)) = Fx.hold (Vx.dot (la.take k) (lb.take k) + Fx.mul (la.getD k 0) (lb.getD k 0))) := by
        show _ = _
        rw [Vx.hold_step]; exact Vx.dot_succ la lb k (by have := HA.out; omega) (by have := HB.out; omega)
      clear hc1 hc2
      generalize la.getD k 0 = x at *
      generalize lb.getD k 0 = y at *
      have l1 := Vx.dot_lo (la.take k) (lb.take k); have l2 := Vx.dot_hi (la.take k) (lb.take k)
      have l3 := Fx.mul_lo x y; have l4 := Fx.mul_hi x y
      generalize Vx.dot (la.take k) (lb.take k) = s at *
      go_wp2
      go_quiet (first | (go_at_call 72; exact Calls.quiet_of_same (rmul _ _ _)) | (go_at_call 71; exact Calls.quiet_of_same (rhold _ _)))
      go_wp2
      go_roundw
      case rel => exact ⟨k + 1, by omega, by go_num, by rw [HS.out], bel_drewN hbel _⟩
      case measure => simp [intOf]; omega
    · go_wp2
      go_ret
      have hkn : k = n := by omega
      exact ⟨ret_int (by rw [List.take_of_length_le (by have := HA.out; omega), List.take_of_length_le (by have := HB.out; omega)]), hbel⟩

set_option maxRecDepth 100000 in
theorem pairs_dot (a b : Option Addr) (n ca cb : Nat) (la lb : List Int) (w0 w : World) (P : Nat) (ha : Row .i64 w0 a n la) (hb : Row .i64 w0 b n lb) (hn : n ≤ 100000)
    (h0 : Below w0.heap.size w0 w) (hP : w0.heap.size ≤ P) (hc : w.cell? ⟨P, 0, none⟩ = some (.int .i64 0)) (hf : w.frozen? ⟨P, 0, none⟩ = false) :
    Calls Tryz.prog 157 #[.slice a n ca, .slice b n cb, .func (.func 204) #[] #[.pointer (some ⟨P, 0, none⟩)]] w fun e w' =>
      e = .returned (.bool true) ∧ Below w0.heap.size w0 w' ∧ w'.cell? ⟨P, 0, none⟩ = some (.int .i64 (Vx.dot la lb)) := by
  have hal := ha.len; have hbl := hb.len
  have HA : Hid (la.length = n) := hal; have HB : Hid (lb.length = n) := hbl
  clear hal hbl
  have e0 : ((n : Int) != (n : Int)) = false := by simp
  go_enter Tryz.func157, Tryz.ntmps157
  go_wp2
  go_loopw [16] (fun i wr => ∃ k : Nat, k ≤ n ∧ i = .int .i64 k ∧ Below w0.heap.size w0 wr ∧ wr.cell? ⟨P, 0, none⟩ = some (.int .i64 (Vx.dot (la.take k) (lb.take k))) ∧ wr.frozen? ⟨P, 0, none⟩ = false) (fun i _ => n - (intOf i).toNat)
  case atStart => exact ⟨0, Nat.zero_le _, rfl, h0, hc, hf⟩
  case round =>
    obtain ⟨k, hk, rfl, hbel, hcr, hfr⟩ := hrel
    by_cases hlt : k < n
    · obtain ⟨b1, o1, rfl, hb1, hc1⟩ := ha.at hlt
      obtain ⟨b2, o2, rfl, hb2, hc2⟩ := hb.at hlt
      have hd1 : wr.cell? ⟨b1, o1 + k, none⟩ = some (.int .i64 (la.getD k 0)) := (hbel.cell (by exact hb1)).trans hc1
      have hd2 : wr.cell? ⟨b2, o2 + k, none⟩ = some (.int .i64 (lb.getD k 0)) := (hbel.cell (by exact hb2)).trans hc2
      have hli : (k : Int) < (n : Int) := by omega
      have HS : Hid (Vx.dot (la.take (k + 1)) (lb.take (k + 1)) = Fx.add (Vx.dot (la.take k) (lb.take k)) (Fx.mul (la.getD k 0) (lb.getD k 0))) := Vx.dot_succ la lb k (by have := HA.out; omega) (by have := HB.out; omega)
      clear hc1 hc2
      generalize la.getD k 0 = x at *
      generalize lb.getD k 0 = y at *
      generalize Vx.dot (la.take k) (lb.take k) = s at *
      have hce : (wr.setCell ⟨P, 0, none⟩ (.int .i64 (Fx.add s (Fx.mul x y)))).cell? ⟨P, 0, none⟩ = some (.int .i64 (Fx.add s (Fx.mul x y))) := World.cell?_setCell_same _ _ _ hcr
      have hfe : (wr.setCell ⟨P, 0, none⟩ (.int .i64 (Fx.add s (Fx.mul x y)))).frozen? ⟨P, 0, none⟩ = false := (World.frozen?_setCell _ _ _ _).trans hfr
      go_wp2_with (go_at_call 204; refine (dot1 x y s P _ (by assumption) (by assumption)).mono ?_; rintro e w' ⟨rfl, rfl⟩)
      go_roundw
      case rel => exact ⟨k + 1, by omega, by go_num, (hbel.setCell (by exact hP) _).drew, by rw [HS.out]; exact hce, hfe⟩
      case measure => simp [intOf]; omega
    · have hkn : k = n := by omega
      have e1 : la.take k = la := List.take_of_length_le (by have := HA.out; omega)
      have e2 : lb.take k = lb := List.take_of_length_le (by have := HB.out; omega)
      rw [e1, e2] at hcr
      clear e1 e2
      go_wp2
      go_ret
      exact ⟨rfl, hbel, hcr⟩

set_option maxRecDepth 100000 in
theorem pairs_no (a b : Option Addr) (n m ca cb : Nat) (v : Value) (w : World) (h : n ≠ m) :
    Calls Tryz.prog 157 #[.slice a n ca, .slice b m cb, v] w fun e w' => e = .returned (.bool false) ∧ w' = w := by
  have e0 : ((n : Int) != (m : Int)) = true := by rw [bne_iff_ne]; omega
  go_enter Tryz.func157, Tryz.ntmps157
  go_wp2
  go_ret
  exact ⟨rfl, rfl⟩

set_option maxRecDepth 100000 in
theorem vdot (a b : Option Addr) (n ca cb : Nat) (la lb : List Int) (w : World) (ha : Row .i64 w a n la) (hb : Row .i64 w b n lb) (hn : n ≤ 100000) :
    Calls Tryz.prog 195 #[.slice a n ca, .slice b n cb] w fun e w' => e = .returned (.tuple #[.int .i64 (Vx.dot la lb), .bool true]) ∧ Below w.heap.size w w' := by
  have hmf : ∀ (fn : Fn) (first cap : Array Value) (w : World), (Instr.makeFunc fn first cap).run Tryz.prog w = .ok (.func fn first cap) w := fun _ _ _ _ => rfl
  have h0 : Below w.heap.size w (w.alloc (.cells #[.int .i64 0] 3)) := (Below.refl _ _).alloc (Nat.le_refl _) _
  have hc : (w.alloc (.cells #[.int .i64 0] 3)).cell? ⟨w.heap.size, 0, none⟩ = some (.int .i64 0) := by
    rw [World.cell?_alloc_at _ _ _ _ rfl]; rfl
  have hf : (w.alloc (.cells #[.int .i64 0] 3)).frozen? ⟨w.heap.size, 0, none⟩ = false := World.frozen?_alloc_at _ _ _ _ rfl
  go_enter Tryz.func195, Tryz.ntmps195
  go_wp2_with fail
  refine (pairs_dot a b n ca cb la lb w (w.alloc (.cells #[.int .i64 0] 3)) w.heap.size ha hb hn h0 (Nat.le_refl _) hc hf).mono ?_
  rintro e w1 ⟨rfl, hb1, hc1⟩
  go_wp2
  go_ret2
  exact ⟨rfl, hb1⟩

set_option maxRecDepth 100000 in
theorem vdot_no (a b : Option Addr) (n m ca cb : Nat) (w : World) (h : n ≠ m) :
    Calls Tryz.prog 195 #[.slice a n ca, .slice b m cb] w fun e w' => e = .returned (.tuple #[.int .i64 0, .bool false]) ∧ Below w.heap.size w w' := by
  have hmf : ∀ (fn : Fn) (first cap : Array Value) (w : World), (Instr.makeFunc fn first cap).run Tryz.prog w = .ok (.func fn first cap) w := fun _ _ _ _ => rfl
  have h0 : Below w.heap.size w (w.alloc (.cells #[.int .i64 0] 3)) := (Below.refl _ _).alloc (Nat.le_refl _) _
  go_enter Tryz.func195, Tryz.ntmps195
  go_wp2_with fail
  refine (pairs_no a b n m ca cb _ _ h).mono ?_
  rintro e w1 ⟨rfl, rfl⟩
  go_wp2
  go_ret2
  exact ⟨rfl, h0⟩

end Go.Proofs.YtokfcjgfpchffaaGreatDoor

/- What the functions of package vec and the document's answers for layer 2 do when called (third part: Add, Scale and Relu of the document). -/
namespace Go.Proofs.YtokfcjgfpchffaaGreatDoor
open Go.ChangeShapes Go.WideShapes Go.ChangeAt Go.RowKit

set_option maxRecDepth 100000 in
theorem rscale (a : Option Addr) (n ca : Nat) (k : Int) (la : List Int) (w : World) (ha : Row .i64 w a n la) (hn : n ≤ 100000) :
    Calls Tryz.prog 38 #[.slice a n ca, .int .i64 k] w fun e w' => ∃ a' c', e = .returned (.slice a' n c') ∧ Row .i64 w' a' n (Vx.scale la k) ∧ Below w.heap.size w w' := by
  obtain ⟨i0, hi, hz0, hz1, hz2⟩ := info_parts Tryz.infoInt
  have HA : Hid (la.length = n) := ha.len
  go_enter Tryz.func38, Tryz.ntmps38
  go_wp2
  go_loopw [5, 6] (fun v i wr => ∃ j : Nat, j ≤ n ∧ i = .int .i64 j ∧ wr.ownsRow w.heap.size 3 1 v j ((Vx.scale (la.take j) k).map (Value.int .i64)) ∧ Below w.heap.size w wr) (fun _ i _ => n - (intOf i).toNat)
  case atStart => exact ⟨0, Nat.zero_le _, rfl, World.ownsRow_nil _ _ _ _, Below.refl _ _⟩
  case round =>
    obtain ⟨j, hj, rfl, hown, hbel⟩ := hrel
    by_cases hlt : j < n
    · obtain ⟨b1, o1, rfl, hb1, hc1⟩ := ha.at hlt
      have hd1 : wr.cell? ⟨b1, o1 + j, none⟩ = some (.int .i64 (la.getD j 0)) := (hbel.cell (by exact hb1)).trans hc1
      have hli : (j : Int) < (n : Int) := by omega
      have HS : Hid (Vx.scale (la.take (j + 1)) k = Vx.scale (la.take j) k ++ [Fx.mul (la.getD j 0) k]) := Vx.scale_succ la k j (by have := HA.out; omega)
      clear hc1
      generalize la.getD j 0 = x at *
      go_wp2_with (first
        | (at_builtin; refine wpList_append_own _ rfl _ _ 31 rfl w.heap.size 3 i0 (.int .i64 0) 1 8 Tryz.underlying31 hi hz0 hz1 hz2 rfl (by decide) _ _ _ rfl (hown.alloc _) ⟨wr.heap.size, 0, none⟩ 1 1 [.int .i64 (Fx.mul x k)] rfl rfl ?c1 ?c2 ?c3 ?c4 ?c5 ?_)
        | (go_at_call 72; refine by_same (rmul _ _ _) ?_))
      case c1 =>
        intro j u hj
        match j, hj with
        | 0, hj => simp at hj; subst hj; simp [Addr.add]
      case c2 => intro u hu; simp at hu; subst hu; rfl
      case c3 => unfold maxLen; omega
      case c4 => omega
      case c5 => have := hbel.size; simp; omega
      intro v' w1 hown' hgrow _
      have hb' : Below w.heap.size w w1 := (hbel.alloc hbel.size _).grown hgrow (by have := hbel.size; simp; omega) (fun g hg => (hown.lt g hg).1)
      have ho' := own_snoc hown' HS.out
      clear hown' hgrow hown
      go_wp2
      go_roundw
      case rel => exact ⟨j + 1, by omega, by go_num, ho', hb'⟩
      case measure => simp [intOf]; omega
    · have hkn : j = n := by omega
      subst hkn
      have e1 : la.take j = la := List.take_of_length_le (by have := HA.out; omega)
      rw [e1] at hown
      clear e1
      obtain ⟨a', c', rfl, hcm, hrow⟩ := Row.of_owns hown
      go_wp2
      go_ret
      exact ⟨a', c', rfl, hrow, hbel⟩

set_option maxRecDepth 100000 in
theorem rrelu (a : Option Addr) (n ca : Nat) (la : List Int) (w : World) (ha : Row .i64 w a n la) (hn : n ≤ 100000) :
    Calls Tryz.prog 74 #[.slice a n ca] w fun e w' => ∃ a' c', e = .returned (.slice a' n c') ∧ Row .i64 w' a' n (Vx.relu la) ∧ Below w.heap.size w w' := by
  obtain ⟨i0, hi, hz0, hz1, hz2⟩ := info_parts Tryz.infoInt
  have HA : Hid (la.length = n) := ha.len
  go_enter Tryz.func74, Tryz.ntmps74
  go_wp2
  go_loopw [3, 4] (fun v i wr => ∃ j : Nat, j ≤ n ∧ i = .int .i64 j ∧ wr.ownsRow w.heap.size 3 1 v j ((Vx.relu (la.take j)).map (Value.int .i64)) ∧ Below w.heap.size w wr) (fun _ i _ => n - (intOf i).toNat)
  case atStart => exact ⟨0, Nat.zero_le _, rfl, World.ownsRow_nil _ _ _ _, Below.refl _ _⟩
  case round =>
    obtain ⟨j, hj, rfl, hown, hbel⟩ := hrel
    by_cases hlt : j < n
    · obtain ⟨b1, o1, rfl, hb1, hc1⟩ := ha.at hlt
      have hd1 : wr.cell? ⟨b1, o1 + j, none⟩ = some (.int .i64 (la.getD j 0)) := (hbel.cell (by exact hb1)).trans hc1
      have hli : (j : Int) < (n : Int) := by omega
      have HS : Hid (Vx.relu (la.take (j + 1)) = Vx.relu (la.take j) ++ [Vx.rel (la.getD j 0)]) := Vx.relu_succ la j (by have := HA.out; omega)
      clear hc1
      generalize la.getD j 0 = x at *
      by_cases hx : Fx.hold x < 0
      · have e : Vx.rel x = 0 := by unfold Vx.rel; rw [if_pos hx]
        rw [e] at HS; clear e
        go_wp2_with (first
          | (at_builtin; refine wpList_append_own _ rfl _ _ 31 rfl w.heap.size 3 i0 (.int .i64 0) 1 8 Tryz.underlying31 hi hz0 hz1 hz2 rfl (by decide) _ _ _ rfl (hown.alloc _) ⟨wr.heap.size, 0, none⟩ 1 1 [.int .i64 (0)] rfl rfl ?c1 ?c2 ?c3 ?c4 ?c5 ?_)
          | (go_at_call 71; refine by_same (rhold _ _) ?_))
        case c1 =>
          intro j u hj
          match j, hj with
          | 0, hj => simp at hj; subst hj; simp [Addr.add]
        case c2 => intro u hu; simp at hu; subst hu; rfl
        case c3 => unfold maxLen; omega
        case c4 => omega
        case c5 => have := hbel.size; simp; omega
        intro v' w1 hown' hgrow _
        have hb' : Below w.heap.size w w1 := (hbel.alloc hbel.size _).grown hgrow (by have := hbel.size; simp; omega) (fun g hg => (hown.lt g hg).1)
        have ho' := own_snoc hown' HS.out
        clear hown' hgrow hown
        go_wp2
        go_roundw
        case rel => exact ⟨j + 1, by omega, by go_num, ho', hb'⟩
        case measure => simp [intOf]; omega
      · have e : Vx.rel x = Fx.hold x := by unfold Vx.rel; rw [if_neg hx]
        rw [e] at HS; clear e
        go_wp2_with (first
          | (at_builtin; refine wpList_append_own _ rfl _ _ 31 rfl w.heap.size 3 i0 (.int .i64 0) 1 8 Tryz.underlying31 hi hz0 hz1 hz2 rfl (by decide) _ _ _ rfl (hown.alloc _) ⟨wr.heap.size, 0, none⟩ 1 1 [.int .i64 (Fx.hold x)] rfl rfl ?d1 ?d2 ?d3 ?d4 ?d5 ?_)
          | (go_at_call 71; refine by_same (rhold _ _) ?_))
        case d1 =>
          intro j u hj
          match j, hj with
          | 0, hj => simp at hj; subst hj; simp [Addr.add]
        case d2 => intro u hu; simp at hu; subst hu; rfl
        case d3 => unfold maxLen; omega
        case d4 => omega
        case d5 => have := hbel.size; simp; omega
        intro v' w1 hown' hgrow _
        have hb' : Below w.heap.size w w1 := (hbel.alloc hbel.size _).grown hgrow (by have := hbel.size; simp; omega) (fun g hg => (hown.lt g hg).1)
        have ho' := own_snoc hown' HS.out
        clear hown' hgrow hown
        go_wp2
        go_roundw
        case rel => exact ⟨j + 1, by omega, by go_num, ho', hb'⟩
        case measure => simp [intOf]; omega
    · have hkn : j = n := by omega
      subst hkn
      have e1 : la.take j = la := List.take_of_length_le (by have := HA.out; omega)
      rw [e1] at hown
      clear e1
      obtain ⟨a', c', rfl, hcm, hrow⟩ := Row.of_owns hown
      go_wp2
      go_ret
      exact ⟨a', c', rfl, hrow, hbel⟩

end Go.Proofs.YtokfcjgfpchffaaGreatDoor

/- What the functions of package vec and the document's answers for layer 2 do when called (fourth part: Add). -/
namespace Go.Proofs.YtokfcjgfpchffaaGreatDoor
open Go.ChangeShapes Go.WideShapes Go.ChangeAt Go.RowKit

theorem wrap_sum (x y : Int) : IntKind.i64.wrap (Fx.hold x + Fx.hold y) = Fx.hold x + Fx.hold y := by
  have := Fx.hold_lo x; have := Fx.hold_hi x; have := Fx.hold_lo y; have := Fx.hold_hi y
  rw [IntKind.wrap_i64]; omega

set_option maxRecDepth 100000 in
theorem add1 (x y : Int) (P base n : Nat) (v : Value) (l : List Int) (w : World) (hc : w.cell? ⟨P, 0, none⟩ = some v) (hf : w.frozen? ⟨P, 0, none⟩ = false)
    (hown : w.ownsRow base 3 1 v n (l.map (Value.int .i64))) (hP : P < base) (hbase : base ≤ w.heap.size) (hn : n ≤ 100000) :
    Calls Tryz.prog 158 #[.int .i64 x, .int .i64 y, .pointer (some ⟨P, 0, none⟩)] w fun e w' =>
      e = .returned (.tuple #[]) ∧ ∃ v', w'.cell? ⟨P, 0, none⟩ = some v' ∧ w'.frozen? ⟨P, 0, none⟩ = false ∧ w'.ownsRow base 3 1 v' (n + 1) ((l ++ [Fx.add x y]).map (Value.int .i64)) ∧ Below P w w' := by
  obtain ⟨i0, hi, hz0, hz1, hz2⟩ := info_parts Tryz.infoInt
  have hne : some P ≠ v.ownBlock := fun h => by have := (hown.lt P h.symm).1; omega
  have hlt := World.block_lt_of_cell? w _ hc
  have hnew := World.new_ne w _ hc
  go_enter Tryz.func158, Tryz.ntmps158
  go_wp2
  go_region_law
    (first
      | (refine step_append_lies _ (by rfl) _ _ _ (by rfl) base 3 i0 _ 1 8 Tryz.underlying31 hi hz0 hz1 hz2 rfl (by omega) _ _ _ (by rfl) ((hown.alloc _).drew) ⟨w.heap.size, 0, none⟩ 1 1 [.int .i64 (Fx.add x y)] (by rfl) (by rfl) (World.news_of_block (cs := #[.int .i64 (Fx.add x y)]) (t := 3) (fr := (0, 0)) (heap_alloc_new w _)) (by simp [Value.oneCell']) (by omega) (by unfold maxLen; omega) (by omega) (by simp; omega) (w.heap.size + 1) (by simp) ?_; intro gg cap w1 hown1 hgrow hat hlt1; have hfw : w1.frozen? ⟨P, 0, none⟩ = false := (hgrow.frozen_far _ (by simp; omega) hne).trans ((World.frozen?_alloc_past _ _ _ hlt).trans hf); have hcw : w1.cell? ⟨P, 0, none⟩ = some v := (hgrow.cell_far _ (by simp; omega) hne).trans ((World.cell?_alloc_past _ _ _ hlt).trans hc))
      | (go_simp; go_wp2_with (go_at_call 159; refine by_same (fadd _ _ _) ?_)))
  all_goals go_end0
  all_goals
    refine ⟨rfl, .slice (some ⟨gg, 0, none⟩) (n + 1) cap, World.cell?_setCell_same _ _ _ hcw, (World.frozen?_setCell _ _ _ _).trans hfw, ?_, ?_⟩
    · rw [List.map_append]
      exact ownsRow_setCell_below hown1 (by exact hP) _
    · exact (((Below.refl P w).alloc (by omega) _).drew.grown hgrow (by simp; omega) (fun g hg => by have := (hown.lt g hg).1; omega)).setCell (Nat.le_refl _) _

set_option maxRecDepth 100000 in
theorem pairs_add (a b : Option Addr) (n ca cb : Nat) (la lb : List Int) (w0 w : World) (P : Nat) (ha : Row .i64 w0 a n la) (hb : Row .i64 w0 b n lb) (hn : n ≤ 100000)
    (h0 : Below w0.heap.size w0 w) (hP : w0.heap.size ≤ P) (hPw : P + 1 ≤ w.heap.size) (hc : w.cell? ⟨P, 0, none⟩ = some (.slice none 0 0)) (hf : w.frozen? ⟨P, 0, none⟩ = false) :
    Calls Tryz.prog 157 #[.slice a n ca, .slice b n cb, .func (.func 158) #[] #[.pointer (some ⟨P, 0, none⟩)]] w fun e w' =>
      e = .returned (.bool true) ∧ Below w0.heap.size w0 w' ∧ ∃ v, w'.cell? ⟨P, 0, none⟩ = some v ∧ w'.ownsRow (P + 1) 3 1 v n ((Vx.add la lb).map (Value.int .i64)) := by
  have hal := ha.len; have hbl := hb.len
  have HA : Hid (la.length = n) := hal; have HB : Hid (lb.length = n) := hbl
  clear hal hbl
  have e0 : ((n : Int) != (n : Int)) = false := by simp
  go_enter Tryz.func157, Tryz.ntmps157
  go_wp2
  go_loopw [16] (fun i wr => ∃ k : Nat, k ≤ n ∧ i = .int .i64 k ∧ Below w0.heap.size w0 wr ∧ P + 1 ≤ wr.heap.size ∧ wr.frozen? ⟨P, 0, none⟩ = false ∧
      ∃ v, wr.cell? ⟨P, 0, none⟩ = some v ∧ wr.ownsRow (P + 1) 3 1 v k ((Vx.add (la.take k) (lb.take k)).map (Value.int .i64))) (fun i _ => n - (intOf i).toNat)
  case atStart => exact ⟨0, Nat.zero_le _, rfl, h0, hPw, hf, _, hc, World.ownsRow_nil _ _ _ _⟩
  case round =>
    obtain ⟨k, hk, rfl, hbel, hPr, hfr, v, hcr, hown⟩ := hrel
    by_cases hlt : k < n
    · obtain ⟨b1, o1, rfl, hb1, hc1⟩ := ha.at hlt
      obtain ⟨b2, o2, rfl, hb2, hc2⟩ := hb.at hlt
      have hd1 : wr.cell? ⟨b1, o1 + k, none⟩ = some (.int .i64 (la.getD k 0)) := (hbel.cell (by exact hb1)).trans hc1
      have hd2 : wr.cell? ⟨b2, o2 + k, none⟩ = some (.int .i64 (lb.getD k 0)) := (hbel.cell (by exact hb2)).trans hc2
      have hli : (k : Int) < (n : Int) := by omega
      have HS : Hid (Vx.add (la.take (k + 1)) (lb.take (k + 1)) = Vx.add (la.take k) (lb.take k) ++ [Fx.add (la.getD k 0) (lb.getD k 0)]) := Vx.add_succ la lb k (by have := HA.out; omega) (by have := HB.out; omega)
      clear hc1 hc2
      generalize la.getD k 0 = x at *
      generalize lb.getD k 0 = y at *
      go_wp2_with (go_at_call 158; refine (add1 x y P (P + 1) k v (Vx.add (la.take k) (lb.take k)) _ hcr hfr hown (by omega) hPr (by omega)).mono ?_; rintro e w' ⟨rfl, v', hcv, hfv, hov, hbv⟩)
      go_roundw
      case rel => exact ⟨k + 1, by omega, by go_num, hbel.trans (hbv.mono hP), by have := hbv.size; omega, hfv, v', hcv, by rw [HS.out]; exact hov⟩
      case measure => simp [intOf]; omega
    · have hkn : k = n := by omega
      subst hkn
      have e1 : la.take k = la := List.take_of_length_le (by have := HA.out; omega)
      have e2 : lb.take k = lb := List.take_of_length_le (by have := HB.out; omega)
      rw [e1, e2] at hown
      clear e1 e2
      go_wp2
      go_ret
      exact ⟨rfl, hbel, v, hcr, hown⟩

set_option maxRecDepth 100000 in
theorem vadd_no (a b : Option Addr) (n m ca cb : Nat) (w : World) (h : n ≠ m) :
    Calls Tryz.prog 124 #[.slice a n ca, .slice b m cb] w fun e w' => e = .returned (.tuple #[.slice none 0 0, .bool false]) ∧ Below w.heap.size w w' := by
  have hmf : ∀ (fn : Fn) (first cap : Array Value) (w : World), (Instr.makeFunc fn first cap).run Tryz.prog w = .ok (.func fn first cap) w := fun _ _ _ _ => rfl
  have h0 : Below w.heap.size w (w.alloc (.cells #[.slice none 0 0] 31)) := (Below.refl _ _).alloc (Nat.le_refl _) _
  go_enter Tryz.func124, Tryz.ntmps124
  go_wp2_with fail
  refine (pairs_no a b n m ca cb _ _ h).mono ?_
  rintro e w1 ⟨rfl, rfl⟩
  go_wp2
  go_ret2
  exact ⟨rfl, h0⟩

end Go.Proofs.YtokfcjgfpchffaaGreatDoor

/- What the functions of package vec do when called (fifth part: Scale and Relu), and the laws' fixed answer. -/
namespace Go.Proofs.YtokfcjgfpchffaaGreatDoor
open Go.ChangeShapes Go.WideShapes Go.ChangeAt Go.RowKit

set_option maxRecDepth 100000 in
theorem each_scale (a : Option Addr) (n ca : Nat) (c : Int) (P : Nat) (la : List Int) (w : World) (ha : Row .i64 w a n la) (hn : n ≤ 100000) (hc : w.cell? ⟨P, 0, none⟩ = some (.int .i64 c)) :
    Calls Tryz.prog 160 #[.slice a n ca, .func (.func 161) #[] #[.pointer (some ⟨P, 0, none⟩)]] w fun e w' => ∃ a' c', e = .returned (.slice a' n c') ∧ Row .i64 w' a' n (Vx.scale la c) ∧ Below w.heap.size w w' := by
  obtain ⟨i0, hi, hz0, hz1, hz2⟩ := info_parts Tryz.infoInt
  have HA : Hid (la.length = n) := ha.len
  go_enter Tryz.func160, Tryz.ntmps160
  go_wp2_with (at_make; refine wpList_make_full _ rfl _ _ 31 rfl w.heap.size 3 i0 (.int .i64 0) 1 Tryz.underlying31 hi hz0 hz1 _ _ _ _ n rfl rfl (by rfl) (by rfl) ?b2 ?b3 (Nat.le_refl _) ?_)
  case b2 => rw [hz2]; omega
  case b3 => unfold maxLen; omega
  intro w1 hown hgrow
  have hb1 : Below w.heap.size w w1 := (Below.refl _ _).grown hgrow (Nat.le_refl _) (fun _ h => by cases h)
  have hown1 : w1.ownsRow w.heap.size 3 1 (.slice (some ⟨w.heap.size, 0, none⟩) n n) n ((fill (Vx.scale (la.take 0) c) n).map (Value.int .i64)) := by
    have h := hown
    rw [fill_zero] at h
    exact h
  clear hown hgrow
  go_wp2
  go_loopw [13] (fun i wr => ∃ k : Nat, k ≤ n ∧ i = .int .i64 k ∧ wr.ownsRow w.heap.size 3 1 (.slice (some ⟨w.heap.size, 0, none⟩) n n) n ((fill (Vx.scale (la.take k) c) n).map (Value.int .i64)) ∧ Below w.heap.size w wr) (fun i _ => n - (intOf i).toNat)
  case atStart => exact ⟨0, Nat.zero_le _, rfl, hown1, hb1⟩
  case round =>
    clear hown1 hb1
    obtain ⟨k, hk, rfl, hown, hbel⟩ := hrel
    by_cases hlt : k < n
    · obtain ⟨b1, o1, rfl, hb1, hc1⟩ := ha.at hlt
      have hd1 : wr.cell? ⟨b1, o1 + k, none⟩ = some (.int .i64 (la.getD k 0)) := (hbel.cell (by exact hb1)).trans hc1
      have hli : (k : Int) < (n : Int) := by omega
      have hdl : (Vx.scale (la.take k) c).length = k := by rw [Vx.scale_length]; simp; have := HA.out; omega
      obtain ⟨z, hz⟩ := fill_get (Vx.scale (la.take k) c) n k hlt (by omega)
      have hce : wr.cell? ⟨w.heap.size, k, none⟩ = some (.int .i64 z) := (hown.cellAt k (by omega)).trans hz
      have hfe : wr.frozen? ⟨w.heap.size, k, none⟩ = false := hown.frozenAt k
      have HS : Hid ((((fill (Vx.scale (la.take k) c) n).map (Value.int .i64)).set k (.int .i64 (Fx.mul (la.getD k 0) c))) = (fill (Vx.scale (la.take (k + 1)) c) n).map (Value.int .i64)) := by
        show _ = _
        rw [Vx.scale_succ la c k (by have := HA.out; omega), ← fill_set _ _ _ (by omega), hdl, List.map_set]
      clear hc1 hz hdl
      generalize la.getD k 0 = x at *
      go_wp2_with (go_at_call 161; refine by_same (scale1 x c P _ ((hbel.cell (World.block_lt_of_cell? w _ hc)).trans hc)) ?_)
      have hst := hown.stored k (.int .i64 (Fx.mul x c))
      rw [HS.out] at hst
      clear hown hce hfe
      go_roundw
      case rel => exact ⟨k + 1, by omega, by go_num, hst.1, hbel.setCell (Nat.le_refl _) _⟩
      case measure => simp [intOf]; omega
    · have hkn : k = n := by omega
      subst hkn
      have e1 : la.take k = la := List.take_of_length_le (by have := HA.out; omega)
      rw [e1, fill_full _ _ (by rw [Vx.scale_length]; exact HA.out)] at hown
      clear e1
      obtain ⟨a', c', hv, hcm, hrow⟩ := Row.of_owns hown
      cases hv
      clear hown
      go_wp2
      go_ret
      exact ⟨_, _, rfl, hrow, hbel⟩

set_option maxRecDepth 100000 in
theorem each_relu (a : Option Addr) (n ca : Nat) (la : List Int) (w : World) (ha : Row .i64 w a n la) (hn : n ≤ 100000) :
    Calls Tryz.prog 160 #[.slice a n ca, .func (.func 201) #[] #[]] w fun e w' => ∃ a' c', e = .returned (.slice a' n c') ∧ Row .i64 w' a' n (Vx.relu la) ∧ Below w.heap.size w w' := by
  obtain ⟨i0, hi, hz0, hz1, hz2⟩ := info_parts Tryz.infoInt
  have HA : Hid (la.length = n) := ha.len
  go_enter Tryz.func160, Tryz.ntmps160
  go_wp2_with (at_make; refine wpList_make_full _ rfl _ _ 31 rfl w.heap.size 3 i0 (.int .i64 0) 1 Tryz.underlying31 hi hz0 hz1 _ _ _ _ n rfl rfl (by rfl) (by rfl) ?b2 ?b3 (Nat.le_refl _) ?_)
  case b2 => rw [hz2]; omega
  case b3 => unfold maxLen; omega
  intro w1 hown hgrow
  have hb1 : Below w.heap.size w w1 := (Below.refl _ _).grown hgrow (Nat.le_refl _) (fun _ h => by cases h)
  have hown1 : w1.ownsRow w.heap.size 3 1 (.slice (some ⟨w.heap.size, 0, none⟩) n n) n ((fill (Vx.relu (la.take 0)) n).map (Value.int .i64)) := by
    have h := hown
    rw [fill_zero] at h
    exact h
  clear hown hgrow
  go_wp2
  go_loopw [13] (fun i wr => ∃ k : Nat, k ≤ n ∧ i = .int .i64 k ∧ wr.ownsRow w.heap.size 3 1 (.slice (some ⟨w.heap.size, 0, none⟩) n n) n ((fill (Vx.relu (la.take k)) n).map (Value.int .i64)) ∧ Below w.heap.size w wr) (fun i _ => n - (intOf i).toNat)
  case atStart => exact ⟨0, Nat.zero_le _, rfl, hown1, hb1⟩
  case round =>
    clear hown1 hb1
    obtain ⟨k, hk, rfl, hown, hbel⟩ := hrel
    by_cases hlt : k < n
    · obtain ⟨b1, o1, rfl, hb1, hc1⟩ := ha.at hlt
      have hd1 : wr.cell? ⟨b1, o1 + k, none⟩ = some (.int .i64 (la.getD k 0)) := (hbel.cell (by exact hb1)).trans hc1
      have hli : (k : Int) < (n : Int) := by omega
      have hdl : (Vx.relu (la.take k)).length = k := by rw [Vx.relu_length]; simp; have := HA.out; omega
      obtain ⟨z, hz⟩ := fill_get (Vx.relu (la.take k)) n k hlt (by omega)
      have hce : wr.cell? ⟨w.heap.size, k, none⟩ = some (.int .i64 z) := (hown.cellAt k (by omega)).trans hz
      have hfe : wr.frozen? ⟨w.heap.size, k, none⟩ = false := hown.frozenAt k
      have HS : Hid ((((fill (Vx.relu (la.take k)) n).map (Value.int .i64)).set k (.int .i64 (Vx.rel (la.getD k 0)))) = (fill (Vx.relu (la.take (k + 1))) n).map (Value.int .i64)) := by
        show _ = _
        rw [Vx.relu_succ la k (by have := HA.out; omega), ← fill_set _ _ _ (by omega), hdl, List.map_set]
      clear hc1 hz hdl
      generalize la.getD k 0 = x at *
      go_wp2_with (go_at_call 201; refine by_same (relu1 x _) ?_)
      have hst := hown.stored k (.int .i64 (Vx.rel x))
      rw [HS.out] at hst
      clear hown hce hfe
      go_roundw
      case rel => exact ⟨k + 1, by omega, by go_num, hst.1, hbel.setCell (Nat.le_refl _) _⟩
      case measure => simp [intOf]; omega
    · have hkn : k = n := by omega
      subst hkn
      have e1 : la.take k = la := List.take_of_length_le (by have := HA.out; omega)
      rw [e1, fill_full _ _ (by rw [Vx.relu_length]; exact HA.out)] at hown
      clear e1
      obtain ⟨a', c', hv, hcm, hrow⟩ := Row.of_owns hown
      cases hv
      clear hown
      go_wp2
      go_ret
      exact ⟨_, _, rfl, hrow, hbel⟩

set_option maxRecDepth 100000 in
theorem vscale (a : Option Addr) (n ca : Nat) (k : Int) (la : List Int) (w : World) (ha : Row .i64 w a n la) (hn : n ≤ 100000) :
    Calls Tryz.prog 125 #[.slice a n ca, .int .i64 k] w fun e w' => ∃ a' c', e = .returned (.slice a' n c') ∧ Row .i64 w' a' n (Vx.scale la k) ∧ Below w.heap.size w w' := by
  have hmf : ∀ (fn : Fn) (first cap : Array Value) (w : World), (Instr.makeFunc fn first cap).run Tryz.prog w = .ok (.func fn first cap) w := fun _ _ _ _ => rfl
  have h0 : Below w.heap.size w (w.alloc (.cells #[.int .i64 k] 3)) := (Below.refl _ _).alloc (Nat.le_refl _) _
  have hc : (w.alloc (.cells #[.int .i64 k] 3)).cell? ⟨w.heap.size, 0, none⟩ = some (.int .i64 k) := by
    rw [World.cell?_alloc_at _ _ _ _ rfl]; rfl
  go_enter Tryz.func125, Tryz.ntmps125
  go_wp2_with fail
  refine (each_scale a n ca k w.heap.size la (w.alloc (.cells #[.int .i64 k] 3)) (ha.keep h0) hn hc).mono ?_
  rintro e w1 ⟨a', c', rfl, hrow, hb1⟩
  go_wp2
  go_ret
  exact ⟨a', c', rfl, hrow, h0.trans (hb1.mono (by simp))⟩

set_option maxRecDepth 100000 in
theorem vrelu (a : Option Addr) (n ca : Nat) (la : List Int) (w : World) (ha : Row .i64 w a n la) (hn : n ≤ 100000) :
    Calls Tryz.prog 186 #[.slice a n ca] w fun e w' => ∃ a' c', e = .returned (.slice a' n c') ∧ Row .i64 w' a' n (Vx.relu la) ∧ Below w.heap.size w w' := by
  go_enter Tryz.func186, Tryz.ntmps186
  go_wp2_with fail
  refine (each_relu a n ca la w ha hn).mono ?_
  rintro e w1 ⟨a', c', rfl, hrow, hb1⟩
  go_wp2
  go_ret
  exact ⟨a', c', rfl, hrow, hb1⟩

end Go.Proofs.YtokfcjgfpchffaaGreatDoor

/- The fixed answer of the laws of layer 2. -/
namespace Go.Proofs.YtokfcjgfpchffaaGreatDoor
open Go.ChangeShapes Go.WideShapes Go.ChangeAt Go.RowKit

end Go.Proofs.YtokfcjgfpchffaaGreatDoor
