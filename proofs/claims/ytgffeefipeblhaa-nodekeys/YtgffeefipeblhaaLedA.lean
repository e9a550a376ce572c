/- What ledger's place, the library's IndexFunc beneath it and the document's Find do when called. -/
import Derived.Test.YtgffeefipeblhaaJa
import Derived.Test.YtgffeefipeblhaaClone
import Derived.Test.YtgffeefipeblhaaVecA
import Derived.Laws.StructEq
namespace Go.Proofs.Ytgffeefipeblhaa
open Go.ChangeShapes Go.WideShapes Go.ChangeAt Go.RowKit

theorem Try.infoEntry : (Try.prog.info? 39).map (fun i => (i.zero, i.size, i.bytes)) = some (some (.agg #[.int .i64 0, .int .i64 0, .int .i64 0, .int .i64 0, .slice none 0 0]), 5, 56) := by kernel_rfl
theorem Try.infoRentry : (Try.prog.info? 42).map (fun i => (i.zero, i.size, i.bytes)) = some (some (.agg #[.int .i64 0, .int .i64 0, .int .i64 0, .int .i64 0, .slice none 0 0]), 5, 56) := by kernel_rfl

/-! ### '==' of keys -/
theorem key_bool {b : Bool} {p q r s p' q' r' s' : Int} (hb : b = true ↔ ky p q r s = ky p' q' r' s') : b = (p == p' && (q == q' && (r == r' && s == s'))) := by
  rw [ky_eq] at hb
  rw [Bool.eq_iff_iff, hb]
  simp
theorem eqKeyIn {b : Bool} {p q r s p' q' r' s' : Int} (hb : b = true ↔ ky p q r s = ky p' q' r' s') (w : World) : (Op.equalIn 10000 37 (.agg #[.int .i64 p, .int .i64 q, .int .i64 r, .int .i64 s]) (.agg #[.int .i64 p', .int .i64 q', .int .i64 r', .int .i64 s'])).run Try.prog w = .ok b w := by
  rw [key_bool hb]
  have u3 := Try.underlying3
  have a3 := Try.isAgg3
  have z3 := Try.sizeOf3
  have hS : Try.prog.underlying 37 = some (.struct (Try.prog.fieldsOf 37)) := by kernel_rfl
  have hp : Try.prog.stoodInHeld 37 = false := by kernel_rfl
  rw [show (10000 : Nat) = 9999 + 1 from rfl, run_equalIn_agg w 9999 37 _ _ hS hp]
  simp only [Program.fieldsOf, Try.underlying37]
  go_simp
  by_cases h1 : p = p' <;> by_cases h2 : q = q' <;> by_cases h3 : r = r' <;> by_cases h4 : s = s' <;> simp [h1, h2, h3, h4]
theorem eqKey {b : Bool} {p q r s p' q' r' s' : Int} (hb : b = true ↔ ky p q r s = ky p' q' r' s') (w : World) : (binOp .eql 37 (.agg #[.int .i64 p, .int .i64 q, .int .i64 r, .int .i64 s]) (.agg #[.int .i64 p', .int .i64 q', .int .i64 r', .int .i64 s'])).run Try.prog w = .ok (.bool b) w := by
  rw [run_eql_struct, eqKeyIn hb]
  rfl
theorem neqKey (p q r s : Int) (w : World) : (binOp .neq 37 (.agg #[.int .i64 p, .int .i64 q, .int .i64 r, .int .i64 s]) (.agg #[.int .i64 p, .int .i64 q, .int .i64 r, .int .i64 s])).run Try.prog w = .ok (.bool false) w := by
  rw [run_neq_struct, eqKeyIn (b := true) (by simp)]
  rfl
theorem reqKeyIn {b : Bool} {p q r s p' q' r' s' : Int} (hb : b = true ↔ ky p q r s = ky p' q' r' s') (w : World) : (Op.equalIn 10000 40 (.agg #[.int .i64 p, .int .i64 q, .int .i64 r, .int .i64 s]) (.agg #[.int .i64 p', .int .i64 q', .int .i64 r', .int .i64 s'])).run Try.prog w = .ok b w := by
  rw [key_bool hb]
  have u3 := Try.underlying3
  have a3 := Try.isAgg3
  have z3 := Try.sizeOf3
  have hS : Try.prog.underlying 40 = some (.struct (Try.prog.fieldsOf 40)) := by kernel_rfl
  have hp : Try.prog.stoodInHeld 40 = false := by kernel_rfl
  rw [show (10000 : Nat) = 9999 + 1 from rfl, run_equalIn_agg w 9999 40 _ _ hS hp]
  simp only [Program.fieldsOf, Try.underlying40]
  go_simp
  by_cases h1 : p = p' <;> by_cases h2 : q = q' <;> by_cases h3 : r = r' <;> by_cases h4 : s = s' <;> simp [h1, h2, h3, h4]
theorem reqKey {b : Bool} {p q r s p' q' r' s' : Int} (hb : b = true ↔ ky p q r s = ky p' q' r' s') (w : World) : (binOp .eql 40 (.agg #[.int .i64 p, .int .i64 q, .int .i64 r, .int .i64 s]) (.agg #[.int .i64 p', .int .i64 q', .int .i64 r', .int .i64 s'])).run Try.prog w = .ok (.bool b) w := by
  rw [run_eql_struct, reqKeyIn hb]
  rfl

/-! ### The closure, IndexFunc, place -/
set_option maxRecDepth 100000 in
set_option maxHeartbeats 1000000 in
theorem isplace (p q r s p' q' r' s' : Int) (A : Option Addr) (nv C B : Nat) (b : Bool) (hb : b = true ↔ ky p q r s = ky p' q' r' s') (w : World) (hB : Box w B 37 #[.int .i64 p', .int .i64 q', .int .i64 r', .int .i64 s']) :
    Calls Try.prog 61 #[.agg #[.int .i64 p, .int .i64 q, .int .i64 r, .int .i64 s, .slice A nv C], .pointer (some ⟨B, 0, none⟩)] w fun e w' => e = .returned (.bool b) ∧ Below w.heap.size w w' := by
  have c0 : ∀ o, (w.alloc o).cell? ⟨B, 0, none⟩ = some (.int .i64 p') := fun o => (hB.keep (new_bel w o)).cell 0 rfl
  have c1 : ∀ o, (w.alloc o).cell? ⟨B, 1, none⟩ = some (.int .i64 q') := fun o => (hB.keep (new_bel w o)).cell 1 rfl
  have c2 : ∀ o, (w.alloc o).cell? ⟨B, 2, none⟩ = some (.int .i64 r') := fun o => (hB.keep (new_bel w o)).cell 2 rfl
  have c3 : ∀ o, (w.alloc o).cell? ⟨B, 3, none⟩ = some (.int .i64 s') := fun o => (hB.keep (new_bel w o)).cell 3 rfl
  have e1 := eqKey hb
  have e2 := eqKeyIn hb
  clear hb hB
  go_enter Try.func61, Try.ntmps61
  go_wp2
  go_ret
  exact ⟨rfl, new_bel _ _⟩

set_option maxRecDepth 100000 in
set_option maxHeartbeats 1000000 in
theorem lindex (a : Option Addr) (n c : Nat) (l : List En) (p' q' r' s' : Int) (B : Nat) (x : Int) (w : World) (h : ensS.rep w everywhere [.slice a n c] l) (hn : n ≤ 1000) (hB : Box w B 37 #[.int .i64 p', .int .i64 q', .int .i64 r', .int .i64 s']) (hx : Dx.At l (ky p' q' r' s') x) :
    Calls Try.prog 60 #[.slice a n c, .func (.func 61) #[] #[.pointer (some ⟨B, 0, none⟩)]] w fun e w' => e = .returned (.int .i64 x) ∧ Below w.heap.size w w' := by
  have hA := Shape.low h
  have hlB : B < w.heap.size := hB.lt
  have HL : Hid (l.length = n) := (sliceS_len h).1
  have HX : Hid (Dx.At l (ky p' q' r' s') x) := hx
  have HB : Hid (Box w B 37 #[.int .i64 p', .int .i64 q', .int .i64 r', .int .i64 s']) := hB
  clear h hx hB
  go_enter Try.func60, Try.ntmps60
  go_wp2
  go_loopw [8] (fun i wr => ∃ k : Nat, k ≤ n ∧ i = .int .i64 k ∧ (∀ j, j < k → (l.getD j en0).1 ≠ ky p' q' r' s') ∧ Below w.heap.size w wr) (fun i _ => n - (intOf i).toNat)
  case atStart => exact ⟨0, Nat.zero_le _, rfl, fun j hj => by omega, Below.refl _ _⟩
  case round =>
    obtain ⟨k, hk, rfl, hno, hbel⟩ := hrel
    have HN : Hid (∀ j, j < k → (l.getD j en0).1 ≠ ky p' q' r' s') := hno
    clear hno
    by_cases hlt : k < n
    · obtain ⟨b1, o1, p, q, r, s, v, nv, A, C, rfl, hb1, hb2, hE, hnv, hrow, c0, c1, c2, c3, c4⟩ := en_at (Shape.now hA hbel) hlt
      have hli : (k : Int) < (n : Int) := by omega
      have HE : Hid (l.getD k en0 = en (ky p q r s) v) := hE
      obtain ⟨b, hb⟩ : ∃ b : Bool, b = true ↔ ky p q r s = ky p' q' r' s' := ⟨decide (ky p q r s = ky p' q' r' s'), by simp⟩
      have hcall := isplace p q r s p' q' r' s' A nv C B b hb wr (HB.out.below hbel hlB)
      have HQ : Hid (b = true ↔ ky p q r s = ky p' q' r' s') := hb
      clear hE hb hnv hrow
      cases b
      · go_wp2_with (go_at_call 61; refine hcall.mono ?_; rintro e u1 ⟨rfl, hb3⟩)
        go_roundw
        case rel =>
          refine ⟨k + 1, by omega, by go_num, fun j hj => ?_, bel_then hbel hb3⟩
          by_cases e : j = k
          · subst e
            rw [HE.out]
            intro h7
            have h8 := HQ.out.2 h7
            cases h8
          · exact HN.out j (by omega)
        case measure => simp [intOf]; omega
      · go_wp2_with (go_at_call 61; refine hcall.mono ?_; rintro e u1 ⟨rfl, hb3⟩)
        go_ret
        refine ⟨ret_int ?_, bel_then hbel hb3⟩
        have hf : Dx.First l (ky p' q' r' s') k := ⟨by rw [HL.out]; exact hlt, by rw [HE.out]; exact HQ.out.1 (by trivial), HN.out⟩
        rcases HX.out with ⟨_, h7⟩ | ⟨i, rfl, h7⟩
        · exact absurd h7 hf.not_no
        · rw [Dx.first_one hf h7]
    · have hkn : k = n := by omega
      subst hkn
      have hli : ¬ (k : Int) < (k : Int) := by omega
      go_wp2
      go_ret
      refine ⟨ret_int ?_, hbel⟩
      rcases HX.out with ⟨h7, _⟩ | ⟨i, _, h7⟩
      · exact h7.symm
      · exact absurd h7.2.1 (HN.out i (by rw [← HL.out]; exact h7.1))

set_option maxRecDepth 100000 in
theorem lplace (a : Option Addr) (n c : Nat) (l : List En) (p q r s : Int) (x : Int) (w : World) (h : ensS.rep w everywhere [.slice a n c] l) (hn : n ≤ 1000) (hx : Dx.At l (ky p q r s) x) :
    Calls Try.prog 52 #[.slice a n c, .agg #[.int .i64 p, .int .i64 q, .int .i64 r, .int .i64 s]] w fun e w' => e = .returned (.int .i64 x) ∧ Below w.heap.size w w' := by
  have hb := new_bel w (.cells #[.int .i64 p, .int .i64 q, .int .i64 r, .int .i64 s] 37)
  have hc : Hid (Calls _ _ _ _ _) := lindex a n c l p q r s w.heap.size x _ (Shape.below h hb) hn (Box.new w 37 #[.int .i64 p, .int .i64 q, .int .i64 r, .int .i64 s]) hx
  clear h hx
  go_enter Try.func52, Try.ntmps52
  go_wp2_with (go_at_call 60; refine hc.out.mono ?_; rintro e u1 ⟨rfl, hb1⟩)
  go_ret
  exact ⟨rfl, bel_then hb hb1⟩

/-! ### The document's Find -/
set_option maxRecDepth 100000 in
set_option maxHeartbeats 1000000 in
theorem rlfind (a : Option Addr) (n c : Nat) (l : List En) (p' q' r' s' : Int) (x : Int) (w : World) (h : ensS.rep w everywhere [.slice a n c] l) (hn : n ≤ 1000) (hx : Dx.At l (ky p' q' r' s') x) :
    Calls Try.prog 29 #[.slice a n c, .agg #[.int .i64 p', .int .i64 q', .int .i64 r', .int .i64 s']] w fun e w' => e = .returned (.int .i64 x) ∧ Below w.heap.size w w' := by
  have hA := Shape.low h
  have HL : Hid (l.length = n) := (sliceS_len h).1
  have HX : Hid (Dx.At l (ky p' q' r' s') x) := hx
  have HB : Hid (Box (w.alloc (.cells #[.int .i64 p', .int .i64 q', .int .i64 r', .int .i64 s'] 40)) w.heap.size 40 #[.int .i64 p', .int .i64 q', .int .i64 r', .int .i64 s']) := Box.new _ _ _
  clear h hx
  go_enter Try.func29, Try.ntmps29
  go_wp2
  go_loopw [5] (fun i wr => ∃ k : Nat, k ≤ n ∧ i = .int .i64 k ∧ (∀ j, j < k → (l.getD j en0).1 ≠ ky p' q' r' s') ∧ Box wr w.heap.size 40 #[.int .i64 p', .int .i64 q', .int .i64 r', .int .i64 s'] ∧ Below w.heap.size w wr) (fun i _ => n - (intOf i).toNat)
  case atStart => exact ⟨0, Nat.zero_le _, rfl, fun j hj => by omega, HB.out, new_bel _ _⟩
  case round =>
    clear HB
    obtain ⟨k, hk, rfl, hno, hbox, hbel⟩ := hrel
    have HN : Hid (∀ j, j < k → (l.getD j en0).1 ≠ ky p' q' r' s') := hno
    clear hno
    by_cases hlt : k < n
    · obtain ⟨b1, o1, p, q, r, s, v, nv, A, C, rfl, hb1, hb2, hE, hnv, hrow, c0, c1, c2, c3, c4⟩ := en_at (Shape.now hA hbel) hlt
      have d0 := hbox.cell 0 rfl
      have d1 := hbox.cell 1 rfl
      have d2 := hbox.cell 2 rfl
      have d3 := hbox.cell 3 rfl
      have hli : (k : Int) < (n : Int) := by omega
      have hk0 : (0 : Int) ≤ (k : Int) := by omega
      have HE : Hid (l.getD k en0 = en (ky p q r s) v) := hE
      obtain ⟨b, hb⟩ : ∃ b : Bool, b = true ↔ ky p q r s = ky p' q' r' s' := ⟨decide (ky p q r s = ky p' q' r' s'), by simp⟩
      have e1 := reqKey hb
      have e2 := reqKeyIn hb
      have HQ : Hid (b = true ↔ ky p q r s = ky p' q' r' s') := hb
      clear hE hb hnv hrow
      cases b
      · go_wp2
        go_quiet (fail)
        go_wp2
        go_roundw
        case rel =>
          refine ⟨k + 1, by omega, by go_num, fun j hj => ?_, hbox, bel_drewN hbel _⟩
          by_cases e : j = k
          · subst e
            rw [HE.out]
            intro h7
            have h8 := HQ.out.2 h7
            cases h8
          · exact HN.out j (by omega)
        case measure => simp [intOf]; omega
      · go_wp2
        go_quiet (fail)
        go_wp2
        go_ret
        refine ⟨ret_int ?_, bel_drewN hbel _⟩
        have hf : Dx.First l (ky p' q' r' s') k := ⟨by rw [HL.out]; exact hlt, by rw [HE.out]; exact HQ.out.1 (by trivial), HN.out⟩
        rcases HX.out with ⟨_, h7⟩ | ⟨i, rfl, h7⟩
        · exact absurd h7 hf.not_no
        · rw [Dx.first_one hf h7]
    · have hkn : k = n := by omega
      subst hkn
      have hli : ¬ (k : Int) < (k : Int) := by omega
      go_wp2
      go_ret
      refine ⟨ret_int ?_, hbel⟩
      rcases HX.out with ⟨h7, _⟩ | ⟨i, _, h7⟩
      · exact h7.symm
      · exact absurd h7.2.1 (HN.out i (by rw [← HL.out]; exact h7.1))

end Go.Proofs.Ytgffeefipeblhaa
