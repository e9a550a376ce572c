/- What the closures of package fleet, and slices.IndexFunc and slices.ContainsFunc over them, do when called; isDone, isAnswered, hasAll. -/
import Derived.Test.YtokfcjgfpchffaaGreatDoorKf
import Derived.Test.YtokfcjgfpchffaaGreatDoorMdlB
import Derived.Test.YtokfcjgfpchffaaGreatDoorKe
namespace Go.Proofs.YtokfcjgfpchffaaGreatDoor
open Go.ChangeShapes Go.WideShapes Go.ChangeAt Go.RowKit


/-! ### Is there an answer that is none? -/
set_option maxRecDepth 100000 in
theorem fnil (A : Option Addr) (N C : Nat) (w : World) : Calls Tryz.prog 123 #[.slice A N C] w fun e w' => e = .returned (.bool A.isNone) ∧ w' = w := by
  have q22 : ∀ (w : World) (a : Option Addr) (n c n' c' : Nat), (binOp .eql 31 (.slice a n c) (.slice none n' c')).run Tryz.prog w = .ok (.bool a.isNone) w := fun w a n c n' c' => Lib.run_eql_slice_nil w _ _ a n c n' c' Tryz.underlying31
  go_enter Tryz.func123, Tryz.ntmps123
  go_wp2
  go_ret
  exact ⟨rfl, rfl⟩
set_option maxRecDepth 100000 in
theorem fidxnil (a : Option Addr) (n c : Nat) (l : List (Option (List Int))) (w : World) (h : (sliceS ansS).rep w everywhere [.slice a n c] l) (hn : n ≤ 1000) :
    Calls Tryz.prog 156 #[.slice a n c, .func (.func 123) #[] #[]] w fun e w' =>
      (((∀ j, j < n → l.getD j (some []) ≠ none) ∧ e = .returned (.int .i64 (-1))) ∨ ∃ k, k < n ∧ l.getD k (some []) = none ∧ e = .returned (.int .i64 (k : Nat))) ∧ Below w.heap.size w w' := by
  have hA := Shape.low h
  clear h
  go_enter Tryz.func156, Tryz.ntmps156
  go_wp2
  go_loopw [8] (fun i wr => ∃ k : Nat, k ≤ n ∧ i = .int .i64 k ∧ (∀ j, j < k → l.getD j (some []) ≠ none) ∧ Below w.heap.size w wr) (fun i _ => n - (intOf i).toNat)
  case atStart => exact ⟨0, Nat.zero_le _, rfl, fun j hj => by omega, Below.refl _ _⟩
  case round =>
    obtain ⟨k, hk, rfl, hno, hbel⟩ := hrel
    have HN : Hid (∀ j, j < k → l.getD j (some []) ≠ none) := hno
    clear hno
    by_cases hlt : k < n
    · obtain ⟨b1, o1, A, N, C, rfl, _, _, hcell, hiff⟩ := ans_at (Shape.now hA hbel) hlt
      have hli : (k : Int) < (n : Int) := by omega
      have HI : Hid (A = none ↔ l.getD k (some []) = none) := hiff
      have hcall := fnil A N C wr
      clear hiff
      cases A with
      | none =>
        go_wp2_with (go_at_call 123; refine hcall.mono ?_; rintro e u1 ⟨rfl, rfl⟩)
        go_ret
        exact ⟨.inr ⟨k, hlt, HI.out.1 (by trivial), rfl⟩, hbel⟩
      | some A =>
        go_wp2_with (go_at_call 123; refine hcall.mono ?_; rintro e u1 ⟨rfl, rfl⟩)
        go_roundw
        case rel =>
          refine ⟨k + 1, by omega, by go_num, fun j hj => ?_, hbel⟩
          by_cases e : j = k
          · subst e; exact fun h9 => by have := HI.out.2 h9; cases this
          · exact HN.out j (by omega)
        case measure => simp [intOf]; omega
    · have hkn : k = n := by omega
      subst hkn
      have hli : ¬ (k : Int) < (k : Int) := by omega
      go_wp2
      go_ret
      exact ⟨.inl ⟨HN.out, rfl⟩, hbel⟩
set_option maxRecDepth 100000 in
theorem fhasnil (a : Option Addr) (n c : Nat) (l : List (Option (List Int))) (w : World) (h : (sliceS ansS).rep w everywhere [.slice a n c] l) (hn : n ≤ 1000) (b : Bool) (hb : b = true ↔ ∃ x ∈ l, x = none) :
    Calls Tryz.prog 122 #[.slice a n c, .func (.func 123) #[] #[]] w fun e w' => e = .returned (.bool b) ∧ Below w.heap.size w w' := by
  have hl := (sliceS_len h).1
  have HC : Hid (Calls _ _ _ _ _) := fidxnil a n c l w h hn
  have HB : Hid (b = true ↔ ∃ x ∈ l, x = none) := hb
  have HL : Hid (l.length = n) := hl
  clear h hb hl
  go_enter Tryz.func122, Tryz.ntmps122
  go_wp2_with fail
  refine HC.out.mono ?_
  rintro e u ⟨hcase, hb1⟩
  rcases hcase with ⟨hno, rfl⟩ | ⟨k, hk, hk2, rfl⟩
  · have e : b = false := by
      cases b with
      | false => rfl
      | true =>
        obtain ⟨x, hx, rfl⟩ := HB.out.1 rfl
        obtain ⟨j, hj⟩ := List.getElem?_of_mem hx
        have hjl : j < l.length := (List.getElem?_eq_some_iff.1 hj).1
        exact absurd (by rw [List.getD_eq_getElem?_getD, hj]; rfl) (hno j (by rw [← HL.out]; exact hjl))
    subst e
    clear hno
    go_wp2
    go_ret
    exact ⟨rfl, hb1⟩
  · have e : b = true := HB.out.2 ⟨none, by
      rw [List.getD_eq_getElem?_getD, List.getElem?_eq_getElem (by rw [HL.out]; exact hk)] at hk2
      have h9 : l[k]'(by rw [HL.out]; exact hk) = none := hk2
      rw [← h9]; exact List.getElem_mem _, rfl⟩
    subst e
    have hk0 : (0 : Int) ≤ (k : Int) := by omega
    clear hk2
    go_wp2
    go_ret
    exact ⟨rfl, hb1⟩
section
variable {O V : Nat → Prop} {w : World} {p : Nat} {dim : Int} {ms : List Ly} {s : Ft.St} {q : List Pt}
set_option maxRecDepth 100000 in
theorem fisdone (H : FlAt O V w p dim ms s q) (b : Bool) (hb : b = true ↔ s.lay = ms.length) :
    Calls Tryz.prog 60 #[.pointer (some ⟨p, 0, none⟩)] w fun e w' => e = .returned (.bool b) ∧ Below w.heap.size w w' := by
  obtain ⟨la, ln, lc, ha, hn, hc, a0, n0, c0, a1, n1, c1, a2, n2, c2, a3, n3, c3, fa, fn, fc, ta, tn, tc, qa, qn, qc, aa, an, ac, hx, hr⟩ := H
  have hl := (sliceS_len hr.m).1
  have x1 := hx.cell 1 rfl
  have x9 := hx.cell 9 rfl
  have hD : Below w.heap.size w w.drew := (Below.refl _ w).drew
  cases b with
  | true =>
    have h7 : s.lay = ln := by rw [← hl]; exact hb.1 rfl
    have e : ((s.lay : Int) == (ln : Int)) = true := by rw [beq_iff_eq]; omega
    clear hr hx hb h7 hl
    go_enter Tryz.func60, Tryz.ntmps60
    go_wp2
    go_region
    all_goals
      go_wp2
      go_ret
      exact ⟨rfl, hD⟩
  | false =>
    have h7 : s.lay ≠ ln := by rw [← hl]; exact fun h => by have := hb.2 h; cases this
    have e : ((s.lay : Int) == (ln : Int)) = false := by rw [beq_eq_false_iff_ne]; omega
    clear hr hx hb h7 hl
    go_enter Tryz.func60, Tryz.ntmps60
    go_wp2
    go_region
    all_goals
      go_wp2
      go_ret
      exact ⟨rfl, hD⟩
set_option maxRecDepth 100000 in
theorem fisanswered (H : FlAt O V w p dim ms s q) (hn : s.ans.length ≤ 1000) (b : Bool) (hb : b = true ↔ Ft.whole s) :
    Calls Tryz.prog 86 #[.pointer (some ⟨p, 0, none⟩)] w fun e w' => e = .returned (.bool b) ∧ Below w.heap.size w w' := by
  obtain ⟨la, ln, lc, ha, hn, hc, a0, n0, c0, a1, n1, c1, a2, n2, c2, a3, n3, c3, fa, fn, fc, ta, tn, tc, qa, qn, qc, aa, an, ac, hx, hr⟩ := H
  have hra := hr.a.plain
  have hl := (sliceS_len hra).1
  have x12 := hx.cell 12 rfl
  have HC : Hid (Calls _ _ _ _ _) := fhasnil aa an ac s.ans w hra (by omega) (!b) (by
    cases b with
    | true =>
      refine ⟨fun h => (by cases h), fun ⟨x, hx, h⟩ => absurd h (hb.1 rfl x hx)⟩
    | false =>
      refine ⟨fun _ => ?_, fun _ => rfl⟩
      rcases Classical.em (∃ x ∈ s.ans, x = none) with h | h
      · exact h
      · have : false = true := hb.2 fun x hx e => h ⟨x, hx, e⟩
        cases this)
  clear hr hx hra hl hb
  go_enter Tryz.func86, Tryz.ntmps86
  go_wp2_with fail
  refine HC.out.mono ?_
  rintro e u ⟨rfl, hb1⟩
  cases b
  all_goals
    go_wp2
    go_ret
    exact ⟨rfl, hb1⟩
end

/-! ### Is there a part that a message is about? -/
set_option maxRecDepth 100000 in
theorem fhit (t r x k y6 y7 y8 : Int) (B : Nat) (w : World) (c6 : w.cell? ⟨B, 6, none⟩ = some (.int .i64 y6)) (c7 : w.cell? ⟨B, 7, none⟩ = some (.int .i64 y7)) (c8 : w.cell? ⟨B, 8, none⟩ = some (.int .i64 y8)) (b : Bool) (hb : b = true ↔ t = y6 ∧ r = y7 ∧ x = y8) :
    Calls Tryz.prog 96 #[.agg #[.int .i64 t, .int .i64 r, .int .i64 x, .int .i64 k], .pointer (some ⟨B, 0, none⟩)] w fun e w' => e = .returned (.bool b) ∧ Below w.heap.size w w' := by
  have d6 : ∀ o, (w.alloc o).cell? ⟨B, 6, none⟩ = some (.int .i64 y6) := fun o => Lib.cell?_alloc_some o c6
  have d7 : ∀ o, (w.alloc o).cell? ⟨B, 7, none⟩ = some (.int .i64 y7) := fun o => Lib.cell?_alloc_some o c7
  have d8 : ∀ o, (w.alloc o).cell? ⟨B, 8, none⟩ = some (.int .i64 y8) := fun o => Lib.cell?_alloc_some o c8
  clear c6 c7 c8
  have hB := new_bel w (.cells #[.int .i64 t, .int .i64 r, .int .i64 x, .int .i64 k] 95)
  by_cases h6 : t = y6
  · by_cases h7 : r = y7
    · by_cases h8 : x = y8
      · have e : b = true := hb.2 ⟨h6, h7, h8⟩
        subst e
        have q6 : (t == y6) = true := by simpa using h6
        have q7 : (r == y7) = true := by simpa using h7
        have q8 : (x == y8) = true := by simpa using h8
        clear hb h6 h7 h8
        go_enter Tryz.func96, Tryz.ntmps96
        go_wp2
        go_ret
        exact ⟨rfl, hB⟩
      · have e : b = false := Bool.eq_false_iff.2 fun h => h8 (hb.1 h).2.2
        subst e
        have q6 : (t == y6) = true := by simpa using h6
        have q7 : (r == y7) = true := by simpa using h7
        have q8 : (x == y8) = false := by simpa using h8
        clear hb h6 h7 h8
        go_enter Tryz.func96, Tryz.ntmps96
        go_wp2
        go_ret
        exact ⟨rfl, hB⟩
    · have e : b = false := Bool.eq_false_iff.2 fun h => h7 (hb.1 h).2.1
      subst e
      have q6 : (t == y6) = true := by simpa using h6
      have q7 : (r == y7) = false := by simpa using h7
      clear hb h6 h7
      go_enter Tryz.func96, Tryz.ntmps96
      go_wp2
      go_ret
      exact ⟨rfl, hB⟩
  · have e : b = false := Bool.eq_false_iff.2 fun h => h6 (hb.1 h).1
    subst e
    have q6 : (t == y6) = false := by simpa using h6
    clear hb h6
    go_enter Tryz.func96, Tryz.ntmps96
    go_wp2
    go_ret
    exact ⟨rfl, hB⟩
def Hit (l : List Pt) (y6 y7 y8 : Int) (j : Nat) : Prop := (l.getD j pt0).1 = y6 ∧ (l.getD j pt0).2.1 = y7 ∧ (l.getD j pt0).2.2.1 = y8
set_option maxRecDepth 100000 in
theorem fidxhit (a : Option Addr) (n c : Nat) (l : List Pt) (y6 y7 y8 : Int) (B : Nat) (w : World) (h : ptsS.rep w everywhere [.slice a n c] l) (hn : n ≤ 1000) (c6 : w.cell? ⟨B, 6, none⟩ = some (.int .i64 y6)) (c7 : w.cell? ⟨B, 7, none⟩ = some (.int .i64 y7)) (c8 : w.cell? ⟨B, 8, none⟩ = some (.int .i64 y8)) :
    Calls Tryz.prog 95 #[.slice a n c, .func (.func 96) #[] #[.pointer (some ⟨B, 0, none⟩)]] w fun e w' =>
      (((∀ j, j < n → ¬ Hit l y6 y7 y8 j) ∧ e = .returned (.int .i64 (-1))) ∨ ∃ k, k < n ∧ Hit l y6 y7 y8 k ∧ (∀ j, j < k → ¬ Hit l y6 y7 y8 j) ∧ e = .returned (.int .i64 (k : Nat))) ∧ Below w.heap.size w w' := by
  have hA := Shape.low h
  have hB : B < w.heap.size := World.block_lt_of_cell? w _ c6
  have HC : Hid (w.cell? ⟨B, 6, none⟩ = some (.int .i64 y6) ∧ w.cell? ⟨B, 7, none⟩ = some (.int .i64 y7) ∧ w.cell? ⟨B, 8, none⟩ = some (.int .i64 y8)) := ⟨c6, c7, c8⟩
  clear h c6 c7 c8
  go_enter Tryz.func95, Tryz.ntmps95
  go_wp2
  go_loopw [8] (fun i wr => ∃ k : Nat, k ≤ n ∧ i = .int .i64 k ∧ (∀ j, j < k → ¬ Hit l y6 y7 y8 j) ∧ Below w.heap.size w wr) (fun i _ => n - (intOf i).toNat)
  case atStart => exact ⟨0, Nat.zero_le _, rfl, fun j hj => by omega, Below.refl _ _⟩
  case round =>
    obtain ⟨k, hk, rfl, hno, hbel⟩ := hrel
    have HN : Hid (∀ j, j < k → ¬ Hit l y6 y7 y8 j) := hno
    clear hno
    by_cases hlt : k < n
    · obtain ⟨b1, o1, t, r, x, s, rfl, _, hE, d0, d1, d2, d3⟩ := pt_there (Shape.now hA hbel) hlt
      have hli : (k : Int) < (n : Int) := by omega
      have c6 := (hbel.cell (p := ⟨B, 6, none⟩) hB).trans HC.out.1
      have c7 := (hbel.cell (p := ⟨B, 7, none⟩) hB).trans HC.out.2.1
      have c8 := (hbel.cell (p := ⟨B, 8, none⟩) hB).trans HC.out.2.2
      have HH : Hid (Hit l y6 y7 y8 k ↔ t = y6 ∧ r = y7 ∧ x = y8) := by show _ ↔ _; unfold Hit; rw [hE]; exact Iff.rfl
      by_cases hq : t = y6 ∧ r = y7 ∧ x = y8
      · have hcall := fhit t r x s y6 y7 y8 B wr c6 c7 c8 true ⟨fun _ => hq, fun _ => rfl⟩
        have HQ : Hid (Hit l y6 y7 y8 k) := HH.out.2 hq
        clear hq c6 c7 c8 hE
        go_wp2_with (go_at_call 96; refine hcall.mono ?_; rintro e u1 ⟨rfl, hb3⟩)
        go_ret
        exact ⟨.inr ⟨k, hlt, HQ.out, HN.out, rfl⟩, bel_then hbel hb3⟩
      · have hcall := fhit t r x s y6 y7 y8 B wr c6 c7 c8 false ⟨fun h => (by cases h), fun h => absurd h hq⟩
        have HQ : Hid (¬ Hit l y6 y7 y8 k) := fun h => hq (HH.out.1 h)
        clear hq c6 c7 c8 hE
        go_wp2_with (go_at_call 96; refine hcall.mono ?_; rintro e u1 ⟨rfl, hb3⟩)
        go_roundw
        case rel =>
          refine ⟨k + 1, by omega, by go_num, fun j hj => ?_, bel_then hbel hb3⟩
          by_cases e : j = k
          · subst e; exact HQ.out
          · exact HN.out j (by omega)
        case measure => simp [intOf]; omega
    · have hkn : k = n := by omega
      subst hkn
      have hli : ¬ (k : Int) < (k : Int) := by omega
      go_wp2
      go_ret
      exact ⟨.inl ⟨HN.out, rfl⟩, hbel⟩

/-! ### Has a map all experts? -/
set_option maxRecDepth 100000 in
theorem flacks (ag : Option Addr) (ng cg : Nat) (ax : Option Addr) (nx cx : Nat) (cap : Int) (ha : Option Addr) (hn hc : Nat) (B : Nat) (w : World) (c1 : w.cell? ⟨B, 1, none⟩ = some (.slice ha hn hc)) (b : Bool) (hb : b = true ↔ hn < nx) :
    Calls Tryz.prog 80 #[.agg #[.slice ag ng cg, .slice ax nx cx, .int .i64 cap], .pointer (some ⟨B, 0, none⟩)] w fun e w' => e = .returned (.bool b) ∧ Below w.heap.size w w' := by
  have d1 : ∀ o, (w.alloc o).cell? ⟨B, 1, none⟩ = some (.slice ha hn hc) := fun o => Lib.cell?_alloc_some o c1
  clear c1
  have hB := new_bel w (.cells #[.slice ag ng cg, .slice ax nx cx, .int .i64 cap] 37)
  by_cases h : hn < nx
  · have e : b = true := hb.2 h
    subst e
    have q : (hn : Int) < (nx : Int) := by omega
    clear hb h
    go_enter Tryz.func80, Tryz.ntmps80
    go_wp2
    go_ret
    exact ⟨rfl, hB⟩
  · have e : b = false := Bool.eq_false_iff.2 fun h9 => h (hb.1 h9)
    subst e
    have q : ¬ (hn : Int) < (nx : Int) := by omega
    clear hb h
    go_enter Tryz.func80, Tryz.ntmps80
    go_wp2
    go_ret
    exact ⟨rfl, hB⟩
set_option maxRecDepth 100000 in
theorem fidxlack (a : Option Addr) (n c : Nat) (l : List Ly) (ha : Option Addr) (hn hc : Nat) (B : Nat) (w : World) (h : lysS.rep w everywhere [.slice a n c] l) (hn9 : n ≤ 1000) (c1 : w.cell? ⟨B, 1, none⟩ = some (.slice ha hn hc)) :
    Calls Tryz.prog 118 #[.slice a n c, .func (.func 80) #[] #[.pointer (some ⟨B, 0, none⟩)]] w fun e w' =>
      (((∀ j, j < n → (l.getD j ly0).2.1.length ≤ hn) ∧ e = .returned (.int .i64 (-1))) ∨ ∃ k, k < n ∧ hn < (l.getD k ly0).2.1.length ∧ e = .returned (.int .i64 (k : Nat))) ∧ Below w.heap.size w w' := by
  have hA := Shape.low h
  have hB : B < w.heap.size := World.block_lt_of_cell? w _ c1
  have HC : Hid (w.cell? ⟨B, 1, none⟩ = some (.slice ha hn hc)) := c1
  clear h c1
  go_enter Tryz.func118, Tryz.ntmps118
  go_wp2
  go_loopw [8] (fun i wr => ∃ k : Nat, k ≤ n ∧ i = .int .i64 k ∧ (∀ j, j < k → (l.getD j ly0).2.1.length ≤ hn) ∧ Below w.heap.size w wr) (fun i _ => n - (intOf i).toNat)
  case atStart => exact ⟨0, Nat.zero_le _, rfl, fun j hj => by omega, Below.refl _ _⟩
  case round =>
    obtain ⟨k, hk, rfl, hno, hbel⟩ := hrel
    have HN : Hid (∀ j, j < k → (l.getD j ly0).2.1.length ≤ hn) := hno
    clear hno
    by_cases hlt : k < n
    · obtain ⟨b1, o1, ag, ng, cg, ax, nx, cx, g, xs, cap, rfl, _, hE, _, hrx, d0, d1, d2⟩ := ly_there (Shape.now hA hbel) hlt
      have hnx := (sliceS_len hrx).1
      have hli : (k : Int) < (n : Int) := by omega
      have c1 := (hbel.cell (p := ⟨B, 1, none⟩) hB).trans HC.out
      have HH : Hid ((l.getD k ly0).2.1.length = nx) := by show _ = _; rw [hE]; exact hnx
      clear hrx hnx hE
      by_cases hq : hn < nx
      · have hcall := flacks ag ng cg ax nx cx cap ha hn hc B wr c1 true ⟨fun _ => hq, fun _ => rfl⟩
        have HQ : Hid (hn < (l.getD k ly0).2.1.length) := by show _ < _; rw [HH.out]; exact hq
        clear hq c1
        go_wp2_with (go_at_call 80; refine hcall.mono ?_; rintro e u1 ⟨rfl, hb3⟩)
        go_ret
        exact ⟨.inr ⟨k, hlt, HQ.out, rfl⟩, bel_then hbel hb3⟩
      · have hcall := flacks ag ng cg ax nx cx cap ha hn hc B wr c1 false ⟨fun h => (by cases h), fun h => absurd h hq⟩
        have HQ : Hid ((l.getD k ly0).2.1.length ≤ hn) := by show _ ≤ _; rw [HH.out]; omega
        clear hq c1
        go_wp2_with (go_at_call 80; refine hcall.mono ?_; rintro e u1 ⟨rfl, hb3⟩)
        go_roundw
        case rel =>
          refine ⟨k + 1, by omega, by go_num, fun j hj => ?_, bel_then hbel hb3⟩
          by_cases e : j = k
          · subst e; exact HQ.out
          · exact HN.out j (by omega)
        case measure => simp [intOf]; omega
    · have hkn : k = n := by omega
      subst hkn
      have hli : ¬ (k : Int) < (k : Int) := by omega
      go_wp2
      go_ret
      exact ⟨.inl ⟨HN.out, rfl⟩, hbel⟩
set_option maxRecDepth 100000 in
theorem fanylack (a : Option Addr) (n c : Nat) (l : List Ly) (ha : Option Addr) (hn hc : Nat) (B : Nat) (w : World) (h : lysS.rep w everywhere [.slice a n c] l) (hn9 : n ≤ 1000) (c1 : w.cell? ⟨B, 1, none⟩ = some (.slice ha hn hc)) (b : Bool) (hb : b = true ↔ ∃ x ∈ l, hn < x.2.1.length) :
    Calls Tryz.prog 79 #[.slice a n c, .func (.func 80) #[] #[.pointer (some ⟨B, 0, none⟩)]] w fun e w' => e = .returned (.bool b) ∧ Below w.heap.size w w' := by
  have hl := (sliceS_len h).1
  have HC : Hid (Calls _ _ _ _ _) := fidxlack a n c l ha hn hc B w h hn9 c1
  have HB : Hid (b = true ↔ ∃ x ∈ l, hn < x.2.1.length) := hb
  have HL : Hid (l.length = n) := hl
  clear h hb hl c1
  go_enter Tryz.func79, Tryz.ntmps79
  go_wp2_with fail
  refine HC.out.mono ?_
  rintro e u ⟨hcase, hb1⟩
  rcases hcase with ⟨hno, rfl⟩ | ⟨k, hk, hk2, rfl⟩
  · have e : b = false := by
      cases b with
      | false => rfl
      | true =>
        obtain ⟨x, hx, h9⟩ := HB.out.1 rfl
        obtain ⟨j, hj⟩ := List.getElem?_of_mem hx
        have hjl : j < l.length := (List.getElem?_eq_some_iff.1 hj).1
        have h8 := hno j (by rw [← HL.out]; exact hjl)
        rw [List.getD_eq_getElem?_getD, hj] at h8
        exact absurd h9 (Nat.not_lt.2 h8)
    subst e
    clear hno
    go_wp2
    go_ret
    exact ⟨rfl, hb1⟩
  · have e : b = true := HB.out.2 ⟨_, in_of (by rw [HL.out]; exact hk) ly0, hk2⟩
    subst e
    have hk0 : (0 : Int) ≤ (k : Int) := by omega
    clear hk2
    go_wp2
    go_ret
    exact ⟨rfl, hb1⟩
set_option maxRecDepth 100000 in
theorem fhasall (dim : Int) (a : Option Addr) (n c : Nat) (l : List Ly) (ep : Int) (ha : Option Addr) (hn hc : Nat) (w : World) (h : lysS.rep w everywhere [.slice a n c] l) (hn9 : n ≤ 1000) (b : Bool) (hb : b = true ↔ ∀ x ∈ l, x.2.1.length ≤ hn) :
    Calls Tryz.prog 43 #[.agg #[.int .i64 ep, .slice ha hn hc], .agg #[.int .i64 dim, .slice a n c]] w fun e w' => e = .returned (.bool b) ∧ Below w.heap.size w w' := by
  have hB := bel_two w (.cells #[.int .i64 ep, .slice ha hn hc] 50) (.cells #[.int .i64 dim, .slice a n c] 41)
  have kp := (Box.new w 50 #[.int .i64 ep, .slice ha hn hc]).keep (new_bel _ (.cells #[.int .i64 dim, .slice a n c] 41))
  have km := Box.new (w.alloc (.cells #[.int .i64 ep, .slice ha hn hc] 50)) 41 #[.int .i64 dim, .slice a n c]
  have e1 : (w.alloc (.cells #[.int .i64 ep, .slice ha hn hc] 50)).heap.size = w.heap.size + 1 := by simp
  rw [e1] at km
  have HC : Hid (Calls _ _ _ _ _) := fanylack a n c l ha hn hc w.heap.size _ (Shape.below h hB) hn9 (kp.cell 1 rfl) (!b) (by
    cases b with
    | true => refine ⟨fun h => (by cases h), fun ⟨x, hx, h⟩ => by have := hb.1 rfl x hx; omega⟩
    | false =>
      refine ⟨fun _ => ?_, fun _ => rfl⟩
      rcases Classical.em (∃ x ∈ l, hn < x.2.1.length) with h | h
      · exact h
      · have : false = true := hb.2 fun x hx => Nat.not_lt.1 fun e => h ⟨x, hx, e⟩
        cases this)
  have m1 := km.cell 1 rfl
  clear h hb e1
  go_enter Tryz.func43, Tryz.ntmps43
  go_upto_region 1 with fail
  generalize (w.alloc (.cells #[.int .i64 ep, .slice ha hn hc] 50)).alloc (.cells #[.int .i64 dim, .slice a n c] 41) = W at *
  have hmf : ∀ (fn : Fn) (first cap : Array Value) (w : World), (Instr.makeFunc fn first cap).run Tryz.prog w = .ok (.func fn first cap) w := fun _ _ _ _ => rfl
  go_wp2_with fail
  refine HC.out.mono ?_
  rintro e u ⟨rfl, hb1⟩
  cases b
  all_goals
    go_wp2
    go_ret
    exact ⟨rfl, bel_then hB hb1⟩

end Go.Proofs.YtokfcjgfpchffaaGreatDoor
