/- 'Same' of rows and of rows of rows, told both ways. -/
import Derived.Test.YtpfhjdlmjehfnaaBase
import Derived.Test.YtpfhjdlmjehfnaaEx
namespace Go.Proofs.Ytpfhjdlmjehfnaa
open Go.ChangeShapes Go.WideShapes Go.ChangeAt Go.RowKit
theorem getD_ext {l k : List Int} (hn : l.length = k.length) (h : ∀ i, i < l.length → l.getD i 0 = k.getD i 0) : l = k := by
  apply List.ext_getElem hn
  intro i h1 h2
  have := h i h1
  rwa [List.getD_eq_getElem?_getD, List.getD_eq_getElem?_getD, List.getElem?_eq_getElem h1, List.getElem?_eq_getElem h2] at this
set_option maxRecDepth 100000 in
theorem vsays (a b : Option Addr) (n m ca cb : Nat) (l k : List Int) (w : World) (ha : Row .i64 w a n l) (hb : Row .i64 w b m k) (hn : n ≤ 100000) (hm : m ≤ 100000) :
    Calls Try.prog 43 #[.slice a n ca, .slice b m cb] w fun e w' => Says e (l = k) ∧ Below w.heap.size w w' := by
  have HL : Hid (l.length = n) := ha.len
  have HK : Hid (k.length = m) := hb.len
  by_cases h0 : n = m
  · subst h0
    have e0 : ((n : Int) != (n : Int)) = false := by simp
    go_enter Try.func43, Try.ntmps43
    go_wp2
    go_loopw [5] (fun i wr => ∃ j : Nat, j ≤ n ∧ i = .int .i64 j ∧ Hid (∀ q, q < j → l.getD q 0 = k.getD q 0) ∧ Below w.heap.size w wr) (fun i _ => n - (intOf i).toNat)
    case atStart => exact ⟨0, Nat.zero_le _, rfl, fun q hq => absurd hq (Nat.not_lt_zero _), Below.refl _ _⟩
    case round =>
      obtain ⟨j, hj, rfl, HQ, hbel⟩ := hrel
      by_cases hlt : j < n
      · obtain ⟨b1, o1, rfl, hb1, hc1⟩ := ha.at hlt
        obtain ⟨b2, o2, rfl, hb2, hc2⟩ := hb.at hlt
        have hd1 : wr.cell? ⟨b1, o1 + j, none⟩ = some (.int .i64 (l.getD j 0)) := (hbel.cell (by exact hb1)).trans hc1
        have hd2 : wr.cell? ⟨b2, o2 + j, none⟩ = some (.int .i64 (k.getD j 0)) := (hbel.cell (by exact hb2)).trans hc2
        have hli : (j : Int) < (n : Int) := by omega
        have HN : Hid (l.getD j 0 = k.getD j 0 → ∀ q, q < j + 1 → l.getD q 0 = k.getD q 0) := fun h q hq => by
          rcases Nat.lt_succ_iff_lt_or_eq.1 hq with h1 | rfl
          · exact HQ.out q h1
          · exact h
        have HD : Hid (l.getD j 0 ≠ k.getD j 0 → l ≠ k) := fun h e => h (by rw [e])
        clear hc1 hc2
        generalize l.getD j 0 = x at *
        generalize k.getD j 0 = y at *
        by_cases hxy : x = y
        · have hne : (x != y) = false := by simp [hxy]
          have HXY : Hid (x = y) := hxy
          clear hxy
          go_wp2
          go_quiet (fail)
          go_wp2
          go_roundw
          case rel => exact ⟨j + 1, by omega, by go_num, HN.out HXY.out, bel_drewN hbel _⟩
          case measure => simp [intOf]; omega
        · have hne : (x != y) = true := by simp [hxy]
          have HXY : Hid (x ≠ y) := hxy
          clear hxy
          go_wp2
          go_quiet (fail)
          go_wp2
          go_ret
          exact ⟨Says.no (HD.out HXY.out), bel_drewN hbel _⟩
      · have hli : ¬ (j : Int) < (n : Int) := by omega
        go_wp2
        go_ret
        exact ⟨Says.yes (getD_ext (by rw [HL.out, HK.out]) fun i hi => HQ.out i (by have := HL.out; omega)), hbel⟩
  · have e0 : ((n : Int) != (m : Int)) = true := by simp; omega
    go_enter Try.func43, Try.ntmps43
    go_wp2
    go_ret
    exact ⟨Says.no fun h => h0 (by rw [← HL.out, ← HK.out, h]), Below.refl _ _⟩
theorem rows_ext {l k : List (List Int)} (hn : l.length = k.length) (h : ∀ i, i < l.length → l.getD i [] = k.getD i []) : l = k := by
  apply List.ext_getElem hn
  intro i h1 h2
  have := h i h1
  rwa [List.getD_eq_getElem?_getD, List.getD_eq_getElem?_getD, List.getElem?_eq_getElem h1, List.getElem?_eq_getElem h2] at this
set_option maxRecDepth 100000 in
theorem msays (a b : Option Addr) (n m ca cb : Nat) (l k : List (List Int)) (w : World) (ha : matS.rep w everywhere [.slice a n ca] l) (hb : matS.rep w everywhere [.slice b m cb] k) (hz : Ex.Sized l) (hy : Ex.Sized k) :
    Calls Try.prog 25 #[.slice a n ca, .slice b m cb] w fun e w' => Says e (l = k) ∧ Below w.heap.size w w' := by
  have hl := (sliceS_len ha).1
  have hk := (sliceS_len hb).1
  have hn : n ≤ 100000 := by have := hz.1; omega
  have HL : Hid (l.length = n) := hl
  have HK : Hid (k.length = m) := hk
  have HA : Hid (matS.rep w everywhere [.slice a n ca] l) := ha
  have HB : Hid (matS.rep w everywhere [.slice b m cb] k) := hb
  have HZ : Hid (Ex.Sized l) := hz
  have HY : Hid (Ex.Sized k) := hy
  clear ha hb hz hy hl hk
  by_cases h0 : n = m
  · subst h0
    have e0 : ((n : Int) != (n : Int)) = false := by simp
    go_enter Try.func25, Try.ntmps25
    go_wp2
    go_loopw [5] (fun i wr => ∃ j : Nat, j ≤ n ∧ i = .int .i64 j ∧ Hid (∀ q, q < j → l.getD q [] = k.getD q []) ∧ Below w.heap.size w wr) (fun i _ => n - (intOf i).toNat)
    case atStart => exact ⟨0, Nat.zero_le _, rfl, fun q hq => absurd hq (Nat.not_lt_zero _), Below.refl _ _⟩
    case round =>
      obtain ⟨j, hj, rfl, HQ, hbel⟩ := hrel
      by_cases hlt : j < n
      · obtain ⟨b1, o1, A1, C1, rfl, _, c1, r1⟩ := mat_at (Shape.below HA.out hbel) hlt
        obtain ⟨b2, o2, A2, C2, rfl, _, c2, r2⟩ := mat_at (Shape.below HB.out hbel) hlt
        have hli : (j : Int) < (n : Int) := by omega
        have hk0 : (0 : Int) ≤ (j : Int) := by omega
        have hsz := HZ.out.2 _ (Mx.getD_mem l j (by have := HL.out; omega))
        have hsy := HY.out.2 _ (Mx.getD_mem k j (by have := HK.out; omega))
        have R1 := Row.of_rep r1
        have R2 := Row.of_rep r2
        have HN : Hid (l.getD j [] = k.getD j [] → ∀ q, q < j + 1 → l.getD q [] = k.getD q []) := fun h q hq => by
          rcases Nat.lt_succ_iff_lt_or_eq.1 hq with h1 | rfl
          · exact HQ.out q h1
          · exact h
        have HD : Hid (l.getD j [] ≠ k.getD j [] → l ≠ k) := fun h e => h (by rw [e])
        generalize l.getD j [] = x at *
        generalize k.getD j [] = y at *
        have d1 : ∀ x9 : Later wr, x9.u.cell? ⟨b1, o1 + j, none⟩ = some (.slice A1 x.length C1) := fun x9 => x9.cell c1
        have d2 : ∀ x9 : Later wr, x9.u.cell? ⟨b2, o2 + j, none⟩ = some (.slice A2 y.length C2) := fun x9 => x9.cell c2
        have HC : Hid (∀ x9 : Later wr, Calls Try.prog 43 #[.slice A1 x.length C1, .slice A2 y.length C2] x9.u fun e w' => e = .returned (.bool (tell (x = y))) ∧ Below x9.u.heap.size x9.u w') := fun x9 =>
          (vsays A1 A2 x.length y.length C1 C2 x y x9.u (R1.keep x9.h) (R2.keep x9.h) hsz hsy).mono fun _ _ ⟨hs, hb'⟩ => ⟨hs.form, hb'⟩
        have hne9 : Nonempty (Later wr) := Later.there wr
        clear c1 c2 r1 r2 R1 R2
        generalize x.length = nx at *
        generalize y.length = ny at *
        by_cases hxy : x = y
        · rw [tell_yes hxy] at HC
          have HXY : Hid (x = y) := hxy
          clear hxy
          go_wp2
          refine region_later (by kernel_rfl) (by kernel_rfl) ?_
          repeat (go_big_quiet_step ((go_at_call 43; exact Later.call (HC.out _))))
          refine wpQuiet_nil ?_
          intro x9
          obtain ⟨W9, hb9⟩ := x9
          have hB9 := bel_then hbel hb9
          clear d1 d2 HC hne9
          go_wp2
          go_roundw
          case rel => exact ⟨j + 1, by omega, by go_num, HN.out HXY.out, hB9⟩
          case measure => simp [intOf]; omega
        · rw [tell_no hxy] at HC
          have HXY : Hid (x ≠ y) := hxy
          clear hxy
          go_wp2
          refine region_later (by kernel_rfl) (by kernel_rfl) ?_
          repeat (go_big_quiet_step ((go_at_call 43; exact Later.call (HC.out _))))
          refine wpQuiet_nil ?_
          intro x9
          obtain ⟨W9, hb9⟩ := x9
          have hB9 := bel_then hbel hb9
          clear d1 d2 HC hne9
          go_wp2
          go_ret
          exact ⟨Says.no (HD.out HXY.out), hB9⟩
      · have hli : ¬ (j : Int) < (n : Int) := by omega
        go_wp2
        go_ret
        exact ⟨Says.yes (rows_ext (by rw [HL.out, HK.out]) fun i hi => HQ.out i (by have := HL.out; omega)), hbel⟩
  · have e0 : ((n : Int) != (m : Int)) = true := by simp; omega
    go_enter Try.func25, Try.ntmps25
    go_wp2
    go_ret
    exact ⟨Says.no fun h => h0 (by rw [← HL.out, ← HK.out, h]), Below.refl _ _⟩

end Go.Proofs.Ytpfhjdlmjehfnaa
