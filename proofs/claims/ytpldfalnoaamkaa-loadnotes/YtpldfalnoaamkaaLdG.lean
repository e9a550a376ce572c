/- What load's Count, Weight, lightest and rightBound do when called. -/
import Derived.Test.YtpldfalnoaamkaaLdP
namespace Go.Proofs.Ytpldfalnoaamkaa
open Go.ChangeShapes Go.WideShapes Go.ChangeAt Go.RowKit

set_option maxRecDepth 100000 in
theorem lcount (b0 : Option Addr) (n0 c0 : Nat) (l : List Int) (x : Int) (w : World) (hr : Row .i64 w b0 n0 l) (_hn0 : n0 ≤ 100000) :
    Calls Try.prog 15 #[.slice b0 n0 c0, .int .i64 x] w fun r w' => r = .returned (.int .i64 (Ld.count l x)) ∧ w' = w := by
  have hl := hr.len
  by_cases d1 : x < 0
  · rw [Ld.count_out (by omega)]
    go_enter Try.func15, Try.ntmps15
    go_wp2
    go_ret
    exact ⟨rfl, rfl⟩
  by_cases d2 : (n0 : Int) ≤ x
  · rw [Ld.count_out (by omega)]
    go_enter Try.func15, Try.ntmps15
    go_wp2
    go_ret
    exact ⟨rfl, rfl⟩
  obtain ⟨k, rfl⟩ : ∃ k : Nat, x = (k : Int) := ⟨x.toNat, by omega⟩
  rw [Ld.count_nat]
  obtain ⟨b, off, rfl, hb, hc⟩ := hr.at (j := k) (by omega)
  have hk0 : (0 : Int) ≤ (k : Int) := by omega
  have hk1 : (k : Int) < (n0 : Int) := by omega
  generalize l.getD k 0 = v at *
  clear hl
  go_enter Try.func15, Try.ntmps15
  go_wp2
  go_ret
  exact ⟨rfl, rfl⟩

set_option maxRecDepth 100000 in
theorem lbound (x : Int) (b : Bool) (hb : b = true ↔ 1 ≤ x ∧ x ≤ 2147483647) (w : World) :
    Calls Try.prog 29 #[.int .i64 x] w fun r w' => r = .returned (.bool b) ∧ w' = w := by
  by_cases d1 : 1 ≤ x
  · by_cases d2 : x ≤ 2147483647
    · obtain rfl := hb.2 ⟨d1, d2⟩
      clear hb
      go_enter Try.func29, Try.ntmps29
      go_wp2
      go_ret
      exact ⟨rfl, rfl⟩
    · obtain rfl : b = false := Bool.eq_false_iff.2 fun h => d2 (hb.1 h).2
      clear hb
      go_enter Try.func29, Try.ntmps29
      go_wp2
      go_ret
      exact ⟨rfl, rfl⟩
  · obtain rfl : b = false := Bool.eq_false_iff.2 fun h => d1 (hb.1 h).1
    clear hb
    go_enter Try.func29, Try.ntmps29
    go_wp2
    go_ret
    exact ⟨rfl, rfl⟩

theorem Ld.holds_tell (m : List (List Int)) (k : Nat) (y : Int) (hk : k < m.length) : tell (Pl.Holds m (k : Int) y) = (m.getD k []).contains y := by
  by_cases hy : y ∈ m.getD k []
  · rw [tell_yes ⟨⟨by omega, by omega⟩, by rw [Int.toNat_natCast]; exact hy⟩]
    exact (List.contains_iff_mem.2 hy).symm
  · rw [tell_no fun h5 => hy (by have := h5.2; rwa [Int.toNat_natCast] at this)]
    exact (Bool.eq_false_iff.2 fun h5 => hy (List.contains_iff_mem.1 h5)).symm

set_option maxRecDepth 100000 in
set_option maxHeartbeats 2000000 in
theorem lweight (e : Int) (a : Option Addr) (n c : Nat) (m : List (List Int)) (y : Int) (w : World) (h : matS.rep w everywhere [.slice a n c] m) (hz : Ex.Sized m) :
    Calls Try.prog 16 #[.agg #[.int .i64 e, .slice a n c], .int .i64 y] w fun r w' => r = .returned (.int .i64 (Ld.weight m y : Nat)) ∧ Below w.heap.size w w' := by
  have HL : Hid (m.length = n) := (sliceS_len h).1
  have HA : Hid (matS.rep w (· < w.heap.size) [.slice a n c] m) := Shape.low h
  have hB := new_bel w (.cells #[.int .i64 e, .slice a n c] 25)
  have kb := Box.new w 25 #[.int .i64 e, .slice a n c]
  have HZ : Hid (Ex.Sized m) := hz
  have hn : n ≤ 100000 := by have := hz.1; have := HL.out; omega
  clear h hz
  have c0 := kb.cell 0 rfl
  have c1 := kb.cell 1 rfl
  by_cases hy1 : y < 1
  · rw [Ld.weight_out m (by omega)]
    go_enter Try.func16, Try.ntmps16
    go_wp2
    go_ret
    exact ⟨rfl, hB⟩
  by_cases hy2 : 4 < y
  · rw [Ld.weight_out m (by omega)]
    go_enter Try.func16, Try.ntmps16
    go_wp2
    go_ret
    exact ⟨rfl, hB⟩
  rw [Ld.weight_in m (by omega)]
  obtain ⟨tot, htot⟩ : ∃ tot, Ld.held m y = tot := ⟨_, rfl⟩
  have HT : Hid (Ld.held m y = tot) := htot
  rw [htot]
  clear htot
  go_enter Try.func16, Try.ntmps16
  go_wp2
  go_loopw [5, 16] (fun v i wr => ∃ k q : Nat, k ≤ n ∧ q ≤ k ∧ v = .int .i64 q ∧ i = .int .i64 k ∧ Box wr w.heap.size 25 #[.int .i64 e, .slice a n c] ∧ Below w.heap.size w wr ∧ Hid (q = Ld.held (m.take k) y)) (fun _ i _ => n - (intOf i).toNat)
  case atStart => exact ⟨0, 0, Nat.zero_le _, Nat.le_refl _, rfl, rfl, kb, hB, (by show _ = _; rw [List.take_zero]; rfl)⟩
  case round =>
    clear kb hB c0 c1
    obtain ⟨k, q, hk, hq, rfl, rfl, kb, hbel, HQ⟩ := hrel
    have c0 := kb.cell 0 rfl
    have c1 := kb.cell 1 rfl
    by_cases hlt : k < n
    · have hli : (k : Int) < (n : Int) := by omega
      have hkl : k < m.length := by have := HL.out; omega
      have hst := Ld.held_step m y hkl
      obtain ⟨hv, hhv⟩ : ∃ hv, (m.getD k []).contains y = hv := ⟨_, rfl⟩
      have HH : Hid (Calls _ _ _ _ _) := pholds e a n c m (k : Int) y hv wr (Shape.any (Shape.now HA.out hbel)) HZ.out ((Ld.holds_tell m k y hkl).trans hhv)
      rw [hhv] at hst
      have hQ := HQ.out
      have HQ2 : Hid (q + (if hv = true then 1 else 0) = Ld.held (m.take (k + 1)) y) := by
        show _ = _
        rw [hst, ← hQ]
      clear hst hQ hhv HQ
      cases hv with
      | true =>
        go_wp2_with fail
        refine HH.out.mono ?_
        rintro r W1 ⟨rfl, hb1⟩
        have HB1 := hidL (And.intro (kb.keep hb1) (bel_then hbel hb1))
        clear hb1
        go_wp2
        go_roundw
        case rel => exact ⟨k + 1, q + 1, by omega, by omega, by go_num, by go_num, HB1.out.1, HB1.out.2, HQ2.out⟩
        case measure => simp [intOf]; omega
      | false =>
        go_wp2_with fail
        refine HH.out.mono ?_
        rintro r W1 ⟨rfl, hb1⟩
        have HB1 := hidL (And.intro (kb.keep hb1) (bel_then hbel hb1))
        clear hb1
        go_wp2
        go_roundw
        case rel => exact ⟨k + 1, q, by omega, by omega, rfl, by go_num, HB1.out.1, HB1.out.2, HQ2.out⟩
        case measure => simp [intOf]; omega
    · have hkn : k = n := by omega
      subst hkn
      have hli : ¬ (k : Int) < (k : Int) := by omega
      have HE : Hid ((q : Int) = ((tot : Nat) : Int)) := by
        have h9 := HQ.out
        rw [List.take_of_length_le (by have := HL.out; omega), HT.out] at h9
        rw [h9]
        rfl
      go_wp2
      go_ret
      exact ⟨by rw [← HE.out]; rfl, hbel⟩

/-- Of the nodes below j the lightest one that is free; 0: there is none. -/
def Ld.NodeTo (m : List (List Int)) (r : List Int) (j n : Int) : Prop :=
  (n = 0 ∧ ∀ k, Ld.Free r k → ¬ k < j) ∨ ((Ld.Free r n ∧ n < j) ∧ ∀ k, Ld.Free r k → k < j → Ld.weight m n < Ld.weight m k ∨ Ld.weight m n = Ld.weight m k ∧ n ≤ k)
theorem Ld.NodeTo.full {m : List (List Int)} {r : List Int} {n : Int} (h : Ld.NodeTo m r 5 n) : Ld.Node m r n := by
  rcases h with ⟨h1, h2⟩ | ⟨h1, h2⟩
  · exact .inl ⟨h1, fun k hk => h2 k hk (by have := hk.1.2; omega)⟩
  · exact .inr ⟨h1.1, fun k hk => h2 k hk (by have := hk.1.2; omega)⟩
theorem Ld.NodeTo.skip {m : List (List Int)} {r : List Int} {j n : Int} (h : Ld.NodeTo m r j n) (hf : ¬ Ld.Free r j) : Ld.NodeTo m r (j + 1) n := by
  have hj : ∀ k, Ld.Free r k → k < j + 1 → k < j := fun k hk h9 => by
    by_cases e : k = j
    · exact absurd (by rw [← e]; exact hk) hf
    · omega
  rcases h with ⟨h1, h2⟩ | ⟨h1, h2⟩
  · exact .inl ⟨h1, fun k hk h9 => h2 k hk (hj k hk h9)⟩
  · exact .inr ⟨⟨h1.1, by omega⟩, fun k hk h9 => h2 k hk (hj k hk h9)⟩
theorem Ld.NodeTo.first {m : List (List Int)} {r : List Int} {j : Int} (h : Ld.NodeTo m r j 0) (hf : Ld.Free r j) : Ld.NodeTo m r (j + 1) j := by
  rcases h with ⟨_, h2⟩ | ⟨h1, _⟩
  · refine .inr ⟨⟨hf, by omega⟩, fun k hk h9 => ?_⟩
    have h3 := h2 k hk
    have e : k = j := by omega
    rw [e]
    exact .inr ⟨rfl, Int.le_refl _⟩
  · exact absurd h1.1.1.1 (by decide)
theorem Ld.NodeTo.turn {m : List (List Int)} {r : List Int} {j n : Int} (h : Ld.NodeTo m r j n) (hf : Ld.Free r j) (hn : n ≠ 0) (hw : Ld.weight m j < Ld.weight m n) : Ld.NodeTo m r (j + 1) j := by
  rcases h with ⟨h1, _⟩ | ⟨h1, h2⟩
  · exact absurd h1 hn
  · refine .inr ⟨⟨hf, by omega⟩, fun k hk h9 => ?_⟩
    by_cases e : k = j
    · rw [e]; exact .inr ⟨rfl, Int.le_refl _⟩
    · have := h2 k hk (by omega)
      omega
theorem Ld.NodeTo.stay {m : List (List Int)} {r : List Int} {j n : Int} (h : Ld.NodeTo m r j n) (hn : n ≠ 0) (hw : ¬ Ld.weight m j < Ld.weight m n) : Ld.NodeTo m r (j + 1) n := by
  rcases h with ⟨h1, _⟩ | ⟨h1, h2⟩
  · exact absurd h1 hn
  · refine .inr ⟨⟨h1.1, by omega⟩, fun k hk h9 => ?_⟩
    by_cases e : k = j
    · rw [e]
      have := h1.2
      omega
    · exact h2 k hk (by omega)

set_option maxRecDepth 100000 in
set_option maxHeartbeats 4000000 in
theorem llightest (e : Int) (a : Option Addr) (n c : Nat) (m : List (List Int)) (x : Nat) (N : Int) (w : World) (h : matS.rep w everywhere [.slice a n c] m) (hz : Ex.Sized m) (hx : x < n) (hN : Ld.Node m (m.getD x []) N) :
    Calls Try.prog 30 #[.agg #[.int .i64 e, .slice a n c], .int .i64 x] w fun r w' => r = .returned (.int .i64 N) ∧ Below w.heap.size w w' := by
  have HL : Hid (m.length = n) := (sliceS_len h).1
  have HA : Hid (matS.rep w (· < w.heap.size) [.slice a n c] m) := Shape.low h
  have hB := new_bel w (.cells #[.int .i64 e, .slice a n c] 25)
  have kb := Box.new w 25 #[.int .i64 e, .slice a n c]
  have HZ : Hid (Ex.Sized m) := hz
  have HX : Hid (x < m.length) := by have := HL.out; show x < m.length; omega
  have HN : Hid (Ld.Node m (m.getD x []) N) := hN
  clear h hz hx hN
  go_enter Try.func30, Try.ntmps30
  go_wp2
  go_loopw [5, 6] (fun v i wr => ∃ (j : Nat) (f : Int), 1 ≤ j ∧ j ≤ 5 ∧ v = .int .i64 f ∧ i = .int .i64 j ∧ Box wr w.heap.size 25 #[.int .i64 e, .slice a n c] ∧ Below w.heap.size w wr ∧ Hid (Ld.NodeTo m (m.getD x []) j f)) (fun _ i _ => 5 - (intOf i).toNat)
  case atStart => exact ⟨1, 0, by omega, by omega, rfl, rfl, kb, hB, .inl ⟨rfl, fun k hk => by have := hk.1.1; show ¬ k < ((1 : Nat) : Int); omega⟩⟩
  case round =>
    clear kb hB
    obtain ⟨j, f, hj1, hj5, rfl, rfl, kb, hbel, HK⟩ := hrel
    have c0 := kb.cell 0 rfl
    have c1 := kb.cell 1 rfl
    by_cases hlt : j < 5
    · have hji : (j : Int) ≤ 4 := by omega
      obtain ⟨hv, hhv⟩ : ∃ hv, (m.getD x []).contains (j : Int) = hv := ⟨_, rfl⟩
      have HH : Hid (Calls _ _ _ _ _) := pholds e a n c m (x : Int) (j : Int) hv wr (Shape.any (Shape.now HA.out hbel)) HZ.out ((Ld.holds_tell m x j HX.out).trans hhv)
      have HHV := hidL hhv
      clear hhv
      cases hv with
      | true =>
        have HK2 : Hid (Ld.NodeTo m (m.getD x []) ((j + 1 : Nat) : Int) f) := HK.out.skip fun h9 => h9.2 (List.contains_iff_mem.1 HHV.out)
        clear HK
        go_wp2_with fail
        refine HH.out.mono ?_
        rintro r W1 ⟨rfl, hb1⟩
        have HB1 := hidL (And.intro (kb.keep hb1) (bel_then hbel hb1))
        clear hb1
        go_wp2
        go_roundw
        case rel => exact ⟨j + 1, f, by omega, by omega, rfl, by go_num, HB1.out.1, HB1.out.2, HK2⟩
        case measure => simp [intOf]; omega
      | false =>
        have HF : Hid (Ld.Free (m.getD x []) (j : Int)) := ⟨⟨by omega, by omega⟩, fun h9 => by have h7 := HHV.out; rw [List.contains_iff_mem.2 h9] at h7; cases h7⟩
        go_wp2_with fail
        refine HH.out.mono ?_
        rintro r W1 ⟨rfl, hb1⟩
        have kb1 := kb.keep hb1
        have hbel1 := bel_then hbel hb1
        clear hb1 kb hbel c0 c1 HH HHV
        have hne9 : Nonempty (Later W1) := Later.there W1
        have c0 : ∀ x9 : Later W1, x9.u.cell? ⟨w.heap.size, 0, none⟩ = _ := fun x9 => x9.cell (kb1.cell 0 rfl)
        have c1 : ∀ x9 : Later W1, x9.u.cell? ⟨w.heap.size, 1, none⟩ = _ := fun x9 => x9.cell (kb1.cell 1 rfl)
        have HB1 := hidL (And.intro kb1 hbel1)
        have HW : Hid (∀ (y : Int) (q : Nat), Ld.weight m y = q → ∀ x9 : Later W1, Calls Try.prog 16 #[.agg #[.int .i64 e, .slice a n c], .int .i64 y] x9.u fun r w' => r = .returned (.int .i64 (q : Nat)) ∧ Below x9.u.heap.size x9.u w') := fun y q hq x9 => by
          have h9 := lweight e a n c m y x9.u (Shape.any (Shape.now HA.out (bel_then HB1.out.2 x9.h))) HZ.out
          rw [hq] at h9
          exact h9
        obtain ⟨q1, hq1⟩ : ∃ q1, Ld.weight m (j : Int) = q1 := ⟨_, rfl⟩
        obtain ⟨q2, hq2⟩ : ∃ q2, Ld.weight m f = q2 := ⟨_, rfl⟩
        have HW1 := hidL (HW.out _ _ hq1)
        have HW2 := hidL (HW.out _ _ hq2)
        have HQ := hidL (And.intro hq1 hq2)
        clear hq1 hq2 HW kb1 hbel1
        by_cases hf : f = 0
        · subst hf
          have HK2 : Hid (Ld.NodeTo m (m.getD x []) ((j + 1 : Nat) : Int) (j : Int)) := HK.out.first HF.out
          clear HK
          go_wp2
          refine region_later (by kernel_rfl) (by kernel_rfl) ?_
          repeat (go_big_quiet_step (first
            | (go_at_call 16; with_reducible exact Later.call (HW1.out _))
            | (go_at_call 16; with_reducible exact Later.call (HW2.out _))))
          refine wpQuiet_nil ?_
          intro x9
          obtain ⟨W9, hb9⟩ := x9
          have HB9 := hidL (And.intro (HB1.out.1.keep hb9) (bel_then HB1.out.2 hb9))
          clear c0 c1 HW1 HW2 hne9
          go_wp2
          go_roundw
          case rel => exact ⟨j + 1, j, by omega, by omega, rfl, by go_num, HB9.out.1, HB9.out.2, HK2⟩
          case measure => simp [intOf]; omega
        · have e0 : (f == 0) = false := by simpa using hf
          have HNZ := hidL hf
          clear hf
          by_cases hw : q1 < q2
          · have w1 : decide (q1 < q2) = true := decide_eq_true hw
            have HK2 : Hid (Ld.NodeTo m (m.getD x []) ((j + 1 : Nat) : Int) (j : Int)) := HK.out.turn HF.out HNZ.out (by rw [HQ.out.1, HQ.out.2]; exact hw)
            clear HK
            go_wp2
            refine region_later (by kernel_rfl) (by kernel_rfl) ?_
            repeat (go_big_quiet_step (first
              | (go_at_call 16; with_reducible exact Later.call (HW1.out _))
              | (go_at_call 16; with_reducible exact Later.call (HW2.out _))))
            refine wpQuiet_nil ?_
            intro x9
            obtain ⟨W9, hb9⟩ := x9
            have HB9 := hidL (And.intro (HB1.out.1.keep hb9) (bel_then HB1.out.2 hb9))
            clear c0 c1 HW1 HW2 hne9
            go_wp2
            go_roundw
            case rel => exact ⟨j + 1, j, by omega, by omega, rfl, by go_num, HB9.out.1, HB9.out.2, HK2⟩
            case measure => simp [intOf]; omega
          · have w1 : decide (q1 < q2) = false := decide_eq_false hw
            have HK2 : Hid (Ld.NodeTo m (m.getD x []) ((j + 1 : Nat) : Int) f) := HK.out.stay HNZ.out (by rw [HQ.out.1, HQ.out.2]; exact hw)
            clear HK
            go_wp2
            refine region_later (by kernel_rfl) (by kernel_rfl) ?_
            repeat (go_big_quiet_step (first
              | (go_at_call 16; with_reducible exact Later.call (HW1.out _))
              | (go_at_call 16; with_reducible exact Later.call (HW2.out _))))
            refine wpQuiet_nil ?_
            intro x9
            obtain ⟨W9, hb9⟩ := x9
            have HB9 := hidL (And.intro (HB1.out.1.keep hb9) (bel_then HB1.out.2 hb9))
            clear c0 c1 HW1 HW2 hne9
            go_wp2
            go_roundw
            case rel => exact ⟨j + 1, f, by omega, by omega, rfl, by go_num, HB9.out.1, HB9.out.2, HK2⟩
            case measure => simp [intOf]; omega
    · have hj : j = 5 := by omega
      subst hj
      have hji : ¬ (5 : Int) ≤ 4 := by omega
      have HE : Hid (f = N) := HK.out.full.one HN.out
      go_wp2
      go_ret
      exact ⟨by rw [HE.out]; rfl, hbel⟩

end Go.Proofs.Ytpldfalnoaamkaa
