/- What the document's Has and Right of layer 17 do when called. -/
import Derived.Test.YtpfhjdlmjehfnaaPlcA
import Derived.Test.YtpfhjdlmjehfnaaSm
import Derived.BigQuiet
namespace Go.Proofs.Ytpfhjdlmjehfnaa
open Go.ChangeShapes Go.WideShapes Go.ChangeAt Go.RowKit

set_option maxRecDepth 100000 in
theorem qhas (a : Option Addr) (n c : Nat) (l : List Int) (y : Int) (w : World) (h : Row .i64 w a n l) (hn : n ≤ 100000) :
    Calls Try.prog 33 #[.slice a n c, .int .i64 y] w fun e w' => e = .returned (.bool (l.contains y)) ∧ w' = w := by
  have HL : Hid (l.length = n) := h.len
  obtain ⟨v, hv⟩ : ∃ v, l.contains y = v := ⟨_, rfl⟩
  rw [hv]
  have HV : Hid (v = true ↔ y ∈ l) := by show _ ↔ _; rw [← hv]; exact List.contains_iff_mem
  clear hv
  go_enter Try.func33, Try.ntmps33
  go_wp2
  go_loopw [5] (fun i wr => ∃ k : Nat, k ≤ n ∧ i = .int .i64 k ∧ wr = w ∧ Hid (∀ j, j < k → l.getD j 0 ≠ y)) (fun i _ => n - (intOf i).toNat)
  case atStart => exact ⟨0, Nat.zero_le _, rfl, rfl, fun j hj => absurd hj (Nat.not_lt_zero _)⟩
  case round =>
    obtain ⟨k, hk, rfl, hww, HU⟩ := hrel
    replace hww := hww.symm
    subst hww
    by_cases hlt : k < n
    · obtain ⟨b, off, rfl, hb, hc⟩ := h.at hlt
      have hli : (k : Int) < (n : Int) := by omega
      obtain ⟨z, hz⟩ : ∃ z, l.getD k 0 = z := ⟨_, rfl⟩
      have HZ : Hid (l.getD k 0 = z) := hz
      have HM : Hid (l.getD k 0 ∈ l) := Mx.num_mem l k (by have := HL.out; omega)
      rw [hz] at hc
      clear hz
      by_cases hzy : z = y
      · have e1 : (z == y) = true := by simpa using hzy
        obtain rfl : v = true := HV.out.2 (by rw [← hzy, ← HZ.out]; exact HM.out)
        clear hzy
        go_wp2
        go_ret
        exact ⟨rfl, rfl⟩
      · have e1 : (z == y) = false := by simpa using hzy
        have HN : Hid (z ≠ y) := hzy
        clear hzy
        go_wp2
        go_roundw
        case rel =>
          refine ⟨k + 1, by omega, by go_num, by trivial, fun j hj => ?_⟩
          rcases Nat.lt_succ_iff_lt_or_eq.1 hj with h5 | rfl
          · exact HU.out j h5
          · rw [HZ.out]; exact HN.out
        case measure => simp [intOf]; omega
    · have hkn : k = n := by omega
      subst hkn
      have hli : ¬ (k : Int) < (k : Int) := by omega
      obtain rfl : v = false := by
        cases v with
        | false => rfl
        | true =>
          obtain ⟨j, hj, hjy⟩ := List.mem_iff_getElem.1 (HV.out.1 rfl)
          exact absurd (by rw [List.getD_eq_getElem?_getD, List.getElem?_eq_getElem hj]; exact hjy) (HU.out j (by have := HL.out; omega))
      go_wp2
      go_ret
      exact ⟨rfl, rfl⟩

/-- A number that is as it should be behind the one ahead of it. -/
theorem Pl.upto_row {l : List Int} (h : ∀ j, j < l.length → Pl.Next l j) : Pl.Upto l l.length := by
  have : ∀ k, k ≤ l.length → Pl.Upto l k := fun k => by
    induction k with
    | zero => exact fun _ => Pl.upto_zero l
    | succ k ih => exact fun hk => (ih (by omega)).next (by omega) (h k (by omega))
  exact this _ (Nat.le_refl _)

set_option maxRecDepth 100000 in
set_option maxHeartbeats 2000000 in
theorem qright (e : Int) (a : Option Addr) (n c : Nat) (m : List (List Int)) (w : World) (h : matS.rep w everywhere [.slice a n c] m) (hz : Ex.Sized m) :
    Calls Try.prog 32 #[.agg #[.int .i64 e, .slice a n c]] w fun r w' => Says r (Pl.Right e m) ∧ Below w.heap.size w w' := by
  have hl := (sliceS_len h).1
  have HA : Hid (matS.rep w (· < w.heap.size) [.slice a n c] m) := Shape.low h
  have hB := new_bel w (.cells #[.int .i64 e, .slice a n c] 37)
  have kb := Box.new w 37 #[.int .i64 e, .slice a n c]
  have HL : Hid (m.length = n) := hl
  have HZ : Hid (Ex.Sized m) := hz
  have hn : n ≤ 100000 := by have := hz.1; omega
  have c0 := kb.cell 0 rfl
  have c1 := kb.cell 1 rfl
  clear h hz
  by_cases d1 : e < 0
  · go_enter Try.func32, Try.ntmps32
    go_wp2
    go_ret
    exact ⟨Says.no fun h => by have := h.1; omega, hB⟩
  by_cases d2 : 2147483647 < e
  · go_enter Try.func32, Try.ntmps32
    go_wp2
    go_ret
    exact ⟨Says.no fun h => by have := h.1; omega, hB⟩
  by_cases d3 : (8 : Int) < (n : Int)
  · go_enter Try.func32, Try.ntmps32
    go_wp2
    go_ret
    exact ⟨Says.no fun h => by have := h.2.1; omega, hB⟩
  clear hl
  go_enter Try.func32, Try.ntmps32
  go_wp2
  clear c0 c1
  go_loopw [3] (fun i wr => ∃ k : Nat, k ≤ n ∧ i = .int .i64 k ∧ Box wr w.heap.size 37 #[.int .i64 e, .slice a n c] ∧ Below w.heap.size w wr ∧ Hid (∀ j, j < k → Pl.RowOk (m.getD j []))) (fun i _ => n - (intOf i).toNat)
  case atStart => exact ⟨0, Nat.zero_le _, rfl, kb, hB, fun j hj => absurd hj (Nat.not_lt_zero _)⟩
  case round =>
    clear kb hB
    obtain ⟨k, hk, rfl, kb, hbel, HU⟩ := hrel
    have c0 := kb.cell 0 rfl
    have c1 := kb.cell 1 rfl
    by_cases hlt : k < n
    · obtain ⟨b, off, A, C, rfl, hb, hc, hr⟩ := mat_at (Shape.now HA.out hbel) hlt
      have hli : (k : Int) < (n : Int) := by omega
      have hR := Row.of_rep hr
      have hqz : (m.getD k []).length ≤ 100000 := HZ.out.2 _ (Mx.getD_mem m k (by have := HL.out; omega))
      have HNO : Hid (¬ Pl.RowOk (m.getD k []) → ¬ Pl.Right e m) := fun h5 h6 => h5 (h6.row (by have := HL.out; omega))
      have HYES : Hid (Pl.RowOk (m.getD k []) → ∀ j, j < k + 1 → Pl.RowOk (m.getD j [])) := fun h5 j hj => by
        rcases Nat.lt_succ_iff_lt_or_eq.1 hj with h6 | rfl
        · exact HU.out j h6
        · exact h5
      clear hr HU
      generalize m.getD k [] = l at *
      obtain ⟨q, hq⟩ : ∃ q, l.length = q := ⟨_, rfl⟩
      have HQ : Hid (l.length = q) := hq
      rw [hq] at hc hR hqz
      clear hq
      by_cases hq0 : q = 0
      · subst hq0
        have e1 : (((0 : Nat) : Int) == 0) = true := by simp
        have HN : Hid (¬ Pl.RowOk l) := fun h5 => by have := (Pl.row_len h5).1; have := HQ.out; omega
        go_wp2
        go_ret
        exact ⟨Says.no (HNO.out HN.out), hbel⟩
      have e1 : ((q : Int) == 0) = false := by simp; omega
      obtain ⟨W0, hW0⟩ : ∃ W0, W0 = wr := ⟨_, rfl⟩
      subst hW0
      go_wp2
      go_loopw [5] (fun i wr => ∃ t : Nat, t ≤ q ∧ i = .int .i64 t ∧ Below W0.heap.size W0 wr ∧ Hid (∀ j, j < t → Pl.Next l j)) (fun i _ => q - (intOf i).toNat)
      case atStart => exact ⟨0, Nat.zero_le _, rfl, Below.refl _ _, fun j hj => absurd hj (Nat.not_lt_zero _)⟩
      case round =>
        obtain ⟨t, ht, rfl, hbel2, HT⟩ := hrel
        have kb2 := kb.keep hbel2
        have hB2 := bel_then hbel hbel2
        by_cases htq : t < q
        · obtain ⟨b1, o1, rfl, hb1, hcell⟩ := (hR.keep hbel2).at htq
          have hti : (t : Int) < (q : Int) := by omega
          have ht0 : (0 : Int) ≤ (t : Int) := by omega
          have HG : Hid (Pl.Next l t ↔ (1 ≤ l.getD t 0 ∧ l.getD t 0 ≤ 4) ∧ (0 < t → l.getD (t - 1) 0 < l.getD t 0)) := Iff.rfl
          have HX : Hid (Pl.Next l t → ∀ j, j < t + 1 → Pl.Next l j) := fun hf j hj => by
            rcases Nat.lt_succ_iff_lt_or_eq.1 hj with h6 | rfl
            · exact HT.out j h6
            · exact hf
          have HN : Hid (¬ Pl.Next l t → ¬ Pl.Right e m) := fun h5 => HNO.out (Pl.not_next (by have := HQ.out; omega) h5)
          clear HT
          by_cases hp : 0 < t
          · obtain ⟨b2, o2, he, hb2, hcell2⟩ := (hR.keep hbel2).at (show t - 1 < q by omega)
            have e := Option.some.inj he
            injection e with e1 e2 e3
            subst e1; subst e2
            clear he hb2
            have hpi : (0 : Int) < (t : Int) := by omega
            have hw1 : IntKind.i64.wrap ((t : Int) - 1) = ((t - 1 : Nat) : Int) := by rw [IntKind.wrap_i64]; omega
            have hk1 : (0 : Int) ≤ ((t - 1 : Nat) : Int) := by omega
            have hk2 : ((t - 1 : Nat) : Int) < (q : Int) := by omega
            generalize l.getD (t - 1) 0 = y at *
            generalize l.getD t 0 = x at *
            generalize hs : t - 1 = s at *
            by_cases hx1 : x < 1
            · have d1 : decide (x < 1) = true := decide_eq_true hx1
              go_wp2
              go_quiet (fail)
              go_wp2
              go_ret
              exact ⟨Says.no (HN.out fun h => by have := HG.out.1 h; omega), bel_drewN hB2 _⟩
            have d1 : decide (x < 1) = false := decide_eq_false hx1
            by_cases hx2 : 4 < x
            · have d2 : decide (4 < x) = true := decide_eq_true hx2
              go_wp2
              go_quiet (fail)
              go_wp2
              go_ret
              exact ⟨Says.no (HN.out fun h => by have := HG.out.1 h; omega), bel_drewN hB2 _⟩
            have d2 : decide (4 < x) = false := decide_eq_false hx2
            have d3 : decide ((0 : Int) < (t : Int)) = true := decide_eq_true hpi
            by_cases hx3 : x ≤ y
            · have d4 : decide (x ≤ y) = true := decide_eq_true hx3
              go_wp2
              go_quiet (fail)
              go_wp2
              go_ret
              exact ⟨Says.no (HN.out fun h => by have := (HG.out.1 h).2 hp; omega), bel_drewN hB2 _⟩
            have d4 : decide (x ≤ y) = false := decide_eq_false hx3
            go_wp2
            go_quiet (fail)
            go_wp2
            go_roundw
            case rel => exact ⟨t + 1, by omega, by go_num, bel_drewN hbel2 _, HX.out (HG.out.2 ⟨⟨by omega, by omega⟩, fun _ => by omega⟩)⟩
            case measure => simp [intOf]; omega
          · generalize l.getD (t - 1) 0 = y at *
            generalize l.getD t 0 = x at *
            by_cases hx1 : x < 1
            · have d1 : decide (x < 1) = true := decide_eq_true hx1
              go_wp2
              go_quiet (fail)
              go_wp2
              go_ret
              exact ⟨Says.no (HN.out fun h => by have := HG.out.1 h; omega), bel_drewN hB2 _⟩
            have d1 : decide (x < 1) = false := decide_eq_false hx1
            by_cases hx2 : 4 < x
            · have d2 : decide (4 < x) = true := decide_eq_true hx2
              go_wp2
              go_quiet (fail)
              go_wp2
              go_ret
              exact ⟨Says.no (HN.out fun h => by have := HG.out.1 h; omega), bel_drewN hB2 _⟩
            have d2 : decide (4 < x) = false := decide_eq_false hx2
            have d3 : decide ((0 : Int) < (t : Int)) = false := decide_eq_false (by omega)
            go_wp2
            go_quiet (fail)
            go_wp2
            go_roundw
            case rel => exact ⟨t + 1, by omega, by go_num, bel_drewN hbel2 _, HX.out (HG.out.2 ⟨⟨by omega, by omega⟩, fun h => absurd h hp⟩)⟩
            case measure => simp [intOf]; omega
        · have htq2 : t = q := by omega
          subst htq2
          have hti : ¬ (t : Int) < (t : Int) := by omega
          have HOK : Hid (Pl.RowOk l) := Pl.Upto.all (Pl.upto_row (by rw [HQ.out]; exact HT.out)) (by rw [HQ.out]; exact hq0)
          have H0 : Hid (t ≠ 0) := hq0
          clear hq0
          go_wp2
          go_roundw
          case rel => exact ⟨k + 1, by omega, by go_num, kb2, hB2, HYES.out HOK.out⟩
          case measure => simp [intOf]; omega
    · have hkn : k = n := by omega
      subst hkn
      have hli : ¬ (k : Int) < (k : Int) := by omega
      go_wp2
      go_ret
      exact ⟨Says.yes (Pl.right_all ⟨by omega, by omega⟩ (by have := HL.out; omega) (by rw [HL.out]; exact HU.out)), hbel⟩

end Go.Proofs.Ytpfhjdlmjehfnaa
