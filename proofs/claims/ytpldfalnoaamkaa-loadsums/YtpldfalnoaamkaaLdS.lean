/- LoadSums, with letters. -/
import Derived.Test.YtpldfalnoaamkaaLdT
import Derived.Test.YtpldfalnoaamkaaLe
namespace Go.Proofs.Ytpldfalnoaamkaa
open Go.ChangeShapes Go.WideShapes Go.ChangeAt Go.RowKit

/-- The weights of the nodes ahead of j, together. -/
def Ld.sumTo (m : List (List Int)) (j : Nat) : Nat := ((List.range (j - 1)).map fun i => Ld.weight m ((i + 1 : Nat) : Int)).sum
theorem Ld.sumTo_step (m : List (List Int)) {j : Nat} (h : 1 ≤ j) : Ld.sumTo m (j + 1) = Ld.sumTo m j + Ld.weight m (j : Int) := by
  unfold Ld.sumTo
  obtain ⟨i, rfl⟩ : ∃ i, j = i + 1 := ⟨j - 1, by omega⟩
  rw [Nat.add_sub_cancel, Nat.add_sub_cancel, List.range_succ, List.map_append, List.sum_append]
  simp
theorem Ld.sumTo_all (m : List (List Int)) (h : ∀ l ∈ m, Pl.RowOk l) : Ld.sumTo m 5 = Ld.all m := by
  have e1 := Ld.sumTo_step m (j := 1) (by omega)
  have e2 := Ld.sumTo_step m (j := 2) (by omega)
  have e3 := Ld.sumTo_step m (j := 3) (by omega)
  have e4 := Ld.sumTo_step m (j := 4) (by omega)
  have e0 : Ld.sumTo m 1 = 0 := rfl
  rw [Ld.weight_in m (by omega)] at e1 e2 e3 e4
  have h9 := Ld.held_all m h
  rw [e4, e3, e2, e1, e0, ← h9]
  show 0 + Ld.held m 1 + Ld.held m 2 + Ld.held m 3 + Ld.held m 4 = _
  omega
theorem Ld.all_le {m : List (List Int)} (h : ∀ l ∈ m, Pl.RowOk l) (h8 : m.length ≤ 8) : ∀ k, Ld.all (m.take k) ≤ 4 * k ∧ Ld.all (m.take k) ≤ 32 := by
  have aux : ∀ k, k ≤ m.length → Ld.all (m.take k) ≤ 4 * k := by
    intro k
    induction k with
    | zero => intro _; rw [List.take_zero]; exact Nat.le_refl _
    | succ k ih =>
      intro hk
      rw [Ld.all_step m (by omega)]
      have h1 := ih (by omega)
      have h2 := (Pl.row_len (h _ (Mx.getD_mem m k (by omega)))).2
      omega
  intro k
  by_cases hk : k ≤ m.length
  · have := aux k hk; omega
  · rw [List.take_of_length_le (by omega)]
    have h9 := aux m.length (Nat.le_refl _)
    rw [List.take_length] at h9
    omega
set_option maxRecDepth 100000 in
set_option maxHeartbeats 4000000 in
theorem lsums (G : LoadDoes) (e : Int) (a : Option Addr) (n c : Nat) (m : List (List Int)) (y : Int) (w : World) (h : matS.rep w everywhere [.slice a n c] m) :
    Calls Try.prog 8 #[.agg #[.int .i64 e, .slice a n c], .int .i64 y] w fun r w' => r = .returned (.bool true) ∧ Below w.heap.size w w' := by
  have HAW : Hid (∀ u, Calls Try.prog 11 #[] u fun r w' => r = .returned (.bool true) ∧ Below u.heap.size u w') := fun u => G.awake u
  have HL : Hid (m.length = n) := (sliceS_len h).1
  have hbn := new_bel w (.cells #[.int .i64 e, .slice a n c] 25)
  have kb0 := Box.new w 25 #[.int .i64 e, .slice a n c]
  have HMA : Hid (∀ u, Below w.heap.size w u → matS.rep u everywhere [.slice a n c] m) := fun u hu => Shape.below h hu
  have HSM : Hid (Calls _ _ _ _ _) := small a n c m everywhere _ (Shape.below h hbn)
  have HWE : Hid (∀ (y : Int) (u : World), Ex.Sized m → Below w.heap.size w u → Calls Try.prog 16 #[.agg #[.int .i64 e, .slice a n c], .int .i64 y] u fun r w' => r = .returned (.int .i64 (Ld.weight m y : Nat)) ∧ Below u.heap.size u w') := fun y u hz hu => G.weight e a n c m y u (Shape.below h hu) hz
  have HBN := hidL hbn
  have HR17 : Hid (Ex.Sized m → Calls _ _ _ _ _) := fun hz => qright e a n c m _ (Shape.below h hbn) hz
  have KB0 := hidL kb0
  have e0 := kb0.cell 0 rfl
  have e1 := kb0.cell 1 rfl
  clear h hbn kb0
  go_enter Try.func8, Try.ntmps8
  go_wp2_with fail
  refine HSM.out.mono ?_
  rintro r W1 ⟨⟨bb, rfl, hbb⟩, h9⟩
  subst h9
  clear HSM
  cases bb with
  | false =>
    go_wp2_with fail
    refine (HAW.out _).mono ?_
    rintro r WZ ⟨rfl, hbz⟩
    go_wp2
    go_ret
    exact ⟨rfl, bel_then (HBN.out) hbz⟩
  | true =>
    have hz := Ld.small_sized (hbb.1 rfl)
    clear hbb
    go_wp2_with fail
    refine (HR17.out hz).mono ?_
    rintro r W1 ⟨⟨bb, rfl, hbb⟩, hb1⟩
    have HB1 := hidL (bel_then HBN.out hb1)
    have k1 := KB0.out.keep hb1
    clear hb1 HR17 KB0 e0 e1
    cases bb with
    | false =>
      go_wp2_with fail
      refine (HAW.out _).mono ?_
      rintro r WZ ⟨rfl, hbz⟩
      go_wp2
      go_ret
      exact ⟨rfl, bel_then (HB1.out) hbz⟩
    | true =>
      have hR := hbb.1 rfl
      have HROW : Hid (∀ l ∈ m, Pl.RowOk l) := hR.2.2
      have H8 : Hid (m.length ≤ 8) := hR.2.1
      have HZ := hidL hz
      clear hbb hR hz
      go_wp2
      go_loopw [5, 7] (fun s i wr => ∃ j : Nat, 1 ≤ j ∧ j ≤ 5 ∧ s = .int .i64 (Ld.sumTo m j : Nat) ∧ i = .int .i64 j ∧ Box wr w.heap.size 25 #[.int .i64 e, .slice a n c] ∧ Below w.heap.size w wr ∧ Ld.sumTo m j ≤ 8 * j) (fun _ i _ => 5 - (intOf i).toNat)
      case atStart => exact ⟨1, by omega, by omega, rfl, rfl, k1, HB1.out, Nat.zero_le _⟩
      case round =>
        clear k1 HB1
        obtain ⟨j, hj1, hj5, rfl, rfl, kb, hbel, hs⟩ := hrel
        have hst := Ld.sumTo_step m hj1
        have hwl := Nat.le_trans (Ld.weight_le m (j : Int)) H8.out
        have e0 := kb.cell 0 rfl
        have e1 := kb.cell 1 rfl
        by_cases hlt : j < 5
        · have hji : (j : Int) < 5 := by omega
          have HW : Hid (Calls _ _ _ _ _) := HWE.out (j : Int) wr HZ.out hbel
          have HSE : Hid (Ld.sumTo m (j + 1) = Ld.sumTo m j + Ld.weight m (j : Int)) := hst
          obtain ⟨v, hv⟩ : ∃ v, Ld.weight m (j : Int) = v := ⟨_, rfl⟩
          obtain ⟨s, hss⟩ : ∃ s, Ld.sumTo m j = s := ⟨_, rfl⟩
          rw [hv] at HW HSE hwl
          rw [hss] at HSE hs ⊢
          clear hst hv hss
          go_wp2_with fail
          refine HW.out.mono ?_
          rintro r W3 ⟨rfl, hb3⟩
          have HB3 := hidL (And.intro (kb.keep hb3) (bel_then hbel hb3))
          clear hb3 kb hbel HW
          go_wp2
          go_roundw
          case rel => exact ⟨j + 1, by omega, by omega, by rw [HSE.out]; go_num, by go_num, HB3.out.1, HB3.out.2, by rw [HSE.out]; omega⟩
          case measure => simp [intOf]; omega
        · have hj : j = 5 := by omega
          subst hj
          have hji : ¬ (5 : Int) < 5 := by omega
          have hall := Ld.sumTo_all m HROW.out
          rw [hall]
          obtain ⟨tot, htot⟩ : ∃ tot, Ld.all m = tot := ⟨_, rfl⟩
          have HTOT : Hid (Ld.all m = tot) := htot
          rw [htot]
          clear hall htot hst hwl hs
          go_wp2
          go_loopw [6, 32] (fun s i wq => ∃ k : Nat, k ≤ n ∧ s = .int .i64 (Ld.all (m.take k) : Nat) ∧ i = .int .i64 k ∧ wq = wr) (fun _ i _ => n - (intOf i).toNat)
          case atStart => exact ⟨0, Nat.zero_le _, by rw [List.take_zero]; rfl, rfl, rfl⟩
          case round =>
            obtain ⟨k, hk, rfl, rfl, hww⟩ := hrel
            replace hww := hww.symm
            subst hww
            have hn8 : n ≤ 8 := by have := HL.out; have := H8.out; omega
            by_cases hkn : k < n
            · obtain ⟨b, off, A, C, rfl, hb, hc, hrow⟩ := mat_at (HMA.out _ hbel) hkn
              have hki : (k : Int) < (n : Int) := by omega
              have hk0 : (0 : Int) ≤ (k : Int) := by omega
              have HSE : Hid (Ld.all (m.take (k + 1)) = Ld.all (m.take k) + (m.getD k []).length) := Ld.all_step m (by have := HL.out; omega)
              have hle := (Ld.all_le HROW.out H8.out k).2
              have hlr := (Pl.row_len (HROW.out _ (Mx.getD_mem m k (by have := HL.out; omega)))).2
              obtain ⟨q, hq⟩ : ∃ q, (m.getD k []).length = q := ⟨_, rfl⟩
              obtain ⟨s, hs⟩ : ∃ s, Ld.all (m.take k) = s := ⟨_, rfl⟩
              rw [hq] at hc HSE hlr
              rw [hs] at HSE hle ⊢
              clear hq hs hrow
              go_wp2
              go_roundw
              case rel => exact ⟨k + 1, by omega, by rw [HSE.out]; go_num, by go_num, by trivial⟩
              case measure => simp [intOf]; omega
            · have hk9 : k = n := by omega
              subst hk9
              have hki : ¬ (k : Int) < (k : Int) := by omega
              have hAll : Ld.all (m.take k) = tot := by rw [List.take_of_length_le (by have := HL.out; omega)]; exact HTOT.out
              rw [hAll]
              have q1 : (((tot : Nat) : Int) == ((tot : Nat) : Int)) = true := beq_self_eq_true _
              clear hAll
              by_cases y1 : 1 ≤ y
              · by_cases y4 : y ≤ 4
                · skip
                  go_wp2_with fail
                  refine (HAW.out _).mono ?_
                  rintro r WZ ⟨rfl, hbz⟩
                  go_wp2
                  go_ret
                  exact ⟨rfl, bel_then (hbel) hbz⟩
                · have HW : Hid (Calls _ _ _ _ _) := HWE.out y _ HZ.out hbel
                  rw [Ld.weight_out m (by omega)] at HW
                  go_wp2_with fail
                  refine HW.out.mono ?_
                  rintro r W3 ⟨rfl, hb3⟩
                  have HB3 := hidL (bel_then hbel hb3)
                  clear hb3
                  go_wp2_with fail
                  refine (HAW.out _).mono ?_
                  rintro r WZ ⟨rfl, hbz⟩
                  go_wp2
                  go_ret
                  exact ⟨rfl, bel_then (HB3.out) hbz⟩
              · have HW : Hid (Calls _ _ _ _ _) := HWE.out y _ HZ.out hbel
                rw [Ld.weight_out m (by omega)] at HW
                go_wp2_with fail
                refine HW.out.mono ?_
                rintro r W3 ⟨rfl, hb3⟩
                have HB3 := hidL (bel_then hbel hb3)
                clear hb3
                go_wp2_with fail
                refine (HAW.out _).mono ?_
                rintro r WZ ⟨rfl, hbz⟩
                go_wp2
                go_ret
                exact ⟨rfl, bel_then (HB3.out) hbz⟩

end Go.Proofs.Ytpldfalnoaamkaa
