/- What the document's Count, Weight, node, hot and cold of layer 21 do when called. -/
import Derived.Test.YtpldfalnoaamkaaPlcE
import Derived.Test.YtpldfalnoaamkaaLd
import Derived.Test.YtpldfalnoaamkaaAk
import Derived.BigQuiet
namespace Go.Proofs.Ytpldfalnoaamkaa
open Go.ChangeShapes Go.WideShapes Go.ChangeAt Go.RowKit

theorem hidL {p : Prop} (h : p) : Hid p := h
set_option maxRecDepth 100000 in
theorem rcount (a : Option Addr) (n c : Nat) (l : List Int) (x : Int) (w : World) (h : Row .i64 w a n l) (hn : n ≤ 100000) :
    Calls Try.prog 13 #[.slice a n c, .int .i64 x] w fun e w' => e = .returned (.int .i64 (Ld.count l x)) ∧ w' = w := by
  have HL : Hid (l.length = n) := h.len
  obtain ⟨v, hv⟩ : ∃ v, Ld.count l x = v := ⟨_, rfl⟩
  rw [hv]
  have HV : Hid _ := hv
  clear hv
  go_enter Try.func13, Try.ntmps13
  go_wp2
  go_loopw [5] (fun i wr => ∃ k : Nat, k ≤ n ∧ i = .int .i64 k ∧ wr = w ∧ Hid (∀ j : Nat, j < k → (j : Int) ≠ x)) (fun i _ => n - (intOf i).toNat)
  case atStart => exact ⟨0, Nat.zero_le _, rfl, rfl, fun j hj => absurd hj (Nat.not_lt_zero _)⟩
  case round =>
    obtain ⟨k, hk, rfl, hww, HU⟩ := hrel
    replace hww := hww.symm
    subst hww
    by_cases hlt : k < n
    · have hli : (k : Int) < (n : Int) := by omega
      by_cases hx : (k : Int) = x
      · subst hx
        obtain ⟨b, off, rfl, hb, hc⟩ := h.at hlt
        have hkv : l.getD k 0 = v := by rw [← HV.out, Ld.count_nat]
        rw [hkv] at hc
        have e1 : (((k : Nat) : Int) == ((k : Nat) : Int)) = true := beq_self_eq_true _
        go_wp2
        go_ret
        exact ⟨rfl, rfl⟩
      · have e1 : ((k : Int) == x) = false := by simpa using hx
        have HX : Hid ((k : Int) ≠ x) := hx
        clear hx
        go_wp2
        go_roundw
        case rel =>
          refine ⟨k + 1, by omega, by go_num, by trivial, fun j hj => ?_⟩
          rcases Nat.lt_succ_iff_lt_or_eq.1 hj with h5 | rfl
          · exact HU.out j h5
          · exact HX.out
        case measure => simp [intOf]; omega
    · have hkn : k = n := by omega
      subst hkn
      have hli : ¬ (k : Int) < (k : Int) := by omega
      obtain rfl : v = 0 := by
        rw [← HV.out]
        refine Ld.count_out (fun h9 => ?_)
        have h8 := HU.out x.toNat (by have := HL.out; omega)
        omega
      go_wp2
      go_ret
      exact ⟨rfl, rfl⟩

set_option maxRecDepth 100000 in
set_option maxHeartbeats 2000000 in
theorem rweight (e : Int) (a : Option Addr) (n c : Nat) (m : List (List Int)) (y : Int) (w : World) (h : matS.rep w everywhere [.slice a n c] m) (hz : Ex.Sized m) :
    Calls Try.prog 17 #[.agg #[.int .i64 e, .slice a n c], .int .i64 y] w fun r w' => r = .returned (.int .i64 (Ld.weight m y : Nat)) ∧ Below w.heap.size w w' := by
  have HL : Hid (m.length = n) := (sliceS_len h).1
  have HA : Hid (matS.rep w (· < w.heap.size) [.slice a n c] m) := Shape.low h
  have hB := new_bel w (.cells #[.int .i64 e, .slice a n c] 33)
  have kb := Box.new w 33 #[.int .i64 e, .slice a n c]
  have HZ : Hid (Ex.Sized m) := hz
  have hn : n ≤ 100000 := by have := hz.1; have := HL.out; omega
  clear h hz
  obtain ⟨g, hg⟩ : ∃ g : Bool, g = true ↔ 1 ≤ y ∧ y ≤ 4 := ⟨decide (1 ≤ y ∧ y ≤ 4), by simp⟩
  have HG : Hid _ := hg
  have HW : Hid (Ld.weight m y = if g = true then Ld.held m y else 0) := by
    show _ = _
    by_cases h1 : 1 ≤ y ∧ y ≤ 4
    · rw [Ld.weight_in m h1, if_pos (hg.2 h1)]
    · rw [Ld.weight_out m h1, if_neg (fun k => h1 (hg.1 k))]
  clear hg
  go_enter Try.func17, Try.ntmps17
  go_wp2
  go_loopw [5, 6] (fun v i wr => ∃ k q : Nat, k ≤ n ∧ q ≤ k ∧ v = .int .i64 q ∧ i = .int .i64 k ∧ Box wr w.heap.size 33 #[.int .i64 e, .slice a n c] ∧ Below w.heap.size w wr ∧ Hid (q = if g = true then Ld.held (m.take k) y else 0)) (fun _ i _ => n - (intOf i).toNat)
  case atStart => exact ⟨0, 0, Nat.zero_le _, Nat.le_refl _, rfl, rfl, kb, hB, (by show _ = _; rw [List.take_zero]; split <;> rfl)⟩
  case round =>
    clear kb hB
    obtain ⟨k, q, hk, hq, rfl, rfl, kb, hbel, HQ⟩ := hrel
    have c0 := kb.cell 0 rfl
    have c1 := kb.cell 1 rfl
    by_cases hlt : k < n
    · obtain ⟨b, off, A, C, rfl, hb, hc, hr⟩ := mat_at (Shape.now HA.out hbel) hlt
      have hli : (k : Int) < (n : Int) := by omega
      have hk0 : (0 : Int) ≤ (k : Int) := by omega
      have hkl : k < m.length := by have := HL.out; omega
      have hR := Row.of_rep hr
      have hqz : (m.getD k []).length ≤ 100000 := HZ.out.2 _ (Mx.getD_mem m k hkl)
      have hst := Ld.held_step m y hkl
      obtain ⟨r, hrr⟩ : ∃ r, m.getD k [] = r := ⟨_, rfl⟩
      rw [hrr] at hc hR hqz hst
      clear hr hrr
      by_cases hy1 : 0 < y
      · by_cases hy2 : y < 5
        · have hgt : g = true := HG.out.2 (by omega)
          have HH : Hid (Calls _ _ _ _ _) := qhas A r.length C r y wr hR hqz
          obtain ⟨hv, hhv⟩ : ∃ hv, r.contains y = hv := ⟨_, rfl⟩
          rw [hhv] at hst HH
          have hQ := HQ.out
          rw [if_pos hgt] at hQ
          have HQ2 : Hid ((q + if hv = true then 1 else 0) = if g = true then Ld.held (m.take (k + 1)) y else 0) := by
            show _ = _
            rw [if_pos hgt, hst, ← hQ]
          clear hst hgt hR hQ hhv HQ
          cases hv with
          | true =>
            go_wp2_with fail
            refine HH.out.mono ?_
            rintro r u1 ⟨rfl, hu1⟩
            replace hu1 := hu1.symm
            subst hu1
            go_wp2
            go_roundw
            case rel => exact ⟨k + 1, q + 1, by omega, by omega, by go_num, by go_num, kb, hbel, HQ2.out⟩
            case measure => simp [intOf]; omega
          | false =>
            go_wp2_with fail
            refine HH.out.mono ?_
            rintro r u1 ⟨rfl, hu1⟩
            replace hu1 := hu1.symm
            subst hu1
            go_wp2
            go_roundw
            case rel => exact ⟨k + 1, q, by omega, by omega, rfl, by go_num, kb, hbel, HQ2.out⟩
            case measure => simp [intOf]; omega
        · have HQ2 : Hid (q = if g = true then Ld.held (m.take (k + 1)) y else 0) := by
            have hgt : ¬ g = true := fun k => by have := HG.out.1 k; omega
            have hQ := HQ.out
            rw [if_neg hgt] at hQ
            show _ = _
            rw [if_neg hgt, hQ]
          clear hst hR HQ
          go_wp2
          go_roundw
          case rel => exact ⟨k + 1, q, by omega, by omega, rfl, by go_num, kb, hbel, HQ2⟩
          case measure => simp [intOf]; omega
      · have HQ2 : Hid (q = if g = true then Ld.held (m.take (k + 1)) y else 0) := by
          have hgt : ¬ g = true := fun k => by have := HG.out.1 k; omega
          have hQ := HQ.out
          rw [if_neg hgt] at hQ
          show _ = _
          rw [if_neg hgt, hQ]
        clear hst hR HQ
        go_wp2
        go_roundw
        case rel => exact ⟨k + 1, q, by omega, by omega, rfl, by go_num, kb, hbel, HQ2⟩
        case measure => simp [intOf]; omega
    · have hkn : k = n := by omega
      subst hkn
      have hli : ¬ (k : Int) < (k : Int) := by omega
      have HE : Hid ((q : Int) = ((Ld.weight m y : Nat) : Int)) := by
        have h9 := HQ.out
        rw [List.take_of_length_le (by have := HL.out; omega), ← HW.out] at h9
        rw [h9]
        rfl
      go_wp2
      go_ret
      exact ⟨by rw [← HE.out]; rfl, hbel⟩

set_option maxRecDepth 100000 in
set_option maxHeartbeats 4000000 in
theorem rnode (e : Int) (a : Option Addr) (n c : Nat) (m : List (List Int)) (x : Nat) (N : Int) (w : World) (h : matS.rep w everywhere [.slice a n c] m) (hz : Ex.Sized m) (h8 : m.length ≤ 8) (hx : x < n) (hN : Ld.Node m (m.getD x []) N) :
    Calls Try.prog 32 #[.agg #[.int .i64 e, .slice a n c], .int .i64 x] w fun r w' => r = .returned (.int .i64 N) ∧ Below w.heap.size w w' := by
  have HL : Hid (m.length = n) := (sliceS_len h).1
  have HA : Hid (matS.rep w (· < w.heap.size) [.slice a n c] m) := Shape.low h
  have HAE : Hid (matS.rep w everywhere [.slice a n c] m) := h
  have hB := new_bel w (.cells #[.int .i64 e, .slice a n c] 33)
  have kb := Box.new w 33 #[.int .i64 e, .slice a n c]
  have HZ : Hid (Ex.Sized m) := hz
  have H8 : Hid _ := h8
  have hn : n ≤ 100000 := by have := hz.1; have := HL.out; omega
  have hxi : (x : Int) < (n : Int) := by omega
  have hx0 : (0 : Int) ≤ (x : Int) := by omega
  have HX : Hid _ := hx
  have HN : Hid _ := hN
  obtain ⟨r, hr⟩ : ∃ r, m.getD x [] = r := ⟨_, rfl⟩
  have HR : Hid _ := hr
  rw [hr] at HN
  clear h hz h8 hx hN hr
  go_enter Try.func32, Try.ntmps32
  go_wp2
  go_loopw [5] (fun v wr => ∃ k : Nat, k ≤ 9 ∧ v = .int .i64 k ∧ Box wr w.heap.size 33 #[.int .i64 e, .slice a n c] ∧ Below w.heap.size w wr ∧ Hid (∀ y, Ld.Free r y → k ≤ Ld.weight m y)) (fun v _ => 9 - (intOf v).toNat)
  case atStart => exact ⟨0, by omega, rfl, kb, hB, fun _ _ => Nat.zero_le _⟩
  case round =>
    clear kb hB
    obtain ⟨k, hk, rfl, kb, hbel, HK⟩ := hrel
    by_cases hk9 : k < 9
    · have hki : (k : Int) < 9 := by omega
      go_wp2
      go_loopw [6] (fun i wr => ∃ j : Nat, 1 ≤ j ∧ j ≤ 5 ∧ i = .int .i64 j ∧ Box wr w.heap.size 33 #[.int .i64 e, .slice a n c] ∧ Below w.heap.size w wr ∧ Hid (∀ y, Ld.Free r y → y < (j : Int) → k ≠ Ld.weight m y)) (fun i _ => 5 - (intOf i).toNat)
      case atStart => exact ⟨1, by omega, by omega, rfl, kb, hbel, fun y hy hlt => by have := hy.1.1; omega⟩
      case round =>
        clear kb hbel
        obtain ⟨j, hj1, hj5, rfl, kb, hbel, HJ⟩ := hrel
        have c0 := kb.cell 0 rfl
        have c1 := kb.cell 1 rfl
        by_cases hjlt : j < 5
        · have hji : (j : Int) < 5 := by omega
          obtain ⟨b, off, A, C, rfl, hb, hc, hrr⟩ := mat_at (Shape.now HA.out hbel) HX.out
          have hqz : (m.getD x []).length ≤ 100000 := HZ.out.2 _ (Mx.getD_mem m x (by have := HL.out; have := HX.out; omega))
          have hRow := Row.of_rep hrr
          rw [HR.out] at hc hqz hRow
          have HH : Hid (Calls _ _ _ _ _) := qhas A r.length C r j wr hRow hqz
          have HWT : Hid (Calls _ _ _ _ _) := rweight e (some ⟨b, off, none⟩) n c m (j : Int) wr (Shape.any (Shape.now HA.out hbel)) HZ.out
          have HWL : Hid (Ld.weight m (j : Int) ≤ 8) := Nat.le_trans (Ld.weight_le m _) H8.out
          obtain ⟨q, hq⟩ : ∃ q, Ld.weight m (j : Int) = q := ⟨_, rfl⟩
          have HQ : Hid _ := hq
          rw [hq] at HWT HWL
          obtain ⟨hv, hhv⟩ : ∃ hv, r.contains (j : Int) = hv := ⟨_, rfl⟩
          have HHV : Hid _ := hhv
          rw [hhv] at HH
          clear hrr hRow hhv hq hqz
          cases hv with
          | true =>
            go_wp2_with fail
            refine HH.out.mono ?_
            rintro r1 u1 ⟨rfl, hu1⟩
            replace hu1 := hu1.symm
            subst hu1
            go_wp2
            go_roundw
            case rel =>
              refine ⟨j + 1, by omega, by omega, by go_num, kb, hbel, fun y hy hlt => ?_⟩
              by_cases hyj : y = (j : Int)
              · exact absurd (List.contains_iff_mem.1 HHV.out) (by rw [← hyj]; exact hy.2)
              · exact HJ.out y hy (by omega)
            case measure => simp [intOf]; omega
          | false =>
            have HFR : Hid (Ld.Free r (j : Int)) := ⟨⟨by omega, by omega⟩, fun h9 => by have h7 := HHV.out; rw [List.contains_iff_mem.2 h9] at h7; cases h7⟩
            by_cases hqk : q = k
            · have e1 : ((q : Int) == (k : Int)) = true := by rw [hqk]; exact beq_self_eq_true _
              have HE : Hid (N = (j : Int)) := by
                refine Ld.Node.one HN.out (.inr ⟨HFR.out, fun y hy => ?_⟩)
                have h1 := HK.out y hy
                have h2 := HQ.out
                by_cases hyj : y < (j : Int)
                · have := HJ.out y hy hyj
                  omega
                · omega
              clear hqk
              go_wp2_with fail
              refine HH.out.mono ?_
              rintro r1 u1 ⟨rfl, hu1⟩
              replace hu1 := hu1.symm
              subst hu1
              go_wp2_with fail
              refine HWT.out.mono ?_
              rintro r1 u2 ⟨rfl, hb2⟩
              go_wp2
              go_ret
              exact ⟨by rw [HE.out]; rfl, bel_then hbel hb2⟩
            · have e1 : ((q : Int) == (k : Int)) = false := by rw [beq_eq_false_iff_ne]; omega
              have HNE : Hid (k ≠ Ld.weight m (j : Int)) := fun h9 => hqk (HQ.out.symm.trans h9.symm)
              clear hqk
              go_wp2_with fail
              refine HH.out.mono ?_
              rintro r1 u1 ⟨rfl, hu1⟩
              replace hu1 := hu1.symm
              subst hu1
              go_wp2_with fail
              refine HWT.out.mono ?_
              rintro r1 W2 ⟨rfl, hb2⟩
              have HB2 : Hid _ := And.intro (kb.keep hb2) (bel_then hbel hb2)
              clear hb2
              go_wp2
              go_roundw
              case rel =>
                refine ⟨j + 1, by omega, by omega, by go_num, HB2.out.1, HB2.out.2, fun y hy hlt => ?_⟩
                by_cases hyj : y = (j : Int)
                · rw [hyj]; exact HNE.out
                · exact HJ.out y hy (by omega)
              case measure => simp [intOf]; omega
        · have hj : j = 5 := by omega
          subst hj
          have hji : ¬ (5 : Int) < 5 := by omega
          go_wp2
          go_roundw
          case rel =>
            refine ⟨k + 1, by omega, by go_num, kb, hbel, fun y hy => ?_⟩
            have h1 := HK.out y hy
            have h2 := HJ.out y hy (by have := hy.1.2; omega)
            omega
          case measure => simp [intOf]; omega
    · have hk : k = 9 := by omega
      subst hk
      have hki : ¬ (9 : Int) < 9 := by omega
      have HE : Hid (N = 0) := by
        refine Ld.Node.one HN.out (.inl ⟨rfl, fun y hy => ?_⟩)
        have h1 := HK.out y hy
        have h2 := Ld.weight_le m y
        have h3 := H8.out
        omega
      go_wp2
      go_ret
      exact ⟨by rw [HE.out]; rfl, hbel⟩

end Go.Proofs.Ytpldfalnoaamkaa
