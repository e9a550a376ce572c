/- LoadNotes, with letters. -/
import Derived.Test.YtpldfalnoaamkaaLdI
import Derived.Test.YtpldfalnoaamkaaLdT
import Derived.Test.YtpldfalnoaamkaaSy
namespace Go.Proofs.Ytpldfalnoaamkaa
open Go.ChangeShapes Go.WideShapes Go.ChangeAt Go.RowKit


set_option maxRecDepth 100000 in
set_option maxHeartbeats 4000000 in
theorem lnotes (G : LoadDoes) (b0 : Option Addr) (n0 c0 : Nat) (l : List Int) (x0 : Int) (e : Int) (a : Option Addr) (n c : Nat) (m : List (List Int)) (y : Int) (w : World) (h0 : rowS.rep w everywhere [.slice b0 n0 c0] l) (hf : ∀ y ∈ l, (-9223372036854775808 : Int) ≤ y) (h : matS.rep w everywhere [.slice a n c] m) :
    Calls Try.prog 3 #[.slice b0 n0 c0, .int .i64 x0, .agg #[.int .i64 e, .slice a n c], .int .i64 y] w fun r w' => r = .returned (.bool true) ∧ Below w.heap.size w w' := by
  obtain ⟨i0, hi0, hi1, hi2, hi3⟩ := info_parts Try.infoInt
  have HF := hidL hf
  clear hf
  have HAW : Hid (∀ u, Calls Try.prog 11 #[] u fun r w' => r = .returned (.bool true) ∧ Below u.heap.size u w') := fun u => G.awake u
  have HN0 : Hid (l.length = n0) := (sliceS_len h0).1
  have hbn := new_bel w (.cells #[.int .i64 e, .slice a n c] 25)
  have kb0 := Box.new w 25 #[.int .i64 e, .slice a n c]
  have HRW : Hid (∀ u, Below w.heap.size w u → rowS.rep u everywhere [.slice b0 n0 c0] l) := fun u hu => Shape.below h0 hu
  have HMA : Hid (∀ u, Below w.heap.size w u → matS.rep u everywhere [.slice a n c] m) := fun u hu => Shape.below h hu
  have HSM : Hid (Calls _ _ _ _ _) := small a n c m everywhere _ (Shape.below h hbn)
  have HBN := hidL hbn
  have KB0 := hidL kb0
  have e0 := kb0.cell 0 rfl
  have e1 := kb0.cell 1 rfl
  clear h0 h hbn kb0
  by_cases g60 : 60 < (n0 : Int)
  · go_enter Try.func3, Try.ntmps3
    go_wp2_with fail
    refine (HAW.out _).mono ?_
    rintro r WZ ⟨rfl, hbz⟩
    go_wp2
    go_ret
    exact ⟨rfl, bel_then (HBN.out) hbz⟩
  go_enter Try.func3, Try.ntmps3
  go_wp2_with fail
  refine HSM.out.mono ?_
  rintro r W1 ⟨⟨bb, rfl, hbb⟩, h9⟩
  subst h9
  clear HSM
  cases bb with
  | false =>
    go_wp2_with fail
    refine (HAW.out _).mono ?_
    rintro r WZ ⟨rfl, hbz⟩
    go_wp2
    go_ret
    exact ⟨rfl, bel_then (HBN.out) hbz⟩
  | true =>
    have HZ := hidL (Ld.small_sized (hbb.1 rfl))
    have hn0 : n0 ≤ 60 := by omega
    clear hbb
    have hnl := Ld.note_len l x0
    have HNO : Hid (∀ u, Below w.heap.size w u → Calls _ _ _ u _) := fun u hu => G.note b0 n0 c0 l x0 u (HRW.out u hu) (by omega) HF.out
    have HRC : Hid (∀ u, Below w.heap.size w u → Calls _ _ _ u _) := fun u hu => rcount b0 n0 c0 l x0 u (Row.of_rep (HRW.out u hu)) (by omega)
    obtain ⟨q, hq⟩ : ∃ q, (Ld.note l x0).length = q := ⟨_, rfl⟩
    obtain ⟨L1, hL1⟩ : ∃ L1, Ld.note l x0 = L1 := ⟨_, rfl⟩
    obtain ⟨v, hv⟩ : ∃ v, Ld.count l x0 = v := ⟨_, rfl⟩
    obtain ⟨p, hp⟩ : ∃ p, Ld.weight m y = p := ⟨_, rfl⟩
    have hvl := Ld.count_low HF.out x0
    have HV := hidL hv
    have HP := hidL hp
    have HL1 := hidL hL1
    rw [hq] at hnl
    rw [hq, hL1] at HNO
    rw [hv] at HRC hvl
    rw [hL1] at hq
    have HQ : Hid (L1.length = q ∧ q ≤ 68) := ⟨hq, by have := HN0.out; omega⟩
    clear hv hp hL1 hq hnl
    go_wp2_with fail
    refine (HNO.out _ HBN.out).mono ?_
    rintro r W1 ⟨hb1, a1, c1, rfl, hr1⟩
    have HB1 := hidL (bel_then HBN.out hb1)
    have k1 := KB0.out.keep hb1
    have HR1 := hidL hr1
    have K1 := hidL k1
    clear hb1 hr1 KB0 e0 e1 HNO
    have ho0 : Own (intS .i64) (W1.alloc (.cells #[] 3)) W1.heap.size 3 (.slice (some ⟨W1.heap.size, 0, none⟩) 0 0) [] := Own.empty _ W1 _
    have hrl := Shape.now (Shape.low (HRW.out W1 HB1.out)) (new_bel W1 (.cells #[] 3))
    have hoff : ∀ b, b < W1.heap.size → some b ≠ Value.ownBlock (.slice (some ⟨W1.heap.size, 0, none⟩) 0 0) := fun b hb h9 => by have h8 : b = W1.heap.size := Option.some.inj h9; omega
    have hs5 : W1.heap.size ≤ (W1.alloc (.cells #[] 3)).heap.size := by simp
    have hk5 : ([] : List Int).length + n0 = n0 := Nat.zero_add _
    have hk6 : ([] : List Int).length + n0 ≤ 100000 := by rw [hk5]; omega
    have hcat : ([] : List Int) ++ l = l := rfl
    by_cases g : (0 ≤ x0 ∧ x0 ≤ 7) ∧ v < 2147483647
    · obtain ⟨⟨g1, g2⟩, g3⟩ := g
      obtain ⟨j, rfl⟩ : ∃ j : Nat, x0 = (j : Int) := ⟨x0.toNat, by omega⟩
      have hj : j ≤ 7 := by omega
      have HME : Hid ((Ld.pad l (j + 1)).set j (v + 1) = L1) := by
        have h9 := Ld.note_yes (l := l) (x := (j : Int)) ⟨⟨by omega, by omega⟩, by rw [HV.out]; omega⟩
        rw [HV.out, HL1.out, Int.toNat_natCast] at h9
        exact h9.symm
      go_upto_region 5 with (at_builtin; refine wpList_appK (intS .i64) (by simp [Region.wanted]) (.tmp 24) (.tmp 25) 22 rfl W1.heap.size 3 i0 (.int .i64 0) 8 Try.underlying22 hi0 hi1 hi2 hi3 rfl Nat.one_pos (by omega) (by rfl) ho0 (by rfl) hrl hoff hk6 hs5 n0 hk5 l hcat ?_; intro a7 c7 W2 ho7 hg7 hb7 hat7)
      have hb12 : Below W1.heap.size W1 W2 := (new_bel W1 (.cells #[] 3)).trans (hb7)
      have HB2 := hidL (bel_then HB1.out hb12)
      have HB12 := hidL hb12
      have hsz : W1.heap.size ≤ W2.heap.size := hb12.size
      clear ho0 hrl hoff hs5 hg7 hat7 hb7 hb12 k1
      go_wp2_with fail
      refine (HRC.out _ HB2.out).mono ?_
      rintro r u2 ⟨rfl, h9⟩
      subst h9
      go_wp2
      have HB0 := hidL ho7
      clear ho7
      obtain ⟨W3, hW3⟩ : ∃ W3, W3 = u2 := ⟨_, rfl⟩
      subst hW3
      go_loopw [10] (fun v wr => ∃ (k : Nat) (a : Option Addr) (c : Nat), v = .slice a k c ∧ Hid (n0 ≤ k ∧ k ≤ max n0 (j + 1)) ∧ k ≤ 1000 ∧ Own (intS .i64) wr W1.heap.size 3 (.slice a k c) (Ld.pad l k) ∧ Below W1.heap.size W3 wr) (fun v _ => j + 1 - Ld.spanOf v)
      case atStart => exact ⟨n0, _, _, rfl, ⟨Nat.le_refl _, by omega⟩, by omega, by rw [Ld.pad_short (Nat.le_of_eq HN0.out.symm)]; exact HB0.out, Below.refl _ _⟩
      case round =>
        obtain ⟨k, a3, c3, rfl, HK, hk1, hown, hbel⟩ := hrel
        by_cases hkj : k ≤ j
        · have hki : (k : Int) ≤ (j : Int) := by omega
          obtain ⟨hsrc, hoff⟩ := Own.esrc (F := fun _ => False) (cs := [.int .i64 0]) (x := (0 : Int)) hown rfl (fun _ h => h.elim)
          have hown5 := hown.keep (new_bel wr (.cells #[.int .i64 0] 3))
          have hB5 := hbel.trans ((new_bel wr (.cells #[.int .i64 0] 3)).mono (by have := hbel.size; omega))
          have hs5 : W1.heap.size ≤ (wr.alloc (.cells #[.int .i64 0] 3)).heap.size := by have := hB5.size; omega
          have hlen : (Ld.pad l k).length = k := by rw [Ld.pad_len]; have := HK.out.1; have := HN0.out; omega
          have hk5 : (Ld.pad l k).length + 1 = k + 1 := by rw [hlen]
          have hk6 : (Ld.pad l k).length + 1 ≤ 100000 := by rw [hlen]; omega
          have hcat : Ld.pad l k ++ [0] = Ld.pad l (k + 1) := Ld.pad_step (by have := HK.out.1; have := HN0.out; omega)
          clear hown hbel hlen
          generalize Ld.pad l k = L at *
          obtain ⟨L2, hL2⟩ : ∃ L2, Ld.pad l (k + 1) = L2 := ⟨_, rfl⟩
          have HL2 := hidL hL2
          rw [hL2] at hcat
          clear hL2
          go_wp2_with (at_builtin; refine wpList_appK (intS .i64) (by simp [Region.wanted]) (.tmp 43) (.tmp 44) 22 rfl W1.heap.size 3 i0 (.int .i64 0) 8 Try.underlying22 hi0 hi1 hi2 hi3 rfl Nat.one_pos (by omega) (by rfl) hown5 (by rfl) hsrc hoff hk6 hs5 (k + 1) hk5 L2 hcat ?_; intro a7 c7 u7 ho7 hg7 hb7 hat7)
          go_roundw
          case rel => exact ⟨k + 1, a7, c7, rfl, ⟨by have := HK.out.1; omega, by have := HK.out.2; omega⟩, by omega, by rw [HL2.out]; exact ho7, hB5.trans hb7⟩
          case measure => show j + 1 - (k + 1) < j + 1 - k; omega
        · have hki : ¬ (k : Int) ≤ (j : Int) := by omega
          have hjk : j < k := by omega
          have hjk2 : (j : Int) < (k : Int) := by omega
          have HPM : Hid (Ld.pad l k = Ld.pad l (j + 1)) := Ld.pad_more (by omega) (by have := HK.out.2; have := HN0.out; omega)
          obtain ⟨g, rfl, hbg, hgl, hpl⟩ := hown.form (by omega)
          have hcell : wr.cell? ⟨g, j, none⟩ = some (.int .i64 v) := by
            obtain ⟨b, off, he, _, hc⟩ := (Row.of_rep hown.is).at (j := j) hjk
            cases he
            rw [Nat.zero_add] at hc
            rw [hc, Ld.pad_at, ← Ld.count_nat, HV.out]
          obtain ⟨_, hfr, hst⟩ := Own.store (A := intS .i64) (v := .int .i64 (v + 1)) (x := v + 1) (F := fun _ => False) rfl hown hjk rfl (fun _ h => h.elim)
          have hwr : IntKind.i64.wrap (v + 1) = v + 1 := by rw [IntKind.wrap_i64]; omega
          have hbu : Below W1.heap.size W3 (wr.setCell ⟨g, j, none⟩ (.int .i64 (v + 1))) := bel_put (i := j) hbel hbg (.int .i64 (v + 1))
          rw [HPM.out, HME.out] at hst
          have hr2 := hst.is
          obtain ⟨WU, hWU⟩ : ∃ WU, WU = wr.setCell ⟨g, j, none⟩ (.int .i64 (v + 1)) := ⟨_, rfl⟩
          rw [← hWU] at hbu hr2
          have HRW2 := hidL hr2
          have HWU := hidL hWU
          have HBX := hidL (HB12.out.trans hbu)
          have HQ2 : Hid (k ≤ 1000) := hk1
          clear hst hown hbel hbu hr2 hWU
          have HBU := hidL (bel_then HB1.out HBX.out)
          have HRM : Hid (rowS.rep WU everywhere [.slice a1 q c1] L1) := Shape.any (Shape.now (Shape.low HR1.out) HBX.out)
          have kbu := K1.out.keep HBX.out
          have hne9 : Nonempty (Later WU) := Later.there WU
          have d0 : ∀ x : Later WU, x.u.cell? ⟨w.heap.size, 0, none⟩ = _ := fun x => x.cell (kbu.cell 0 rfl)
          have d1 : ∀ x : Later WU, x.u.cell? ⟨w.heap.size, 1, none⟩ = _ := fun x => x.cell (kbu.cell 1 rfl)
          have HSA : Hid (∀ x : Later WU, Calls Try.prog 14 #[.slice a1 q c1, .slice (some ⟨g, 0, none⟩) k c3] x.u fun r w' => r = .returned (.bool true) ∧ Below x.u.heap.size x.u w') := fun x => (vsays a1 (some ⟨g, 0, none⟩) q k c1 c3 L1 L1 x.u ((Row.of_rep HRM.out).keep x.h) ((Row.of_rep HRW2.out).keep x.h) (by have := HQ.out; omega) (by have := HQ2.out; omega)).mono fun _ _ ⟨hs, hb'⟩ => ⟨hs.is rfl, hb'⟩
          have HC1 : Hid (∀ x : Later WU, Calls Try.prog 15 #[.slice b0 n0 c0, .int .i64 (j : Int)] x.u fun r w' => r = .returned (.int .i64 v) ∧ Below x.u.heap.size x.u w') := fun x => by
            have h9 := G.count b0 n0 c0 l (j : Int) x.u (Row.of_rep (HRW.out _ (bel_then HBU.out x.h))) (by omega)
            rw [HV.out] at h9
            exact h9
          have HC2 : Hid (∀ x : Later WU, Calls Try.prog 13 #[.slice b0 n0 c0, .int .i64 (j : Int)] x.u fun r w' => r = .returned (.int .i64 v) ∧ w' = x.u) := fun x => by
            have h9 := rcount b0 n0 c0 l (j : Int) x.u (Row.of_rep (HRW.out _ (bel_then HBU.out x.h))) (by omega)
            rw [HV.out] at h9
            exact h9
          have HW1 : Hid (∀ x : Later WU, Calls Try.prog 16 #[.agg #[.int .i64 e, .slice a n c], .int .i64 y] x.u fun r w' => r = .returned (.int .i64 (p : Nat)) ∧ Below x.u.heap.size x.u w') := fun x => by
            have h9 := G.weight e a n c m y x.u (HMA.out _ (bel_then HBU.out x.h)) HZ.out
            rw [HP.out] at h9
            exact h9
          have HW2 : Hid (∀ x : Later WU, Calls Try.prog 17 #[.agg #[.int .i64 e, .slice a n c], .int .i64 y] x.u fun r w' => r = .returned (.int .i64 (p : Nat)) ∧ Below x.u.heap.size x.u w') := fun x => by
            have h9 := rweight e a n c m y x.u (HMA.out _ (bel_then HBU.out x.h)) HZ.out
            rw [HP.out] at h9
            exact h9
          have HAX : Hid (∀ x : Later WU, Calls Try.prog 11 #[] x.u fun r w' => r = .returned (.bool true) ∧ Below x.u.heap.size x.u w') := fun x => G.awake x.u
          have t1 : (v == v) = true := beq_self_eq_true _
          have t2 : (((p : Nat) : Int) == ((p : Nat) : Int)) = true := beq_self_eq_true _
          clear kbu
          go_wp2
          rw [← HWU.out]
          refine region_later (by kernel_rfl) (by kernel_rfl) ?_
          repeat (go_big_quiet_step (first
            | (go_at_call 14; exact Later.call (HSA.out _))
            | (go_at_call 15; exact Later.call (HC1.out _))
            | (go_at_call 13; exact Later.same (HC2.out _))
            | (go_at_call 16; exact Later.call (HW1.out _))
            | (go_at_call 17; exact Later.call (HW2.out _))
            | (go_at_call 11; exact Later.call (HAX.out _))))
          refine wpQuiet_nil ?_
          intro x9
          obtain ⟨W9, hb9⟩ := x9
          go_wp2
          go_ret
          exact ⟨rfl, bel_then HBU.out hb9⟩
    · have HME : Hid (l = L1) := (Ld.note_no (by rw [HV.out]; exact g)).symm.trans HL1.out
      have hways : x0 < 0 ∨ (0 ≤ x0 ∧ 7 < x0) ∨ ((0 ≤ x0 ∧ x0 ≤ 7) ∧ 2147483647 ≤ v) := by omega
      rcases hways with g1 | ⟨g1, g2⟩ | ⟨⟨g1, g2⟩, g3⟩
      · skip
        go_upto_region 5 with (at_builtin; refine wpList_appK (intS .i64) (by simp [Region.wanted]) (.tmp 24) (.tmp 25) 22 rfl W1.heap.size 3 i0 (.int .i64 0) 8 Try.underlying22 hi0 hi1 hi2 hi3 rfl Nat.one_pos (by omega) (by rfl) ho0 (by rfl) hrl hoff hk6 hs5 n0 hk5 l hcat ?_; intro a7 c7 WU ho7 hg7 hb7 hat7)
        have hb12 : Below W1.heap.size W1 WU := (new_bel W1 (.cells #[] 3)).trans (hb7)
        have HBX := hidL hb12
        have HB2 := hidL (bel_then HB1.out hb12)
        rw [HME.out] at ho7
        have HRW2 := hidL ho7.is
        have HQ2 : Hid (n0 ≤ 1000) := by show n0 ≤ 1000; omega
        clear ho0 hrl hoff hs5 hg7 hat7 hb7 hb12 ho7 k1
        have HBU := hidL (bel_then HB1.out HBX.out)
        have HRM : Hid (rowS.rep WU everywhere [.slice a1 q c1] L1) := Shape.any (Shape.now (Shape.low HR1.out) HBX.out)
        have kbu := K1.out.keep HBX.out
        have hne9 : Nonempty (Later WU) := Later.there WU
        have d0 : ∀ x : Later WU, x.u.cell? ⟨w.heap.size, 0, none⟩ = _ := fun x => x.cell (kbu.cell 0 rfl)
        have d1 : ∀ x : Later WU, x.u.cell? ⟨w.heap.size, 1, none⟩ = _ := fun x => x.cell (kbu.cell 1 rfl)
        have HSA : Hid (∀ x : Later WU, Calls Try.prog 14 #[.slice a1 q c1, .slice a7 n0 c7] x.u fun r w' => r = .returned (.bool true) ∧ Below x.u.heap.size x.u w') := fun x => (vsays a1 a7 q n0 c1 c7 L1 L1 x.u ((Row.of_rep HRM.out).keep x.h) ((Row.of_rep HRW2.out).keep x.h) (by have := HQ.out; omega) (by have := HQ2.out; omega)).mono fun _ _ ⟨hs, hb'⟩ => ⟨hs.is rfl, hb'⟩
        have HC1 : Hid (∀ x : Later WU, Calls Try.prog 15 #[.slice b0 n0 c0, .int .i64 x0] x.u fun r w' => r = .returned (.int .i64 v) ∧ Below x.u.heap.size x.u w') := fun x => by
          have h9 := G.count b0 n0 c0 l x0 x.u (Row.of_rep (HRW.out _ (bel_then HBU.out x.h))) (by omega)
          rw [HV.out] at h9
          exact h9
        have HC2 : Hid (∀ x : Later WU, Calls Try.prog 13 #[.slice b0 n0 c0, .int .i64 x0] x.u fun r w' => r = .returned (.int .i64 v) ∧ w' = x.u) := fun x => by
          have h9 := rcount b0 n0 c0 l x0 x.u (Row.of_rep (HRW.out _ (bel_then HBU.out x.h))) (by omega)
          rw [HV.out] at h9
          exact h9
        have HW1 : Hid (∀ x : Later WU, Calls Try.prog 16 #[.agg #[.int .i64 e, .slice a n c], .int .i64 y] x.u fun r w' => r = .returned (.int .i64 (p : Nat)) ∧ Below x.u.heap.size x.u w') := fun x => by
          have h9 := G.weight e a n c m y x.u (HMA.out _ (bel_then HBU.out x.h)) HZ.out
          rw [HP.out] at h9
          exact h9
        have HW2 : Hid (∀ x : Later WU, Calls Try.prog 17 #[.agg #[.int .i64 e, .slice a n c], .int .i64 y] x.u fun r w' => r = .returned (.int .i64 (p : Nat)) ∧ Below x.u.heap.size x.u w') := fun x => by
          have h9 := rweight e a n c m y x.u (HMA.out _ (bel_then HBU.out x.h)) HZ.out
          rw [HP.out] at h9
          exact h9
        have HAX : Hid (∀ x : Later WU, Calls Try.prog 11 #[] x.u fun r w' => r = .returned (.bool true) ∧ Below x.u.heap.size x.u w') := fun x => G.awake x.u
        have t1 : (v == v) = true := beq_self_eq_true _
        have t2 : (((p : Nat) : Int) == ((p : Nat) : Int)) = true := beq_self_eq_true _
        clear kbu
        go_wp2
        skip
        refine region_later (by kernel_rfl) (by kernel_rfl) ?_
        repeat (go_big_quiet_step (first
          | (go_at_call 14; exact Later.call (HSA.out _))
          | (go_at_call 15; exact Later.call (HC1.out _))
          | (go_at_call 13; exact Later.same (HC2.out _))
          | (go_at_call 16; exact Later.call (HW1.out _))
          | (go_at_call 17; exact Later.call (HW2.out _))
          | (go_at_call 11; exact Later.call (HAX.out _))))
        refine wpQuiet_nil ?_
        intro x9
        obtain ⟨W9, hb9⟩ := x9
        go_wp2
        go_ret
        exact ⟨rfl, bel_then HBU.out hb9⟩
      · skip
        go_upto_region 5 with (at_builtin; refine wpList_appK (intS .i64) (by simp [Region.wanted]) (.tmp 24) (.tmp 25) 22 rfl W1.heap.size 3 i0 (.int .i64 0) 8 Try.underlying22 hi0 hi1 hi2 hi3 rfl Nat.one_pos (by omega) (by rfl) ho0 (by rfl) hrl hoff hk6 hs5 n0 hk5 l hcat ?_; intro a7 c7 WU ho7 hg7 hb7 hat7)
        have hb12 : Below W1.heap.size W1 WU := (new_bel W1 (.cells #[] 3)).trans (hb7)
        have HBX := hidL hb12
        have HB2 := hidL (bel_then HB1.out hb12)
        rw [HME.out] at ho7
        have HRW2 := hidL ho7.is
        have HQ2 : Hid (n0 ≤ 1000) := by show n0 ≤ 1000; omega
        clear ho0 hrl hoff hs5 hg7 hat7 hb7 hb12 ho7 k1
        have HBU := hidL (bel_then HB1.out HBX.out)
        have HRM : Hid (rowS.rep WU everywhere [.slice a1 q c1] L1) := Shape.any (Shape.now (Shape.low HR1.out) HBX.out)
        have kbu := K1.out.keep HBX.out
        have hne9 : Nonempty (Later WU) := Later.there WU
        have d0 : ∀ x : Later WU, x.u.cell? ⟨w.heap.size, 0, none⟩ = _ := fun x => x.cell (kbu.cell 0 rfl)
        have d1 : ∀ x : Later WU, x.u.cell? ⟨w.heap.size, 1, none⟩ = _ := fun x => x.cell (kbu.cell 1 rfl)
        have HSA : Hid (∀ x : Later WU, Calls Try.prog 14 #[.slice a1 q c1, .slice a7 n0 c7] x.u fun r w' => r = .returned (.bool true) ∧ Below x.u.heap.size x.u w') := fun x => (vsays a1 a7 q n0 c1 c7 L1 L1 x.u ((Row.of_rep HRM.out).keep x.h) ((Row.of_rep HRW2.out).keep x.h) (by have := HQ.out; omega) (by have := HQ2.out; omega)).mono fun _ _ ⟨hs, hb'⟩ => ⟨hs.is rfl, hb'⟩
        have HC1 : Hid (∀ x : Later WU, Calls Try.prog 15 #[.slice b0 n0 c0, .int .i64 x0] x.u fun r w' => r = .returned (.int .i64 v) ∧ Below x.u.heap.size x.u w') := fun x => by
          have h9 := G.count b0 n0 c0 l x0 x.u (Row.of_rep (HRW.out _ (bel_then HBU.out x.h))) (by omega)
          rw [HV.out] at h9
          exact h9
        have HC2 : Hid (∀ x : Later WU, Calls Try.prog 13 #[.slice b0 n0 c0, .int .i64 x0] x.u fun r w' => r = .returned (.int .i64 v) ∧ w' = x.u) := fun x => by
          have h9 := rcount b0 n0 c0 l x0 x.u (Row.of_rep (HRW.out _ (bel_then HBU.out x.h))) (by omega)
          rw [HV.out] at h9
          exact h9
        have HW1 : Hid (∀ x : Later WU, Calls Try.prog 16 #[.agg #[.int .i64 e, .slice a n c], .int .i64 y] x.u fun r w' => r = .returned (.int .i64 (p : Nat)) ∧ Below x.u.heap.size x.u w') := fun x => by
          have h9 := G.weight e a n c m y x.u (HMA.out _ (bel_then HBU.out x.h)) HZ.out
          rw [HP.out] at h9
          exact h9
        have HW2 : Hid (∀ x : Later WU, Calls Try.prog 17 #[.agg #[.int .i64 e, .slice a n c], .int .i64 y] x.u fun r w' => r = .returned (.int .i64 (p : Nat)) ∧ Below x.u.heap.size x.u w') := fun x => by
          have h9 := rweight e a n c m y x.u (HMA.out _ (bel_then HBU.out x.h)) HZ.out
          rw [HP.out] at h9
          exact h9
        have HAX : Hid (∀ x : Later WU, Calls Try.prog 11 #[] x.u fun r w' => r = .returned (.bool true) ∧ Below x.u.heap.size x.u w') := fun x => G.awake x.u
        have t1 : (v == v) = true := beq_self_eq_true _
        have t2 : (((p : Nat) : Int) == ((p : Nat) : Int)) = true := beq_self_eq_true _
        clear kbu
        go_wp2
        skip
        refine region_later (by kernel_rfl) (by kernel_rfl) ?_
        repeat (go_big_quiet_step (first
          | (go_at_call 14; exact Later.call (HSA.out _))
          | (go_at_call 15; exact Later.call (HC1.out _))
          | (go_at_call 13; exact Later.same (HC2.out _))
          | (go_at_call 16; exact Later.call (HW1.out _))
          | (go_at_call 17; exact Later.call (HW2.out _))
          | (go_at_call 11; exact Later.call (HAX.out _))))
        refine wpQuiet_nil ?_
        intro x9
        obtain ⟨W9, hb9⟩ := x9
        go_wp2
        go_ret
        exact ⟨rfl, bel_then HBU.out hb9⟩
      · skip
        go_upto_region 5 with (at_builtin; refine wpList_appK (intS .i64) (by simp [Region.wanted]) (.tmp 24) (.tmp 25) 22 rfl W1.heap.size 3 i0 (.int .i64 0) 8 Try.underlying22 hi0 hi1 hi2 hi3 rfl Nat.one_pos (by omega) (by rfl) ho0 (by rfl) hrl hoff hk6 hs5 n0 hk5 l hcat ?_; intro a7 c7 WU ho7 hg7 hb7 hat7)
        have hb12 : Below W1.heap.size W1 WU := (new_bel W1 (.cells #[] 3)).trans (hb7)
        have HBX := hidL hb12
        have HB2 := hidL (bel_then HB1.out hb12)
        rw [HME.out] at ho7
        have HRW2 := hidL ho7.is
        have HQ2 : Hid (n0 ≤ 1000) := by show n0 ≤ 1000; omega
        clear ho0 hrl hoff hs5 hg7 hat7 hb7 hb12 ho7 k1
        go_wp2_with fail
        refine (HRC.out _ HB2.out).mono ?_
        rintro r u2 ⟨rfl, h9⟩
        replace h9 := h9.symm
        subst h9
        have HBU := hidL (bel_then HB1.out HBX.out)
        have HRM : Hid (rowS.rep WU everywhere [.slice a1 q c1] L1) := Shape.any (Shape.now (Shape.low HR1.out) HBX.out)
        have kbu := K1.out.keep HBX.out
        have hne9 : Nonempty (Later WU) := Later.there WU
        have d0 : ∀ x : Later WU, x.u.cell? ⟨w.heap.size, 0, none⟩ = _ := fun x => x.cell (kbu.cell 0 rfl)
        have d1 : ∀ x : Later WU, x.u.cell? ⟨w.heap.size, 1, none⟩ = _ := fun x => x.cell (kbu.cell 1 rfl)
        have HSA : Hid (∀ x : Later WU, Calls Try.prog 14 #[.slice a1 q c1, .slice a7 n0 c7] x.u fun r w' => r = .returned (.bool true) ∧ Below x.u.heap.size x.u w') := fun x => (vsays a1 a7 q n0 c1 c7 L1 L1 x.u ((Row.of_rep HRM.out).keep x.h) ((Row.of_rep HRW2.out).keep x.h) (by have := HQ.out; omega) (by have := HQ2.out; omega)).mono fun _ _ ⟨hs, hb'⟩ => ⟨hs.is rfl, hb'⟩
        have HC1 : Hid (∀ x : Later WU, Calls Try.prog 15 #[.slice b0 n0 c0, .int .i64 x0] x.u fun r w' => r = .returned (.int .i64 v) ∧ Below x.u.heap.size x.u w') := fun x => by
          have h9 := G.count b0 n0 c0 l x0 x.u (Row.of_rep (HRW.out _ (bel_then HBU.out x.h))) (by omega)
          rw [HV.out] at h9
          exact h9
        have HC2 : Hid (∀ x : Later WU, Calls Try.prog 13 #[.slice b0 n0 c0, .int .i64 x0] x.u fun r w' => r = .returned (.int .i64 v) ∧ w' = x.u) := fun x => by
          have h9 := rcount b0 n0 c0 l x0 x.u (Row.of_rep (HRW.out _ (bel_then HBU.out x.h))) (by omega)
          rw [HV.out] at h9
          exact h9
        have HW1 : Hid (∀ x : Later WU, Calls Try.prog 16 #[.agg #[.int .i64 e, .slice a n c], .int .i64 y] x.u fun r w' => r = .returned (.int .i64 (p : Nat)) ∧ Below x.u.heap.size x.u w') := fun x => by
          have h9 := G.weight e a n c m y x.u (HMA.out _ (bel_then HBU.out x.h)) HZ.out
          rw [HP.out] at h9
          exact h9
        have HW2 : Hid (∀ x : Later WU, Calls Try.prog 17 #[.agg #[.int .i64 e, .slice a n c], .int .i64 y] x.u fun r w' => r = .returned (.int .i64 (p : Nat)) ∧ Below x.u.heap.size x.u w') := fun x => by
          have h9 := rweight e a n c m y x.u (HMA.out _ (bel_then HBU.out x.h)) HZ.out
          rw [HP.out] at h9
          exact h9
        have HAX : Hid (∀ x : Later WU, Calls Try.prog 11 #[] x.u fun r w' => r = .returned (.bool true) ∧ Below x.u.heap.size x.u w') := fun x => G.awake x.u
        have t1 : (v == v) = true := beq_self_eq_true _
        have t2 : (((p : Nat) : Int) == ((p : Nat) : Int)) = true := beq_self_eq_true _
        clear kbu
        go_wp2
        skip
        refine region_later (by kernel_rfl) (by kernel_rfl) ?_
        repeat (go_big_quiet_step (first
          | (go_at_call 14; exact Later.call (HSA.out _))
          | (go_at_call 15; exact Later.call (HC1.out _))
          | (go_at_call 13; exact Later.same (HC2.out _))
          | (go_at_call 16; exact Later.call (HW1.out _))
          | (go_at_call 17; exact Later.call (HW2.out _))
          | (go_at_call 11; exact Later.call (HAX.out _))))
        refine wpQuiet_nil ?_
        intro x9
        obtain ⟨W9, hb9⟩ := x9
        go_wp2
        go_ret
        exact ⟨rfl, bel_then HBU.out hb9⟩

end Go.Proofs.Ytpldfalnoaamkaa
