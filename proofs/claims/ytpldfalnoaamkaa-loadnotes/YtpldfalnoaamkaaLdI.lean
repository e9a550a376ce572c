/- What load.Note does when called, and the fixed answer of layer 21's laws. -/
import Derived.Test.YtpldfalnoaamkaaLdH
import Derived.Test.YtpldfalnoaamkaaLits
import Derived.Test.YtpldfalnoaamkaaLe
namespace Go.Proofs.Ytpldfalnoaamkaa
open Go.ChangeShapes Go.WideShapes Go.ChangeAt Go.RowKit

/-- How long a slice is. -/
def Ld.spanOf : Value → Nat
  | .slice _ n _ => n
  | _ => 0
theorem Ld.count_low {l : List Int} (h : ∀ y ∈ l, (-9223372036854775808 : Int) ≤ y) (x : Int) : (-9223372036854775808 : Int) ≤ Ld.count l x := by
  unfold Ld.count
  split
  · exact h _ (Mx.num_mem l _ (by omega))
  · omega
theorem Ld.pad_step {l : List Int} {k : Nat} (h : l.length ≤ k) : Ld.pad l k ++ [0] = Ld.pad l (k + 1) := by
  unfold Ld.pad
  rw [List.append_assoc, show k + 1 - l.length = (k - l.length) + 1 by omega, List.replicate_succ']
theorem Ld.pad_more {l : List Int} {k j : Nat} (h : j + 1 ≤ k) (hk : k ≤ max l.length (j + 1)) : Ld.pad l k = Ld.pad l (j + 1) := by
  by_cases h1 : k = j + 1
  · rw [h1]
  · rw [Ld.pad_short (by omega : k ≤ l.length), Ld.pad_short (by omega : j + 1 ≤ l.length)]

set_option maxRecDepth 100000 in
set_option maxHeartbeats 2000000 in
theorem lnote (b0 : Option Addr) (n0 c0 : Nat) (l : List Int) (x : Int) (w : World) (h : rowS.rep w everywhere [.slice b0 n0 c0] l) (hn0 : n0 ≤ 1000) (hf : ∀ y ∈ l, (-9223372036854775808 : Int) ≤ y) :
    Calls Try.prog 12 #[.slice b0 n0 c0, .int .i64 x] w fun r w' => Below w.heap.size w w' ∧ ∃ a c, r = .returned (.slice a (Ld.note l x).length c) ∧ rowS.rep w' (w.heap.size ≤ ·) [.slice a (Ld.note l x).length c] (Ld.note l x) := by
  have hl := (sliceS_len h).1
  obtain ⟨i0, hi0, hi1, hi2, hi3⟩ := info_parts Try.infoInt
  have HC : Hid (Calls _ _ _ _ _) := clone b0 n0 c0 l w h hn0
  obtain ⟨v, hv⟩ : ∃ v, Ld.count l x = v := ⟨_, rfl⟩
  have HCT : Hid (∀ u, Below w.heap.size w u → Calls Try.prog 15 #[.slice b0 n0 c0, .int .i64 x] u fun r w' => r = .returned (.int .i64 v) ∧ w' = u) := fun u hu => by
    have h9 := lcount b0 n0 c0 l x u ((Row.of_rep h).keep hu) (by omega)
    rw [hv] at h9
    exact h9
  have hlow := Ld.count_low hf x
  rw [hv] at hlow
  have HL : Hid (l.length = n0) := hl
  have HV := hidL hv
  obtain ⟨M, hM⟩ : ∃ M, Ld.note l x = M := ⟨_, rfl⟩
  rw [hM]
  have HM := hidL hM
  clear h hl hf hv hM
  by_cases d1 : x < 0
  · obtain rfl : l = M := (Ld.note_no (by omega)).symm.trans HM.out
    rw [HL.out]
    go_enter Try.func12, Try.ntmps12
    go_wp2_with fail
    refine HC.out.mono ?_
    rintro r u1 ⟨hb1, a1, c1, rfl, ho1⟩
    go_wp2
    go_ret
    exact ⟨hb1, a1, c1, rfl, ho1.high⟩
  by_cases d2 : 8 ≤ x
  · obtain rfl : l = M := (Ld.note_no (by omega)).symm.trans HM.out
    rw [HL.out]
    go_enter Try.func12, Try.ntmps12
    go_wp2_with fail
    refine HC.out.mono ?_
    rintro r u1 ⟨hb1, a1, c1, rfl, ho1⟩
    go_wp2
    go_ret
    exact ⟨hb1, a1, c1, rfl, ho1.high⟩
  by_cases d3 : 2147483647 ≤ v
  · obtain rfl : l = M := (Ld.note_no (by rw [HV.out]; omega)).symm.trans HM.out
    rw [HL.out]
    go_enter Try.func12, Try.ntmps12
    go_wp2_with fail
    refine HC.out.mono ?_
    rintro r u1 ⟨hb1, a1, c1, rfl, ho1⟩
    go_wp2_with fail
    refine (HCT.out _ hb1).mono ?_
    rintro r u2 ⟨rfl, h9⟩
    subst h9
    go_wp2
    go_ret
    exact ⟨hb1, a1, c1, rfl, ho1.high⟩
  obtain ⟨j, rfl⟩ : ∃ j : Nat, x = (j : Int) := ⟨x.toNat, by omega⟩
  have hj : j ≤ 7 := by omega
  have HME : Hid ((Ld.pad l (j + 1)).set j (v + 1) = M) := by
    have h9 := Ld.note_yes (l := l) (x := (j : Int)) ⟨⟨by omega, by omega⟩, by rw [HV.out]; omega⟩
    rw [HV.out, HM.out, Int.toNat_natCast] at h9
    exact h9.symm
  go_enter Try.func12, Try.ntmps12
  go_wp2_with fail
  refine HC.out.mono ?_
  rintro r u1 ⟨hb1, a1, c1, rfl, ho1⟩
  go_wp2_with fail
  refine (HCT.out _ hb1).mono ?_
  rintro r u2 ⟨rfl, h9⟩
  subst h9
  go_wp2
  go_loopw [5] (fun v wr => ∃ (k : Nat) (a : Option Addr) (c : Nat), v = .slice a k c ∧ Hid (n0 ≤ k ∧ k ≤ max n0 (j + 1)) ∧ k ≤ 1000 ∧ Own (intS .i64) wr w.heap.size 3 (.slice a k c) (Ld.pad l k) ∧ Below w.heap.size w wr) (fun v _ => j + 1 - Ld.spanOf v)
  case atStart => exact ⟨n0, a1, c1, rfl, ⟨Nat.le_refl _, by omega⟩, hn0, by rw [Ld.pad_short (Nat.le_of_eq HL.out.symm)]; exact ho1, hb1⟩
  case round =>
    clear ho1 hb1
    obtain ⟨k, a, c, rfl, HK, hk1, hown, hbel⟩ := hrel
    by_cases hkj : k ≤ j
    · have hki : (k : Int) ≤ (j : Int) := by omega
      obtain ⟨hsrc, hoff⟩ := Own.esrc (F := fun _ => False) (cs := [.int .i64 0]) (x := (0 : Int)) hown rfl (fun _ h => h.elim)
      have hown5 := hown.keep (new_bel wr (.cells #[.int .i64 0] 3))
      have hB5 := bel_then hbel (new_bel wr (.cells #[.int .i64 0] 3))
      have hs5 : w.heap.size ≤ (wr.alloc (.cells #[.int .i64 0] 3)).heap.size := hB5.size
      have hlen : (Ld.pad l k).length = k := by rw [Ld.pad_len]; have := HK.out.1; have := HL.out; omega
      have hk5 : (Ld.pad l k).length + 1 = k + 1 := by rw [hlen]
      have hk6 : (Ld.pad l k).length + 1 ≤ 100000 := by rw [hlen]; omega
      have hcat : Ld.pad l k ++ [0] = Ld.pad l (k + 1) := Ld.pad_step (by have := HK.out.1; have := HL.out; omega)
      clear hown hbel hlen
      generalize Ld.pad l k = L at *
      obtain ⟨L2, HL2⟩ : ∃ L2, Hid (Ld.pad l (k + 1) = L2) := ⟨_, rfl⟩
      rw [HL2.out] at hcat
      go_wp2_with (at_builtin; refine wpList_appK (intS .i64) (by simp [Region.wanted]) (.tmp 25) (.tmp 26) 22 rfl w.heap.size 3 i0 (.int .i64 0) 8 Try.underlying22 hi0 hi1 hi2 hi3 rfl Nat.one_pos (by omega) (by rfl) hown5 (by rfl) hsrc hoff hk6 hs5 (k + 1) hk5 L2 hcat ?_; intro a7 c7 u7 ho7 hg7 hb7 hat7)
      go_roundw
      case rel => exact ⟨k + 1, a7, c7, rfl, ⟨by have := HK.out.1; omega, by have := HK.out.2; omega⟩, by omega, by rw [HL2.out]; exact ho7, hB5.trans hb7⟩
      case measure => show j + 1 - (k + 1) < j + 1 - k; omega
    · have hki : ¬ (k : Int) ≤ (j : Int) := by omega
      have hjk : j < k := by omega
      have hjk2 : (j : Int) < (k : Int) := by omega
      have hj0 : (0 : Int) ≤ (j : Int) := by omega
      have HPM : Hid (Ld.pad l k = Ld.pad l (j + 1)) := Ld.pad_more (by omega) (by have := HK.out.2; have := HL.out; omega)
      obtain ⟨g, rfl, hbg, hgl, hpl⟩ := hown.form (by omega)
      have hcell : wr.cell? ⟨g, j, none⟩ = some (.int .i64 v) := by
        obtain ⟨b, off, he, _, hc⟩ := (Row.of_rep hown.is).at (j := j) hjk
        cases he
        rw [Nat.zero_add] at hc
        rw [hc, Ld.pad_at, ← Ld.count_nat, HV.out]
      obtain ⟨_, hfr, hst⟩ := Own.store (A := intS .i64) (v := .int .i64 (v + 1)) (x := v + 1) (F := fun _ => False) rfl hown hjk rfl (fun _ h => h.elim)
      have hwr : IntKind.i64.wrap (v + 1) = v + 1 := by rw [IntKind.wrap_i64]; omega
      have HST := hidL (And.intro hst (And.intro (bel_put (i := j) hbel hbg (.int .i64 (v + 1))) hpl))
      clear hst hown hbel hpl
      go_wp2
      go_ret
      have h9 := HST.out.1
      rw [HPM.out, HME.out] at h9
      have hML : M.length = k := by rw [← HME.out, List.length_set, ← HPM.out]; exact HST.out.2.2
      rw [hML]
      exact ⟨HST.out.2.1, _, _, rfl, h9.high⟩

/-! ### The fixed answer -/
theorem Ld.example_row {l : List Int} (h : l ∈ ([[1], [1]] : List (List Int))) : l = [1] := by
  rcases List.mem_cons.1 h with rfl | h
  · rfl
  · exact List.mem_singleton.1 h
theorem Ld.example_hot : Ld.Hot [9, 1] 0 [[1], [1]] 4 0 2 true := by
  have hw : ∀ k : Int, k ∉ ([1] : List Int) → Ld.weight [[1], [1]] k = 0 := fun k hk => by
    unfold Ld.weight
    split
    · unfold Ld.held
      rw [List.countP_eq_zero]
      intro a ha h9
      rw [Ld.example_row ha] at h9
      exact hk (List.contains_iff_mem.1 h9)
    · rfl
  refine .inr ⟨⟨⟨by omega, by simp, fun l hl => by rw [Ld.example_row hl]; exact Pl.rows_ok (by decide)⟩, by omega, by omega⟩, 0, ⟨⟨by simp, by decide, 2, ⟨by omega, by omega⟩, by decide⟩, fun y hy => ?_⟩, rfl, .inr ⟨⟨⟨by omega, by omega⟩, by decide⟩, fun k hk => ?_⟩, rfl⟩
  · have h1 : y < 2 := hy.1
    have h2 : y = 0 ∨ y = 1 := by omega
    rcases h2 with rfl | rfl
    · exact .inr ⟨rfl, Nat.le_refl _⟩
    · exact absurd hy.2.1 (by decide)
  · refine .inr ⟨?_, ?_⟩
    · rw [hw 2 (by decide), hw k hk.2]
    · have h1 := hk.1
      have h2 : k ≠ 1 := fun e => hk.2 (by rw [e]; decide)
      omega

set_option maxRecDepth 100000 in
set_option maxHeartbeats 2000000 in
theorem lawake (w : World) : Calls Try.prog 11 #[] w fun r w' => r = .returned (.bool true) ∧ Below w.heap.size w w' := by
  have r0 := row_lit w [9, 1] 3 (by simp [maxLen])
  obtain ⟨W0, hW0⟩ : ∃ W0, W0 = w.alloc (.cells #[.int .i64 9, .int .i64 1] 3) := ⟨_, rfl⟩
  have hb0 : Below w.heap.size w W0 := by rw [hW0]; exact new_bel _ _
  have hs0 : W0.heap.size = w.heap.size + 1 := by rw [hW0]; simp
  have r0' : rowS.rep W0 everywhere [.slice (some ⟨w.heap.size, 0, none⟩) 2 2] [9, 1] := by rw [hW0]; exact r0
  have m0 := mat_two W0 1 1
  have hb3 : Below W0.heap.size W0 (((W0.alloc (.cells #[.int .i64 1] 3)).alloc (.cells #[.int .i64 1] 3)).alloc (.cells #[.slice (some ⟨W0.heap.size, 0, none⟩) 1 1, .slice (some ⟨W0.heap.size + 1, 0, none⟩) 1 1] 22)) := bel_alloc (bel_two _ _ _) _
  have HB3 := hidL (bel_then hb0 hb3)
  have HC := lHot _ 2 2 [9, 1] 0 _ 2 2 [[1], [1]] 4 0 2 true _ (Row.of_rep (Shape.below r0' hb3)) (by omega) m0 ⟨by simp, fun l hl => by rw [Ld.example_row hl]; simp⟩ Ld.example_hot
  rw [hs0] at HB3 HC
  have HN : Hid (∀ u : World, Calls Try.prog 12 #[.slice none 0 0, .int .i64 2] u fun r w' => Below u.heap.size u w' ∧ ∃ a c, r = .returned (.slice a 3 c) ∧ rowS.rep w' (u.heap.size ≤ ·) [.slice a 3 c] [0, 0, 1]) := fun u => lnote none 0 0 [] 2 u (rep_none _ _ _) (by omega) (by simp)
  subst hW0
  clear r0 r0' m0 hb0 hs0 hb3
  go_enter Try.func11, Try.ntmps11
  go_wp2_with fail
  refine HC.mono ?_
  rintro r u1 ⟨rfl, hb1⟩
  have HB1 := hidL (bel_then HB3.out hb1)
  clear HC HB3 hb1
  go_wp2_with fail
  refine (HN.out u1).mono ?_
  rintro r u2 ⟨hb2, a2, c2, rfl, hr2⟩
  have HB2 := hidL (bel_then HB1.out hb2)
  have hRow := Row.of_rep hr2
  obtain ⟨b, off, rfl, hbb, hc⟩ := hRow.at (j := 2) (by omega)
  have hc2 : u2.cell? ⟨b, off + 2, none⟩ = some (.int .i64 1) := hc
  have HCC : Hid (Calls _ _ _ _ _) := lcount (some ⟨b, off, none⟩) 3 c2 [0, 0, 1] 1 u2 hRow (by omega)
  clear hc hr2 hRow hb2 HN HB1
  go_wp2_with fail
  refine HCC.out.mono ?_
  rintro r u3 ⟨rfl, h9⟩
  subst h9
  have e9 : Ld.count [0, 0, 1] 1 = 0 := rfl
  rw [e9]
  go_wp2
  go_ret
  exact ⟨rfl, HB2.out⟩

theorem given : LoadDoes where
  count := fun b0 n0 c0 l x w hr hn0 => (lcount b0 n0 c0 l x w hr hn0).mono fun _ _ ⟨h1, h2⟩ => ⟨h1, by rw [h2]; exact Below.refl _ _⟩
  weight := lweight
  hot := lHot
  cold := lCold
  note := fun b0 n0 c0 l x w h hn0 hf => (lnote b0 n0 c0 l x w h hn0 hf).mono fun _ _ ⟨h1, a, c, h2, h3⟩ => ⟨h1, a, c, h2, Shape.any h3⟩
  awake := lawake

end Go.Proofs.Ytpldfalnoaamkaa
