/- What is put into a bag, taken out of it, and doubled in it, is what the document says: for every bag, every text and every place, with no condition, the call returns true. -/
import Derived.Test.YtkpbkknneebdmaaRows
import Derived.Test.YtkpbkknneebdmaaBagD
import Derived.WalkKit
import Derived.ProofKit
import Derived.OpenShut
import Derived.ShutString
import Derived.ChangeOld
import Derived.Below
namespace Go.Proofs.Ytkpbkknneebdmaa.bagExact
open Go.ChangeShapes Go.WideShapes Go.ChangeAt Go.RowKit
open Go.ChangeMaps (open_string shut_string)
set_option linter.unusedVariables false

theorem own : ownKnob Try.prog.godebug = none := by kernel_rfl
theorem laidOut : laidOutB Try.prog = true := by kernel_rfl

/- The walk: the call returns true, and nothing that was there is written. -/
set_option maxHeartbeats 4000000 in
theorem walk (a0 : Option Addr) (len0 cap0 : Nat) (m0 : List ByteArray) (a1 : ByteArray) (a2 : Int) (w : World) (w0 : (sliceS strS).rep w everywhere [.slice a0 len0 cap0] m0) (f0 : (∀ x0 ∈ m0, ByteArray.size x0 ≤ maxLen)) (w1 : a1.size ≤ maxLen) (w2 : (Lit.int .i64 a2).wf = true) :
    Calls Try.prog 3 #[.slice a0 len0 cap0, .string a1, .int .i64 a2] w fun e w' => e = .returned (.bool true) ∧ Below w.heap.size w w' := by
  clear f0
  clear w1 w2
  have hA := Shape.low w0
  have hT := Texts.of_rep w0
  have HL0 : Hid (m0.length = len0) := (sliceS_len w0).1
  clear w0
  by_cases hl : 300 < len0
  · have hi : (300 : Int) < (len0 : Int) := by omega
    go_enter Try.func3, Try.ntmps3
    go_wp2_with fail
    refine (bawake _).mono ?_
    rintro e u1 ⟨rfl, hb1⟩
    go_wp2
    go_ret
    exact ⟨rfl, hb1⟩

  have hi : ¬ (300 : Int) < (len0 : Int) := by omega
  by_cases hs : 100 < a1.size
  · have hsi : (100 : Int) < (a1.size : Int) := by omega
    go_enter Try.func3, Try.ntmps3
    go_wp2_with fail
    refine (bawake _).mono ?_
    rintro e u1 ⟨rfl, hb1⟩
    go_wp2
    go_ret
    exact ⟨rfl, hb1⟩

  have hsi : ¬ (100 : Int) < (a1.size : Int) := by omega
  obtain ⟨m3, hm3⟩ : ∃ m3, Bx.put m0 a1 = m3 := ⟨_, rfl⟩
  obtain ⟨n3, hn3⟩ : ∃ n3, m3.length = n3 := ⟨_, rfl⟩
  have HP : Hid (Bx.put m0 a1 = m3) := hm3
  have HLP : Hid (m3.length = n3) := hn3
  have hn3b : n3 ≤ 301 := by
    rw [← hn3, ← hm3]
    by_cases hg : m0.length > 199
    · rw [Bx.put_len_full hg, HL0.out]; omega
    · rw [Bx.put_len_room hg, HL0.out]; omega
  clear hm3 hn3
  go_enter Try.func3, Try.ntmps3
  go_wp2
  go_loopw [24] (fun i wr => ∃ k : Nat, k ≤ len0 ∧ i = .int .i64 k ∧ wr = w) (fun i _ => len0 - (intOf i).toNat)
  case atStart => exact ⟨0, Nat.zero_le _, rfl, rfl⟩
  case round =>
    obtain ⟨j, hj, rfl, hww⟩ := hrel
    replace hww := hww.symm
    subst hww
    by_cases hlt : j < len0
    · have hli : (j : Int) < (len0 : Int) := by omega
      obtain ⟨b1, o1, rfl, hb1, hcell⟩ := hT.at hlt
      generalize m0.getD j noText = y at *
      by_cases hy : 100 < y.size
      · have hyi : (100 : Int) < (y.size : Int) := by omega
        go_wp2_with fail
        refine (bawake _).mono ?_
        rintro e u1 ⟨rfl, hb1⟩
        go_wp2
        go_ret
        exact ⟨rfl, hb1⟩

      · have hyi : ¬ (100 : Int) < (y.size : Int) := by omega
        go_wp2
        go_roundw
        case rel => exact ⟨j + 1, by omega, by go_num, by trivial⟩
        case measure => simp [intOf]; omega
    · have hjn : j = len0 := by omega
      have hli : ¬ (j : Int) < (len0 : Int) := by omega
      clear hjn
      by_cases hin : 0 ≤ a2 ∧ a2 < (len0 : Int)
      · obtain ⟨k, hka⟩ : ∃ k : Nat, a2 = k := ⟨a2.toNat, by omega⟩
        have hk : k < len0 := by omega
        subst hka
        obtain ⟨x, hx⟩ : ∃ x, m0.getD k noText = x := ⟨_, rfl⟩
        obtain ⟨m2, hm2⟩ : ∃ m2, Bx.without m0 k = m2 := ⟨_, rfl⟩
        obtain ⟨n2, hn2⟩ : ∃ n2, len0 - 1 = n2 := ⟨_, rfl⟩
        obtain ⟨m4, hm4⟩ : ∃ m4, Bx.put m0 x = m4 := ⟨_, rfl⟩
        obtain ⟨n4, hn4⟩ : ∃ n4, m4.length = n4 := ⟨_, rfl⟩
        have HX : Hid (m0.getD k noText = x) := hx
        have HW : Hid (Bx.without m0 k = m2) := hm2
        have HL2 : Hid (m2.length = n2) := by show _ = _; rw [← hm2, Bx.without_len (by have := HL0.out; omega), HL0.out, hn2]
        have H2 : Hid (len0 - 1 = n2) := hn2
        have HPx : Hid (Bx.put m0 x = m4) := hm4
        have HP4 : Hid (Bx.put m0 (m0.getD k noText) = m4) := by show _ = _; rw [hx]; exact hm4
        have HL4 : Hid (m4.length = n4) := hn4
        have hn4b : n4 ≤ 301 := by
          rw [← hn4, ← hm4]
          by_cases hg : m0.length > 199
          · rw [Bx.put_len_full hg, HL0.out]; omega
          · rw [Bx.put_len_room hg, HL0.out]; omega
        have hn2b : n2 ≤ 300 := by omega
        have HK : Hid (∀ j : Nat, j < len0 → ((j : Int) = (k : Int) ↔ j = k)) := fun j _ => by omega
        have hkn : (k : Int) < (len0 : Int) := by omega
        have hk0 : (0 : Int) ≤ (k : Int) := by omega
        have e0 : (x.toList == x.toList) = true := by simp
        clear hx hm2 hn2 hm4 hn4 hin
        go_wp2_with fail
        refine (take_to a0 len0 cap0 m0 k w (Shape.any hA) (by omega) hk _ rfl n2 H2.out x HX.out m2 HW.out).mono ?_
        rintro e u1 ⟨hb1, b1, c1, rfl, hr1⟩
        obtain ⟨b5, o5, ha0, hb5, hc5⟩ := (hT.keep hb1).at hk
        subst ha0
        rw [HX.out] at hc5
        have hd5 : ∀ y : Later u1, y.u.cell? ⟨b5, o5 + k, none⟩ = _ := fun y => y.cell hc5
        have hne9 : Nonempty (Later u1) := Later.there u1
        clear hc5
        go_wp2
        refine Ord.region (by kernel_rfl) (by kernel_rfl) [0, 1, 2, 3, 4, 5, 6, 7, 8, 9, 10, 11, 12, 13, 14, 16, 17, 18, 19, 20] 23 rfl (by kernel_rfl) ?_
        refine ⟨_, (by simp only [Ord.pickOps, Ord.stand, Ord.reads, List.getElem?_toArray, List.getElem?_cons_zero, List.getElem?_cons_succ, if_true]; rfl), ?_⟩
        repeat (go_big_quiet_step (fail))
        refine wpQuiet_nil ?_
        refine Ord.ready_one (i := 15) (by kernel_rfl) ?_
        intro x5 hx5
        refine Ord.by_call (vals := [.slice _ len0 cap0, .int .i64 (k : Int)]) rfl (by rfl) rfl (by kernel_rfl) (by rfl) 63 (by rfl) ?_
        refine (twice_to _ len0 cap0 m0 k x5 (Shape.any (Shape.now hA (bel_then hb1 hx5))) (by omega) hk _ rfl m4 HP4.out n4 HL4.out).mono ?_
        rintro e u2 ⟨hb2, p2, pc2, rfl, hr2⟩
        refine ⟨_, rfl, hb2, ?_⟩
        refine Ord.seg_put (by kernel_rfl) [] 22 rfl (by kernel_rfl) ?_
        refine ⟨[], rfl, ?_⟩
        repeat (go_big_quiet_step (fail))
        refine wpQuiet_nil ?_
        refine Ord.ready_one (i := 21) (by kernel_rfl) ?_
        intro x7 hx7
        refine Ord.by_call (vals := [.slice _ len0 cap0, .string x]) rfl (by rfl) rfl (by kernel_rfl) (by rfl) 69 (by rfl) ?_
        refine (rput _ len0 cap0 m0 x x7 (Shape.any (Shape.now hA (bel_then (bel_then (bel_then hb1 hx5) hb2) hx7))) (by omega)).mono ?_
        rw [HPx.out, HL4.out]
        rintro e u3 ⟨hb3, q2, qc2, rfl, hr3⟩
        refine ⟨_, rfl, hb3, ?_⟩
        refine Ord.seg_put (by kernel_rfl) [] 21 rfl (by kernel_rfl) ?_
        refine ⟨[], rfl, ?_⟩
        repeat (go_big_quiet_step (fail))
        refine wpQuiet_nil ?_
        refine Ord.ready_one (i := 22) (by kernel_rfl) ?_
        intro x8 hx8
        refine Ord.by_call (vals := [.slice p2 n4 pc2, .slice q2 n4 qc2]) rfl (by rfl) rfl (by kernel_rfl) (by rfl) 70 (by rfl) ?_
        refine (same_yes p2 n4 pc2 m4 q2 n4 qc2 x8 (Shape.below (Shape.below (Shape.below hr2 hx7) hb3) hx8) (Shape.below hr3 hx8) (by omega)).mono ?_
        rintro e u4 ⟨rfl, hb4⟩
        have hne4 : Nonempty (Later u4) := Later.there u4
        refine ⟨_, rfl, hb4, ?_⟩
        refine Ord.seg_put (by kernel_rfl) [23, 24, 25, 26, 27, 28, 29, 30, 31, 32, 33, 34, 35, 36, 37, 38, 39, 40, 41, 42] 0 rfl (by kernel_rfl) ?_
        refine ⟨_, (by simp only [Ord.pickOps, Ord.stand, Ord.reads, List.getElem?_toArray, List.getElem?_cons_zero, List.getElem?_cons_succ, if_true, Bool.false_eq_true, if_false]; rfl), ?_⟩
        repeat (go_big_quiet_step (fail))
        refine wpQuiet_nil ?_

        refine Ord.ready_none (by kernel_rfl) ?_
        intro x9
        obtain ⟨W9, hb9⟩ := x9
        have hb19 := bel_then (bel_then (bel_then (bel_then (bel_then (bel_then (bel_then hx5 hb2) hx7) hb3) hx8) hb4) (Below.refl _ _)) hb9
        clear hr2 hr3

        have hr9 := Shape.below hr1 hb19
        have hB9 := bel_then hb1 hb19
        go_wp2_with fail
        refine (rwithout _ len0 cap0 m0 (k : Int) k W9 (Shape.any (Shape.now hA hB9)) (by omega) HK.out).mono ?_
        rw [HW.out, HL2.out]
        rintro e u6 ⟨hb6, b6, c6, rfl, hr6⟩
        have hB6 := bel_then hB9 hb6
        have hr96 := Shape.below hr9 hb6
        go_wp2_with fail
        refine (same_yes b1 n2 c1 m2 b6 n2 c6 u6 hr96 hr6 (by omega)).mono ?_
        rintro e u7 ⟨rfl, hb7⟩
        have hB7 := bel_then hB6 hb7
        go_wp2_with fail
        refine (bput _ len0 cap0 m0 a1 u7 (Shape.any (Shape.now hA hB7)) (by omega)).mono ?_
        rw [HP.out, HLP.out]
        rintro e u8 ⟨hb8, b8, c8, rfl, hr8⟩
        have hB8 := bel_then hB7 hb8
        go_wp2_with fail
        refine (rput _ len0 cap0 m0 a1 u8 (Shape.any (Shape.now hA hB8)) (by omega)).mono ?_
        rw [HP.out, HLP.out]
        rintro e u10 ⟨hb10, b10, c10, rfl, hr10⟩
        have hB10 := bel_then hB8 hb10
        have hr810 := Shape.below hr8 hb10
        go_wp2_with fail
        refine (same_yes b8 n3 c8 m3 b10 n3 c10 u10 hr810 hr10 (by omega)).mono ?_
        rintro e u11 ⟨rfl, hb11⟩
        have hB11 := bel_then hB10 hb11
        clear hr1 hr9 hr6 hr96 hr8 hr10 hr810
        go_wp2_with fail
        refine (bawake _).mono ?_
        rintro e u12 ⟨rfl, hb12⟩
        have hB12 := bel_then hB11 hb12
        go_wp2
        go_ret
        exact ⟨rfl, hB12⟩

      · have HK : Hid (∀ j : Nat, j < len0 → ((j : Int) = a2 ↔ j = len0)) := fun j hj => by
          constructor
          · intro h; exact absurd (⟨by omega, by omega⟩ : 0 ≤ a2 ∧ a2 < (len0 : Int)) hin
          · intro h; omega
        have HI : Hid (¬ (0 ≤ a2 ∧ a2 < (len0 : Int))) := hin
        obtain ⟨k, hke⟩ : ∃ k, len0 = k := ⟨_, rfl⟩
        have HK' : Hid (∀ j : Nat, j < len0 → ((j : Int) = a2 ↔ j = k)) := by rw [← hke]; exact HK
        obtain ⟨m2, hm2⟩ : ∃ m2, m0 = m2 := ⟨_, rfl⟩
        obtain ⟨n2, hn2⟩ : ∃ n2, len0 = n2 := ⟨_, rfl⟩
        have HW : Hid (Bx.without m0 k = m2) := by show _ = _; rw [Bx.without_out (by rw [HL0.out]; omega)]; exact hm2
        have HM2 : Hid (m0 = m2) := hm2
        have HN2 : Hid (len0 = n2) := hn2
        have HL2 : Hid (m2.length = n2) := by show _ = _; rw [← hm2, HL0.out]; exact hn2
        have hn2b : n2 ≤ 300 := by omega
        have e0 : (noText.toList == ([] : List UInt8)) = true := text_none
        have e1 : (noText.toList == noText.toList) = true := by simp
        clear HK hke hm2 hn2
        by_cases hneg : 0 ≤ a2
        · have hge : ¬ a2 < (len0 : Int) := by omega
          have hgd : decide (a2 < (len0 : Int)) = false := by rw [decide_eq_false_iff_not]; exact hge
          go_wp2_with fail
          refine (btake_out a0 len0 cap0 m0 a2 w (Shape.any hA) (by omega) HI.out).mono ?_
          rintro e u1 ⟨hb1, b1, c1, rfl, hr1⟩
          have hne9 : Nonempty (Later u1) := Later.there u1
          go_wp2
          refine Ord.region (by kernel_rfl) (by kernel_rfl) [0, 1, 2, 3, 4, 5, 6, 7, 8, 9, 10, 11, 12, 13, 14, 15, 16, 17, 18, 19, 20, 21, 22, 23, 24, 25, 26, 27, 28, 29, 30, 31, 32, 33, 34, 35, 37] 6 rfl (by kernel_rfl) ?_
          refine ⟨_, (by simp only [Ord.pickOps, Ord.stand, Ord.reads, List.getElem?_toArray, List.getElem?_cons_zero, List.getElem?_cons_succ, if_true, Bool.false_eq_true, if_false]; rfl), ?_⟩
          repeat (go_big_quiet_step (fail))
          refine wpQuiet_nil ?_
          refine Ord.ready_one (i := 36) (by kernel_rfl) ?_
          intro x5 hx5
          refine Ord.by_call (vals := [.slice a0 len0 cap0, .int .i64 a2]) rfl (by rfl) rfl (by kernel_rfl) (by rfl) 84 (by rfl) ?_
          refine (btwice_out a0 len0 cap0 m0 a2 x5 (Shape.any (Shape.now hA (bel_then hb1 hx5))) (by omega) HI.out).mono ?_
          rintro e u2 ⟨hb2, p2, pc2, rfl, hr2⟩
          refine ⟨_, rfl, hb2, ?_⟩
          refine Ord.seg_put (by kernel_rfl) [] 5 rfl (by kernel_rfl) ?_
          refine ⟨[], rfl, ?_⟩
          repeat (go_big_quiet_step (fail))
          refine wpQuiet_nil ?_
          refine Ord.ready_one (i := 38) (by kernel_rfl) ?_
          intro x7 hx7
          refine Ord.by_call (vals := [.slice p2 len0 pc2, .slice a0 len0 cap0]) rfl (by rfl) rfl (by kernel_rfl) (by rfl) 86 (by rfl) ?_
          refine (same_yes p2 len0 pc2 m0 a0 len0 cap0 x7 (Shape.below hr2 hx7) (Shape.any (Shape.now hA (bel_then (bel_then (bel_then hb1 hx5) hb2) hx7))) (by omega)).mono ?_
          rintro e u4 ⟨rfl, hb4⟩
          have hne4 : Nonempty (Later u4) := Later.there u4
          refine ⟨_, rfl, hb4, ?_⟩
          refine Ord.seg_put (by kernel_rfl) [39, 40, 41, 42] 0 rfl (by kernel_rfl) ?_
          refine ⟨_, (by simp only [Ord.pickOps, Ord.stand, Ord.reads, List.getElem?_toArray, List.getElem?_cons_zero, List.getElem?_cons_succ, if_true]; rfl), ?_⟩
          repeat (go_big_quiet_step (fail))
          refine wpQuiet_nil ?_

          refine Ord.ready_none (by kernel_rfl) ?_
          intro x9
          obtain ⟨W9, hb9⟩ := x9
          have hb19 := bel_then (bel_then (bel_then (bel_then hx5 hb2) hx7) hb4) hb9
          clear hr2
          rw [HM2.out] at hr1

          have hr9 := Shape.below hr1 hb19
          have hB9 := bel_then hb1 hb19
          go_wp2_with fail
          refine (rwithout a0 len0 cap0 m0 a2 k W9 (Shape.any (Shape.now hA hB9)) (by omega) HK'.out).mono ?_
          rw [HW.out, HL2.out]
          rintro e u6 ⟨hb6, b6, c6, rfl, hr6⟩
          have hB6 := bel_then hB9 hb6
          have hr96 := Shape.below hr9 hb6
          go_wp2_with fail
          refine (same_yes b1 len0 c1 m2 b6 n2 c6 u6 hr96 hr6 (by omega)).mono ?_
          rintro e u7 ⟨rfl, hb7⟩
          have hB7 := bel_then hB6 hb7
          go_wp2_with fail
          refine (bput a0 len0 cap0 m0 a1 u7 (Shape.any (Shape.now hA hB7)) (by omega)).mono ?_
          rw [HP.out, HLP.out]
          rintro e u8 ⟨hb8, b8, c8, rfl, hr8⟩
          have hB8 := bel_then hB7 hb8
          go_wp2_with fail
          refine (rput a0 len0 cap0 m0 a1 u8 (Shape.any (Shape.now hA hB8)) (by omega)).mono ?_
          rw [HP.out, HLP.out]
          rintro e u10 ⟨hb10, b10, c10, rfl, hr10⟩
          have hB10 := bel_then hB8 hb10
          have hr810 := Shape.below hr8 hb10
          go_wp2_with fail
          refine (same_yes b8 n3 c8 m3 b10 n3 c10 u10 hr810 hr10 (by omega)).mono ?_
          rintro e u11 ⟨rfl, hb11⟩
          have hB11 := bel_then hB10 hb11
          clear hr9 hr6 hr96 hr8 hr10 hr810
          go_wp2_with fail
          refine (bawake _).mono ?_
          rintro e u12 ⟨rfl, hb12⟩
          have hB12 := bel_then hB11 hb12
          go_wp2
          go_ret
          exact ⟨rfl, hB12⟩
        · clear hin
          go_wp2_with fail
          refine (btake_out a0 len0 cap0 m0 a2 w (Shape.any hA) (by omega) HI.out).mono ?_
          rintro e u1 ⟨hb1, b1, c1, rfl, hr1⟩
          have hne9 : Nonempty (Later u1) := Later.there u1
          go_wp2
          refine Ord.region (by kernel_rfl) (by kernel_rfl) [0, 1, 2, 3, 4, 5, 6, 7, 8, 9, 10, 11, 12, 13, 14, 15, 16, 17, 18, 19, 20, 21, 22, 23, 24, 25, 26, 27, 28, 29, 30, 31, 32, 33, 34, 35, 37] 6 rfl (by kernel_rfl) ?_
          refine ⟨_, (by simp only [Ord.pickOps, Ord.stand, Ord.reads, List.getElem?_toArray, List.getElem?_cons_zero, List.getElem?_cons_succ, if_true, Bool.false_eq_true, if_false]; rfl), ?_⟩
          repeat (go_big_quiet_step (fail))
          refine wpQuiet_nil ?_
          refine Ord.ready_one (i := 36) (by kernel_rfl) ?_
          intro x5 hx5
          refine Ord.by_call (vals := [.slice a0 len0 cap0, .int .i64 a2]) rfl (by rfl) rfl (by kernel_rfl) (by rfl) 84 (by rfl) ?_
          refine (btwice_out a0 len0 cap0 m0 a2 x5 (Shape.any (Shape.now hA (bel_then hb1 hx5))) (by omega) HI.out).mono ?_
          rintro e u2 ⟨hb2, p2, pc2, rfl, hr2⟩
          refine ⟨_, rfl, hb2, ?_⟩
          refine Ord.seg_put (by kernel_rfl) [] 5 rfl (by kernel_rfl) ?_
          refine ⟨[], rfl, ?_⟩
          repeat (go_big_quiet_step (fail))
          refine wpQuiet_nil ?_
          refine Ord.ready_one (i := 38) (by kernel_rfl) ?_
          intro x7 hx7
          refine Ord.by_call (vals := [.slice p2 len0 pc2, .slice a0 len0 cap0]) rfl (by rfl) rfl (by kernel_rfl) (by rfl) 86 (by rfl) ?_
          refine (same_yes p2 len0 pc2 m0 a0 len0 cap0 x7 (Shape.below hr2 hx7) (Shape.any (Shape.now hA (bel_then (bel_then (bel_then hb1 hx5) hb2) hx7))) (by omega)).mono ?_
          rintro e u4 ⟨rfl, hb4⟩
          have hne4 : Nonempty (Later u4) := Later.there u4
          refine ⟨_, rfl, hb4, ?_⟩
          refine Ord.seg_put (by kernel_rfl) [39, 40, 41, 42] 0 rfl (by kernel_rfl) ?_
          refine ⟨_, (by simp only [Ord.pickOps, Ord.stand, Ord.reads, List.getElem?_toArray, List.getElem?_cons_zero, List.getElem?_cons_succ, if_true]; rfl), ?_⟩
          repeat (go_big_quiet_step (fail))
          refine wpQuiet_nil ?_

          refine Ord.ready_none (by kernel_rfl) ?_
          intro x9
          obtain ⟨W9, hb9⟩ := x9
          have hb19 := bel_then (bel_then (bel_then (bel_then hx5 hb2) hx7) hb4) hb9
          clear hr2
          rw [HM2.out] at hr1

          have hr9 := Shape.below hr1 hb19
          have hB9 := bel_then hb1 hb19
          go_wp2_with fail
          refine (rwithout a0 len0 cap0 m0 a2 k W9 (Shape.any (Shape.now hA hB9)) (by omega) HK'.out).mono ?_
          rw [HW.out, HL2.out]
          rintro e u6 ⟨hb6, b6, c6, rfl, hr6⟩
          have hB6 := bel_then hB9 hb6
          have hr96 := Shape.below hr9 hb6
          go_wp2_with fail
          refine (same_yes b1 len0 c1 m2 b6 n2 c6 u6 hr96 hr6 (by omega)).mono ?_
          rintro e u7 ⟨rfl, hb7⟩
          have hB7 := bel_then hB6 hb7
          go_wp2_with fail
          refine (bput a0 len0 cap0 m0 a1 u7 (Shape.any (Shape.now hA hB7)) (by omega)).mono ?_
          rw [HP.out, HLP.out]
          rintro e u8 ⟨hb8, b8, c8, rfl, hr8⟩
          have hB8 := bel_then hB7 hb8
          go_wp2_with fail
          refine (rput a0 len0 cap0 m0 a1 u8 (Shape.any (Shape.now hA hB8)) (by omega)).mono ?_
          rw [HP.out, HLP.out]
          rintro e u10 ⟨hb10, b10, c10, rfl, hr10⟩
          have hB10 := bel_then hB8 hb10
          have hr810 := Shape.below hr8 hb10
          go_wp2_with fail
          refine (same_yes b8 n3 c8 m3 b10 n3 c10 u10 hr810 hr10 (by omega)).mono ?_
          rintro e u11 ⟨rfl, hb11⟩
          have hB11 := bel_then hB10 hb11
          clear hr9 hr6 hr96 hr8 hr10 hr810
          go_wp2_with fail
          refine (bawake _).mono ?_
          rintro e u12 ⟨rfl, hb12⟩
          have hB12 := bel_then hB11 hb12
          go_wp2
          go_ret
          exact ⟨rfl, hB12⟩

/- From the walk to the row. -/
set_option maxRecDepth 100000 in
theorem lifted (os : Os) (started : os.Started) (H : Type) (enc : TypeId × Value → H) :
    ReturnsInHanded {} Try.checked os 3 .any (Rows.bagExactSpec.pre6 enc Try.prog Try.f3 Rows.bagExactRow.domain false) (Rows.bagExactSpec.post enc Try.prog Try.f3 false true false false) := by
  refine returnsInHanded_of_change (C := Try.checked) own started (by kernel_rfl) Try.func3
    (ChangeSpec.witness6 (enc := enc) (C := Try.checked) false ⟨#[], #[.slice none 0 0, .string ByteArray.empty, .int .i64 0], []⟩ 8 (by kernel_rfl) (by kernel_rfl) (by kernel_rfl) (by kernel_rfl)) ?_
  intro W base args ds gs before hval0 hW hcnd _
  have hval : ∀ (j : Nat) t v, Try.f3.params[j]? = some t → args[j]? = some v → Value.okWide Try.prog W .any base t v := hval0
  have hW' := hW
  obtain ⟨p, q, hA0, hV, rfl, hfz, hnd⟩ := hW
  have hA : DataW.TrodAll enc Try.prog W 0 (fun _ => true) true Try.f3.params.toList args.toList ds p := hA0
  rw [Try.params3] at hA hval
  obtain ⟨v0, vs0, d0, ds0, p0, q0, hargs, rfl, rfl, h0, r0⟩ := trodAll_cons hA
  obtain ⟨v1, vs1, d1, ds1, p1, q1, rfl, rfl, rfl, h1, r1⟩ := trodAll_cons r0
  obtain ⟨v2, vs2, d2, ds2, p2, q2, rfl, rfl, rfl, h2, r2⟩ := trodAll_cons r1
  obtain ⟨rfl, rfl, rfl⟩ := trodAll_nil r2
  obtain rfl : args = #[v0, v1, v2] := by cases args; simp_all
  obtain ⟨rfl, rfl⟩ := trodVars_none hV
  obtain ⟨a0, len0, cap0, rfl⟩ := okWide_slice Try.underlying22 (hval 0 22 v0 rfl rfl)
  have k0 := h0
  have lt0 : ∀ x ∈ p0, x.block < W.heap.size := by obtain ⟨m, hm⟩ := k0; exact DataW.trod_lt m _ _ _ hm
  obtain ⟨m0, w0, f0⟩ : ∃ y, (sliceS strS).rep W everywhere [.slice a0 len0 cap0] y ∧ (∀ x0 ∈ y, ByteArray.size x0 ≤ maxLen) := by
    obtain ⟨fuel, hf⟩ := h0
    exact (opens_slice (A := strS) Try.underlying22 (show Try.prog.cellsOf 9 = 1 by kernel_rfl) (by exact Nat.succ_pos _) (opens_string Try.underlying9)) H enc W _ _ _ fuel _ _ hf
  obtain ⟨a1, rfl, rfl, rfl, w1⟩ := open_string Try.underlying9 (hval 1 9 v1 rfl rfl) h1
  obtain ⟨a2, rfl, rfl, rfl, w2⟩ := open_int Try.underlying3 (hval 2 3 v2 rfl rfl) h2
  clear hA0 hval0
  refine (walk a0 len0 cap0 m0 a1 a2 W w0 f0 w1 w2).mono fun e W' ⟨he, bel⟩ => ?_
  subst he
  exact ⟨_, rfl, _, _, _, [], _, [], hW', trodAll_mk1 (shut_bool Try.underlying4 _), (trodAll_cons_mk (Below.trod laidOut (by kernel_rfl) (of_decide_eq_true (by kernel_rfl)) k0 bel lt0) (trodAll_cons_mk (shut_string Try.underlying9 w1) (trodAll_cons_mk (shut_int Try.underlying3 w2) trodAll_mk0))), rfl, bel.frame _, fun h => by cases h⟩

theorem over : Rows.bagExactRow.holds Try.pinned (OpenSpec.ofChange Rows.bagExactSpec) :=
  OpenClaim.holds_of_wide 3 Try.f3 rfl rfl rfl rfl rfl rfl rfl ⟨rfl, rfl, rfl, rfl, rfl⟩ rfl rfl rfl rfl rfl (by kernel_rfl) Try.func3 (by kernel_rfl)
    (of_decide_eq_true (by kernel_rfl)) (by unfold Func.isWrapper; first | (rw [if_pos (by decide +kernel)]; kernel_rfl) | (rw [if_neg (by decide +kernel)]; exact ⟨rfl, rfl⟩))
    (fun os started H enc _ => lifted os started H enc)

end Go.Proofs.Ytkpbkknneebdmaa.bagExact

namespace Go.Proofs.Ytkpbkknneebdmaa
theorem bagExact_holds : Rows.BagExactSaid := bagExact.over
end Go.Proofs.Ytkpbkknneebdmaa
