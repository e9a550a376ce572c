/- MoveMany, with letters. -/
import Derived.Test.YtpfhjdlmjehfnaaMvI
import Derived.Test.YtpfhjdlmjehfnaaMvD
import Derived.Test.YtpfhjdlmjehfnaaMr
namespace Go.Proofs.Ytpfhjdlmjehfnaa
open Go.ChangeShapes Go.WideShapes Go.ChangeAt Go.RowKit



set_option maxRecDepth 100000 in
set_option maxHeartbeats 4000000 in
theorem lmany (AW : ∀ u, Calls Try.prog 11 #[] u fun r w' => r = .returned (.bool true) ∧ Below u.heap.size u w') (s : ByteArray) (z : Int) (hz : 0 ≤ z ∧ z ≤ 255) (w : World) (hsl : s.size ≤ maxLen) :
    Calls Try.prog 9 #[.string s, .int .u8 z] w fun r w' => r = .returned (.bool true) ∧ Below w.heap.size w w' := by
  have HAW := hidL AW
  have hm63 : s.size ≤ 9223372036854775807 := hsl
  have hz0 : 0 ≤ z % 64 := Int.emod_nonneg _ (by decide)
  have hz1 : z % 64 < 64 := Int.emod_lt_of_pos _ (by decide)
  obtain ⟨k, hk1, hk2, ek⟩ : ∃ k : Nat, 1 ≤ k ∧ k ≤ 64 ∧ 1 + z % 64 = (k : Int) := ⟨(1 + z % 64).toNat, by omega, by omega, by omega⟩
  have hB0 := hidL (Below.refl w.heap.size w)
  clear AW
  by_cases h0 : s.size = 0
  · have hse := str_none h0
    clear h0
    go_enter Try.func9, Try.ntmps9
    go_wp2_with (go_at_call 11; refine (HAW.out _).mono ?_; rintro r WZ ⟨rfl, hbz⟩)
    go_ret
    exact ⟨rfl, bel_then (hB0.out) hbz⟩
  have hse := str_some (S := s) h0
  by_cases h3 : 300 < s.size
  · have h3i : (300 : Int) < (s.size : Int) := by omega
    clear h0
    go_enter Try.func9, Try.ntmps9
    go_wp2_with (go_at_call 11; refine (HAW.out _).mono ?_; rintro r WZ ⟨rfl, hbz⟩)
    go_ret
    exact ⟨rfl, bel_then (hB0.out) hbz⟩
  have h3i : ¬ (300 : Int) < (s.size : Int) := by omega
  have HI := hidL (Mq.plain_begin (t := 2) (s := s) (k := (k : Int)) ⟨by decide, by decide⟩ (by decide) h0 ⟨by omega, by omega⟩)
  rw [show ((k : Int)).toNat = k from rfl] at HI
  obtain ⟨n, hn⟩ : ∃ n, Ck.num s.size k = n := ⟨_, rfl⟩
  have hn1 : n ≤ 1000 := by rw [← hn]; exact Mq.num_few hk1 (by omega)
  have HLT : Hid (∀ j, j < n → ((Mq.pieces (Mq.lst s) k).getD j noText) = ⟨(Ck.piece (Mq.lst s) k j).toArray⟩ ∧ ((Mq.pieces (Mq.lst s) k).getD j noText).size = min k (s.size - j * k) ∧ j * k < s.size) := fun j hj => by
    rw [← hn] at hj
    exact ⟨Mq.piece_at s hj, Mq.piece_size s hj, (Ck.num_lt hk1).1 hj⟩
  have HNF : Hid (∀ j, j + 1 < n → (j + 1) * k < s.size) := fun j hj => by rw [← hn] at hj; exact (Ck.num_lt hk1).1 hj
  have HNL : Hid (s.size ≤ n * k) := by show _ ≤ _; rw [← hn]; exact Ck.num_le hk1 _
  have HQ : Hid (((s.size : Int) + (k : Int) - 1).tdiv (k : Int) = (n : Int)) := by
    show _ = _
    rw [← hn, show ((s.size : Int) + (k : Int) - 1) = ((s.size + k - 1 : Nat) : Int) by omega, ← Int.ofNat_tdiv]
    rfl
  rw [hn] at HI
  generalize (Cx.sum (Mq.lst s) : Int) = S at *
  have HLL : Hid ((Mq.pieces (Mq.lst s) k).length = n) := by show _ = _; rw [pieces_len]; exact hn
  generalize Mq.pieces (Mq.lst s) k = L at *
  clear h0 hn h3
  go_enter Try.func9, Try.ntmps9
  go_wp2_with fail
  refine (mplain w).mono ?_
  rintro r u1 ⟨hb1, a, rfl, hm⟩
  have HC1 : Hid (Calls _ _ _ _ _) := mbegin 0 a 1 1 [[1]] 0 1 2 s k 0 1 2 1 S _ _ L 0 u1 (Shape.any hm) Mq.plain_sized (by omega) HI.out
  clear HI hm
  go_wp2_with fail
  refine HC1.out.mono ?_
  rintro r u2 ⟨hb2, ha, nh, hc, ga, gc, la, lc, rfl, hH, hG, hL⟩
  obtain rfl : nh = n := by rw [← (sliceS_len hL).1]; exact HLL.out
  have hbn := new_bel u2 (.cells #[.int .i64 0, .int .i64 1, .int .i64 2, .int .i64 1, .int .i64 S, .slice ha nh hc, .slice ga nh gc] 30)
  have km := Box.new u2 30 #[.int .i64 0, .int .i64 1, .int .i64 2, .int .i64 1, .int .i64 S, .slice ha nh hc, .slice ga nh gc]
  have HB2 := hidL (bel_then (bel_then hb1 hb2) hbn)
  have HL2 := hidL (Shape.any (Shape.below hL hbn))
  clear hH hG hL hb1 hb2 hbn HC1
  have c5 := km.cell 5 rfl
  have c6 := km.cell 6 rfl
  clear km
  go_upto_region 6 with fail
  generalize u2.alloc (.cells #[.int .i64 0, .int .i64 1, .int .i64 2, .int .i64 1, .int .i64 S, .slice ha nh hc, .slice ga nh gc] 30) = W at *
  generalize u2.heap.size = M at *
  go_wp2
  go_loopw [9, 34] (fun v9 v34 wr => ∃ (j : Nat) (A : ByteArray), j ≤ nh ∧ v9 = .string A ∧ v34 = .int .i64 j ∧ Hid (A = ⟨((Mq.lst s).take (j * k)).toArray⟩) ∧ wr = W) (fun _ i _ => nh - (intOf i).toNat)
  case atStart => exact ⟨0, noText, Nat.zero_le _, rfl, rfl, (by show _ = _; rw [Nat.zero_mul, List.take_zero]), rfl⟩
  case round =>
    obtain ⟨j, A, hj, rfl, rfl, HA, hww⟩ := hrel
    replace hww := hww.symm
    subst hww
    by_cases hlt : j < nh
    · obtain ⟨b1, o1, rfl, _, hcell⟩ := (Texts.of_rep HL2.out).at hlt
      obtain ⟨hq1, hq2, hq3⟩ := HLT.out j hlt
      have hli : (j : Int) < (nh : Int) := by omega
      have hj0 : (0 : Int) ≤ (j : Int) := by omega
      have HAZ : Hid (A ++ L.getD j noText = ⟨((Mq.lst s).take ((j + 1) * k)).toArray⟩) := by
        show _ = _
        rw [HA.out, hq1, bcat, Nat.add_mul, Nat.one_mul, List.take_add]
        rfl
      have hAs : A.size ≤ 300 := by
        have h9 := HA.out
        rw [h9, bsize, List.length_take]
        have := Mq.lst_len s
        omega
      generalize L.getD j noText = y at *
      have hcap : ¬ (9223372036854775807 < A.size + y.size) := by omega
      have hye := str_some (S := y) (by omega)
      have hyk : ¬ (k : Int) < (y.size : Int) := by omega
      by_cases hlast : j + 1 < nh
      · have hl2 : (j : Int) < (nh : Int) - 1 := by omega
        have hfull := HNF.out j hlast
        have hne : ((y.size : Int) != (k : Int)) = false := by
          rw [bne_eq_false_iff_eq]
          rw [Nat.add_mul, Nat.one_mul] at hfull
          omega
        clear hq1 hq2 hq3 hfull
        go_wp2
        go_roundw
        case rel => exact ⟨j + 1, _, by omega, rfl, by go_num, HAZ, by trivial⟩
        case measure => simp [intOf]; omega
      · have hl2 : ¬ (j : Int) < (nh : Int) - 1 := by omega
        clear hq1 hq2 hq3
        go_wp2
        go_roundw
        case rel => exact ⟨j + 1, _, by omega, rfl, by go_num, HAZ, by trivial⟩
        case measure => simp [intOf]; omega
    · have hjn : j = nh := by omega
      subst hjn
      have hli : ¬ (j : Int) < (j : Int) := by omega
      obtain rfl : A = s := by
        have h9 := HA.out
        rw [List.take_of_length_le (by rw [Mq.lst_len]; exact HNL.out)] at h9
        rw [h9]
        exact text_of s
      have hk0 : ((k : Int) == 0) = false := by rw [beq_eq_false_iff_ne]; omega
      have hq := HQ.out
      clear HA HLT HNF HNL HL2 HQ
      go_wp2_with (go_at_call 11; refine (HAW.out _).mono ?_; rintro r WZ ⟨rfl, hbz⟩)
      go_ret
      exact ⟨rfl, bel_then (HB2.out) hbz⟩

end Go.Proofs.Ytpfhjdlmjehfnaa
