/- MoveWrong, with letters. -/
import Derived.Test.YtpfhjdlmjehfnaaMvI
import Derived.Test.YtpfhjdlmjehfnaaMvB
import Derived.Test.YtpfhjdlmjehfnaaMvC
import Derived.Test.YtpfhjdlmjehfnaaMvD
import Derived.Test.YtpfhjdlmjehfnaaMvE
import Derived.Test.YtpfhjdlmjehfnaaMr
import Derived.Test.YtpfhjdlmjehfnaaCrcB
namespace Go.Proofs.Ytpfhjdlmjehfnaa
open Go.ChangeShapes Go.WideShapes Go.ChangeAt Go.RowKit



theorem pow_mask {t : Nat} (ht : t < 8) : ∃ M : UInt8, ((2 : Int) ^ t % 256) = (M.toNat : Nat) ∧ M ≠ 0 := by
  refine ⟨UInt8.ofNat (2 ^ t), ?_⟩
  match t, ht with
  | 0, _ => decide
  | 1, _ => decide
  | 2, _ => decide
  | 3, _ => decide
  | 4, _ => decide
  | 5, _ => decide
  | 6, _ => decide
  | 7, _ => decide
theorem xor_other {b M : UInt8} (hM : M ≠ 0) : b ≠ b ^^^ M := by
  intro e
  apply hM
  have := congrArg UInt8.toNat e
  rw [UInt8.toNat_xor] at this
  apply UInt8.toNat_inj.1
  exact (Cx.xor_inj_left (c := b.toNat) (show _ ^^^ 0 = _ ^^^ _ by rw [Nat.xor_zero]; exact this)).symm
theorem Bytes.below {u v : World} {b : Nat} {l : List UInt8} (h : Bytes u b l) (hb : b < u.heap.size) (hu : Below u.heap.size u v) : Bytes v b l := fun j hj =>
  ⟨(hu.cell (p := ⟨b, j, none⟩) hb).trans (h j hj).1, (hu.frozen (p := ⟨b, j, none⟩) hb).trans (h j hj).2⟩
namespace Mq
/-- One byte of a text is another: of the two sums one is not the other. -/
theorem turned {s : ByteArray} {j : Nat} (hj : j < s.data.toList.length) {v : UInt8} (hv : s.data.toList[j] ≠ v) :
    (⟨(s.data.toList.set j v).toArray⟩ : ByteArray).size = s.size ∧ (Cx.sum (lst ⟨(s.data.toList.set j v).toArray⟩) : Int) ≠ (Cx.sum (lst s) : Int) := by
  constructor
  · rw [bsize, List.length_set]
    exact list_size s
  · have h1 : lst ⟨(s.data.toList.set j v).toArray⟩ = s.data.toList.set j v := by show (s.data.toList.set j v).toArray.toList = _; rw [List.toList_toArray]
    rw [h1]
    intro h
    exact Cx.sum_set hj hv (Int.ofNat.inj h)
/-- What a piece that is not yet there tells: an error where it aborts the move. -/
def Tell (P E : Int) : Prop := (P ≠ 4 ∧ 0 = E) ∨ (P = 4 ∧ 9 = E)
theorem Up.first_of {L : List ByteArray} {s : Int} {n : Nat} (hn : L.length = n) (h0 : 0 < n) : Up L s 0 1 (List.replicate n false) (List.replicate n noText) := by
  subst hn
  exact Up.first h0
end Mq
set_option maxRecDepth 100000 in
set_option maxHeartbeats 8000000 in
theorem lwrong (AW : ∀ u, Calls Try.prog 11 #[] u fun r w' => r = .returned (.bool true) ∧ Below u.heap.size u w') (s : ByteArray) (z y b : Int) (hz : 0 ≤ z ∧ z ≤ 255) (hy : 0 ≤ y ∧ y ≤ 65535) (hb : 0 ≤ b ∧ b ≤ 255) (w : World) (hsl : s.size ≤ maxLen) :
    Calls Try.prog 7 #[.string s, .int .u8 z, .int .u16 y, .int .u8 b] w fun r w' => r = .returned (.bool true) ∧ Below w.heap.size w w' := by
  have HAW := hidL AW
  have hm63 : s.size ≤ 9223372036854775807 := hsl
  have hz0 : 0 ≤ z % 64 := Int.emod_nonneg _ (by decide)
  have hz1 : z % 64 < 64 := Int.emod_lt_of_pos _ (by decide)
  obtain ⟨k, hk1, hk2, ek⟩ : ∃ k : Nat, 1 ≤ k ∧ k ≤ 64 ∧ 1 + z % 64 = (k : Int) := ⟨(1 + z % 64).toNat, by omega, by omega, by omega⟩
  have hB0 := hidL (Below.refl w.heap.size w)
  clear AW
  by_cases h0 : s.size = 0
  · have hse := str_none h0
    clear h0
    go_enter Try.func7, Try.ntmps7
    go_wp2_with (go_at_call 11; refine (HAW.out _).mono ?_; rintro r WZ ⟨rfl, hbz⟩)
    go_ret
    exact ⟨rfl, bel_then (hB0.out) hbz⟩
  have hse := str_some (S := s) h0
  by_cases h3 : 300 < s.size
  · have h3i : (300 : Int) < (s.size : Int) := by omega
    clear h0
    go_enter Try.func7, Try.ntmps7
    go_wp2_with (go_at_call 11; refine (HAW.out _).mono ?_; rintro r WZ ⟨rfl, hbz⟩)
    go_ret
    exact ⟨rfl, bel_then (hB0.out) hbz⟩
  have h3i : ¬ (300 : Int) < (s.size : Int) := by omega
  have HI := hidL (Mq.plain_begin (t := 3) (s := s) (k := (k : Int)) ⟨by decide, by decide⟩ (by decide) h0 ⟨by omega, by omega⟩)
  rw [show ((k : Int)).toNat = k from rfl] at HI
  obtain ⟨n, hn⟩ : ∃ n, Ck.num s.size k = n := ⟨_, rfl⟩
  have hn1 : n ≤ 1000 := by rw [← hn]; exact Mq.num_few hk1 (by omega)
  have hn0 : 0 < n := by rw [← hn]; exact (Ck.num_lt hk1).2 (by omega)
  obtain ⟨S, hS⟩ : ∃ S : Int, (Cx.sum (Mq.lst s) : Int) = S := ⟨_, rfl⟩
  have HLL : Hid ((Mq.pieces (Mq.lst s) k).length = n) := by show _ = _; rw [pieces_len]; exact hn
  have hlen : s.data.toList.length = s.size := list_size s
  obtain ⟨j, hj, ej⟩ : ∃ j : Nat, j < s.size ∧ y.tmod (s.size : Int) = (j : Int) := by
    refine ⟨(y.tmod (s.size : Int)).toNat, ?_, ?_⟩
    · have := Int.tmod_lt_of_pos y (b := (s.size : Int)) (by omega)
      omega
    · have := Int.tmod_nonneg (a := y) (s.size : Int) (by omega)
      omega
  obtain ⟨t, htt, et⟩ : ∃ t : Nat, t < 8 ∧ b % 8 = (t : Int) := ⟨(b % 8).toNat, by omega, by omega⟩
  have hnz : ((s.size : Int) == 0) = false := by rw [beq_eq_false_iff_ne]; omega
  have hji : (j : Int) < (s.size : Int) := by omega
  have hjl : j < s.data.toList.length := by rw [hlen]; exact hj
  obtain ⟨MK, em, hM⟩ := pow_mask htt
  have ex := u8_laid s.data.toList[j] MK
  obtain ⟨hDS, hNE⟩ := Mq.turned hjl (xor_other (b := s.data.toList[j]) hM)
  obtain ⟨cap, u0, hconv, hb0, hbytes⟩ := bytes_made w s
  have hc0 := (hbytes j hjl).1
  have hf0 := (hbytes j hjl).2
  have hst := hbytes.store hjl (s.data.toList[j] ^^^ MK)
  have hu0 : w.heap.size < u0.heap.size := World.block_lt_of_cell? u0 _ hc0
  have HBK : Hid (∀ u, Below (u0.setCell ⟨w.heap.size, j, none⟩ (.int .u8 ((s.data.toList[j] ^^^ MK).toNat : Nat))).heap.size (u0.setCell ⟨w.heap.size, j, none⟩ (.int .u8 ((s.data.toList[j] ^^^ MK).toNat : Nat))) u → (convert 62 9 (.slice (some ⟨w.heap.size, 0, none⟩) s.size cap)).run Try.prog u = .ok (.string ⟨(s.data.toList.set j (s.data.toList[j] ^^^ MK)).toArray⟩) u) := fun u hu => by
    have h9 := (hst.below (by have := World.block_lt_of_cell? _ _ (hst j (by rw [List.length_set]; exact hjl)).1; exact this) hu).back cap
    rw [List.length_set, hlen] at h9
    exact h9
  have HB1 := hidL (bel_put (i := j) hb0 (Nat.le_refl w.heap.size) (.int .u8 ((s.data.toList[j] ^^^ MK).toNat : Nat)))
  clear hlen hM hst hbytes hb0
  generalize (⟨(s.data.toList.set j (s.data.toList[j] ^^^ MK)).toArray⟩ : ByteArray) = D at *
  generalize (s.data.toList[j] ^^^ MK).toNat = v at *
  generalize (s.data.toList[j]).toNat = v0 at *
  have HI2 := hidL (Mq.plain_begin (t := 3) (s := D) (k := (k : Int)) ⟨by decide, by decide⟩ (by decide) (by rw [hDS]; exact h0) ⟨by omega, by omega⟩)
  rw [show ((k : Int)).toNat = k from rfl, hDS, hn] at HI2
  have HL2 : Hid ((Mq.pieces (Mq.lst D) k).length = n) := by show _ = _; rw [pieces_len, hDS]; exact hn
  have HAL : Hid (Mq.all (Mq.pieces (Mq.lst D) k) = Mq.lst D) := Mq.all_pieces hk1
  have HLS : Hid (∀ y ∈ Mq.pieces (Mq.lst D) k, y.size ≤ 100) := fun y hy => by have := Mq.pieces_sizes D k y hy; omega
  have HSR : Hid ((Cx.sum (Mq.all (Mq.pieces (Mq.lst D) k)) : Int) ≠ S) := by show _ ≠ _; rw [HAL.out, ← hS]; exact hNE
  have HLZ : Hid ((Mq.all (Mq.pieces (Mq.lst D) k)).length ≤ 100000) := by show _ ≤ _; rw [HAL.out, Mq.lst_len]; omega
  have hDL : D.size ≤ 1000 := by omega
  rw [hn, hS] at HI
  clear hS hn hNE hDS h0 h3 hjl
  generalize (Cx.sum (Mq.lst D) : Int) = S2 at *
  generalize Mq.pieces (Mq.lst s) k = L at *
  generalize Mq.pieces (Mq.lst D) k = L2 at *
  clear HAL
  have hj0 : (0 : Int) ≤ (j : Int) := by omega
  go_enter Try.func7, Try.ntmps7
  go_upto_region 6 with fail
  obtain ⟨W1, hW1⟩ : ∃ V, V = u0.setCell ⟨w.heap.size, j, none⟩ (.int .u8 (v : Int)) := ⟨_, rfl⟩
  rw [← hW1] at HBK HB1 ⊢
  clear hW1 hconv hc0 hf0 hu0 ex em et ej hji hj0 hnz
  go_wp2_with fail
  refine (mplain W1).mono ?_
  rintro r u1 ⟨hb1, a, rfl, hm⟩
  have HC1 : Hid (Calls _ _ _ _ _) := mbegin 0 a 1 1 [[1]] 0 1 3 s k 0 1 3 1 S _ _ L 0 u1 (Shape.any hm) Mq.plain_sized (by omega) HI.out
  clear HI hm
  go_wp2_with fail
  refine HC1.out.mono ?_
  rintro r u2 ⟨hb2, ha, nh, hc, ga, gc, la, lc, rfl, hH, hG, hL⟩
  obtain rfl : nh = n := by rw [← (sliceS_len hL).1]; exact HLL.out
  have hnz : ((nh : Int) == 0) = false := by rw [beq_eq_false_iff_ne]; omega
  have hnn : ((nh : Int) != (nh : Int)) = false := by simp
  have hbn := new_bel u2 (.cells #[.int .i64 0, .int .i64 1, .int .i64 3, .int .i64 1, .int .i64 S, .slice ha nh hc, .slice ga nh gc] 30)
  have km := Box.new u2 30 #[.int .i64 0, .int .i64 1, .int .i64 3, .int .i64 1, .int .i64 S, .slice ha nh hc, .slice ga nh gc]
  have HBU := hidL (bel_then HB1.out (bel_then hb1 hb2))
  have hbV := bel_then (bel_then hb1 hb2) hbn
  have hH2 := Shape.below (Shape.low hH) hbn
  have hG2 := Shape.below (Shape.low hG) hbn
  have hBM := hbn
  clear hH hG hL hb1 hb2 hbn HC1 HB1
  go_upto_region 7 with fail
  generalize u2.alloc (.cells #[.int .i64 0, .int .i64 1, .int .i64 3, .int .i64 1, .int .i64 S, .slice ha nh hc, .slice ga nh gc] 30) = V at *
  have HBV : Hid (∀ u, Below V.heap.size V u → (convert 62 9 (.slice (some ⟨w.heap.size, 0, none⟩) s.size cap)).run Try.prog u = .ok (.string D) u) := fun u hu => HBK.out u (bel_then hbV hu)
  have HT : Hid (∀ u, Calls Try.prog 26 #[] u fun r w' => Below u.heap.size u w' ∧ ∃ a, r = .returned (.agg #[.int .i64 0, .slice a 1 1]) ∧ matS.rep w' (u.heap.size ≤ ·) [.slice a 1 1] [[1]]) := mplain
  have HN : Hid (∀ u, Below V.heap.size V u → ∀ a1 (F : Nat → Prop), matS.rep u F [.slice a1 1 1] [[1]] → Calls Try.prog 12 #[.agg #[.int .i64 0, .slice a1 1 1], .int .i64 0, .int .i64 1, .int .i64 3, .string D, .int .i64 (k : Int)] u fun r w' => Below u.heap.size u w' ∧ ∃ ha' hc' ga' gc' la' lc', r = .returned (.tuple #[.agg #[.int .i64 0, .int .i64 1, .int .i64 3, .int .i64 1, .int .i64 S2, .slice ha' nh hc', .slice ga' nh gc'], .slice la' nh lc', .int .i64 0]) ∧ bagS.rep w' (fun b => u.heap.size ≤ b ∧ V.heap.size ≤ b) [.slice la' nh lc'] L2) := fun u hu a1 F hl =>
    (mbegin 0 a1 1 1 [[1]] 0 1 3 D k 0 1 3 1 S2 _ _ L2 0 u (Shape.any hl) Mq.plain_sized hDL HI2.out).mono fun _ _ ⟨h1, ha', n', hc', ga', gc', la', lc', h2, _, _, h5⟩ => by
      obtain rfl : nh = n' := by rw [← (sliceS_len h5).1]; exact HL2.out.symm
      exact ⟨h1, ha', hc', ga', gc', la', lc', h2, bagS.mono h5 fun b hb _ => ⟨hb, Nat.le_trans hu.size hb⟩⟩
  clear HBK hbV HI2
  go_cut [14, 15, 16] from 27 (fun v14 v15 v16 wx => ∃ g ra rc, v14 = .pointer (some ⟨g, 0, none⟩) ∧ v15 = .slice ra nh rc ∧ v16 = .int .i64 0 ∧ bagS.rep wx (V.heap.size ≤ ·) [.slice ra nh rc] L2 ∧ Below V.heap.size V wx)
  case first =>
    rename_i Jx Kx hRJ hMK
    have hD : Below V.heap.size V V.drew := (Below.refl _ V).drew
    have bn1 : Box (V.drew.alloc (.cells #[.int .i64 0, .int .i64 0, .int .i64 0, .int .i64 0, .int .i64 0, .slice none 0 0, .slice none 0 0] 30)) V.heap.size 30 #[.int .i64 0, .int .i64 0, .int .i64 0, .int .i64 0, .int .i64 0, .slice none 0 0, .slice none 0 0] := Box.new V.drew _ _
    go_region_held3 (fun u => (convert 62 9 (.slice (some ⟨w.heap.size, 0, none⟩) s.size cap)).run Try.prog u = .ok (.string D) u)
      (first
        | exact HBV.out _ (by (repeat' (first | with_reducible assumption | with_reducible exact Below.refl _ _ | with_reducible refine bel_alloc ?_ _ | with_reducible refine Below.drew ?_ | with_reducible refine bel_all7 ?_ ?_ _ _ _ _ _ _ _)); all_goals omega)
        | go_keep)
      (first
        | (go_at_call 26; refine (HT.out _).mono ?_; rintro r u8 ⟨hb8, a8, rfl, hm8⟩; have hd8 : Below V.heap.size V u8 := (by first | exact bel_then hD hb8 | exact bel_then (bel_alloc hD _) hb8); have hs8 := hd8.size; (first | (have qN := bn1.keep hb8; have ltq := qN.lt) | skip))
        | (go_at_call 12; refine (HN.out _ (by first | assumption | exact bel_alloc (by assumption) _) a8 _ (by first | exact hm8 | exact Shape.below hm8 (new_bel _ _))).mono ?_; rintro r u9 ⟨hb9, ha9, hc9, ga9, gc9, la9, lc9, rfl, hL9⟩; have hL9 := rep_low hL9; obtain ⟨F9, hF9, hL9⟩ := rep_name hL9; have hd9 : Below V.heap.size V u9 := (by first | exact bel_then hd8 hb9 | exact bel_then (bel_alloc hd8 _) hb9); have hs9 := hd9.size; (first | (have kN := qN.keep hb9) | (have kN := (Box.new u8 30 #[.int .i64 0, .int .i64 0, .int .i64 0, .int .i64 0, .int .i64 0, .slice none 0 0, .slice none 0 0]).keep hb9) | skip); (try (have c0 := kN.cell 0 rfl; have c1 := kN.cell 1 rfl; have c2 := kN.cell 2 rfl; have c3 := kN.cell 3 rfl; have c4 := kN.cell 4 rfl; have c5 := kN.cell 5 rfl; have c6 := kN.cell 6 rfl; have f0 := kN.free 0; have f1 := kN.free 1; have f2 := kN.free 2; have f3 := kN.free 3; have f4 := kN.free 4; have f5 := kN.free 5; have f6 := kN.free 6; have ltN := kN.lt))))
    all_goals
      refine hMK _ _ (Met.intro (hRJ _ _ ?_))
      (repeat apply Exists.intro)
      refine ⟨?_, rfl⟩
    all_goals
      refine ⟨_, la9, lc9, rfl, rfl, rfl, ?_, ?_⟩
      · refine bagS.mono (F := F9) ?_ ?_
        · (repeat' (first | with_reducible exact hL9 | with_reducible refine rep_new ?_ _ | with_reducible refine rep_all7 ?_ ?_ _ _ _ _ _ _ _))
          all_goals (intro b hb; rw [hF9] at hb; have h1 := hb.1.1; have h2 := hb.2; (try simp at h1); omega)
        · intro b hb _; rw [hF9] at hb; exact hb.1.2
      · (repeat' (first | with_reducible exact hd9 | with_reducible refine bel_alloc ?_ _ | with_reducible refine bel_all7 ?_ ?_ _ _ _ _ _ _ _))
        all_goals omega
  case rest =>
    obtain ⟨g7, ra, rc, rfl, rfl, rfl, hR, hBV⟩ := hcut
    have hV : u2.heap.size < V.heap.size := km.lt
    have km3 := km.keep hBV
    have hH3 := bitsS.mono (F' := (· ≠ u2.heap.size)) (Shape.below hH2 hBV) (fun b hb _ => by have h9 : b < u2.heap.size := hb; show b ≠ _; omega)
    have hG3 := bagS.mono (F' := (· ≠ u2.heap.size)) (Shape.below hG2 hBV) (fun b hb _ => by have h9 : b < u2.heap.size := hb; show b ≠ _; omega)
    have hR3 := bagS.mono (F' := (· ≠ u2.heap.size)) hR (fun b hb _ => by have h9 : V.heap.size ≤ b := hb; show b ≠ _; omega)
    have hBM3 := bel_then hBM hBV
    have HUP : Hid (Mq.Up L2 S 0 1 (List.replicate nh false) (List.replicate nh noText) ∧ (0 < 0 → Mq.Tell 1 0)) := ⟨Mq.Up.first_of HL2.out hn0, fun h => absurd h (Nat.lt_irrefl 0)⟩
    clear HBV HT HN km hH2 hG2 hR hBM hBV hV
    go_wp2
    go_loopw [17, 91] (fun v17 v91 wr => ∃ (j : Nat) (E P : Int) (H : List Bool) (G : List ByteArray) (ha : Option Addr) (hc : Nat) (ga : Option Addr) (gc : Nat), j ≤ nh ∧ v91 = .int .i64 j ∧ v17 = .int .i64 E ∧ Hid (Mq.Up L2 S j P H G ∧ (0 < j → Mq.Tell P E)) ∧ Box wr u2.heap.size 30 #[.int .i64 0, .int .i64 1, .int .i64 3, .int .i64 P, .int .i64 S, .slice ha nh hc, .slice ga nh gc] ∧ bitsS.rep wr (· ≠ u2.heap.size) [.slice ha nh hc] H ∧ bagS.rep wr (· ≠ u2.heap.size) [.slice ga nh gc] G ∧ bagS.rep wr (· ≠ u2.heap.size) [.slice ra nh rc] L2 ∧ Below u2.heap.size u2 wr) (fun _ v _ => nh - (intOf v).toNat)
    case atStart => exact ⟨0, 0, 1, _, _, ha, hc, ga, gc, Nat.zero_le _, rfl, rfl, HUP, km3, hH3, hG3, hR3, hBM3⟩
    case round =>
      clear km3 hH3 hG3 hR3 hBM3 HUP
      obtain ⟨j, E, P, H, G, ha, hc, ga, gc, hj, rfl, rfl, HU, km, hH, hG, hR, hbel⟩ := hrel
      by_cases hlt : j < nh
      · obtain ⟨b1, o1, rfl, _, hcell⟩ := (Texts.of_rep hR).at hlt
        have hlj : j < L2.length := by rw [HL2.out]; exact hlt
        obtain ⟨P2, K2, J2, E2, hP⟩ := Mq.piece_there P S H G (j : Int) (L2.getD j noText)
        have hst := HU.out.1.step hlj hP
        have HU2 : Hid (Mq.Up L2 S (j + 1) P2 K2 J2 ∧ (0 < j + 1 → Mq.Tell P2 E2)) := ⟨hst.1, fun _ => hst.2⟩
        have HE2 : Hid (E2 = 0 ∨ (E2 = 9 ∧ ¬ (j : Int) < (nh : Int) - 1)) := by
          rcases hst.2 with ⟨_, h⟩ | ⟨h1, h2⟩
          · exact .inl h.symm
          · refine .inr ⟨h2.symm, fun h => ?_⟩
            have := hst.1.more (by rw [HL2.out]; omega)
            omega
        have HP1 : Hid (Calls _ _ _ _ _) := mpiece 0 1 3 P S ha nh hc ga nh gc H G (j : Int) (L2.getD j noText) P2 E2 K2 J2 wr (Shape.any hH) (Shape.any hG) (HU.out.1.1.short (by rw [HL2.out]; exact hn1) HLS.out) (HLS.out _ (by rw [List.getD_eq_getElem?_getD, List.getElem?_eq_getElem hlj]; exact List.getElem_mem hlj)) hP
        generalize L2.getD j noText = y9 at *
        have hli : (j : Int) < (nh : Int) := by omega
        have hj0 : (0 : Int) ≤ (j : Int) := by omega
        have HLT : Hid (u2.heap.size < wr.heap.size) := km.lt
        have c0 := km.cell 0 rfl; have c1 := km.cell 1 rfl; have c2 := km.cell 2 rfl; have c3 := km.cell 3 rfl; have c4 := km.cell 4 rfl; have c5 := km.cell 5 rfl; have c6 := km.cell 6 rfl
        clear hP hH hG HU hlj hst
        go_wp2_with fail
        refine HP1.out.mono ?_
        rintro r u3 ⟨hb3, ha3, hc3, ga3, gc3, rfl, hH3, hG3⟩
        have hbn := new_bel u3 (.cells #[.int .i64 0, .int .i64 1, .int .i64 3, .int .i64 P2, .int .i64 S, .slice ha3 nh hc3, .slice ga3 nh gc3] 30)
        have h99 := HLT.out
        have hb4 := bel_then hb3 hbn
        have km4 := km.keep hb4
        have kn4 := Box.new u3 30 #[.int .i64 0, .int .i64 1, .int .i64 3, .int .i64 P2, .int .i64 S, .slice ha3 nh hc3, .slice ga3 nh gc3]
        have hH4 := bitsS.mono (F' := (· ≠ u2.heap.size)) (Shape.below hH3 hbn) (fun b hb _ => by have h9 : wr.heap.size ≤ b := hb; show b ≠ _; omega)
        have hG4 := bagS.mono (F' := (· ≠ u2.heap.size)) (Shape.below hG3 hbn) (fun b hb _ => by have h9 : wr.heap.size ≤ b := hb; show b ≠ _; omega)
        have hR4 := Shape.below hR hb4
        have HB4 := hidL (bel_then hbel hb4)
        clear c0 c1 c2 c3 c4 c5 c6 km hH3 hG3 hR hb3 hbn hb4 HP1 hcell hbel h99
        go_upto_region 15 with fail
        generalize u3.alloc (.cells #[.int .i64 0, .int .i64 1, .int .i64 3, .int .i64 P2, .int .i64 S, .slice ha3 nh hc3, .slice ga3 nh gc3] 30) = W4 at *
        generalize u3.heap.size = K4 at *
        have km5 := km4.all7 (.int .i64 0) (.int .i64 1) (.int .i64 3) (.int .i64 P2) (.int .i64 S) (.slice ha3 nh hc3) (.slice ga3 nh gc3)
        have hH5 := rep_all7 hH4 (b := u2.heap.size) (fun b hb => hb) (.int .i64 0) (.int .i64 1) (.int .i64 3) (.int .i64 P2) (.int .i64 S) (.slice ha3 nh hc3) (.slice ga3 nh gc3)
        have hG5 := rep_all7 hG4 (b := u2.heap.size) (fun b hb => hb) (.int .i64 0) (.int .i64 1) (.int .i64 3) (.int .i64 P2) (.int .i64 S) (.slice ha3 nh hc3) (.slice ga3 nh gc3)
        have hR5 := rep_all7 hR4 (b := u2.heap.size) (fun b hb => hb) (.int .i64 0) (.int .i64 1) (.int .i64 3) (.int .i64 P2) (.int .i64 S) (.slice ha3 nh hc3) (.slice ga3 nh gc3)
        have HB5 := hidL (bel_all7 HB4.out (b := u2.heap.size) (Nat.le_refl _) (.int .i64 0) (.int .i64 1) (.int .i64 3) (.int .i64 P2) (.int .i64 S) (.slice ha3 nh hc3) (.slice ga3 nh gc3))
        have c0 := km4.cell 0 rfl; have c1 := km4.cell 1 rfl; have c2 := km4.cell 2 rfl; have c3 := km4.cell 3 rfl; have c4 := km4.cell 4 rfl; have c5 := km4.cell 5 rfl; have c6 := km4.cell 6 rfl
        have f0 := km4.free 0; have f1 := km4.free 1; have f2 := km4.free 2; have f3 := km4.free 3; have f4 := km4.free 4; have f5 := km4.free 5; have f6 := km4.free 6
        have d0 := kn4.cell 0 rfl; have d1 := kn4.cell 1 rfl; have d2 := kn4.cell 2 rfl; have d3 := kn4.cell 3 rfl; have d4 := kn4.cell 4 rfl; have d5 := kn4.cell 5 rfl; have d6 := kn4.cell 6 rfl
        clear km4 kn4 hH4 hG4 hR4 HB4
        rcases HE2.out with rfl | ⟨rfl, hlast⟩
        · go_wp2
          go_roundw
          case rel =>
            refine ⟨j + 1, 0, P2, K2, J2, ha3, hc3, ga3, gc3, ?_, ?_, ?_, ?_, ?_, ?_, ?_, ?_, ?_⟩
            · omega
            · go_num
            · rfl
            · exact HU2
            · exact km5
            · exact hH5
            · exact hG5
            · exact hR5
            · exact HB5.out
          case measure => simp [intOf]; omega
        · have hl2 : ¬ (j : Int) < (nh : Int) - 1 := by omega
          clear hlast
          go_wp2
          go_roundw
          case rel =>
            refine ⟨j + 1, 9, P2, K2, J2, ha3, hc3, ga3, gc3, ?_, ?_, ?_, ?_, ?_, ?_, ?_, ?_, ?_⟩
            · omega
            · go_num
            · rfl
            · exact HU2
            · exact km5
            · exact hH5
            · exact hG5
            · exact hR5
            · exact HB5.out
          case measure => simp [intOf]; omega
      · obtain rfl : j = nh := by omega
        have hli : ¬ (j : Int) < (j : Int) := by omega
        have hup := HU.out.1
        rw [← HL2.out] at hup
        obtain ⟨hp4, hgl⟩ := hup.wrong HSR.out
        subst hp4
        obtain rfl : 9 = E := by
          rcases HU.out.2 hn0 with ⟨h, _⟩ | ⟨_, h⟩
          · exact absurd rfl h
          · exact h
        have HM := hidL hbel
        have HS : Hid (∀ u, Below wr.heap.size wr u → u.cell? ⟨u2.heap.size, 0, none⟩ = some (.int .i64 0) ∧ u.cell? ⟨u2.heap.size, 1, none⟩ = some (.int .i64 1) ∧ u.cell? ⟨u2.heap.size, 2, none⟩ = some (.int .i64 3) ∧ u.cell? ⟨u2.heap.size, 3, none⟩ = some (.int .i64 4) ∧ u.cell? ⟨u2.heap.size, 4, none⟩ = some (.int .i64 S) ∧ u.cell? ⟨u2.heap.size, 5, none⟩ = some (.slice ha j hc) ∧ u.cell? ⟨u2.heap.size, 6, none⟩ = some (.slice ga j gc)) := fun u hu => by
          have q := km.keep hu
          exact ⟨q.cell 0 rfl, q.cell 1 rfl, q.cell 2 rfl, q.cell 3 rfl, q.cell 4 rfl, q.cell 5 rfl, q.cell 6 rfl⟩
        have hHA := Shape.any hH
        have hGA := Shape.any hG
        have HT : Hid (∀ u, Calls Try.prog 26 #[] u fun r w' => Below u.heap.size u w' ∧ ∃ a, r = .returned (.agg #[.int .i64 0, .slice a 1 1]) ∧ matS.rep w' (u.heap.size ≤ ·) [.slice a 1 1] [[1]]) := mplain
        have HN : Hid (∀ u, Below wr.heap.size wr u → ∀ a1 (F : Nat → Prop), matS.rep u F [.slice a1 1 1] [[1]] → Calls Try.prog 22 #[.agg #[.int .i64 0, .int .i64 1, .int .i64 3, .int .i64 4, .int .i64 S, .slice ha j hc, .slice ga j gc], .agg #[.int .i64 0, .slice a1 1 1]] u fun r w' => Below u.heap.size u w' ∧ ∃ ha' hc' ga' gc' a' c', r = .returned (.tuple #[.agg #[.int .i64 0, .int .i64 1, .int .i64 3, .int .i64 4, .int .i64 S, .slice ha' j hc', .slice ga' j gc'], .agg #[.int .i64 0, .slice a' 1 c'], .int .i64 1]) ∧ bitsS.rep w' (u.heap.size ≤ ·) [.slice ha' j hc'] H ∧ bagS.rep w' (u.heap.size ≤ ·) [.slice ga' j gc'] G ∧ matS.rep w' (fun b => F b ∨ u.heap.size ≤ b) [.slice a' 1 c'] [[1]]) := fun u hu a1 F hl =>
          mcommit 0 1 3 4 S ha j hc ga j gc _ _ 0 a1 1 1 [[1]] 4 0 1 [[1]] u (Shape.below hHA hu) (Shape.below hGA hu) hl hn1 hn1 ⟨by decide, fun l hl => by rw [List.mem_singleton.1 hl]; decide⟩ (.inl ⟨by decide, rfl, rfl, rfl, rfl⟩)
        obtain ⟨M9, hM9⟩ : ∃ M9 : List (List Int), [[1]] = M9 := ⟨_, rfl⟩
        have HGL : Hid ((Mq.all G).length ≤ 100000) := by show _ ≤ _; rw [hgl]; exact HLZ.out
        clear hH hG hR hbel hup hgl HU
        go_upto_region 19 with fail
        go_cut [22, 23, 24] from 27 (fun v22 v23 v24 wx => ∃ g a c, v23 = .pointer (some ⟨g, 0, none⟩) ∧ v24 = .int .i64 1 ∧ Box wx g 24 #[.int .i64 0, .slice a 1 c] ∧ matS.rep wx everywhere [.slice a 1 c] [[1]] ∧ Below wr.heap.size wr wx)
        case first =>
          rename_i Jx Kx hRJ hMK
          have hD : Below wr.heap.size wr wr.drew := (Below.refl _ wr).drew
          have bn1 : Box (wr.drew.alloc (.cells #[.int .i64 0, .int .i64 0, .int .i64 0, .int .i64 0, .int .i64 0, .slice none 0 0, .slice none 0 0] 30)) wr.heap.size 30 #[.int .i64 0, .int .i64 0, .int .i64 0, .int .i64 0, .int .i64 0, .slice none 0 0, .slice none 0 0] := Box.new wr.drew _ _
          have bn2 := bn1.keep (new_bel _ (.cells #[.int .i64 0, .slice none 0 0] 24))
          have bn3 : Box ((wr.drew.alloc (.cells #[.int .i64 0, .slice none 0 0] 24)).alloc (.cells #[.int .i64 0, .int .i64 0, .int .i64 0, .int .i64 0, .int .i64 0, .slice none 0 0, .slice none 0 0] 30)) (wr.heap.size + 1) 30 #[.int .i64 0, .int .i64 0, .int .i64 0, .int .i64 0, .int .i64 0, .slice none 0 0, .slice none 0 0] := Box.two wr.drew _ _ _
          have bp1 : Box (wr.drew.alloc (.cells #[.int .i64 0, .slice none 0 0] 24)) wr.heap.size 24 #[.int .i64 0, .slice none 0 0] := Box.new wr.drew _ _
          have bp2 := bp1.keep (new_bel _ (.cells #[.int .i64 0, .int .i64 0, .int .i64 0, .int .i64 0, .int .i64 0, .slice none 0 0, .slice none 0 0] 30))
          have bp3 : Box ((wr.drew.alloc (.cells #[.int .i64 0, .int .i64 0, .int .i64 0, .int .i64 0, .int .i64 0, .slice none 0 0, .slice none 0 0] 30)).alloc (.cells #[.int .i64 0, .slice none 0 0] 24)) (wr.heap.size + 1) 24 #[.int .i64 0, .slice none 0 0] := Box.two wr.drew _ _ _
          go_region_held3 (fun u => u.cell? ⟨u2.heap.size, 0, none⟩ = some (.int .i64 0) ∧ u.cell? ⟨u2.heap.size, 1, none⟩ = some (.int .i64 1) ∧ u.cell? ⟨u2.heap.size, 2, none⟩ = some (.int .i64 3) ∧ u.cell? ⟨u2.heap.size, 3, none⟩ = some (.int .i64 4) ∧ u.cell? ⟨u2.heap.size, 4, none⟩ = some (.int .i64 S) ∧ u.cell? ⟨u2.heap.size, 5, none⟩ = some (.slice ha j hc) ∧ u.cell? ⟨u2.heap.size, 6, none⟩ = some (.slice ga j gc))
            (first
              | exact HS.out _ (by (repeat' (first | with_reducible assumption | with_reducible exact Below.refl _ _ | with_reducible refine bel_alloc ?_ _ | with_reducible refine Below.drew ?_ | with_reducible refine bel_all7 ?_ ?_ _ _ _ _ _ _ _ | with_reducible refine bel_all2 ?_ ?_ _ _)); all_goals omega)
              | go_keep)
            (first
              | (go_at_call 26; refine (HT.out _).mono ?_; rintro r u8 ⟨hb8, a8, rfl, hm8⟩; have hm8 := rep_low hm8; have hd8 : Below wr.heap.size wr u8 := (by first | exact bel_then hD hb8 | exact bel_then (bel_alloc hD _) hb8 | exact bel_then (bel_alloc (bel_alloc hD _) _) hb8); have hs8 := hd8.size; (first | (have qN := bn1.keep hb8) | (have qN := bn2.keep hb8) | (have qN := bn3.keep hb8) | skip); (first | (have qP := bp1.keep hb8) | (have qP := bp2.keep hb8) | (have qP := bp3.keep hb8) | skip))
              | (go_at_call 22; refine (HN.out _ (by first | assumption | exact bel_alloc (by assumption) _ | exact bel_alloc (bel_alloc (by assumption) _) _) a8 _ (by first | exact hm8 | exact Shape.below hm8 (new_bel _ _) | exact Shape.below (Shape.below hm8 (new_bel _ _)) (new_bel _ _))).mono ?_; rintro r u9 ⟨hb9, ha9, hc9, ga9, gc9, a9, c9, rfl, hH9, hG9, hm9⟩; have hd9 : Below wr.heap.size wr u9 := (by first | exact bel_then hd8 hb9 | exact bel_then (bel_alloc hd8 _) hb9 | exact bel_then (bel_alloc (bel_alloc hd8 _) _) hb9); have hs9 := hd9.size; obtain ⟨F9, hF9, hm9⟩ := rep_name hm9; (first | (have kN := qN.keep hb9) | (have kN := (qN.keep (new_bel _ _)).keep hb9) | (have kN := (Box.new u8 30 #[.int .i64 0, .int .i64 0, .int .i64 0, .int .i64 0, .int .i64 0, .slice none 0 0, .slice none 0 0]).keep hb9) | (have kN := ((Box.new u8 30 #[.int .i64 0, .int .i64 0, .int .i64 0, .int .i64 0, .int .i64 0, .slice none 0 0, .slice none 0 0]).keep (new_bel _ (.cells #[.int .i64 0, .slice none 0 0] 24))).keep hb9) | (have kN := (Box.two u8 (.cells #[.int .i64 0, .slice none 0 0] 24) 30 #[.int .i64 0, .int .i64 0, .int .i64 0, .int .i64 0, .int .i64 0, .slice none 0 0, .slice none 0 0]).keep hb9) | skip); (first | (have kP := qP.keep hb9) | (have kP := (qP.keep (new_bel _ _)).keep hb9) | (have kP := (Box.new u8 24 #[.int .i64 0, .slice none 0 0]).keep hb9) | (have kP := ((Box.new u8 24 #[.int .i64 0, .slice none 0 0]).keep (new_bel _ (.cells #[.int .i64 0, .int .i64 0, .int .i64 0, .int .i64 0, .int .i64 0, .slice none 0 0, .slice none 0 0] 30))).keep hb9) | (have kP := (Box.two u8 (.cells #[.int .i64 0, .int .i64 0, .int .i64 0, .int .i64 0, .int .i64 0, .slice none 0 0, .slice none 0 0] 30) 24 #[.int .i64 0, .slice none 0 0]).keep hb9) | skip); (try (have c0 := kN.cell 0 rfl; have c1 := kN.cell 1 rfl; have c2 := kN.cell 2 rfl; have c3 := kN.cell 3 rfl; have c4 := kN.cell 4 rfl; have c5 := kN.cell 5 rfl; have c6 := kN.cell 6 rfl; have f0 := kN.free 0; have f1 := kN.free 1; have f2 := kN.free 2; have f3 := kN.free 3; have f4 := kN.free 4; have f5 := kN.free 5; have f6 := kN.free 6; have ltN := kN.lt)); (try (have k0 := kP.cell 0 rfl; have k1 := kP.cell 1 rfl; have l0 := kP.free 0; have l1 := kP.free 1; have ltP := kP.lt)); (try (have ltq := qN.lt; have neq := Nat.ne_of_lt ltq; have neq2 := neq.symm)); (try (have ltp := qP.lt; have nep := Nat.ne_of_lt ltp; have nep2 := nep.symm))))
          all_goals
            refine hMK _ _ (Met.intro (hRJ _ _ ?_))
            (repeat apply Exists.intro)
            refine ⟨?_, rfl⟩
          all_goals
            refine ⟨_, a9, c9, rfl, rfl, ?_, ?_, ?_⟩
            · (repeat' (first | with_reducible exact kP | with_reducible refine Box.at _ _ ?_ | with_reducible refine Box.past ?_ _ | with_reducible refine Box.all2 (p0 := .int .i64 0) (p1 := .slice none 0 0) ?_ _ _ | with_reducible refine Box.all7_other ?_ ?_ _ _ _ _ _ _ _))
              all_goals (first | omega | simp)
            · refine Shape.any (F := F9) ?_
              (repeat' (first | with_reducible exact hm9 | with_reducible refine rep_new ?_ _ | with_reducible refine rep_all7 ?_ ?_ _ _ _ _ _ _ _ | with_reducible refine Shape.all2 ?_ ?_ _ _))
              all_goals (intro b hb; (try intro h0); rw [hF9] at hb; rcases hb with ⟨h1, h2⟩ | h1 <;> (try simp at h1) <;> omega)
            · (repeat' (first | with_reducible exact hd9 | with_reducible refine bel_alloc ?_ _ | with_reducible refine bel_all7 ?_ ?_ _ _ _ _ _ _ _ | with_reducible refine bel_all2 ?_ ?_ _ _))
              all_goals omega
        case rest =>
          obtain ⟨g, a9, c9, rfl, rfl, kg, hm9, hBV⟩ := hcut
          have km8 := km.keep hBV
          have HBW := hidL (bel_then HBU.out (bel_then HM.out hBV))
          have HTX : Hid (Calls _ _ _ _ _) := mtext 0 1 3 4 S ha j hc ga j gc H G noText false wc (Shape.below hHA hBV) (Shape.below hGA hBV) hn1 HGL.out (.inr ⟨by omega, rfl, rfl⟩)
          clear HS HT HN hm9 hBV km hHA hGA
          have c0 := km8.cell 0 rfl; have c1 := km8.cell 1 rfl; have c2 := km8.cell 2 rfl; have c3 := km8.cell 3 rfl; have c4 := km8.cell 4 rfl; have c5 := km8.cell 5 rfl; have c6 := km8.cell 6 rfl
          go_wp2_with fail
          refine HTX.out.mono ?_
          rintro r u9 ⟨rfl, hb9⟩
          have HB9 := hidL (bel_then HBW.out hb9)
          have km9 := km8.keep hb9
          have kg9 := kg.keep hb9
          clear c0 c1 c2 c3 c4 c5 c6 km8 kg hb9 HTX
          have c3 := km9.cell 3 rfl
          have d0 := kg9.cell 0 rfl
          clear km9 kg9
          go_wp2_with (go_at_call 11; refine (HAW.out _).mono ?_; rintro r WZ ⟨rfl, hbz⟩)
          go_ret
          exact ⟨rfl, bel_then (HB9.out) hbz⟩

end Go.Proofs.Ytpfhjdlmjehfnaa
