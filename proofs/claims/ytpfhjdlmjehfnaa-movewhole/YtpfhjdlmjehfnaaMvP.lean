/- MoveWhole, with letters. -/
import Derived.Test.YtpfhjdlmjehfnaaMvI
import Derived.Test.YtpfhjdlmjehfnaaMvB
import Derived.Test.YtpfhjdlmjehfnaaMvC
import Derived.Test.YtpfhjdlmjehfnaaMvD
import Derived.Test.YtpfhjdlmjehfnaaMr
namespace Go.Proofs.Ytpfhjdlmjehfnaa
open Go.ChangeShapes Go.WideShapes Go.ChangeAt Go.RowKit



theorem made_bools (n : Nat) : madeCells #[.bool false] n = ((List.replicate n false).map Value.bool).toArray := by
  have h1 := made_flat [.bool false] (by simp) n
  rw [show n * [Value.bool false].length = n by simp] at h1
  apply Array.ext'
  rw [h1, List.toList_toArray, List.map_replicate]
  induction n with
  | zero => rfl
  | succ n ih => simp [List.replicate_succ]
theorem bools_at (H : List Bool) {j : Nat} (hj : j < H.length) : (H.map Value.bool).toArray[j]? = some (.bool (H.getD j false)) := by
  rw [List.getElem?_toArray, List.getElem?_map, List.getD_eq_getElem?_getD, List.getElem?_eq_getElem hj]
  rfl
theorem Box.bits {u : World} {b : Nat} {t : TypeId} {H : List Bool} (h : Box u b t (H.map Value.bool).toArray) (j : Nat) (v : Bool) : Box (u.setCell ⟨b, j, none⟩ (.bool v)) b t ((H.set j v).map Value.bool).toArray := by
  have := h.set j (.bool v)
  rw [List.map_set]
  simpa using this
theorem rep_set {α : Type} {A : Shape α} {w : World} {F : Nat → Prop} {cs : List Value} {x : α} (h : A.rep w F cs x) {b i : Nat} (hF : ∀ k, F k → k ≠ b) (v : Value) : A.rep (w.setCell ⟨b, i, none⟩ v) F cs x :=
  A.keep h fun k hk _ => Below.heap_setCell w ⟨b, i, none⟩ v k (hF k hk)
namespace Mq
section
variable {L : List ByteArray} {s P : Int} {H : List Bool} {G : List ByteArray} {q : Nat}
theorem Got.fine (h : Got L s P H G q) (hs : (Cx.sum (all L) : Int) = s) : (0 < q ∧ 1 = P) ∨ (q = 0 ∧ 2 = P) := by
  rcases h.2.2.2.2 with h1 | ⟨h1, _, h2⟩ | ⟨_, h1, _⟩
  · exact .inl h1
  · exact .inr ⟨h1, h2⟩
  · exact absurd hs h1
theorem set_same {H : List Bool} {j : Nat} (hj : j < H.length) (h : H.getD j false = true) : H.set j true = H := by
  refine ext_getD false (by rw [List.length_set]) fun i hi => ?_
  rw [getD_set _ _ _ _ _ hj]
  by_cases e : i = j
  · subst e; rw [if_pos rfl, h]
  · rw [if_neg e]
/-- One piece that comes, of those that are right: what is there behind it, how many are left. -/
theorem Got.takes (h : Got L s P H G q) (hs : (Cx.sum (all L) : Int) = s) {j : Nat} (hj : j < L.length) (hq : 0 < q) {P2 : Int} {K : List Bool} {J : List ByteArray} {E : Int} (hp : Piece P s H G (j : Int) (L.getD j noText) P2 K J E) :
    (H.getD j false = true ∧ E = 5 ∧ K = H.set j true ∧ Got L s P2 K J q) ∨ (H.getD j false = false ∧ E = 0 ∧ K = H.set j true ∧ Got L s P2 K J (q - 1)) := by
  have hjH : j < H.length := by rw [h.1]; exact hj
  rcases h.step hj hq hp with ⟨h1, rfl, rfl, rfl, h5⟩ | ⟨h1, h2, h3, h4⟩
  · exact .inl ⟨h1, h5.symm, (set_same hjH h1).symm, h⟩
  · refine .inr ⟨h1, ?_, h2.symm, h3⟩
    rcases h4 with ⟨_, h5⟩ | ⟨h5, _⟩
    · exact h5.symm
    · rcases h3.fine hs with ⟨_, h6⟩ | ⟨_, h6⟩ <;> omega
/-- The second loop: of those ahead of k all are there; the others are as B tells. -/
def Rest (L : List ByteArray) (B : List Bool) (K : List Bool) (k : Nat) : Prop := ∀ i, i < L.length → K.getD i false = (B.getD i false || decide (i < k))
theorem Rest.zero (L : List ByteArray) (B : List Bool) : Rest L B B 0 := fun i _ => by simp
theorem Rest.skip {B K : List Bool} {k : Nat} (h : Rest L B K k) (hb : B.getD k false = true) : Rest L B K (k + 1) := fun i hi => by
  rw [h i hi]
  by_cases e : i = k
  · subst e; rw [hb]; simp
  · by_cases h1 : i < k
    · rw [decide_eq_true h1, decide_eq_true (by omega)]
    · rw [decide_eq_false h1, decide_eq_false (by omega)]
theorem Rest.not_yet {B K : List Bool} {k : Nat} (h : Rest L B K k) (hk : k < L.length) (hb : B.getD k false = false) : K.getD k false = false := by rw [h k hk, hb]; simp
theorem Rest.put {B K : List Bool} {k : Nat} (h : Rest L B K k) (hl : K.length = L.length) (hk : k < L.length) : Rest L B (K.set k true) (k + 1) := fun i hi => by
  rw [getD_set _ _ _ _ _ (by rw [hl]; exact hk)]
  by_cases e : i = k
  · subst e; rw [if_pos rfl]; simp
  · rw [if_neg e, h i hi]
    by_cases h1 : i < k
    · rw [decide_eq_true h1, decide_eq_true (by omega)]
    · rw [decide_eq_false h1, decide_eq_false (by omega)]
theorem Rest.done {B K : List Bool} (h : Rest L B K L.length) : ∀ i, i < L.length → K.getD i false = true := fun i hi => by rw [h i hi, decide_eq_true hi, Bool.or_true]
end
end Mq

set_option maxRecDepth 100000 in
set_option maxHeartbeats 8000000 in
theorem lwhole (AW : ∀ u, Calls Try.prog 11 #[] u fun r w' => r = .returned (.bool true) ∧ Below u.heap.size u w') (s : ByteArray) (z : Int) (hz : 0 ≤ z ∧ z ≤ 255) (ao : Option Addr) (no co : Nat) (o : List Int) (w : World) (hsl : s.size ≤ maxLen) (ho : (sliceS (intS .u16)).rep w everywhere [.slice ao no co] o) (ho9 : ∀ x ∈ o, 0 ≤ x ∧ x ≤ 65535) :
    Calls Try.prog 6 #[.string s, .int .u8 z, .slice ao no co] w fun r w' => r = .returned (.bool true) ∧ Below w.heap.size w w' := by
  have HAW := hidL AW
  have hm63 : s.size ≤ 9223372036854775807 := hsl
  have hz0 : 0 ≤ z % 64 := Int.emod_nonneg _ (by decide)
  have hz1 : z % 64 < 64 := Int.emod_lt_of_pos _ (by decide)
  obtain ⟨k, hk1, hk2, ek⟩ : ∃ k : Nat, 1 ≤ k ∧ k ≤ 64 ∧ 1 + z % 64 = (k : Int) := ⟨(1 + z % 64).toNat, by omega, by omega, by omega⟩
  have hB0 := hidL (Below.refl w.heap.size w)
  have HO : Hid ((sliceS (intS .u16)).rep w (· < w.heap.size) [.slice ao no co] o) := Shape.low ho
  have HOL : Hid (∀ i, i < no → 0 ≤ o.getD i 0 ∧ o.getD i 0 ≤ 65535) := fun i hi => by
    have h9 : i < o.length := by rw [(sliceS_len ho).1]; exact hi
    refine ho9 _ ?_
    rw [List.getD_eq_getElem?_getD, List.getElem?_eq_getElem h9]
    exact List.getElem_mem h9
  have hno : no ≤ 9223372036854775807 := Nat.le_trans (sliceS_len ho).2.1 (sliceS_len ho).2.2
  clear AW ho ho9
  by_cases h0 : s.size = 0
  · have hse := str_none h0
    clear h0
    go_enter Try.func6, Try.ntmps6
    go_wp2_with (go_at_call 11; refine (HAW.out _).mono ?_; rintro r WZ ⟨rfl, hbz⟩)
    go_ret
    exact ⟨rfl, bel_then (hB0.out) hbz⟩
  have hse := str_some (S := s) h0
  by_cases h3 : 300 < s.size
  · have h3i : (300 : Int) < (s.size : Int) := by omega
    clear h0
    go_enter Try.func6, Try.ntmps6
    go_wp2_with (go_at_call 11; refine (HAW.out _).mono ?_; rintro r WZ ⟨rfl, hbz⟩)
    go_ret
    exact ⟨rfl, bel_then (hB0.out) hbz⟩
  have h3i : ¬ (300 : Int) < (s.size : Int) := by omega
  have HI := hidL (Mq.plain_begin (t := 3) (s := s) (k := (k : Int)) ⟨by decide, by decide⟩ (by decide) h0 ⟨by omega, by omega⟩)
  rw [show ((k : Int)).toNat = k from rfl] at HI
  obtain ⟨n, hn⟩ : ∃ n, Ck.num s.size k = n := ⟨_, rfl⟩
  have hn1 : n ≤ 1000 := by rw [← hn]; exact Mq.num_few hk1 (by omega)
  have hn0 : 0 < n := by rw [← hn]; exact (Ck.num_lt hk1).2 (by omega)
  have HAL : Hid (Mq.all (Mq.pieces (Mq.lst s) k) = Mq.lst s) := Mq.all_pieces hk1
  obtain ⟨S, hS⟩ : ∃ S : Int, (Cx.sum (Mq.lst s) : Int) = S := ⟨_, rfl⟩
  have HSR : Hid ((Cx.sum (Mq.all (Mq.pieces (Mq.lst s) k)) : Int) = S) := by show _ = _; rw [HAL.out]; exact hS
  have HLS : Hid (∀ y ∈ Mq.pieces (Mq.lst s) k, y.size ≤ 100) := fun y hy => by have := Mq.pieces_sizes s k y hy; omega
  have HLZ : Hid ((Mq.all (Mq.pieces (Mq.lst s) k)).length ≤ 100000) := by show _ ≤ _; rw [HAL.out, Mq.lst_len]; omega
  have HLL : Hid ((Mq.pieces (Mq.lst s) k).length = n) := by show _ = _; rw [pieces_len]; exact hn
  rw [hn, hS] at HI
  clear hS hn
  generalize Mq.pieces (Mq.lst s) k = L at *
  have HG0 : Hid (Mq.Got L S 1 (List.replicate n false) (List.replicate n noText) n) := by
    have h9 := Mq.Got.first (L := L) (s := S) (by rw [HLL.out]; exact hn0)
    rw [HLL.out] at h9
    exact h9
  clear h0 h3
  go_enter Try.func6, Try.ntmps6
  go_wp2_with fail
  refine (mplain w).mono ?_
  rintro r u1 ⟨hb1, a, rfl, hm⟩
  have HC1 : Hid (Calls _ _ _ _ _) := mbegin 0 a 1 1 [[1]] 0 1 3 s k 0 1 3 1 S _ _ L 0 u1 (Shape.any hm) Mq.plain_sized (by omega) HI.out
  clear HI hm
  go_wp2_with fail
  refine HC1.out.mono ?_
  rintro r u2 ⟨hb2, ha, nh, hc, ga, gc, la, lc, rfl, hH, hG, hL⟩
  obtain rfl : nh = n := by rw [← (sliceS_len hL).1]; exact HLL.out
  have hnz : ((nh : Int) == 0) = false := by rw [beq_eq_false_iff_ne]; omega
  have hbn := new_bel u2 (.cells #[.int .i64 0, .int .i64 1, .int .i64 3, .int .i64 1, .int .i64 S, .slice ha nh hc, .slice ga nh gc] 30)
  have km := Box.new u2 30 #[.int .i64 0, .int .i64 1, .int .i64 3, .int .i64 1, .int .i64 S, .slice ha nh hc, .slice ga nh gc]
  have eV : (u2.alloc (.cells #[.int .i64 0, .int .i64 1, .int .i64 3, .int .i64 1, .int .i64 S, .slice ha nh hc, .slice ga nh gc] 30)).heap.size = u2.heap.size + 1 := by simp
  have HBU := hidL (bel_then hb1 hb2)
  have HLA : Hid (∀ u, Below u2.heap.size u2 u → bagS.rep u everywhere [.slice la nh lc] L) := fun u hu => Shape.any (Shape.below hL hu)
  have hH2 := Shape.below (Shape.low hH) hbn
  have hG2 := Shape.below (Shape.low hG) hbn
  have hBM := hbn
  clear hH hG hL hb1 hb2 hbn HC1
  go_upto_region 6 with fail
  generalize u2.alloc (.cells #[.int .i64 0, .int .i64 1, .int .i64 3, .int .i64 1, .int .i64 S, .slice ha nh hc, .slice ga nh gc] 30) = V2 at *
  have hmk : (Instr.makeSlice 27 (.int .i64 (nh : Int)) (.int .i64 (nh : Int))).run Try.prog V2 = .ok (.slice (some ⟨V2.heap.size, 0, none⟩) nh nh) (V2.alloc (.cells (madeCells #[.bool false] nh) 4)) := run_make_row' (P := Try.prog) 27 4 (.bool false) 1 Try.underlying27 Try.infoBool rfl .i64 .i64 nh (by omega) (by omega) V2
  have hbn := new_bel V2 (.cells (madeCells #[.bool false] nh) 4)
  have kT : Box (V2.alloc (.cells (madeCells #[.bool false] nh) 4)) V2.heap.size 4 ((List.replicate nh false).map Value.bool).toArray := by rw [← made_bools]; exact Box.new V2 _ _
  have km3 := km.keep hbn
  have hH3 := Shape.below hH2 hbn
  have hG3 := Shape.below hG2 hbn
  have hBM3 := bel_then hBM hbn
  rw [eV] at kT hmk
  have HEV := hidL eV
  clear km hH2 hG2 hBM hbn eV
  go_upto_region 7 with fail
  clear hmk
  generalize V2.alloc (.cells (madeCells #[.bool false] nh) 4) = V3 at *
  go_wp2
  go_loopw [11, 12] (fun v11 v12 wr => ∃ (i q : Nat) (P : Int) (H : List Bool) (G : List ByteArray) (ha : Option Addr) (hc : Nat) (ga : Option Addr) (gc : Nat), i ≤ no ∧ i ≤ 300 ∧ v12 = .int .i64 i ∧ v11 = .int .i64 q ∧ q ≤ nh ∧ Hid (Mq.Got L S P H G q) ∧ Box wr u2.heap.size 30 #[.int .i64 0, .int .i64 1, .int .i64 3, .int .i64 P, .int .i64 S, .slice ha nh hc, .slice ga nh gc] ∧ Box wr (u2.heap.size + 1) 4 (H.map Value.bool).toArray ∧ bitsS.rep wr (fun b => b ≠ u2.heap.size ∧ b ≠ u2.heap.size + 1) [.slice ha nh hc] H ∧ bagS.rep wr (fun b => b ≠ u2.heap.size ∧ b ≠ u2.heap.size + 1) [.slice ga nh gc] G ∧ Below u2.heap.size u2 wr) (fun _ i _ => 300 - (intOf i).toNat)
  case atStart => exact ⟨0, nh, 1, _, _, ha, hc, ga, gc, Nat.zero_le _, Nat.zero_le _, rfl, rfl, Nat.le_refl _, HG0, km3, kT, bitsS.mono hH3 (fun b hb _ => by have h9 : b < u2.heap.size := hb; exact ⟨by omega, by omega⟩), bagS.mono hG3 (fun b hb _ => by have h9 : b < u2.heap.size := hb; exact ⟨by omega, by omega⟩), hBM3⟩
  case round =>
    clear km3 kT hH3 hG3 hBM3 HG0 HEV
    obtain ⟨i, q, P, H, G, ha, hc, ga, gc, hi1, hi2, rfl, rfl, hq, HGT, km, kT, hH, hG, hbel⟩ := hrel
    by_cases hlt : i < no ∧ i < 300 ∧ 0 < q
    · obtain ⟨hlt1, hlt2, hlt3⟩ := hlt
      have hli1 : (i : Int) < (no : Int) := by omega
      have hli2 : (i : Int) < 300 := by omega
      have hli3 : (0 : Int) < (q : Int) := by omega
      have hi0 : (0 : Int) ≤ (i : Int) := by omega
      obtain ⟨bo, oo, rfl, hbF, hocell⟩ := (Row.of_rep (Shape.now HO.out (bel_then HBU.out hbel))).at hlt1
      obtain ⟨x, hx⟩ : ∃ x : Int, o.getD i 0 = x := ⟨_, rfl⟩
      have hx9 : 0 ≤ x ∧ x ≤ 65535 := by rw [← hx]; exact HOL.out i hlt1
      rw [hx] at hocell
      clear hx
      obtain ⟨j, hj, ej⟩ : ∃ j : Nat, j < nh ∧ x.tmod (nh : Int) = (j : Int) := by
        refine ⟨(x.tmod (nh : Int)).toNat, ?_, ?_⟩
        · have := Int.tmod_lt_of_pos x (b := (nh : Int)) (by omega)
          omega
        · have := Int.tmod_nonneg (a := x) (nh : Int) (by omega)
          omega
      have hjL : j < L.length := by rw [HLL.out]; exact hj
      have hjH : j < H.length := by rw [HGT.out.1]; exact hjL
      have hji : (j : Int) < (nh : Int) := by omega
      have hj0 : (0 : Int) ≤ (j : Int) := by omega
      obtain ⟨P2, K2, J2, E2, hP⟩ := Mq.piece_there P S H G (j : Int) (L.getD j noText)
      have HTK := hidL (HGT.out.takes HSR.out hjL hlt3 hP)
      have HSH : Hid (Mq.Short H G) := HGT.out.short (by rw [HLL.out]; exact hn1) HLS.out
      have HYS : Hid ((L.getD j noText).size ≤ 100) := HLS.out _ (by rw [List.getD_eq_getElem?_getD, List.getElem?_eq_getElem hjL]; exact List.getElem_mem hjL)
      obtain ⟨b1, o1, rfl, _, hcell⟩ := (Texts.of_rep (HLA.out wr hbel)).at hj
      have HP1 : Hid (∀ u, Below wr.heap.size wr u → Calls Try.prog 18 #[.agg #[.int .i64 0, .int .i64 1, .int .i64 3, .int .i64 P, .int .i64 S, .slice ha nh hc, .slice ga nh gc], .int .i64 (j : Int), .string (L.getD j noText)] u fun r w' => Below u.heap.size u w' ∧ ∃ ha' hc' ga' gc', r = .returned (.tuple #[.agg #[.int .i64 0, .int .i64 1, .int .i64 3, .int .i64 P2, .int .i64 S, .slice ha' nh hc', .slice ga' nh gc'], .int .i64 E2]) ∧ bitsS.rep w' (u.heap.size ≤ ·) [.slice ha' nh hc'] K2 ∧ bagS.rep w' (u.heap.size ≤ ·) [.slice ga' nh gc'] J2) := fun u hu => mpiece 0 1 3 P S ha nh hc ga nh gc H G (j : Int) (L.getD j noText) P2 E2 K2 J2 u (Shape.any (Shape.below hH hu)) (Shape.any (Shape.below hG hu)) HSH.out HYS.out hP
      have HBT : Hid ((H.map Value.bool).toArray[j]? = some (.bool (H.getD j false))) := bools_at H hjH
      generalize L.getD j noText = y at *
      have HS : Hid (∀ u, Below wr.heap.size wr u → u.cell? ⟨u2.heap.size, 0, none⟩ = some (.int .i64 0) ∧ u.cell? ⟨u2.heap.size, 1, none⟩ = some (.int .i64 1) ∧ u.cell? ⟨u2.heap.size, 2, none⟩ = some (.int .i64 3) ∧ u.cell? ⟨u2.heap.size, 3, none⟩ = some (.int .i64 P) ∧ u.cell? ⟨u2.heap.size, 4, none⟩ = some (.int .i64 S) ∧ u.cell? ⟨u2.heap.size, 5, none⟩ = some (.slice ha nh hc) ∧ u.cell? ⟨u2.heap.size, 6, none⟩ = some (.slice ga nh gc) ∧ u.cell? ⟨b1, o1 + j, none⟩ = some (.string y)) := fun u hu => by
        have k9 := km.keep hu
        exact ⟨k9.cell 0 rfl, k9.cell 1 rfl, k9.cell 2 rfl, k9.cell 3 rfl, k9.cell 4 rfl, k9.cell 5 rfl, k9.cell 6 rfl, (hu.cell (World.block_lt_of_cell? wr _ hcell)).trans hcell⟩
      have HLT : Hid (u2.heap.size < wr.heap.size ∧ u2.heap.size + 1 < wr.heap.size) := ⟨km.lt, kT.lt⟩
      clear hP hH hG hjH hjL
      go_upto_region 12 with fail
      go_cut [14, 15] from 50 to 113 (fun v14 v15 wx => ∃ g ha4 hc4 ga4 gc4, v14 = .pointer (some ⟨g, 0, none⟩) ∧ v15 = .int .i64 E2 ∧ wr.heap.size ≤ g ∧ Box wx g 30 #[.int .i64 0, .int .i64 1, .int .i64 3, .int .i64 P2, .int .i64 S, .slice ha4 nh hc4, .slice ga4 nh gc4] ∧ bitsS.rep wx (wr.heap.size ≤ ·) [.slice ha4 nh hc4] K2 ∧ bagS.rep wx (wr.heap.size ≤ ·) [.slice ga4 nh gc4] J2 ∧ Below wr.heap.size wr wx)
      case first =>
        rename_i Jx Kx hRJ hMK
        have hD : Below wr.heap.size wr wr.drew := (Below.refl _ wr).drew
        have bn1 : Box (wr.drew.alloc (.cells #[.int .i64 0, .int .i64 0, .int .i64 0, .int .i64 0, .int .i64 0, .slice none 0 0, .slice none 0 0] 30)) wr.heap.size 30 #[.int .i64 0, .int .i64 0, .int .i64 0, .int .i64 0, .int .i64 0, .slice none 0 0, .slice none 0 0] := Box.new wr.drew _ _
        have hV1 : (wr.drew.alloc (.cells #[.int .i64 0, .int .i64 0, .int .i64 0, .int .i64 0, .int .i64 0, .slice none 0 0, .slice none 0 0] 30)).heap.size = wr.heap.size + 1 := by simp
        have HV1 := hidL hV1
        clear hV1
        go_region_held3 (fun u => u.cell? ⟨u2.heap.size, 0, none⟩ = some (.int .i64 0) ∧ u.cell? ⟨u2.heap.size, 1, none⟩ = some (.int .i64 1) ∧ u.cell? ⟨u2.heap.size, 2, none⟩ = some (.int .i64 3) ∧ u.cell? ⟨u2.heap.size, 3, none⟩ = some (.int .i64 P) ∧ u.cell? ⟨u2.heap.size, 4, none⟩ = some (.int .i64 S) ∧ u.cell? ⟨u2.heap.size, 5, none⟩ = some (.slice ha nh hc) ∧ u.cell? ⟨u2.heap.size, 6, none⟩ = some (.slice ga nh gc) ∧ u.cell? ⟨b1, o1 + j, none⟩ = some (.string y))
          (first
            | exact HS.out _ (by (repeat' (first | with_reducible assumption | with_reducible exact Below.refl _ _ | with_reducible refine bel_alloc ?_ _ | with_reducible refine Below.drew ?_ | with_reducible refine bel_all7 ?_ ?_ _ _ _ _ _ _ _)); all_goals omega)
            | go_keep)
          (first
            | (go_at_call 18; refine (HP1.out _ (by first | assumption | exact bel_alloc (by assumption) _)).mono ?_; rintro r u4 ⟨hb4, ha4, hc4, ga4, gc4, rfl, hH4, hG4⟩; have hH4 := rep_low hH4; have hG4 := rep_low hG4; obtain ⟨F9, hF9, hH4⟩ := rep_name hH4; obtain ⟨G9, hG9, hG4⟩ := rep_name hG4; have hd4 : Below wr.heap.size wr u4 := (by first | exact bel_then hD hb4 | exact bel_then (bel_alloc hD _) hb4); have hs4 := hd4.size; (try (have kN := bn1.keep hb4; have ltN := kN.lt; have c0 := kN.cell 0 rfl; have c1 := kN.cell 1 rfl; have c2 := kN.cell 2 rfl; have c3 := kN.cell 3 rfl; have c4 := kN.cell 4 rfl; have c5 := kN.cell 5 rfl; have c6 := kN.cell 6 rfl; have f0 := kN.free 0; have f1 := kN.free 1; have f2 := kN.free 2; have f3 := kN.free 3; have f4 := kN.free 4; have f5 := kN.free 5; have f6 := kN.free 6))))
        all_goals
          refine hMK _ _ (Met.intro (hRJ _ _ ?_))
          (repeat apply Exists.intro)
          refine ⟨?_, rfl⟩
        · refine ⟨_, ha4, hc4, ga4, gc4, rfl, rfl, hs4, Box.new u4 _ _, bitsS.mono (rep_new hH4 _) ?_, bagS.mono (rep_new hG4 _) ?_, bel_alloc hd4 _⟩
          · intro b hb _; rw [hF9] at hb; exact hb.1
          · intro b hb _; rw [hG9] at hb; exact hb.1
        · have hFb : ∀ b, F9 b → wr.heap.size + 1 ≤ b := fun b hb => by rw [hF9] at hb; rw [← HV1.out]; exact hb.1
          have hGb : ∀ b, G9 b → wr.heap.size + 1 ≤ b := fun b hb => by rw [hG9] at hb; rw [← HV1.out]; exact hb.1
          refine ⟨_, ha4, hc4, ga4, gc4, rfl, rfl, Nat.le_refl _, kN.all7 _ _ _ _ _ _ _, bitsS.mono (rep_all7 hH4 ?_ _ _ _ _ _ _ _) ?_, bagS.mono (rep_all7 hG4 ?_ _ _ _ _ _ _ _) ?_, bel_all7 hd4 (Nat.le_refl _) _ _ _ _ _ _ _⟩
          · intro b hb; have := hFb b hb; omega
          · intro b hb _; have := hFb b hb; show wr.heap.size ≤ b; omega
          · intro b hb; have := hGb b hb; omega
          · intro b hb _; have := hGb b hb; show wr.heap.size ≤ b; omega
      case rest =>
        obtain ⟨g, ha4, hc4, ga4, gc4, rfl, rfl, hg, kn, hH4, hG4, hBV⟩ := hcut
        have hlt9 := HLT.out
        have km4 := km.keep hBV
        have kT4 := kT.keep hBV
        have hbel4 := bel_then hbel hBV
        have ct := kT4.cell j (v := .bool (H.getD j false)) HBT.out
        have ft := kT4.free j
        have kT5 := kT4.bits j true
        have km5 := km4.other (b2 := u2.heap.size + 1) (i := j) (.bool true) (by omega)
        have kn5 := kn.other (b2 := u2.heap.size + 1) (i := j) (.bool true) (by omega)
        have hH5 := rep_set hH4 (b := u2.heap.size + 1) (i := j) (fun b hb => by have h9 : wr.heap.size ≤ b := hb; omega) (.bool true)
        have hG5 := rep_set hG4 (b := u2.heap.size + 1) (i := j) (fun b hb => by have h9 : wr.heap.size ≤ b := hb; omega) (.bool true)
        have hbel5 := bel_put (i := j) hbel4 (b := u2.heap.size + 1) (by omega) (.bool true)
        have km6 := km5.all7 (.int .i64 0) (.int .i64 1) (.int .i64 3) (.int .i64 P2) (.int .i64 S) (.slice ha4 nh hc4) (.slice ga4 nh gc4)
        have kT6 := kT5.all7_other (b2 := u2.heap.size) (by omega) (.int .i64 0) (.int .i64 1) (.int .i64 3) (.int .i64 P2) (.int .i64 S) (.slice ha4 nh hc4) (.slice ga4 nh gc4)
        have hH6 := bitsS.mono (F' := fun b => b ≠ u2.heap.size ∧ b ≠ u2.heap.size + 1) (rep_all7 hH5 (b := u2.heap.size) (fun b hb => by have h9 : wr.heap.size ≤ b := hb; omega) (.int .i64 0) (.int .i64 1) (.int .i64 3) (.int .i64 P2) (.int .i64 S) (.slice ha4 nh hc4) (.slice ga4 nh gc4)) (fun b hb _ => by have h9 : wr.heap.size ≤ b := hb; exact ⟨by omega, by omega⟩)
        have hG6 := bagS.mono (F' := fun b => b ≠ u2.heap.size ∧ b ≠ u2.heap.size + 1) (rep_all7 hG5 (b := u2.heap.size) (fun b hb => by have h9 : wr.heap.size ≤ b := hb; omega) (.int .i64 0) (.int .i64 1) (.int .i64 3) (.int .i64 P2) (.int .i64 S) (.slice ha4 nh hc4) (.slice ga4 nh gc4)) (fun b hb _ => by have h9 : wr.heap.size ≤ b := hb; exact ⟨by omega, by omega⟩)
        have HB6 := hidL (bel_all7 hbel5 (b := u2.heap.size) (Nat.le_refl _) (.int .i64 0) (.int .i64 1) (.int .i64 3) (.int .i64 P2) (.int .i64 S) (.slice ha4 nh hc4) (.slice ga4 nh gc4))
        clear HS HP1 hcell hocell km kT km4 kT4 kn hH4 hG4 hH5 hG5 hbel4 hbel5 hBV hbel HBT
        rcases HTK.out with ⟨hb, rfl, hK, hgot⟩ | ⟨hb, rfl, hK, hgot⟩
        · rw [hb] at ct
          rw [← hK] at kT6
          have HGN := hidL hgot
          obtain rfl : 1 = P2 := by
            rcases hgot.fine HSR.out with ⟨_, h⟩ | ⟨h, _⟩
            · exact h
            · omega
          have hq0 : ((q : Int) == 0) = false := by rw [beq_eq_false_iff_ne]; omega
          clear hb hK hgot HTK
          go_upto_region 18 with fail
          clear ct ft
          have c0 := km5.cell 0 rfl; have c1 := km5.cell 1 rfl; have c2 := km5.cell 2 rfl; have c3 := km5.cell 3 rfl; have c4 := km5.cell 4 rfl; have c5 := km5.cell 5 rfl; have c6 := km5.cell 6 rfl
          have f0 := km5.free 0; have f1 := km5.free 1; have f2 := km5.free 2; have f3 := km5.free 3; have f4 := km5.free 4; have f5 := km5.free 5; have f6 := km5.free 6
          have d0 := kn5.cell 0 rfl; have d1 := kn5.cell 1 rfl; have d2 := kn5.cell 2 rfl; have d3 := kn5.cell 3 rfl; have d4 := kn5.cell 4 rfl; have d5 := kn5.cell 5 rfl; have d6 := kn5.cell 6 rfl
          clear km5 kn5 kT5
          generalize wc.setCell ⟨u2.heap.size + 1, j, none⟩ (.bool true) = W5 at *
          go_wp2
          go_roundw
          case rel => exact ⟨i + 1, q, 1, K2, J2, ha4, hc4, ga4, gc4, by omega, by omega, by go_num, by go_num, by omega, HGN, km6, kT6, hH6, hG6, HB6.out⟩
          case measure => simp [intOf]; omega
        · rw [hb] at ct
          rw [← hK] at kT6
          have HGN := hidL hgot
          clear hb hK HTK
          rcases hgot.fine HSR.out with ⟨h9, rfl⟩ | ⟨h9, rfl⟩
          · have hq0 : ((q : Int) - 1 == 0) = false := by rw [beq_eq_false_iff_ne]; omega
            clear hgot
            go_upto_region 18 with fail
            clear ct ft
            have c0 := km5.cell 0 rfl; have c1 := km5.cell 1 rfl; have c2 := km5.cell 2 rfl; have c3 := km5.cell 3 rfl; have c4 := km5.cell 4 rfl; have c5 := km5.cell 5 rfl; have c6 := km5.cell 6 rfl
            have f0 := km5.free 0; have f1 := km5.free 1; have f2 := km5.free 2; have f3 := km5.free 3; have f4 := km5.free 4; have f5 := km5.free 5; have f6 := km5.free 6
            have d0 := kn5.cell 0 rfl; have d1 := kn5.cell 1 rfl; have d2 := kn5.cell 2 rfl; have d3 := kn5.cell 3 rfl; have d4 := kn5.cell 4 rfl; have d5 := kn5.cell 5 rfl; have d6 := kn5.cell 6 rfl
            clear km5 kn5 kT5
            generalize wc.setCell ⟨u2.heap.size + 1, j, none⟩ (.bool true) = W5 at *
            go_wp2
            go_roundw
            case rel => exact ⟨i + 1, (q-1), 1, K2, J2, ha4, hc4, ga4, gc4, by omega, by omega, by go_num, by go_num, by omega, HGN, km6, kT6, hH6, hG6, HB6.out⟩
            case measure => simp [intOf]; omega
          · have hq0 : ((q : Int) - 1 == 0) = true := by rw [beq_iff_eq]; omega
            clear hgot
            go_upto_region 18 with fail
            clear ct ft
            have c0 := km5.cell 0 rfl; have c1 := km5.cell 1 rfl; have c2 := km5.cell 2 rfl; have c3 := km5.cell 3 rfl; have c4 := km5.cell 4 rfl; have c5 := km5.cell 5 rfl; have c6 := km5.cell 6 rfl
            have f0 := km5.free 0; have f1 := km5.free 1; have f2 := km5.free 2; have f3 := km5.free 3; have f4 := km5.free 4; have f5 := km5.free 5; have f6 := km5.free 6
            have d0 := kn5.cell 0 rfl; have d1 := kn5.cell 1 rfl; have d2 := kn5.cell 2 rfl; have d3 := kn5.cell 3 rfl; have d4 := kn5.cell 4 rfl; have d5 := kn5.cell 5 rfl; have d6 := kn5.cell 6 rfl
            clear km5 kn5 kT5
            generalize wc.setCell ⟨u2.heap.size + 1, j, none⟩ (.bool true) = W5 at *
            go_wp2
            go_roundw
            case rel => exact ⟨i + 1, (q-1), 2, K2, J2, ha4, hc4, ga4, gc4, by omega, by omega, by go_num, by go_num, by omega, HGN, km6, kT6, hH6, hG6, HB6.out⟩
            case measure => simp [intOf]; omega
    · by_cases h1 : i < no
      · have hli1 : (i : Int) < (no : Int) := by omega
        by_cases h2 : i < 300
        · have hli2 : (i : Int) < 300 := by omega
          have hli3 : ¬ (0 : Int) < (q : Int) := by omega
          clear hlt
          go_wp2
          go_loopw [116] (fun v116 wr => ∃ (j q2 : Nat) (P2 : Int) (K : List Bool) (J : List ByteArray) (ha2 : Option Addr) (hc2 : Nat) (ga2 : Option Addr) (gc2 : Nat), j ≤ nh ∧ v116 = .int .i64 j ∧ Hid (Mq.Got L S P2 K J q2 ∧ Mq.Rest L H K j) ∧ Box wr u2.heap.size 30 #[.int .i64 0, .int .i64 1, .int .i64 3, .int .i64 P2, .int .i64 S, .slice ha2 nh hc2, .slice ga2 nh gc2] ∧ Box wr (u2.heap.size + 1) 4 (H.map Value.bool).toArray ∧ bitsS.rep wr (· ≠ u2.heap.size) [.slice ha2 nh hc2] K ∧ bagS.rep wr (· ≠ u2.heap.size) [.slice ga2 nh gc2] J ∧ Below u2.heap.size u2 wr) (fun v _ => nh - (intOf v).toNat)
          case atStart => exact ⟨0, q, P, H, G, ha, hc, ga, gc, Nat.zero_le _, rfl, ⟨HGT.out, Mq.Rest.zero _ _⟩, km, kT, bitsS.mono hH (fun b hb _ => hb.1), bagS.mono hG (fun b hb _ => hb.1), hbel⟩
          case round =>
            clear km kT hH hG hbel
            obtain ⟨j, q2, P2, K, J, ha2, hc2, ga2, gc2, hj, rfl, HR, km2, kT2, hH2, hG2, hbel2⟩ := hrel
            by_cases hlt : j < nh
            · have hli : (j : Int) < (nh : Int) := by omega
              have hj0 : (0 : Int) ≤ (j : Int) := by omega
              have hjL : j < L.length := by rw [HLL.out]; exact hlt
              have ct := kT2.cell j (v := .bool (H.getD j false)) (bools_at H (by rw [HGT.out.1]; exact hjL))
              obtain ⟨y9, hy⟩ : ∃ y, H.getD j false = y := ⟨_, rfl⟩
              rw [hy] at ct
              cases y9 with
              | true =>
                have HR2 := hidL (And.intro HR.out.1 (HR.out.2.skip hy))
                clear hy hjL
                go_wp2
                go_roundw
                case rel => exact ⟨j + 1, q2, P2, K, J, ha2, hc2, ga2, gc2, by omega, by go_num, HR2, km2, kT2, hH2, hG2, hbel2⟩
                case measure => simp [intOf]; omega
              | false =>
                obtain ⟨P3, K3, J3, E3, hP⟩ := Mq.piece_there P2 S K J (j : Int) (L.getD j noText)
                have hKj := HR.out.2.not_yet hjL hy
                have hTK : K3 = K.set j true ∧ Mq.Got L S P3 K3 J3 (q2 - 1) := by
                  rcases HR.out.1.takes HSR.out hjL (HR.out.1.some_left hjL hKj) hP with ⟨h1, _⟩ | ⟨_, _, h1, h2⟩
                  · rw [hKj] at h1; cases h1
                  · exact ⟨h1, h2⟩
                have HR2 : Hid (Mq.Got L S P3 K3 J3 (q2 - 1) ∧ Mq.Rest L H K3 (j + 1)) := ⟨hTK.2, by rw [hTK.1]; exact HR.out.2.put HR.out.1.1 hjL⟩
                have HSH : Hid (Mq.Short K J) := HR.out.1.short (by rw [HLL.out]; exact hn1) HLS.out
                have HYS : Hid ((L.getD j noText).size ≤ 100) := HLS.out _ (by rw [List.getD_eq_getElem?_getD, List.getElem?_eq_getElem hjL]; exact List.getElem_mem hjL)
                obtain ⟨b1, o1, rfl, _, hcell⟩ := (Texts.of_rep (HLA.out wr hbel2)).at hlt
                have HP1 : Hid (∀ u, Below wr.heap.size wr u → Calls Try.prog 18 #[.agg #[.int .i64 0, .int .i64 1, .int .i64 3, .int .i64 P2, .int .i64 S, .slice ha2 nh hc2, .slice ga2 nh gc2], .int .i64 (j : Int), .string (L.getD j noText)] u fun r w' => Below u.heap.size u w' ∧ ∃ ha' hc' ga' gc', r = .returned (.tuple #[.agg #[.int .i64 0, .int .i64 1, .int .i64 3, .int .i64 P3, .int .i64 S, .slice ha' nh hc', .slice ga' nh gc'], .int .i64 E3]) ∧ bitsS.rep w' (u.heap.size ≤ ·) [.slice ha' nh hc'] K3 ∧ bagS.rep w' (u.heap.size ≤ ·) [.slice ga' nh gc'] J3) := fun u hu => mpiece 0 1 3 P2 S ha2 nh hc2 ga2 nh gc2 K J (j : Int) (L.getD j noText) P3 E3 K3 J3 u (Shape.any (Shape.below hH2 hu)) (Shape.any (Shape.below hG2 hu)) HSH.out HYS.out hP
                generalize L.getD j noText = y at *
                have HLT : Hid (u2.heap.size < wr.heap.size) := km2.lt
                clear hP hH2 hG2 hTK hKj hy hjL
                go_upto_region 25 with fail
                have hD : Below wr.heap.size wr wr.drew := (Below.refl _ wr).drew
                have d0 := km2.cell 0 rfl; have d1 := km2.cell 1 rfl; have d2 := km2.cell 2 rfl; have d3 := km2.cell 3 rfl; have d4 := km2.cell 4 rfl; have d5 := km2.cell 5 rfl; have d6 := km2.cell 6 rfl
                go_region_with (go_at_call 18; refine (HP1.out _ hD).mono ?_; rintro r u4 ⟨hb4, ha4, hc4, ga4, gc4, rfl, hH4, hG4⟩; have hd4 : Below wr.heap.size wr u4 := bel_then hD hb4; have kN := (Box.draw km2).keep hb4; have c0 := kN.cell 0 rfl; have c1 := kN.cell 1 rfl; have c2 := kN.cell 2 rfl; have c3 := kN.cell 3 rfl; have c4 := kN.cell 4 rfl; have c5 := kN.cell 5 rfl; have c6 := kN.cell 6 rfl; have f0 := kN.free 0; have f1 := kN.free 1; have f2 := kN.free 2; have f3 := kN.free 3; have f4 := kN.free 4; have f5 := kN.free 5; have f6 := kN.free 6)
                all_goals
                  have h99 := HLT.out
                  have km4 := kN.all7 (.int .i64 0) (.int .i64 1) (.int .i64 3) (.int .i64 P3) (.int .i64 S) (.slice ha4 nh hc4) (.slice ga4 nh gc4)
                  have kT4 := (kT2.keep hd4).all7_other (b2 := u2.heap.size) (by omega) (.int .i64 0) (.int .i64 1) (.int .i64 3) (.int .i64 P3) (.int .i64 S) (.slice ha4 nh hc4) (.slice ga4 nh gc4)
                  have hH5 := bitsS.mono (F' := (· ≠ u2.heap.size)) (rep_all7 hH4 (b := u2.heap.size) (fun b hb => by have h8 : wr.heap.size ≤ b := hb; omega) (.int .i64 0) (.int .i64 1) (.int .i64 3) (.int .i64 P3) (.int .i64 S) (.slice ha4 nh hc4) (.slice ga4 nh gc4)) (fun b hb _ => by have h8 : wr.heap.size ≤ b := hb; show b ≠ _; omega)
                  have hG5 := bagS.mono (F' := (· ≠ u2.heap.size)) (rep_all7 hG4 (b := u2.heap.size) (fun b hb => by have h8 : wr.heap.size ≤ b := hb; omega) (.int .i64 0) (.int .i64 1) (.int .i64 3) (.int .i64 P3) (.int .i64 S) (.slice ha4 nh hc4) (.slice ga4 nh gc4)) (fun b hb _ => by have h8 : wr.heap.size ≤ b := hb; show b ≠ _; omega)
                  have HB5 := hidL (bel_all7 (bel_then hbel2 hd4) (b := u2.heap.size) (Nat.le_refl _) (.int .i64 0) (.int .i64 1) (.int .i64 3) (.int .i64 P3) (.int .i64 S) (.slice ha4 nh hc4) (.slice ga4 nh gc4))
                  clear d0 d1 d2 d3 d4 d5 d6 HP1 hcell km2 kT2 ct hbel2 kN hd4 hH4 hG4 hb4 hD c0 c1 c2 c3 c4 c5 c6 f0 f1 f2 f3 f4 f5 f6
                  go_wp2
                  go_roundw
                  case rel => exact ⟨j + 1, q2 - 1, P3, K3, J3, ha4, hc4, ga4, gc4, by omega, by go_num, HR2, km4, kT4, hH5, hG5, HB5.out⟩
                  case measure => simp [intOf]; omega
            · obtain rfl : j = nh := by omega
              have hli : ¬ (j : Int) < (j : Int) := by omega
              obtain ⟨hq9, hJ⟩ := HR.out.1.full (fun i hi => Mq.Rest.done (by have h9 := HR.out.2; rw [← HLL.out] at h9; exact h9) i hi)
              obtain rfl : 2 = P2 := by
                rcases HR.out.1.fine HSR.out with ⟨h9, _⟩ | ⟨_, h9⟩
                · omega
                · exact h9
              rw [hJ] at hG2
              have HT : Hid (Calls _ _ _ _ _) := mtext 0 1 3 2 S ha2 j hc2 ga2 j gc2 K L s true wr (Shape.any hH2) (Shape.any hG2) hn1 HLZ.out (.inl ⟨.inl rfl, by rw [HAL.out]; exact text_of s, rfl⟩)
              have c0 := km2.cell 0 rfl; have c1 := km2.cell 1 rfl; have c2 := km2.cell 2 rfl; have c3 := km2.cell 3 rfl; have c4 := km2.cell 4 rfl; have c5 := km2.cell 5 rfl; have c6 := km2.cell 6 rfl
              clear hq9 hJ hH2 hG2 kT2
              go_wp2_with fail
              refine HT.out.mono ?_
              rintro r u9 ⟨rfl, hb9⟩
              have HB9 := hidL (bel_then HBU.out (bel_then hbel2 hb9))
              clear c0 c1 c2 c3 c4 c5 c6
              have c3 := (km2.keep hb9).cell 3 rfl
              clear km2 hb9 hbel2 HT
              go_wp2_with (go_at_call 11; refine (HAW.out _).mono ?_; rintro r WZ ⟨rfl, hbz⟩)
              go_ret
              exact ⟨rfl, bel_then (HB9.out) hbz⟩
        · have hli2 : ¬ (i : Int) < 300 := by omega
          clear hlt
          go_wp2
          go_loopw [116] (fun v116 wr => ∃ (j q2 : Nat) (P2 : Int) (K : List Bool) (J : List ByteArray) (ha2 : Option Addr) (hc2 : Nat) (ga2 : Option Addr) (gc2 : Nat), j ≤ nh ∧ v116 = .int .i64 j ∧ Hid (Mq.Got L S P2 K J q2 ∧ Mq.Rest L H K j) ∧ Box wr u2.heap.size 30 #[.int .i64 0, .int .i64 1, .int .i64 3, .int .i64 P2, .int .i64 S, .slice ha2 nh hc2, .slice ga2 nh gc2] ∧ Box wr (u2.heap.size + 1) 4 (H.map Value.bool).toArray ∧ bitsS.rep wr (· ≠ u2.heap.size) [.slice ha2 nh hc2] K ∧ bagS.rep wr (· ≠ u2.heap.size) [.slice ga2 nh gc2] J ∧ Below u2.heap.size u2 wr) (fun v _ => nh - (intOf v).toNat)
          case atStart => exact ⟨0, q, P, H, G, ha, hc, ga, gc, Nat.zero_le _, rfl, ⟨HGT.out, Mq.Rest.zero _ _⟩, km, kT, bitsS.mono hH (fun b hb _ => hb.1), bagS.mono hG (fun b hb _ => hb.1), hbel⟩
          case round =>
            clear km kT hH hG hbel
            obtain ⟨j, q2, P2, K, J, ha2, hc2, ga2, gc2, hj, rfl, HR, km2, kT2, hH2, hG2, hbel2⟩ := hrel
            by_cases hlt : j < nh
            · have hli : (j : Int) < (nh : Int) := by omega
              have hj0 : (0 : Int) ≤ (j : Int) := by omega
              have hjL : j < L.length := by rw [HLL.out]; exact hlt
              have ct := kT2.cell j (v := .bool (H.getD j false)) (bools_at H (by rw [HGT.out.1]; exact hjL))
              obtain ⟨y9, hy⟩ : ∃ y, H.getD j false = y := ⟨_, rfl⟩
              rw [hy] at ct
              cases y9 with
              | true =>
                have HR2 := hidL (And.intro HR.out.1 (HR.out.2.skip hy))
                clear hy hjL
                go_wp2
                go_roundw
                case rel => exact ⟨j + 1, q2, P2, K, J, ha2, hc2, ga2, gc2, by omega, by go_num, HR2, km2, kT2, hH2, hG2, hbel2⟩
                case measure => simp [intOf]; omega
              | false =>
                obtain ⟨P3, K3, J3, E3, hP⟩ := Mq.piece_there P2 S K J (j : Int) (L.getD j noText)
                have hKj := HR.out.2.not_yet hjL hy
                have hTK : K3 = K.set j true ∧ Mq.Got L S P3 K3 J3 (q2 - 1) := by
                  rcases HR.out.1.takes HSR.out hjL (HR.out.1.some_left hjL hKj) hP with ⟨h1, _⟩ | ⟨_, _, h1, h2⟩
                  · rw [hKj] at h1; cases h1
                  · exact ⟨h1, h2⟩
                have HR2 : Hid (Mq.Got L S P3 K3 J3 (q2 - 1) ∧ Mq.Rest L H K3 (j + 1)) := ⟨hTK.2, by rw [hTK.1]; exact HR.out.2.put HR.out.1.1 hjL⟩
                have HSH : Hid (Mq.Short K J) := HR.out.1.short (by rw [HLL.out]; exact hn1) HLS.out
                have HYS : Hid ((L.getD j noText).size ≤ 100) := HLS.out _ (by rw [List.getD_eq_getElem?_getD, List.getElem?_eq_getElem hjL]; exact List.getElem_mem hjL)
                obtain ⟨b1, o1, rfl, _, hcell⟩ := (Texts.of_rep (HLA.out wr hbel2)).at hlt
                have HP1 : Hid (∀ u, Below wr.heap.size wr u → Calls Try.prog 18 #[.agg #[.int .i64 0, .int .i64 1, .int .i64 3, .int .i64 P2, .int .i64 S, .slice ha2 nh hc2, .slice ga2 nh gc2], .int .i64 (j : Int), .string (L.getD j noText)] u fun r w' => Below u.heap.size u w' ∧ ∃ ha' hc' ga' gc', r = .returned (.tuple #[.agg #[.int .i64 0, .int .i64 1, .int .i64 3, .int .i64 P3, .int .i64 S, .slice ha' nh hc', .slice ga' nh gc'], .int .i64 E3]) ∧ bitsS.rep w' (u.heap.size ≤ ·) [.slice ha' nh hc'] K3 ∧ bagS.rep w' (u.heap.size ≤ ·) [.slice ga' nh gc'] J3) := fun u hu => mpiece 0 1 3 P2 S ha2 nh hc2 ga2 nh gc2 K J (j : Int) (L.getD j noText) P3 E3 K3 J3 u (Shape.any (Shape.below hH2 hu)) (Shape.any (Shape.below hG2 hu)) HSH.out HYS.out hP
                generalize L.getD j noText = y at *
                have HLT : Hid (u2.heap.size < wr.heap.size) := km2.lt
                clear hP hH2 hG2 hTK hKj hy hjL
                go_upto_region 25 with fail
                have hD : Below wr.heap.size wr wr.drew := (Below.refl _ wr).drew
                have d0 := km2.cell 0 rfl; have d1 := km2.cell 1 rfl; have d2 := km2.cell 2 rfl; have d3 := km2.cell 3 rfl; have d4 := km2.cell 4 rfl; have d5 := km2.cell 5 rfl; have d6 := km2.cell 6 rfl
                go_region_with (go_at_call 18; refine (HP1.out _ hD).mono ?_; rintro r u4 ⟨hb4, ha4, hc4, ga4, gc4, rfl, hH4, hG4⟩; have hd4 : Below wr.heap.size wr u4 := bel_then hD hb4; have kN := (Box.draw km2).keep hb4; have c0 := kN.cell 0 rfl; have c1 := kN.cell 1 rfl; have c2 := kN.cell 2 rfl; have c3 := kN.cell 3 rfl; have c4 := kN.cell 4 rfl; have c5 := kN.cell 5 rfl; have c6 := kN.cell 6 rfl; have f0 := kN.free 0; have f1 := kN.free 1; have f2 := kN.free 2; have f3 := kN.free 3; have f4 := kN.free 4; have f5 := kN.free 5; have f6 := kN.free 6)
                all_goals
                  have h99 := HLT.out
                  have km4 := kN.all7 (.int .i64 0) (.int .i64 1) (.int .i64 3) (.int .i64 P3) (.int .i64 S) (.slice ha4 nh hc4) (.slice ga4 nh gc4)
                  have kT4 := (kT2.keep hd4).all7_other (b2 := u2.heap.size) (by omega) (.int .i64 0) (.int .i64 1) (.int .i64 3) (.int .i64 P3) (.int .i64 S) (.slice ha4 nh hc4) (.slice ga4 nh gc4)
                  have hH5 := bitsS.mono (F' := (· ≠ u2.heap.size)) (rep_all7 hH4 (b := u2.heap.size) (fun b hb => by have h8 : wr.heap.size ≤ b := hb; omega) (.int .i64 0) (.int .i64 1) (.int .i64 3) (.int .i64 P3) (.int .i64 S) (.slice ha4 nh hc4) (.slice ga4 nh gc4)) (fun b hb _ => by have h8 : wr.heap.size ≤ b := hb; show b ≠ _; omega)
                  have hG5 := bagS.mono (F' := (· ≠ u2.heap.size)) (rep_all7 hG4 (b := u2.heap.size) (fun b hb => by have h8 : wr.heap.size ≤ b := hb; omega) (.int .i64 0) (.int .i64 1) (.int .i64 3) (.int .i64 P3) (.int .i64 S) (.slice ha4 nh hc4) (.slice ga4 nh gc4)) (fun b hb _ => by have h8 : wr.heap.size ≤ b := hb; show b ≠ _; omega)
                  have HB5 := hidL (bel_all7 (bel_then hbel2 hd4) (b := u2.heap.size) (Nat.le_refl _) (.int .i64 0) (.int .i64 1) (.int .i64 3) (.int .i64 P3) (.int .i64 S) (.slice ha4 nh hc4) (.slice ga4 nh gc4))
                  clear d0 d1 d2 d3 d4 d5 d6 HP1 hcell km2 kT2 ct hbel2 kN hd4 hH4 hG4 hb4 hD c0 c1 c2 c3 c4 c5 c6 f0 f1 f2 f3 f4 f5 f6
                  go_wp2
                  go_roundw
                  case rel => exact ⟨j + 1, q2 - 1, P3, K3, J3, ha4, hc4, ga4, gc4, by omega, by go_num, HR2, km4, kT4, hH5, hG5, HB5.out⟩
                  case measure => simp [intOf]; omega
            · obtain rfl : j = nh := by omega
              have hli : ¬ (j : Int) < (j : Int) := by omega
              obtain ⟨hq9, hJ⟩ := HR.out.1.full (fun i hi => Mq.Rest.done (by have h9 := HR.out.2; rw [← HLL.out] at h9; exact h9) i hi)
              obtain rfl : 2 = P2 := by
                rcases HR.out.1.fine HSR.out with ⟨h9, _⟩ | ⟨_, h9⟩
                · omega
                · exact h9
              rw [hJ] at hG2
              have HT : Hid (Calls _ _ _ _ _) := mtext 0 1 3 2 S ha2 j hc2 ga2 j gc2 K L s true wr (Shape.any hH2) (Shape.any hG2) hn1 HLZ.out (.inl ⟨.inl rfl, by rw [HAL.out]; exact text_of s, rfl⟩)
              have c0 := km2.cell 0 rfl; have c1 := km2.cell 1 rfl; have c2 := km2.cell 2 rfl; have c3 := km2.cell 3 rfl; have c4 := km2.cell 4 rfl; have c5 := km2.cell 5 rfl; have c6 := km2.cell 6 rfl
              clear hq9 hJ hH2 hG2 kT2
              go_wp2_with fail
              refine HT.out.mono ?_
              rintro r u9 ⟨rfl, hb9⟩
              have HB9 := hidL (bel_then HBU.out (bel_then hbel2 hb9))
              clear c0 c1 c2 c3 c4 c5 c6
              have c3 := (km2.keep hb9).cell 3 rfl
              clear km2 hb9 hbel2 HT
              go_wp2_with (go_at_call 11; refine (HAW.out _).mono ?_; rintro r WZ ⟨rfl, hbz⟩)
              go_ret
              exact ⟨rfl, bel_then (HB9.out) hbz⟩
      · have hli1 : ¬ (i : Int) < (no : Int) := by omega
        clear hlt
        go_wp2
        go_loopw [116] (fun v116 wr => ∃ (j q2 : Nat) (P2 : Int) (K : List Bool) (J : List ByteArray) (ha2 : Option Addr) (hc2 : Nat) (ga2 : Option Addr) (gc2 : Nat), j ≤ nh ∧ v116 = .int .i64 j ∧ Hid (Mq.Got L S P2 K J q2 ∧ Mq.Rest L H K j) ∧ Box wr u2.heap.size 30 #[.int .i64 0, .int .i64 1, .int .i64 3, .int .i64 P2, .int .i64 S, .slice ha2 nh hc2, .slice ga2 nh gc2] ∧ Box wr (u2.heap.size + 1) 4 (H.map Value.bool).toArray ∧ bitsS.rep wr (· ≠ u2.heap.size) [.slice ha2 nh hc2] K ∧ bagS.rep wr (· ≠ u2.heap.size) [.slice ga2 nh gc2] J ∧ Below u2.heap.size u2 wr) (fun v _ => nh - (intOf v).toNat)
        case atStart => exact ⟨0, q, P, H, G, ha, hc, ga, gc, Nat.zero_le _, rfl, ⟨HGT.out, Mq.Rest.zero _ _⟩, km, kT, bitsS.mono hH (fun b hb _ => hb.1), bagS.mono hG (fun b hb _ => hb.1), hbel⟩
        case round =>
          clear km kT hH hG hbel
          obtain ⟨j, q2, P2, K, J, ha2, hc2, ga2, gc2, hj, rfl, HR, km2, kT2, hH2, hG2, hbel2⟩ := hrel
          by_cases hlt : j < nh
          · have hli : (j : Int) < (nh : Int) := by omega
            have hj0 : (0 : Int) ≤ (j : Int) := by omega
            have hjL : j < L.length := by rw [HLL.out]; exact hlt
            have ct := kT2.cell j (v := .bool (H.getD j false)) (bools_at H (by rw [HGT.out.1]; exact hjL))
            obtain ⟨y9, hy⟩ : ∃ y, H.getD j false = y := ⟨_, rfl⟩
            rw [hy] at ct
            cases y9 with
            | true =>
              have HR2 := hidL (And.intro HR.out.1 (HR.out.2.skip hy))
              clear hy hjL
              go_wp2
              go_roundw
              case rel => exact ⟨j + 1, q2, P2, K, J, ha2, hc2, ga2, gc2, by omega, by go_num, HR2, km2, kT2, hH2, hG2, hbel2⟩
              case measure => simp [intOf]; omega
            | false =>
              obtain ⟨P3, K3, J3, E3, hP⟩ := Mq.piece_there P2 S K J (j : Int) (L.getD j noText)
              have hKj := HR.out.2.not_yet hjL hy
              have hTK : K3 = K.set j true ∧ Mq.Got L S P3 K3 J3 (q2 - 1) := by
                rcases HR.out.1.takes HSR.out hjL (HR.out.1.some_left hjL hKj) hP with ⟨h1, _⟩ | ⟨_, _, h1, h2⟩
                · rw [hKj] at h1; cases h1
                · exact ⟨h1, h2⟩
              have HR2 : Hid (Mq.Got L S P3 K3 J3 (q2 - 1) ∧ Mq.Rest L H K3 (j + 1)) := ⟨hTK.2, by rw [hTK.1]; exact HR.out.2.put HR.out.1.1 hjL⟩
              have HSH : Hid (Mq.Short K J) := HR.out.1.short (by rw [HLL.out]; exact hn1) HLS.out
              have HYS : Hid ((L.getD j noText).size ≤ 100) := HLS.out _ (by rw [List.getD_eq_getElem?_getD, List.getElem?_eq_getElem hjL]; exact List.getElem_mem hjL)
              obtain ⟨b1, o1, rfl, _, hcell⟩ := (Texts.of_rep (HLA.out wr hbel2)).at hlt
              have HP1 : Hid (∀ u, Below wr.heap.size wr u → Calls Try.prog 18 #[.agg #[.int .i64 0, .int .i64 1, .int .i64 3, .int .i64 P2, .int .i64 S, .slice ha2 nh hc2, .slice ga2 nh gc2], .int .i64 (j : Int), .string (L.getD j noText)] u fun r w' => Below u.heap.size u w' ∧ ∃ ha' hc' ga' gc', r = .returned (.tuple #[.agg #[.int .i64 0, .int .i64 1, .int .i64 3, .int .i64 P3, .int .i64 S, .slice ha' nh hc', .slice ga' nh gc'], .int .i64 E3]) ∧ bitsS.rep w' (u.heap.size ≤ ·) [.slice ha' nh hc'] K3 ∧ bagS.rep w' (u.heap.size ≤ ·) [.slice ga' nh gc'] J3) := fun u hu => mpiece 0 1 3 P2 S ha2 nh hc2 ga2 nh gc2 K J (j : Int) (L.getD j noText) P3 E3 K3 J3 u (Shape.any (Shape.below hH2 hu)) (Shape.any (Shape.below hG2 hu)) HSH.out HYS.out hP
              generalize L.getD j noText = y at *
              have HLT : Hid (u2.heap.size < wr.heap.size) := km2.lt
              clear hP hH2 hG2 hTK hKj hy hjL
              go_upto_region 25 with fail
              have hD : Below wr.heap.size wr wr.drew := (Below.refl _ wr).drew
              have d0 := km2.cell 0 rfl; have d1 := km2.cell 1 rfl; have d2 := km2.cell 2 rfl; have d3 := km2.cell 3 rfl; have d4 := km2.cell 4 rfl; have d5 := km2.cell 5 rfl; have d6 := km2.cell 6 rfl
              go_region_with (go_at_call 18; refine (HP1.out _ hD).mono ?_; rintro r u4 ⟨hb4, ha4, hc4, ga4, gc4, rfl, hH4, hG4⟩; have hd4 : Below wr.heap.size wr u4 := bel_then hD hb4; have kN := (Box.draw km2).keep hb4; have c0 := kN.cell 0 rfl; have c1 := kN.cell 1 rfl; have c2 := kN.cell 2 rfl; have c3 := kN.cell 3 rfl; have c4 := kN.cell 4 rfl; have c5 := kN.cell 5 rfl; have c6 := kN.cell 6 rfl; have f0 := kN.free 0; have f1 := kN.free 1; have f2 := kN.free 2; have f3 := kN.free 3; have f4 := kN.free 4; have f5 := kN.free 5; have f6 := kN.free 6)
              all_goals
                have h99 := HLT.out
                have km4 := kN.all7 (.int .i64 0) (.int .i64 1) (.int .i64 3) (.int .i64 P3) (.int .i64 S) (.slice ha4 nh hc4) (.slice ga4 nh gc4)
                have kT4 := (kT2.keep hd4).all7_other (b2 := u2.heap.size) (by omega) (.int .i64 0) (.int .i64 1) (.int .i64 3) (.int .i64 P3) (.int .i64 S) (.slice ha4 nh hc4) (.slice ga4 nh gc4)
                have hH5 := bitsS.mono (F' := (· ≠ u2.heap.size)) (rep_all7 hH4 (b := u2.heap.size) (fun b hb => by have h8 : wr.heap.size ≤ b := hb; omega) (.int .i64 0) (.int .i64 1) (.int .i64 3) (.int .i64 P3) (.int .i64 S) (.slice ha4 nh hc4) (.slice ga4 nh gc4)) (fun b hb _ => by have h8 : wr.heap.size ≤ b := hb; show b ≠ _; omega)
                have hG5 := bagS.mono (F' := (· ≠ u2.heap.size)) (rep_all7 hG4 (b := u2.heap.size) (fun b hb => by have h8 : wr.heap.size ≤ b := hb; omega) (.int .i64 0) (.int .i64 1) (.int .i64 3) (.int .i64 P3) (.int .i64 S) (.slice ha4 nh hc4) (.slice ga4 nh gc4)) (fun b hb _ => by have h8 : wr.heap.size ≤ b := hb; show b ≠ _; omega)
                have HB5 := hidL (bel_all7 (bel_then hbel2 hd4) (b := u2.heap.size) (Nat.le_refl _) (.int .i64 0) (.int .i64 1) (.int .i64 3) (.int .i64 P3) (.int .i64 S) (.slice ha4 nh hc4) (.slice ga4 nh gc4))
                clear d0 d1 d2 d3 d4 d5 d6 HP1 hcell km2 kT2 ct hbel2 kN hd4 hH4 hG4 hb4 hD c0 c1 c2 c3 c4 c5 c6 f0 f1 f2 f3 f4 f5 f6
                go_wp2
                go_roundw
                case rel => exact ⟨j + 1, q2 - 1, P3, K3, J3, ha4, hc4, ga4, gc4, by omega, by go_num, HR2, km4, kT4, hH5, hG5, HB5.out⟩
                case measure => simp [intOf]; omega
          · obtain rfl : j = nh := by omega
            have hli : ¬ (j : Int) < (j : Int) := by omega
            obtain ⟨hq9, hJ⟩ := HR.out.1.full (fun i hi => Mq.Rest.done (by have h9 := HR.out.2; rw [← HLL.out] at h9; exact h9) i hi)
            obtain rfl : 2 = P2 := by
              rcases HR.out.1.fine HSR.out with ⟨h9, _⟩ | ⟨_, h9⟩
              · omega
              · exact h9
            rw [hJ] at hG2
            have HT : Hid (Calls _ _ _ _ _) := mtext 0 1 3 2 S ha2 j hc2 ga2 j gc2 K L s true wr (Shape.any hH2) (Shape.any hG2) hn1 HLZ.out (.inl ⟨.inl rfl, by rw [HAL.out]; exact text_of s, rfl⟩)
            have c0 := km2.cell 0 rfl; have c1 := km2.cell 1 rfl; have c2 := km2.cell 2 rfl; have c3 := km2.cell 3 rfl; have c4 := km2.cell 4 rfl; have c5 := km2.cell 5 rfl; have c6 := km2.cell 6 rfl
            clear hq9 hJ hH2 hG2 kT2
            go_wp2_with fail
            refine HT.out.mono ?_
            rintro r u9 ⟨rfl, hb9⟩
            have HB9 := hidL (bel_then HBU.out (bel_then hbel2 hb9))
            clear c0 c1 c2 c3 c4 c5 c6
            have c3 := (km2.keep hb9).cell 3 rfl
            clear km2 hb9 hbel2 HT
            go_wp2_with (go_at_call 11; refine (HAW.out _).mono ?_; rintro r WZ ⟨rfl, hbz⟩)
            go_ret
            exact ⟨rfl, bel_then (HB9.out) hbz⟩

end Go.Proofs.Ytpfhjdlmjehfnaa
