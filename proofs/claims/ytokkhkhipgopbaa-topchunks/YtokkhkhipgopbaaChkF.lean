/- What expertOf and Import of package chunk do when called. -/
import Derived.Test.YtokkhkhipgopbaaChkE
import Derived.Test.YtokkhkhipgopbaaChkB
import Derived.Test.YtokkhkhipgopbaaTk
import Derived.Test.YtokkhkhipgopbaaJa
namespace Go.Proofs.Ytokkhkhipgopbaa
open Go.ChangeShapes Go.WideShapes Go.ChangeAt Go.RowKit

theorem at4_cut (l : List UInt8) (p n i : Nat) (h : i + 4 ≤ n) (hl : p + n ≤ l.length) : Wx.at4 ((l.drop p).take n) i = Wx.at4 l (p + i) := by
  have h1 := Wx.at4_ahead ((l.drop p).take n) ((l.drop p).drop n) i (by rw [List.length_take, List.length_drop]; omega)
  rw [List.take_append_drop] at h1
  have h2 := Wx.at4_skip (l.take p) (l.drop p) i
  rw [List.take_append_drop, List.length_take, Nat.min_eq_left (by omega)] at h2
  rw [← h1, h2]
theorem at4_take (l : List UInt8) (n i : Nat) (h : i + 4 ≤ n) (hl : n ≤ l.length) : Wx.at4 (l.take n) i = Wx.at4 l i := by
  have := at4_cut l 0 n i h (by omega)
  rwa [List.drop_zero, Nat.zero_add] at this
theorem in_area {rows cols i k : Nat} (hi : i < rows) (hk : k < cols) : i * cols + k < rows * cols := by
  have := Nat.mul_le_mul_right cols (show i + 1 ≤ rows from hi)
  rw [Nat.add_mul, Nat.one_mul] at this
  omega
theorem rowsOf_cut (l : List UInt8) (p n rows cols : Nat) (h : 4 * (rows * cols) ≤ n) (hl : p + n ≤ l.length) : Ck.rowsOf ((l.drop p).take n) 0 rows cols = Ck.rowsOf l p rows cols := by
  unfold Ck.rowsOf
  apply List.map_congr_left
  intro i hi
  apply List.map_congr_left
  intro k hk
  have := in_area (List.mem_range.1 hi) (List.mem_range.1 hk)
  rw [Nat.zero_add, at4_cut l p n _ (by omega) hl]
theorem rowsOf_drop (l : List UInt8) (p rows cols : Nat) (h : p + 4 * (rows * cols) ≤ l.length) : Ck.rowsOf (l.drop p) 0 rows cols = Ck.rowsOf l p rows cols := by
  have := rowsOf_cut l p (l.length - p) rows cols (by omega) (by omega)
  rwa [List.take_of_length_le (by rw [List.length_drop]; omega)] at this
theorem rowsOf_take (l : List UInt8) (n p rows cols : Nat) (h : p + 4 * (rows * cols) ≤ n) (hl : n ≤ l.length) : Ck.rowsOf (l.take n) p rows cols = Ck.rowsOf l p rows cols := by
  unfold Ck.rowsOf
  apply List.map_congr_left
  intro i hi
  apply List.map_congr_left
  intro k hk
  have := in_area (List.mem_range.1 hi) (List.mem_range.1 hk)
  rw [at4_take l n _ (by omega) hl]

theorem Try.infoExpert : (Try.prog.info? 33).map (·.size) = some 2 := by kernel_rfl

/-- Bytes, how many rows, how many numbers each, and the rows. -/
structure RowsIn (t : ByteArray) (q r : Nat) (M : List (List Int)) : Prop where
  rows : q ≤ 8
  cols : r ≤ 8
  fit : q * r * 4 ≤ t.size
  most : t.size ≤ 100000
  eq : M = Ck.rowsOf t.data.toList 0 q r
theorem rowsIn (t : ByteArray) (q r : Nat) (M : List (List Int)) (h : RowsIn t q r M) (w : World) : Calls Try.prog 32 #[.string t, .int .i64 (q : Int), .int .i64 (r : Int)] w fun e w' => Below w.heap.size w w' ∧ ∃ a c, e = .returned (.slice a q c) ∧ matS.rep w' (w.heap.size ≤ ·) [.slice a q c] M := by
  rw [h.eq]
  exact krowsOf t q r h.rows h.cols h.fit h.most w

set_option maxRecDepth 100000 in
theorem kexpertOf_no (b : ByteArray) (H D : Nat) (hH : Wx.at4 b.data.toList 0 = H) (hD : Wx.at4 b.data.toList 4 = D) (h8 : 8 ≤ b.size) (hm : b.size ≤ 100000) (h : 8 < H ∨ 8 < D ∨ b.size ≠ 8 + 8 * (H * D)) (w : World) :
    Calls Try.prog 21 #[.string b] w fun e w' => e = .returned (.tuple #[.agg #[.slice none 0 0, .slice none 0 0], .int .i64 0, .bool false]) ∧ Below w.heap.size w w' := by
  have HN1 := knumberAt b 0 0 ⟨rfl, by omega, by unfold maxLen; omega⟩
  have HN2 := knumberAt b 4 4 ⟨rfl, by omega, by unfold maxLen; omega⟩
  rw [hH] at HN1
  rw [hD] at HN2
  clear hH hD
  have kb := Box.new w 33 #[.slice none 0 0, .slice none 0 0]
  have hB := new_bel w (.cells #[.slice none 0 0, .slice none 0 0] 33)
  have HN3 : Hid (∀ w, Calls Try.prog 20 #[.string b, .int .i64 0] w fun e w' => e = .returned (.int .i64 (H : Int)) ∧ Below w.heap.size w w') := HN1
  have HN4 : Hid (∀ w, Calls Try.prog 20 #[.string b, .int .i64 4] w fun e w' => e = .returned (.int .i64 (D : Int)) ∧ Below w.heap.size w w') := HN2
  clear HN1 HN2
  go_enter Try.func21, Try.ntmps21
  go_wp2_with fail
  refine (HN3.out _).mono ?_
  rintro e u ⟨rfl, hb⟩
  go_wp2_with fail
  refine (HN4.out _).mono ?_
  rintro e u2 ⟨rfl, hb2⟩
  have hB2 := bel_then (bel_then hB hb) hb2
  have kb2 := (kb.keep hb).keep hb2
  have c0 := kb2.cell 0 rfl
  have c1 := kb2.cell 1 rfl
  have f0 := kb2.free 0
  have f1 := kb2.free 1
  clear hb hb2 HN3 HN4
  have hend := bel_all2 hB2 (b := w.heap.size) (Nat.le_refl _) (.slice none 0 0) (.slice none 0 0)
  by_cases h1 : 8 < H
  · have q1 : (8 : Int) < (H : Int) := by omega
    go_wp2
    refine ret_three Try.underlying33 Try.infoExpert rfl rfl rfl rfl rfl (kb2.all2 _ _) rfl ?_
    exact ⟨rfl, hend⟩
  have q1 : ¬ (8 : Int) < (H : Int) := by omega
  by_cases h2 : 8 < D
  · have q2 : (8 : Int) < (D : Int) := by omega
    go_wp2
    refine ret_three Try.underlying33 Try.infoExpert rfl rfl rfl rfl rfl (kb2.all2 _ _) rfl ?_
    exact ⟨rfl, hend⟩
  have q2 : ¬ (8 : Int) < (D : Int) := by omega
  have h3 : b.size ≠ 8 + 8 * (H * D) := by omega
  have hA : H * D ≤ 64 := Nat.mul_le_mul (show H ≤ 8 by omega) (show D ≤ 8 by omega)
  have hHD : (H : Int) * (D : Int) = ((H * D : Nat) : Int) := (Int.natCast_mul H D).symm
  generalize H * D = A at *
  have q3 : ((b.size : Int) != 8 + 2 * ((A : Int) * 4)) = true := by rw [bne_iff_ne]; omega
  go_wp2
  refine ret_three Try.underlying33 Try.infoExpert rfl rfl rfl rfl rfl (kb2.all2 _ _) rfl ?_
  exact ⟨rfl, hend⟩

set_option maxRecDepth 100000 in
set_option maxHeartbeats 4000000 in
theorem kexpertOf (b : ByteArray) (H D : Nat) (hH : Wx.at4 b.data.toList 0 = H) (hD : Wx.at4 b.data.toList 4 = D) (h1 : H ≤ 8) (h2 : D ≤ 8) (h3 : b.size = 8 + 8 * (H * D)) (w : World) :
    Calls Try.prog 21 #[.string b] w fun e w' => Below w.heap.size w w' ∧ ∃ a1 c1 a2 c2, e = .returned (.tuple #[.agg #[.slice a1 H c1, .slice a2 D c2], .int .i64 (D : Int), .bool true]) ∧
      matS.rep w' (w.heap.size ≤ ·) [.slice a1 H c1] (Ck.rowsOf b.data.toList 8 H D) ∧ matS.rep w' (w.heap.size ≤ ·) [.slice a2 D c2] (Ck.rowsOf b.data.toList (8 + 4 * (H * D)) D H) := by
  have HN1 := knumberAt b 0 0 ⟨rfl, by omega, by have : H * D ≤ 64 := Nat.mul_le_mul h1 h2; unfold maxLen; omega⟩
  have HN2 := knumberAt b 4 4 ⟨rfl, by omega, by have : H * D ≤ 64 := Nat.mul_le_mul h1 h2; unfold maxLen; omega⟩
  rw [hH] at HN1
  rw [hD] at HN2
  have hls : b.data.toList.length = b.size := list_size b
  have hA : H * D ≤ 64 := Nat.mul_le_mul h1 h2
  have hHD : (H : Int) * (D : Int) = ((H * D : Nat) : Int) := (Int.natCast_mul H D).symm
  obtain ⟨S1, hS1, l1, z1⟩ := cut_mid b (i := 8) (j := 8 + 4 * (H * D)) (by omega) (by omega)
  obtain ⟨S2, hS2, l2, z2⟩ := cut_from b (j := 8 + 4 * (H * D)) (by omega)
  have r1 : RowsIn S1 H D (Ck.rowsOf b.data.toList 8 H D) := by
    refine ⟨h1, h2, by omega, by omega, ?_⟩
    rw [l1, rowsOf_cut _ _ _ _ _ (by omega) (by omega)]
  have r2 : RowsIn S2 D H (Ck.rowsOf b.data.toList (8 + 4 * (H * D)) D H) := by
    have hc : D * H = H * D := Nat.mul_comm _ _
    refine ⟨h2, h1, by rw [hc]; omega, by omega, ?_⟩
    rw [l2, rowsOf_drop _ _ _ _ (by rw [hc]; omega)]
  clear hH hD l1 l2 z1 z2 hls
  generalize Ck.rowsOf b.data.toList 8 H D = MI at *
  generalize Ck.rowsOf b.data.toList (8 + 4 * (H * D)) D H = MO at *
  generalize H * D = A at *
  have e8 : ((8 + 4 * A : Nat) : Int) = 8 + (A : Int) * 4 := by omega
  rw [e8] at hS1 hS2
  have hS3 : ∀ w : World, (Instr.slice 9 (.string b) (some (.int .i64 8)) (some (.int .i64 (8 + (A : Int) * 4))) none).run Try.prog w = .ok (.string S1) w := hS1
  clear hS1 e8
  have q1 : ¬ (8 : Int) < (H : Int) := by omega
  have q2 : ¬ (8 : Int) < (D : Int) := by omega
  have q3 : ((b.size : Int) != 8 + 2 * ((A : Int) * 4)) = false := by rw [bne_eq_false_iff_eq]; omega
  have kb := Box.new w 33 #[.slice none 0 0, .slice none 0 0]
  have hB := new_bel w (.cells #[.slice none 0 0, .slice none 0 0] 33)
  have HN3 : Hid (∀ w, Calls Try.prog 20 #[.string b, .int .i64 0] w fun e w' => e = .returned (.int .i64 (H : Int)) ∧ Below w.heap.size w w') := HN1
  have HN4 : Hid (∀ w, Calls Try.prog 20 #[.string b, .int .i64 4] w fun e w' => e = .returned (.int .i64 (D : Int)) ∧ Below w.heap.size w w') := HN2
  have HR : Hid (∀ (t : ByteArray) (q r : Nat) (M : List (List Int)) (_ : RowsIn t q r M) (w : World), Calls Try.prog 32 #[.string t, .int .i64 (q : Int), .int .i64 (r : Int)] w fun e w' => Below w.heap.size w w' ∧ ∃ a c, e = .returned (.slice a q c) ∧ matS.rep w' (w.heap.size ≤ ·) [.slice a q c] M) := rowsIn
  clear HN1 HN2
  go_enter Try.func21, Try.ntmps21
  go_wp2_with fail
  refine (HN3.out _).mono ?_
  rintro e u ⟨rfl, hb⟩
  go_wp2_with fail
  refine (HN4.out _).mono ?_
  rintro e u2 ⟨rfl, hb2⟩
  have hB2 := bel_then (bel_then hB hb) hb2
  have kb2 := (kb.keep hb).keep hb2
  have hV := kb2.lt
  have c0 := kb2.cell 0 rfl
  have c1 := kb2.cell 1 rfl
  have f0 := kb2.free 0
  have f1 := kb2.free 1
  have hD9 : Below u2.heap.size u2 u2.drew := (Below.refl _ u2).drew
  clear hb hb2 HN3 HN4 kb hB
  go_wp2
  go_region_with (first
    | (go_at_call 32; refine (HR.out _ _ _ _ (by assumption) _).mono ?_; rintro e u4 ⟨hb4, a4, c4, rfl, hr4⟩; have hk4 := Shape.below hr3 hb4; have hd4 := bel_then hd3 hb4; have kb4 := kb2.keep hd4; have d0 := kb4.cell 0 rfl; have d1 := kb4.cell 1 rfl; have g0 := kb4.free 0; have g1 := kb4.free 1)
    | (go_at_call 32; refine (HR.out _ _ _ _ (by assumption) _).mono ?_; rintro e u3 ⟨hb3, a3, c3, rfl, hr3⟩; have hd3 := bel_then hD9 hb3))
  all_goals
    have hs3 := hd3.size
    have k1 := Shape.all2 (b := w.heap.size) hk4 (fun k (hk : u2.drew.heap.size ≤ k) _ => by have : u2.drew.heap.size = u2.heap.size := rfl; omega)
    have k2 := Shape.all2 (b := w.heap.size) hr4 (fun k (hk : u3.heap.size ≤ k) _ => by omega)
    have HST : Hid _ := And.intro (fun v0 v1 => matS.mono (F' := (w.heap.size ≤ ·)) (k1 v0 v1) fun b (hb : u2.drew.heap.size ≤ b) _ => by have : u2.drew.heap.size = u2.heap.size := rfl; omega) (fun v0 v1 => matS.mono (F' := (w.heap.size ≤ ·)) (k2 v0 v1) fun b (hb : u3.heap.size ≤ b) _ => by omega)
    have hend := bel_all2 (bel_then hB2 hd4) (b := w.heap.size) (Nat.le_refl _)
    clear k1 k2 hk4 hr4 hr3 c0 c1 f0 f1 d0 d1 g0 g1 hS3 hS2 r1 r2 HR
    go_wp2
    refine ret_three Try.underlying33 Try.infoExpert rfl rfl rfl rfl rfl (kb4.all2 _ _) rfl ?_
    refine ⟨hend _ _, ?_⟩
    first
      | exact ⟨a3, c3, a4, c4, rfl, HST.out.1 _ _, HST.out.2 _ _⟩
      | exact ⟨a4, c4, a3, c3, rfl, HST.out.2 _ _, HST.out.1 _ _⟩

end Go.Proofs.Ytokkhkhipgopbaa
