/- 4 texts as one, in their order: WireB, WireD, Tk, WireE. -/
import Derived.Test.YtfidgcanolegfaaGreatWireA
import Derived.Lib.AppendStr
import Derived.Test.YtfidgcanolegfaaGreatBase
import Derived.Test.YtfidgcanolegfaaGreatJa
import Derived.Laws.IdiomStrings

/- What Put of package wire and what it calls do when called: a message's bytes. -/
namespace Go.Proofs.YtfidgcanolegfaaGreat
open Go.ChangeShapes Go.WideShapes Go.ChangeAt Go.RowKit

set_option maxRecDepth 100000 in
theorem addNumber (v : Value) (n : Int) (l : List UInt8) (base : Nat) (w : World) (ho : OwnB w base v l) (hb : base ≤ w.heap.size) (hl : l.length ≤ 1000) :
    Calls Tryz.prog 156 #[v, .int .i64 n] w fun e w' => ∃ v', e = .returned v' ∧ OwnB w' base v' (l ++ Wx.four (Wx.un n)) ∧ Below base w w' := by
  obtain ⟨i0, hi0, hz0, hz1, hz2⟩ := info_parts Tryz.infoByte
  have hu : n % 4294967296 = (Wx.un n : Nat) := by unfold Wx.un; omega
  have hlt := Wx.un_lt n
  generalize Wx.un n = m at *
  have k0 : (m : Int) % 256 = ((m % 256 : Nat) : Int) := by omega
  have k1 : (m : Int) / 256 % 256 = ((m / 256 % 256 : Nat) : Int) := by omega
  have k2 : (m : Int) / 65536 % 256 = ((m / 65536 % 256 : Nat) : Int) := by omega
  have k3 : (m : Int) / 16777216 = ((m / 16777216 % 256 : Nat) : Int) := by omega
  have HN : Hid ((Wx.four m).map (fun b => Value.int .u8 (b.toNat : Nat)) = [.int .u8 ((m % 256 : Nat) : Int), .int .u8 ((m / 256 % 256 : Nat) : Int), .int .u8 ((m / 65536 % 256 : Nat) : Int), .int .u8 ((m / 16777216 % 256 : Nat) : Int)]) := by
    show _ = _
    unfold Wx.four
    simp only [List.map_cons, List.map_nil]
    rw [toNat_mod, toNat_mod, toNat_mod, toNat_mod]
  have c0 : m % 256 < 256 := by omega
  have c1 : m / 256 % 256 < 256 := by omega
  have c2 : m / 65536 % 256 < 256 := by omega
  have c3 : m / 16777216 % 256 < 256 := by omega
  generalize m % 256 = y0 at *
  generalize m / 256 % 256 = y1 at *
  generalize m / 65536 % 256 = y2 at *
  generalize m / 16777216 % 256 = y3 at *
  have s1 := four_src w y0 y1 y2 y3
  go_enter Tryz.func156, Tryz.ntmps156
  go_wp2_with (at_builtin; refine wpList_append_own _ rfl (.tmp 8) (.tmp 20) 125 rfl base 5 i0 (.int .u8 0) 1 1 Tryz.underlying125 hi0 hz0 hz1 hz2 rfl Nat.one_pos _ _ _ (by rfl) (ho.keep (new_bel w _)) ⟨w.heap.size, 0, none⟩ 4 4 [.int .u8 (y0 : Int), .int .u8 (y1 : Int), .int .u8 (y2 : Int), .int .u8 (y3 : Int)] (by rfl) rfl s1.1 s1.2 (by unfold maxLen; omega) (by omega) (by simp; omega) ?_; intro v5 w5 ho5 hg5 hn5)
  go_ret
  refine ⟨v5, rfl, ?_, ?_⟩
  · unfold OwnB
    rw [List.length_append, Wx.four_len, List.map_append, HN.out]
    exact ho5
  · exact ((Below.refl base w).alloc hb _).grown hg5 (by simp; omega) (fun g hg => (ho.lt g hg).1)

set_option maxRecDepth 100000 in
theorem bodyOf (x0 x1 x2 x3 x4 x5 x6 x7 x8 x9 : Int) (xa : Option Addr) (xn xc : Nat) (l : List Int) (w : World) (hr : Row .i64 w xa xn l) (hn : xn ≤ 8) :
    Calls Tryz.prog 155 #[.agg #[.int .i64 x0, .int .i64 x1, .int .i64 x2, .int .i64 x3, .int .i64 x4, .int .i64 x5, .int .i64 x6, .int .i64 x7, .int .i64 x8, .int .i64 x9, .slice xa xn xc]] w fun e w' => e = .returned (.string ⟨(Wx.body ⟨x0, x1, x2, x3, x4, x5, x6, x7, x8, x9, l⟩).toArray⟩) ∧ Below w.heap.size w w' := by
  have HL : Hid (l.length = xn) := hr.len
  obtain ⟨B, hB⟩ : ∃ B, B = (w.alloc (.cells #[.int .i64 x0, .int .i64 x1, .int .i64 x2, .int .i64 x3, .int .i64 x4, .int .i64 x5, .int .i64 x6, .int .i64 x7, .int .i64 x8, .int .i64 x9, .slice xa xn xc] 44)).heap.size := ⟨_, rfl⟩
  have HB : Hid (B = (w.alloc (.cells #[.int .i64 x0, .int .i64 x1, .int .i64 x2, .int .i64 x3, .int .i64 x4, .int .i64 x5, .int .i64 x6, .int .i64 x7, .int .i64 x8, .int .i64 x9, .slice xa xn xc] 44)).heap.size) := hB
  have HBW : Hid (w.heap.size ≤ B) := by show _ ≤ _; rw [hB]; simp
  clear hB
  go_enter Tryz.func155, Tryz.ntmps155
  go_wp2_with fail
  refine (headOf x0 x1 x2 x3 x4 x5 x6 x7 x8 x9 xa xn xc _).mono ?_
  rintro e u ⟨rfl, hb⟩
  rw [← HB.out] at hb
  have HT : Hid ([x0, x1, x2, x3, x4, x5, x6, x7, x8, x9].length = 10) := rfl
  obtain ⟨t, ht⟩ : ∃ t : List Int, t = [x0, x1, x2, x3, x4, x5, x6, x7, x8, x9] := ⟨_, rfl⟩
  have HI : Hid (∀ k : Nat, k < 10 → ∀ w : World, (Instr.index 164 (.agg #[.int .i64 x0, .int .i64 x1, .int .i64 x2, .int .i64 x3, .int .i64 x4, .int .i64 x5, .int .i64 x6, .int .i64 x7, .int .i64 x8, .int .i64 x9]) (.int .i64 (k : Int))).run Tryz.prog w = .ok (.int .i64 (t.getD k 0)) w) := by
    intro k hk w
    rw [ht]
    exact index10 x0 x1 x2 x3 x4 x5 x6 x7 x8 x9 k hk w
  have HW : Hid (Wx.body ⟨x0, x1, x2, x3, x4, x5, x6, x7, x8, x9, l⟩ = Wx.F (t.map Wx.un) ++ Wx.four (Wx.un (xn : Int)) ++ Wx.F (l.map Wx.un)) := by
    show _ = _
    rw [ht, ← HL.out, List.append_assoc, ← Wx.F_cons, ← Wx.F_append]
    rfl
  rw [← ht] at HT
  clear ht
  go_wp2
  go_loopw [3, 10] (fun v i wr => ∃ k : Nat, k ≤ 10 ∧ i = .int .i64 k ∧ OwnB wr B v (Wx.F ((t.take k).map Wx.un)) ∧ Below B (w.alloc (.cells #[.int .i64 x0, .int .i64 x1, .int .i64 x2, .int .i64 x3, .int .i64 x4, .int .i64 x5, .int .i64 x6, .int .i64 x7, .int .i64 x8, .int .i64 x9, .slice xa xn xc] 44)) wr ∧ Hid (B ≤ wr.heap.size)) (fun _ i _ => 10 - (intOf i).toNat)
  case atStart => exact ⟨0, Nat.zero_le _, rfl, OwnB.nil _ _, hb, by show _ ≤ _; rw [HB.out]; exact hb.size⟩
  case round =>
    obtain ⟨k, hk, rfl, hown, hbel, HZ⟩ := hrel
    by_cases hlt : k < 10
    · have hli : (k : Int) < 10 := by omega
      have hix := HI.out k hlt
      have HS : Hid _ := F_snoc t k (by have := HT.out; omega)
      have HN : Hid _ := F_take_len t k (by have := HT.out; omega)
      generalize t.getD k 0 = x at *
      go_wp2_with fail
      refine (addNumber _ x _ B _ hown HZ.out (by rw [HN.out]; omega)).mono ?_
      rintro e u3 ⟨v3, rfl, ho3, hb3⟩
      have HZ3 : Hid (B ≤ u3.heap.size) := Nat.le_trans HZ.out hb3.size
      go_wp2
      go_roundw
      case rel => exact ⟨k + 1, by omega, by go_num, by rw [HS.out]; exact ho3, hbel.trans hb3, HZ3⟩
      case measure => simp [intOf]; omega
    · have hk10 : k = 10 := by omega
      subst hk10
      have hli : ¬ ((10 : Nat) : Int) < 10 := by omega
      have HA : Hid (t.take 10 = t) := List.take_of_length_le (by have := HT.out; omega)
      rw [HA.out] at hown
      have hc10 := box_cell (HB.out ▸ hbel) 10 (v := .slice xa xn xc) rfl
      have HN : Hid ((Wx.F (t.map Wx.un)).length = 40) := by show _ = _; rw [Wx.F_len, List.length_map, HT.out]
      go_wp2_with fail
      refine (addNumber _ _ _ B _ hown HZ.out (by rw [HN.out]; omega)).mono ?_
      rintro e u3 ⟨v3, rfl, ho3, hb3⟩
      have HZ3 : Hid (B ≤ u3.heap.size) := Nat.le_trans HZ.out hb3.size
      have hbel3 := hbel.trans hb3
      have hd10 := box_cell (HB.out ▸ hbel3) 10 (v := .slice xa xn xc) rfl
      clear hc10 hbel hown HZ hb3
      go_wp2
      go_loopw [3, 25] (fun v i wr => ∃ k : Nat, k ≤ xn ∧ i = .int .i64 k ∧ OwnB wr B v (Wx.F (t.map Wx.un) ++ Wx.four (Wx.un (xn : Int)) ++ Wx.F ((l.take k).map Wx.un)) ∧ Below B (w.alloc (.cells #[.int .i64 x0, .int .i64 x1, .int .i64 x2, .int .i64 x3, .int .i64 x4, .int .i64 x5, .int .i64 x6, .int .i64 x7, .int .i64 x8, .int .i64 x9, .slice xa xn xc] 44)) wr ∧ Hid (B ≤ wr.heap.size)) (fun _ i _ => xn - (intOf i).toNat)
      case atStart => exact ⟨0, Nat.zero_le _, rfl, by simpa [Wx.F_nil] using ho3, hbel3, HZ3⟩
      case round =>
        obtain ⟨k, hk, rfl, hown, hbel, HZ⟩ := hrel
        have hBel : Below w.heap.size w wr := (new_bel w _).trans (hbel.mono HBW.out)
        by_cases hlt : k < xn
        · have hli : (k : Int) < (xn : Int) := by omega
          obtain ⟨b1, o1, rfl, hb1, hc1⟩ := (hr.keep hBel).at hlt
          have HS : Hid _ := F_snoc l k (by have := HL.out; omega)
          have HM : Hid _ := F_take_len l k (by have := HL.out; omega)
          generalize l.getD k 0 = x at *
          go_wp2_with fail
          refine (addNumber _ x _ B _ hown HZ.out (by rw [List.length_append, List.length_append, Wx.four_len, HN.out, HM.out]; omega)).mono ?_
          rintro e u4 ⟨v4, rfl, ho4, hb4⟩
          have HZ4 : Hid (B ≤ u4.heap.size) := Nat.le_trans HZ.out hb4.size
          go_wp2
          go_roundw
          case rel => exact ⟨k + 1, by omega, by go_num, by rw [HS.out, ← List.append_assoc]; exact ho4, hbel.trans hb4, HZ4⟩
          case measure => simp [intOf]; omega
        · have hkn : k = xn := by omega
          subst hkn
          have hli : ¬ (k : Int) < (k : Int) := by omega
          have HA2 : Hid (l.take k = l) := List.take_of_length_le (by have := HL.out; omega)
          rw [HA2.out, ← HW.out] at hown
          have hback := hown.back (by rw [Wx.body_len]; omega)
          go_wp2
          go_ret
          exact ⟨rfl, hBel⟩

/-- What Put answers. -/
def putS (m : Wx.Msg) : ByteArray := if Wx.right m then ⟨(Wx.put m).toArray⟩ else ⟨#[]⟩
def putE (m : Wx.Msg) : Int := if Wx.right m then 0 else 1
theorem putS_yes {m : Wx.Msg} (h : Wx.right m) : putS m = ⟨(Wx.put m).toArray⟩ := if_pos h
theorem putS_no {m : Wx.Msg} (h : ¬ Wx.right m) : putS m = ⟨#[]⟩ := if_neg h
theorem putE_yes {m : Wx.Msg} (h : Wx.right m) : putE m = 0 := if_pos h
theorem putE_no {m : Wx.Msg} (h : ¬ Wx.right m) : putE m = 1 := if_neg h

set_option maxRecDepth 100000 in
theorem wput (x0 x1 x2 x3 x4 x5 x6 x7 x8 x9 : Int) (xa : Option Addr) (xn xc : Nat) (l : List Int) (w : World) (hr : Row .i64 w xa xn l) :
    Calls Tryz.prog 134 #[.agg #[.int .i64 x0, .int .i64 x1, .int .i64 x2, .int .i64 x3, .int .i64 x4, .int .i64 x5, .int .i64 x6, .int .i64 x7, .int .i64 x8, .int .i64 x9, .slice xa xn xc]] w fun e w' => e = .returned (.tuple #[.string (putS ⟨x0, x1, x2, x3, x4, x5, x6, x7, x8, x9, l⟩), .int .i64 (putE ⟨x0, x1, x2, x3, x4, x5, x6, x7, x8, x9, l⟩)]) ∧ Below w.heap.size w w' := by
  obtain ⟨i0, hi0, hz0, hz1, hz2⟩ := info_parts Tryz.infoByte
  have HL : Hid (l.length = xn) := hr.len
  obtain ⟨B, hB⟩ : ∃ B, B = (w.alloc (.cells #[.int .i64 x0, .int .i64 x1, .int .i64 x2, .int .i64 x3, .int .i64 x4, .int .i64 x5, .int .i64 x6, .int .i64 x7, .int .i64 x8, .int .i64 x9, .slice xa xn xc] 44)).heap.size := ⟨_, rfl⟩
  have HB : Hid (B = (w.alloc (.cells #[.int .i64 x0, .int .i64 x1, .int .i64 x2, .int .i64 x3, .int .i64 x4, .int .i64 x5, .int .i64 x6, .int .i64 x7, .int .i64 x8, .int .i64 x9, .slice xa xn xc] 44)).heap.size) := hB
  have HBW : Hid (w.heap.size ≤ B) := by show _ ≤ _; rw [hB]; simp
  clear hB
  by_cases hp : Wx.right ⟨x0, x1, x2, x3, x4, x5, x6, x7, x8, x9, l⟩
  · rw [putS_yes hp, putE_yes hp]
    have HP : Hid (Wx.right ⟨x0, x1, x2, x3, x4, x5, x6, x7, x8, x9, l⟩) := hp
    go_enter Tryz.func134, Tryz.ntmps134
    go_wp2_with fail
    refine (wright x0 x1 x2 x3 x4 x5 x6 x7 x8 x9 xa xn xc l _ (hr.keep (new_bel w _))).mono ?_
    rintro e u ⟨hs, hb⟩
    have hBel := (new_bel w _).trans (hb.mono (by rw [← HB.out]; exact HBW.out))
    rw [hs.is hp]
    have hn : xn ≤ 8 := by have h8 : l.length ≤ 8 := hp.2.2.2.1; have := HL.out; omega
    have hc0 := box_cell hb 0 (v := .int .i64 x0) rfl
    have hc1 := box_cell hb 1 (v := .int .i64 x1) rfl
    have hc2 := box_cell hb 2 (v := .int .i64 x2) rfl
    have hc3 := box_cell hb 3 (v := .int .i64 x3) rfl
    have hc4 := box_cell hb 4 (v := .int .i64 x4) rfl
    have hc5 := box_cell hb 5 (v := .int .i64 x5) rfl
    have hc6 := box_cell hb 6 (v := .int .i64 x6) rfl
    have hc7 := box_cell hb 7 (v := .int .i64 x7) rfl
    have hc8 := box_cell hb 8 (v := .int .i64 x8) rfl
    have hc9 := box_cell hb 9 (v := .int .i64 x9) rfl
    have hc10 := box_cell hb 10 (v := .slice xa xn xc) rfl
    have hr2 := hr.keep hBel
    clear hp
    rw [← HB.out] at hb
    have HU : Hid (B ≤ u.heap.size) := by show _ ≤ _; rw [HB.out]; exact hb.size
    clear hs hr
    go_wp2_with fail
    refine (bodyOf x0 x1 x2 x3 x4 x5 x6 x7 x8 x9 xa xn xc l _ hr2 hn).mono ?_
    rintro e u2 ⟨rfl, hb2⟩
    have HQ : Hid (Wx.put ⟨x0, x1, x2, x3, x4, x5, x6, x7, x8, x9, l⟩ = Wx.four (Wx.un (44 + 4 * xn + 4 : Nat)) ++ Wx.body ⟨x0, x1, x2, x3, x4, x5, x6, x7, x8, x9, l⟩ ++ Wx.four (Wx.un (Cx.sum (Wx.body ⟨x0, x1, x2, x3, x4, x5, x6, x7, x8, x9, l⟩) : Nat))) := by
      show _ = _
      rw [Wx.un_nat (by omega), Wx.un_nat (Cx.sum_lt _), List.append_assoc]
      unfold Wx.put
      rw [Wx.body_len]
      show Wx.four (44 + 4 * l.length + 4) ++ _ = _
      rw [HL.out]
    have HS0 : Hid ((Wx.body ⟨x0, x1, x2, x3, x4, x5, x6, x7, x8, x9, l⟩).length = 44 + 4 * xn) := by show _ = _; rw [Wx.body_len]; show 44 + 4 * l.length = _; rw [HL.out]
    generalize Wx.body ⟨x0, x1, x2, x3, x4, x5, x6, x7, x8, x9, l⟩ = S at *
    have hz : (⟨S.toArray⟩ : ByteArray).size = 44 + 4 * xn := by show S.toArray.size = _; rw [List.size_toArray]; exact HS0.out
    have HD : Hid ((⟨S.toArray⟩ : ByteArray).data.toList = S) := by show S.toArray.toList = S; simp
    have HC : Hid (crc ⟨S.toArray⟩ = Cx.sum S) := rfl
    generalize (⟨S.toArray⟩ : ByteArray) = D at *
    have hB2 : Below B u u2 := hb2.mono HU.out
    have HU2 : Hid (B ≤ u2.heap.size) := Nat.le_trans HU.out hb2.size
    go_wp2_with fail
    refine (addNumber _ _ [] B _ (OwnB.nil _ _) HU2.out (by simp)).mono ?_
    rintro e u3 ⟨v3, rfl, ho3, hb3⟩
    have HU3 : Hid (B ≤ u3.heap.size) := Nat.le_trans HU2.out hb3.size
    have hB3 := hB2.trans hb3
    have hcs := csum D (by rw [hz]; unfold maxLen; omega)
    go_wp2_with (at_builtin; refine Lib.wpList_append_own_string _ rfl (.tmp 15) (.tmp 16) 125 9 rfl B 5 i0 Tryz.underlying125 Tryz.underlying9 hi0 hz0 hz1 hz2 _ _ _ (by rfl) ho3 _ (by rfl) (by rw [hz]; simp [Wx.four_len]; unfold maxLen; omega) (by rw [hz]; simp [Wx.four_len]; omega) HU3.out ?_; intro v4 u4 ho4 hg4 hn4)
    have hb4 : Below B u3 u4 := (Below.refl _ _).grown hg4 HU3.out (fun g hg => (ho3.lt g hg).1)
    have HU4 : Hid (B ≤ u4.heap.size) := Nat.le_trans HU3.out hb4.size
    have ho5 : OwnB u4 B v4 (Wx.four (Wx.un (44 + 4 * (xn : Int) + 4)) ++ S) := by
      unfold OwnB
      unfold Lib.strCells at ho4
      rw [hz, HD.out, List.nil_append, ← List.map_append] at ho4
      rw [List.length_append, HS0.out]
      exact ho4
    have HN5 : Hid ((Wx.four (Wx.un (44 + 4 * (xn : Int) + 4)) ++ S).length = 48 + 4 * xn) := by show _ = _; rw [List.length_append, HS0.out, Wx.four_len]; omega
    refine by_same (hcs _) ?_
    clear ho3 ho4 hg4 hn4
    go_wp2_with fail
    refine (addNumber _ _ _ B _ ho5 HU4.out (by rw [HN5.out]; omega)).mono ?_
    rintro e u6 ⟨v6, rfl, ho6, hb6⟩
    rw [HC.out, show (44 + 4 * (xn : Int) + 4) = ((44 + 4 * xn + 4 : Nat) : Int) by omega, ← HQ.out] at ho6
    have hback := ho6.back (by rw [HQ.out, List.length_append]; simp [Wx.four_len])
    have hend := hBel.trans (((hB3.trans hb4).trans hb6).mono HBW.out)
    go_wp2
    go_ret2
    exact ⟨rfl, hend⟩
  · rw [putS_no hp, putE_no hp]
    go_enter Tryz.func134, Tryz.ntmps134
    go_wp2_with fail
    refine (wright x0 x1 x2 x3 x4 x5 x6 x7 x8 x9 xa xn xc l _ (hr.keep (new_bel w _))).mono ?_
    rintro e u ⟨hs, hb⟩
    have hBel := (new_bel w _).trans (hb.mono (by rw [← HB.out]; exact HBW.out))
    rw [hs.not hp]
    go_wp2
    go_ret2
    exact ⟨rfl, hBel⟩

end Go.Proofs.YtfidgcanolegfaaGreat

/- What the document's List, Right, four and Put of layer 7 do when called. -/
namespace Go.Proofs.YtfidgcanolegfaaGreat
open Go.ChangeShapes Go.WideShapes Go.ChangeAt Go.RowKit

set_option maxRecDepth 100000 in
theorem rlist (x0 x1 x2 x3 x4 x5 x6 x7 x8 x9 : Int) (xa : Option Addr) (xn xc : Nat) (l : List Int) (w : World) (hr : rowS.rep w everywhere [.slice xa xn xc] l) (hn : xn ≤ 50000) :
    Calls Tryz.prog 47 #[.agg #[.int .i64 x0, .int .i64 x1, .int .i64 x2, .int .i64 x3, .int .i64 x4, .int .i64 x5, .int .i64 x6, .int .i64 x7, .int .i64 x8, .int .i64 x9, .slice xa xn xc]] w fun e w' => Below w.heap.size w w' ∧ ∃ a c, e = .returned (.slice a (11 + xn) c) ∧ rowS.rep w' everywhere [.slice a (11 + xn) c] (Wx.listOf ⟨x0, x1, x2, x3, x4, x5, x6, x7, x8, x9, l⟩) := by
  obtain ⟨i0, hi0, hi1, hi2, hi3⟩ := info_parts Tryz.infoInt
  have HL : Hid (l.length = xn) := (sliceS_len hr).1
  have hA := Shape.low hr
  have HW : Hid (Wx.listOf ⟨x0, x1, x2, x3, x4, x5, x6, x7, x8, x9, l⟩ = [x0, x1, x2, x3, x4, x5, x6, x7, x8, x9, (xn : Int)] ++ l) := by show _ = _; rw [← HL.out]; rfl
  have hB1 : Below w.heap.size w ((w.alloc (.cells #[.int .i64 x0, .int .i64 x1, .int .i64 x2, .int .i64 x3, .int .i64 x4, .int .i64 x5, .int .i64 x6, .int .i64 x7, .int .i64 x8, .int .i64 x9, .slice xa xn xc] 44)).alloc (.cells #[.int .i64 x0, .int .i64 x1, .int .i64 x2, .int .i64 x3, .int .i64 x4, .int .i64 x5, .int .i64 x6, .int .i64 x7, .int .i64 x8, .int .i64 x9, .int .i64 (xn : Int)] 3)) := bel_alloc (new_bel w _) _
  have ho : Own (intS .i64) ((w.alloc (.cells #[.int .i64 x0, .int .i64 x1, .int .i64 x2, .int .i64 x3, .int .i64 x4, .int .i64 x5, .int .i64 x6, .int .i64 x7, .int .i64 x8, .int .i64 x9, .slice xa xn xc] 44)).alloc (.cells #[.int .i64 x0, .int .i64 x1, .int .i64 x2, .int .i64 x3, .int .i64 x4, .int .i64 x5, .int .i64 x6, .int .i64 x7, .int .i64 x8, .int .i64 x9, .int .i64 (xn : Int)] 3)) (w.heap.size + 1) 3 (.slice (some ⟨w.heap.size + 1, 0, none⟩) 11 11) [x0, x1, x2, x3, x4, x5, x6, x7, x8, x9, (xn : Int)] := by
    have := Own.lit (k := .i64) (w.alloc (.cells #[.int .i64 x0, .int .i64 x1, .int .i64 x2, .int .i64 x3, .int .i64 x4, .int .i64 x5, .int .i64 x6, .int .i64 x7, .int .i64 x8, .int .i64 x9, .slice xa xn xc] 44)) 3 [x0, x1, x2, x3, x4, x5, x6, x7, x8, x9, (xn : Int)] (base := w.heap.size + 1) (by simp) (by simp [maxLen])
    rw [show (w.alloc (.cells #[.int .i64 x0, .int .i64 x1, .int .i64 x2, .int .i64 x3, .int .i64 x4, .int .i64 x5, .int .i64 x6, .int .i64 x7, .int .i64 x8, .int .i64 x9, .slice xa xn xc] 44)).heap.size = w.heap.size + 1 by simp] at this
    exact this
  have hA1 := Shape.now hA hB1
  go_enter Tryz.func47, Tryz.ntmps47
  go_wp2_with (at_builtin; refine wpList_app (intS .i64) (by simp [Region.wanted]) (.tmp 28) (.tmp 30) 42 rfl (w.heap.size + 1) 3 i0 (.int .i64 0) 8 Tryz.underlying42 hi0 hi1 hi2 hi3 rfl Nat.one_pos (by omega) (by rfl) ho (by rfl) hA1 (Own.apart ho (Nat.le_succ _)) (by simp; omega) (by simp) ?_; intro a4 c4 u4 ho4 hg4 hb4 hat4)
  go_ret
  refine ⟨hB1.trans (hb4.mono (Nat.le_succ _)), a4, c4, rfl, ?_⟩
  rw [HW.out]
  exact ho4.is

set_option maxRecDepth 100000 in
theorem rfour (n : Int) (h0 : -2147483648 ≤ n) (h1 : n < 4294967296) (w : World) : Calls Tryz.prog 48 #[.int .i64 n] w fun e w' => e = .returned (.string ⟨(Wx.four (Wx.un n)).toArray⟩) ∧ Below w.heap.size w w' := by
  have hm := Wx.un_lt n
  have hback := four_back w (Wx.un n)
  obtain ⟨m, em⟩ : ∃ m, m = Wx.un n := ⟨_, rfl⟩
  rw [← em] at hm hback
  have t0 : (m : Int).tmod 256 = ((m % 256 : Nat) : Int) := by rw [Int.tmod_eq_emod_of_nonneg (by omega)]; rfl
  have d1 : (m : Int).tdiv 256 = ((m / 256 : Nat) : Int) := by rw [Int.tdiv_eq_ediv_of_nonneg (by omega)]; rfl
  have d2 : (m : Int).tdiv 65536 = ((m / 65536 : Nat) : Int) := by rw [Int.tdiv_eq_ediv_of_nonneg (by omega)]; rfl
  have d3 : (m : Int).tdiv 16777216 = ((m / 16777216 : Nat) : Int) := by rw [Int.tdiv_eq_ediv_of_nonneg (by omega)]; rfl
  have t1 : ((m / 256 : Nat) : Int).tmod 256 = ((m / 256 % 256 : Nat) : Int) := by rw [Int.tmod_eq_emod_of_nonneg (by omega)]; rfl
  have t2 : ((m / 65536 : Nat) : Int).tmod 256 = ((m / 65536 % 256 : Nat) : Int) := by rw [Int.tmod_eq_emod_of_nonneg (by omega)]; rfl
  have t3 : ((m / 16777216 : Nat) : Int).tmod 256 = ((m / 16777216 % 256 : Nat) : Int) := by rw [Int.tmod_eq_emod_of_nonneg (by omega)]; rfl
  have c0 : m % 256 < 256 := by omega
  have c1 : m / 256 % 256 < 256 := by omega
  have c2 : m / 65536 % 256 < 256 := by omega
  have c3 : m / 16777216 % 256 < 256 := by omega
  have b1 : m / 256 < 4294967296 := by omega
  have b2 : m / 65536 < 4294967296 := by omega
  have b3 : m / 16777216 < 4294967296 := by omega
  rw [← em]
  by_cases hn : n < 0
  · have e : n + 4294967296 = (m : Int) := by rw [em]; unfold Wx.un; omega
    clear em
    generalize m % 256 = y0 at *
    generalize m / 256 % 256 = y1 at *
    generalize m / 65536 % 256 = y2 at *
    generalize m / 16777216 % 256 = y3 at *
    generalize m / 256 = z1 at *
    generalize m / 65536 = z2 at *
    generalize m / 16777216 = z3 at *
    go_enter Tryz.func48, Tryz.ntmps48
    go_wp2
    go_ret
    exact ⟨rfl, new_bel _ _⟩
  · have e : n = (m : Int) := by rw [em]; unfold Wx.un; omega
    clear em
    subst e
    generalize m % 256 = y0 at *
    generalize m / 256 % 256 = y1 at *
    generalize m / 65536 % 256 = y2 at *
    generalize m / 16777216 % 256 = y3 at *
    generalize m / 256 = z1 at *
    generalize m / 65536 = z2 at *
    generalize m / 16777216 = z3 at *
    go_enter Tryz.func48, Tryz.ntmps48
    go_wp2
    go_ret
    exact ⟨rfl, new_bel _ _⟩

end Go.Proofs.YtfidgcanolegfaaGreat

/- Texts that are cut, and texts that are none. -/
namespace Go.Proofs.YtfidgcanolegfaaGreat
open Go.ChangeShapes Go.WideShapes Go.ChangeAt Go.RowKit

theorem str_none {S : ByteArray} (h : S.size = 0) : (S.toList == ([] : List UInt8)) = true := by
  have : S.toList.length = 0 := by rw [ByteArray.toList_eq, Array.length_toList]; exact h
  rw [List.eq_nil_of_length_eq_zero this]; rfl
/-- A string's beginning. -/
theorem cut_to (s : ByteArray) {j : Nat} (h : j ≤ s.size) : ∃ D : ByteArray, (∀ w : World, (Instr.slice 9 (.string s) none (some (.int .i64 (j : Int))) none).run Tryz.prog w = .ok (.string D) w) ∧ D.data.toList = s.data.toList.take j ∧ D.size = j := by
  refine ⟨s.extract 0 j, fun w => ?_, ?_, ?_⟩
  · have hj : 0 ≤ (j : Int) ∧ (j : Int) ≤ (s.size : Int) := ⟨by omega, by omega⟩
    simp [Instr.slice, Instr.sliceBounds, Instr.sliceBound, asIntOf, run_underlying Tryz.underlying9, hj]
    intro hc
    omega
  · have e : s = ByteArray.mk s.data.toList.toArray := by cases s; simp
    conv => lhs; rw [e, ByteArray.extract_mk]
    show (List.take (j - 0) (List.drop 0 s.data.toList)).toArray.toList = _
    rw [List.toList_toArray, Nat.sub_zero, List.drop_zero]
  · rw [ByteArray.size_extract]; omega

theorem str_some {S : ByteArray} (h : S.size ≠ 0) : (S.toList == ([] : List UInt8)) = false := by
  have : S.toList.length ≠ 0 := by rw [ByteArray.toList_eq, Array.length_toList]; exact h
  cases hq : S.toList with
  | nil => rw [hq] at this; exact absurd rfl this
  | cons x l => rfl

/-- A string's end. -/
theorem cut_from (s : ByteArray) {j : Nat} (h : j ≤ s.size) : ∃ D : ByteArray, (∀ w : World, (Instr.slice 9 (.string s) (some (.int .i64 (j : Int))) none none).run Tryz.prog w = .ok (.string D) w) ∧ D.data.toList = s.data.toList.drop j ∧ D.size = s.size - j := by
  refine ⟨s.extract j s.size, fun w => ?_, ?_, ?_⟩
  · have hj : 0 ≤ (j : Int) ∧ (j : Int) ≤ (s.size : Int) := ⟨by omega, by omega⟩
    simp [Instr.slice, Instr.sliceBounds, Instr.sliceBound, asIntOf, run_underlying Tryz.underlying9, hj]
    intro hc
    omega
  · have e : s = ByteArray.mk s.data.toList.toArray := by cases s; simp
    have hsz : s.data.toList.length = s.size := by rw [Array.length_toList]; rfl
    conv => lhs; rw [e, ByteArray.extract_mk]
    show (List.take (s.data.toList.toArray.size - j) (List.drop j s.data.toList)).toArray.toList = _
    rw [List.toList_toArray, List.size_toArray]
    exact List.take_of_length_le (by rw [List.length_drop]; omega)
  · rw [ByteArray.size_extract]; omega
/-- A string's inner part. -/
theorem cut_mid (s : ByteArray) {i j : Nat} (h1 : i ≤ j) (h : j ≤ s.size) : ∃ D : ByteArray, (∀ w : World, (Instr.slice 9 (.string s) (some (.int .i64 (i : Int))) (some (.int .i64 (j : Int))) none).run Tryz.prog w = .ok (.string D) w) ∧ D.data.toList = (s.data.toList.drop i).take (j - i) ∧ D.size = j - i := by
  refine ⟨s.extract i j, fun w => ?_, ?_, ?_⟩
  · have := run_slice_string (P := Tryz.prog) w 9 s .i64 .i64 (i : Int) (j : Int) Tryz.underlying9 (by omega) (by omega) (by omega)
    exact this
  · have e : s = ByteArray.mk s.data.toList.toArray := by cases s; simp
    conv => lhs; rw [e, ByteArray.extract_mk]
  · rw [ByteArray.size_extract]; omega
theorem list_size (s : ByteArray) : s.data.toList.length = s.size := by rw [Array.length_toList]; rfl
theorem text_of (s : ByteArray) : (⟨s.data.toList.toArray⟩ : ByteArray) = s := by cases s; simp
theorem text_is {s : ByteArray} {l : List UInt8} (h : s.data.toList = l) : s = ⟨l.toArray⟩ := by rw [← h, text_of]
theorem bcat (A B : List UInt8) : (⟨A.toArray⟩ : ByteArray) ++ ⟨B.toArray⟩ = ⟨(A ++ B).toArray⟩ := by
  apply ByteArray.ext
  rw [ByteArray.data_append]
  simp
theorem bsize (A : List UInt8) : (⟨A.toArray⟩ : ByteArray).size = A.length := by show A.toArray.size = _; simp

end Go.Proofs.YtfidgcanolegfaaGreat

/- What the document's Right and Put of layer 7 do when called. -/
namespace Go.Proofs.YtfidgcanolegfaaGreat
open Go.ChangeShapes Go.WideShapes Go.ChangeAt Go.RowKit

/-- The first k numbers of a list are as they may be in a message. -/
def RG (l : List Int) (k : Nat) : Prop := ∀ j, j < k → l.getD j 0 ≤ 2147483647 ∧ -2147483648 ≤ l.getD j 0 ∧ (j < 11 → 0 ≤ l.getD j 0)
theorem RG.zero (l : List Int) : RG l 0 := fun j h => by omega
theorem RG.succ {l : List Int} {k : Nat} (h : RG l k) (hk : l.getD k 0 ≤ 2147483647 ∧ -2147483648 ≤ l.getD k 0 ∧ (k < 11 → 0 ≤ l.getD k 0)) : RG l (k + 1) := by
  intro j hj
  rcases Nat.lt_or_ge j k with h1 | h1
  · exact h j h1
  · have e : j = k := by omega
    subst e; exact hk
theorem list_ten (m : Wx.Msg) {j : Nat} (h : j < 10) : (Wx.listOf m).getD j 0 = (Wx.ten m).getD j 0 := by
  unfold Wx.listOf
  rw [List.getD_eq_getElem?_getD, List.getD_eq_getElem?_getD, List.getElem?_append_left (by exact h)]
theorem list_len (m : Wx.Msg) : (Wx.listOf m).getD 10 0 = (m.vec.length : Int) := rfl
theorem list_vec (m : Wx.Msg) (j : Nat) : (Wx.listOf m).getD (11 + j) 0 = m.vec.getD j 0 := by
  unfold Wx.listOf
  rw [List.getD_eq_getElem?_getD, List.getD_eq_getElem?_getD, List.getElem?_append_right (by show 10 ≤ 11 + j; omega)]
  show (List.cons (m.vec.length : Int) m.vec)[11 + j - 10]?.getD 0 = _
  rw [show 11 + j - 10 = j + 1 by omega, List.getElem?_cons_succ]
theorem mem_get {l : List Int} {x : Int} (h : x ∈ l) : ∃ j, j < l.length ∧ l.getD j 0 = x := by
  obtain ⟨j, hj, rfl⟩ := List.getElem_of_mem h
  exact ⟨j, hj, by rw [List.getD_eq_getElem?_getD, List.getElem?_eq_getElem hj]; rfl⟩
theorem listOf_len (m : Wx.Msg) : (Wx.listOf m).length = 11 + m.vec.length := by unfold Wx.listOf; rw [List.length_append]; show 10 + (m.vec.length + 1) = _; omega
theorem right_list (m : Wx.Msg) : Wx.right m ↔ RG (Wx.listOf m) (11 + m.vec.length) ∧ 1 ≤ m.kind ∧ m.kind ≤ 4 ∧ m.vec.length ≤ 8 := by
  constructor
  · rintro ⟨h1, h2, h3, h4, h5⟩
    refine ⟨fun j hj => ?_, h1, h2, h4⟩
    rcases Nat.lt_or_ge j 10 with hlt | hge
    · rw [list_ten m hlt]
      have := h3 _ (num_mem (Wx.ten m) j hlt)
      exact ⟨this.2, by omega, fun _ => this.1⟩
    · rcases Nat.eq_or_lt_of_le hge with rfl | hgt
      · rw [list_len]; exact ⟨by omega, by omega, fun _ => by omega⟩
      · obtain ⟨i, rfl⟩ : ∃ i, j = 11 + i := ⟨j - 11, by omega⟩
        rw [list_vec]
        have := h5 _ (num_mem m.vec i (by omega))
        exact ⟨this.2, this.1, fun h => by omega⟩
  · rintro ⟨h1, h2, h3, h4⟩
    refine ⟨h2, h3, fun x hx => ?_, h4, fun x hx => ?_⟩
    · obtain ⟨j, hj, rfl⟩ := mem_get hx
      have hj10 : j < 10 := hj
      have := h1 j (by omega)
      rw [list_ten m hj10] at this
      exact ⟨this.2.2 (by omega), this.1⟩
    · obtain ⟨j, hj, rfl⟩ := mem_get hx
      have := h1 (11 + j) (by omega)
      rw [list_vec] at this
      exact ⟨this.2.1, this.1⟩

set_option maxRecDepth 100000 in
theorem rput (x0 x1 x2 x3 x4 x5 x6 x7 x8 x9 : Int) (xa : Option Addr) (xn xc : Nat) (l : List Int) (w : World) (hr : rowS.rep w everywhere [.slice xa xn xc] l) (hp : Wx.right ⟨x0, x1, x2, x3, x4, x5, x6, x7, x8, x9, l⟩) :
    Calls Tryz.prog 18 #[.agg #[.int .i64 x0, .int .i64 x1, .int .i64 x2, .int .i64 x3, .int .i64 x4, .int .i64 x5, .int .i64 x6, .int .i64 x7, .int .i64 x8, .int .i64 x9, .slice xa xn xc]] w fun e w' => e = .returned (.string ⟨(Wx.put ⟨x0, x1, x2, x3, x4, x5, x6, x7, x8, x9, l⟩).toArray⟩) ∧ Below w.heap.size w w' := by
  have HL : Hid (l.length = xn) := (sliceS_len hr).1
  have hn : xn ≤ 8 := by have h8 : l.length ≤ 8 := hp.2.2.2.1; have := HL.out; omega
  have HG : Hid (RG (Wx.listOf ⟨x0, x1, x2, x3, x4, x5, x6, x7, x8, x9, l⟩) (11 + xn)) := by have h := ((right_list _).1 hp).1; have e : l.length = xn := HL.out; rw [← e]; exact h
  have HTL : Hid ((Wx.listOf ⟨x0, x1, x2, x3, x4, x5, x6, x7, x8, x9, l⟩).length = 11 + xn) := by show _ = _; rw [listOf_len, ← HL.out]
  have HBO : Hid (Wx.body ⟨x0, x1, x2, x3, x4, x5, x6, x7, x8, x9, l⟩ = Wx.F ((Wx.listOf ⟨x0, x1, x2, x3, x4, x5, x6, x7, x8, x9, l⟩).map Wx.un)) := rfl
  have HPU : Hid (Wx.put ⟨x0, x1, x2, x3, x4, x5, x6, x7, x8, x9, l⟩ = Wx.four (Wx.un ((48 + 4 * xn : Nat) : Int)) ++ (Wx.body ⟨x0, x1, x2, x3, x4, x5, x6, x7, x8, x9, l⟩ ++ Wx.four (Wx.un (Cx.sum (Wx.body ⟨x0, x1, x2, x3, x4, x5, x6, x7, x8, x9, l⟩) : Nat)))) := by
    show _ = _
    rw [Wx.un_nat (by omega), Wx.un_nat (Cx.sum_lt _)]
    unfold Wx.put
    rw [Wx.body_len]
    show Wx.four (44 + 4 * l.length + 4) ++ _ = _
    rw [HL.out, show 44 + 4 * xn + 4 = 48 + 4 * xn by omega]
  have HBL : Hid ((Wx.body ⟨x0, x1, x2, x3, x4, x5, x6, x7, x8, x9, l⟩).length = 44 + 4 * xn) := by show _ = _; rw [Wx.body_len]; show 44 + 4 * l.length = _; rw [HL.out]
  clear hp
  go_enter Tryz.func18, Tryz.ntmps18
  go_wp2_with fail
  refine (rlist x0 x1 x2 x3 x4 x5 x6 x7 x8 x9 xa xn xc l _ (Shape.below hr (new_bel w _)) (by omega)).mono ?_
  rintro e u ⟨hb, a, c, rfl, hrep⟩
  have hB := bel_then (new_bel w _) hb
  have hR := Row.of_rep hrep
  clear hb hr hrep
  generalize Wx.listOf ⟨x0, x1, x2, x3, x4, x5, x6, x7, x8, x9, l⟩ = t at *
  generalize Wx.body ⟨x0, x1, x2, x3, x4, x5, x6, x7, x8, x9, l⟩ = S at *
  generalize hL : 11 + xn = L at *
  go_wp2
  go_loopw [3, 9] (fun v i wr => ∃ k : Nat, k ≤ L ∧ i = .int .i64 k ∧ v = .string ⟨(Wx.F ((t.take k).map Wx.un)).toArray⟩ ∧ Below u.heap.size u wr) (fun _ i _ => L - (intOf i).toNat)
  case atStart => exact ⟨0, Nat.zero_le _, rfl, rfl, Below.refl _ _⟩
  case round =>
    obtain ⟨k, hk, rfl, rfl, hbel⟩ := hrel
    by_cases hlt : k < L
    · have hli : (k : Int) < (L : Int) := by omega
      obtain ⟨b1, o1, rfl, hb1, hc1⟩ := (hR.keep hbel).at hlt
      have HS : Hid (Wx.F ((t.take (k + 1)).map Wx.un) = Wx.F ((t.take k).map Wx.un) ++ Wx.four (Wx.un (t.getD k 0))) := F_snoc t k (by have := HTL.out; omega)
      have HN : Hid _ := F_take_len t k (by have := HTL.out; omega)
      obtain ⟨g1, g2, _⟩ := HG.out k (by omega)
      generalize Wx.F ((t.take k).map Wx.un) = A at *
      generalize t.getD k 0 = x at *
      have HC : Hid _ := bcat A (Wx.four (Wx.un x))
      have z1 := bsize A
      have z2 := bsize (Wx.four (Wx.un x))
      rw [HN.out] at z1
      rw [Wx.four_len] at z2
      have HF : Hid _ := rfour x g2 (by omega)
      rw [← HS.out] at HC
      generalize (⟨(Wx.four (Wx.un x)).toArray⟩ : ByteArray) = Q at *
      generalize (⟨A.toArray⟩ : ByteArray) = D at *
      have hcat : ¬ (9223372036854775807 < D.size + Q.size) := by omega
      go_wp2_with fail
      refine (HF.out _).mono ?_
      rintro e u3 ⟨rfl, hb3⟩
      have hbel3 := bel_then hbel hb3
      go_wp2
      go_roundw
      case rel => exact ⟨k + 1, by omega, by go_num, by rw [HC.out], hbel3⟩
      case measure => simp [intOf]; omega
    · have hkn : k = L := by omega
      subst hkn
      have hli : ¬ (k : Int) < (k : Int) := by omega
      have HA : Hid (Wx.F ((t.take k).map Wx.un) = S) := by show _ = _; rw [List.take_of_length_le (by have := HTL.out; omega), ← HBO.out]
      rw [HA.out]
      have z0 := bsize S
      rw [HBL.out] at z0
      have hcs : ∀ w, Calls Tryz.prog 49 #[.string ⟨S.toArray⟩] w fun e w' => e = .returned (.int .i64 (Cx.sum S : Nat)) ∧ w' = w := fun w => rsum ⟨S.toArray⟩ (by rw [z0]; unfold maxLen; omega) w
      have hy := Cx.sum_lt S
      generalize Cx.sum S = y at *
      have HC1 : Hid _ := bcat S (Wx.four (Wx.un (y : Int)))
      have HF1 : Hid _ := rfour (y : Int) (by omega) (by omega)
      have z1 := bsize (Wx.four (Wx.un (y : Int)))
      have z2 := bsize (S ++ Wx.four (Wx.un (y : Int)))
      rw [Wx.four_len] at z1
      rw [List.length_append, HBL.out, Wx.four_len] at z2
      generalize S ++ Wx.four (Wx.un (y : Int)) = S2 at *
      have HC2 : Hid _ := bcat (Wx.four (Wx.un ((48 + 4 * xn : Nat) : Int))) S2
      rw [← HPU.out] at HC2
      have HF2 : Hid (∀ n : Int, n = ((48 + 4 * xn : Nat) : Int) → ∀ w, Calls Tryz.prog 48 #[.int .i64 n] w fun e w' => e = .returned (.string ⟨(Wx.four (Wx.un ((48 + 4 * xn : Nat) : Int))).toArray⟩) ∧ Below w.heap.size w w') := by
        rintro n rfl w; exact rfour _ (by omega) (by omega) w
      have z3 := bsize (Wx.four (Wx.un ((48 + 4 * xn : Nat) : Int)))
      rw [Wx.four_len] at z3
      generalize (⟨(Wx.four (Wx.un ((48 + 4 * xn : Nat) : Int))).toArray⟩ : ByteArray) = Q2 at *
      generalize (⟨(Wx.four (Wx.un (y : Int))).toArray⟩ : ByteArray) = Q1 at *
      have hd : (⟨S.toArray⟩ : ByteArray) ++ Q1 = ⟨S2.toArray⟩ := HC1.out
      generalize (⟨S2.toArray⟩ : ByteArray) = D2 at *
      generalize (⟨S.toArray⟩ : ByteArray) = D1 at *
      have hcat1 : ¬ (9223372036854775807 < D1.size + Q1.size) := by omega
      have hcat2 : ¬ (9223372036854775807 < Q2.size + D2.size) := by omega
      go_wp2_with (go_at_call 49; refine by_same (hcs _) ?_)
      refine (HF1.out _).mono ?_
      rintro e u3 ⟨rfl, hb3⟩
      have hbel3 := bel_then hbel hb3
      go_wp2_with fail
      refine (HF2.out _ (by omega) _).mono ?_
      rintro e u4 ⟨rfl, hb4⟩
      have hbel4 := bel_then hbel3 hb4
      go_wp2
      go_ret
      exact ⟨by rw [← HC2.out]; rfl, bel_then hB hbel4⟩

end Go.Proofs.YtfidgcanolegfaaGreat
