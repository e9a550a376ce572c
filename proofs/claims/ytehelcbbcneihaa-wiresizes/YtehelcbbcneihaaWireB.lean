/- What Put of package wire and what it calls do when called: a message's bytes. -/
import Derived.Test.YtehelcbbcneihaaWireA
import Derived.Lib.AppendStr
namespace Go.Proofs.Ytehelcbbcneihaa
open Go.ChangeShapes Go.WideShapes Go.ChangeAt Go.RowKit

theorem Try.infoByte : (Try.prog.info? 5).map (fun i => (i.zero, i.size, i.bytes)) = some (some (.int .u8 0), 1, 1) := by kernel_rfl

/-- The call owns the slice v of the bytes l. -/
def OwnB (w : World) (base : Nat) (v : Value) (l : List UInt8) : Prop := w.ownsRow base 5 1 v l.length (l.map fun b => Value.int .u8 (b.toNat : Nat))

theorem OwnB.nil (w : World) (base : Nat) : OwnB w base (.slice none 0 0) [] := World.ownsRow_nil _ _ _ _
theorem OwnB.keep {w w' : World} {base : Nat} {v : Value} {l : List UInt8} (h : OwnB w base v l) (hb : Below w.heap.size w w') : OwnB w' base v l := own_below h hb
theorem OwnB.form {w : World} {base : Nat} {v : Value} {l : List UInt8} (h : OwnB w base v l) : ∃ a c, v = .slice a l.length c := by
  rcases h.2 with ⟨rfl, h0⟩ | ⟨g, cap, cur, rfl, _⟩
  · exact ⟨none, 0, by rw [h0]⟩
  · exact ⟨_, _, rfl⟩
theorem OwnB.back {w : World} {base : Nat} {v : Value} {l : List UInt8} (h : OwnB w base v l) (hl : 0 < l.length) : (convert 38 9 v).run Try.prog w = .ok (.string ⟨l.toArray⟩) w := by
  rcases h.2 with ⟨rfl, h0⟩ | ⟨g, cap, cur, rfl, hb, hg, hnc, hcm, hcs, htake⟩
  · omega
  · refine run_convert_bytes_back (P := Try.prog) w 38 9 5 ⟨g, 0, none⟩ cap l Try.underlying38 Try.underlying5 Try.underlying9 fun j hj => ?_
    rw [show (⟨g, 0, none⟩ : Addr).add j = ⟨g, j, none⟩ by unfold Addr.add; split <;> simp_all, cell_of_row w g j cur 5 (0, 0) hg]
    have hx : (cur.toList.take (l.length * 1))[j]? = (l.map fun b => Value.int .u8 (b.toNat : Nat))[j]? := by rw [htake]
    rw [List.getElem?_take, if_pos (by omega), List.getElem?_map, List.getElem?_eq_getElem hj] at hx
    simpa using hx

theorem toNat_mod {m : Nat} : (UInt8.ofNat (m % 256)).toNat = m % 256 := Wx.ofNat_toNat _ (by omega)

theorem four_src (w : World) (y0 y1 y2 y3 : Nat) : (∀ j u, [Value.int .u8 (y0 : Int), .int .u8 (y1 : Int), .int .u8 (y2 : Int), .int .u8 (y3 : Int)][j]? = some u → (w.alloc (.cells #[.int .u8 (y0 : Int), .int .u8 (y1 : Int), .int .u8 (y2 : Int), .int .u8 (y3 : Int)] 5)).cell? ((⟨w.heap.size, 0, none⟩ : Addr).add j) = some u) ∧
    ∀ u ∈ [Value.int .u8 (y0 : Int), .int .u8 (y1 : Int), .int .u8 (y2 : Int), .int .u8 (y3 : Int)], u.oneCell' = true := by
  constructor
  · intro j u hu
    rw [Addr.add_lit, cell_of_row _ w.heap.size (0 + j) _ 5 (0, 0) (heap_alloc_new w _)]
    simpa using hu
  · intro u hu
    simp only [List.mem_cons, List.not_mem_nil, or_false] at hu
    rcases hu with rfl | rfl | rfl | rfl <;> rfl

theorem addNumber (v : Value) (n : Int) (l : List UInt8) (base : Nat) (w : World) (ho : OwnB w base v l) (hb : base ≤ w.heap.size) (hl : l.length ≤ 1000) :
    Calls Try.prog 19 #[v, .int .i64 n] w fun e w' => ∃ v', e = .returned v' ∧ OwnB w' base v' (l ++ Wx.four (Wx.un n)) ∧ Below base w w' := by
  obtain ⟨i0, hi0, hz0, hz1, hz2⟩ := info_parts Try.infoByte
  have hu : n % 4294967296 = (Wx.un n : Nat) := by unfold Wx.un; omega
  have hlt := Wx.un_lt n
  generalize Wx.un n = m at *
  have k0 : (m : Int) % 256 = ((m % 256 : Nat) : Int) := by omega
  have k1 : (m : Int) / 256 % 256 = ((m / 256 % 256 : Nat) : Int) := by omega
  have k2 : (m : Int) / 65536 % 256 = ((m / 65536 % 256 : Nat) : Int) := by omega
  have k3 : (m : Int) / 16777216 = ((m / 16777216 % 256 : Nat) : Int) := by omega
  have HN : Hid ((Wx.four m).map (fun b => Value.int .u8 (b.toNat : Nat)) = [.int .u8 ((m % 256 : Nat) : Int), .int .u8 ((m / 256 % 256 : Nat) : Int), .int .u8 ((m / 65536 % 256 : Nat) : Int), .int .u8 ((m / 16777216 % 256 : Nat) : Int)]) := by
    show _ = _
    unfold Wx.four
    simp only [List.map_cons, List.map_nil]
    rw [toNat_mod, toNat_mod, toNat_mod, toNat_mod]
  have c0 : m % 256 < 256 := by omega
  have c1 : m / 256 % 256 < 256 := by omega
  have c2 : m / 65536 % 256 < 256 := by omega
  have c3 : m / 16777216 % 256 < 256 := by omega
  generalize m % 256 = y0 at *
  generalize m / 256 % 256 = y1 at *
  generalize m / 65536 % 256 = y2 at *
  generalize m / 16777216 % 256 = y3 at *
  have s1 := four_src w y0 y1 y2 y3
  go_enter Try.func19, Try.ntmps19
  go_wp2_with (at_builtin; refine wpList_append_own _ rfl (.tmp 8) (.tmp 20) 38 rfl base 5 i0 (.int .u8 0) 1 1 Try.underlying38 hi0 hz0 hz1 hz2 rfl Nat.one_pos _ _ _ (by rfl) (ho.keep (new_bel w _)) ⟨w.heap.size, 0, none⟩ 4 4 [.int .u8 (y0 : Int), .int .u8 (y1 : Int), .int .u8 (y2 : Int), .int .u8 (y3 : Int)] (by rfl) rfl s1.1 s1.2 (by unfold maxLen; omega) (by omega) (by simp; omega) ?_; intro v5 w5 ho5 hg5 hn5)
  go_ret
  refine ⟨v5, rfl, ?_, ?_⟩
  · unfold OwnB
    rw [List.length_append, Wx.four_len, List.map_append, HN.out]
    exact ho5
  · exact ((Below.refl base w).alloc hb _).grown hg5 (by simp; omega) (fun g hg => (ho.lt g hg).1)

theorem F_snoc (l : List Int) (k : Nat) (h : k < l.length) : Wx.F ((l.take (k + 1)).map Wx.un) = Wx.F ((l.take k).map Wx.un) ++ Wx.four (Wx.un (l.getD k 0)) := by
  rw [take_snoc l k h, List.map_append, Wx.F_append]; congr 1
theorem F_take_len (l : List Int) (k : Nat) (h : k ≤ l.length) : (Wx.F ((l.take k).map Wx.un)).length = 4 * k := by rw [Wx.F_len, List.length_map, List.length_take]; omega

theorem bodyOf (x0 x1 x2 x3 x4 x5 x6 x7 x8 x9 : Int) (xa : Option Addr) (xn xc : Nat) (l : List Int) (w : World) (hr : Row .i64 w xa xn l) (hn : xn ≤ 8) :
    Calls Try.prog 18 #[.agg #[.int .i64 x0, .int .i64 x1, .int .i64 x2, .int .i64 x3, .int .i64 x4, .int .i64 x5, .int .i64 x6, .int .i64 x7, .int .i64 x8, .int .i64 x9, .slice xa xn xc]] w fun e w' => e = .returned (.string ⟨(Wx.body ⟨x0, x1, x2, x3, x4, x5, x6, x7, x8, x9, l⟩).toArray⟩) ∧ Below w.heap.size w w' := by
  have HL : Hid (l.length = xn) := hr.len
  obtain ⟨B, hB⟩ : ∃ B, B = (w.alloc (.cells #[.int .i64 x0, .int .i64 x1, .int .i64 x2, .int .i64 x3, .int .i64 x4, .int .i64 x5, .int .i64 x6, .int .i64 x7, .int .i64 x8, .int .i64 x9, .slice xa xn xc] 24)).heap.size := ⟨_, rfl⟩
  have HB : Hid (B = (w.alloc (.cells #[.int .i64 x0, .int .i64 x1, .int .i64 x2, .int .i64 x3, .int .i64 x4, .int .i64 x5, .int .i64 x6, .int .i64 x7, .int .i64 x8, .int .i64 x9, .slice xa xn xc] 24)).heap.size) := hB
  have HBW : Hid (w.heap.size ≤ B) := by show _ ≤ _; rw [hB]; simp
  clear hB
  go_enter Try.func18, Try.ntmps18
  go_wp2_with fail
  refine (headOf x0 x1 x2 x3 x4 x5 x6 x7 x8 x9 xa xn xc _).mono ?_
  rintro e u ⟨rfl, hb⟩
  rw [← HB.out] at hb
  have HT : Hid ([x0, x1, x2, x3, x4, x5, x6, x7, x8, x9].length = 10) := rfl
  obtain ⟨t, ht⟩ : ∃ t : List Int, t = [x0, x1, x2, x3, x4, x5, x6, x7, x8, x9] := ⟨_, rfl⟩
  have HI : Hid (∀ k : Nat, k < 10 → ∀ w : World, (Instr.index 45 (.agg #[.int .i64 x0, .int .i64 x1, .int .i64 x2, .int .i64 x3, .int .i64 x4, .int .i64 x5, .int .i64 x6, .int .i64 x7, .int .i64 x8, .int .i64 x9]) (.int .i64 (k : Int))).run Try.prog w = .ok (.int .i64 (t.getD k 0)) w) := by
    intro k hk w
    rw [ht]
    exact index10 x0 x1 x2 x3 x4 x5 x6 x7 x8 x9 k hk w
  have HW : Hid (Wx.body ⟨x0, x1, x2, x3, x4, x5, x6, x7, x8, x9, l⟩ = Wx.F (t.map Wx.un) ++ Wx.four (Wx.un (xn : Int)) ++ Wx.F (l.map Wx.un)) := by
    show _ = _
    rw [ht, ← HL.out, List.append_assoc, ← Wx.F_cons, ← Wx.F_append]
    rfl
  rw [← ht] at HT
  clear ht
  go_wp2
  go_loopw [3, 10] (fun v i wr => ∃ k : Nat, k ≤ 10 ∧ i = .int .i64 k ∧ OwnB wr B v (Wx.F ((t.take k).map Wx.un)) ∧ Below B (w.alloc (.cells #[.int .i64 x0, .int .i64 x1, .int .i64 x2, .int .i64 x3, .int .i64 x4, .int .i64 x5, .int .i64 x6, .int .i64 x7, .int .i64 x8, .int .i64 x9, .slice xa xn xc] 24)) wr ∧ Hid (B ≤ wr.heap.size)) (fun _ i _ => 10 - (intOf i).toNat)
  case atStart => exact ⟨0, Nat.zero_le _, rfl, OwnB.nil _ _, hb, by show _ ≤ _; rw [HB.out]; exact hb.size⟩
  case round =>
    obtain ⟨k, hk, rfl, hown, hbel, HZ⟩ := hrel
    by_cases hlt : k < 10
    · have hli : (k : Int) < 10 := by omega
      have hix := HI.out k hlt
      have HS : Hid _ := F_snoc t k (by have := HT.out; omega)
      have HN : Hid _ := F_take_len t k (by have := HT.out; omega)
      generalize t.getD k 0 = x at *
      go_wp2_with fail
      refine (addNumber _ x _ B _ hown HZ.out (by rw [HN.out]; omega)).mono ?_
      rintro e u3 ⟨v3, rfl, ho3, hb3⟩
      have HZ3 : Hid (B ≤ u3.heap.size) := Nat.le_trans HZ.out hb3.size
      go_wp2
      go_roundw
      case rel => exact ⟨k + 1, by omega, by go_num, by rw [HS.out]; exact ho3, hbel.trans hb3, HZ3⟩
      case measure => simp [intOf]; omega
    · have hk10 : k = 10 := by omega
      subst hk10
      have hli : ¬ ((10 : Nat) : Int) < 10 := by omega
      have HA : Hid (t.take 10 = t) := List.take_of_length_le (by have := HT.out; omega)
      rw [HA.out] at hown
      have hc10 := box_cell (HB.out ▸ hbel) 10 (v := .slice xa xn xc) rfl
      have HN : Hid ((Wx.F (t.map Wx.un)).length = 40) := by show _ = _; rw [Wx.F_len, List.length_map, HT.out]
      go_wp2_with fail
      refine (addNumber _ _ _ B _ hown HZ.out (by rw [HN.out]; omega)).mono ?_
      rintro e u3 ⟨v3, rfl, ho3, hb3⟩
      have HZ3 : Hid (B ≤ u3.heap.size) := Nat.le_trans HZ.out hb3.size
      have hbel3 := hbel.trans hb3
      have hd10 := box_cell (HB.out ▸ hbel3) 10 (v := .slice xa xn xc) rfl
      clear hc10 hbel hown HZ hb3
      go_wp2
      go_loopw [3, 25] (fun v i wr => ∃ k : Nat, k ≤ xn ∧ i = .int .i64 k ∧ OwnB wr B v (Wx.F (t.map Wx.un) ++ Wx.four (Wx.un (xn : Int)) ++ Wx.F ((l.take k).map Wx.un)) ∧ Below B (w.alloc (.cells #[.int .i64 x0, .int .i64 x1, .int .i64 x2, .int .i64 x3, .int .i64 x4, .int .i64 x5, .int .i64 x6, .int .i64 x7, .int .i64 x8, .int .i64 x9, .slice xa xn xc] 24)) wr ∧ Hid (B ≤ wr.heap.size)) (fun _ i _ => xn - (intOf i).toNat)
      case atStart => exact ⟨0, Nat.zero_le _, rfl, by simpa [Wx.F_nil] using ho3, hbel3, HZ3⟩
      case round =>
        obtain ⟨k, hk, rfl, hown, hbel, HZ⟩ := hrel
        have hBel : Below w.heap.size w wr := (new_bel w _).trans (hbel.mono HBW.out)
        by_cases hlt : k < xn
        · have hli : (k : Int) < (xn : Int) := by omega
          obtain ⟨b1, o1, rfl, hb1, hc1⟩ := (hr.keep hBel).at hlt
          have HS : Hid _ := F_snoc l k (by have := HL.out; omega)
          have HM : Hid _ := F_take_len l k (by have := HL.out; omega)
          generalize l.getD k 0 = x at *
          go_wp2_with fail
          refine (addNumber _ x _ B _ hown HZ.out (by rw [List.length_append, List.length_append, Wx.four_len, HN.out, HM.out]; omega)).mono ?_
          rintro e u4 ⟨v4, rfl, ho4, hb4⟩
          have HZ4 : Hid (B ≤ u4.heap.size) := Nat.le_trans HZ.out hb4.size
          go_wp2
          go_roundw
          case rel => exact ⟨k + 1, by omega, by go_num, by rw [HS.out, ← List.append_assoc]; exact ho4, hbel.trans hb4, HZ4⟩
          case measure => simp [intOf]; omega
        · have hkn : k = xn := by omega
          subst hkn
          have hli : ¬ (k : Int) < (k : Int) := by omega
          have HA2 : Hid (l.take k = l) := List.take_of_length_le (by have := HL.out; omega)
          rw [HA2.out, ← HW.out] at hown
          have hback := hown.back (by rw [Wx.body_len]; omega)
          go_wp2
          go_ret
          exact ⟨rfl, hBel⟩

/-- What Put answers. -/
def putS (m : Wx.Msg) : ByteArray := if Wx.right m then ⟨(Wx.put m).toArray⟩ else ⟨#[]⟩
def putE (m : Wx.Msg) : Int := if Wx.right m then 0 else 1
theorem putS_yes {m : Wx.Msg} (h : Wx.right m) : putS m = ⟨(Wx.put m).toArray⟩ := if_pos h
theorem putS_no {m : Wx.Msg} (h : ¬ Wx.right m) : putS m = ⟨#[]⟩ := if_neg h
theorem putE_yes {m : Wx.Msg} (h : Wx.right m) : putE m = 0 := if_pos h
theorem putE_no {m : Wx.Msg} (h : ¬ Wx.right m) : putE m = 1 := if_neg h

theorem wput (x0 x1 x2 x3 x4 x5 x6 x7 x8 x9 : Int) (xa : Option Addr) (xn xc : Nat) (l : List Int) (w : World) (hr : Row .i64 w xa xn l) :
    Calls Try.prog 10 #[.agg #[.int .i64 x0, .int .i64 x1, .int .i64 x2, .int .i64 x3, .int .i64 x4, .int .i64 x5, .int .i64 x6, .int .i64 x7, .int .i64 x8, .int .i64 x9, .slice xa xn xc]] w fun e w' => e = .returned (.tuple #[.string (putS ⟨x0, x1, x2, x3, x4, x5, x6, x7, x8, x9, l⟩), .int .i64 (putE ⟨x0, x1, x2, x3, x4, x5, x6, x7, x8, x9, l⟩)]) ∧ Below w.heap.size w w' := by
  obtain ⟨i0, hi0, hz0, hz1, hz2⟩ := info_parts Try.infoByte
  have HL : Hid (l.length = xn) := hr.len
  obtain ⟨B, hB⟩ : ∃ B, B = (w.alloc (.cells #[.int .i64 x0, .int .i64 x1, .int .i64 x2, .int .i64 x3, .int .i64 x4, .int .i64 x5, .int .i64 x6, .int .i64 x7, .int .i64 x8, .int .i64 x9, .slice xa xn xc] 24)).heap.size := ⟨_, rfl⟩
  have HB : Hid (B = (w.alloc (.cells #[.int .i64 x0, .int .i64 x1, .int .i64 x2, .int .i64 x3, .int .i64 x4, .int .i64 x5, .int .i64 x6, .int .i64 x7, .int .i64 x8, .int .i64 x9, .slice xa xn xc] 24)).heap.size) := hB
  have HBW : Hid (w.heap.size ≤ B) := by show _ ≤ _; rw [hB]; simp
  clear hB
  by_cases hp : Wx.right ⟨x0, x1, x2, x3, x4, x5, x6, x7, x8, x9, l⟩
  · rw [putS_yes hp, putE_yes hp]
    have HP : Hid (Wx.right ⟨x0, x1, x2, x3, x4, x5, x6, x7, x8, x9, l⟩) := hp
    go_enter Try.func10, Try.ntmps10
    go_wp2_with fail
    refine (wright x0 x1 x2 x3 x4 x5 x6 x7 x8 x9 xa xn xc l _ (hr.keep (new_bel w _))).mono ?_
    rintro e u ⟨hs, hb⟩
    have hBel := (new_bel w _).trans (hb.mono (by rw [← HB.out]; exact HBW.out))
    rw [hs.is hp]
    have hn : xn ≤ 8 := by have h8 : l.length ≤ 8 := hp.2.2.2.1; have := HL.out; omega
    have hc0 := box_cell hb 0 (v := .int .i64 x0) rfl
    have hc1 := box_cell hb 1 (v := .int .i64 x1) rfl
    have hc2 := box_cell hb 2 (v := .int .i64 x2) rfl
    have hc3 := box_cell hb 3 (v := .int .i64 x3) rfl
    have hc4 := box_cell hb 4 (v := .int .i64 x4) rfl
    have hc5 := box_cell hb 5 (v := .int .i64 x5) rfl
    have hc6 := box_cell hb 6 (v := .int .i64 x6) rfl
    have hc7 := box_cell hb 7 (v := .int .i64 x7) rfl
    have hc8 := box_cell hb 8 (v := .int .i64 x8) rfl
    have hc9 := box_cell hb 9 (v := .int .i64 x9) rfl
    have hc10 := box_cell hb 10 (v := .slice xa xn xc) rfl
    have hr2 := hr.keep hBel
    clear hp
    rw [← HB.out] at hb
    have HU : Hid (B ≤ u.heap.size) := by show _ ≤ _; rw [HB.out]; exact hb.size
    clear hs hr
    go_wp2_with fail
    refine (bodyOf x0 x1 x2 x3 x4 x5 x6 x7 x8 x9 xa xn xc l _ hr2 hn).mono ?_
    rintro e u2 ⟨rfl, hb2⟩
    have HQ : Hid (Wx.put ⟨x0, x1, x2, x3, x4, x5, x6, x7, x8, x9, l⟩ = Wx.four (Wx.un (44 + 4 * xn + 4 : Nat)) ++ Wx.body ⟨x0, x1, x2, x3, x4, x5, x6, x7, x8, x9, l⟩ ++ Wx.four (Wx.un (Cx.sum (Wx.body ⟨x0, x1, x2, x3, x4, x5, x6, x7, x8, x9, l⟩) : Nat))) := by
      show _ = _
      rw [Wx.un_nat (by omega), Wx.un_nat (Cx.sum_lt _), List.append_assoc]
      unfold Wx.put
      rw [Wx.body_len]
      show Wx.four (44 + 4 * l.length + 4) ++ _ = _
      rw [HL.out]
    have HS0 : Hid ((Wx.body ⟨x0, x1, x2, x3, x4, x5, x6, x7, x8, x9, l⟩).length = 44 + 4 * xn) := by show _ = _; rw [Wx.body_len]; show 44 + 4 * l.length = _; rw [HL.out]
    generalize Wx.body ⟨x0, x1, x2, x3, x4, x5, x6, x7, x8, x9, l⟩ = S at *
    have hz : (⟨S.toArray⟩ : ByteArray).size = 44 + 4 * xn := by show S.toArray.size = _; rw [List.size_toArray]; exact HS0.out
    have HD : Hid ((⟨S.toArray⟩ : ByteArray).data.toList = S) := by show S.toArray.toList = S; simp
    have HC : Hid (crc ⟨S.toArray⟩ = Cx.sum S) := rfl
    generalize (⟨S.toArray⟩ : ByteArray) = D at *
    have hB2 : Below B u u2 := hb2.mono HU.out
    have HU2 : Hid (B ≤ u2.heap.size) := Nat.le_trans HU.out hb2.size
    go_wp2_with fail
    refine (addNumber _ _ [] B _ (OwnB.nil _ _) HU2.out (by simp)).mono ?_
    rintro e u3 ⟨v3, rfl, ho3, hb3⟩
    have HU3 : Hid (B ≤ u3.heap.size) := Nat.le_trans HU2.out hb3.size
    have hB3 := hB2.trans hb3
    have hcs := csum D (by rw [hz]; unfold maxLen; omega)
    go_wp2_with (at_builtin; refine Lib.wpList_append_own_string _ rfl (.tmp 15) (.tmp 16) 38 9 rfl B 5 i0 Try.underlying38 Try.underlying9 hi0 hz0 hz1 hz2 _ _ _ (by rfl) ho3 _ (by rfl) (by rw [hz]; simp [Wx.four_len]; unfold maxLen; omega) (by rw [hz]; simp [Wx.four_len]; omega) HU3.out ?_; intro v4 u4 ho4 hg4 hn4)
    have hb4 : Below B u3 u4 := (Below.refl _ _).grown hg4 HU3.out (fun g hg => (ho3.lt g hg).1)
    have HU4 : Hid (B ≤ u4.heap.size) := Nat.le_trans HU3.out hb4.size
    have ho5 : OwnB u4 B v4 (Wx.four (Wx.un (44 + 4 * (xn : Int) + 4)) ++ S) := by
      unfold OwnB
      unfold Lib.strCells at ho4
      rw [hz, HD.out, List.nil_append, ← List.map_append] at ho4
      rw [List.length_append, HS0.out]
      exact ho4
    have HN5 : Hid ((Wx.four (Wx.un (44 + 4 * (xn : Int) + 4)) ++ S).length = 48 + 4 * xn) := by show _ = _; rw [List.length_append, HS0.out, Wx.four_len]; omega
    refine by_same (hcs _) ?_
    clear ho3 ho4 hg4 hn4
    go_wp2_with fail
    refine (addNumber _ _ _ B _ ho5 HU4.out (by rw [HN5.out]; omega)).mono ?_
    rintro e u6 ⟨v6, rfl, ho6, hb6⟩
    rw [HC.out, show (44 + 4 * (xn : Int) + 4) = ((44 + 4 * xn + 4 : Nat) : Int) by omega, ← HQ.out] at ho6
    have hback := ho6.back (by rw [HQ.out, List.length_append]; simp [Wx.four_len])
    have hend := hBel.trans (((hB3.trans hb4).trans hb6).mono HBW.out)
    go_wp2
    go_ret2
    exact ⟨rfl, hend⟩
  · rw [putS_no hp, putE_no hp]
    go_enter Try.func10, Try.ntmps10
    go_wp2_with fail
    refine (wright x0 x1 x2 x3 x4 x5 x6 x7 x8 x9 xa xn xc l _ (hr.keep (new_bel w _))).mono ?_
    rintro e u ⟨hs, hb⟩
    have hBel := (new_bel w _).trans (hb.mono (by rw [← HB.out]; exact HBW.out))
    rw [hs.not hp]
    go_wp2
    go_ret2
    exact ⟨rfl, hBel⟩

end Go.Proofs.Ytehelcbbcneihaa
