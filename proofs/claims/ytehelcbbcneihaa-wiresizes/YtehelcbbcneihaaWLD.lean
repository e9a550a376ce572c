/- The walk of WireSizes. -/
import Derived.Test.YtehelcbbcneihaaWireZ
import Derived.Test.YtehelcbbcneihaaWLC
namespace Go.Proofs.Ytehelcbbcneihaa
open Go.ChangeShapes Go.WideShapes Go.ChangeAt Go.RowKit

theorem str_none {S : ByteArray} (h : S.size = 0) : (S.toList == ([] : List UInt8)) = true := by
  have : S.toList.length = 0 := by rw [ByteArray.toList_eq, Array.length_toList]; exact h
  rw [List.eq_nil_of_length_eq_zero this]; rfl
/-- A string's beginning. -/
theorem cut_to (s : ByteArray) {j : Nat} (h : j ≤ s.size) : ∃ D : ByteArray, (∀ w : World, (Instr.slice 9 (.string s) none (some (.int .i64 (j : Int))) none).run Try.prog w = .ok (.string D) w) ∧ D.data.toList = s.data.toList.take j ∧ D.size = j := by
  refine ⟨s.extract 0 j, fun w => ?_, ?_, ?_⟩
  · have hj : 0 ≤ (j : Int) ∧ (j : Int) ≤ (s.size : Int) := ⟨by omega, by omega⟩
    simp [Instr.slice, Instr.sliceBounds, Instr.sliceBound, asIntOf, run_underlying Try.underlying9, hj]
    intro hc
    omega
  · have e : s = ByteArray.mk s.data.toList.toArray := by cases s; simp
    conv => lhs; rw [e, ByteArray.extract_mk]
    show (List.take (j - 0) (List.drop 0 s.data.toList)).toArray.toList = _
    rw [List.toList_toArray, Nat.sub_zero, List.drop_zero]
  · rw [ByteArray.size_extract]; omega

theorem law_sizes (x0 x1 x2 x3 x4 x5 x6 x7 x8 x9 : Int) (xa : Option Addr) (xn xc : Nat) (l : List Int) (a1 : Int) (a2 : ByteArray) (w : World) (hr : rowS.rep w everywhere [.slice xa xn xc] l) (b1 : 0 ≤ a1 ∧ a1 ≤ 65535) :
    Calls Try.prog 6 #[.agg #[.int .i64 x0, .int .i64 x1, .int .i64 x2, .int .i64 x3, .int .i64 x4, .int .i64 x5, .int .i64 x6, .int .i64 x7, .int .i64 x8, .int .i64 x9, .slice xa xn xc], .int .u16 a1, .string a2] w fun e w' => e = .returned (.bool true) ∧ Below w.heap.size w w' := by
  have HL : Hid (l.length = xn) := (sliceS_len hr).1
  by_cases hp : Wx.right ⟨x0, x1, x2, x3, x4, x5, x6, x7, x8, x9, l⟩
  · have HP : Hid (Wx.right ⟨x0, x1, x2, x3, x4, x5, x6, x7, x8, x9, l⟩) := hp
    have hn8 : xn ≤ 8 := by have h8 : l.length ≤ 8 := hp.2.2.2.1; have := HL.out; omega
    have HPU : Hid _ := wput_yes x0 x1 x2 x3 x4 x5 x6 x7 x8 x9 xa xn xc l hp
    have hz : (⟨(Wx.put ⟨x0, x1, x2, x3, x4, x5, x6, x7, x8, x9, l⟩).toArray⟩ : ByteArray).size = 52 + 4 * xn := by rw [put_size, ← HL.out]
    have HSL : Hid ((⟨(Wx.put ⟨x0, x1, x2, x3, x4, x5, x6, x7, x8, x9, l⟩).toArray⟩ : ByteArray).data.toList = Wx.put ⟨x0, x1, x2, x3, x4, x5, x6, x7, x8, x9, l⟩) := put_list
    generalize (⟨(Wx.put ⟨x0, x1, x2, x3, x4, x5, x6, x7, x8, x9, l⟩).toArray⟩ : ByteArray) = S at *
    have hlen : S.data.toList.length = S.size := by rw [Array.length_toList]; rfl
    have HZ : Hid (S.size = 52 + 4 * xn) := hz
    have hz1 : 52 ≤ S.size := by omega
    have hz2 : S.size ≤ 84 := by omega
    have q0 : (((S.size : Nat) : Int) == 52 + 4 * (xn : Int)) = true := by rw [beq_iff_eq]; omega
    clear hz
    have hse := str_some (S := S) (by omega)
    by_cases h20 : 20 < a2.size
    · have q20 : (20 : Int) < (a2.size : Int) := by omega
      go_enter Try.func6, Try.ntmps6
      go_wp2_with fail
      refine (HPU.out _ (Row.of_rep (Shape.below hr (new_bel w _)))).mono ?_
      rintro e u1 ⟨rfl, hb1⟩
      have hB1 := bel_then (new_bel w _) hb1
      go_wp2_with fail
      refine (wawake _).mono ?_
      rintro e u5 ⟨rfl, hb5⟩
      go_wp2
      go_ret
      exact ⟨rfl, bel_then hB1 hb5⟩
    have q20 : ¬ (20 : Int) < (a2.size : Int) := by omega
    obtain ⟨j, hj, ej⟩ : ∃ j : Nat, j < S.size ∧ a1.tmod (S.size : Int) = (j : Int) := by
      refine ⟨(a1.tmod (S.size : Int)).toNat, ?_, ?_⟩
      · have := Int.tmod_lt_of_pos a1 (b := (S.size : Int)) (by omega)
        omega
      · have := Int.tmod_nonneg (a := a1) (S.size : Int) (by omega)
        omega
    have hnz : ((S.size : Int) == 0) = false := by rw [beq_eq_false_iff_ne]; omega
    obtain ⟨D, hD, hDl, hDs⟩ := cut_to S (j := j) (by omega)
    have HT1 : Hid (Wx.take D.data.toList = (⟨0, 0, 0, 0, 0, 0, 0, 0, 0, 0, []⟩, 2)) := by show _ = _; rw [hDl, HSL.out]; exact Wx.take_cut hp (by rw [← HSL.out, hlen]; exact hj)
    have hDm : D.size ≤ maxLen := by rw [hDs]; unfold maxLen; omega
    clear hDl hDs
    have hcat : ¬ (9223372036854775807 < S.size + a2.size) := by omega
    have hEl : (S ++ a2).data.toList = Wx.put ⟨x0, x1, x2, x3, x4, x5, x6, x7, x8, x9, l⟩ ++ a2.data.toList := by rw [ByteArray.data_append, Array.toList_append, HSL.out]
    have hEm : (S ++ a2).size ≤ maxLen := by rw [ByteArray.size_append]; unfold maxLen; omega
    by_cases h0 : a2.size = 0
    · have hs2 := str_none h0
      have HT2 : Hid (Wx.take (S ++ a2).data.toList = (⟨x0, x1, x2, x3, x4, x5, x6, x7, x8, x9, l⟩, 0)) := by
        show _ = _
        rw [hEl, show a2.data.toList = [] from List.eq_nil_of_length_eq_zero (by rw [Array.length_toList]; exact h0), List.append_nil]
        exact Wx.take_put hp
      clear h0 hEl hlen
      have HC : Hid (∀ w, Calls Try.prog 13 #[.string (S ++ a2)] w fun e w' => Below w.heap.size w w' ∧ ∃ ya yn yc, e = .returned (.tuple #[.agg #[.int .i64 x0, .int .i64 x1, .int .i64 x2, .int .i64 x3, .int .i64 x4, .int .i64 x5, .int .i64 x6, .int .i64 x7, .int .i64 x8, .int .i64 x9, .slice ya yn yc], .int .i64 0]) ∧ rowS.rep w' everywhere [.slice ya yn yc] l) := wtake (S ++ a2) hEm x0 x1 x2 x3 x4 x5 x6 x7 x8 x9 l 0 HT2.out
      go_enter Try.func6, Try.ntmps6
      go_wp2_with fail
      refine (HPU.out _ (Row.of_rep (Shape.below hr (new_bel w _)))).mono ?_
      rintro e u1 ⟨rfl, hb1⟩
      have hB1 := bel_then (new_bel w _) hb1
      have hbox1 := (Box.new w 24 #[.int .i64 x0, .int .i64 x1, .int .i64 x2, .int .i64 x3, .int .i64 x4, .int .i64 x5, .int .i64 x6, .int .i64 x7, .int .i64 x8, .int .i64 x9, .slice xa xn xc]).keep hb1
      go_wp2_with fail
      refine (wtake D hDm 0 0 0 0 0 0 0 0 0 0 [] 2 HT1.out _).mono ?_
      rintro e u2 ⟨hb2, za, zn, zc, rfl, hr2⟩
      have hB2 := bel_then hB1 hb2
      have hbox2 := hbox1.keep hb2
      go_wp2_with fail
      refine (HC.out _).mono ?_
      rintro e u3 ⟨hb3, ya, yn, yc, rfl, hr3⟩
      have hB3 := bel_then (bel_alloc hB2 _) hb3
      have hbox3 := ((hbox2.keep (new_bel u2 _)).keep hb3).keep (new_bel u3 (.cells #[.int .i64 x0, .int .i64 x1, .int .i64 x2, .int .i64 x3, .int .i64 x4, .int .i64 x5, .int .i64 x6, .int .i64 x7, .int .i64 x8, .int .i64 x9, .slice ya yn yc] 24))
      have hc := hbox3.cell 10 rfl
      go_wp2_with fail
      refine (wawake _).mono ?_
      rintro e u5 ⟨rfl, hb5⟩
      go_wp2
      go_ret
      exact ⟨rfl, bel_then (bel_alloc hB3 _) hb5⟩
    · have hs2 := str_some h0
      have HT2 : Hid (Wx.take (S ++ a2).data.toList = (⟨0, 0, 0, 0, 0, 0, 0, 0, 0, 0, []⟩, 2)) := by
        show _ = _
        rw [hEl]
        exact Wx.take_more hp (fun e => h0 (by have := congrArg List.length e; rw [Array.length_toList] at this; exact this))
      clear h0 hEl hlen
      have HC : Hid _ := wtake (S ++ a2) hEm 0 0 0 0 0 0 0 0 0 0 [] 2 HT2.out
      go_enter Try.func6, Try.ntmps6
      go_wp2_with fail
      refine (HPU.out _ (Row.of_rep (Shape.below hr (new_bel w _)))).mono ?_
      rintro e u1 ⟨rfl, hb1⟩
      have hB1 := bel_then (new_bel w _) hb1
      have hbox1 := (Box.new w 24 #[.int .i64 x0, .int .i64 x1, .int .i64 x2, .int .i64 x3, .int .i64 x4, .int .i64 x5, .int .i64 x6, .int .i64 x7, .int .i64 x8, .int .i64 x9, .slice xa xn xc]).keep hb1
      go_wp2_with fail
      refine (wtake D hDm 0 0 0 0 0 0 0 0 0 0 [] 2 HT1.out _).mono ?_
      rintro e u2 ⟨hb2, za, zn, zc, rfl, hr2⟩
      have hB2 := bel_then hB1 hb2
      have hbox2 := hbox1.keep hb2
      go_wp2_with fail
      refine (HC.out _).mono ?_
      rintro e u3 ⟨hb3, ya, yn, yc, rfl, hr3⟩
      have hB3 := bel_then (bel_alloc hB2 _) hb3
      have hbox3 := ((hbox2.keep (new_bel u2 _)).keep hb3).keep (new_bel u3 (.cells #[.int .i64 0, .int .i64 0, .int .i64 0, .int .i64 0, .int .i64 0, .int .i64 0, .int .i64 0, .int .i64 0, .int .i64 0, .int .i64 0, .slice ya yn yc] 24))
      have hc := hbox3.cell 10 rfl
      go_wp2_with fail
      refine (wawake _).mono ?_
      rintro e u5 ⟨rfl, hb5⟩
      go_wp2
      go_ret
      exact ⟨rfl, bel_then (bel_alloc hB3 _) hb5⟩
  · have HPU : Hid _ := wput_no x0 x1 x2 x3 x4 x5 x6 x7 x8 x9 xa xn xc l hp
    go_enter Try.func6, Try.ntmps6
    go_wp2_with fail
    refine (HPU.out _ (Row.of_rep (Shape.below hr (new_bel w _)))).mono ?_
    rintro e u1 ⟨rfl, hb1⟩
    have hB1 := bel_then (new_bel w _) hb1
    go_wp2_with fail
    refine (wawake _).mono ?_
    rintro e u5 ⟨rfl, hb5⟩
    go_wp2
    go_ret
    exact ⟨rfl, bel_then hB1 hb5⟩

end Go.Proofs.Ytehelcbbcneihaa
