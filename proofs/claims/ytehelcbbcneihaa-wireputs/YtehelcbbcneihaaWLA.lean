/- The walk of WirePuts. -/
import Derived.Test.YtehelcbbcneihaaWireZ
namespace Go.Proofs.Ytehelcbbcneihaa
open Go.ChangeShapes Go.WideShapes Go.ChangeAt Go.RowKit

theorem law_puts (x0 x1 x2 x3 x4 x5 x6 x7 x8 x9 : Int) (xa : Option Addr) (xn xc : Nat) (l : List Int) (w : World) (hr : rowS.rep w everywhere [.slice xa xn xc] l) :
    Calls Try.prog 3 #[.agg #[.int .i64 x0, .int .i64 x1, .int .i64 x2, .int .i64 x3, .int .i64 x4, .int .i64 x5, .int .i64 x6, .int .i64 x7, .int .i64 x8, .int .i64 x9, .slice xa xn xc]] w fun e w' => e = .returned (.bool true) ∧ Below w.heap.size w w' := by
  have HL : Hid (l.length = xn) := (sliceS_len hr).1
  by_cases h100 : 100 < xn
  · have q : (100 : Int) < (xn : Int) := by omega
    go_enter Try.func3, Try.ntmps3
    go_wp2_with fail
    refine (wawake _).mono ?_
    rintro e u1 ⟨rfl, hb1⟩
    go_wp2
    go_ret
    exact ⟨rfl, bel_then (new_bel w _) hb1⟩
  have q : ¬ (100 : Int) < (xn : Int) := by omega
  by_cases hp : Wx.right ⟨x0, x1, x2, x3, x4, x5, x6, x7, x8, x9, l⟩
  · have HP : Hid (Wx.right ⟨x0, x1, x2, x3, x4, x5, x6, x7, x8, x9, l⟩) := hp
    have HPU : Hid _ := wput_yes x0 x1 x2 x3 x4 x5 x6 x7 x8 x9 xa xn xc l hp
    have HRP : Hid _ := fun W h => rput x0 x1 x2 x3 x4 x5 x6 x7 x8 x9 xa xn xc l W h hp
    have HT : Hid (Wx.take (⟨(Wx.put ⟨x0, x1, x2, x3, x4, x5, x6, x7, x8, x9, l⟩).toArray⟩ : ByteArray).data.toList = (⟨x0, x1, x2, x3, x4, x5, x6, x7, x8, x9, l⟩, 0)) := by show _ = _; rw [put_list]; exact Wx.take_put hp
    have hz : (⟨(Wx.put ⟨x0, x1, x2, x3, x4, x5, x6, x7, x8, x9, l⟩).toArray⟩ : ByteArray).size = 52 + 4 * xn := by rw [put_size, ← HL.out]
    generalize (⟨(Wx.put ⟨x0, x1, x2, x3, x4, x5, x6, x7, x8, x9, l⟩).toArray⟩ : ByteArray) = S at *
    have hsm : S.size ≤ maxLen := by rw [hz]; unfold maxLen; omega
    go_enter Try.func3, Try.ntmps3
    go_wp2_with fail
    refine (HPU.out _ (Row.of_rep (Shape.below hr (new_bel w _)))).mono ?_
    rintro e u1 ⟨rfl, hb1⟩
    have hB1 := bel_then (new_bel w _) hb1
    have hbox1 := (Box.new w 24 #[.int .i64 x0, .int .i64 x1, .int .i64 x2, .int .i64 x3, .int .i64 x4, .int .i64 x5, .int .i64 x6, .int .i64 x7, .int .i64 x8, .int .i64 x9, .slice xa xn xc]).keep hb1
    have hr1 := Shape.below hr hB1
    have c0 := hbox1.cell 0 rfl
    have c1 := hbox1.cell 1 rfl
    have c2 := hbox1.cell 2 rfl
    have c3 := hbox1.cell 3 rfl
    have c4 := hbox1.cell 4 rfl
    have c5 := hbox1.cell 5 rfl
    have c6 := hbox1.cell 6 rfl
    have c7 := hbox1.cell 7 rfl
    have c8 := hbox1.cell 8 rfl
    have c9 := hbox1.cell 9 rfl
    have c10 := hbox1.cell 10 rfl
    go_wp2_with fail
    refine (rright x0 x1 x2 x3 x4 x5 x6 x7 x8 x9 xa xn xc l _ hr1 (by omega)).mono ?_
    rintro e u2 ⟨hs2, hb2⟩
    rw [hs2.is hp]
    have hB2 := bel_then hB1 hb2
    have hbox2 := hbox1.keep hb2
    have hr2 := Shape.below hr1 hb2
    have d0 := hbox2.cell 0 rfl
    have d1 := hbox2.cell 1 rfl
    have d2 := hbox2.cell 2 rfl
    have d3 := hbox2.cell 3 rfl
    have d4 := hbox2.cell 4 rfl
    have d5 := hbox2.cell 5 rfl
    have d6 := hbox2.cell 6 rfl
    have d7 := hbox2.cell 7 rfl
    have d8 := hbox2.cell 8 rfl
    have d9 := hbox2.cell 9 rfl
    have d10 := hbox2.cell 10 rfl
    clear hs2 hb2 hbox1 hr1 hb1 hB1
    go_wp2_with fail
    refine (wright x0 x1 x2 x3 x4 x5 x6 x7 x8 x9 xa xn xc l _ (Row.of_rep hr2)).mono ?_
    rintro e u3 ⟨hs3, hb3⟩
    rw [hs3.is hp]
    have hB3 := bel_then hB2 hb3
    have hbox3 := hbox2.keep hb3
    have hr3 := Shape.below hr2 hb3
    clear hs3 hb3 hbox2 hr2 hB2
    go_wp2_with fail
    refine (wtake S hsm x0 x1 x2 x3 x4 x5 x6 x7 x8 x9 l 0 HT.out _).mono ?_
    rintro e u4 ⟨hb4, ya, yn, yc, rfl, hrep4⟩
    have hB4 := bel_then hB3 hb4
    have hbox4 := (hbox3.keep hb4).keep (new_bel u4 (.cells #[.int .i64 x0, .int .i64 x1, .int .i64 x2, .int .i64 x3, .int .i64 x4, .int .i64 x5, .int .i64 x6, .int .i64 x7, .int .i64 x8, .int .i64 x9, .slice ya yn yc] 24))
    have hr4 := Shape.below hr3 hb4
    have hyn : yn ≤ 50000 := by have := (sliceS_len hrep4).1; have := HL.out; omega
    have f0 := hbox4.cell 0 rfl
    have f1 := hbox4.cell 1 rfl
    have f2 := hbox4.cell 2 rfl
    have f3 := hbox4.cell 3 rfl
    have f4 := hbox4.cell 4 rfl
    have f5 := hbox4.cell 5 rfl
    have f6 := hbox4.cell 6 rfl
    have f7 := hbox4.cell 7 rfl
    have f8 := hbox4.cell 8 rfl
    have f9 := hbox4.cell 9 rfl
    have f10 := hbox4.cell 10 rfl
    clear hb4 hbox3 hr3 hB3
    go_wp2_with fail
    refine (HRP.out _ (Shape.below hr4 (new_bel u4 _))).mono ?_
    rintro e u5 ⟨rfl, hb5⟩
    have hB5 := bel_then (bel_alloc hB4 _) hb5
    have hbox5 := hbox4.keep hb5
    have hboy5 := (Box.new u4 24 #[.int .i64 x0, .int .i64 x1, .int .i64 x2, .int .i64 x3, .int .i64 x4, .int .i64 x5, .int .i64 x6, .int .i64 x7, .int .i64 x8, .int .i64 x9, .slice ya yn yc]).keep hb5
    have hr5 := Shape.below (Shape.below hr4 (new_bel u4 _)) hb5
    have hy5 := Shape.below (Shape.below hrep4 (new_bel u4 _)) hb5
    have g0 := hbox5.cell 0 rfl
    have g1 := hbox5.cell 1 rfl
    have g2 := hbox5.cell 2 rfl
    have g3 := hbox5.cell 3 rfl
    have g4 := hbox5.cell 4 rfl
    have g5 := hbox5.cell 5 rfl
    have g6 := hbox5.cell 6 rfl
    have g7 := hbox5.cell 7 rfl
    have g8 := hbox5.cell 8 rfl
    have g9 := hbox5.cell 9 rfl
    have g10 := hbox5.cell 10 rfl
    have h0 := hboy5.cell 0 rfl
    have h1 := hboy5.cell 1 rfl
    have h2 := hboy5.cell 2 rfl
    have h3 := hboy5.cell 3 rfl
    have h4 := hboy5.cell 4 rfl
    have h5 := hboy5.cell 5 rfl
    have h6 := hboy5.cell 6 rfl
    have h7 := hboy5.cell 7 rfl
    have h8 := hboy5.cell 8 rfl
    have h9 := hboy5.cell 9 rfl
    have h10 := hboy5.cell 10 rfl
    clear hb5 hbox4 hr4 hB4 hrep4
    go_wp2_with fail
    refine (rsame x0 x1 x2 x3 x4 x5 x6 x7 x8 x9 ya yn yc l x0 x1 x2 x3 x4 x5 x6 x7 x8 x9 xa xn xc l _ hy5 hr5 hyn (by omega)).mono ?_
    rintro e u6 ⟨hs6, hb6⟩
    rw [hs6.is rfl]
    have hB6 := bel_then hB5 hb6
    go_wp2_with fail
    refine (wawake _).mono ?_
    rintro e u7 ⟨rfl, hb7⟩
    go_wp2
    go_ret
    exact ⟨rfl, bel_then hB6 hb7⟩
  · have HPU : Hid _ := wput_no x0 x1 x2 x3 x4 x5 x6 x7 x8 x9 xa xn xc l hp
    go_enter Try.func3, Try.ntmps3
    go_wp2_with fail
    refine (HPU.out _ (Row.of_rep (Shape.below hr (new_bel w _)))).mono ?_
    rintro e u1 ⟨rfl, hb1⟩
    have hB1 := bel_then (new_bel w _) hb1
    have hbox1 := (Box.new w 24 #[.int .i64 x0, .int .i64 x1, .int .i64 x2, .int .i64 x3, .int .i64 x4, .int .i64 x5, .int .i64 x6, .int .i64 x7, .int .i64 x8, .int .i64 x9, .slice xa xn xc]).keep hb1
    have hr1 := Shape.below hr hB1
    have c0 := hbox1.cell 0 rfl
    have c1 := hbox1.cell 1 rfl
    have c2 := hbox1.cell 2 rfl
    have c3 := hbox1.cell 3 rfl
    have c4 := hbox1.cell 4 rfl
    have c5 := hbox1.cell 5 rfl
    have c6 := hbox1.cell 6 rfl
    have c7 := hbox1.cell 7 rfl
    have c8 := hbox1.cell 8 rfl
    have c9 := hbox1.cell 9 rfl
    have c10 := hbox1.cell 10 rfl
    go_wp2_with fail
    refine (rright x0 x1 x2 x3 x4 x5 x6 x7 x8 x9 xa xn xc l _ hr1 (by omega)).mono ?_
    rintro e u2 ⟨hs2, hb2⟩
    rw [hs2.not hp]
    have hB2 := bel_then hB1 hb2
    have hbox2 := hbox1.keep hb2
    have hr2 := Shape.below hr1 hb2
    have d0 := hbox2.cell 0 rfl
    have d1 := hbox2.cell 1 rfl
    have d2 := hbox2.cell 2 rfl
    have d3 := hbox2.cell 3 rfl
    have d4 := hbox2.cell 4 rfl
    have d5 := hbox2.cell 5 rfl
    have d6 := hbox2.cell 6 rfl
    have d7 := hbox2.cell 7 rfl
    have d8 := hbox2.cell 8 rfl
    have d9 := hbox2.cell 9 rfl
    have d10 := hbox2.cell 10 rfl
    clear hs2 hb2 hbox1 hr1 hb1 hB1
    go_wp2_with fail
    refine (wright x0 x1 x2 x3 x4 x5 x6 x7 x8 x9 xa xn xc l _ (Row.of_rep hr2)).mono ?_
    rintro e u3 ⟨hs3, hb3⟩
    rw [hs3.not hp]
    have hB3 := bel_then hB2 hb3
    go_wp2_with fail
    refine (wawake _).mono ?_
    rintro e u4 ⟨rfl, hb4⟩
    go_wp2
    go_ret
    exact ⟨rfl, bel_then hB3 hb4⟩

end Go.Proofs.Ytehelcbbcneihaa
