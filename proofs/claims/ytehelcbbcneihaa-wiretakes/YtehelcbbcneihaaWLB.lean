/- The walk of WireTakes. -/
import Derived.Test.YtehelcbbcneihaaWireZ
namespace Go.Proofs.Ytehelcbbcneihaa
open Go.ChangeShapes Go.WideShapes Go.ChangeAt Go.RowKit

theorem law_takes (s : ByteArray) (w : World) (hs : s.size ≤ maxLen) :
    Calls Try.prog 4 #[.string s] w fun e w' => e = .returned (.bool true) ∧ Below w.heap.size w w' := by
  by_cases h200 : 200 < s.size
  · have q : (200 : Int) < (s.size : Int) := by omega
    go_enter Try.func4, Try.ntmps4
    go_wp2_with fail
    refine (wawake _).mono ?_
    rintro e u1 ⟨rfl, hb1⟩
    go_wp2
    go_ret
    exact ⟨rfl, hb1⟩
  have q : ¬ (200 : Int) < (s.size : Int) := by omega
  obtain ⟨y0, y1, y2, y3, y4, y5, y6, y7, y8, y9, l, er, ht⟩ := take_letters s.data.toList
  have HT : Hid (Wx.take s.data.toList = (⟨y0, y1, y2, y3, y4, y5, y6, y7, y8, y9, l⟩, er)) := ht
  have HV : Hid (l.length ≤ 8) := take_small ht
  by_cases her : er = 0
  · subst her
    obtain ⟨hp, hpt⟩ := Wx.put_take (s := s.data.toList) (by rw [ht])
    rw [ht] at hp hpt
    have HPU : Hid (∀ ya yn yc (w : World), Row .i64 w ya yn l → Calls Try.prog 10 #[.agg #[.int .i64 y0, .int .i64 y1, .int .i64 y2, .int .i64 y3, .int .i64 y4, .int .i64 y5, .int .i64 y6, .int .i64 y7, .int .i64 y8, .int .i64 y9, .slice ya yn yc]] w fun e w' => e = .returned (.tuple #[.string s, .int .i64 0]) ∧ Below w.heap.size w w') := by
      intro ya yn yc w h
      have := wput_yes y0 y1 y2 y3 y4 y5 y6 y7 y8 y9 ya yn yc l hp w h
      rw [show Wx.put ⟨y0, y1, y2, y3, y4, y5, y6, y7, y8, y9, l⟩ = s.data.toList from hpt, bytes_eta] at this
      exact this
    clear hp hpt ht
    go_enter Try.func4, Try.ntmps4
    go_wp2_with fail
    refine (wtake s hs y0 y1 y2 y3 y4 y5 y6 y7 y8 y9 l 0 HT.out _).mono ?_
    rintro e u1 ⟨hb1, ya, yn, yc, rfl, hr1⟩
    have hyn : yn ≤ 50000 := by have := (sliceS_len hr1).1; have := HV.out; omega
    have hbox1 := Box.new u1 24 #[.int .i64 y0, .int .i64 y1, .int .i64 y2, .int .i64 y3, .int .i64 y4, .int .i64 y5, .int .i64 y6, .int .i64 y7, .int .i64 y8, .int .i64 y9, .slice ya yn yc]
    have hr1a := Shape.below hr1 (new_bel u1 (.cells #[.int .i64 y0, .int .i64 y1, .int .i64 y2, .int .i64 y3, .int .i64 y4, .int .i64 y5, .int .i64 y6, .int .i64 y7, .int .i64 y8, .int .i64 y9, .slice ya yn yc] 24))
    have hB1 := bel_alloc hb1 (.cells #[.int .i64 y0, .int .i64 y1, .int .i64 y2, .int .i64 y3, .int .i64 y4, .int .i64 y5, .int .i64 y6, .int .i64 y7, .int .i64 y8, .int .i64 y9, .slice ya yn yc] 24)
    go_wp2_with fail
    refine (rtake s (by omega) y0 y1 y2 y3 y4 y5 y6 y7 y8 y9 l 0 HT.out _).mono ?_
    rintro e u2 ⟨hb2, za, zn, zc, rfl, hr2⟩
    have hzn : zn ≤ 50000 := by have := (sliceS_len hr2).1; have := HV.out; omega
    have hB2 := bel_then hB1 hb2
    have hbox2 := (hbox1.keep hb2).keep (new_bel u2 (.cells #[.int .i64 y0, .int .i64 y1, .int .i64 y2, .int .i64 y3, .int .i64 y4, .int .i64 y5, .int .i64 y6, .int .i64 y7, .int .i64 y8, .int .i64 y9, .slice za zn zc] 24))
    have hboz2 := Box.new u2 24 #[.int .i64 y0, .int .i64 y1, .int .i64 y2, .int .i64 y3, .int .i64 y4, .int .i64 y5, .int .i64 y6, .int .i64 y7, .int .i64 y8, .int .i64 y9, .slice za zn zc]
    have hr2a := Shape.below hr2 (new_bel u2 (.cells #[.int .i64 y0, .int .i64 y1, .int .i64 y2, .int .i64 y3, .int .i64 y4, .int .i64 y5, .int .i64 y6, .int .i64 y7, .int .i64 y8, .int .i64 y9, .slice za zn zc] 24))
    have hr1b := Shape.below (Shape.below hr1a hb2) (new_bel u2 (.cells #[.int .i64 y0, .int .i64 y1, .int .i64 y2, .int .i64 y3, .int .i64 y4, .int .i64 y5, .int .i64 y6, .int .i64 y7, .int .i64 y8, .int .i64 y9, .slice za zn zc] 24))
    have hB2a := bel_alloc hB2 (.cells #[.int .i64 y0, .int .i64 y1, .int .i64 y2, .int .i64 y3, .int .i64 y4, .int .i64 y5, .int .i64 y6, .int .i64 y7, .int .i64 y8, .int .i64 y9, .slice za zn zc] 24)
    have c0 := hbox2.cell 0 rfl
    have c1 := hbox2.cell 1 rfl
    have c2 := hbox2.cell 2 rfl
    have c3 := hbox2.cell 3 rfl
    have c4 := hbox2.cell 4 rfl
    have c5 := hbox2.cell 5 rfl
    have c6 := hbox2.cell 6 rfl
    have c7 := hbox2.cell 7 rfl
    have c8 := hbox2.cell 8 rfl
    have c9 := hbox2.cell 9 rfl
    have c10 := hbox2.cell 10 rfl
    clear hbox1 hr1a hr1 hr2 hB2 hb2 hb1 hB1
    go_wp2_with fail
    refine (rsame y0 y1 y2 y3 y4 y5 y6 y7 y8 y9 ya yn yc l y0 y1 y2 y3 y4 y5 y6 y7 y8 y9 za zn zc l _ hr1b hr2a hyn hzn).mono ?_
    rintro e u3 ⟨hs3, hb3⟩
    rw [hs3.is rfl]
    have hB3 := bel_then hB2a hb3
    have hbox3 := hbox2.keep hb3
    have hr3 := Shape.below hr1b hb3
    have d0 := hbox3.cell 0 rfl
    have d1 := hbox3.cell 1 rfl
    have d2 := hbox3.cell 2 rfl
    have d3 := hbox3.cell 3 rfl
    have d4 := hbox3.cell 4 rfl
    have d5 := hbox3.cell 5 rfl
    have d6 := hbox3.cell 6 rfl
    have d7 := hbox3.cell 7 rfl
    have d8 := hbox3.cell 8 rfl
    have d9 := hbox3.cell 9 rfl
    have d10 := hbox3.cell 10 rfl
    clear hs3 hbox2 hr1b hr2a hB2a hboz2 hb3
    go_wp2_with fail
    refine (HPU.out ya yn yc _ (Row.of_rep hr3)).mono ?_
    rintro e u4 ⟨rfl, hb4⟩
    have hB4 := bel_then hB3 hb4
    go_wp2_with fail
    refine (wawake _).mono ?_
    rintro e u5 ⟨rfl, hb5⟩
    go_wp2
    go_ret
    exact ⟨rfl, bel_then hB4 hb5⟩
  · have q1 : (er != 0) = true := by rw [bne_iff_ne]; exact her
    have q2 : (er != er) = false := by simp
    have HPU : Hid _ := fun ya yn yc (w : World) h => wput y0 y1 y2 y3 y4 y5 y6 y7 y8 y9 ya yn yc l w h
    generalize putS ⟨y0, y1, y2, y3, y4, y5, y6, y7, y8, y9, l⟩ = T at *
    generalize putE ⟨y0, y1, y2, y3, y4, y5, y6, y7, y8, y9, l⟩ = g at *
    clear ht
    go_enter Try.func4, Try.ntmps4
    go_wp2_with fail
    refine (wtake s hs y0 y1 y2 y3 y4 y5 y6 y7 y8 y9 l er HT.out _).mono ?_
    rintro e u1 ⟨hb1, ya, yn, yc, rfl, hr1⟩
    have hyn : yn ≤ 50000 := by have := (sliceS_len hr1).1; have := HV.out; omega
    have hbox1 := Box.new u1 24 #[.int .i64 y0, .int .i64 y1, .int .i64 y2, .int .i64 y3, .int .i64 y4, .int .i64 y5, .int .i64 y6, .int .i64 y7, .int .i64 y8, .int .i64 y9, .slice ya yn yc]
    have hr1a := Shape.below hr1 (new_bel u1 (.cells #[.int .i64 y0, .int .i64 y1, .int .i64 y2, .int .i64 y3, .int .i64 y4, .int .i64 y5, .int .i64 y6, .int .i64 y7, .int .i64 y8, .int .i64 y9, .slice ya yn yc] 24))
    have hB1 := bel_alloc hb1 (.cells #[.int .i64 y0, .int .i64 y1, .int .i64 y2, .int .i64 y3, .int .i64 y4, .int .i64 y5, .int .i64 y6, .int .i64 y7, .int .i64 y8, .int .i64 y9, .slice ya yn yc] 24)
    go_wp2_with fail
    refine (rtake s (by omega) y0 y1 y2 y3 y4 y5 y6 y7 y8 y9 l er HT.out _).mono ?_
    rintro e u2 ⟨hb2, za, zn, zc, rfl, hr2⟩
    have hzn : zn ≤ 50000 := by have := (sliceS_len hr2).1; have := HV.out; omega
    have hB2 := bel_then hB1 hb2
    have hbox2 := (hbox1.keep hb2).keep (new_bel u2 (.cells #[.int .i64 y0, .int .i64 y1, .int .i64 y2, .int .i64 y3, .int .i64 y4, .int .i64 y5, .int .i64 y6, .int .i64 y7, .int .i64 y8, .int .i64 y9, .slice za zn zc] 24))
    have hboz2 := Box.new u2 24 #[.int .i64 y0, .int .i64 y1, .int .i64 y2, .int .i64 y3, .int .i64 y4, .int .i64 y5, .int .i64 y6, .int .i64 y7, .int .i64 y8, .int .i64 y9, .slice za zn zc]
    have hr2a := Shape.below hr2 (new_bel u2 (.cells #[.int .i64 y0, .int .i64 y1, .int .i64 y2, .int .i64 y3, .int .i64 y4, .int .i64 y5, .int .i64 y6, .int .i64 y7, .int .i64 y8, .int .i64 y9, .slice za zn zc] 24))
    have hr1b := Shape.below (Shape.below hr1a hb2) (new_bel u2 (.cells #[.int .i64 y0, .int .i64 y1, .int .i64 y2, .int .i64 y3, .int .i64 y4, .int .i64 y5, .int .i64 y6, .int .i64 y7, .int .i64 y8, .int .i64 y9, .slice za zn zc] 24))
    have hB2a := bel_alloc hB2 (.cells #[.int .i64 y0, .int .i64 y1, .int .i64 y2, .int .i64 y3, .int .i64 y4, .int .i64 y5, .int .i64 y6, .int .i64 y7, .int .i64 y8, .int .i64 y9, .slice za zn zc] 24)
    have c0 := hbox2.cell 0 rfl
    have c1 := hbox2.cell 1 rfl
    have c2 := hbox2.cell 2 rfl
    have c3 := hbox2.cell 3 rfl
    have c4 := hbox2.cell 4 rfl
    have c5 := hbox2.cell 5 rfl
    have c6 := hbox2.cell 6 rfl
    have c7 := hbox2.cell 7 rfl
    have c8 := hbox2.cell 8 rfl
    have c9 := hbox2.cell 9 rfl
    have c10 := hbox2.cell 10 rfl
    clear hbox1 hr1a hr1 hr2 hB2 hb2 hb1 hB1
    go_wp2_with fail
    refine (rsame y0 y1 y2 y3 y4 y5 y6 y7 y8 y9 ya yn yc l y0 y1 y2 y3 y4 y5 y6 y7 y8 y9 za zn zc l _ hr1b hr2a hyn hzn).mono ?_
    rintro e u3 ⟨hs3, hb3⟩
    rw [hs3.is rfl]
    have hB3 := bel_then hB2a hb3
    have hbox3 := hbox2.keep hb3
    have hr3 := Shape.below hr1b hb3
    have d0 := hbox3.cell 0 rfl
    have d1 := hbox3.cell 1 rfl
    have d2 := hbox3.cell 2 rfl
    have d3 := hbox3.cell 3 rfl
    have d4 := hbox3.cell 4 rfl
    have d5 := hbox3.cell 5 rfl
    have d6 := hbox3.cell 6 rfl
    have d7 := hbox3.cell 7 rfl
    have d8 := hbox3.cell 8 rfl
    have d9 := hbox3.cell 9 rfl
    have d10 := hbox3.cell 10 rfl
    clear hs3 hbox2 hr1b hr2a hB2a hboz2 hb3
    go_wp2_with fail
    refine (HPU.out ya yn yc _ (Row.of_rep hr3)).mono ?_
    rintro e u4 ⟨rfl, hb4⟩
    have hB4 := bel_then hB3 hb4
    go_wp2_with fail
    refine (wawake _).mono ?_
    rintro e u5 ⟨rfl, hb5⟩
    go_wp2
    go_ret
    exact ⟨rfl, bel_then hB4 hb5⟩

end Go.Proofs.Ytehelcbbcneihaa
