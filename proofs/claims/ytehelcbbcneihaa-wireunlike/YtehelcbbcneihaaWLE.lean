/- The walk of WireUnlike. -/
import Derived.Test.YtehelcbbcneihaaWireZ
namespace Go.Proofs.Ytehelcbbcneihaa
open Go.ChangeShapes Go.WideShapes Go.ChangeAt Go.RowKit

theorem str_eq {S T : ByteArray} (h : S = T) : (S.toList == T.toList) = true := by rw [h]; simp
theorem str_ne {S T : ByteArray} (h : S ≠ T) : (S.toList == T.toList) = false := by
  rw [beq_eq_false_iff_ne]
  intro e
  apply h
  rw [ByteArray.toList_eq, ByteArray.toList_eq] at e
  apply ByteArray.ext
  exact Array.toList_inj.1 e

theorem law_unlike (x0 x1 x2 x3 x4 x5 x6 x7 x8 x9 : Int) (xa : Option Addr) (xn xc : Nat) (l : List Int) (y0 y1 y2 y3 y4 y5 y6 y7 y8 y9 : Int) (ya : Option Addr) (yn yc : Nat) (r : List Int) (w : World) (hx : rowS.rep w everywhere [.slice xa xn xc] l) (hy : rowS.rep w everywhere [.slice ya yn yc] r) :
    Calls Try.prog 7 #[.agg #[.int .i64 x0, .int .i64 x1, .int .i64 x2, .int .i64 x3, .int .i64 x4, .int .i64 x5, .int .i64 x6, .int .i64 x7, .int .i64 x8, .int .i64 x9, .slice xa xn xc], .agg #[.int .i64 y0, .int .i64 y1, .int .i64 y2, .int .i64 y3, .int .i64 y4, .int .i64 y5, .int .i64 y6, .int .i64 y7, .int .i64 y8, .int .i64 y9, .slice ya yn yc]] w fun e w' => e = .returned (.bool true) ∧ Below w.heap.size w w' := by
  have HX : Hid (l.length = xn) := (sliceS_len hx).1
  have HY : Hid (r.length = yn) := (sliceS_len hy).1
  have hB0 : Below w.heap.size w ((w.alloc (.cells #[.int .i64 x0, .int .i64 x1, .int .i64 x2, .int .i64 x3, .int .i64 x4, .int .i64 x5, .int .i64 x6, .int .i64 x7, .int .i64 x8, .int .i64 x9, .slice xa xn xc] 24)).alloc (.cells #[.int .i64 y0, .int .i64 y1, .int .i64 y2, .int .i64 y3, .int .i64 y4, .int .i64 y5, .int .i64 y6, .int .i64 y7, .int .i64 y8, .int .i64 y9, .slice ya yn yc] 24)) := bel_alloc (new_bel w _) _
  have hbx : Box ((w.alloc (.cells #[.int .i64 x0, .int .i64 x1, .int .i64 x2, .int .i64 x3, .int .i64 x4, .int .i64 x5, .int .i64 x6, .int .i64 x7, .int .i64 x8, .int .i64 x9, .slice xa xn xc] 24)).alloc (.cells #[.int .i64 y0, .int .i64 y1, .int .i64 y2, .int .i64 y3, .int .i64 y4, .int .i64 y5, .int .i64 y6, .int .i64 y7, .int .i64 y8, .int .i64 y9, .slice ya yn yc] 24)) w.heap.size 24 #[.int .i64 x0, .int .i64 x1, .int .i64 x2, .int .i64 x3, .int .i64 x4, .int .i64 x5, .int .i64 x6, .int .i64 x7, .int .i64 x8, .int .i64 x9, .slice xa xn xc] := (Box.new w _ _).keep (new_bel _ _)
  have hby : Box ((w.alloc (.cells #[.int .i64 x0, .int .i64 x1, .int .i64 x2, .int .i64 x3, .int .i64 x4, .int .i64 x5, .int .i64 x6, .int .i64 x7, .int .i64 x8, .int .i64 x9, .slice xa xn xc] 24)).alloc (.cells #[.int .i64 y0, .int .i64 y1, .int .i64 y2, .int .i64 y3, .int .i64 y4, .int .i64 y5, .int .i64 y6, .int .i64 y7, .int .i64 y8, .int .i64 y9, .slice ya yn yc] 24)) (w.heap.size + 1) 24 #[.int .i64 y0, .int .i64 y1, .int .i64 y2, .int .i64 y3, .int .i64 y4, .int .i64 y5, .int .i64 y6, .int .i64 y7, .int .i64 y8, .int .i64 y9, .slice ya yn yc] := by
    have := Box.new (w.alloc (.cells #[.int .i64 x0, .int .i64 x1, .int .i64 x2, .int .i64 x3, .int .i64 x4, .int .i64 x5, .int .i64 x6, .int .i64 x7, .int .i64 x8, .int .i64 x9, .slice xa xn xc] 24)) 24 #[.int .i64 y0, .int .i64 y1, .int .i64 y2, .int .i64 y3, .int .i64 y4, .int .i64 y5, .int .i64 y6, .int .i64 y7, .int .i64 y8, .int .i64 y9, .slice ya yn yc]
    rw [show (w.alloc (.cells #[.int .i64 x0, .int .i64 x1, .int .i64 x2, .int .i64 x3, .int .i64 x4, .int .i64 x5, .int .i64 x6, .int .i64 x7, .int .i64 x8, .int .i64 x9, .slice xa xn xc] 24)).heap.size = w.heap.size + 1 by simp] at this
    exact this
  have hx0 := Shape.below hx hB0
  have hy0 := Shape.below hy hB0
  by_cases hp : Wx.right ⟨x0, x1, x2, x3, x4, x5, x6, x7, x8, x9, l⟩
  · have HPX : Hid _ := wput_yes x0 x1 x2 x3 x4 x5 x6 x7 x8 x9 xa xn xc l hp
    by_cases hq : Wx.right ⟨y0, y1, y2, y3, y4, y5, y6, y7, y8, y9, r⟩
    · have HPY : Hid _ := wput_yes y0 y1 y2 y3 y4 y5 y6 y7 y8 y9 ya yn yc r hq
      have hn8 : xn ≤ 8 := by have h8 : l.length ≤ 8 := hp.2.2.2.1; have := HX.out; omega
      have hm8 : yn ≤ 8 := by have h8 : r.length ≤ 8 := hq.2.2.2.1; have := HY.out; omega
      have HIN : Hid ((⟨(Wx.put ⟨x0, x1, x2, x3, x4, x5, x6, x7, x8, x9, l⟩).toArray⟩ : ByteArray) = ⟨(Wx.put ⟨y0, y1, y2, y3, y4, y5, y6, y7, y8, y9, r⟩).toArray⟩ ↔ Alike ⟨x0, x1, x2, x3, x4, x5, x6, x7, x8, x9, l⟩ ⟨y0, y1, y2, y3, y4, y5, y6, y7, y8, y9, r⟩) := by
        show _ ↔ _
        constructor
        · intro h
          have h2 := congrArg (fun s : ByteArray => s.data.toList) h
          simp only at h2
          exact Wx.put_inj hp hq h2
        · intro h
          rw [show _ = _ from h]
      generalize (⟨(Wx.put ⟨x0, x1, x2, x3, x4, x5, x6, x7, x8, x9, l⟩).toArray⟩ : ByteArray) = S at *
      generalize (⟨(Wx.put ⟨y0, y1, y2, y3, y4, y5, y6, y7, y8, y9, r⟩).toArray⟩ : ByteArray) = R at *
      by_cases hst : S = R
      · have qs := str_eq hst
        have HST : Hid (S = R) := hst
        clear hst
        go_enter Try.func7, Try.ntmps7
        go_wp2_with fail
        refine (HPX.out _ (Row.of_rep hx0)).mono ?_
        rintro e u1 ⟨rfl, hb1⟩
        have hB1 := bel_then hB0 hb1
        have hbx1 := hbx.keep hb1
        have hby1 := hby.keep hb1
        have hx1 := Shape.below hx0 hb1
        have hy1 := Shape.below hy0 hb1
        have c0 := hby1.cell 0 rfl
        have c1 := hby1.cell 1 rfl
        have c2 := hby1.cell 2 rfl
        have c3 := hby1.cell 3 rfl
        have c4 := hby1.cell 4 rfl
        have c5 := hby1.cell 5 rfl
        have c6 := hby1.cell 6 rfl
        have c7 := hby1.cell 7 rfl
        have c8 := hby1.cell 8 rfl
        have c9 := hby1.cell 9 rfl
        have c10 := hby1.cell 10 rfl
        go_wp2_with fail
        refine (HPY.out _ (Row.of_rep hy1)).mono ?_
        rintro e u2 ⟨rfl, hb2⟩
        have hB2 := bel_then hB1 hb2
        have hbx2 := hbx1.keep hb2
        have hby2 := hby1.keep hb2
        have hx2 := Shape.below hx1 hb2
        have hy2 := Shape.below hy1 hb2
        have d0 := hbx2.cell 0 rfl
        have d1 := hbx2.cell 1 rfl
        have d2 := hbx2.cell 2 rfl
        have d3 := hbx2.cell 3 rfl
        have d4 := hbx2.cell 4 rfl
        have d5 := hbx2.cell 5 rfl
        have d6 := hbx2.cell 6 rfl
        have d7 := hbx2.cell 7 rfl
        have d8 := hbx2.cell 8 rfl
        have d9 := hbx2.cell 9 rfl
        have d10 := hbx2.cell 10 rfl
        have f0 := hby2.cell 0 rfl
        have f1 := hby2.cell 1 rfl
        have f2 := hby2.cell 2 rfl
        have f3 := hby2.cell 3 rfl
        have f4 := hby2.cell 4 rfl
        have f5 := hby2.cell 5 rfl
        have f6 := hby2.cell 6 rfl
        have f7 := hby2.cell 7 rfl
        have f8 := hby2.cell 8 rfl
        have f9 := hby2.cell 9 rfl
        have f10 := hby2.cell 10 rfl
        go_wp2_with fail
        refine (rsame x0 x1 x2 x3 x4 x5 x6 x7 x8 x9 xa xn xc l y0 y1 y2 y3 y4 y5 y6 y7 y8 y9 ya yn yc r _ hx2 hy2 (by omega) (by omega)).mono ?_
        rintro e u3 ⟨hs3, hb3⟩
        rw [hs3.is (HIN.out.1 HST.out)]
        have hB3 := bel_then hB2 hb3
        go_wp2_with fail
        refine (wawake _).mono ?_
        rintro e u5 ⟨rfl, hb5⟩
        go_wp2
        go_ret
        exact ⟨rfl, bel_then hB3 hb5⟩
      · have qs := str_ne hst
        have HST : Hid (¬ S = R) := hst
        clear hst
        go_enter Try.func7, Try.ntmps7
        go_wp2_with fail
        refine (HPX.out _ (Row.of_rep hx0)).mono ?_
        rintro e u1 ⟨rfl, hb1⟩
        have hB1 := bel_then hB0 hb1
        have hbx1 := hbx.keep hb1
        have hby1 := hby.keep hb1
        have hx1 := Shape.below hx0 hb1
        have hy1 := Shape.below hy0 hb1
        have c0 := hby1.cell 0 rfl
        have c1 := hby1.cell 1 rfl
        have c2 := hby1.cell 2 rfl
        have c3 := hby1.cell 3 rfl
        have c4 := hby1.cell 4 rfl
        have c5 := hby1.cell 5 rfl
        have c6 := hby1.cell 6 rfl
        have c7 := hby1.cell 7 rfl
        have c8 := hby1.cell 8 rfl
        have c9 := hby1.cell 9 rfl
        have c10 := hby1.cell 10 rfl
        go_wp2_with fail
        refine (HPY.out _ (Row.of_rep hy1)).mono ?_
        rintro e u2 ⟨rfl, hb2⟩
        have hB2 := bel_then hB1 hb2
        have hbx2 := hbx1.keep hb2
        have hby2 := hby1.keep hb2
        have hx2 := Shape.below hx1 hb2
        have hy2 := Shape.below hy1 hb2
        have d0 := hbx2.cell 0 rfl
        have d1 := hbx2.cell 1 rfl
        have d2 := hbx2.cell 2 rfl
        have d3 := hbx2.cell 3 rfl
        have d4 := hbx2.cell 4 rfl
        have d5 := hbx2.cell 5 rfl
        have d6 := hbx2.cell 6 rfl
        have d7 := hbx2.cell 7 rfl
        have d8 := hbx2.cell 8 rfl
        have d9 := hbx2.cell 9 rfl
        have d10 := hbx2.cell 10 rfl
        have f0 := hby2.cell 0 rfl
        have f1 := hby2.cell 1 rfl
        have f2 := hby2.cell 2 rfl
        have f3 := hby2.cell 3 rfl
        have f4 := hby2.cell 4 rfl
        have f5 := hby2.cell 5 rfl
        have f6 := hby2.cell 6 rfl
        have f7 := hby2.cell 7 rfl
        have f8 := hby2.cell 8 rfl
        have f9 := hby2.cell 9 rfl
        have f10 := hby2.cell 10 rfl
        go_wp2_with fail
        refine (rsame x0 x1 x2 x3 x4 x5 x6 x7 x8 x9 xa xn xc l y0 y1 y2 y3 y4 y5 y6 y7 y8 y9 ya yn yc r _ hx2 hy2 (by omega) (by omega)).mono ?_
        rintro e u3 ⟨hs3, hb3⟩
        rw [hs3.not (fun h => HST.out (HIN.out.2 h))]
        have hB3 := bel_then hB2 hb3
        go_wp2_with fail
        refine (wawake _).mono ?_
        rintro e u5 ⟨rfl, hb5⟩
        go_wp2
        go_ret
        exact ⟨rfl, bel_then hB3 hb5⟩
    · have HPY : Hid _ := wput_no y0 y1 y2 y3 y4 y5 y6 y7 y8 y9 ya yn yc r hq
      generalize (⟨(Wx.put ⟨x0, x1, x2, x3, x4, x5, x6, x7, x8, x9, l⟩).toArray⟩ : ByteArray) = S at *
      go_enter Try.func7, Try.ntmps7
      go_wp2_with fail
      refine (HPX.out _ (Row.of_rep hx0)).mono ?_
      rintro e u1 ⟨rfl, hb1⟩
      have hB1 := bel_then hB0 hb1
      have hby1 := hby.keep hb1
      have hy1 := Shape.below hy0 hb1
      have c0 := hby1.cell 0 rfl
      have c1 := hby1.cell 1 rfl
      have c2 := hby1.cell 2 rfl
      have c3 := hby1.cell 3 rfl
      have c4 := hby1.cell 4 rfl
      have c5 := hby1.cell 5 rfl
      have c6 := hby1.cell 6 rfl
      have c7 := hby1.cell 7 rfl
      have c8 := hby1.cell 8 rfl
      have c9 := hby1.cell 9 rfl
      have c10 := hby1.cell 10 rfl
      go_wp2_with fail
      refine (HPY.out _ (Row.of_rep hy1)).mono ?_
      rintro e u2 ⟨rfl, hb2⟩
      have hB2 := bel_then hB1 hb2
      go_wp2_with fail
      refine (wawake _).mono ?_
      rintro e u5 ⟨rfl, hb5⟩
      go_wp2
      go_ret
      exact ⟨rfl, bel_then hB2 hb5⟩
  · have HPX : Hid _ := wput_no x0 x1 x2 x3 x4 x5 x6 x7 x8 x9 xa xn xc l hp
    by_cases hq : Wx.right ⟨y0, y1, y2, y3, y4, y5, y6, y7, y8, y9, r⟩
    · have HPY : Hid _ := wput_yes y0 y1 y2 y3 y4 y5 y6 y7 y8 y9 ya yn yc r hq
      generalize (⟨(Wx.put ⟨y0, y1, y2, y3, y4, y5, y6, y7, y8, y9, r⟩).toArray⟩ : ByteArray) = R at *
      go_enter Try.func7, Try.ntmps7
      go_wp2_with fail
      refine (HPX.out _ (Row.of_rep hx0)).mono ?_
      rintro e u1 ⟨rfl, hb1⟩
      have hB1 := bel_then hB0 hb1
      have hby1 := hby.keep hb1
      have hy1 := Shape.below hy0 hb1
      have c0 := hby1.cell 0 rfl
      have c1 := hby1.cell 1 rfl
      have c2 := hby1.cell 2 rfl
      have c3 := hby1.cell 3 rfl
      have c4 := hby1.cell 4 rfl
      have c5 := hby1.cell 5 rfl
      have c6 := hby1.cell 6 rfl
      have c7 := hby1.cell 7 rfl
      have c8 := hby1.cell 8 rfl
      have c9 := hby1.cell 9 rfl
      have c10 := hby1.cell 10 rfl
      go_wp2_with fail
      refine (HPY.out _ (Row.of_rep hy1)).mono ?_
      rintro e u2 ⟨rfl, hb2⟩
      have hB2 := bel_then hB1 hb2
      go_wp2_with fail
      refine (wawake _).mono ?_
      rintro e u5 ⟨rfl, hb5⟩
      go_wp2
      go_ret
      exact ⟨rfl, bel_then hB2 hb5⟩
    · have HPY : Hid _ := wput_no y0 y1 y2 y3 y4 y5 y6 y7 y8 y9 ya yn yc r hq
      go_enter Try.func7, Try.ntmps7
      go_wp2_with fail
      refine (HPX.out _ (Row.of_rep hx0)).mono ?_
      rintro e u1 ⟨rfl, hb1⟩
      have hB1 := bel_then hB0 hb1
      have hby1 := hby.keep hb1
      have hy1 := Shape.below hy0 hb1
      have c0 := hby1.cell 0 rfl
      have c1 := hby1.cell 1 rfl
      have c2 := hby1.cell 2 rfl
      have c3 := hby1.cell 3 rfl
      have c4 := hby1.cell 4 rfl
      have c5 := hby1.cell 5 rfl
      have c6 := hby1.cell 6 rfl
      have c7 := hby1.cell 7 rfl
      have c8 := hby1.cell 8 rfl
      have c9 := hby1.cell 9 rfl
      have c10 := hby1.cell 10 rfl
      go_wp2_with fail
      refine (HPY.out _ (Row.of_rep hy1)).mono ?_
      rintro e u2 ⟨rfl, hb2⟩
      have hB2 := bel_then hB1 hb2
      go_wp2_with fail
      refine (wawake _).mono ?_
      rintro e u5 ⟨rfl, hb5⟩
      go_wp2
      go_ret
      exact ⟨rfl, bel_then hB2 hb5⟩

end Go.Proofs.Ytehelcbbcneihaa
