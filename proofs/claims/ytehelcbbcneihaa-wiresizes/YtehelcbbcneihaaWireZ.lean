/- What the laws of layer 7 take besides (no walk). -/
import Derived.Test.YtehelcbbcneihaaWireF
import Derived.Test.YtehelcbbcneihaaWireG
import Derived.Test.YtehelcbbcneihaaWireH
namespace Go.Proofs.Ytehelcbbcneihaa
open Go.ChangeShapes Go.WideShapes Go.ChangeAt Go.RowKit

theorem wput_no (x0 x1 x2 x3 x4 x5 x6 x7 x8 x9 : Int) (xa : Option Addr) (xn xc : Nat) (l : List Int) (hp : ¬ Wx.right ⟨x0, x1, x2, x3, x4, x5, x6, x7, x8, x9, l⟩) (w : World) (hr : Row .i64 w xa xn l) :
    Calls Try.prog 10 #[.agg #[.int .i64 x0, .int .i64 x1, .int .i64 x2, .int .i64 x3, .int .i64 x4, .int .i64 x5, .int .i64 x6, .int .i64 x7, .int .i64 x8, .int .i64 x9, .slice xa xn xc]] w fun e w' => e = .returned (.tuple #[.string ⟨#[]⟩, .int .i64 1]) ∧ Below w.heap.size w w' := by
  have := wput x0 x1 x2 x3 x4 x5 x6 x7 x8 x9 xa xn xc l w hr
  rw [putS_no hp, putE_no hp] at this
  exact this
theorem wput_yes (x0 x1 x2 x3 x4 x5 x6 x7 x8 x9 : Int) (xa : Option Addr) (xn xc : Nat) (l : List Int) (hp : Wx.right ⟨x0, x1, x2, x3, x4, x5, x6, x7, x8, x9, l⟩) (w : World) (hr : Row .i64 w xa xn l) :
    Calls Try.prog 10 #[.agg #[.int .i64 x0, .int .i64 x1, .int .i64 x2, .int .i64 x3, .int .i64 x4, .int .i64 x5, .int .i64 x6, .int .i64 x7, .int .i64 x8, .int .i64 x9, .slice xa xn xc]] w fun e w' => e = .returned (.tuple #[.string ⟨(Wx.put ⟨x0, x1, x2, x3, x4, x5, x6, x7, x8, x9, l⟩).toArray⟩, .int .i64 0]) ∧ Below w.heap.size w w' := by
  have := wput x0 x1 x2 x3 x4 x5 x6 x7 x8 x9 xa xn xc l w hr
  rw [putS_yes hp, putE_yes hp] at this
  exact this
/-- What is taken, by its letters. -/
theorem take_letters (s : List UInt8) : ∃ y0 y1 y2 y3 y4 y5 y6 y7 y8 y9 l er, Wx.take s = (⟨y0, y1, y2, y3, y4, y5, y6, y7, y8, y9, l⟩, er) := by
  obtain ⟨⟨y0, y1, y2, y3, y4, y5, y6, y7, y8, y9, l⟩, er⟩ := Wx.take s
  exact ⟨y0, y1, y2, y3, y4, y5, y6, y7, y8, y9, l, er, rfl⟩
theorem take_small {s : List UInt8} {m : Wx.Msg} {er : Int} (h : Wx.take s = (m, er)) : m.vec.length ≤ 8 := by
  by_cases h0 : (Wx.take s).2 = 0
  · have := (Wx.put_take h0).1.2.2.2.1
    rw [h] at this
    exact this
  · have := Wx.take_err h0
    rw [h] at this
    rw [show m = Wx.zero from this]
    decide
theorem bytes_eta (s : ByteArray) : (⟨s.data.toList.toArray⟩ : ByteArray) = s := by cases s; simp

end Go.Proofs.Ytehelcbbcneihaa
