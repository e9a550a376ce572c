/- What Put of package wire and what it calls do when called: a message's bytes. -/
import Derived.Test.YtgffeefipeblhaaWireA
import Derived.Lib.AppendStr
namespace Go.Proofs.Ytgffeefipeblhaa
open Go.ChangeShapes Go.WideShapes Go.ChangeAt Go.RowKit

/-- What Put answers. -/
def putS (m : Wx.Msg) : ByteArray := if Wx.right m then ⟨(Wx.put m).toArray⟩ else ⟨#[]⟩
def putE (m : Wx.Msg) : Int := if Wx.right m then 0 else 1
theorem putS_yes {m : Wx.Msg} (h : Wx.right m) : putS m = ⟨(Wx.put m).toArray⟩ := if_pos h
theorem putS_no {m : Wx.Msg} (h : ¬ Wx.right m) : putS m = ⟨#[]⟩ := if_neg h
theorem putE_yes {m : Wx.Msg} (h : Wx.right m) : putE m = 0 := if_pos h
theorem putE_no {m : Wx.Msg} (h : ¬ Wx.right m) : putE m = 1 := if_neg h

end Go.Proofs.Ytgffeefipeblhaa
