/- What Take of package wire and what it calls do when called: bytes, as a message. -/
import Derived.Test.YtgffeefipeblhaaWireA
import Derived.Test.YtgffeefipeblhaaJa
import Derived.Lib.SmallJoins
import Derived.Laws.ResultCell
import Derived.Laws.Rows
namespace Go.Proofs.Ytgffeefipeblhaa
open Go.ChangeShapes Go.WideShapes Go.ChangeAt Go.RowKit

theorem Box.all11 {u : World} {b : Nat} {t : TypeId} {p0 p1 p2 p3 p4 p5 p6 p7 p8 p9 p10 : Value} (h : Box u b t #[p0, p1, p2, p3, p4, p5, p6, p7, p8, p9, p10]) (v0 v1 v2 v3 v4 v5 v6 v7 v8 v9 v10 : Value) : Box (((((((((((u.setCell ⟨b, 0, none⟩ v0).setCell ⟨b, 1, none⟩ v1).setCell ⟨b, 2, none⟩ v2).setCell ⟨b, 3, none⟩ v3).setCell ⟨b, 4, none⟩ v4).setCell ⟨b, 5, none⟩ v5).setCell ⟨b, 6, none⟩ v6).setCell ⟨b, 7, none⟩ v7).setCell ⟨b, 8, none⟩ v8).setCell ⟨b, 9, none⟩ v9).setCell ⟨b, 10, none⟩ v10) b t #[v0, v1, v2, v3, v4, v5, v6, v7, v8, v9, v10] := by
  have := ((((((((((h.set 0 v0).set 1 v1).set 2 v2).set 3 v3).set 4 v4).set 5 v5).set 6 v6).set 7 v7).set 8 v8).set 9 v9).set 10 v10
  simp only [List.setIfInBounds_toArray, List.set_cons_zero, List.set_cons_succ] at this
  exact this
theorem bel_all11 {B : Nat} {a u : World} (h : Below B a u) {b : Nat} (hb : B ≤ b) (v0 v1 v2 v3 v4 v5 v6 v7 v8 v9 v10 : Value) : Below B a (((((((((((u.setCell ⟨b, 0, none⟩ v0).setCell ⟨b, 1, none⟩ v1).setCell ⟨b, 2, none⟩ v2).setCell ⟨b, 3, none⟩ v3).setCell ⟨b, 4, none⟩ v4).setCell ⟨b, 5, none⟩ v5).setCell ⟨b, 6, none⟩ v6).setCell ⟨b, 7, none⟩ v7).setCell ⟨b, 8, none⟩ v8).setCell ⟨b, 9, none⟩ v9).setCell ⟨b, 10, none⟩ v10) := bel_put (bel_put (bel_put (bel_put (bel_put (bel_put (bel_put (bel_put (bel_put (bel_put (bel_put h hb v0) hb v1) hb v2) hb v3) hb v4) hb v5) hb v6) hb v7) hb v8) hb v9) hb v10

theorem grown_all11 (u : World) (b : Nat) (v0 v1 v2 v3 v4 v5 v6 v7 v8 v9 v10 : Value) : u.grownBy (((((((((((u.setCell ⟨b, 0, none⟩ v0).setCell ⟨b, 1, none⟩ v1).setCell ⟨b, 2, none⟩ v2).setCell ⟨b, 3, none⟩ v3).setCell ⟨b, 4, none⟩ v4).setCell ⟨b, 5, none⟩ v5).setCell ⟨b, 6, none⟩ v6).setCell ⟨b, 7, none⟩ v7).setCell ⟨b, 8, none⟩ v8).setCell ⟨b, 9, none⟩ v9).setCell ⟨b, 10, none⟩ v10) (some b) := grown_then (grown_then (grown_then (grown_then (grown_then (grown_then (grown_then (grown_then (grown_then (grown_then (grown_then (grown_refl u (some b)) (grown_set _ b 0 v0)) (grown_set _ b 1 v1)) (grown_set _ b 2 v2)) (grown_set _ b 3 v3)) (grown_set _ b 4 v4)) (grown_set _ b 5 v5)) (grown_set _ b 6 v6)) (grown_set _ b 7 v7)) (grown_set _ b 8 v8)) (grown_set _ b 9 v9)) (grown_set _ b 10 v10)
theorem Box.set10 {u : World} {b : Nat} {t : TypeId} {p0 p1 p2 p3 p4 p5 p6 p7 p8 p9 p10 : Value} (h : Box u b t #[p0, p1, p2, p3, p4, p5, p6, p7, p8, p9, p10]) (v : Value) : Box (u.setCell ⟨b, 10, none⟩ v) b t #[p0, p1, p2, p3, p4, p5, p6, p7, p8, p9, v] := by
  have := h.set 10 v
  simp only [List.setIfInBounds_toArray, List.set_cons_zero, List.set_cons_succ] at this
  exact this

theorem Try.infoMsg : (Try.prog.info? 31).map (·.size) = some 11 := by kernel_rfl
/-- A function whose results are a message and one more, the message in a variable. -/
theorem ret_box {fn : Func} {R : Ending → World → Prop} {a : Act} {u : World} {b : Nat} {cs : Array Value} {p q : Tmp} {v2 : Value} (hres : fn.results = #[.cell p 31, .tmp q]) (hd : a.defers = [])
    (hp : a.tmps.getD p undef = .pointer (some ⟨b, 0, none⟩)) (hq : a.tmps.getD q undef = v2) (hB : Box u b 31 cs) (hsz : cs.size = 11) (hR : R (.returned (.tuple #[.agg cs, v2])) u) : bodyPost Try.prog fn R .ret a u := by
  have hld := run_loadVar_row (P := Try.prog) u b 31 31 cs (0, 0) _ hB Try.underlying31 rfl (by rw [Try.infoMsg, hsz])
  refine bodyPost_ret (v := .tuple #[.agg cs, v2]) ?_ hd hR
  rw [results_cell_tmp hres, hp, hq]
  simp [asAddr, Result.andThen, hld]

/-- The numbers ahead of Vec, as they are read. -/
def head10 (s : List UInt8) : List Int := (List.range 10).map fun i => (Wx.at4 s (4 * i) : Int)
def bvec (s : List UInt8) : List Int := (List.range (Wx.at4 s 40)).map fun i => Wx.sg (Wx.at4 s (44 + 4 * i))
def Counts (s : List UInt8) : Prop := Wx.at4 s 40 ≤ 8 ∧ s.length = 44 + 4 * Wx.at4 s 40
theorem head10_len (s : List UInt8) : (head10 s).length = 10 := by simp [head10]
theorem head10_at (s : List UInt8) {k : Nat} (h : k < 10) : (head10 s).getD k 0 = (Wx.at4 s (4 * k) : Int) := by
  rw [List.getD_eq_getElem?_getD]; simp [head10, h]
theorem bvec_len (s : List UInt8) : (bvec s).length = Wx.at4 s 40 := by simp [bvec]
theorem bvec_at (s : List UInt8) {k : Nat} (h : k < Wx.at4 s 40) : (bvec s).getD k 0 = Wx.sg (Wx.at4 s (44 + 4 * k)) := by
  rw [List.getD_eq_getElem?_getD]; simp [bvec, h]

theorem ten_of {l : List Int} (h : l.length = 10) : ∃ y0 y1 y2 y3 y4 y5 y6 y7 y8 y9, l = [y0, y1, y2, y3, y4, y5, y6, y7, y8, y9] := by
  match l, h with
  | [y0, y1, y2, y3, y4, y5, y6, y7, y8, y9], _ => exact ⟨y0, y1, y2, y3, y4, y5, y6, y7, y8, y9, rfl⟩

end Go.Proofs.Ytgffeefipeblhaa
