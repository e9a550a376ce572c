/- What the document's List, Right, four and Put of layer 7 do when called. -/
import Derived.Test.YtgffeefipeblhaaWireB
namespace Go.Proofs.Ytgffeefipeblhaa
open Go.ChangeShapes Go.WideShapes Go.ChangeAt Go.RowKit

set_option maxRecDepth 100000 in
theorem rlist (x0 x1 x2 x3 x4 x5 x6 x7 x8 x9 : Int) (xa : Option Addr) (xn xc : Nat) (l : List Int) (w : World) (hr : rowS.rep w everywhere [.slice xa xn xc] l) (hn : xn ≤ 50000) :
    Calls Try.prog 27 #[.agg #[.int .i64 x0, .int .i64 x1, .int .i64 x2, .int .i64 x3, .int .i64 x4, .int .i64 x5, .int .i64 x6, .int .i64 x7, .int .i64 x8, .int .i64 x9, .slice xa xn xc]] w fun e w' => Below w.heap.size w w' ∧ ∃ a c, e = .returned (.slice a (11 + xn) c) ∧ rowS.rep w' everywhere [.slice a (11 + xn) c] (Wx.listOf ⟨x0, x1, x2, x3, x4, x5, x6, x7, x8, x9, l⟩) := by
  obtain ⟨i0, hi0, hi1, hi2, hi3⟩ := info_parts Try.infoInt
  have HL : Hid (l.length = xn) := (sliceS_len hr).1
  have hA := Shape.low hr
  have HW : Hid (Wx.listOf ⟨x0, x1, x2, x3, x4, x5, x6, x7, x8, x9, l⟩ = [x0, x1, x2, x3, x4, x5, x6, x7, x8, x9, (xn : Int)] ++ l) := by show _ = _; rw [← HL.out]; rfl
  have hB1 : Below w.heap.size w ((w.alloc (.cells #[.int .i64 x0, .int .i64 x1, .int .i64 x2, .int .i64 x3, .int .i64 x4, .int .i64 x5, .int .i64 x6, .int .i64 x7, .int .i64 x8, .int .i64 x9, .slice xa xn xc] 31)).alloc (.cells #[.int .i64 x0, .int .i64 x1, .int .i64 x2, .int .i64 x3, .int .i64 x4, .int .i64 x5, .int .i64 x6, .int .i64 x7, .int .i64 x8, .int .i64 x9, .int .i64 (xn : Int)] 3)) := bel_alloc (new_bel w _) _
  have ho : Own (intS .i64) ((w.alloc (.cells #[.int .i64 x0, .int .i64 x1, .int .i64 x2, .int .i64 x3, .int .i64 x4, .int .i64 x5, .int .i64 x6, .int .i64 x7, .int .i64 x8, .int .i64 x9, .slice xa xn xc] 31)).alloc (.cells #[.int .i64 x0, .int .i64 x1, .int .i64 x2, .int .i64 x3, .int .i64 x4, .int .i64 x5, .int .i64 x6, .int .i64 x7, .int .i64 x8, .int .i64 x9, .int .i64 (xn : Int)] 3)) (w.heap.size + 1) 3 (.slice (some ⟨w.heap.size + 1, 0, none⟩) 11 11) [x0, x1, x2, x3, x4, x5, x6, x7, x8, x9, (xn : Int)] := by
    have := Own.lit (k := .i64) (w.alloc (.cells #[.int .i64 x0, .int .i64 x1, .int .i64 x2, .int .i64 x3, .int .i64 x4, .int .i64 x5, .int .i64 x6, .int .i64 x7, .int .i64 x8, .int .i64 x9, .slice xa xn xc] 31)) 3 [x0, x1, x2, x3, x4, x5, x6, x7, x8, x9, (xn : Int)] (base := w.heap.size + 1) (by simp) (by simp [maxLen])
    rw [show (w.alloc (.cells #[.int .i64 x0, .int .i64 x1, .int .i64 x2, .int .i64 x3, .int .i64 x4, .int .i64 x5, .int .i64 x6, .int .i64 x7, .int .i64 x8, .int .i64 x9, .slice xa xn xc] 31)).heap.size = w.heap.size + 1 by simp] at this
    exact this
  have hA1 := Shape.now hA hB1
  go_enter Try.func27, Try.ntmps27
  go_wp2_with (at_builtin; refine wpList_app (intS .i64) (by simp [Region.wanted]) (.tmp 28) (.tmp 30) 29 rfl (w.heap.size + 1) 3 i0 (.int .i64 0) 8 Try.underlying29 hi0 hi1 hi2 hi3 rfl Nat.one_pos (by omega) (by rfl) ho (by rfl) hA1 (Own.apart ho (Nat.le_succ _)) (by simp; omega) (by simp) ?_; intro a4 c4 u4 ho4 hg4 hb4 hat4)
  go_ret
  refine ⟨hB1.trans (hb4.mono (Nat.le_succ _)), a4, c4, rfl, ?_⟩
  rw [HW.out]
  exact ho4.is

end Go.Proofs.Ytgffeefipeblhaa
