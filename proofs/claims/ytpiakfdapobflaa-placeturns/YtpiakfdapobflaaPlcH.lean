/- The document's Turn by its two answers, maps that are the same, and Holds of several maps. -/
import Derived.Test.YtpiakfdapobflaaPlcF
import Derived.Test.YtpiakfdapobflaaPlcG
namespace Go.Proofs.Ytpiakfdapobflaa
open Go.ChangeShapes Go.WideShapes Go.ChangeAt Go.RowKit

theorem qadd (e : Int) (a : Option Addr) (n c : Nat) (m : List (List Int)) (x y : Int) (w : World) (h : matS.rep w everywhere [.slice a n c] m) (hs : Pl.Short m) (E X : Int) (M : List (List Int)) (hA : Pl.Add e m x y E M X) :
    Calls Try.prog 13 #[.agg #[.int .i64 e, .slice a n c], .int .i64 x, .int .i64 y, .bool true] w fun r w' => Below w.heap.size w w' ∧ ∃ a' c', r = .returned (.tuple #[.agg #[.int .i64 E, .slice a' n c'], .int .i64 X]) ∧ matS.rep w' everywhere [.slice a' n c'] M := by
  rcases hA with ⟨hw, rfl, rfl, rfl⟩ | ⟨hw, hh, rfl, rfl, rfl⟩ | ⟨hw, hh, rfl, rfl, rfl⟩
  · exact (qturn_wrong e a n c m x y true w h hs hw).mono fun _ _ ⟨hb, hr⟩ => ⟨hb, a, c, hr, Shape.below h hb⟩
  · exact (qturn_there e a n c m x y true w h hs hw rfl hh).mono fun _ _ ⟨hb, hr⟩ => ⟨hb, a, c, hr, Shape.below h hb⟩
  · exact qturn_ok e a n c m x y true w h hs hw (.inl ⟨rfl, hh⟩)
theorem qret (e : Int) (a : Option Addr) (n c : Nat) (m : List (List Int)) (x y : Int) (w : World) (h : matS.rep w everywhere [.slice a n c] m) (hs : Pl.Short m) (E X : Int) (M : List (List Int)) (hA : Pl.Ret e m x y E M X) :
    Calls Try.prog 13 #[.agg #[.int .i64 e, .slice a n c], .int .i64 x, .int .i64 y, .bool false] w fun r w' => Below w.heap.size w w' ∧ ∃ a' c', r = .returned (.tuple #[.agg #[.int .i64 E, .slice a' n c'], .int .i64 X]) ∧ matS.rep w' everywhere [.slice a' n c'] M := by
  rcases hA with ⟨hw, rfl, rfl, rfl⟩ | ⟨hw, hh, rfl, rfl, rfl⟩ | ⟨hw, hh, h1, rfl, rfl, rfl⟩ | ⟨hw, hh, h1, rfl, rfl, rfl⟩
  · exact (qturn_wrong e a n c m x y false w h hs hw).mono fun _ _ ⟨hb, hr⟩ => ⟨hb, a, c, hr, Shape.below h hb⟩
  · exact (qturn_none e a n c m x y false w h hs hw rfl hh).mono fun _ _ ⟨hb, hr⟩ => ⟨hb, a, c, hr, Shape.below h hb⟩
  · exact (qturn_last e a n c m x y false w h hs hw rfl hh h1).mono fun _ _ ⟨hb, hr⟩ => ⟨hb, a, c, hr, Shape.below h hb⟩
  · exact qturn_ok e a n c m x y false w h hs hw (.inr ⟨rfl, hh, h1⟩)

theorem psame (e : Int) (a : Option Addr) (n c : Nat) (m : List (List Int)) (b : Option Addr) (d : Nat) (w : World) (h1 : matS.rep w everywhere [.slice a n c] m) (h2 : matS.rep w everywhere [.slice b n d] m) (hz : Ex.Sized m) :
    Calls Try.prog 14 #[.agg #[.int .i64 e, .slice a n c], .agg #[.int .i64 e, .slice b n d]] w fun r w' => r = .returned (.bool true) ∧ Below w.heap.size w w' := by
  have hB := bel_two w (.cells #[.int .i64 e, .slice a n c] 24) (.cells #[.int .i64 e, .slice b n d] 27)
  have kp := (Box.new w 24 #[.int .i64 e, .slice a n c]).keep (new_bel _ (.cells #[.int .i64 e, .slice b n d] 27))
  have kr := Box.new (w.alloc (.cells #[.int .i64 e, .slice a n c] 24)) 27 #[.int .i64 e, .slice b n d]
  have e1 : (w.alloc (.cells #[.int .i64 e, .slice a n c] 24)).heap.size = w.heap.size + 1 := by simp
  rw [e1] at kr
  have HC : Hid (Calls _ _ _ _ _) := msays a b n n c d m m _ (Shape.below h1 hB) (Shape.below h2 hB) hz hz
  have c0 := kp.cell 0 rfl
  have c1 := kp.cell 1 rfl
  have d0 := kr.cell 0 rfl
  have d1 := kr.cell 1 rfl
  have ee : (e == e) = true := by simp
  clear h1 h2 hz e1
  go_enter Try.func14, Try.ntmps14
  go_wp2_with fail
  refine HC.out.mono ?_
  rintro r u1 ⟨hs1, hb1⟩
  rw [hs1.is (by trivial)]
  go_wp2
  go_ret
  exact ⟨rfl, bel_then hB hb1⟩

end Go.Proofs.Ytpiakfdapobflaa
