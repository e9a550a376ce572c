/- Add and Retire over whatever maps, and the fixed answer of layer 17's statements. -/
import Derived.Test.YtpiakfdapobflaaPlcC
import Derived.Test.YtpiakfdapobflaaPlcD
import Derived.Test.YtpiakfdapobflaaSm
import Derived.Test.YtpiakfdapobflaaSy
namespace Go.Proofs.Ytpiakfdapobflaa
open Go.ChangeShapes Go.WideShapes Go.ChangeAt Go.RowKit

theorem padd_any (e : Int) (a : Option Addr) (n c : Nat) (m : List (List Int)) (x y : Int) (w : World) (h : matS.rep w everywhere [.slice a n c] m) (hs : Pl.Short m) (E X : Int) (M : List (List Int)) (hA : Pl.Add e m x y E M X) :
    Calls Try.prog 11 #[.agg #[.int .i64 e, .slice a n c], .int .i64 x, .int .i64 y] w fun r w' => Below w.heap.size w w' ∧ ∃ a' c', r = .returned (.tuple #[.agg #[.int .i64 E, .slice a' n c'], .int .i64 X]) ∧ matS.rep w' everywhere [.slice a' n c'] M :=
  (padd (· < w.heap.size) e a n c m x y w (Shape.low h) (fun _ hb => hb) hs E X M hA).mono fun _ _ ⟨h1, a', c', h2, h3⟩ => ⟨h1, a', c', h2, Shape.any h3⟩
theorem pret_any (e : Int) (a : Option Addr) (n c : Nat) (m : List (List Int)) (x y : Int) (w : World) (h : matS.rep w everywhere [.slice a n c] m) (hs : Pl.Short m) (E X : Int) (M : List (List Int)) (hA : Pl.Ret e m x y E M X) :
    Calls Try.prog 12 #[.agg #[.int .i64 e, .slice a n c], .int .i64 x, .int .i64 y] w fun r w' => Below w.heap.size w w' ∧ ∃ a' c', r = .returned (.tuple #[.agg #[.int .i64 E, .slice a' n c'], .int .i64 X]) ∧ matS.rep w' everywhere [.slice a' n c'] M :=
  (pretire (· < w.heap.size) e a n c m x y w (Shape.low h) (fun _ hb => hb) hs E X M hA).mono fun _ _ ⟨h1, a', c', h2, h3⟩ => ⟨h1, a', c', h2, Shape.any h3⟩

theorem Pl.fine {e : Int} {m : List (List Int)} {x n : Int} (h1 : Pl.Right e m) (h2 : 0 ≤ x ∧ x < (m.length : Int)) (h3 : 1 ≤ n ∧ n ≤ 4) (h4 : e ≠ 2147483647) : ¬ Pl.Wrong e m x n := by
  rintro (h | h | h | h)
  · exact h h1
  · exact h h2
  · exact h h3
  · exact h4 h
theorem Pl.one_right {e : Int} {l : List Int} (he : 0 ≤ e ∧ e ≤ 2147483647) (hl : l ∈ Pl.rows) : Pl.Right e [l] := ⟨he, by simp, fun k hk => by rw [List.mem_singleton.1 hk]; exact Pl.rows_ok hl⟩
theorem Pl.one_short {l : List Int} (hl : l.length ≤ 1000) : Pl.Short [l] := ⟨by simp, fun k hk => by rw [List.mem_singleton.1 hk]; exact hl⟩
theorem Pl.small_short {m : List (List Int)} (h : Mx.Small m) : Pl.Short m := ⟨by have := h.1; omega, fun l hl => by have := h.2 l hl; omega⟩

theorem pawake (w : World) : Calls Try.prog 10 #[] w fun e w' => e = .returned (.bool true) ∧ Below w.heap.size w w' := by
  have h0 := mat_one w 1
  have hB := bel_two w (.cells #[.int .i64 1] 3) (.cells #[.slice (some ⟨w.heap.size, 0, none⟩) 1 1] 40)
  have HC1 : Hid (Calls _ _ _ _ _) := padd_any 0 _ 1 1 [[1]] 0 2 _ h0 (Pl.one_short (by simp)) 1 0 [[1, 2]] (.inr (.inr ⟨Pl.fine (Pl.one_right (by omega) (by decide)) (by simp) (by omega) (by omega), fun h => absurd h.2 (by decide), rfl, by decide, rfl⟩))
  clear h0
  go_enter Try.func10, Try.ntmps10
  go_wp2_with fail
  refine HC1.out.mono ?_
  rintro r u1 ⟨hb1, a1, c1, rfl, hr1⟩
  have hB1 := bel_then (bel_then hB hb1) (new_bel u1 (.cells #[.int .i64 1, .slice a1 1 c1] 24))
  have km := Box.new u1 24 #[.int .i64 1, .slice a1 1 c1]
  have m0 := km.cell 0 rfl
  have m1 := km.cell 1 rfl
  have HC2 : Hid (Calls _ _ _ _ _) := pret_any 1 a1 1 c1 [[1, 2]] 0 1 _ (Shape.below hr1 (new_bel u1 (.cells #[.int .i64 1, .slice a1 1 c1] 24))) (Pl.one_short (by simp)) 2 0 [[2]] (.inr (.inr (.inr ⟨Pl.fine (Pl.one_right (by omega) (by decide)) (by simp) (by omega) (by omega), ⟨by simp, by decide⟩, by decide, rfl, by decide, rfl⟩)))
  clear hB hb1 hr1 HC1
  go_wp2_with fail
  generalize u1.alloc (.cells #[.int .i64 1, .slice a1 1 c1] 24) = W1 at *
  refine HC2.out.mono ?_
  rintro r u2 ⟨hb2, a2, c2, rfl, hr2⟩
  have hbn := new_bel u2 (.cells #[.int .i64 2, .slice a2 1 c2] 24)
  have hB2 := bel_then (bel_then hB1 hb2) hbn
  have km2 := (km.keep hb2).keep hbn
  have kn := Box.new u2 24 #[.int .i64 2, .slice a2 1 c2]
  have HM2 : Hid (matS.rep _ _ _ _) := Shape.below hr2 hbn
  have n0 := kn.cell 0 rfl
  have n1 := kn.cell 1 rfl
  have HC3 : Hid (Calls _ _ _ _ _) := pret_any 2 a2 1 c2 [[2]] 0 2 _ HM2.out (Pl.one_short (by simp)) 2 7 [[2]] (.inr (.inr (.inl ⟨Pl.fine (Pl.one_right (by omega) (by decide)) (by simp) (by omega) (by omega), ⟨by simp, by decide⟩, by decide, rfl, rfl, rfl⟩)))
  clear m0 m1 km hB1 hb2 hr2 HC2
  go_wp2_with fail
  generalize u2.alloc (.cells #[.int .i64 2, .slice a2 1 c2] 24) = W2 at *
  refine HC3.out.mono ?_
  rintro r u3 ⟨hb3, a3, c3, rfl, hr3⟩
  have hbk := new_bel u3 (.cells #[.int .i64 2, .slice a3 1 c3] 24)
  have hB3 := bel_then (bel_then hB2 hb3) hbk
  have km3 := (km2.keep hb3).keep hbk
  have kn3 := (kn.keep hb3).keep hbk
  have HM3 : Hid (matS.rep _ _ _ _) := Shape.below (Shape.below HM2.out hb3) hbk
  have m0 := km3.cell 0 rfl
  have n2 := kn3.cell 0 rfl
  have n3 := kn3.cell 1 rfl
  have HZ : Hid (Ex.Sized [[2]]) := (Pl.one_short (l := [2]) (by simp)).sized
  clear n0 n1 km2 kn hB2 hb3 hr3 HC3
  have HH1 : Hid (Calls _ _ _ _ _) := pholds 2 a2 1 c2 [[2]] 0 2 true _ HM3.out HZ.out (tell_yes ⟨by simp, by decide⟩)
  go_wp2_with fail
  generalize u3.alloc (.cells #[.int .i64 2, .slice a3 1 c3] 24) = W3 at *
  refine HH1.out.mono ?_
  rintro r u4 ⟨rfl, hb4⟩
  have kn4 := kn3.keep hb4
  have n4 := kn4.cell 0 rfl
  have n5 := kn4.cell 1 rfl
  have HH2 : Hid (Calls _ _ _ _ _) := pholds 2 a2 1 c2 [[2]] 0 1 false u4 (Shape.below HM3.out hb4) HZ.out (tell_no fun h => absurd h.2 (by decide))
  clear n2 n3 HH1 m0
  go_wp2_with fail
  refine HH2.out.mono ?_
  rintro r u5 ⟨rfl, hb5⟩
  have kn5 := kn4.keep hb5
  have n6 := kn5.cell 0 rfl
  have n7 := kn5.cell 1 rfl
  have HH3 : Hid (Calls _ _ _ _ _) := pright_tell 2 a2 1 c2 [[2]] u5 (Shape.below (Shape.below HM3.out hb4) hb5) HZ.out true (tell_yes (Pl.one_right (by omega) (by decide)))
  clear n4 n5 HH2
  go_wp2_with fail
  refine HH3.out.mono ?_
  rintro r u6 ⟨rfl, hb6⟩
  go_wp2
  go_ret
  exact ⟨rfl, bel_then (bel_then (bel_then hB3 hb4) hb5) hb6⟩

end Go.Proofs.Ytpiakfdapobflaa
