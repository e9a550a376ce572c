/- The fixed answer of layer 15's statements. -/
import Derived.Test.YtmechoeoaadfeaaMdlF
namespace Go.Proofs.Ytmechoeoaadfeaa
open Go.ChangeShapes Go.WideShapes Go.ChangeAt Go.RowKit

namespace Md
def lyA : Ly := ([[65536]], [([[65536]], [[65536]], ())], 1, ())
theorem oneRight : Mx.Right [[65536]] 1 1 := ⟨rfl, fun l hl => by rw [List.mem_singleton.1 hl]; exact ⟨rfl, fun n hn => by rw [List.mem_singleton.1 hn]; rfl⟩⟩
theorem lyA_right : LRight lyA 1 := ⟨by decide, by decide, oneRight, by decide, by decide, fun x hx => by rw [List.mem_singleton.1 hx]; exact ⟨by decide, by decide, oneRight, oneRight⟩⟩
theorem modA_right : Right 1 [lyA] := ⟨by decide, by decide, by decide, by decide, fun l hl => by rw [List.mem_singleton.1 hl]; exact lyA_right⟩
theorem tokA_right : TRight 1 [[7]] := ⟨by decide, by decide, rfl, fun l hl => by rw [List.mem_singleton.1 hl]; exact ⟨rfl, fun n hn => by rw [List.mem_singleton.1 hn]; rfl⟩⟩
theorem modA_is : forward [lyA] [[7]] = [[14]] := by decide +kernel
theorem none_right {dim : Int} : ¬ Right dim [] := fun h => by have := h.2.2.1; simp at this
end Md

/-- A model of one layer with one expert, which literals lay. -/
theorem laid_model {w : World} {A : Nat} {m : List (List Int)} (h : matS.rep w everywhere [.slice (some ⟨A, 0, none⟩) 1 1] m) (cap : Int) :
    lysS.rep ((w.alloc (.cells #[.slice (some ⟨A, 0, none⟩) 1 1, .slice (some ⟨A, 0, none⟩) 1 1] 46)).alloc (.cells #[.slice (some ⟨A, 0, none⟩) 1 1, .slice (some ⟨w.heap.size, 0, none⟩) 1 1, .int .i64 cap] 37)) everywhere [.slice (some ⟨w.heap.size + 1, 0, none⟩) 1 1] [(m, [(m, m, ())], cap, ())] := by
  have h1 := rep_lit [[.slice (some ⟨A, 0, none⟩) 1 1, .slice (some ⟨A, 0, none⟩) 1 1]] [((m, m, ()) : Xp)] 46 (Shape.all_one (xp_rep h h)) (by simp [maxLen])
  have h2 := Shape.below h (new_bel w (.cells #[.slice (some ⟨A, 0, none⟩) 1 1, .slice (some ⟨A, 0, none⟩) 1 1] 46))
  have hs : (w.alloc (.cells #[.slice (some ⟨A, 0, none⟩) 1 1, .slice (some ⟨A, 0, none⟩) 1 1] 46)).heap.size = w.heap.size + 1 := by simp
  have h1' : xpsS.rep (w.alloc (.cells #[.slice (some ⟨A, 0, none⟩) 1 1, .slice (some ⟨A, 0, none⟩) 1 1] 46)) everywhere [.slice (some ⟨w.heap.size, 0, none⟩) 1 1] [(m, m, ())] := h1
  generalize (w.alloc (.cells #[.slice (some ⟨A, 0, none⟩) 1 1, .slice (some ⟨A, 0, none⟩) 1 1] 46)) = W at *
  have h3 := rep_lit [[.slice (some ⟨A, 0, none⟩) 1 1, .slice (some ⟨w.heap.size, 0, none⟩) 1 1, .int .i64 cap]] [((m, [(m, m, ())], cap, ()) : Ly)] 37 (Shape.all_one (ly_rep cap h2 h1')) (by simp [maxLen])
  rw [hs] at h3
  exact h3

set_option maxHeartbeats 1000000 in
theorem mawake (w : World) : Calls Try.prog 11 #[] w fun e w' => e = .returned (.bool true) ∧ Below w.heap.size w w' := by
  have hm := mat_one w 65536
  have hB := bel_two w (.cells #[.int .i64 65536] 3) (.cells #[.slice (some ⟨w.heap.size, 0, none⟩) 1 1] 47)
  have HAR := hid Md.modA_right
  have HTR := hid Md.tokA_right
  have HFW := hid Md.modA_is
  go_enter Try.func11, Try.ntmps11
  go_upto_region 2 with fail
  generalize ((w.alloc (.cells #[.int .i64 65536] 3)).alloc (.cells #[.slice (some ⟨w.heap.size, 0, none⟩) 1 1] 47)) = W at *
  have hl := laid_model hm 1
  have hBl := bel_two W (.cells #[.slice (some ⟨w.heap.size + 1, 0, none⟩) 1 1, .slice (some ⟨w.heap.size + 1, 0, none⟩) 1 1] 46) (.cells #[.slice (some ⟨w.heap.size + 1, 0, none⟩) 1 1, .slice (some ⟨W.heap.size, 0, none⟩) 1 1, .int .i64 1] 37)
  have hl5 := Shape.below hl (new_bel _ (.cells #[.int .i64 1, .slice (some ⟨W.heap.size + 1, 0, none⟩) 1 1] 24))
  have hB5 := bel_then hB (bel_alloc hBl (.cells #[.int .i64 1, .slice (some ⟨W.heap.size + 1, 0, none⟩) 1 1] 24))
  have k5 := Box.new ((W.alloc (.cells #[.slice (some ⟨w.heap.size + 1, 0, none⟩) 1 1, .slice (some ⟨w.heap.size + 1, 0, none⟩) 1 1] 46)).alloc (.cells #[.slice (some ⟨w.heap.size + 1, 0, none⟩) 1 1, .slice (some ⟨W.heap.size, 0, none⟩) 1 1, .int .i64 1] 37)) 24 #[.int .i64 1, .slice (some ⟨W.heap.size + 1, 0, none⟩) 1 1]
  rw [show ((W.alloc (.cells #[.slice (some ⟨w.heap.size + 1, 0, none⟩) 1 1, .slice (some ⟨w.heap.size + 1, 0, none⟩) 1 1] 46)).alloc (.cells #[.slice (some ⟨w.heap.size + 1, 0, none⟩) 1 1, .slice (some ⟨W.heap.size, 0, none⟩) 1 1, .int .i64 1] 37)).heap.size = W.heap.size + 1 + 1 by simp] at k5
  clear hl hBl hB
  go_upto_region 3 with fail
  generalize (((W.alloc (.cells #[.slice (some ⟨w.heap.size + 1, 0, none⟩) 1 1, .slice (some ⟨w.heap.size + 1, 0, none⟩) 1 1] 46)).alloc (.cells #[.slice (some ⟨w.heap.size + 1, 0, none⟩) 1 1, .slice (some ⟨W.heap.size, 0, none⟩) 1 1, .int .i64 1] 37)).alloc (.cells #[.int .i64 1, .slice (some ⟨W.heap.size + 1, 0, none⟩) 1 1] 24)) = V at *
  have p0 := k5.cell 0 rfl
  have p1 := k5.cell 1 rfl
  have hbt := bel_two V (.cells #[.int .i64 7] 3) (.cells #[.slice (some ⟨V.heap.size, 0, none⟩) 1 1] 47)
  have HC : Hid (Calls _ _ _ _ _) := mforward _ 1 1 _ 1 _ 1 1 _ _ (Shape.below hl5 hbt) (mat_one V 7) HAR.out HTR.out
  clear hm
  go_wp2_with fail
  refine HC.out.mono ?_
  rintro e u1 ⟨hb1, ra, rc, rfl, hr1⟩
  have hb2 := bel_then hbt hb1
  have hl6 := Shape.below hl5 hb2
  have k6 := k5.keep hb2
  have hB6 := bel_then hB5 hb2
  rw [show ([([[65536]], [([[65536]], [[65536]], ())], 1, ())] : List Ly) = [Md.lyA] from rfl, HFW.out] at hr1
  have HC2 : Hid (Calls _ _ _ _ _) := mforward_no none 0 0 [] 0 none 0 0 [] u1 (rep_none _ _ _) (rep_none _ _ _) (by omega) (fun l hl => by simp at hl) ⟨by simp, fun l hl => by simp at hl⟩ (fun h => Md.none_right h.1)
  clear HC hbt hb1 hb2 hl5 k5 hB5 p0 p1
  go_wp2_with fail
  refine HC2.out.mono ?_
  rintro e u2 ⟨rfl, hb3⟩
  have k7 := k6.keep hb3
  have hB7 := bel_then hB6 hb3
  obtain ⟨b1, o1, A, C, rfl, _, c1, hr⟩ := mat_at (Shape.below hr1 hb3) (j := 0) (by omega)
  obtain ⟨b2, o2, rfl, _, c2⟩ := (Row.of_rep hr).at (j := 0) (by decide)
  rw [Nat.add_zero] at c1 c2
  have d1 : u2.cell? ⟨b1, o1, none⟩ = some (.slice (some ⟨b2, o2, none⟩) 1 C) := c1
  have d2 : u2.cell? ⟨b2, o2, none⟩ = some (.int .i64 14) := c2
  have p0 := k7.cell 0 rfl
  have p1 := k7.cell 1 rfl
  have HC3 : Hid (Calls _ _ _ _ _) := mright _ 1 1 _ 1 u2 (Shape.below hl6 hb3) (by omega) (fun l hl => by rw [List.mem_singleton.1 hl]; exact Md.right_lsized Md.lyA_right (by omega))
  clear c1 c2 hr hr1 HC2
  go_wp2_with fail
  refine HC3.out.mono ?_
  rintro e u3 ⟨hs, hb4⟩
  rw [hs.is HAR.out]
  clear hs p0 p1 d1 d2
  go_wp2
  go_ret
  exact ⟨rfl, bel_then hB7 hb4⟩

end Go.Proofs.Ytmechoeoaadfeaa
