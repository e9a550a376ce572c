/- The fixed answer of the statements through the layers. -/
import Derived.Test.YtfidgcanolegfaaGreatMdlF
import Derived.Test.YtfidgcanolegfaaGreatLm
namespace Go.Proofs.YtfidgcanolegfaaGreat
open Go.ChangeShapes Go.WideShapes Go.ChangeAt Go.RowKit

theorem lives_is : Md.forward [Md.lyA] [[7]] = [[14]] := by decide +kernel
set_option maxRecDepth 100000 in
set_option maxHeartbeats 1000000 in
theorem tlives (w : World) : Calls Tryz.prog 32 #[] w fun e w' => e = .returned (.bool true) ∧ Below w.heap.size w w' := by
  have hm := mat_one w 65536
  have hB := bel_two w (.cells #[.int .i64 65536] 3) (.cells #[.slice (some ⟨w.heap.size, 0, none⟩) 1 1] 42)
  have HAR := hid Md.modA_right
  have HTR := hid Md.tokA_right
  have HFW := hid lives_is
  go_enter Tryz.func32, Tryz.ntmps32
  go_upto_region 2 with fail
  generalize ((w.alloc (.cells #[.int .i64 65536] 3)).alloc (.cells #[.slice (some ⟨w.heap.size, 0, none⟩) 1 1] 42)) = W at *
  have hl := laid_model hm 1
  have hBl := bel_two W (.cells #[.slice (some ⟨w.heap.size + 1, 0, none⟩) 1 1, .slice (some ⟨w.heap.size + 1, 0, none⟩) 1 1] 69) (.cells #[.slice (some ⟨w.heap.size + 1, 0, none⟩) 1 1, .slice (some ⟨W.heap.size, 0, none⟩) 1 1, .int .i64 1] 65)
  have hl5 := Shape.below hl (new_bel _ (.cells #[.int .i64 1, .slice (some ⟨W.heap.size + 1, 0, none⟩) 1 1] 24))
  have hB5 := bel_then hB (bel_alloc hBl (.cells #[.int .i64 1, .slice (some ⟨W.heap.size + 1, 0, none⟩) 1 1] 24))
  have k5 := Box.new ((W.alloc (.cells #[.slice (some ⟨w.heap.size + 1, 0, none⟩) 1 1, .slice (some ⟨w.heap.size + 1, 0, none⟩) 1 1] 69)).alloc (.cells #[.slice (some ⟨w.heap.size + 1, 0, none⟩) 1 1, .slice (some ⟨W.heap.size, 0, none⟩) 1 1, .int .i64 1] 65)) 24 #[.int .i64 1, .slice (some ⟨W.heap.size + 1, 0, none⟩) 1 1]
  rw [show ((W.alloc (.cells #[.slice (some ⟨w.heap.size + 1, 0, none⟩) 1 1, .slice (some ⟨w.heap.size + 1, 0, none⟩) 1 1] 69)).alloc (.cells #[.slice (some ⟨w.heap.size + 1, 0, none⟩) 1 1, .slice (some ⟨W.heap.size, 0, none⟩) 1 1, .int .i64 1] 65)).heap.size = W.heap.size + 1 + 1 by simp] at k5
  clear hl hBl hB
  go_upto_region 3 with fail
  generalize (((W.alloc (.cells #[.slice (some ⟨w.heap.size + 1, 0, none⟩) 1 1, .slice (some ⟨w.heap.size + 1, 0, none⟩) 1 1] 69)).alloc (.cells #[.slice (some ⟨w.heap.size + 1, 0, none⟩) 1 1, .slice (some ⟨W.heap.size, 0, none⟩) 1 1, .int .i64 1] 65)).alloc (.cells #[.int .i64 1, .slice (some ⟨W.heap.size + 1, 0, none⟩) 1 1] 24)) = V at *
  have p0 := k5.cell 0 rfl
  have p1 := k5.cell 1 rfl
  have hbt := bel_two V (.cells #[.int .i64 7] 3) (.cells #[.slice (some ⟨V.heap.size, 0, none⟩) 1 1] 42)
  have HC : Hid (Calls _ _ _ _ _) := mforward _ 1 1 _ 1 _ 1 1 _ _ (Shape.below hl5 hbt) (mat_one V 7) HAR.out HTR.out
  clear hm
  go_wp2_with fail
  refine HC.out.mono ?_
  rintro e u1 ⟨hb1, ra, rc, rfl, hr1⟩
  have hb2 := bel_then hbt hb1
  have hB6 := bel_then hB5 hb2
  rw [show ([([[65536]], [([[65536]], [[65536]], ())], 1, ())] : List Ly) = [Md.lyA] from rfl, HFW.out] at hr1
  obtain ⟨b1, o1, A, C, rfl, _, c1, hr⟩ := mat_at hr1 (j := 0) (by omega)
  obtain ⟨b2, o2, rfl, _, c2⟩ := (Row.of_rep hr).at (j := 0) (by decide)
  rw [Nat.add_zero] at c1 c2
  have d1 : u1.cell? ⟨b1, o1, none⟩ = some (.slice (some ⟨b2, o2, none⟩) 1 C) := c1
  have d2 : u1.cell? ⟨b2, o2, none⟩ = some (.int .i64 14) := c2
  clear HC hbt hb1 hb2 hl5 k5 hB5 p0 p1 c1 c2 hr hr1
  go_wp2
  go_ret
  exact ⟨rfl, hB6⟩

end Go.Proofs.YtfidgcanolegfaaGreat
