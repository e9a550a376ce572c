/- Experts that a literal lays, and the fixed answer of the laws of layer 11. -/
import Derived.Test.YtpdlpjpbgimmkaaExpA
namespace Go.Proofs.Ytpdlpjpbgimmkaa
open Go.ChangeShapes Go.WideShapes Go.ChangeAt Go.RowKit

theorem mat_one (w : World) (p : Int) : matS.rep ((w.alloc (.cells #[.int .i64 p] 3)).alloc (.cells #[.slice (some ⟨w.heap.size, 0, none⟩) 1 1] 25)) everywhere [.slice (some ⟨w.heap.size + 1, 0, none⟩) 1 1] [[p]] := by
  have h := rep_lit [[.slice (some ⟨w.heap.size, 0, none⟩) 1 1]] [[p]] 25 (Shape.all_one (row_lit w [p] 3 (by simp [maxLen]))) (by simp [maxLen])
  rw [show (w.alloc (.cells ([p].map (Value.int .i64)).toArray 3)).heap.size = w.heap.size + 1 by simp] at h
  exact h
theorem bel_two (w : World) (o1 o2 : Obj) : Below w.heap.size w ((w.alloc o1).alloc o2) := bel_alloc (new_bel _ _) _
/-- 'Expert{In: {{p}}, Out: {{q}}}' -/
theorem exp_one (w : World) (p q : Int) :
    Exp ((((w.alloc (.cells #[.int .i64 p] 3)).alloc (.cells #[.slice (some ⟨w.heap.size, 0, none⟩) 1 1] 25)).alloc (.cells #[.int .i64 q] 3)).alloc (.cells #[.slice (some ⟨w.heap.size + 1 + 1, 0, none⟩) 1 1] 25))
      (some ⟨w.heap.size + 1, 0, none⟩) 1 1 (some ⟨w.heap.size + 1 + 1 + 1, 0, none⟩) 1 1 [[p]] [[q]] := by
  obtain ⟨W, hW⟩ : ∃ W, W = (w.alloc (.cells #[.int .i64 p] 3)).alloc (.cells #[.slice (some ⟨w.heap.size, 0, none⟩) 1 1] 25) := ⟨_, rfl⟩
  have hs : W.heap.size = w.heap.size + 1 + 1 := by rw [hW]; simp
  have h1 := mat_one w p
  have h2 := mat_one W q
  rw [← hW] at h1 ⊢
  rw [hs] at h2
  exact ⟨Shape.below h1 (bel_two _ _ _), h2⟩
theorem sized_one (p : Int) : Ex.Sized [[p]] := ⟨by simp, fun l hl => by simp at hl; subst hl; simp⟩
/-- A token of one number. -/
theorem one_row (w : World) (p : Int) : Row .i64 (w.alloc (.cells #[.int .i64 p] 3)) (some ⟨w.heap.size, 0, none⟩) 1 [p] := Row.of_rep (row_lit w [p] 3 (by simp [maxLen]))

theorem xawake (w : World) : Calls Try.prog 8 #[] w fun e w' => e = .returned (.bool true) ∧ Below w.heap.size w w' := by
  obtain ⟨W4, h4⟩ : ∃ W4, W4 = ((((w.alloc (.cells #[.int .i64 65536] 3)).alloc (.cells #[.slice (some ⟨w.heap.size, 0, none⟩) 1 1] 25)).alloc (.cells #[.int .i64 131072] 3)).alloc (.cells #[.slice (some ⟨w.heap.size + 1 + 1, 0, none⟩) 1 1] 25)) := ⟨_, rfl⟩
  have hX0 := exp_one w 65536 131072
  have hB0 : Below w.heap.size w W4 := by rw [h4]; exact bel_alloc (bel_alloc (bel_two _ _ _) _) _
  have hs0 : W4.heap.size = w.heap.size + 4 := by rw [h4]; simp
  rw [← h4] at hX0
  have hB := bel_alloc hB0 (.cells #[.slice (some ⟨w.heap.size + 1, 0, none⟩) 1 1, .slice (some ⟨w.heap.size + 1 + 1 + 1, 0, none⟩) 1 1] 24)
  have hX := hX0.below (new_bel W4 (.cells #[.slice (some ⟨w.heap.size + 1, 0, none⟩) 1 1, .slice (some ⟨w.heap.size + 1 + 1 + 1, 0, none⟩) 1 1] 24))
  have q := Box.new W4 24 #[.slice (some ⟨w.heap.size + 1, 0, none⟩) 1 1, .slice (some ⟨w.heap.size + 1 + 1 + 1, 0, none⟩) 1 1]
  rw [hs0] at q
  subst h4
  clear hX0 hB0 hs0
  have HR : Hid (Ex.Right [[65536]] [[131072]] 1) := Ex.right_one rfl rfl
  have HN : Hid (¬ Ex.Right [[65536]] [[131072]] 2) := Ex.Right.other (n := 1) (Ex.right_one rfl rfl) (by decide)
  go_enter Try.func8, Try.ntmps8
  go_upto_region 2 with fail
  generalize (World.alloc (World.alloc _ _) (.cells #[.slice (some ⟨w.heap.size + 1, 0, none⟩) 1 1, .slice (some ⟨w.heap.size + 1 + 1 + 1, 0, none⟩) 1 1] 24)) = W at *
  have p0 := q.cell 0 rfl
  have p1 := q.cell 1 rfl
  have hv := one_row W 196608
  have hX1 := hX.below (new_bel W (.cells #[.int .i64 196608] 3))
  have q1 := q.keep (new_bel W (.cells #[.int .i64 196608] 3))
  have hB1 := bel_alloc hB (.cells #[.int .i64 196608] 3)
  clear hX q hB
  go_wp2_with fail
  refine (xrun _ 1 1 _ 1 1 _ _ _ 1 1 [196608] _ hX1 (sized_one _) (sized_one _) hv (by omega)).mono ?_
  rintro e u1 ⟨hg, hb1⟩
  obtain ⟨a1, c1, rfl, hr1⟩ := hg.yes HR.out
  have hr1 := Row.of_rep hr1
  rw [show Ex.run [[65536]] [[131072]] [196608] = [393216] from by decide] at hr1
  have hX2 := hX1.below hb1
  have q2 := q1.keep hb1
  have hB2 := bel_then hB1 hb1
  clear hX1 q1 hB1 hb1 hg p0 p1 hv
  have p0 := q2.cell 0 rfl
  have p1 := q2.cell 1 rfl
  have hv := one_row u1 (-196608)
  have hX3 := hX2.below (new_bel u1 (.cells #[.int .i64 (-196608)] 3))
  have q3 := q2.keep (new_bel u1 (.cells #[.int .i64 (-196608)] 3))
  have hr3 := hr1.keep (new_bel u1 (.cells #[.int .i64 (-196608)] 3))
  have hB3 := bel_alloc hB2 (.cells #[.int .i64 (-196608)] 3)
  clear hX2 q2 hB2 hr1
  go_wp2_with fail
  refine (xrun _ 1 1 _ 1 1 _ _ _ 1 1 [-196608] _ hX3 (sized_one _) (sized_one _) hv (by omega)).mono ?_
  rintro e u2 ⟨hg, hb2⟩
  obtain ⟨a2, c2, rfl, hr2⟩ := hg.yes HR.out
  have hr2 := Row.of_rep hr2
  rw [show Ex.run [[65536]] [[131072]] [-196608] = [0] from by decide] at hr2
  have hX4 := hX3.below hb2
  have q4 := q3.keep hb2
  have hr4 := hr3.keep hb2
  have hB4 := bel_then hB3 hb2
  clear hX3 q3 hB3 hb2 hg p0 p1 hv hr3
  have p0 := q4.cell 0 rfl
  have p1 := q4.cell 1 rfl
  obtain ⟨b1, o1, rfl, _, hc1⟩ := hr4.at (j := 0) (by omega)
  obtain ⟨b2, o2, rfl, _, hc2⟩ := hr2.at (j := 0) (by omega)
  rw [Nat.add_zero] at hc1 hc2
  simp only [List.getD_cons_zero] at hc1 hc2
  go_wp2_with (go_at_call 10; refine (xright_tell _ 1 1 _ 1 1 _ _ 2 u2 hX4 (sized_one _) (sized_one _) false (tell_no HN.out)).mono ?_; rintro e u5 ⟨rfl, hb5⟩)
  go_ret
  exact ⟨rfl, bel_then hB4 hb5⟩

/-- It fits an int32. -/
structure I32 (x : Int) : Prop where
  lo : -2147483648 ≤ x
  hi : x ≤ 2147483647
theorem I32.of {x : Int} (h : (Lit.int .i32 x).wf = true) : I32 x := ⟨(bounds_i32 h).1, (bounds_i32 h).2⟩
theorem xbelow (x : Int) (h : I32 x) (w : World) : Calls Try.prog 14 #[.int .i32 x] w fun e w' => e = .returned (.int .i64 (x.tmod 1048576)) ∧ w' = w := by
  have h1 := h.lo
  have h2 := h.hi
  go_enter Try.func14, Try.ntmps14
  go_wp2
  go_ret
  exact ⟨rfl, rfl⟩
theorem tmod_bounds (n : Int) : -1048576 < n.tmod 1048576 ∧ n.tmod 1048576 < 1048576 := by
  by_cases h : 0 ≤ n
  · have h1 := Int.tmod_nonneg (b := 1048576) h
    have h2 := Int.tmod_lt_of_pos n (b := 1048576) (by omega)
    omega
  · have e : n.tmod 1048576 = -((-n).tmod 1048576) := by rw [Int.neg_tmod]; omega
    have h1 := Int.tmod_nonneg (a := -n) (b := 1048576) (by omega)
    have h2 := Int.tmod_lt_of_pos (-n) (b := 1048576) (by omega)
    omega
theorem tmod_held (n : Int) : Fx.hold (n.tmod 1048576) = n.tmod 1048576 := by
  have h := tmod_bounds n
  exact Fx.hold_id (by omega) (by omega)

/-- An expert of one number in and out, and its token. -/
theorem token_one (w : World) (p q v : Int) :
    Exp (((((w.alloc (.cells #[.int .i64 p] 3)).alloc (.cells #[.slice (some ⟨w.heap.size, 0, none⟩) 1 1] 25)).alloc (.cells #[.int .i64 q] 3)).alloc (.cells #[.slice (some ⟨w.heap.size + 1 + 1, 0, none⟩) 1 1] 25)).alloc (.cells #[.int .i64 v] 3))
      (some ⟨w.heap.size + 1, 0, none⟩) 1 1 (some ⟨w.heap.size + 1 + 1 + 1, 0, none⟩) 1 1 [[p]] [[q]]
    ∧ Row .i64 (((((w.alloc (.cells #[.int .i64 p] 3)).alloc (.cells #[.slice (some ⟨w.heap.size, 0, none⟩) 1 1] 25)).alloc (.cells #[.int .i64 q] 3)).alloc (.cells #[.slice (some ⟨w.heap.size + 1 + 1, 0, none⟩) 1 1] 25)).alloc (.cells #[.int .i64 v] 3))
      (some ⟨w.heap.size + 1 + 1 + 1 + 1, 0, none⟩) 1 [v]
    ∧ Below w.heap.size w (((((w.alloc (.cells #[.int .i64 p] 3)).alloc (.cells #[.slice (some ⟨w.heap.size, 0, none⟩) 1 1] 25)).alloc (.cells #[.int .i64 q] 3)).alloc (.cells #[.slice (some ⟨w.heap.size + 1 + 1, 0, none⟩) 1 1] 25)).alloc (.cells #[.int .i64 v] 3)) := by
  have h := exp_one w p q
  have hB : Below w.heap.size w ((((w.alloc (.cells #[.int .i64 p] 3)).alloc (.cells #[.slice (some ⟨w.heap.size, 0, none⟩) 1 1] 25)).alloc (.cells #[.int .i64 q] 3)).alloc (.cells #[.slice (some ⟨w.heap.size + 1 + 1, 0, none⟩) 1 1] 25)) := bel_alloc (bel_alloc (bel_two _ _ _) _) _
  have hs : ((((w.alloc (.cells #[.int .i64 p] 3)).alloc (.cells #[.slice (some ⟨w.heap.size, 0, none⟩) 1 1] 25)).alloc (.cells #[.int .i64 q] 3)).alloc (.cells #[.slice (some ⟨w.heap.size + 1 + 1, 0, none⟩) 1 1] 25)).heap.size = w.heap.size + 1 + 1 + 1 + 1 := by simp
  generalize ((((w.alloc (.cells #[.int .i64 p] 3)).alloc (.cells #[.slice (some ⟨w.heap.size, 0, none⟩) 1 1] 25)).alloc (.cells #[.int .i64 q] 3)).alloc (.cells #[.slice (some ⟨w.heap.size + 1 + 1, 0, none⟩) 1 1] 25)) = W at *
  refine ⟨h.below (new_bel _ _), ?_, bel_alloc hB _⟩
  have := one_row W v
  rwa [hs] at this
/-- Two of them, side by side. -/
theorem exp_two (w : World) (a c b d : Int) :
    Exp (((((w.alloc (.cells #[.int .i64 a] 3)).alloc (.cells #[.int .i64 c] 3)).alloc (.cells #[.slice (some ⟨w.heap.size, 0, none⟩) 1 1, .slice (some ⟨w.heap.size + 1, 0, none⟩) 1 1] 25)).alloc (.cells #[.int .i64 b, .int .i64 d] 3)).alloc (.cells #[.slice (some ⟨w.heap.size + 1 + 1 + 1, 0, none⟩) 2 2] 25))
      (some ⟨w.heap.size + 1 + 1, 0, none⟩) 2 2 (some ⟨w.heap.size + 1 + 1 + 1 + 1, 0, none⟩) 1 1 [[a], [c]] [[b, d]] := by
  have r1 : rowS.rep ((w.alloc (.cells #[.int .i64 a] 3)).alloc (.cells #[.int .i64 c] 3)) everywhere [.slice (some ⟨w.heap.size, 0, none⟩) 1 1] [a] := Shape.below (row_lit w [a] 3 (by simp [maxLen])) (new_bel _ _)
  have r2 : rowS.rep ((w.alloc (.cells #[.int .i64 a] 3)).alloc (.cells #[.int .i64 c] 3)) everywhere [.slice (some ⟨w.heap.size + 1, 0, none⟩) 1 1] [c] := by
    have h := row_lit (w.alloc (.cells #[.int .i64 a] 3)) [c] 3 (by simp [maxLen])
    rw [show (w.alloc (.cells #[.int .i64 a] 3)).heap.size = w.heap.size + 1 by simp] at h
    exact h
  have hs : ((w.alloc (.cells #[.int .i64 a] 3)).alloc (.cells #[.int .i64 c] 3)).heap.size = w.heap.size + 1 + 1 := by simp
  generalize ((w.alloc (.cells #[.int .i64 a] 3)).alloc (.cells #[.int .i64 c] 3)) = W at *
  have m1 := rep_lit [[.slice (some ⟨w.heap.size, 0, none⟩) 1 1], [.slice (some ⟨w.heap.size + 1, 0, none⟩) 1 1]] [[a], [c]] 25 (Shape.all_append (Shape.all_one r1) (Shape.all_one r2)) (by simp [maxLen])
  rw [hs] at m1
  have m2 : matS.rep (W.alloc (.cells #[.slice (some ⟨w.heap.size, 0, none⟩) 1 1, .slice (some ⟨w.heap.size + 1, 0, none⟩) 1 1] 25)) everywhere [.slice (some ⟨w.heap.size + 1 + 1, 0, none⟩) 2 2] [[a], [c]] := m1
  have hs2 : (W.alloc (.cells #[.slice (some ⟨w.heap.size, 0, none⟩) 1 1, .slice (some ⟨w.heap.size + 1, 0, none⟩) 1 1] 25)).heap.size = w.heap.size + 1 + 1 + 1 := by simp [hs]
  clear m1 r1 r2
  generalize (W.alloc (.cells #[.slice (some ⟨w.heap.size, 0, none⟩) 1 1, .slice (some ⟨w.heap.size + 1, 0, none⟩) 1 1] 25)) = W2 at *
  refine ⟨Shape.below m2 (bel_two _ _ _), ?_⟩
  have h := rep_lit [[.slice (some ⟨W2.heap.size, 0, none⟩) 2 2]] [[b, d]] 25 (Shape.all_one (row_lit W2 [b, d] 3 (by simp [maxLen]))) (by simp [maxLen])
  rw [show (W2.alloc (.cells ([b, d].map (Value.int .i64)).toArray 3)).heap.size = W2.heap.size + 1 by simp, hs2] at h
  exact h
theorem token_two (w : World) (a c b d v : Int) :
    Exp ((((((w.alloc (.cells #[.int .i64 a] 3)).alloc (.cells #[.int .i64 c] 3)).alloc (.cells #[.slice (some ⟨w.heap.size, 0, none⟩) 1 1, .slice (some ⟨w.heap.size + 1, 0, none⟩) 1 1] 25)).alloc (.cells #[.int .i64 b, .int .i64 d] 3)).alloc (.cells #[.slice (some ⟨w.heap.size + 1 + 1 + 1, 0, none⟩) 2 2] 25)).alloc (.cells #[.int .i64 v] 3))
      (some ⟨w.heap.size + 1 + 1, 0, none⟩) 2 2 (some ⟨w.heap.size + 1 + 1 + 1 + 1, 0, none⟩) 1 1 [[a], [c]] [[b, d]]
    ∧ Row .i64 ((((((w.alloc (.cells #[.int .i64 a] 3)).alloc (.cells #[.int .i64 c] 3)).alloc (.cells #[.slice (some ⟨w.heap.size, 0, none⟩) 1 1, .slice (some ⟨w.heap.size + 1, 0, none⟩) 1 1] 25)).alloc (.cells #[.int .i64 b, .int .i64 d] 3)).alloc (.cells #[.slice (some ⟨w.heap.size + 1 + 1 + 1, 0, none⟩) 2 2] 25)).alloc (.cells #[.int .i64 v] 3))
      (some ⟨w.heap.size + 1 + 1 + 1 + 1 + 1, 0, none⟩) 1 [v]
    ∧ Below w.heap.size w ((((((w.alloc (.cells #[.int .i64 a] 3)).alloc (.cells #[.int .i64 c] 3)).alloc (.cells #[.slice (some ⟨w.heap.size, 0, none⟩) 1 1, .slice (some ⟨w.heap.size + 1, 0, none⟩) 1 1] 25)).alloc (.cells #[.int .i64 b, .int .i64 d] 3)).alloc (.cells #[.slice (some ⟨w.heap.size + 1 + 1 + 1, 0, none⟩) 2 2] 25)).alloc (.cells #[.int .i64 v] 3)) := by
  have h := exp_two w a c b d
  have hB : Below w.heap.size w (((((w.alloc (.cells #[.int .i64 a] 3)).alloc (.cells #[.int .i64 c] 3)).alloc (.cells #[.slice (some ⟨w.heap.size, 0, none⟩) 1 1, .slice (some ⟨w.heap.size + 1, 0, none⟩) 1 1] 25)).alloc (.cells #[.int .i64 b, .int .i64 d] 3)).alloc (.cells #[.slice (some ⟨w.heap.size + 1 + 1 + 1, 0, none⟩) 2 2] 25)) := bel_alloc (bel_alloc (bel_alloc (bel_two _ _ _) _) _) _
  have hs : (((((w.alloc (.cells #[.int .i64 a] 3)).alloc (.cells #[.int .i64 c] 3)).alloc (.cells #[.slice (some ⟨w.heap.size, 0, none⟩) 1 1, .slice (some ⟨w.heap.size + 1, 0, none⟩) 1 1] 25)).alloc (.cells #[.int .i64 b, .int .i64 d] 3)).alloc (.cells #[.slice (some ⟨w.heap.size + 1 + 1 + 1, 0, none⟩) 2 2] 25)).heap.size = w.heap.size + 1 + 1 + 1 + 1 + 1 := by simp
  generalize (((((w.alloc (.cells #[.int .i64 a] 3)).alloc (.cells #[.int .i64 c] 3)).alloc (.cells #[.slice (some ⟨w.heap.size, 0, none⟩) 1 1, .slice (some ⟨w.heap.size + 1, 0, none⟩) 1 1] 25)).alloc (.cells #[.int .i64 b, .int .i64 d] 3)).alloc (.cells #[.slice (some ⟨w.heap.size + 1 + 1 + 1, 0, none⟩) 2 2] 25)) = W at *
  refine ⟨h.below (new_bel _ _), ?_, bel_alloc hB _⟩
  have := one_row W v
  rwa [hs] at this
theorem sized_two (a c : Int) : Ex.Sized [[a], [c]] := ⟨by simp, fun l hl => by simp at hl; rcases hl with rfl | rfl <;> simp⟩
theorem sized_wide (b d : Int) : Ex.Sized [[b, d]] := ⟨by simp, fun l hl => by simp at hl; subst hl; simp⟩

end Go.Proofs.Ytpdlpjpbgimmkaa
