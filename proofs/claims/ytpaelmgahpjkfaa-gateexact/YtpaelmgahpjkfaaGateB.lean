/- The fixed answer of the laws of layer 13. -/
import Derived.Test.YtpaelmgahpjkfaaGateA
import Derived.Test.YtpaelmgahpjkfaaLits
namespace Go.Proofs.Ytpaelmgahpjkfaa
open Go.ChangeShapes Go.WideShapes Go.ChangeAt Go.RowKit

set_option maxHeartbeats 1000000 in
theorem gawake (w : World) : Calls Try.prog 8 #[] w fun e w' => e = .returned (.bool true) ∧ Below w.heap.size w w' := by
  obtain ⟨W3, h3⟩ : ∃ W3, W3 = (((w.alloc (.cells #[.int .i64 65536] 3)).alloc (.cells #[.int .i64 131072] 3)).alloc (.cells #[.slice (some ⟨w.heap.size, 0, none⟩) 1 1, .slice (some ⟨w.heap.size + 1, 0, none⟩) 1 1] 23)) := ⟨_, rfl⟩
  have hm := mat_two w 65536 131072
  have hB : Below w.heap.size w W3 := by rw [h3]; exact bel_alloc (bel_two _ _ _) _
  have hs : W3.heap.size = w.heap.size + 1 + 1 + 1 := by rw [h3]; simp
  rw [← h3] at hm
  have hm4 := Shape.below hm (new_bel W3 (.cells #[.int .i64 65536] 3))
  have hv4 := one_row W3 65536
  have hB4 := bel_alloc hB (.cells #[.int .i64 65536] 3)
  have HC : Hid (Calls _ _ _ _ _) := choose _ _ 2 2 1 1 _ _ _ 1 0 43690 21846 true _ hm4 hv4 (by omega) (by omega) Gx.example_is
  have HN : Hid (∀ u : World, Calls Try.prog 9 #[.slice none 0 0, .slice none 0 0] u fun e w' => e = .returned (.tuple #[.agg #[.int .i64 0, .int .i64 0, .int .i64 0, .int .i64 0], .bool false]) ∧ Below u.heap.size u w') :=
    fun u => choose none none 0 0 0 0 [] [] everywhere 0 0 0 0 false u (rep_none _ _ _) (Row.nil _ _ _) (by omega) (by omega) Gx.none_is
  rw [hs] at HC
  subst h3
  clear hm hm4 hv4 hB hs
  go_enter Try.func8, Try.ntmps8
  go_wp2_with fail
  refine HC.out.mono ?_
  rintro e u1 ⟨rfl, hb1⟩
  have hB1 := bel_then hB4 hb1
  clear HC hB4 hb1
  have k1 := Box.new u1 27 #[.int .i64 1, .int .i64 0, .int .i64 43690, .int .i64 21846]
  have hB2 := bel_alloc hB1 (.cells #[.int .i64 1, .int .i64 0, .int .i64 43690, .int .i64 21846] 27)
  go_wp2_with fail
  generalize u1.alloc (.cells #[.int .i64 1, .int .i64 0, .int .i64 43690, .int .i64 21846] 27) = u2 at *
  refine (HN.out u2).mono ?_
  rintro e u3 ⟨rfl, hb3⟩
  have k3 := (k1.keep hb3).keep (new_bel u3 (.cells #[.int .i64 0, .int .i64 0, .int .i64 0, .int .i64 0] 27))
  have hB3 := bel_alloc (bel_then hB2 hb3) (.cells #[.int .i64 0, .int .i64 0, .int .i64 0, .int .i64 0] 27)
  have c0 := k3.cell 0 rfl; have c1 := k3.cell 1 rfl; have c2 := k3.cell 2 rfl; have c3 := k3.cell 3 rfl
  clear HN hB1 hB2 k1 hb3
  go_wp2
  go_ret
  exact ⟨rfl, hB3⟩

end Go.Proofs.Ytpaelmgahpjkfaa
