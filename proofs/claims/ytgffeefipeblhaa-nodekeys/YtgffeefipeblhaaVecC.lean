/- What the functions of package vec and the document's answers for layer 2 do when called (third part: Add, Scale and Relu of the document). -/
import Derived.Test.YtgffeefipeblhaaVecB
namespace Go.Proofs.Ytgffeefipeblhaa
open Go.ChangeShapes Go.WideShapes Go.ChangeAt Go.RowKit

set_option maxRecDepth 100000 in
theorem rrelu (a : Option Addr) (n ca : Nat) (la : List Int) (w : World) (ha : Row .i64 w a n la) (hn : n ≤ 100000) :
    Calls Try.prog 46 #[.slice a n ca] w fun e w' => ∃ a' c', e = .returned (.slice a' n c') ∧ Row .i64 w' a' n (Vx.relu la) ∧ Below w.heap.size w w' := by
  obtain ⟨i0, hi, hz0, hz1, hz2⟩ := info_parts Try.infoInt
  have HA : Hid (la.length = n) := ha.len
  go_enter Try.func46, Try.ntmps46
  go_wp2
  go_loopw [3, 4] (fun v i wr => ∃ j : Nat, j ≤ n ∧ i = .int .i64 j ∧ wr.ownsRow w.heap.size 3 1 v j ((Vx.relu (la.take j)).map (Value.int .i64)) ∧ Below w.heap.size w wr) (fun _ i _ => n - (intOf i).toNat)
  case atStart => exact ⟨0, Nat.zero_le _, rfl, World.ownsRow_nil _ _ _ _, Below.refl _ _⟩
  case round =>
    obtain ⟨j, hj, rfl, hown, hbel⟩ := hrel
    by_cases hlt : j < n
    · obtain ⟨b1, o1, rfl, hb1, hc1⟩ := ha.at hlt
      have hd1 : wr.cell? ⟨b1, o1 + j, none⟩ = some (.int .i64 (la.getD j 0)) := (hbel.cell (by exact hb1)).trans hc1
      have hli : (j : Int) < (n : Int) := by omega
      have HS : Hid (Vx.relu (la.take (j + 1)) = Vx.relu (la.take j) ++ [Vx.rel (la.getD j 0)]) := Vx.relu_succ la j (by have := HA.out; omega)
      clear hc1
      generalize la.getD j 0 = x at *
      by_cases hx : Fx.hold x < 0
      · have e : Vx.rel x = 0 := by unfold Vx.rel; rw [if_pos hx]
        rw [e] at HS; clear e
        go_wp2_with (first
          | (at_builtin; refine wpList_append_own _ rfl _ _ 29 rfl w.heap.size 3 i0 (.int .i64 0) 1 8 Try.underlying29 hi hz0 hz1 hz2 rfl (by decide) _ _ _ rfl (hown.alloc _) ⟨wr.heap.size, 0, none⟩ 1 1 [.int .i64 (0)] rfl rfl ?c1 ?c2 ?c3 ?c4 ?c5 ?_)
          | (go_at_call 57; refine by_same (rhold _ _) ?_))
        case c1 =>
          intro j u hj
          match j, hj with
          | 0, hj => simp at hj; subst hj; simp [Addr.add]
        case c2 => intro u hu; simp at hu; subst hu; rfl
        case c3 => unfold maxLen; omega
        case c4 => omega
        case c5 => have := hbel.size; simp; omega
        intro v' w1 hown' hgrow _
        have hb' : Below w.heap.size w w1 := (hbel.alloc hbel.size _).grown hgrow (by have := hbel.size; simp; omega) (fun g hg => (hown.lt g hg).1)
        have ho' := own_snoc hown' HS.out
        clear hown' hgrow hown
        go_wp2
        go_roundw
        case rel => exact ⟨j + 1, by omega, by go_num, ho', hb'⟩
        case measure => simp [intOf]; omega
      · have e : Vx.rel x = Fx.hold x := by unfold Vx.rel; rw [if_neg hx]
        rw [e] at HS; clear e
        go_wp2_with (first
          | (at_builtin; refine wpList_append_own _ rfl _ _ 29 rfl w.heap.size 3 i0 (.int .i64 0) 1 8 Try.underlying29 hi hz0 hz1 hz2 rfl (by decide) _ _ _ rfl (hown.alloc _) ⟨wr.heap.size, 0, none⟩ 1 1 [.int .i64 (Fx.hold x)] rfl rfl ?d1 ?d2 ?d3 ?d4 ?d5 ?_)
          | (go_at_call 57; refine by_same (rhold _ _) ?_))
        case d1 =>
          intro j u hj
          match j, hj with
          | 0, hj => simp at hj; subst hj; simp [Addr.add]
        case d2 => intro u hu; simp at hu; subst hu; rfl
        case d3 => unfold maxLen; omega
        case d4 => omega
        case d5 => have := hbel.size; simp; omega
        intro v' w1 hown' hgrow _
        have hb' : Below w.heap.size w w1 := (hbel.alloc hbel.size _).grown hgrow (by have := hbel.size; simp; omega) (fun g hg => (hown.lt g hg).1)
        have ho' := own_snoc hown' HS.out
        clear hown' hgrow hown
        go_wp2
        go_roundw
        case rel => exact ⟨j + 1, by omega, by go_num, ho', hb'⟩
        case measure => simp [intOf]; omega
    · have hkn : j = n := by omega
      subst hkn
      have e1 : la.take j = la := List.take_of_length_le (by have := HA.out; omega)
      rw [e1] at hown
      clear e1
      obtain ⟨a', c', rfl, hcm, hrow⟩ := Row.of_owns hown
      go_wp2
      go_ret
      exact ⟨a', c', rfl, hrow, hbel⟩

end Go.Proofs.Ytgffeefipeblhaa
