/- Enter with letters for what it makes, and the fixed answer of the laws of layer 12. -/
import Derived.Test.YtfbghicknaldcaaLedB
namespace Go.Proofs.Ytfbghicknaldcaa
open Go.ChangeShapes Go.WideShapes Go.ChangeAt Go.RowKit

theorem Dx.short_nil : Dx.Short [] := ⟨Nat.zero_le _, fun e he => by simp at he⟩
theorem Dx.Short.add {l : List En} (h : Dx.Short l) (hl : l.length < 1000) {k : Ky} {v : List Int} (hv : v.length ≤ 1000) : Dx.Short (l ++ [en k v]) := by
  refine ⟨by rw [List.length_append]; exact hl, fun e he => ?_⟩
  rcases List.mem_append.1 he with he | he
  · exact h.2 e he
  · rw [List.mem_singleton.1 he]; exact hv

/-- Enter of a key that is not there: the new length and the new ledger under names of one's own. -/
theorem lenter_to (a : Option Addr) (n c : Nat) (l : List En) (p q r s : Int) (va : Option Addr) (vn vc : Nat) (v : List Int) (w : World) (h : ensS.rep w everywhere [.slice a n c] l) (hs : Dx.Short l) (hv : rowS.rep w everywhere [.slice va vn vc] v) (hvn : vn ≤ 1000) (hx : Dx.No l (ky p q r s)) (m : Nat) (hm : n + 1 = m) (L : List En) (hL : l ++ [en (ky p q r s) v] = L) :
    Calls Try.prog 10 #[.slice a n c, .agg #[.int .i64 p, .int .i64 q, .int .i64 r, .int .i64 s], .slice va vn vc] w fun e w' => Below w.heap.size w w' ∧ ∃ a' c', e = .returned (.tuple #[.slice a' m c', .bool true]) ∧ ensS.rep w' (w.heap.size ≤ ·) [.slice a' m c'] L := by
  subst hm
  subst hL
  exact lenter_new a n c l p q r s va vn vc v w h hs hv hvn hx

theorem dawake (w : World) : Calls Try.prog 7 #[] w fun e w' => e = .returned (.bool true) ∧ Below w.heap.size w w' := by
  have hb0 := new_bel w (.cells #[.int .i64 5] 3)
  have hv0 : rowS.rep (w.alloc (.cells #[.int .i64 5] 3)) everywhere [.slice (some ⟨w.heap.size, 0, none⟩) 1 1] [5] := row_lit w [5] 3 (by simp [maxLen])
  have hc1 : Hid (Calls _ _ _ _ _) := lenter_to none 0 0 [] 0 0 1 0 (some ⟨w.heap.size, 0, none⟩) 1 1 [5] _ (rep_none _ _ _) Dx.short_nil hv0 (by omega) (Dx.no_nil _) 1 rfl [en (ky 0 0 1 0) [5]] rfl
  have HS : Hid (Dx.Short [en (ky 0 0 1 0) [5]]) := Dx.Short.add (l := []) Dx.short_nil (by simp) (by simp)
  have HF : Hid (Dx.First [en (ky 0 0 1 0) [5]] (ky 0 0 1 0) 0) := Dx.No.new (l := []) (Dx.no_nil _) [5]
  obtain ⟨L, hL⟩ : ∃ L, L = [en (ky 0 0 1 0) [5]] := ⟨_, rfl⟩
  have HV : Hid ((L.getD 0 en0).2.1 = [5]) := by show _ = _; rw [hL]; rfl
  rw [← hL] at hc1 HS HF
  clear hL
  go_enter Try.func7, Try.ntmps7
  go_wp2_with fail
  refine hc1.out.mono ?_
  rintro e u1 ⟨hb1, a1, c1, rfl, hr1⟩
  have hB1 := bel_then hb0 hb1
  have hbn := new_bel u1 (.cells #[.int .i64 6] 3)
  have hc2 : Hid (Calls _ _ _ _ _) := lenter_no a1 1 c1 L 0 0 1 0 (some ⟨u1.heap.size, 0, none⟩) 1 1 _ (Shape.any (Shape.below hr1 hbn)) HS.out 0 HF.out
  clear hc1 hv0 hb0 hb1
  go_wp2_with fail
  refine hc2.out.mono ?_
  rintro e u2 ⟨hb2, a2, c2, rfl, hr2⟩
  have hb3 := bel_then hbn hb2
  have hc3 : Hid (Calls _ _ _ _ _) := lfind_at a1 1 c1 L 0 0 1 0 u2 (Shape.any (Shape.below hr1 hb3)) HS.out 0 HF.out [5] HV.out 1 rfl
  clear hc2 hr2
  go_wp2_with fail
  refine hc3.out.mono ?_
  rintro e u3 ⟨hb4, a3, c3, rfl, hr3⟩
  obtain ⟨b4, o4, rfl, _, hc4⟩ := (Row.of_rep hr3).at (j := 0) (by omega)
  rw [Nat.add_zero] at hc4
  simp only [List.getD_cons_zero] at hc4
  clear hc3 hr3
  go_wp2
  go_ret
  exact ⟨rfl, bel_then (bel_then hB1 hb3) hb4⟩

end Go.Proofs.Ytfbghicknaldcaa
