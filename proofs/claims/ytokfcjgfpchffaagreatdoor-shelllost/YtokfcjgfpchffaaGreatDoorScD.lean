/- A script's fleet, as the statements of layer 20 make it. -/
import Derived.Test.YtokfcjgfpchffaaGreatDoorKn
import Derived.Test.YtokfcjgfpchffaaGreatDoorKe
namespace Go.Proofs.YtokfcjgfpchffaaGreatDoor
open Go.ChangeShapes Go.WideShapes Go.ChangeAt Go.RowKit


/-- Two rows, and the list of them. -/
theorem two_rows (w : World) (r s : List Int) (hr : r.length ≤ 100) (hs : s.length ≤ 100) :
    matS.rep (((w.alloc (.cells (r.map (Value.int .i64)).toArray 3)).alloc (.cells (s.map (Value.int .i64)).toArray 3)).alloc (.cells #[.slice (some ⟨w.heap.size, 0, none⟩) r.length r.length, .slice (some ⟨w.heap.size + 1, 0, none⟩) s.length s.length] 31)) everywhere [.slice (some ⟨w.heap.size + 1 + 1, 0, none⟩) 2 2] [r, s] := by
  have h1 := Shape.below (row_lit w r 3 (by unfold maxLen; omega)) (new_bel (w.alloc (.cells (r.map (Value.int .i64)).toArray 3)) (.cells (s.map (Value.int .i64)).toArray 3))
  have h2 := row_lit (w.alloc (.cells (r.map (Value.int .i64)).toArray 3)) s 3 (by unfold maxLen; omega)
  have e1 : (w.alloc (.cells (r.map (Value.int .i64)).toArray 3)).heap.size = w.heap.size + 1 := by simp
  rw [e1] at h2
  have h3 := rep_lit [[.slice (some ⟨w.heap.size, 0, none⟩) r.length r.length], [.slice (some ⟨w.heap.size + 1, 0, none⟩) s.length s.length]] [r, s] 31 (Shape.all_append (Shape.all_one h1) (Shape.all_one h2)) (by show 2 ≤ maxLen; decide)
  have e2 : ((w.alloc (.cells (r.map (Value.int .i64)).toArray 3)).alloc (.cells (s.map (Value.int .i64)).toArray 3)).heap.size = w.heap.size + 1 + 1 := by simp
  rw [e2] at h3
  exact h3
/-- Three of them. -/
theorem three_rows (w : World) (r s t : List Int) (hr : r.length ≤ 100) (hs : s.length ≤ 100) (ht : t.length ≤ 100) :
    matS.rep ((((w.alloc (.cells (r.map (Value.int .i64)).toArray 3)).alloc (.cells (s.map (Value.int .i64)).toArray 3)).alloc (.cells (t.map (Value.int .i64)).toArray 3)).alloc (.cells #[.slice (some ⟨w.heap.size, 0, none⟩) r.length r.length, .slice (some ⟨w.heap.size + 1, 0, none⟩) s.length s.length, .slice (some ⟨w.heap.size + 1 + 1, 0, none⟩) t.length t.length] 31)) everywhere [.slice (some ⟨w.heap.size + 1 + 1 + 1, 0, none⟩) 3 3] [r, s, t] := by
  have e1 : (w.alloc (.cells (r.map (Value.int .i64)).toArray 3)).heap.size = w.heap.size + 1 := by simp
  have e2 : ((w.alloc (.cells (r.map (Value.int .i64)).toArray 3)).alloc (.cells (s.map (Value.int .i64)).toArray 3)).heap.size = w.heap.size + 1 + 1 := by simp
  have e3 : (((w.alloc (.cells (r.map (Value.int .i64)).toArray 3)).alloc (.cells (s.map (Value.int .i64)).toArray 3)).alloc (.cells (t.map (Value.int .i64)).toArray 3)).heap.size = w.heap.size + 1 + 1 + 1 := by simp
  have h1 := Shape.below (Shape.below (row_lit w r 3 (by unfold maxLen; omega)) (new_bel _ (.cells (s.map (Value.int .i64)).toArray 3))) (new_bel _ (.cells (t.map (Value.int .i64)).toArray 3))
  have h2 := row_lit (w.alloc (.cells (r.map (Value.int .i64)).toArray 3)) s 3 (by unfold maxLen; omega)
  rw [e1] at h2
  have h2 := Shape.below h2 (new_bel _ (.cells (t.map (Value.int .i64)).toArray 3))
  have h3 := row_lit ((w.alloc (.cells (r.map (Value.int .i64)).toArray 3)).alloc (.cells (s.map (Value.int .i64)).toArray 3)) t 3 (by unfold maxLen; omega)
  rw [e2] at h3
  have h4 := rep_lit [[.slice (some ⟨w.heap.size, 0, none⟩) r.length r.length], [.slice (some ⟨w.heap.size + 1, 0, none⟩) s.length s.length], [.slice (some ⟨w.heap.size + 1 + 1, 0, none⟩) t.length t.length]] [r, s, t] 31 (Shape.all_append (Shape.all_one h1) (Shape.all_append (Shape.all_one h2) (Shape.all_one h3))) (by show 3 ≤ maxLen; decide)
  rw [e3] at h4
  exact h4
set_option maxRecDepth 100000 in
set_option maxHeartbeats 4000000 in
theorem sfresh (w : World) : Calls Tryz.prog 12 #[] w fun e w' => Below w.heap.size w w' ∧ ∃ p V, e = .returned (.pointer (some ⟨p, 0, none⟩)) ∧ (∀ b, V b → w.heap.size ≤ b) ∧ FlAt (fun _ => False) V w' p 1 Sc.msS Sc.begun (Ft.qs Sc.msS Sc.begun) := by
  have h1 := mat_one w 65536
  have hA := bel_two w (.cells #[.int .i64 65536] 3) (.cells #[.slice (some ⟨w.heap.size, 0, none⟩) 1 1] 31)
  obtain ⟨A, HA⟩ : ∃ A, Hid (A = (w.alloc (.cells #[.int .i64 65536] 3)).alloc (.cells #[.slice (some ⟨w.heap.size, 0, none⟩) 1 1] 31)) := ⟨_, rfl⟩
  have sA : A.heap.size = w.heap.size + 1 + 1 := by rw [HA.out]; simp
  rw [← HA.out] at h1 hA
  have h2 := mat_one A 131072
  have hB := bel_two A (.cells #[.int .i64 131072] 3) (.cells #[.slice (some ⟨A.heap.size, 0, none⟩) 1 1] 31)
  rw [sA] at h2 hB
  obtain ⟨B, HB⟩ : ∃ B, Hid (B = (A.alloc (.cells #[.int .i64 131072] 3)).alloc (.cells #[.slice (some ⟨w.heap.size + 1 + 1, 0, none⟩) 1 1] 31)) := ⟨_, rfl⟩
  rw [← HB.out] at h2 hB
  rw [← sA] at hB
  have h1B := Shape.below h1 hB
  have hBw := bel_then hA hB
  have HBE : Hid (B = (((w.alloc (.cells #[.int .i64 65536] 3)).alloc (.cells #[.slice (some ⟨w.heap.size, 0, none⟩) 1 1] 31)).alloc (.cells #[.int .i64 131072] 3)).alloc (.cells #[.slice (some ⟨w.heap.size + 1 + 1, 0, none⟩) 1 1] 31)) := by show _ = _; rw [HB.out, HA.out]
  clear h1 hA HA sA hB HB
  go_enter Tryz.func12, Tryz.ntmps12
  go_upto_region 2 with fail
  rw [← HBE.out]
  clear HBE
  have hg := mat_two B 65536 0
  obtain ⟨C, HC⟩ : ∃ C, Hid (C = ((B.alloc (.cells #[.int .i64 65536] 3)).alloc (.cells #[.int .i64 0] 3)).alloc (.cells #[.slice (some ⟨B.heap.size, 0, none⟩) 1 1, .slice (some ⟨B.heap.size + 1, 0, none⟩) 1 1] 31)) := ⟨_, rfl⟩
  have sC : C.heap.size = B.heap.size + 1 + 1 + 1 := by rw [HC.out]; simp
  have hCb : Below B.heap.size B C := by rw [HC.out]; exact bel_alloc (bel_two _ _ _) _
  rw [← HC.out] at hg
  have h1C := Shape.below h1B hCb
  have h2C := Shape.below h2 hCb
  have hx := rep_lit [[.slice (some ⟨w.heap.size + 1, 0, none⟩) 1 1, .slice (some ⟨w.heap.size + 1, 0, none⟩) 1 1], [.slice (some ⟨w.heap.size + 1, 0, none⟩) 1 1, .slice (some ⟨w.heap.size + 1 + 1 + 1, 0, none⟩) 1 1]] [(([[65536]], [[65536]], ()) : Xp), ([[65536]], [[131072]], ())] 34 (Shape.all_append (Shape.all_one (xp_rep h1C h1C)) (Shape.all_one (xp_rep h1C h2C))) (by show 2 ≤ maxLen; decide)
  have hx2 : xpsS.rep (C.alloc (.cells #[.slice (some ⟨w.heap.size + 1, 0, none⟩) 1 1, .slice (some ⟨w.heap.size + 1, 0, none⟩) 1 1, .slice (some ⟨w.heap.size + 1, 0, none⟩) 1 1, .slice (some ⟨w.heap.size + 1 + 1 + 1, 0, none⟩) 1 1] 34)) everywhere [.slice (some ⟨C.heap.size, 0, none⟩) 2 2] [([[65536]], [[65536]], ()), ([[65536]], [[131072]], ())] := hx
  have hgD := Shape.below hg (new_bel C (.cells #[.slice (some ⟨w.heap.size + 1, 0, none⟩) 1 1, .slice (some ⟨w.heap.size + 1, 0, none⟩) 1 1, .slice (some ⟨w.heap.size + 1, 0, none⟩) 1 1, .slice (some ⟨w.heap.size + 1 + 1 + 1, 0, none⟩) 1 1] 34))
  rw [sC] at hx2
  obtain ⟨D, HD⟩ : ∃ D, Hid (D = C.alloc (.cells #[.slice (some ⟨w.heap.size + 1, 0, none⟩) 1 1, .slice (some ⟨w.heap.size + 1, 0, none⟩) 1 1, .slice (some ⟨w.heap.size + 1, 0, none⟩) 1 1, .slice (some ⟨w.heap.size + 1 + 1 + 1, 0, none⟩) 1 1] 34)) := ⟨_, rfl⟩
  have sD : D.heap.size = B.heap.size + 1 + 1 + 1 + 1 := by rw [HD.out, ← sC]; simp
  have hDb : Below B.heap.size B D := by rw [HD.out]; exact bel_alloc hCb _
  rw [← HD.out] at hx2 hgD
  have hE := new_bel D (.cells #[.slice (some ⟨B.heap.size + 1 + 1, 0, none⟩) 2 2, .slice (some ⟨B.heap.size + 1 + 1 + 1, 0, none⟩) 2 2, .int .i64 2] 37)
  have kl := Box.new D 37 #[.slice (some ⟨B.heap.size + 1 + 1, 0, none⟩) 2 2, .slice (some ⟨B.heap.size + 1 + 1 + 1, 0, none⟩) 2 2, .int .i64 2]
  rw [sD] at kl
  have hgE := Shape.below hgD hE
  have hxE := Shape.below hx2 hE
  have hEb := bel_then hBw (bel_then hDb hE)
  have HEE : Hid (D.alloc (.cells #[.slice (some ⟨B.heap.size + 1 + 1, 0, none⟩) 2 2, .slice (some ⟨B.heap.size + 1 + 1 + 1, 0, none⟩) 2 2, .int .i64 2] 37) = ((((B.alloc (.cells #[.int .i64 65536] 3)).alloc (.cells #[.int .i64 0] 3)).alloc (.cells #[.slice (some ⟨B.heap.size, 0, none⟩) 1 1, .slice (some ⟨B.heap.size + 1, 0, none⟩) 1 1] 31)).alloc (.cells #[.slice (some ⟨w.heap.size + 1, 0, none⟩) 1 1, .slice (some ⟨w.heap.size + 1, 0, none⟩) 1 1, .slice (some ⟨w.heap.size + 1, 0, none⟩) 1 1, .slice (some ⟨w.heap.size + 1 + 1 + 1, 0, none⟩) 1 1] 34)).alloc (.cells #[.slice (some ⟨B.heap.size + 1 + 1, 0, none⟩) 2 2, .slice (some ⟨B.heap.size + 1 + 1 + 1, 0, none⟩) 2 2, .int .i64 2] 37)) := by show _ = _; rw [HD.out, HC.out]
  clear hx hg h1C h2C hx2 hgD h1B h2 hCb hDb hE sC hBw
  generalize hEq : D.alloc (.cells #[.slice (some ⟨B.heap.size + 1 + 1, 0, none⟩) 2 2, .slice (some ⟨B.heap.size + 1 + 1 + 1, 0, none⟩) 2 2, .int .i64 2] 37) = E at *
  clear hEq HC HD sD
  go_upto_region 3 with fail
  rw [← HEE.out]
  clear HEE
  have l0 := kl.cell 0 rfl
  have l1 := kl.cell 1 rfl
  have l2 := kl.cell 2 rfl
  have hl := rep_lit [[.slice (some ⟨B.heap.size + 1 + 1, 0, none⟩) 2 2, .slice (some ⟨B.heap.size + 1 + 1 + 1, 0, none⟩) 2 2, .int .i64 2]] Sc.msS 37 (Shape.all_one (ly_rep 2 hgE hxE)) (by show 1 ≤ maxLen; decide)
  obtain ⟨F, HF⟩ : ∃ F, Hid (F = E.alloc (.cells #[.slice (some ⟨B.heap.size + 1 + 1, 0, none⟩) 2 2, .slice (some ⟨B.heap.size + 1 + 1 + 1, 0, none⟩) 2 2, .int .i64 2] 37)) := ⟨_, rfl⟩
  have sF : F.heap.size = E.heap.size + 1 := by rw [HF.out]; simp
  have hFb : Below E.heap.size E F := by rw [HF.out]; exact new_bel _ _
  have hlF : lysS.rep F everywhere [.slice (some ⟨E.heap.size, 0, none⟩) 1 1] Sc.msS := by rw [HF.out]; exact hl
  have hh := two_rows F [1, 2] [1, 2] (by decide) (by decide)
  rw [sF] at hh
  obtain ⟨G, HG⟩ : ∃ G, Hid (G = ((F.alloc (.cells #[.int .i64 1, .int .i64 2] 3)).alloc (.cells #[.int .i64 1, .int .i64 2] 3)).alloc (.cells #[.slice (some ⟨E.heap.size + 1, 0, none⟩) 2 2, .slice (some ⟨E.heap.size + 1 + 1, 0, none⟩) 2 2] 31)) := ⟨_, rfl⟩
  have sG : G.heap.size = E.heap.size + 1 + 1 + 1 + 1 := by rw [HG.out, ← sF]; simp
  have hGb : Below F.heap.size F G := by rw [HG.out]; exact bel_alloc (bel_two _ _ _) _
  have hhG : matS.rep G everywhere [.slice (some ⟨E.heap.size + 1 + 1 + 1, 0, none⟩) 2 2] Sc.hS := by rw [HG.out]; exact hh
  have hlG := Shape.below hlF hGb
  have ht := three_rows G [100] [50] [7] (by decide) (by decide) (by decide)
  rw [sG] at ht
  obtain ⟨X, HX⟩ : ∃ X, Hid (X = (((G.alloc (.cells #[.int .i64 100] 3)).alloc (.cells #[.int .i64 50] 3)).alloc (.cells #[.int .i64 7] 3)).alloc (.cells #[.slice (some ⟨E.heap.size + 1 + 1 + 1 + 1, 0, none⟩) 1 1, .slice (some ⟨E.heap.size + 1 + 1 + 1 + 1 + 1, 0, none⟩) 1 1, .slice (some ⟨E.heap.size + 1 + 1 + 1 + 1 + 1 + 1, 0, none⟩) 1 1] 31)) := ⟨_, rfl⟩
  have hXb : Below G.heap.size G X := by rw [HX.out]; exact bel_alloc (bel_alloc (bel_two _ _ _) _) _
  have htX : matS.rep X everywhere [.slice (some ⟨E.heap.size + 1 + 1 + 1 + 1 + 1 + 1 + 1, 0, none⟩) 3 3] Sc.tS := by rw [HX.out]; exact ht
  have hlX := Shape.below hlG hXb
  have hhX := Shape.below hhG hXb
  have hBX := bel_then hEb (bel_then hFb (bel_then hGb hXb))
  have HN : Hid (Calls _ _ _ _ _) := fnew (I := (· < X.heap.size)) (O := fun _ => False) 1 _ 1 1 Sc.msS 0 _ 2 2 Sc.hS _ 3 3 Sc.tS X ⟨Shape.low hlX, Shape.low hhX, Shape.low htX, fun _ hb => hb, by omega, fun l hl => Md.right_lsized (Sc.mayS.1.2.2.2.2 l hl) (by omega), ⟨by decide, fun l hl => by simp only [Sc.hS, List.mem_cons, List.not_mem_nil, or_false, or_self] at hl; rw [hl]; decide⟩, ⟨by decide, fun l hl => by simp only [Sc.tS, List.mem_cons, List.not_mem_nil, or_false] at hl; rcases hl with h | h | h <;> (rw [h]; decide)⟩⟩ (fun _ hb => hb.elim) Sc.mayS
  have HBX : Hid (Below w.heap.size w X) := hBX
  have HXE : Hid (X = (((((((E.alloc (.cells #[.slice (some ⟨B.heap.size + 1 + 1, 0, none⟩) 2 2, .slice (some ⟨B.heap.size + 1 + 1 + 1, 0, none⟩) 2 2, .int .i64 2] 37)).alloc (.cells #[.int .i64 1, .int .i64 2] 3)).alloc (.cells #[.int .i64 1, .int .i64 2] 3)).alloc (.cells #[.slice (some ⟨E.heap.size + 1, 0, none⟩) 2 2, .slice (some ⟨E.heap.size + 1 + 1, 0, none⟩) 2 2] 31)).alloc (.cells #[.int .i64 100] 3)).alloc (.cells #[.int .i64 50] 3)).alloc (.cells #[.int .i64 7] 3)).alloc (.cells #[.slice (some ⟨E.heap.size + 1 + 1 + 1 + 1, 0, none⟩) 1 1, .slice (some ⟨E.heap.size + 1 + 1 + 1 + 1 + 1, 0, none⟩) 1 1, .slice (some ⟨E.heap.size + 1 + 1 + 1 + 1 + 1 + 1, 0, none⟩) 1 1] 31)) := by show _ = _; rw [HX.out, HG.out, HF.out]
  clear hl hlF hh hhG hlG ht htX hlX hhX hBX hXb hGb hFb sG sF HX HG HF hEb hgE hxE kl
  go_wp2_with (go_at_call 17; rw [← HXE.out]; refine HN.out.mono ?_; rintro e u1 ⟨hb1, p, V, rfl, hV, hat⟩)
  go_ret
  exact ⟨bel_then HBX.out hb1, p, V, rfl, fun b hb => Nat.le_trans HBX.out.size (hV b hb), hat⟩

end Go.Proofs.YtokfcjgfpchffaaGreatDoor
