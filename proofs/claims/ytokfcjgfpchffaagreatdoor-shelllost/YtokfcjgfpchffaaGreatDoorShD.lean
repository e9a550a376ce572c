/- What shell's begin and Run do when called: a script's report. -/
import Derived.Test.YtokfcjgfpchffaaGreatDoorShC
import Derived.Test.YtokfcjgfpchffaaGreatDoorScD
namespace Go.Proofs.YtokfcjgfpchffaaGreatDoor
open Go.ChangeShapes Go.WideShapes Go.ChangeAt Go.RowKit


set_option maxRecDepth 100000 in
set_option maxHeartbeats 4000000 in
theorem sbegin (w : World) : Calls Tryz.prog 29 #[] w fun e w' => Below w.heap.size w w' ∧ ∃ p V, e = .returned (.pointer (some ⟨p, 0, none⟩)) ∧ (∀ b, V b → w.heap.size ≤ b) ∧ FlAt (fun _ => False) V w' p 1 Sc.msS Sc.begun (Ft.qs Sc.msS Sc.begun) := by
  have h1 := mat_one w 65536
  have hA := bel_two w (.cells #[.int .i64 65536] 3) (.cells #[.slice (some ⟨w.heap.size, 0, none⟩) 1 1] 31)
  obtain ⟨A, HA⟩ : ∃ A, Hid (A = (w.alloc (.cells #[.int .i64 65536] 3)).alloc (.cells #[.slice (some ⟨w.heap.size, 0, none⟩) 1 1] 31)) := ⟨_, rfl⟩
  rw [← HA.out] at h1 hA
  -- the gate
  have hg := mat_two A 65536 0
  have hB : Below A.heap.size A _ := bel_alloc (bel_two A (.cells #[.int .i64 65536] 3) (.cells #[.int .i64 0] 3)) (.cells #[.slice (some ⟨A.heap.size, 0, none⟩) 1 1, .slice (some ⟨A.heap.size + 1, 0, none⟩) 1 1] 31)
  obtain ⟨B, HB⟩ : ∃ B, Hid (B = ((A.alloc (.cells #[.int .i64 65536] 3)).alloc (.cells #[.int .i64 0] 3)).alloc (.cells #[.slice (some ⟨A.heap.size, 0, none⟩) 1 1, .slice (some ⟨A.heap.size + 1, 0, none⟩) 1 1] 31)) := ⟨_, rfl⟩
  have sB : B.heap.size = A.heap.size + 1 + 1 + 1 := by rw [HB.out]; simp
  rw [← HB.out] at hg hB
  -- the first expert's Out
  have h2 := mat_one B 65536
  have hC := bel_two B (.cells #[.int .i64 65536] 3) (.cells #[.slice (some ⟨B.heap.size, 0, none⟩) 1 1] 31)
  obtain ⟨C, HC⟩ : ∃ C, Hid (C = (B.alloc (.cells #[.int .i64 65536] 3)).alloc (.cells #[.slice (some ⟨B.heap.size, 0, none⟩) 1 1] 31)) := ⟨_, rfl⟩
  have sC : C.heap.size = B.heap.size + 1 + 1 := by rw [HC.out]; simp
  rw [← HC.out] at h2 hC
  -- the second one's
  have h3 := mat_one C 131072
  have hD := bel_two C (.cells #[.int .i64 131072] 3) (.cells #[.slice (some ⟨C.heap.size, 0, none⟩) 1 1] 31)
  obtain ⟨D, HD⟩ : ∃ D, Hid (D = (C.alloc (.cells #[.int .i64 131072] 3)).alloc (.cells #[.slice (some ⟨C.heap.size, 0, none⟩) 1 1] 31)) := ⟨_, rfl⟩
  have sD : D.heap.size = C.heap.size + 1 + 1 := by rw [HD.out]; simp
  rw [← HD.out] at h3 hD
  have h1D := Shape.below (Shape.below (Shape.below h1 hB) hC) hD
  have h2D := Shape.below h2 hD
  have hgD := Shape.below (Shape.below hg hC) hD
  have hx := rep_lit [[.slice (some ⟨w.heap.size + 1, 0, none⟩) 1 1, .slice (some ⟨B.heap.size + 1, 0, none⟩) 1 1], [.slice (some ⟨w.heap.size + 1, 0, none⟩) 1 1, .slice (some ⟨C.heap.size + 1, 0, none⟩) 1 1]] [(([[65536]], [[65536]], ()) : Xp), ([[65536]], [[131072]], ())] 34 (Shape.all_append (Shape.all_one (xp_rep h1D h2D)) (Shape.all_one (xp_rep h1D h3))) (by show 2 ≤ maxLen; decide)
  have hx2 : xpsS.rep (D.alloc (.cells #[.slice (some ⟨w.heap.size + 1, 0, none⟩) 1 1, .slice (some ⟨B.heap.size + 1, 0, none⟩) 1 1, .slice (some ⟨w.heap.size + 1, 0, none⟩) 1 1, .slice (some ⟨C.heap.size + 1, 0, none⟩) 1 1] 34)) everywhere [.slice (some ⟨D.heap.size, 0, none⟩) 2 2] [([[65536]], [[65536]], ()), ([[65536]], [[131072]], ())] := hx
  have hE := new_bel D (.cells #[.slice (some ⟨w.heap.size + 1, 0, none⟩) 1 1, .slice (some ⟨B.heap.size + 1, 0, none⟩) 1 1, .slice (some ⟨w.heap.size + 1, 0, none⟩) 1 1, .slice (some ⟨C.heap.size + 1, 0, none⟩) 1 1] 34)
  obtain ⟨E, HE⟩ : ∃ E, Hid (E = D.alloc (.cells #[.slice (some ⟨w.heap.size + 1, 0, none⟩) 1 1, .slice (some ⟨B.heap.size + 1, 0, none⟩) 1 1, .slice (some ⟨w.heap.size + 1, 0, none⟩) 1 1, .slice (some ⟨C.heap.size + 1, 0, none⟩) 1 1] 34)) := ⟨_, rfl⟩
  have sE : E.heap.size = D.heap.size + 1 := by rw [HE.out]; simp
  rw [← HE.out] at hx2 hE
  have hgE := Shape.below hgD hE
  -- the layer
  have hF := new_bel E (.cells #[.slice (some ⟨A.heap.size + 1 + 1, 0, none⟩) 2 2, .slice (some ⟨D.heap.size, 0, none⟩) 2 2, .int .i64 2] 37)
  have kl := Box.new E 37 #[.slice (some ⟨A.heap.size + 1 + 1, 0, none⟩) 2 2, .slice (some ⟨D.heap.size, 0, none⟩) 2 2, .int .i64 2]
  have hgF := Shape.below hgE hF
  have hxF := Shape.below hx2 hF
  obtain ⟨F, HF⟩ : ∃ F, Hid (F = E.alloc (.cells #[.slice (some ⟨A.heap.size + 1 + 1, 0, none⟩) 2 2, .slice (some ⟨D.heap.size, 0, none⟩) 2 2, .int .i64 2] 37)) := ⟨_, rfl⟩
  rw [← HF.out] at hF kl hgF hxF
  have hAF := bel_then hA (bel_then hB (bel_then hC (bel_then hD (bel_then hE hF))))
  have zD : D.heap.size = A.heap.size + 1 + 1 + 1 + 1 + 1 + 1 + 1 := by omega
  have zC : C.heap.size = A.heap.size + 1 + 1 + 1 + 1 + 1 := by omega
  have zE : E.heap.size = A.heap.size + 1 + 1 + 1 + 1 + 1 + 1 + 1 + 1 := by omega
  have HFE : Hid (F = ((((((((A.alloc (.cells #[.int .i64 65536] 3)).alloc (.cells #[.int .i64 0] 3)).alloc (.cells #[.slice (some ⟨A.heap.size, 0, none⟩) 1 1, .slice (some ⟨A.heap.size + 1, 0, none⟩) 1 1] 31)).alloc (.cells #[.int .i64 65536] 3)).alloc (.cells #[.slice (some ⟨A.heap.size + 1 + 1 + 1, 0, none⟩) 1 1] 31)).alloc (.cells #[.int .i64 131072] 3)).alloc (.cells #[.slice (some ⟨A.heap.size + 1 + 1 + 1 + 1 + 1, 0, none⟩) 1 1] 31)).alloc (.cells #[.slice (some ⟨w.heap.size + 1, 0, none⟩) 1 1, .slice (some ⟨A.heap.size + 1 + 1 + 1 + 1, 0, none⟩) 1 1, .slice (some ⟨w.heap.size + 1, 0, none⟩) 1 1, .slice (some ⟨A.heap.size + 1 + 1 + 1 + 1 + 1 + 1, 0, none⟩) 1 1] 34)).alloc (.cells #[.slice (some ⟨A.heap.size + 1 + 1, 0, none⟩) 2 2, .slice (some ⟨A.heap.size + 1 + 1 + 1 + 1 + 1 + 1 + 1, 0, none⟩) 2 2, .int .i64 2] 37)) := by
    show _ = _
    rw [HF.out, HE.out, zD, HD.out, zC, HC.out, sB, HB.out]
  rw [zD] at kl hxF
  rw [zE] at kl
  clear h1 hA hg hB h2 hC h3 hD h1D h2D hgD hx hx2 hE hgE hF sB sC sD sE zD zC zE HB HC HD HE HF
  have HAE : Hid (A = (w.alloc (.cells #[.int .i64 65536] 3)).alloc (.cells #[.slice (some ⟨w.heap.size, 0, none⟩) 1 1] 31)) := HA.out
  clear HA
  go_enter Tryz.func29, Tryz.ntmps29
  go_upto_region 2 with fail
  rw [← HAE.out]
  clear HAE
  go_upto_region 3 with fail
  rw [← HFE.out]
  clear HFE
  have l0 := kl.cell 0 rfl
  have l1 := kl.cell 1 rfl
  have l2 := kl.cell 2 rfl
  -- the model
  have hl := rep_lit [[.slice (some ⟨A.heap.size + 1 + 1, 0, none⟩) 2 2, .slice (some ⟨A.heap.size + 1 + 1 + 1 + 1 + 1 + 1 + 1, 0, none⟩) 2 2, .int .i64 2]] Sc.msS 37 (Shape.all_one (ly_rep 2 hgF hxF)) (by show 1 ≤ maxLen; decide)
  have hG := bel_two F (.cells #[.slice (some ⟨A.heap.size + 1 + 1, 0, none⟩) 2 2, .slice (some ⟨A.heap.size + 1 + 1 + 1 + 1 + 1 + 1 + 1, 0, none⟩) 2 2, .int .i64 2] 37) (.cells #[.int .i64 1, .slice (some ⟨F.heap.size, 0, none⟩) 1 1] 41)
  obtain ⟨G, HG⟩ : ∃ G, Hid (G = (F.alloc (.cells #[.slice (some ⟨A.heap.size + 1 + 1, 0, none⟩) 2 2, .slice (some ⟨A.heap.size + 1 + 1 + 1 + 1 + 1 + 1 + 1, 0, none⟩) 2 2, .int .i64 2] 37)).alloc (.cells #[.int .i64 1, .slice (some ⟨F.heap.size, 0, none⟩) 1 1] 41)) := ⟨_, rfl⟩
  have hlG : lysS.rep G everywhere [.slice (some ⟨F.heap.size, 0, none⟩) 1 1] Sc.msS := by rw [HG.out]; exact Shape.below hl (new_bel _ _)
  have km : Box G (F.heap.size + 1) 41 #[.int .i64 1, .slice (some ⟨F.heap.size, 0, none⟩) 1 1] := by
    rw [HG.out]
    have h9 := Box.new (F.alloc (.cells #[.slice (some ⟨A.heap.size + 1 + 1, 0, none⟩) 2 2, .slice (some ⟨A.heap.size + 1 + 1 + 1 + 1 + 1 + 1 + 1, 0, none⟩) 2 2, .int .i64 2] 37)) 41 #[.int .i64 1, .slice (some ⟨F.heap.size, 0, none⟩) 1 1]
    rw [show (F.alloc (.cells #[.slice (some ⟨A.heap.size + 1 + 1, 0, none⟩) 2 2, .slice (some ⟨A.heap.size + 1 + 1 + 1 + 1 + 1 + 1 + 1, 0, none⟩) 2 2, .int .i64 2] 37)).heap.size = F.heap.size + 1 by simp] at h9
    exact h9
  rw [← HG.out] at hG
  have hAG := bel_then hAF hG
  clear hl hG hgF hxF kl hAF
  go_upto_region 4 with fail
  rw [← HG.out]
  clear HG l0 l1 l2
  -- the map
  have hh := two_rows G [1, 2] [1, 2] (by decide) (by decide)
  obtain ⟨I, HI⟩ : ∃ I, Hid (I = ((G.alloc (.cells #[.int .i64 1, .int .i64 2] 3)).alloc (.cells #[.int .i64 1, .int .i64 2] 3)).alloc (.cells #[.slice (some ⟨G.heap.size, 0, none⟩) 2 2, .slice (some ⟨G.heap.size + 1, 0, none⟩) 2 2] 31)) := ⟨_, rfl⟩
  have sI : I.heap.size = G.heap.size + 1 + 1 + 1 := by rw [HI.out]; simp
  have hGI : Below G.heap.size G I := by rw [HI.out]; exact bel_alloc (bel_two _ _ _) _
  have hhI : matS.rep I everywhere [.slice (some ⟨G.heap.size + 1 + 1, 0, none⟩) 2 2] Sc.hS := by rw [HI.out]; exact hh
  have hIK := new_bel I (.cells #[.int .i64 0, .slice (some ⟨G.heap.size + 1 + 1, 0, none⟩) 2 2] 50)
  have kp := Box.new I 50 #[.int .i64 0, .slice (some ⟨G.heap.size + 1 + 1, 0, none⟩) 2 2]
  obtain ⟨K, HK⟩ : ∃ K, Hid (K = I.alloc (.cells #[.int .i64 0, .slice (some ⟨G.heap.size + 1 + 1, 0, none⟩) 2 2] 50)) := ⟨_, rfl⟩
  rw [← HK.out] at hIK kp
  have hhK := Shape.below hhI hIK
  have hlK := Shape.below (Shape.below hlG hGI) hIK
  have hGK := bel_then hGI hIK
  have kmK := km.keep hGK
  have hAK := bel_then hAG hGK
  have HKE : Hid (K = (((G.alloc (.cells #[.int .i64 1, .int .i64 2] 3)).alloc (.cells #[.int .i64 1, .int .i64 2] 3)).alloc (.cells #[.slice (some ⟨G.heap.size, 0, none⟩) 2 2, .slice (some ⟨G.heap.size + 1, 0, none⟩) 2 2] 31)).alloc (.cells #[.int .i64 0, .slice (some ⟨G.heap.size + 1 + 1, 0, none⟩) 2 2] 50)) := by show _ = _; rw [HK.out, HI.out]
  rw [sI] at kp
  clear hh hhI hGI hIK hlG km hAG HI HK sI hGK
  go_upto_region 5 with fail
  rw [← HKE.out]
  clear HKE
  have m0 := kmK.cell 0 rfl
  have m1 := kmK.cell 1 rfl
  have p0 := kp.cell 0 rfl
  have p1 := kp.cell 1 rfl
  -- the tokens
  have ht := three_rows K [100] [50] [7] (by decide) (by decide) (by decide)
  obtain ⟨X, HX⟩ : ∃ X, Hid (X = (((K.alloc (.cells #[.int .i64 100] 3)).alloc (.cells #[.int .i64 50] 3)).alloc (.cells #[.int .i64 7] 3)).alloc (.cells #[.slice (some ⟨K.heap.size, 0, none⟩) 1 1, .slice (some ⟨K.heap.size + 1, 0, none⟩) 1 1, .slice (some ⟨K.heap.size + 1 + 1, 0, none⟩) 1 1] 31)) := ⟨_, rfl⟩
  have hXb : Below K.heap.size K X := by rw [HX.out]; exact bel_alloc (bel_alloc (bel_two _ _ _) _) _
  have htX : matS.rep X everywhere [.slice (some ⟨K.heap.size + 1 + 1 + 1, 0, none⟩) 3 3] Sc.tS := by rw [HX.out]; exact ht
  have hlX := Shape.below hlK hXb
  have hhX := Shape.below hhK hXb
  have HBX := hid (bel_then hAK hXb)
  have HN : Hid (Calls _ _ _ _ _) := fnew (I := (· < X.heap.size)) (O := fun _ => False) 1 _ 1 1 Sc.msS 0 _ 2 2 Sc.hS _ 3 3 Sc.tS X ⟨Shape.low hlX, Shape.low hhX, Shape.low htX, fun _ hb => hb, by omega, fun l hl => Md.right_lsized (Sc.mayS.1.2.2.2.2 l hl) (by omega), ⟨by decide, fun l hl => by simp only [Sc.hS, List.mem_cons, List.not_mem_nil, or_false, or_self] at hl; rw [hl]; decide⟩, ⟨by decide, fun l hl => by simp only [Sc.tS, List.mem_cons, List.not_mem_nil, or_false] at hl; rcases hl with h | h | h <;> (rw [h]; decide)⟩⟩ (fun _ hb => hb.elim) Sc.mayS
  clear ht htX hlX hhX hXb hlK hhK hAK kmK kp
  go_wp2_with (go_at_call 17; rw [← HX.out]; refine HN.out.mono ?_; rintro e u1 ⟨hb1, p, V, rfl, hV, hat⟩)
  go_ret
  exact ⟨bel_then HBX.out hb1, p, V, rfl, fun b hb => Nat.le_trans HBX.out.size (hV b hb), hat⟩

end Go.Proofs.YtokfcjgfpchffaaGreatDoor
