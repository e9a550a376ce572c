/- What link.Told and link.Push do when called. -/
import Derived.Test.YtfdbnongpkiibaaLinkC
namespace Go.Proofs.Ytfdbnongpkiibaa
open Go.ChangeShapes Go.WideShapes Go.ChangeAt Go.RowKit

theorem two_vars (w : World) (t1 t2 : TypeId) (cs ds : Array Value) : Box ((w.alloc (.cells cs t1)).alloc (.cells ds t2)) w.heap.size t1 cs ∧ Box ((w.alloc (.cells cs t1)).alloc (.cells ds t2)) (w.heap.size + 1) t2 ds := by
  refine ⟨(Box.new w _ _).keep (new_bel _ _), ?_⟩
  have := Box.new (w.alloc (.cells cs t1)) t2 ds
  rwa [show (w.alloc (.cells cs t1)).heap.size = w.heap.size + 1 by simp] at this
theorem three_vars (w : World) (t1 t2 t3 : TypeId) (cs ds es : Array Value) : Box (((w.alloc (.cells cs t1)).alloc (.cells ds t2)).alloc (.cells es t3)) w.heap.size t1 cs ∧ Box (((w.alloc (.cells cs t1)).alloc (.cells ds t2)).alloc (.cells es t3)) (w.heap.size + 1) t2 ds ∧ Box (((w.alloc (.cells cs t1)).alloc (.cells ds t2)).alloc (.cells es t3)) (w.heap.size + 2) t3 es := by
  obtain ⟨h1, h2⟩ := two_vars w t1 t2 cs ds
  refine ⟨h1.keep (new_bel _ _), h2.keep (new_bel _ _), ?_⟩
  have := Box.new ((w.alloc (.cells cs t1)).alloc (.cells ds t2)) t3 es
  rwa [show ((w.alloc (.cells cs t1)).alloc (.cells ds t2)).heap.size = w.heap.size + 2 by simp] at this

set_option maxHeartbeats 2000000 in
theorem ltold (next : Int) (a : Option Addr) (n c : Nat) (l : List Fr) (q : Int) (w : World) (h : frsS.rep w everywhere [.slice a n c] l) (hn : n ≤ 1000) :
    Calls Try.prog 11 #[.agg #[.int .i64 next, .slice a n c], .int .i64 q] w fun e w' => Below w.heap.size w w' ∧ ∃ a' n' c', e = .returned (.agg #[.int .i64 next, .slice a' n' c']) ∧ frsS.rep w' (w.heap.size ≤ ·) [.slice a' n' c'] (Lx.told l q) := by
  have hA := Shape.low h
  obtain ⟨q1, q2, q3⟩ := three_vars w 24 3 24 #[.int .i64 next, .slice a n c] #[.int .i64 q] #[.int .i64 0, .slice none 0 0]
  have hB0 : Below w.heap.size w (((w.alloc (.cells #[.int .i64 next, .slice a n c] 24)).alloc (.cells #[.int .i64 q] 3)).alloc (.cells #[.int .i64 0, .slice none 0 0] 24)) := bel_alloc (bel_alloc (new_bel _ _) _) _
  have hsz : (((w.alloc (.cells #[.int .i64 next, .slice a n c] 24)).alloc (.cells #[.int .i64 q] 3)).alloc (.cells #[.int .i64 0, .slice none 0 0] 24)).heap.size = w.heap.size + 3 := by simp
  obtain ⟨W, hW⟩ : ∃ W, W = (((w.alloc (.cells #[.int .i64 next, .slice a n c] 24)).alloc (.cells #[.int .i64 q] 3)).alloc (.cells #[.int .i64 0, .slice none 0 0] 24)) := ⟨_, rfl⟩
  rw [← hW] at q1 q2 q3 hB0 hsz
  have hD : Below W.heap.size W W.drew := (Below.refl _ W).drew
  have HC : Hid (Calls _ _ _ _ _) := fclone a n c l W.drew (Shape.any (Shape.now hA (bel_then hB0 hD))) hn
  have hszD : W.drew.heap.size = W.heap.size := rfl
  rw [hW] at HC
  have HW : Hid (W = (((w.alloc (.cells #[.int .i64 next, .slice a n c] 24)).alloc (.cells #[.int .i64 q] 3)).alloc (.cells #[.int .i64 0, .slice none 0 0] 24))) := hW
  have HQ : Hid (Box W w.heap.size 24 #[.int .i64 next, .slice a n c] ∧ Box W (w.heap.size + 1) 3 #[.int .i64 q] ∧ Box W (w.heap.size + 2) 24 #[.int .i64 0, .slice none 0 0] ∧ Below w.heap.size w W ∧ W.heap.size = w.heap.size + 3 ∧ W.drew.heap.size = W.heap.size ∧ Below W.heap.size W W.drew) := ⟨q1, q2, q3, hB0, hsz, hszD, hD⟩
  clear h hW q1 q2 q3 hB0 hsz hszD hD
  go_enter Try.func11, Try.ntmps11
  go_wp2
  go_region_with
    (first
      | (go_at_call 16; refine HC.out.mono ?_; rw [← HW.out]; rintro e u1 ⟨hb1, a1, c1, rfl, ho1⟩; have hb2 := bel_then HQ.out.2.2.2.2.2.2 hb1; have k1 := HQ.out.1.keep hb2; have k2 := HQ.out.2.1.keep hb2; have k3 := HQ.out.2.2.1.keep hb2; have p0 := k1.cell 0 rfl)
      | (go_at_call 18; refine (fdelete a1 n c1 l q (w.heap.size + 1) _ u1 ho1 hn (k2.cell 0 rfl) (by have := HQ.out; omega) hb1.size).mono ?_; rintro e u2 ⟨hb3, n3, rfl, hr3⟩; have k4 := k1.below hb3 (by have := HQ.out; omega); have k5 := k3.below hb3 (by have := HQ.out; omega); have p0' := k4.cell 0 rfl; have z0 := k5.cell 0 rfl; have z1 := k5.cell 1 rfl; have f0 := k5.free 0; have f1 := k5.free 1))
  all_goals
    go_wp2
    have hq := HQ.out
    refine ret_one Try.underlying24 Try.infoLink rfl rfl rfl (k5.all2 _ _) rfl ?_
    exact ⟨bel_all2 (bel_then hq.2.2.2.1 (hb2.trans (hb3.mono (by omega)))) (by omega) _ _, a1, n3, c1, rfl, frsS.mono (Shape.all2 hr3 (fun k hk _ => by omega) _ _) fun b hb _ => by omega⟩

/-- The frame that 'append(v, x)' appends: in a block of its own. -/
theorem Own.fsrc {w : World} {base : Nat} {e : TypeId} {v : Value} {xs : List Fr} (x : Fr) (h : Own frS w base e v xs) :
    frsS.rep (w.alloc (.cells #[.int .i64 x.1, .string x.2.1] e)) (fun b => False ∨ b = w.heap.size) [.slice (some ⟨w.heap.size, 0, none⟩) 1 1] [x] ∧ ∀ b, (False ∨ b = w.heap.size) → some b ≠ v.ownBlock := by
  refine ⟨rep_at (cs := [.int .i64 x.1, .string x.2.1]) (F := fun _ => False) (fr_rep _ _ x) (heap_new _ _ _ rfl), fun b hb h' => ?_⟩
  have := (h.lt b h'.symm).2
  rcases hb with hf | rfl
  · exact hf
  · omega

set_option maxHeartbeats 2000000 in
theorem lpush (next : Int) (a : Option Addr) (n c : Nat) (l : List Fr) (t : ByteArray) (w : World) (h : frsS.rep w everywhere [.slice a n c] l) (hn : n ≤ 1000) (E N : Int) (Q : List Fr) (M : Int) (hP : Lx.Push next l t E N Q M) (m : Nat) (hm : Q.length = m) :
    Calls Try.prog 10 #[.agg #[.int .i64 next, .slice a n c], .string t] w fun e w' => Below w.heap.size w w' ∧ ∃ a' c', e = .returned (.tuple #[.agg #[.int .i64 N, .slice a' m c'], .int .i64 M, .int .i64 E]) ∧ frsS.rep w' (w.heap.size ≤ ·) [.slice a' m c'] Q := by
  have hl := (sliceS_len h).1
  have hA := Shape.low h
  obtain ⟨i0, hi0, hi1, hi2, hi3⟩ := info_parts Try.infoFrame
  obtain ⟨q1, q2⟩ := two_vars w 24 24 #[.int .i64 next, .slice a n c] #[.int .i64 0, .slice none 0 0]
  have HQ : Hid (Box ((w.alloc (.cells #[.int .i64 next, .slice a n c] 24)).alloc (.cells #[.int .i64 0, .slice none 0 0] 24)) w.heap.size 24 #[.int .i64 next, .slice a n c] ∧ Box ((w.alloc (.cells #[.int .i64 next, .slice a n c] 24)).alloc (.cells #[.int .i64 0, .slice none 0 0] 24)) (w.heap.size + 1) 24 #[.int .i64 0, .slice none 0 0] ∧ Below w.heap.size w ((w.alloc (.cells #[.int .i64 next, .slice a n c] 24)).alloc (.cells #[.int .i64 0, .slice none 0 0] 24))) := ⟨q1, q2, bel_alloc (new_bel _ _) _⟩
  have HP : Hid (Lx.Push next l t E N Q M) := hP
  have HM : Hid (Q.length = m) := hm
  have HL : Hid (l.length = n) := hl
  clear q1 q2 h hP hm hl
  go_enter Try.func10, Try.ntmps10
  go_wp2_with fail
  refine (fclone a n c l _ (Shape.any (Shape.now hA HQ.out.2.2)) hn).mono ?_
  rintro e u1 ⟨hb1, a1, c1, rfl, ho1⟩
  have k1 := HQ.out.1.keep hb1
  have k2 := HQ.out.2.1.keep hb1
  have hB := bel_then HQ.out.2.2 hb1
  have ho2 : Own frS u1 (w.heap.size + 2) 45 (.slice a1 n c1) l := by simpa using ho1
  clear HQ hb1 ho1
  have p0 := k1.cell 0 rfl
  have p1 := k1.cell 1 rfl
  go_wp2_with fail
  refine (lright next a n c l u1 (Shape.any (Shape.now hA hB))).mono ?_
  rintro e u2 ⟨hs2, hb2⟩
  have ho3 := ho2.keep hb2
  have k3 := k1.keep hb2
  have k4 := k2.keep hb2
  have hB2 := bel_then hB hb2
  clear k1 k2 hB hb2 ho2 p0 p1
  have p0 := k3.cell 0 rfl
  have p1 := k3.cell 1 rfl
  have z0 := k4.cell 0 rfl
  have z1 := k4.cell 1 rfl
  have f0 := k4.free 0
  have f1 := k4.free 1
  have HO : Hid (frsS.rep ((u2.setCell ⟨w.heap.size + 1, 0, none⟩ (.int .i64 next)).setCell ⟨w.heap.size + 1, 1, none⟩ (.slice a1 n c1)) (w.heap.size ≤ ·) [.slice a1 n c1] l ∧ Below w.heap.size w ((u2.setCell ⟨w.heap.size + 1, 0, none⟩ (.int .i64 next)).setCell ⟨w.heap.size + 1, 1, none⟩ (.slice a1 n c1))) :=
    ⟨frsS.mono (Shape.all2 ho3.frs (fun k hk _ => by omega) _ _) (fun b hb _ => by omega), bel_all2 hB2 (by omega) _ _⟩
  rcases HP.out with ⟨hR, hE, hN, hQ, hM⟩ | ⟨hR, hne, hful, hE, hN, hQ, hM⟩ | ⟨hR, hne, hful, hE, hN, hQ, hM⟩
  · have hmn : m = n := by rw [← HM.out, hQ, HL.out]
    subst hE; subst hN; subst hQ; subst hM; subst hmn
    clear HP HM
    by_cases hr : Lx.Right N Q
    · have htop : N = 2147483647 := Decidable.byContradiction fun h => hR ⟨hr, h⟩
      have eb : (N == 2147483647) = true := by simpa using htop
      rw [hs2.is hr]
      clear hs2 hr hR htop
      go_wp2
      refine ret_three Try.underlying24 Try.infoLink rfl rfl rfl rfl rfl (k4.all2 _ _) rfl ?_
      exact ⟨HO.out.2, a1, c1, rfl, HO.out.1⟩
    · rw [hs2.not hr]
      clear hs2 hr hR
      go_wp2
      refine ret_three Try.underlying24 Try.infoLink rfl rfl rfl rfl rfl (k4.all2 _ _) rfl ?_
      exact ⟨HO.out.2, a1, c1, rfl, HO.out.1⟩
  · have hmn : m = n := by rw [← HM.out, hQ, HL.out]
    have h64 : (64 : Int) ≤ (n : Int) := by have := HL.out; omega
    subst hE; subst hN; subst hQ; subst hM; subst hmn
    have eb : (N == 2147483647) = false := by simpa using hne
    rw [hs2.is hR]
    clear hs2 hR hne HP HM hful
    go_wp2
    refine ret_three Try.underlying24 Try.infoLink rfl rfl rfl rfl rfl (k4.all2 _ _) rfl ?_
    exact ⟨HO.out.2, a1, c1, rfl, HO.out.1⟩
  · have hmn : m = n + 1 := by rw [← HM.out, hQ, List.length_append, HL.out]; rfl
    have h64 : ¬ (64 : Int) ≤ (n : Int) := by have := HL.out; omega
    subst hE; subst hN; subst hM; subst hmn
    have hb0 : 0 ≤ M := hR.1
    have hb1 : M ≤ 2147483647 := hR.2.1
    have eb : (M == 2147483647) = false := by simpa using hne
    have hw : IntKind.i64.wrap (M + 1) = M + 1 := by rw [IntKind.wrap_i64]; omega
    rw [hs2.is hR]
    have HQE : Hid (l ++ [fr M t] = Q) := hQ.symm
    clear hs2 hR hne HP HM hful hQ HO
    have pa : ∀ o, (u2.alloc o).cell? ⟨w.heap.size, 0, none⟩ = some (.int .i64 M) := fun o => (k3.keep (new_bel u2 o)).cell 0 rfl
    have hNe : some w.heap.size ≠ Value.ownBlock (.slice a1 n c1) := fun h => by have := (ho3.lt _ h.symm).1; omega
    have hNe1 : some (w.heap.size + 1) ≠ Value.ownBlock (.slice a1 n c1) := fun h => by have := (ho3.lt _ h.symm).1; omega
    have hlt2 := k4.lt
    have hown := ho3.keep ((new_bel u2 (.cells #[.int .i64 M, .string t] 45)).drew)
    have hsrc := ho3.fsrc (fr M t)
    have hsrc1 : frsS.rep (u2.alloc (.cells #[.int .i64 M, .string t] 45)).drew (fun b => False ∨ b = u2.heap.size) [.slice (some ⟨u2.heap.size, 0, none⟩) 1 1] [fr M t] := hsrc.1
    have hsrc2 := hsrc.2
    have hsm : l.length + 1 ≤ 100000 := by rw [HL.out]; omega
    have hbs : w.heap.size + 2 ≤ (u2.alloc (.cells #[.int .i64 M, .string t] 45)).drew.heap.size := by simp; omega
    have hln : l.length + 1 = n + 1 := by rw [HL.out]
    have kk1 := k3.keep ((new_bel u2 (.cells #[.int .i64 M, .string t] 45)).drew)
    have kk2 := k4.keep ((new_bel u2 (.cells #[.int .i64 M, .string t] 45)).drew)
    have hBB := bel_then hB2 ((new_bel u2 (.cells #[.int .i64 M, .string t] 45)).drew)
    have HH : Hid ((u2.alloc (.cells #[.int .i64 M, .string t] 45)).drew.heap.size = u2.heap.size + 1) := by show _ = _; simp
    clear hsrc ho3
    go_wp2
    go_region_held3 (fun w' => w'.cell? ⟨w.heap.size, 0, none⟩ = some (.int .i64 M))
      (first
        | go_keep
        | exact p0'
        | exact pa _
        | exact p9' _ _)
      (first
        | (refine step_app frS (by simp [Region.wanted]) (.tmp 33) (.tmp 38) 22 (by rfl) (w.heap.size + 2) 45 i0 (.agg #[.int .i64 0, .string ByteArray.empty]) 24 Try.underlying22 hi0 hi1 hi2 hi3 rfl (Nat.succ_pos 1) (by omega) (by rfl) hown (by rfl) hsrc1 hsrc2 hsm hbs (n + 1) hln Q HQE.out ?_; intro a6 c6 u6 ho6 hg6 hb6 hat6; have kb1 := kk1.grown hg6 hNe; have kb2 := kk2.grown hg6 hNe1; have p0' := kb1.cell 0 rfl; have z0' := kb2.cell 0 rfl; have z1' := kb2.cell 1 rfl; have f0' := kb2.free 0; have f1' := kb2.free 1; have p9' : ∀ v0 v1, ((u6.setCell ⟨w.heap.size + 1, 0, none⟩ v0).setCell ⟨w.heap.size + 1, 1, none⟩ v1).cell? ⟨w.heap.size, 0, none⟩ = some (.int .i64 M) := fun v0 v1 => (kb1.all2_other (b2 := w.heap.size + 1) (by omega) v0 v1).cell 0 rfl))
    all_goals
      go_wp2
      refine ret_three Try.underlying24 Try.infoLink rfl rfl rfl rfl rfl (kb2.all2 _ _) rfl ?_
      exact ⟨bel_all2 (hBB.trans (hb6.mono (by omega))) (by omega) _ _, a6, c6, rfl, frsS.mono (Shape.all2 ho6.frs (fun k hk _ => by omega) _ _) fun b hb _ => by omega⟩

end Go.Proofs.Ytfdbnongpkiibaa
