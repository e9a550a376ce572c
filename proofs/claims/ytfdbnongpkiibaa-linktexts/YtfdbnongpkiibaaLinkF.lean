/- What the document's Told, and the statements' helper that copies a link, do when called. -/
import Derived.Test.YtfdbnongpkiibaaLinkE
namespace Go.Proofs.Ytfdbnongpkiibaa
open Go.ChangeShapes Go.WideShapes Go.ChangeAt Go.RowKit

theorem Own.fr_other {w w' : World} {base : Nat} {e : TypeId} {v : Value} {xs : List Fr} {u : Option Nat} (h : Own frS w base e v xs) (hg : w.grownBy w' u) (hne : ∀ b, v.ownBlock = some b → u ≠ some b) : Own frS w' base e v xs := by
  obtain ⟨css, h1, h2⟩ := h
  refine ⟨css, h1.kept hg ?_, h2.1, fun j c x hc hx => ?_⟩
  · cases hv : v.ownBlock with
    | none => exact .inl rfl
    | some b => exact .inr (fun c => hne b hv c.symm)
  · rw [fr_is (h2.2 j c x hc hx)]
    exact fr_rep _ _ x
theorem Own.low {α : Type} {A : Shape α} {w : World} {base base' : Nat} {e : TypeId} {v : Value} {xs : List α} (h : Own A w base e v xs) (hb : base' ≤ base) : Own A w base' e v xs := by
  obtain ⟨css, ⟨h0, h1⟩, h2⟩ := h
  refine ⟨css, ⟨h0, ?_⟩, h2⟩
  rcases h1 with h1 | ⟨g, cap, cur, e1, e2, e3⟩
  · exact .inl h1
  · exact .inr ⟨g, cap, cur, e1, Nat.le_trans hb e2, e3⟩
theorem Box.set1 {u : World} {b : Nat} {t : TypeId} {p0 p1 : Value} (h : Box u b t #[p0, p1]) (v : Value) : Box (u.setCell ⟨b, 1, none⟩ v) b t #[p0, v] := by
  have := h.set 1 v
  simp only [List.setIfInBounds_toArray, List.set_cons_zero, List.set_cons_succ] at this
  exact this

set_option maxHeartbeats 4000000 in
theorem rltold (next : Int) (a : Option Addr) (n c : Nat) (l : List Fr) (q : Int) (w : World) (h : frsS.rep w everywhere [.slice a n c] l) (hn : n ≤ 1000) :
    Calls Try.prog 13 #[.agg #[.int .i64 next, .slice a n c], .int .i64 q] w fun e w' => Below w.heap.size w w' ∧ ∃ a' n' c', e = .returned (.agg #[.int .i64 next, .slice a' n' c']) ∧ frsS.rep w' (w.heap.size ≤ ·) [.slice a' n' c'] (Lx.told l q) := by
  have hl := (sliceS_len h).1
  have hA := Shape.low h
  obtain ⟨i0, hi0, hi1, hi2, hi3⟩ := info_parts Try.infoRframe
  obtain ⟨q1, q2, q3⟩ := three_vars w 27 27 27 #[.int .i64 next, .slice a n c] #[.int .i64 0, .slice none 0 0] #[.int .i64 next, .slice none 0 0]
  have HQ : Hid _ := And.intro q1 (And.intro q2 q3)
  have HL : Hid (l.length = n) := hl
  clear h q1 q2 q3 hl
  go_enter Try.func13, Try.ntmps13
  go_wp2
  go_loopw [6] (fun i wr => ∃ (k m : Nat) (va : Option Addr) (vc : Nat), k ≤ n ∧ m ≤ k ∧ (Lx.told (l.take k) q).length = m ∧ i = .int .i64 k ∧ Box wr w.heap.size 27 #[.int .i64 next, .slice a n c] ∧ Box wr (w.heap.size + 1) 27 #[.int .i64 0, .slice none 0 0] ∧ Box wr (w.heap.size + 2) 27 #[.int .i64 next, .slice va m vc] ∧ Own frS wr (w.heap.size + 3) 40 (.slice va m vc) (Lx.told (l.take k) q) ∧ Below w.heap.size w wr) (fun i _ => n - (intOf i).toNat)
  case atStart => exact ⟨0, 0, none, 0, Nat.zero_le _, Nat.le_refl _, rfl, rfl, HQ.out.1, HQ.out.2.1, HQ.out.2.2, Own.nil _ _ _ _, bel_alloc (bel_alloc (new_bel _ _) _) _⟩
  case round =>
    clear HQ
    obtain ⟨k, m, va, vc, hk, hmk, hm, rfl, hb1, hb2, hb3, hown, hbel⟩ := hrel
    have HM : Hid ((Lx.told (l.take k) q).length = m) := hm
    clear hm
    have p0 := hb1.cell 0 rfl
    have p1 := hb1.cell 1 rfl
    have r0 := hb3.cell 0 rfl
    have r1 := hb3.cell 1 rfl
    have s0 := hb3.free 0
    have s1 := hb3.free 1
    by_cases hlt : k < n
    · obtain ⟨g1, o1, rfl, _, hgw, c1, c2⟩ := fr_at (Shape.now hA hbel) hlt
      have hli : (k : Int) < (n : Int) := by omega
      have hk0 : (0 : Int) ≤ (k : Int) := by omega
      obtain ⟨x, hx⟩ : ∃ x, (l.getD k fr0).1 = x := ⟨_, rfl⟩
      obtain ⟨y, hy⟩ : ∃ y, (l.getD k fr0).2.1 = y := ⟨_, rfl⟩
      rw [hx] at c1
      rw [hy] at c2
      have HE : Hid (l.getD k fr0 = fr x y) := by show _ = _; rw [fr_eta (l.getD k fr0), hx, hy]
      clear hx hy
      by_cases hq : x = q
      · have e : (x != q) = false := by simpa using hq
        have HS : Hid (Lx.told (l.take (k + 1)) q = Lx.told (l.take k) q) := by
          show _ = _
          rw [Lx.take_step (by have := HL.out; omega), Lx.told_append, HE.out, Lx.told_yes (by exact hq), List.append_nil]
        clear hq
        go_wp2
        go_roundw
        case rel => exact ⟨k + 1, m, va, vc, by omega, by omega, by rw [HS.out]; exact HM.out, by go_num, hb1, hb2, hb3, by rw [HS.out]; exact hown, hbel⟩
        case measure => simp [intOf]; omega
      · have e : (x != q) = true := by simpa using hq
        have HS : Hid (Lx.told (l.take k) q ++ [fr x y] = Lx.told (l.take (k + 1)) q) := by
          show _ = _
          rw [Lx.take_step (by have := HL.out; omega), Lx.told_append, HE.out, Lx.told_no (by exact hq)]
        clear hq
        have hNe : some (w.heap.size + 2) ≠ Value.ownBlock (.slice va m vc) := fun h => by have := (hown.lt _ h.symm).1; omega
        have hNe0 : some w.heap.size ≠ Value.ownBlock (.slice va m vc) := fun h => by have := (hown.lt _ h.symm).1; omega
        have hNe1 : some (w.heap.size + 1) ≠ Value.ownBlock (.slice va m vc) := fun h => by have := (hown.lt _ h.symm).1; omega
        have hlt2 := hb3.lt
        have pa : ∀ o, (wr.alloc o).cell? ⟨w.heap.size + 2, 1, none⟩ = some (.slice va m vc) := fun o => (hb3.keep (new_bel wr o)).cell 1 rfl
        have hbn := (new_bel wr (.cells #[.int .i64 x, .string y] 40)).drew
        have ho2 := hown.keep hbn
        have hsrc := hown.fsrc (fr x y)
        have hsrc1 : frsS.rep (wr.alloc (.cells #[.int .i64 x, .string y] 40)).drew (fun b => False ∨ b = wr.heap.size) [.slice (some ⟨wr.heap.size, 0, none⟩) 1 1] [fr x y] := hsrc.1
        have hsrc2 := hsrc.2
        have hsm : (Lx.told (l.take k) q).length + 1 ≤ 100000 := by rw [HM.out]; omega
        have hbs : w.heap.size + 3 ≤ (wr.alloc (.cells #[.int .i64 x, .string y] 40)).drew.heap.size := by simp; omega
        have hln : (Lx.told (l.take k) q).length + 1 = m + 1 := by rw [HM.out]
        have kk1 := hb1.keep hbn
        have kk2 := hb2.keep hbn
        have kk3 := hb3.keep hbn
        have hBB := bel_then hbel hbn
        clear hsrc hown hb1 hb2 hb3 hbel hbn
        go_wp2
        go_region_law
          (first
            | (refine step_app frS (by simp [Region.wanted]) (.tmp 26) (.tmp 32) 25 (by rfl) (w.heap.size + 3) 40 i0 (.agg #[.int .i64 0, .string ByteArray.empty]) 24 Try.underlying25 hi0 hi1 hi2 hi3 rfl (Nat.succ_pos 1) (by omega) (by rfl) ho2 (by rfl) hsrc1 hsrc2 hsm hbs (m + 1) hln (Lx.told (l.take (k + 1)) q) HS.out ?_; intro a6 c6 u6 ho6 hg6 hb6 hat6; have kb1 := kk1.grown hg6 hNe0; have kb2 := kk2.grown hg6 hNe1; have kb3 := kk3.grown hg6 hNe; have z1' := kb3.cell 1 rfl; have f1' := kb3.free 1)
            | (go_simp; go_wp2))
        all_goals
          go_wp2
          go_roundw
          case rel =>
            refine ⟨k + 1, m + 1, a6, c6, by omega, by omega, ?_, by go_num, kb1.other _ (by omega), kb2.other _ (by omega), kb3.set1 _, ?_, ?_⟩
            · rw [← HS.out, List.length_append, HM.out]; rfl
            · exact Own.fr_other ho6 (grown_set u6 (w.heap.size + 2) 1 _) (fun b hb h => by have := (ho6.lt b hb).1; have := Option.some.inj h; omega)
            · exact bel_put (hBB.trans (hb6.mono (by omega))) (by omega) _
          case measure => simp [intOf]; omega
    · have hkn : k = n := by omega
      subst hkn
      have hli : ¬ (k : Int) < (k : Int) := by omega
      have ht : l.take k = l := List.take_of_length_le (by have := HL.out; omega)
      rw [ht] at hown
      clear ht
      have t0 := hb2.cell 0 rfl
      have t1 := hb2.cell 1 rfl
      have f0 := hb2.free 0
      have f1 := hb2.free 1
      have hr := hown.frs
      clear hown
      go_wp2
      refine ret_one Try.underlying27 Try.infoRlink rfl rfl rfl (hb2.all2 _ _) rfl ?_
      exact ⟨bel_all2 hbel (by omega) _ _, va, m, vc, rfl, frsS.mono (Shape.all2 hr (fun k hk _ => by omega) _ _) fun b hb _ => by omega⟩

end Go.Proofs.Ytfdbnongpkiibaa
