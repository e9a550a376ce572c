/- What the statements' helpers of layer 10 do when called: the copy of a link; the fixed answer. -/
import Derived.Test.YtfdbnongpkiibaaLinkF
namespace Go.Proofs.Ytfdbnongpkiibaa
open Go.ChangeShapes Go.WideShapes Go.ChangeAt Go.RowKit

/-- A link that can be gone through. -/
def Lx.Short (l : List Fr) : Prop := l.length ≤ 100 ∧ ∀ f ∈ l, f.2.1.size ≤ 100

set_option maxHeartbeats 4000000 in
theorem lref (next : Int) (a : Option Addr) (n c : Nat) (l : List Fr) (w : World) (h : frsS.rep w everywhere [.slice a n c] l) :
    Calls Try.prog 8 #[.agg #[.int .i64 next, .slice a n c]] w fun e w' => Below w.heap.size w w' ∧ ∃ a' n' c',
      (Lx.Short l ∧ e = .returned (.tuple #[.agg #[.int .i64 next, .slice a' n c'], .bool true]) ∧ Own frS w' w.heap.size 40 (.slice a' n c') l) ∨
      (¬ Lx.Short l ∧ e = .returned (.tuple #[.agg #[.int .i64 next, .slice a' n' c'], .bool false])) := by
  have hl := (sliceS_len h).1
  have hA := Shape.low h
  obtain ⟨i0, hi0, hi1, hi2, hi3⟩ := info_parts Try.infoRframe
  by_cases h100 : 100 < n
  · obtain ⟨q1, q2, q3⟩ := three_vars w 24 27 27 #[.int .i64 next, .slice a n c] #[.int .i64 next, .slice none 0 0] #[.int .i64 next, .slice none 0 0]
    have HQ : Hid _ := q2
    have hi : (100 : Int) < (n : Int) := by omega
    clear h hA q1 q2 q3
    go_enter Try.func8, Try.ntmps8
    go_wp2
    refine ret_var Try.underlying27 Try.infoRlink rfl rfl rfl rfl HQ.out rfl ?_
    exact ⟨bel_alloc (bel_alloc (new_bel _ _) _) _, none, 0, 0, .inr ⟨fun h => by have := h.1; omega, rfl⟩⟩
  have hi : ¬ (100 : Int) < (n : Int) := by omega
  obtain ⟨q1, q2, q3⟩ := three_vars w 24 27 27 #[.int .i64 next, .slice a n c] #[.int .i64 0, .slice none 0 0] #[.int .i64 next, .slice none 0 0]
  have HQ : Hid _ := And.intro q1 (And.intro q2 q3)
  have HL : Hid (l.length = n) := hl
  clear h q1 q2 q3 hl
  go_enter Try.func8, Try.ntmps8
  go_wp2
  go_loopw [18] (fun i wr => ∃ (k : Nat) (va : Option Addr) (vc : Nat), k ≤ n ∧ (∀ j, j < k → (l.getD j fr0).2.1.size ≤ 100) ∧ i = .int .i64 k ∧ Box wr (w.heap.size + 1) 27 #[.int .i64 0, .slice none 0 0] ∧ Box wr (w.heap.size + 2) 27 #[.int .i64 next, .slice va k vc] ∧ Own frS wr (w.heap.size + 3) 40 (.slice va k vc) (l.take k) ∧ Below w.heap.size w wr) (fun i _ => n - (intOf i).toNat)
  case atStart => exact ⟨0, none, 0, Nat.zero_le _, fun j hj => by omega, rfl, HQ.out.2.1, HQ.out.2.2, Own.nil _ _ _ _, bel_alloc (bel_alloc (new_bel _ _) _) _⟩
  case round =>
    clear HQ
    obtain ⟨k, va, vc, hk, hsm, rfl, hb2, hb3, hown, hbel⟩ := hrel
    have HSM : Hid (∀ j, j < k → (l.getD j fr0).2.1.size ≤ 100) := hsm
    clear hsm
    have r0 := hb3.cell 0 rfl
    have r1 := hb3.cell 1 rfl
    by_cases hlt : k < n
    · obtain ⟨g1, o1, rfl, _, hgw, c1, c2⟩ := fr_at (Shape.now hA hbel) hlt
      have hli : (k : Int) < (n : Int) := by omega
      obtain ⟨x, hx⟩ : ∃ x, (l.getD k fr0).1 = x := ⟨_, rfl⟩
      obtain ⟨y, hy⟩ : ∃ y, (l.getD k fr0).2.1 = y := ⟨_, rfl⟩
      rw [hx] at c1
      rw [hy] at c2
      have HE : Hid (l.getD k fr0 = fr x y) := by show _ = _; rw [fr_eta (l.getD k fr0), hx, hy]
      clear hx hy
      have ra0 : ∀ o, (wr.alloc o).cell? ⟨w.heap.size + 2, 0, none⟩ = some (.int .i64 next) := fun o => (hb3.keep (new_bel wr o)).cell 0 rfl
      have ra1 : ∀ o, (wr.alloc o).cell? ⟨w.heap.size + 2, 1, none⟩ = some (.slice va k vc) := fun o => (hb3.keep (new_bel wr o)).cell 1 rfl
      have hlt2 := hb3.lt
      by_cases hy : 100 < y.size
      · have hyi : (100 : Int) < (y.size : Int) := by omega
        have sa0 : ∀ o, (wr.alloc o).cell? ⟨w.heap.size + 1, 0, none⟩ = some (.int .i64 0) := fun o => (hb2.keep (new_bel wr o)).cell 0 rfl
        have sa1 : ∀ o, (wr.alloc o).cell? ⟨w.heap.size + 1, 1, none⟩ = some (.slice none 0 0) := fun o => (hb2.keep (new_bel wr o)).cell 1 rfl
        have fa0 : ∀ o, (wr.alloc o).frozen? ⟨w.heap.size + 1, 0, none⟩ = false := fun o => (hb2.keep (new_bel wr o)).free 0
        have fa1 : ∀ o, (wr.alloc o).frozen? ⟨w.heap.size + 1, 1, none⟩ = false := fun o => (hb2.keep (new_bel wr o)).free 1
        have t0 := hb2.cell 0 rfl
        have t1 := hb2.cell 1 rfl
        have f0 := hb2.free 0
        have f1 := hb2.free 1
        have HB : Hid _ := And.intro ((hb2.keep (new_bel _ (.cells #[.int .i64 x, .string y] 45))).all2 (.int .i64 next) (.slice va k vc)) (bel_all2 (bel_alloc hbel (.cells #[.int .i64 x, .string y] 45)) (b := w.heap.size + 1) (by omega) (.int .i64 next) (.slice va k vc))
        clear hown hb2 hb3 hbel
        go_wp2
        refine ret_var Try.underlying27 Try.infoRlink rfl rfl rfl rfl HB.out.1 rfl ?_
        refine ⟨HB.out.2, va, k, vc, .inr ⟨fun h => ?_, rfl⟩⟩
        have h3 := h.2 _ (getD_mem (j := k) (by have := HL.out; omega))
        rw [HE.out] at h3
        have h4 : y.size ≤ 100 := h3
        omega
      · have hyi : ¬ (100 : Int) < (y.size : Int) := by omega
        have HS : Hid (l.take k ++ [fr x y] = l.take (k + 1)) := by
          show _ = _
          rw [Lx.take_step (by have := HL.out; omega), HE.out]
        have HT : Hid ((l.take k).length = k) := by show _ = _; rw [List.length_take, HL.out]; omega
        have hNe : some (w.heap.size + 2) ≠ Value.ownBlock (.slice va k vc) := fun h => by have := (hown.lt _ h.symm).1; omega
        have hNe1 : some (w.heap.size + 1) ≠ Value.ownBlock (.slice va k vc) := fun h => by have := (hown.lt _ h.symm).1; omega
        have hb0 := new_bel wr (.cells #[.int .i64 x, .string y] 45)
        have hbn := bel_alloc hb0 (.cells #[.int .i64 x, .string y] 40)
        have ho2 := hown.keep hbn
        have hsrc := (hown.keep hb0).fsrc (fr x y)
        have hsz1 : (wr.alloc (.cells #[.int .i64 x, .string y] 45)).heap.size = wr.heap.size + 1 := by simp
        rw [hsz1] at hsrc
        clear hsz1
        have hsrc1 : frsS.rep ((wr.alloc (.cells #[.int .i64 x, .string y] 45)).alloc (.cells #[.int .i64 x, .string y] 40)) (fun b => False ∨ b = wr.heap.size + 1) [.slice (some ⟨wr.heap.size + 1, 0, none⟩) 1 1] [fr x y] := hsrc.1
        have hsrc2 : ∀ b, (False ∨ b = wr.heap.size + 1) → some b ≠ Value.ownBlock (.slice va k vc) := hsrc.2
        have hsm : (l.take k).length + 1 ≤ 100000 := by rw [HT.out]; omega
        have hbs : w.heap.size + 3 ≤ ((wr.alloc (.cells #[.int .i64 x, .string y] 45)).alloc (.cells #[.int .i64 x, .string y] 40)).heap.size := by simp; omega
        have kk2 := hb2.keep hbn
        have kk3 := hb3.keep hbn
        have hBB := bel_then hbel hbn
        clear hsrc hown hb2 hb3 hbel hbn hb0
        go_wp2_with (at_builtin; (refine wpList_app frS (by simp [Region.wanted]) (.tmp 28) (.tmp 30) 25 rfl (w.heap.size + 3) 40 i0 (.agg #[.int .i64 0, .string ByteArray.empty]) 24 Try.underlying25 hi0 hi1 hi2 hi3 rfl (Nat.succ_pos 1) (by omega) (by rfl) ho2 (by rfl) hsrc1 hsrc2 hsm hbs ?_; intro a6 c6 u6 ho6 hg6 hb6 hat6; rw [HT.out, HS.out] at ho6; rw [HT.out]; have kb2 := kk2.grown hg6 hNe1; have kb3 := kk3.grown hg6 hNe; have z1' := kb3.cell 1 rfl; have f1' := kb3.free 1))
        go_roundw
        case rel =>
          refine ⟨k + 1, a6, c6, by omega, fun j hj => ?_, by go_num, kb2.other _ (by omega), kb3.set1 _, ?_, ?_⟩
          · by_cases e : j = k
            · subst e
              rw [HE.out]
              show y.size ≤ 100
              omega
            · exact HSM.out j (by omega)
          · exact Own.fr_other ho6 (grown_set u6 (w.heap.size + 2) 1 _) (fun b hb h => by have := (ho6.lt b hb).1; have := Option.some.inj h; omega)
          · exact bel_put (hBB.trans (hb6.mono (by omega))) (by omega) _
        case measure => simp [intOf]; omega
    · have hkn : k = n := by omega
      subst hkn
      have hli : ¬ (k : Int) < (k : Int) := by omega
      have ht : l.take k = l := List.take_of_length_le (by have := HL.out; omega)
      rw [ht] at hown
      clear ht
      have t0 := hb2.cell 0 rfl
      have t1 := hb2.cell 1 rfl
      have f0 := hb2.free 0
      have f1 := hb2.free 1
      have HO : Hid (Own frS ((wr.setCell ⟨w.heap.size + 1, 0, none⟩ (.int .i64 next)).setCell ⟨w.heap.size + 1, 1, none⟩ (.slice va k vc)) (w.heap.size + 3) 40 (.slice va k vc) l) :=
        Own.fr_other hown (grown_then (grown_set wr (w.heap.size + 1) 0 _) (grown_set _ (w.heap.size + 1) 1 _)) (fun b hb h => by have := (hown.lt b hb).1; have := Option.some.inj h; omega)
      clear hown
      go_wp2
      refine ret_var Try.underlying27 Try.infoRlink rfl rfl rfl rfl (hb2.all2 _ _) rfl ?_
      refine ⟨bel_all2 hbel (by omega) _ _, va, k, vc, .inl ⟨⟨by have := HL.out; omega, fun f hf => ?_⟩, rfl, Own.low HO.out (by omega)⟩⟩
      obtain ⟨j, hj⟩ := List.getElem?_of_mem hf
      have hjl : j < l.length := (List.getElem?_eq_some_iff.1 hj).1
      have := HSM.out j (by have := HL.out; omega)
      rwa [List.getD_eq_getElem?_getD, hj] at this

theorem awake_told : Lx.told ([fr 0 ⟨#[97]⟩] ++ [fr 1 ⟨#[98]⟩]) 0 = [fr 1 ⟨#[98]⟩] := by
  rw [Lx.told_append, Lx.told_yes (show (fr 0 ⟨#[97]⟩).1 = 0 from rfl), Lx.told_no (show (fr 1 ⟨#[98]⟩).1 ≠ 0 by decide)]
  rfl

set_option maxHeartbeats 2000000 in
theorem lawake (w : World) : Calls Try.prog 9 #[] w fun e w' => e = .returned (.bool true) ∧ Below w.heap.size w w' := by
  have R0 : Lx.Right 0 [] := Lx.right_nil 0 (by decide) (by decide)
  have R1 : Lx.Right (0 + 1) ([] ++ [fr 0 ⟨#[97]⟩]) := Lx.push_right R0 (by decide) (by decide)
  have R2 : Lx.Right (1 + 1) ([fr 0 ⟨#[97]⟩] ++ [fr 1 ⟨#[98]⟩]) := Lx.push_right R1 (by decide) (by decide)
  have R3 := Lx.told_right 0 R2
  rw [awake_told] at R3
  have P1 : Hid (Lx.Push 0 [] ⟨#[97]⟩ 0 1 [fr 0 ⟨#[97]⟩] 0) := Lx.push_ok R0 (by decide) (by decide)
  have P2 : Hid (Lx.Push 1 [fr 0 ⟨#[97]⟩] ⟨#[98]⟩ 0 2 ([fr 0 ⟨#[97]⟩] ++ [fr 1 ⟨#[98]⟩]) 1) := Lx.push_ok R1 (by decide) (by decide)
  have HR : Hid (Lx.Right 2 [fr 1 ⟨#[98]⟩]) := R3
  clear R0 R1 R2 R3
  have hr0 : frsS.rep w everywhere [.slice none 0 0] [] := rep_none _ _ _
  go_enter Try.func9, Try.ntmps9
  go_wp2_with fail
  refine (lpush 0 none 0 0 [] ⟨#[97]⟩ w hr0 (by omega) 0 1 [fr 0 ⟨#[97]⟩] 0 P1.out 1 rfl).mono ?_
  rintro e u1 ⟨hb1, a1, c1, rfl, hr1⟩
  have k1 := Box.new u1 24 #[.int .i64 1, .slice a1 1 c1]
  have hr2 := Shape.below hr1 (new_bel u1 (.cells #[.int .i64 1, .slice a1 1 c1] 24))
  have hB2 := bel_alloc hb1 (.cells #[.int .i64 1, .slice a1 1 c1] 24)
  have hs1 := hb1.size
  clear hr0 hr1 hb1
  go_wp2_with fail
  refine (lpush 1 a1 1 c1 [fr 0 ⟨#[97]⟩] ⟨#[98]⟩ _ (Shape.any hr2) (by omega) 0 2 _ 1 P2.out 2 rfl).mono ?_
  rintro e u2 ⟨hb3, a2, c2, rfl, hr3⟩
  have k2 := k1.keep hb3
  have hB3 := bel_then hB2 hb3
  have hr4 : frsS.rep ((u2.setCell ⟨u1.heap.size, 0, none⟩ (.int .i64 2)).setCell ⟨u1.heap.size, 1, none⟩ (.slice a2 2 c2)) everywhere [.slice a2 2 c2] _ := Shape.any (Shape.all2 hr3 (fun k hk _ => by have h7 := hk; simp at h7; omega) _ _)
  have k3 := k2.all2 (.int .i64 2) (.slice a2 2 c2)
  have hB4 := bel_all2 hB3 (b := u1.heap.size) (by omega) (.int .i64 2) (.slice a2 2 c2)
  have z0 := k2.cell 0 rfl
  have z1 := k2.cell 1 rfl
  have f0 := k2.free 0
  have f1 := k2.free 1
  clear k1 hr2 hB2 hb3 hB3 hr3
  go_wp2_with fail
  refine (ltold 2 a2 2 c2 _ 0 _ hr4 (by omega)).mono ?_
  rintro e u3 ⟨hb5, a5, n5, c5, rfl, hr5⟩
  rw [awake_told] at hr5
  have hn5 : n5 = 1 := (sliceS_len hr5).1.symm
  subst hn5
  have k4 := k3.keep hb5
  have hB5 := bel_then hB4 hb5
  have hlt5 : u1.heap.size < ((u2.setCell ⟨u1.heap.size, 0, none⟩ (.int .i64 2)).setCell ⟨u1.heap.size, 1, none⟩ (.slice a2 2 c2)).heap.size := k3.lt
  have hr6 : frsS.rep ((u3.setCell ⟨u1.heap.size, 0, none⟩ (.int .i64 2)).setCell ⟨u1.heap.size, 1, none⟩ (.slice a5 1 c5)) everywhere [.slice a5 1 c5] [fr 1 ⟨#[98]⟩] := Shape.any (Shape.all2 hr5 (fun k hk _ => by have h7 : _ ≤ k := hk; omega) _ _)
  have k5 := k4.all2 (.int .i64 2) (.slice a5 1 c5)
  have hB6 := bel_all2 hB5 (b := u1.heap.size) (by omega) (.int .i64 2) (.slice a5 1 c5)
  clear z0 z1 f0 f1 k2 k3 hr4 hB4 hb5 hB5 hr5 hlt5
  have z0 := k4.cell 0 rfl
  have z1 := k4.cell 1 rfl
  have f0 := k4.free 0
  have f1 := k4.free 1
  go_upto_region 4 with fail
  clear z0 z1 f0 f1 k4
  generalize ((u3.setCell ⟨u1.heap.size, 0, none⟩ (.int .i64 2)).setCell ⟨u1.heap.size, 1, none⟩ (.slice a5 1 c5)) = W at *
  generalize u1.heap.size = N at *
  have z0 := k5.cell 0 rfl
  have z1 := k5.cell 1 rfl
  obtain ⟨b, off, rfl, _, _, c0, c1'⟩ := fr_at hr6 (j := 0) (by omega)
  have et : (ByteArray.toList ⟨#[98]⟩ == ByteArray.toList ⟨#[98]⟩) = true := by simp
  rw [Nat.zero_mul, Nat.add_zero] at c0 c1'
  have c2' : W.cell? ⟨b, off + 1, none⟩ = some (.string ⟨#[98]⟩) := c1'
  clear c1'
  go_wp2_with fail
  refine (lright 2 (some ⟨b, off, none⟩) 1 c5 [fr 1 ⟨#[98]⟩] W hr6).mono ?_
  rintro e u7 ⟨hs7, hb7⟩
  rw [hs7.is HR.out]
  clear hs7
  go_wp2
  go_ret
  exact ⟨rfl, bel_then hB6 hb7⟩

end Go.Proofs.Ytfdbnongpkiibaa
