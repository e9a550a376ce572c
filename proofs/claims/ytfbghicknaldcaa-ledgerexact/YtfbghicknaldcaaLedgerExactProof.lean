/- What is found in any ledger, and entered, is what the document says. -/
import Derived.Test.YtfbghicknaldcaaRows
import Derived.Test.YtfbghicknaldcaaLedC
import Derived.WalkKit
import Derived.ProofKit
import Derived.OpenShut
import Derived.ShutString
import Derived.ChangeOld
import Derived.Below
namespace Go.Proofs.Ytfbghicknaldcaa.ledgerExact
open Go.ChangeShapes Go.WideShapes Go.ChangeAt Go.RowKit
open Go.ChangeMaps (open_string shut_string)
set_option linter.unusedVariables false

theorem own : ownKnob Try.prog.godebug = none := by kernel_rfl
theorem laidOut : laidOutB Try.prog = true := by kernel_rfl

theorem en_inj {p q r s p' q' r' s' : Int} {v v' : List Int} (h : en (ky p q r s) v = en (ky p' q' r' s') v') : p = p' ∧ q = q' ∧ r = r' ∧ s = s' ∧ v = v' := by
  injection h with h1 h2
  obtain ⟨x1, x2, x3, x4⟩ := ky_eq.1 h1
  injection h2 with h2 h3
  exact ⟨x1, x2, x3, x4, h2⟩
/- The walk: the call returns true, and nothing that was there is written. -/
set_option maxHeartbeats 4000000 in
set_option maxRecDepth 100000 in
theorem walk (a0 : Option Addr) (len0 cap0 : Nat) (m0 : List ((Int × Int × Int × Int × Unit) × (List Int) × Unit)) (a1_0 : Int) (a1_1 : Int) (a1_2 : Int) (a1_3 : Int) (a2 : Option Addr) (len2 cap2 : Nat) (m2 : List Int) (w : World) (w0 : (sliceS (consS (consS (intS .i64) (consS (intS .i64) (consS (intS .i64) (consS (intS .i64) noneS)))) (consS (sliceS (intS .i64)) noneS))).rep w everywhere [.slice a0 len0 cap0] m0) (f0 : (∀ x0 ∈ m0, (((Lit.int .i64 x0.1.1).wf = true ∧ ((Lit.int .i64 x0.1.2.1).wf = true ∧ ((Lit.int .i64 x0.1.2.2.1).wf = true ∧ ((Lit.int .i64 x0.1.2.2.2.1).wf = true ∧ True)))) ∧ ((∀ x1 ∈ x0.2.1, (Lit.int .i64 x1).wf = true) ∧ True)))) (w1_0 : (Lit.int .i64 a1_0).wf = true) (w1_1 : (Lit.int .i64 a1_1).wf = true) (w1_2 : (Lit.int .i64 a1_2).wf = true) (w1_3 : (Lit.int .i64 a1_3).wf = true) (w2 : (sliceS (intS .i64)).rep w everywhere [.slice a2 len2 cap2] m2) (f2 : (∀ x0 ∈ m2, (Lit.int .i64 x0).wf = true)) :
    Calls Try.prog 3 #[.slice a0 len0 cap0, .agg #[.int .i64 a1_0, .int .i64 a1_1, .int .i64 a1_2, .int .i64 a1_3], .slice a2 len2 cap2] w fun e w' => e = .returned (.bool true) ∧ Below w.heap.size w w' := by
  have hl0 := (sliceS_len w0).1
  have hA := Shape.low w0
  have hV := Shape.low w2
  have HL : Hid (m0.length = len0) := hl0
  clear f0 f2 w1_0 w1_1 w1_2 w1_3 hl0
  by_cases h60 : 60 < len0
  · have hi : (60 : Int) < (len0 : Int) := by omega
    clear w0 w2 hA HL hV
    go_enter Try.func3, Try.ntmps3
    go_wp2_with (go_at_call 7; refine (dawake _).mono ?_; rintro e u9 ⟨rfl, hb9⟩)
    go_ret
    exact ⟨rfl, bel_then (new_bel _ _) hb9⟩
  have h60i : ¬ (60 : Int) < (len0 : Int) := by omega
  by_cases h30 : 30 < len2
  · have hi : (30 : Int) < (len2 : Int) := by omega
    clear w0 w2 hA HL hV
    go_enter Try.func3, Try.ntmps3
    go_wp2_with (go_at_call 7; refine (dawake _).mono ?_; rintro e u9 ⟨rfl, hb9⟩)
    go_ret
    exact ⟨rfl, bel_then (new_bel _ _) hb9⟩
  have h30i : ¬ (30 : Int) < (len2 : Int) := by omega
  obtain ⟨i0, hi0, hi1, hi2, hi3⟩ := info_parts Try.infoRentry
  have HQ : Hid (Box (w.alloc (.cells #[.int .i64 a1_0, .int .i64 a1_1, .int .i64 a1_2, .int .i64 a1_3] 24)) w.heap.size 24 #[.int .i64 a1_0, .int .i64 a1_1, .int .i64 a1_2, .int .i64 a1_3]) := Box.new _ _ _
  clear w0 w2
  go_enter Try.func3, Try.ntmps3
  go_wp2
  go_loopw [7, 29] (fun v7 i wr => ∃ (k : Nat) (ax : Option Addr) (cx : Nat), k ≤ len0 ∧ v7 = .slice ax k cx ∧ i = .int .i64 k ∧ (∀ j, j < k → (m0.getD j en0).2.1.length ≤ 30) ∧ Own (inS enS (· < w.heap.size)) wr (w.heap.size + 1) 32 (.slice ax k cx) (m0.take k) ∧ Box wr w.heap.size 24 #[.int .i64 a1_0, .int .i64 a1_1, .int .i64 a1_2, .int .i64 a1_3] ∧ Below w.heap.size w wr) (fun _ i _ => len0 - (intOf i).toNat)
  case atStart => exact ⟨0, none, 0, Nat.zero_le _, rfl, rfl, fun j hj => by omega, Own.nil _ _ _ _, HQ.out, new_bel _ _⟩
  case round =>
    clear HQ
    obtain ⟨k, ax, cx, hk, rfl, rfl, hsm, hown, hbox, hbel⟩ := hrel
    have HSM : Hid (∀ j, j < k → (m0.getD j en0).2.1.length ≤ 30) := hsm
    clear hsm
    by_cases hlt : k < len0
    · obtain ⟨b1, o1, p, q, r, s, v, nv, A, C, rfl, _, _, hE, hnv, hrow, c0, c1, c2, c3, c4⟩ := en_at (Shape.now hA hbel) hlt
      have hli : (k : Int) < (len0 : Int) := by omega
      have HE : Hid (m0.getD k en0 = en (ky p q r s) v ∧ v.length = nv) := ⟨hE, hnv⟩
      have hbn := new_bel wr (.cells #[.int .i64 p, .int .i64 q, .int .i64 r, .int .i64 s, .slice A nv C] 29)
      clear hE hnv
      by_cases hv30 : 30 < nv
      · have hvi : (30 : Int) < (nv : Int) := by omega
        clear hrow hown hbox
        go_wp2_with (go_at_call 7; refine (dawake _).mono ?_; rintro e u9 ⟨rfl, hb9⟩)
        go_ret
        exact ⟨rfl, bel_then (bel_then hbel hbn) hb9⟩
      · have hvi : ¬ (30 : Int) < (nv : Int) := by omega
        have hsz1 : (wr.alloc (.cells #[.int .i64 p, .int .i64 q, .int .i64 r, .int .i64 s, .slice A nv C] 29)).heap.size = wr.heap.size + 1 := by simp
        have kb := Box.new wr 29 #[.int .i64 p, .int .i64 q, .int .i64 r, .int .i64 s, .slice A nv C]
        have hown1 := hown.keep hbn
        have hrow1 := Shape.below hrow hbn
        have hbox1 := hbox.keep hbn
        have hB1 := bel_then hbel hbn
        have HWs : Hid ((wr.alloc (.cells #[.int .i64 p, .int .i64 q, .int .i64 r, .int .i64 s, .slice A nv C] 29)).heap.size = wr.heap.size + 1) := hsz1
        have hgl := hbox.lt
        clear hrow hown hbox hbel hbn hsz1
        go_upto_region 9 with fail
        clear c0 c1 c2 c3 c4
        generalize wr.alloc (.cells #[.int .i64 p, .int .i64 q, .int .i64 r, .int .i64 s, .slice A nv C] 29) = W at *
        have c0 := kb.cell 0 rfl
        have c1 := kb.cell 1 rfl
        have c2 := kb.cell 2 rfl
        have c3 := kb.cell 3 rfl
        have c4 := kb.cell 4 rfl
        have hbn := new_bel W (.cells #[.int .i64 p, .int .i64 q, .int .i64 r, .int .i64 s, .slice A nv C] 32)
        have ho2 := hown1.keep hbn
        have hsrc1 := rep_one (e := 32) (inS_of (P := (· < w.heap.size)) (F := (· < w.heap.size)) (en_rep p q r s hrow1) (fun b hb => hb))
        have hsrc2 : ∀ b, ((b < w.heap.size ∧ b < W.heap.size) ∨ b = W.heap.size) → some b ≠ Value.ownBlock (.slice ax k cx) := fun b hb h => by have h7 := hown1.lt b h.symm; omega
        have HS : Hid (m0.take k ++ [en (ky p q r s) v] = m0.take (k + 1)) := by
          show _ = _
          rw [Dx.take_step (by rw [HL.out]; exact hlt), HE.out.1]
        have HT : Hid ((m0.take k).length = k) := by show _ = _; rw [List.length_take, HL.out]; omega
        have hsm2 : (m0.take k).length + 1 ≤ 100000 := by rw [HT.out]; omega
        have hbs : w.heap.size + 1 ≤ (W.alloc (.cells #[.int .i64 p, .int .i64 q, .int .i64 r, .int .i64 s, .slice A nv C] 32)).heap.size := by have h7 := hbn.size; have h8 := HWs.out; omega
        have hNe : some w.heap.size ≠ Value.ownBlock (.slice ax k cx) := fun h => by have := (hown1.lt _ h.symm).1; omega
        have kk1 := hbox1.keep hbn
        have hBB := bel_then hB1 hbn
        clear hown1 hrow1 hbox1 hB1 hbn
        go_wp2_with (at_builtin; (refine wpList_app (inS enS (· < w.heap.size)) (by simp [Region.wanted]) (.tmp 38) (.tmp 44) 27 rfl (w.heap.size + 1) 32 i0 (.agg #[.int .i64 0, .int .i64 0, .int .i64 0, .int .i64 0, .slice none 0 0]) 56 Try.underlying27 hi0 hi1 hi2 hi3 rfl (Nat.succ_pos 4) (by omega) (by rfl) ho2 (by rfl) hsrc1 hsrc2 hsm2 hbs ?_; intro a6 c6 u6 ho6 hg6 hb6 hat6; rw [HS.out, HT.out] at ho6; rw [HT.out]))
        go_roundw
        case rel =>
          refine ⟨k + 1, a6, c6, by omega, rfl, by go_num, fun i hi => ?_, ho6, kk1.grown hg6 hNe, hBB.trans (hb6.mono (by omega))⟩
          by_cases e : i = k
          · subst e
            rw [HE.out.1]
            show v.length ≤ 30
            rw [HE.out.2]; omega
          · exact HSM.out i (by omega)
        case measure => simp [intOf]; omega
    · have hkn : k = len0 := by omega
      subst hkn
      have hli : ¬ (k : Int) < (k : Int) := by omega
      have HS : Hid (Dx.Short m0) := ⟨by rw [HL.out]; omega, fun e he => by
        obtain ⟨i, hi, rfl⟩ := eget_of_mem he
        have := HSM.out i (by rw [← HL.out]; exact hi)
        omega⟩
      have htk : m0.take k = m0 := List.take_of_length_le (by rw [HL.out]; exact Nat.le_refl _)
      rw [htk] at hown
      have hrx : ensS.rep wr everywhere [.slice ax k cx] m0 := by
        obtain ⟨a', c', css, he, h1, h2, h3, h4⟩ := hown.is
        exact ⟨a', c', css, he, h1, h2, ⟨h3.1, fun j c x hc hx => enS.mono (h3.2 j c x hc hx) fun _ _ _ => trivial⟩, h4⟩
      have hk60 : k ≤ 1000 := by omega
      clear htk hown HSM
      have p0 := hbox.cell 0 rfl
      have p1 := hbox.cell 1 rfl
      have p2 := hbox.cell 2 rfl
      have p3 := hbox.cell 3 rfl
      rcases Dx.first_or_no m0 (ky a1_0 a1_1 a1_2 a1_3) with hno | ⟨i, hfi⟩
      · have hc1 : Hid (Calls _ _ _ _ _) := rlfind ax k cx m0 a1_0 a1_1 a1_2 a1_3 (-1) wr hrx hk60 (.inl ⟨rfl, hno⟩)
        have HNo : Hid (Dx.No m0 (ky a1_0 a1_1 a1_2 a1_3)) := hno
        clear hno hrx
        go_wp2_with fail
        refine hc1.out.mono ?_
        rintro e u1 ⟨rfl, hb1⟩
        have kb1 := hbox.keep hb1
        have hB1 := bel_then hbel hb1
        clear p0 p1 p2 p3 hbox hbel hb1 hc1
        have p0 := kb1.cell 0 rfl
        have p1 := kb1.cell 1 rfl
        have p2 := kb1.cell 2 rfl
        have p3 := kb1.cell 3 rfl
        have hc1 : Hid (Calls _ _ _ _ _) := lfind_no a0 k cap0 m0 a1_0 a1_1 a1_2 a1_3 u1 (Shape.any (Shape.now hA hB1)) hk60 HNo.out
        go_wp2_with fail
        refine hc1.out.mono ?_
        rintro e u2 ⟨rfl, hb2⟩
        have kb2 := kb1.keep hb2
        have hB2 := bel_then hB1 hb2
        clear p0 p1 p2 p3 kb1 hB1 hb2 hc1
        have p0 := kb2.cell 0 rfl
        have p1 := kb2.cell 1 rfl
        have p2 := kb2.cell 2 rfl
        have p3 := kb2.cell 3 rfl
        obtain ⟨M, hM⟩ : ∃ M, m0 ++ [en (ky a1_0 a1_1 a1_2 a1_3) m2] = M := ⟨_, rfl⟩
        have hc1 : Hid (Calls _ _ _ _ _) := lenter_to a0 k cap0 m0 a1_0 a1_1 a1_2 a1_3 a2 len2 cap2 m2 u2 (Shape.any (Shape.now hA hB2)) HS.out (Shape.any (Shape.now hV hB2)) (by omega) HNo.out (k + 1) rfl M hM
        have HM : Hid (m0 ++ [en (ky a1_0 a1_1 a1_2 a1_3) m2] = M) := hM
        clear hM
        go_wp2_with fail
        refine hc1.out.mono ?_
        rintro e u3 ⟨hb3, am, cm, rfl, hrm⟩
        have kb3 := kb2.keep hb3
        have hB3 := bel_then hB2 hb3
        clear p0 p1 p2 p3 kb2 hB2 hb3 hc1
        have e1 : ((k : Int) + 1 != (k : Int) + 1) = false := by simp
        have e2 : (((k + 1 : Nat) : Int) != (k : Int) + 1) = false := by simp
        go_wp2
        go_loopw [109] (fun i wr2 => ∃ t : Nat, t ≤ k + 1 ∧ i = .int .i64 t ∧ Below u3.heap.size u3 wr2) (fun i _ => k + 1 - (intOf i).toNat)
        case atStart => exact ⟨0, Nat.zero_le _, rfl, Below.refl _ _⟩
        case round =>
          obtain ⟨t, ht, rfl, hbel2⟩ := hrel
          have hB4 := bel_then hB3 hbel2
          clear e1 e2
          by_cases htl : t < k
          · have hti1 : (t : Int) < (k : Int) + 1 := by omega
            have hti : (t : Int) < (k : Int) := by omega
            have ht0 : (0 : Int) ≤ (t : Int) := by omega
            obtain ⟨b5, o5, p5, q5, r5, s5, v5, nv5, A5, C5, rfl, _, _, hE5, hnv5, hrow5, g0, g1, g2, g3, g4⟩ := en_at (Shape.below hrm hbel2) (j := t) (by omega)
            obtain ⟨b4, o4, p4, q4, r4, s4, v4, nv4, A4, C4, rfl, _, _, hE4, hnv4, hrow4, d0, d1, d2, d3, d4⟩ := en_at (Shape.now hA hB4) htl
            have hge : M.getD t en0 = m0.getD t en0 := by rw [← HM.out]; exact Dx.getD_left (by rw [HL.out]; exact htl)
            rw [hge] at hE5
            clear hge
            rw [hE4] at hE5
            obtain ⟨rfl, rfl, rfl, rfl, rfl⟩ := en_inj hE5
            have hnn : nv5 = nv4 := by rw [← hnv4, ← hnv5]
            subst hnn
            have hn9 : nv5 ≤ 100000 := by
              have h7 := HS.out.row (j := t) (by rw [HL.out]; exact htl)
              rw [hE4] at h7
              have h8 : v4.length ≤ 1000 := h7
              omega
            have hbn := new_bel wr (.cells #[.int .i64 p4, .int .i64 q4, .int .i64 r4, .int .i64 s4, .slice A5 nv5 C5] 29)
            have ke := Box.new wr 29 #[.int .i64 p4, .int .i64 q4, .int .i64 r4, .int .i64 s4, .slice A5 nv5 C5]
            have hR4 := (Row.of_rep hrow4).keep hbn
            have hR5 := (Row.of_rep hrow5).keep hbn
            have d0' := (hbn.cell (World.block_lt_of_cell? wr _ d0)).trans d0
            have d1' := (hbn.cell (World.block_lt_of_cell? wr _ d1)).trans d1
            have d2' := (hbn.cell (World.block_lt_of_cell? wr _ d2)).trans d2
            have d3' := (hbn.cell (World.block_lt_of_cell? wr _ d3)).trans d3
            have d4' := (hbn.cell (World.block_lt_of_cell? wr _ d4)).trans d4
            have hb7 := bel_then hbel2 hbn
            clear d0 d1 d2 d3 d4 hE4 hE5 hnv4 hnv5 hrow4 hrow5 hbn
            go_upto_region 22 with fail
            clear g0 g1 g2 g3 g4
            generalize wr.alloc (.cells #[.int .i64 p4, .int .i64 q4, .int .i64 r4, .int .i64 s4, .slice A5 nv5 C5] 29) = W at *
            generalize wr.heap.size = ge at *
            have y0 : ∀ x9 : Later W, x9.u.cell? ⟨ge, 0, none⟩ = some (.int .i64 p4) := fun x9 => x9.cell (ke.cell 0 rfl)
            have y1 : ∀ x9 : Later W, x9.u.cell? ⟨ge, 1, none⟩ = some (.int .i64 q4) := fun x9 => x9.cell (ke.cell 1 rfl)
            have y2 : ∀ x9 : Later W, x9.u.cell? ⟨ge, 2, none⟩ = some (.int .i64 r4) := fun x9 => x9.cell (ke.cell 2 rfl)
            have y3 : ∀ x9 : Later W, x9.u.cell? ⟨ge, 3, none⟩ = some (.int .i64 s4) := fun x9 => x9.cell (ke.cell 3 rfl)
            have y4 : ∀ x9 : Later W, x9.u.cell? ⟨ge, 4, none⟩ = some (.slice A5 nv5 C5) := fun x9 => x9.cell (ke.cell 4 rfl)
            have z0 : ∀ x9 : Later W, x9.u.cell? ⟨b4, o4 + t * 5, none⟩ = some (.int .i64 p4) := fun x9 => x9.cell (d0')
            have z1 : ∀ x9 : Later W, x9.u.cell? ⟨b4, o4 + t * 5 + 1, none⟩ = some (.int .i64 q4) := fun x9 => x9.cell (d1')
            have z2 : ∀ x9 : Later W, x9.u.cell? ⟨b4, o4 + t * 5 + 2, none⟩ = some (.int .i64 r4) := fun x9 => x9.cell (d2')
            have z3 : ∀ x9 : Later W, x9.u.cell? ⟨b4, o4 + t * 5 + 3, none⟩ = some (.int .i64 s4) := fun x9 => x9.cell (d3')
            have z4 : ∀ x9 : Later W, x9.u.cell? ⟨b4, o4 + t * 5 + 4, none⟩ = some (.slice A4 nv5 C4) := fun x9 => x9.cell (d4')
            have hne9 : Nonempty (Later W) := Later.there W
            have hd1 : decide (t < k) = true := by simpa using htl
            have hd2 : ((t : Int) == (k : Int)) = false := by rw [beq_eq_false_iff_ne]; omega
            have hd3 : (t == k) = false := by rw [beq_eq_false_iff_ne]; omega
            have hsame : ∀ x9 : Later W, Calls Try.prog 11 #[.slice A5 nv5 C5, .slice A4 nv5 C4] x9.u fun e w' => e = .returned (.bool true) ∧ Below x9.u.heap.size x9.u w' := fun x9 => same_true A5 A4 nv5 C5 C4 v4 x9.u (hR5.keep x9.h) (hR4.keep x9.h) hn9
            have hne := neqKey p4 q4 r4 s4
            have hne2 : ∀ w, (Op.equalIn 10000 24 (.agg #[.int .i64 p4, .int .i64 q4, .int .i64 r4, .int .i64 s4]) (.agg #[.int .i64 p4, .int .i64 q4, .int .i64 r4, .int .i64 s4])).run Try.prog w = .ok true w := eqKeyIn (by simp)
            clear d0' d1' d2' d3' d4' ke
            go_wp2
            refine region_later (by kernel_rfl) (by kernel_rfl) ?_
            repeat (go_big_quiet_step ((go_at_call 11; exact Later.call (hsame _))))
            refine wpQuiet_nil ?_
            intro x9
            obtain ⟨u5, hb5⟩ := x9
            go_wp2
            go_roundw
            case rel => exact ⟨t + 1, by omega, by go_num, bel_then hb7 hb5⟩
            case measure => (simp [intOf]) <;> omega
          by_cases htk : t = k
          · subst htk
            have hti1 : (t : Int) < (t : Int) + 1 := by omega
            have hti : ¬ (t : Int) < (t : Int) := by omega
            have ht0 : (0 : Int) ≤ (t : Int) := by omega
            obtain ⟨b5, o5, p5, q5, r5, s5, v5, nv5, A5, C5, rfl, _, _, hE5, hnv5, hrow5, g0, g1, g2, g3, g4⟩ := en_at (Shape.below hrm hbel2) (j := t) (by omega)
            have hge : M.getD t en0 = en (ky a1_0 a1_1 a1_2 a1_3) m2 := by rw [← HM.out, ← HL.out]; exact Dx.getD_new _ _
            rw [hge] at hE5
            obtain ⟨rfl, rfl, rfl, rfl, rfl⟩ := en_inj hE5
            have hnn : nv5 = len2 := by rw [← hnv5]; exact (sliceS_len hV).1
            subst hnn
            have hn9 : nv5 ≤ 100000 := by omega
            have hbn := new_bel wr (.cells #[.int .i64 a1_0, .int .i64 a1_1, .int .i64 a1_2, .int .i64 a1_3, .slice A5 nv5 C5] 29)
            have ke := Box.new wr 29 #[.int .i64 a1_0, .int .i64 a1_1, .int .i64 a1_2, .int .i64 a1_3, .slice A5 nv5 C5]
            have hR4 := (Row.of_rep (Shape.now hV hB4)).keep hbn
            have hR5 := (Row.of_rep hrow5).keep hbn
            have kb4 := (kb3.keep hbel2).keep hbn
            have hb7 := bel_then hbel2 hbn
            clear hE5 hge hnv5 hrow5 hbn
            go_upto_region 22 with fail
            clear g0 g1 g2 g3 g4
            generalize wr.alloc (.cells #[.int .i64 a1_0, .int .i64 a1_1, .int .i64 a1_2, .int .i64 a1_3, .slice A5 nv5 C5] 29) = W at *
            generalize wr.heap.size = ge at *
            have y0 : ∀ x9 : Later W, x9.u.cell? ⟨ge, 0, none⟩ = some (.int .i64 a1_0) := fun x9 => x9.cell (ke.cell 0 rfl)
            have y1 : ∀ x9 : Later W, x9.u.cell? ⟨ge, 1, none⟩ = some (.int .i64 a1_1) := fun x9 => x9.cell (ke.cell 1 rfl)
            have y2 : ∀ x9 : Later W, x9.u.cell? ⟨ge, 2, none⟩ = some (.int .i64 a1_2) := fun x9 => x9.cell (ke.cell 2 rfl)
            have y3 : ∀ x9 : Later W, x9.u.cell? ⟨ge, 3, none⟩ = some (.int .i64 a1_3) := fun x9 => x9.cell (ke.cell 3 rfl)
            have y4 : ∀ x9 : Later W, x9.u.cell? ⟨ge, 4, none⟩ = some (.slice A5 nv5 C5) := fun x9 => x9.cell (ke.cell 4 rfl)
            have z0 : ∀ x9 : Later W, x9.u.cell? ⟨w.heap.size, 0, none⟩ = some (.int .i64 a1_0) := fun x9 => x9.cell (kb4.cell 0 rfl)
            have z1 : ∀ x9 : Later W, x9.u.cell? ⟨w.heap.size, 1, none⟩ = some (.int .i64 a1_1) := fun x9 => x9.cell (kb4.cell 1 rfl)
            have z2 : ∀ x9 : Later W, x9.u.cell? ⟨w.heap.size, 2, none⟩ = some (.int .i64 a1_2) := fun x9 => x9.cell (kb4.cell 2 rfl)
            have z3 : ∀ x9 : Later W, x9.u.cell? ⟨w.heap.size, 3, none⟩ = some (.int .i64 a1_3) := fun x9 => x9.cell (kb4.cell 3 rfl)
            have hne9 : Nonempty (Later W) := Later.there W
            have hd1 : decide (t < t) = false := by simp
            have hd2 : ((t : Int) == (t : Int)) = true := by simp
            have hd3 : (t == t) = true := by simp
            have hsame : ∀ x9 : Later W, Calls Try.prog 11 #[.slice A5 nv5 C5, .slice a2 nv5 cap2] x9.u fun e w' => e = .returned (.bool true) ∧ Below x9.u.heap.size x9.u w' := fun x9 => same_true A5 a2 nv5 C5 cap2 m2 x9.u (hR5.keep x9.h) (hR4.keep x9.h) hn9
            have hne := neqKey a1_0 a1_1 a1_2 a1_3
            have hne2 : ∀ w, (Op.equalIn 10000 24 (.agg #[.int .i64 a1_0, .int .i64 a1_1, .int .i64 a1_2, .int .i64 a1_3]) (.agg #[.int .i64 a1_0, .int .i64 a1_1, .int .i64 a1_2, .int .i64 a1_3])).run Try.prog w = .ok true w := eqKeyIn (by simp)
            clear ke kb4
            go_wp2
            refine region_later (by kernel_rfl) (by kernel_rfl) ?_
            repeat (go_big_quiet_step ((go_at_call 11; exact Later.call (hsame _))))
            refine wpQuiet_nil ?_
            intro x9
            obtain ⟨u5, hb5⟩ := x9
            go_wp2
            go_roundw
            case rel => exact ⟨t + 1, by omega, by go_num, bel_then hb7 hb5⟩
            case measure => (simp [intOf]) <;> omega
          have hti1 : ¬ (t : Int) < (k : Int) + 1 := by omega
          go_wp2_with (go_at_call 7; refine (dawake _).mono ?_; rintro e u9 ⟨rfl, hb9⟩)
          go_ret
          exact ⟨rfl, bel_then hB4 hb9⟩
      · obtain ⟨vf, hvf⟩ : ∃ vf, (m0.getD i en0).2.1 = vf := ⟨_, rfl⟩
        obtain ⟨nf, hnf⟩ : ∃ nf, vf.length = nf := ⟨_, rfl⟩
        have hik : i < k := by have h7 := hfi.1; rw [HL.out] at h7; exact h7
        have hii : (i : Int) < (k : Int) := by omega
        have hin0 : (0 : Int) ≤ (i : Int) := by omega
        have hin1 : ¬ (i : Int) < 0 := by omega
        have hnf9 : nf ≤ 100000 := by have h7 := HS.out.row hfi.1; rw [hvf, hnf] at h7; omega
        have HFi : Hid (Dx.First m0 (ky a1_0 a1_1 a1_2 a1_3) i) := hfi
        have HVf : Hid ((m0.getD i en0).2.1 = vf ∧ vf.length = nf) := ⟨hvf, hnf⟩
        have hc1 : Hid (Calls _ _ _ _ _) := rlfind ax k cx m0 a1_0 a1_1 a1_2 a1_3 i wr hrx hk60 (.inr ⟨i, rfl, hfi⟩)
        clear hfi hvf hnf hrx
        go_wp2_with fail
        refine hc1.out.mono ?_
        rintro e u1 ⟨rfl, hb1⟩
        have kb1 := hbox.keep hb1
        have hB1 := bel_then hbel hb1
        clear p0 p1 p2 p3 hbox hbel hb1 hc1
        have p0 := kb1.cell 0 rfl
        have p1 := kb1.cell 1 rfl
        have p2 := kb1.cell 2 rfl
        have p3 := kb1.cell 3 rfl
        have hc1 : Hid (Calls _ _ _ _ _) := lfind_at a0 k cap0 m0 a1_0 a1_1 a1_2 a1_3 u1 (Shape.any (Shape.now hA hB1)) HS.out i HFi.out vf HVf.out.1 nf HVf.out.2
        go_wp2_with fail
        refine hc1.out.mono ?_
        rintro e u2 ⟨hb2, aw, cw, rfl, hrw⟩
        have kb2 := kb1.keep hb2
        have hB2 := bel_then hB1 hb2
        clear p0 p1 p2 p3 kb1 hB1 hb2 hc1
        have p0 := kb2.cell 0 rfl
        have p1 := kb2.cell 1 rfl
        have p2 := kb2.cell 2 rfl
        have p3 := kb2.cell 3 rfl
        have hc1 : Hid (Calls _ _ _ _ _) := lenter_no a0 k cap0 m0 a1_0 a1_1 a1_2 a1_3 a2 len2 cap2 u2 (Shape.any (Shape.now hA hB2)) HS.out i HFi.out
        go_wp2_with fail
        refine hc1.out.mono ?_
        rintro e u3 ⟨hb3, am, cm, rfl, hrm⟩
        have hB3 := bel_then hB2 hb3
        have hRw := (Row.of_rep hrw).keep hb3
        obtain ⟨b4, o4, p4, q4, r4, s4, v4, nv4, A4, C4, rfl, _, _, hE4, hnv4, hrow4, d0, d1, d2, d3, d4⟩ := en_at (Shape.now hA hB3) hik
        have hvv : v4 = vf := by have h7 := HVf.out.1; rw [hE4] at h7; exact h7
        subst hvv
        have hnn : nv4 = nf := by rw [← hnv4]; exact HVf.out.2
        subst hnn
        have hsm : Hid (Calls _ _ _ _ _) := same_true aw A4 nv4 cw C4 v4 u3 hRw (Row.of_rep hrow4) hnf9
        clear p0 p1 p2 p3 kb2 hB2 hb3 hc1 hE4 hnv4 hrow4 hrw hRw
        have e1 : ((k : Int) != (k : Int)) = false := by simp
        go_wp2_with fail
        refine hsm.out.mono ?_
        rintro e u4 ⟨rfl, hb4⟩
        have hB3 := bel_then hB3 hb4
        have hrm := Shape.below hrm hb4
        clear d0 d1 d2 d3 d4 hsm hb4
        go_wp2
        go_loopw [109] (fun i wr2 => ∃ t : Nat, t ≤ k ∧ i = .int .i64 t ∧ Below u4.heap.size u4 wr2) (fun i _ => k - (intOf i).toNat)
        case atStart => exact ⟨0, Nat.zero_le _, rfl, Below.refl _ _⟩
        case round =>
          obtain ⟨t, ht, rfl, hbel2⟩ := hrel
          have hB4 := bel_then hB3 hbel2
          clear e1
          by_cases htl : t < k
          · have hti1 : (t : Int) < (k : Int) := by omega
            have hti : (t : Int) < (k : Int) := by omega
            have ht0 : (0 : Int) ≤ (t : Int) := by omega
            obtain ⟨b5, o5, p5, q5, r5, s5, v5, nv5, A5, C5, rfl, _, _, hE5, hnv5, hrow5, g0, g1, g2, g3, g4⟩ := en_at (Shape.below hrm hbel2) (j := t) (by omega)
            obtain ⟨b4', o4', p4, q4, r4, s4, v4, nv4, A4, C4, he4, _, _, hE4, hnv4, hrow4, d0, d1, d2, d3, d4⟩ := en_at (Shape.now hA hB4) htl
            have e := Option.some.inj he4
            injection e with e1 e2 e3
            subst e1
            subst e2
            clear he4 e3
            rw [hE4] at hE5
            obtain ⟨rfl, rfl, rfl, rfl, rfl⟩ := en_inj hE5
            have hnn : nv5 = nv4 := by rw [← hnv4, ← hnv5]
            subst hnn
            have hn9 : nv5 ≤ 100000 := by
              have h7 := HS.out.row (j := t) (by rw [HL.out]; exact htl)
              rw [hE4] at h7
              have h8 : v4.length ≤ 1000 := h7
              omega
            have hbn := new_bel wr (.cells #[.int .i64 p4, .int .i64 q4, .int .i64 r4, .int .i64 s4, .slice A5 nv5 C5] 29)
            have ke := Box.new wr 29 #[.int .i64 p4, .int .i64 q4, .int .i64 r4, .int .i64 s4, .slice A5 nv5 C5]
            have hR4 := (Row.of_rep hrow4).keep hbn
            have hR5 := (Row.of_rep hrow5).keep hbn
            have d0' := (hbn.cell (World.block_lt_of_cell? wr _ d0)).trans d0
            have d1' := (hbn.cell (World.block_lt_of_cell? wr _ d1)).trans d1
            have d2' := (hbn.cell (World.block_lt_of_cell? wr _ d2)).trans d2
            have d3' := (hbn.cell (World.block_lt_of_cell? wr _ d3)).trans d3
            have d4' := (hbn.cell (World.block_lt_of_cell? wr _ d4)).trans d4
            have hb7 := bel_then hbel2 hbn
            clear d0 d1 d2 d3 d4 hE4 hE5 hnv4 hnv5 hrow4 hrow5 hbn
            go_upto_region 22 with fail
            clear g0 g1 g2 g3 g4
            generalize wr.alloc (.cells #[.int .i64 p4, .int .i64 q4, .int .i64 r4, .int .i64 s4, .slice A5 nv5 C5] 29) = W at *
            generalize wr.heap.size = ge at *
            have y0 : ∀ x9 : Later W, x9.u.cell? ⟨ge, 0, none⟩ = some (.int .i64 p4) := fun x9 => x9.cell (ke.cell 0 rfl)
            have y1 : ∀ x9 : Later W, x9.u.cell? ⟨ge, 1, none⟩ = some (.int .i64 q4) := fun x9 => x9.cell (ke.cell 1 rfl)
            have y2 : ∀ x9 : Later W, x9.u.cell? ⟨ge, 2, none⟩ = some (.int .i64 r4) := fun x9 => x9.cell (ke.cell 2 rfl)
            have y3 : ∀ x9 : Later W, x9.u.cell? ⟨ge, 3, none⟩ = some (.int .i64 s4) := fun x9 => x9.cell (ke.cell 3 rfl)
            have y4 : ∀ x9 : Later W, x9.u.cell? ⟨ge, 4, none⟩ = some (.slice A5 nv5 C5) := fun x9 => x9.cell (ke.cell 4 rfl)
            have z0 : ∀ x9 : Later W, x9.u.cell? ⟨b4, o4 + t * 5, none⟩ = some (.int .i64 p4) := fun x9 => x9.cell (d0')
            have z1 : ∀ x9 : Later W, x9.u.cell? ⟨b4, o4 + t * 5 + 1, none⟩ = some (.int .i64 q4) := fun x9 => x9.cell (d1')
            have z2 : ∀ x9 : Later W, x9.u.cell? ⟨b4, o4 + t * 5 + 2, none⟩ = some (.int .i64 r4) := fun x9 => x9.cell (d2')
            have z3 : ∀ x9 : Later W, x9.u.cell? ⟨b4, o4 + t * 5 + 3, none⟩ = some (.int .i64 s4) := fun x9 => x9.cell (d3')
            have z4 : ∀ x9 : Later W, x9.u.cell? ⟨b4, o4 + t * 5 + 4, none⟩ = some (.slice A4 nv5 C4) := fun x9 => x9.cell (d4')
            have hne9 : Nonempty (Later W) := Later.there W
            have hd1 : decide (t < k) = true := by simpa using htl
            have hd2 : ((t : Int) == (k : Int)) = false := by rw [beq_eq_false_iff_ne]; omega
            have hd3 : (t == k) = false := by rw [beq_eq_false_iff_ne]; omega
            have hsame : ∀ x9 : Later W, Calls Try.prog 11 #[.slice A5 nv5 C5, .slice A4 nv5 C4] x9.u fun e w' => e = .returned (.bool true) ∧ Below x9.u.heap.size x9.u w' := fun x9 => same_true A5 A4 nv5 C5 C4 v4 x9.u (hR5.keep x9.h) (hR4.keep x9.h) hn9
            have hne := neqKey p4 q4 r4 s4
            have hne2 : ∀ w, (Op.equalIn 10000 24 (.agg #[.int .i64 p4, .int .i64 q4, .int .i64 r4, .int .i64 s4]) (.agg #[.int .i64 p4, .int .i64 q4, .int .i64 r4, .int .i64 s4])).run Try.prog w = .ok true w := eqKeyIn (by simp)
            clear d0' d1' d2' d3' d4' ke
            go_wp2
            refine region_later (by kernel_rfl) (by kernel_rfl) ?_
            repeat (go_big_quiet_step ((go_at_call 11; exact Later.call (hsame _))))
            refine wpQuiet_nil ?_
            intro x9
            obtain ⟨u5, hb5⟩ := x9
            go_wp2
            go_roundw
            case rel => exact ⟨t + 1, by omega, by go_num, bel_then hb7 hb5⟩
            case measure => (simp [intOf]) <;> omega
          have hti1 : ¬ (t : Int) < (k : Int) := by omega
          go_wp2_with (go_at_call 7; refine (dawake _).mono ?_; rintro e u9 ⟨rfl, hb9⟩)
          go_ret
          exact ⟨rfl, bel_then hB4 hb9⟩

/- From the walk to the row. -/
set_option maxRecDepth 100000 in
theorem lifted (os : Os) (started : os.Started) (H : Type) (enc : TypeId × Value → H) :
    ReturnsInHanded {} Try.checked os 3 .any (Rows.ledgerExactSpec.pre6 enc Try.prog Try.f3 Rows.ledgerExactRow.domain false) (Rows.ledgerExactSpec.post enc Try.prog Try.f3 false true false false) := by
  refine returnsInHanded_of_change (C := Try.checked) own started (by kernel_rfl) Try.func3
    (ChangeSpec.witness6 (enc := enc) (C := Try.checked) false ⟨#[], #[.slice none 0 0, .agg #[.int .i64 0, .int .i64 0, .int .i64 0, .int .i64 0], .slice none 0 0], []⟩ 8 (by kernel_rfl) (by kernel_rfl) (by kernel_rfl) (by kernel_rfl)) ?_
  intro W base args ds gs before hval0 hW hcnd _
  have hval : ∀ (j : Nat) t v, Try.f3.params[j]? = some t → args[j]? = some v → Value.okWide Try.prog W .any base t v := hval0
  have hW' := hW
  obtain ⟨p, q, hA0, hV, rfl, hfz, hnd⟩ := hW
  have hA : DataW.TrodAll enc Try.prog W 0 (fun _ => true) true Try.f3.params.toList args.toList ds p := hA0
  rw [Try.params3] at hA hval
  obtain ⟨v0, vs0, d0, ds0, p0, q0, hargs, rfl, rfl, h0, r0⟩ := trodAll_cons hA
  obtain ⟨v1, vs1, d1, ds1, p1, q1, rfl, rfl, rfl, h1, r1⟩ := trodAll_cons r0
  obtain ⟨v2, vs2, d2, ds2, p2, q2, rfl, rfl, rfl, h2, r2⟩ := trodAll_cons r1
  obtain ⟨rfl, rfl, rfl⟩ := trodAll_nil r2
  obtain rfl : args = #[v0, v1, v2] := by cases args; simp_all
  obtain ⟨rfl, rfl⟩ := trodVars_none hV
  obtain ⟨a0, len0, cap0, rfl⟩ := okWide_slice Try.underlying22 (hval 0 22 v0 rfl rfl)
  have k0 := h0
  have lt0 : ∀ x ∈ p0, x.block < W.heap.size := by obtain ⟨m, hm⟩ := k0; exact DataW.trod_lt m _ _ _ hm
  obtain ⟨m0, w0, f0⟩ : ∃ y, (sliceS (consS (consS (intS .i64) (consS (intS .i64) (consS (intS .i64) (consS (intS .i64) noneS)))) (consS (sliceS (intS .i64)) noneS))).rep W everywhere [.slice a0 len0 cap0] y ∧ (∀ x0 ∈ y, (((Lit.int .i64 x0.1.1).wf = true ∧ ((Lit.int .i64 x0.1.2.1).wf = true ∧ ((Lit.int .i64 x0.1.2.2.1).wf = true ∧ ((Lit.int .i64 x0.1.2.2.2.1).wf = true ∧ True)))) ∧ ((∀ x1 ∈ x0.2.1, (Lit.int .i64 x1).wf = true) ∧ True))) := by
    obtain ⟨fuel, hf⟩ := h0
    exact (opens_slice (A := (consS (consS (intS .i64) (consS (intS .i64) (consS (intS .i64) (consS (intS .i64) noneS)))) (consS (sliceS (intS .i64)) noneS))) Try.underlying22 (show Try.prog.cellsOf 29 = 5 by kernel_rfl) (by exact Nat.succ_pos _) (opens_struct Try.underlying29 (show Try.prog.cellsOf 29 = 5 by kernel_rfl) (opensAt_cons (A := (consS (intS .i64) (consS (intS .i64) (consS (intS .i64) (consS (intS .i64) noneS))))) rfl (show Try.prog.cellsOf 24 = 4 by kernel_rfl) (opens_struct Try.underlying24 (show Try.prog.cellsOf 24 = 4 by kernel_rfl) (opensAt_cons (A := (intS .i64)) rfl (show Try.prog.cellsOf 3 = 1 by kernel_rfl) (opens_int Try.underlying3) (opensAt_cons (A := (intS .i64)) rfl (show Try.prog.cellsOf 3 = 1 by kernel_rfl) (opens_int Try.underlying3) (opensAt_cons (A := (intS .i64)) rfl (show Try.prog.cellsOf 3 = 1 by kernel_rfl) (opens_int Try.underlying3) (opensAt_cons (A := (intS .i64)) rfl (show Try.prog.cellsOf 3 = 1 by kernel_rfl) (opens_int Try.underlying3) opensAt_nil (by rfl)) (by rfl)) (by rfl)) (by rfl))) (opensAt_cons (A := (sliceS (intS .i64))) rfl (show Try.prog.cellsOf 25 = 1 by kernel_rfl) (opens_slice (A := (intS .i64)) Try.underlying25 (show Try.prog.cellsOf 3 = 1 by kernel_rfl) (by exact Nat.succ_pos _) (opens_int Try.underlying3)) opensAt_nil (by rfl)) (by rfl)))) H enc W _ _ _ fuel _ _ hf
  obtain ⟨cs1, rfl⟩ := okWide_agg Try.underlying24 (hval 1 24 v1 rfl rfl)
  have k1 := h1
  have lt1 : ∀ x ∈ p1, x.block < W.heap.size := by obtain ⟨m, hm⟩ := k1; exact DataW.trod_lt m _ _ _ hm
  obtain ⟨y1, hy1, hw1⟩ : ∃ y, (consS (intS .i64) (consS (intS .i64) (consS (intS .i64) (consS (intS .i64) noneS)))).rep W everywhere cs1 y ∧ ((Lit.int .i64 y.1).wf = true ∧ ((Lit.int .i64 y.2.1).wf = true ∧ ((Lit.int .i64 y.2.2.1).wf = true ∧ ((Lit.int .i64 y.2.2.2.1).wf = true ∧ True)))) := by
    obtain ⟨fuel, hf⟩ := h1
    exact (opens_struct Try.underlying24 (show Try.prog.cellsOf 24 = 4 by kernel_rfl) (opensAt_cons (A := (intS .i64)) rfl (show Try.prog.cellsOf 3 = 1 by kernel_rfl) (opens_int Try.underlying3) (opensAt_cons (A := (intS .i64)) rfl (show Try.prog.cellsOf 3 = 1 by kernel_rfl) (opens_int Try.underlying3) (opensAt_cons (A := (intS .i64)) rfl (show Try.prog.cellsOf 3 = 1 by kernel_rfl) (opens_int Try.underlying3) (opensAt_cons (A := (intS .i64)) rfl (show Try.prog.cellsOf 3 = 1 by kernel_rfl) (opens_int Try.underlying3) opensAt_nil (by rfl)) (by rfl)) (by rfl)) (by rfl))) H enc W _ _ _ fuel _ _ (by simpa [Value.cells] using hf)
  obtain ⟨a1_0, a1_1, a1_2, a1_3, _⟩ := y1
  obtain ⟨d1_0, rfl, hy1_0⟩ := consS_int hy1
  obtain ⟨d1_1, rfl, hy1_1⟩ := consS_int hy1_0
  obtain ⟨d1_2, rfl, hy1_2⟩ := consS_int hy1_1
  obtain ⟨d1_3, rfl, hy1_3⟩ := consS_int hy1_2
  obtain rfl := noneS_nil hy1_3
  obtain ⟨w1_0, w1_1, w1_2, w1_3, _⟩ := hw1
  obtain ⟨a2, len2, cap2, rfl⟩ := okWide_slice Try.underlying25 (hval 2 25 v2 rfl rfl)
  have k2 := h2
  have lt2 : ∀ x ∈ p2, x.block < W.heap.size := by obtain ⟨m, hm⟩ := k2; exact DataW.trod_lt m _ _ _ hm
  obtain ⟨m2, w2, f2⟩ : ∃ y, (sliceS (intS .i64)).rep W everywhere [.slice a2 len2 cap2] y ∧ (∀ x0 ∈ y, (Lit.int .i64 x0).wf = true) := by
    obtain ⟨fuel, hf⟩ := h2
    exact (opens_slice (A := (intS .i64)) Try.underlying25 (show Try.prog.cellsOf 3 = 1 by kernel_rfl) (by exact Nat.succ_pos _) (opens_int Try.underlying3)) H enc W _ _ _ fuel _ _ hf
  clear hA0 hval0
  refine (walk a0 len0 cap0 m0 a1_0 a1_1 a1_2 a1_3 a2 len2 cap2 m2 W w0 f0 w1_0 w1_1 w1_2 w1_3 w2 f2).mono fun e W' ⟨he, bel⟩ => ?_
  subst he
  exact ⟨_, rfl, _, _, _, [], _, [], hW', trodAll_mk1 (shut_bool Try.underlying4 _), (trodAll_cons_mk (Below.trod laidOut (by kernel_rfl) (of_decide_eq_true (by kernel_rfl)) k0 bel lt0) (trodAll_cons_mk (Below.trod laidOut (by kernel_rfl) (of_decide_eq_true (by kernel_rfl)) k1 bel lt1) (trodAll_cons_mk (Below.trod laidOut (by kernel_rfl) (of_decide_eq_true (by kernel_rfl)) k2 bel lt2) trodAll_mk0))), rfl, bel.frame _, fun h => by cases h⟩

theorem over : Rows.ledgerExactRow.holds Try.pinned (OpenSpec.ofChange Rows.ledgerExactSpec) :=
  OpenClaim.holds_of_wide 3 Try.f3 rfl rfl rfl rfl rfl rfl rfl ⟨rfl, rfl, rfl, rfl, rfl⟩ rfl rfl rfl rfl rfl (by kernel_rfl) Try.func3 (by kernel_rfl)
    (of_decide_eq_true (by kernel_rfl)) (by unfold Func.isWrapper; first | (rw [if_pos (by decide +kernel)]; kernel_rfl) | (rw [if_neg (by decide +kernel)]; exact ⟨rfl, rfl⟩))
    (fun os started H enc _ => lifted os started H enc)

end Go.Proofs.Ytfbghicknaldcaa.ledgerExact

namespace Go.Proofs.Ytfbghicknaldcaa
theorem ledgerExact_holds : Rows.LedgerExactSaid := ledgerExact.over
end Go.Proofs.Ytfbghicknaldcaa
