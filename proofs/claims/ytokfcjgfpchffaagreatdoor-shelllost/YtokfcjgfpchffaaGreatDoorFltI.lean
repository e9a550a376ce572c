/- What hear of package fleet does when called. -/
import Derived.Test.YtokfcjgfpchffaaGreatDoorJy
import Derived.Test.YtokfcjgfpchffaaGreatDoorJk
namespace Go.Proofs.YtokfcjgfpchffaaGreatDoor
open Go.ChangeShapes Go.WideShapes Go.ChangeAt Go.RowKit


theorem neq_slice_nil {P : Program} (w : World) (t e : TypeId) (a : Option Addr) (n c n' c' : Nat) (h : P.underlying t = some (.slice e)) :
    (binOp .neq t (.slice a n c) (.slice none n' c')).run P w = .ok (.bool (!a.isNone)) w := by
  simp only [binOp]
  simp [Op.equal, Op.maxDepth, Lib.run_equalIn_slice_nil w 9999 t e a n c n' c' h]
namespace Ft
open Md
section
variable {dim : Int} {ms : List Ly} {T : List (List Int)} {s : St}
theorem slot_none {l : List Pt} {a : List (Option (List Int))} {m : Wx.Msg} (h : ∀ j, j < l.length → ¬ Hit l m.token m.rank m.expert j) : slotOf l a m = none := by
  unfold slotOf
  refine List.find?_eq_none.2 fun j hj => ?_
  have h1 := h j (List.mem_range.1 hj)
  simp only [decide_eq_true_eq]
  exact fun h2 => h1 ⟨h2.1, h2.2.1, h2.2.2.1⟩
theorem slot_full {m : Wx.Msg} {a : List (Option (List Int))} {k : Nat} (hk : k < (ps ms s).length) (hh : Hit (ps ms s) m.token m.rank m.expert k) (ha : a.getD k (some []) ≠ none) : slotOf (ps ms s) a m = none := by
  cases hs : slotOf (ps ms s) a m with
  | none => rfl
  | some j =>
    obtain ⟨hj, e1, e2, _, e4⟩ := slotOf_some hs
    have := parts_inj hk hj (hh.1.trans e1.symm) (hh.2.1.trans e2.symm)
    subst this
    exact absurd e4 ha
theorem took_home {m : Wx.Msg} (h0 : m.to = 0) : took dim ms s m = (if m.kind = 2 ∧ m.batch = 1 ∧ s.lay < ms.length ∧ m.layer = s.lay ∧ (m.vec.length : Int) = dim then match slotOf (ps ms s) s.ans m with | none => s | some j => on ms { s with ans := s.ans.set j (some m.vec) } else s) := by
  unfold took
  rw [if_neg (by omega)]
  by_cases h : m.kind = 2 ∧ m.batch = 1 ∧ s.lay < ms.length ∧ m.layer = s.lay ∧ (m.vec.length : Int) = dim
  · rw [if_pos ⟨h0, h⟩, if_pos h]
    cases slotOf (ps ms s) s.ans m <;> rfl
  · rw [if_neg (fun h2 => h h2.2), if_neg h]
end
end Ft

section
variable {O V : Nat → Prop} {w : World} {p : Nat} {dim : Int} {ms : List Ly} {s : Ft.St} {q : List Pt}
set_option maxRecDepth 100000 in
set_option maxHeartbeats 4000000 in
theorem fhear {T : List (List Int)} (H : FlAt O V w p dim ms s (Ft.qs ms s)) (hI : Ft.Inv dim ms T s) (hR : Md.Right dim ms) (hT : Md.TRight dim T) (x0 x1 x3 x4 x5 x6 x7 x8 x9 : Int) (xa : Option Addr) (xn xc : Nat) (l : List Int) (hr : rowS.rep w (Out O V) [.slice xa xn xc] l) (hm : Ft.Good ms T s.lay ⟨x0, x1, 0, x3, x4, x5, x6, x7, x8, x9, l⟩) :
    Calls Tryz.prog 53 #[.pointer (some ⟨p, 0, none⟩), .agg #[.int .i64 x0, .int .i64 x1, .int .i64 0, .int .i64 x3, .int .i64 x4, .int .i64 x5, .int .i64 x6, .int .i64 x7, .int .i64 x8, .int .i64 x9, .slice xa xn xc]] w fun e w' => e = .returned (.tuple #[]) ∧ ∃ V', Mv V V' w w' ∧ FlAt O V' w' p dim ms (Ft.took dim ms s ⟨x0, x1, 0, x3, x4, x5, x6, x7, x8, x9, l⟩) (Ft.qs ms (Ft.took dim ms s ⟨x0, x1, 0, x3, x4, x5, x6, x7, x8, x9, l⟩)) := by
  obtain ⟨la, ln, lc, ha, hn, hc, a0, n0, c0, a1, n1, c1, a2, n2, c2, a3, n3, c3, fa, fn, fc, ta, tn, tc, qa, qn, qc, aa, an, ac, hO⟩ := H.on
  have hxn := (sliceS_len hr).1
  have hB := new_bel w (.cells #[.int .i64 x0, .int .i64 x1, .int .i64 0, .int .i64 x3, .int .i64 x4, .int .i64 x5, .int .i64 x6, .int .i64 x7, .int .i64 x8, .int .i64 x9, .slice xa xn xc] 100)
  have kx := Box.new w 100 #[.int .i64 x0, .int .i64 x1, .int .i64 0, .int .i64 x3, .int .i64 x4, .int .i64 x5, .int .i64 x6, .int .i64 x7, .int .i64 x8, .int .i64 x9, .slice xa xn xc]
  have hO1 := hO.keep hB
  have hr1 := Shape.below hr hB
  have HIM := hid (And.intro hI (And.intro hR (And.intro hT hm)))
  have HXN := hid hxn
  have hpw : w.heap.size ≠ p := by have := hO.box.lt; omega
  clear hr hm hI hR hT hxn hO H
  go_enter Tryz.func53, Tryz.ntmps53
  go_upto_region 1 with fail
  generalize w.alloc (.cells #[.int .i64 x0, .int .i64 x1, .int .i64 0, .int .i64 x3, .int .i64 x4, .int .i64 x5, .int .i64 x6, .int .i64 x7, .int .i64 x8, .int .i64 x9, .slice xa xn xc] 100) = W at *
  have HO := hid hO1
  have HB := hid hB
  have HK := hid kx
  have HRW := hid hr1
  have k0 := fun y : Later W => y.cell (kx.cell 0 (v := .int .i64 x0) rfl)
  have k4 := fun y : Later W => y.cell (kx.cell 4 (v := .int .i64 x4) rfl)
  have k5 := fun y : Later W => y.cell (kx.cell 5 (v := .int .i64 x5) rfl)
  have k10 := fun y : Later W => y.cell (kx.cell 10 (v := .slice xa xn xc) rfl)
  have p0 := fun y : Later W => y.cell (hO1.box.cell 0 (v := .int .i64 dim) rfl)
  have p9 := fun y : Later W => y.cell (hO1.box.cell 9 (v := .int .i64 (s.lay : Int)) rfl)
  clear hO1 hB kx hr1
  by_cases g0 : x0 = 2
  case neg =>
    have q0 : (x0 != 2) = true := by rw [bne_iff_ne]; exact g0
    have G0 := hid g0
    clear g0
    have HTK : Hid (Ft.took dim ms s ⟨x0, x1, 0, x3, x4, x5, x6, x7, x8, x9, l⟩ = s) := by
      show _ = _
      rw [Ft.took_home rfl, if_neg (fun h => G0.out h.1)]
    have HE := hid (And.intro (Mv.of_bel (V := V) HB.out) HO.out.at)
    have : Nonempty (Later W) := Later.there W
    refine region_later (by kernel_rfl) (by kernel_rfl) ?_
    repeat (go_big_quiet_step (fail))
    refine wpQuiet_nil ?_
    intro y9
    obtain ⟨W9, hb9⟩ := y9
    clear k0 k4 k5 k10 p0 p9
    go_wp2
    (try simp only [Exit.inBlock, Exit.then]); refine bodyPost_ret (results_none rfl _ _ _) rfl ?_
    rw [HTK.out]
    exact ⟨rfl, V, HE.out.1.bel hb9, HE.out.2.keep hb9⟩
  have q0 : (x0 != 2) = false := by rw [bne_eq_false_iff_eq]; exact g0
  by_cases g1 : x4 = 1
  case neg =>
    have q1 : (x4 != 1) = true := by rw [bne_iff_ne]; exact g1
    have G1 := hid g1
    clear g0 g1
    have HTK : Hid (Ft.took dim ms s ⟨x0, x1, 0, x3, x4, x5, x6, x7, x8, x9, l⟩ = s) := by
      show _ = _
      rw [Ft.took_home rfl, if_neg (fun h => G1.out h.2.1)]
    have HE := hid (And.intro (Mv.of_bel (V := V) HB.out) HO.out.at)
    have : Nonempty (Later W) := Later.there W
    refine region_later (by kernel_rfl) (by kernel_rfl) ?_
    repeat (go_big_quiet_step (fail))
    refine wpQuiet_nil ?_
    intro y9
    obtain ⟨W9, hb9⟩ := y9
    clear k0 k4 k5 k10 p0 p9
    go_wp2
    (try simp only [Exit.inBlock, Exit.then]); refine bodyPost_ret (results_none rfl _ _ _) rfl ?_
    rw [HTK.out]
    exact ⟨rfl, V, HE.out.1.bel hb9, HE.out.2.keep hb9⟩
  have q1 : (x4 != 1) = false := by rw [bne_eq_false_iff_eq]; exact g1
  by_cases g2 : x5 = (s.lay : Int)
  case neg =>
    have q2 : (x5 != (s.lay : Int)) = true := by rw [bne_iff_ne]; exact g2
    have G2 := hid g2
    clear g0 g1 g2
    have HTK : Hid (Ft.took dim ms s ⟨x0, x1, 0, x3, x4, x5, x6, x7, x8, x9, l⟩ = s) := by
      show _ = _
      rw [Ft.took_home rfl, if_neg (fun h => G2.out h.2.2.2.1)]
    have HE := hid (And.intro (Mv.of_bel (V := V) HB.out) HO.out.at)
    have : Nonempty (Later W) := Later.there W
    refine region_later (by kernel_rfl) (by kernel_rfl) ?_
    repeat (go_big_quiet_step (fail))
    refine wpQuiet_nil ?_
    intro y9
    obtain ⟨W9, hb9⟩ := y9
    clear k0 k4 k5 k10 p0 p9
    go_wp2
    (try simp only [Exit.inBlock, Exit.then]); refine bodyPost_ret (results_none rfl _ _ _) rfl ?_
    rw [HTK.out]
    exact ⟨rfl, V, HE.out.1.bel hb9, HE.out.2.keep hb9⟩
  have q2 : (x5 != (s.lay : Int)) = false := by rw [bne_eq_false_iff_eq]; exact g2
  by_cases g3 : (xn : Int) = dim
  case neg =>
    have q3 : ((xn : Int) != dim) = true := by rw [bne_iff_ne]; exact g3
    have G3 := hid g3
    clear g0 g1 g2 g3
    have HTK : Hid (Ft.took dim ms s ⟨x0, x1, 0, x3, x4, x5, x6, x7, x8, x9, l⟩ = s) := by
      show _ = _
      rw [Ft.took_home rfl, if_neg (fun h => G3.out (by have h9 : (l.length : Int) = dim := h.2.2.2.2; rw [HXN.out] at h9; exact h9))]
    have HE := hid (And.intro (Mv.of_bel (V := V) HB.out) HO.out.at)
    have : Nonempty (Later W) := Later.there W
    refine region_later (by kernel_rfl) (by kernel_rfl) ?_
    repeat (go_big_quiet_step (fail))
    refine wpQuiet_nil ?_
    intro y9
    obtain ⟨W9, hb9⟩ := y9
    clear k0 k4 k5 k10 p0 p9
    go_wp2
    (try simp only [Exit.inBlock, Exit.then]); refine bodyPost_ret (results_none rfl _ _ _) rfl ?_
    rw [HTK.out]
    exact ⟨rfl, V, HE.out.1.bel hb9, HE.out.2.keep hb9⟩
  have q3 : ((xn : Int) != dim) = false := by rw [bne_eq_false_iff_eq]; exact g3
  have HG := hid (And.intro g0 (And.intro g1 (And.intro g2 g3)))
  clear g0 g1 g2 g3
  have : Nonempty (Later W) := Later.there W
  refine region_later (by kernel_rfl) (by kernel_rfl) ?_
  repeat (go_big_quiet_step (fail))
  refine wpQuiet_nil ?_
  intro y9
  obtain ⟨W9, hb9⟩ := y9
  clear k0 k4 k5 k10 p0 p9 q0 q1 q2 q3
  have hO9 := HO.out.keep hb9
  have kx9 := HK.out.keep hb9
  have hr9 := Shape.below HRW.out hb9
  have hB9 := bel_then HB.out hb9
  have h32 := qs_few HIM.out.1 HIM.out.2.1 HIM.out.2.2.1
  have hlq := (sliceS_len hO9.r.q).1
  have HQN : Hid ((Ft.qs ms s).length = qn) := hlq
  have HF : Hid (Calls _ _ _ _ _) := fidxhit qa qn qc (Ft.qs ms s) x6 x7 x8 w.heap.size W9 (Shape.any hO9.r.q) (by omega) (kx9.cell 6 rfl) (kx9.cell 7 rfl) (kx9.cell 8 rfl)
  have hmf : ∀ (fn : Fn) (first cap : Array Value) (w : World), (Instr.makeFunc fn first cap).run Tryz.prog w = .ok (.func fn first cap) w := fun _ _ _ _ => rfl
  have z11 := hO9.box.cell 11 rfl
  have HO9 := hid hO9
  have HK9 := hid kx9
  have HR9 := hid hr9
  have HB9 := hid hB9
  have HI9 : Hid (s.ans.length = qn) := by show _ = _; rw [← qs_len HIM.out.1, HQN.out]
  clear HO HK HRW HB hO9 kx9 hr9 hB9 hlq h32
  go_wp2_with fail
  refine HF.out.mono ?_
  rintro e u1 ⟨hcase, hb1⟩
  rcases hcase with ⟨hno, rfl⟩ | ⟨k, hk, hhit, _, rfl⟩
  · have HTK : Hid (Ft.took dim ms s ⟨x0, x1, 0, x3, x4, x5, x6, x7, x8, x9, l⟩ = s) := by
      show _ = _
      rw [Ft.took_home rfl]
      by_cases hl : s.lay < ms.length
      · have hqs : Ft.qs ms s = Ft.ps ms s := by unfold Ft.qs; rw [if_pos hl]
        rw [Ft.slot_none (m := ⟨x0, x1, 0, x3, x4, x5, x6, x7, x8, x9, l⟩) (fun j hj => by
          have := hno j (by rw [← HQN.out, hqs]; exact hj)
          rwa [hqs] at this)]
        split <;> rfl
      · rw [if_neg (fun h => hl h.2.2.1)]
    clear hno
    have HE := hid (And.intro (Mv.of_bel (V := V) (bel_then HB9.out hb1)) (HO9.out.keep hb1).at)
    go_wp2
    (try simp only [Exit.inBlock, Exit.then]); refine bodyPost_ret (results_none rfl _ _ _) rfl ?_
    rw [HTK.out]
    exact ⟨rfl, V, HE.out.1, HE.out.2⟩
  · have hl : s.lay < ms.length := by
      by_cases hl : s.lay < ms.length
      · exact hl
      · exfalso
        have h9 := HQN.out
        unfold Ft.qs at h9
        rw [if_neg hl] at h9
        have : ([] : List Pt).length = qn := h9
        simp at this
        omega
    have hqs : Ft.qs ms s = Ft.ps ms s := by unfold Ft.qs; rw [if_pos hl]
    have hkp : k < (Ft.ps ms s).length := by rw [← hqs, HQN.out]; exact hk
    have HHIT : Hid (Hit (Ft.ps ms s) x6 x7 x8 k) := by show Hit _ _ _ _ _; rw [← hqs]; exact hhit
    have HL := hid (And.intro hl hkp)
    have hO2 := HO9.out.keep hb1
    have kx2 := HK9.out.keep hb1
    have hr2 := Shape.below HR9.out hb1
    have hB2 := bel_then HB9.out hb1
    have hlan := (sliceS_len hO2.r.a.plain).1
    have hkan : k < an := by have := HI9.out; omega
    obtain ⟨g, ha9, _, hgl, _⟩ := hO2.r.a.form (by omega)
    subst ha9
    obtain ⟨b2, o2, A, N, C, he2, _, hb2, hcell, hiff⟩ := ans_at hO2.r.a.plain hkan
    injection he2 with he2
    injection he2 with e1 e2 _
    subst e1
    subst e2
    rw [Nat.zero_add] at hcell
    have HI : Hid (A = none ↔ s.ans.getD k (some []) = none) := hiff
    have hk0 : ¬ (k : Int) < 0 := by omega
    have hk00 : (0 : Int) ≤ (k : Int) := by omega
    have hka : (k : Int) < (an : Int) := by omega
    have qn2 : ∀ (w : World) (a : Option Addr) (n c n' c' : Nat), (binOp .neq 31 (.slice a n c) (.slice none n' c')).run Tryz.prog w = .ok (.bool (!a.isNone)) w := fun w a n c n' c' => neq_slice_nil w _ _ a n c n' c' Tryz.underlying31
    have z12 := hO2.box.cell 12 rfl
    clear hhit hl hqs hkp hlan hiff z11 hmf HF
    cases A with
    | some A =>
      have HTK : Hid (Ft.took dim ms s ⟨x0, x1, 0, x3, x4, x5, x6, x7, x8, x9, l⟩ = s) := by
        show _ = _
        rw [Ft.took_home rfl, Ft.slot_full (m := ⟨x0, x1, 0, x3, x4, x5, x6, x7, x8, x9, l⟩) HL.out.2 HHIT.out (fun h9 => by have h8 := HI.out.2 h9; cases h8)]
        split <;> rfl
      have HE := hid (And.intro (Mv.of_bel (V := V) hB2) hO2.at)
      clear hO2 kx2 hr2 hB2
      go_wp2
      (try simp only [Exit.inBlock, Exit.then]); refine bodyPost_ret (results_none rfl _ _ _) rfl ?_
      rw [HTK.out]
      exact ⟨rfl, V, HE.out.1, HE.out.2⟩
    | none =>
      have HN : s.ans.getD k (some []) = none := HI.out.1 rfl
      have hslot := Ft.slotOf_is HL.out.2 HN (m := ⟨x0, x1, 0, x3, x4, x5, x6, x7, x8, x9, l⟩) HHIT.out.1.symm HHIT.out.2.1.symm HHIT.out.2.2.symm
      have hcond : (2 : Int) = 2 ∧ (1 : Int) = 1 ∧ s.lay < ms.length ∧ (s.lay : Int) = s.lay ∧ (l.length : Int) = dim := ⟨rfl, rfl, HL.out.1, rfl, by rw [HXN.out]; exact HG.out.2.2.2⟩
      have HTK : Hid (Ft.took dim ms s ⟨x0, x1, 0, x3, x4, x5, x6, x7, x8, x9, l⟩ = Ft.on ms { s with ans := s.ans.set k (some l) }) := by
        show _ = _
        rw [Ft.took_home rfl, hslot, if_pos ⟨HG.out.1, HG.out.2.1, HL.out.1, HG.out.2.2.1, hcond.2.2.2.2⟩]
      have hinv : Ft.Inv dim ms T { s with ans := s.ans.set k (some l) } := Ft.Inv.told HIM.out.1 HIM.out.2.2.2 ⟨rfl, HG.out.1, HG.out.2.1, HL.out.1, HG.out.2.2.1, hcond.2.2.2.2⟩ hslot
      have HINV := hid hinv
      have hl0 : l ≠ [] := by
        intro e
        have h9 := HG.out.2.2.2
        rw [← HXN.out, e] at h9
        have h8 := HIM.out.2.1.1
        have h7 : (0 : Int) = dim := h9
        omega
      have HL0 := hid hl0
      clear hslot hcond hinv hl0 HN
      have y10 := kx2.cell 10 rfl
      have hD3 : Below (u1.setCell ⟨g, k, none⟩ (.slice xa xn xc)).heap.size (u1.setCell ⟨g, k, none⟩ (.slice xa xn xc)) (u1.setCell ⟨g, k, none⟩ (.slice xa xn xc)).drew := (Below.refl _ _).drew
      obtain ⟨⟨z0, hz0⟩, f0, hvg, hat3⟩ := hO2.answer rfl hkan HL0.out hr2
      have HM3 := hid (((Mv.of_bel (V := V) hB2).set (i := k) hvg (.slice xa xn xc)))
      have HAT3 := hid hat3
      clear hat3 hO2 kx2 hr2 hB2 hvg
      go_upto_region 4 with fail
      go_region_with (fail)
      all_goals
        have HC : Hid (Calls _ _ _ _ _) := fcomeon (HAT3.out.keep hD3) HINV.out HIM.out.2.1 HIM.out.2.2.1
        clear z12 y10 hz0 f0
        go_wp2_with (go_at_call 48; refine HC.out.mono ?_; rintro e u5 ⟨rfl, V5, hm5, hat5⟩)
        go_end0
        rw [HTK.out]
        exact ⟨rfl, V5, (HM3.out.bel hD3).trans hm5, hat5⟩
end

end Go.Proofs.YtokfcjgfpchffaaGreatDoor
