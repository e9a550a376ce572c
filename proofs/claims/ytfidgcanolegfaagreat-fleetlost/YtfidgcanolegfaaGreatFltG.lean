/- What Ask, begin and comeOn of package fleet do when called. -/
import Derived.Test.YtfidgcanolegfaaGreatFltF
import Derived.Test.YtfidgcanolegfaaGreatMdlC
namespace Go.Proofs.YtfidgcanolegfaaGreat
open Go.ChangeShapes Go.WideShapes Go.ChangeAt Go.RowKit


namespace Ft
/-- What is asked of the first k parts. -/
def asksTo (s : St) (q : List Pt) (k : Nat) : List Wx.Msg := (left (q.take k) (s.ans.take k)).map (askOf s.e s.h s.lay s.toks)
theorem asksTo_zero (s : St) (q : List Pt) : asksTo s q 0 = [] := by simp [asksTo, left]
theorem asksTo_all (s : St) (q : List Pt) (h : q.length = s.ans.length) : asksTo s q q.length = (left q s.ans).map (askOf s.e s.h s.lay s.toks) := by
  unfold asksTo
  rw [List.take_length, h, List.take_length]
theorem asksTo_step (s : St) (q : List Pt) (h : q.length = s.ans.length) {k : Nat} (hk : k < q.length) : asksTo s q (k + 1) = asksTo s q k ++ (if s.ans.getD k (some []) = none then [askOf s.e s.h s.lay s.toks (q.getD k pt0)] else []) := by
  have hk2 : k < s.ans.length := by omega
  unfold asksTo left
  rw [List.take_succ_eq_append_getElem hk, List.take_succ_eq_append_getElem hk2, List.zip_append (by rw [List.length_take, List.length_take]; omega), List.filterMap_append, List.map_append]
  congr 1
  have e1 : q.getD k pt0 = q[k] := by rw [List.getD_eq_getElem?_getD, List.getElem?_eq_getElem hk]; rfl
  have e2 : s.ans.getD k (some []) = s.ans[k] := by rw [List.getD_eq_getElem?_getD, List.getElem?_eq_getElem hk2]; rfl
  rw [e1, e2]
  by_cases hn : s.ans[k] = none
  · rw [if_pos hn]; simp [hn]
  · rw [if_neg hn]; simp [hn]
theorem puts_snoc (b xs : List Wx.Msg) (m : Wx.Msg) : puts b (xs ++ [m]) = put (puts b xs) m := by simp [puts]
/-- What it is told when it begins a layer. -/
def qs (ms : List Ly) (s : St) : List Pt := if s.lay < ms.length then ps ms s else []
end Ft

theorem Mv.rep {α : Type} {A : Shape α} {O V V' : Nat → Prop} {w w' : World} {cs : List Value} {x : α} (hm : Mv V V' w w') (h : A.rep w (Out O V) cs x) : A.rep w' (Out O V) cs x := A.keep h fun b hb hlt => hm.block b hlt hb.1

section
variable {O V : Nat → Prop} {w : World} {p : Nat} {dim : Int} {ms : List Ly} {s : Ft.St} {q : List Pt}
set_option maxRecDepth 100000 in
set_option maxHeartbeats 4000000 in
theorem fask (H : FlAt O V w p dim ms s q) (hf : s.bag.length ≤ 200) (hR : Pl.Right s.e s.h) (ht : s.toks.length ≤ 1000) (hq : q.length = s.ans.length) (hq9 : q.length ≤ 1000) (hA : ∀ x ∈ q, AskOk s x) :
    Calls Tryz.prog 25 #[.pointer (some ⟨p, 0, none⟩)] w fun e w' => e = .returned (.tuple #[]) ∧ Mv V V w w' ∧ FlAt O V w' p dim ms { s with bag := Ft.puts s.bag ((Ft.left q s.ans).map (Ft.askOf s.e s.h s.lay s.toks)) } q := by
  have q22 : ∀ (w : World) (a : Option Addr) (n c n' c' : Nat), (binOp .eql 42 (.slice a n c) (.slice none n' c')).run Tryz.prog w = .ok (.bool a.isNone) w := fun w a n c n' c' => Lib.run_eql_slice_nil w _ _ a n c n' c' Tryz.underlying42
  have HH := hid H
  have HF := hid hf
  have HR := hid hR
  have HT := hid ht
  have HL := hid hq
  have HL9 := hid hq9
  have HA := hid hA
  obtain ⟨la, ln, lc, ha, hn, hc, a0, n0, c0, a1, n1, c1, a2, n2, c2, a3, n3, c3, fa, fn, fc, ta, tn, tc, qa, qn, qc, aa, an, ac, hO⟩ := H.on
  have hlq := (sliceS_len hO.r.q).1
  have HQ := hid hO.r.q
  have HN := hid hlq
  have hqn9 : qn ≤ 1000 := by omega
  have x11 := hO.box.cell 11 rfl
  clear hlq hO hf hR ht hq hq9 hA H
  go_enter Tryz.func25, Tryz.ntmps25
  go_wp2
  go_loopw [9] (fun i wr => ∃ k : Nat, k ≤ qn ∧ i = .int .i64 k ∧ Mv V V w wr ∧ FlAt O V wr p dim ms { s with bag := Ft.puts s.bag (Ft.asksTo s q k) } q) (fun i _ => qn - (intOf i).toNat)
  case atStart => exact ⟨0, Nat.zero_le _, rfl, Mv.refl _ _, by rw [Ft.asksTo_zero]; exact HH.out⟩
  case round =>
    clear HH x11
    obtain ⟨k, hk, rfl, hmv, hat⟩ := hrel
    by_cases hlt : k < qn
    · obtain ⟨b1, o1, t, r, x, c, rfl, _, hE, d0, d1, d2, d3⟩ := pt_there (hmv.rep HQ.out) hlt
      have hkl : k < q.length := by have := HN.out; omega
      have hST := Ft.asksTo_step s q HL.out hkl
      rw [hE] at hST
      have hAK : AskOk s (pt t r x c) := HA.out _ (by rw [← hE]; exact in_of hkl pt0)
      have hB200 : (Ft.puts s.bag (Ft.asksTo s q k)).length ≤ 200 := Ft.puts_len HF.out
      generalize hBB : Ft.puts s.bag (Ft.asksTo s q k) = B at *
      have HB200 := hid hB200
      have HAK := hid hAK
      have HBB := hid hBB
      have HST := hid hST
      clear hBB hE hST hAK hB200
      obtain ⟨la', ln', lc', ha', hn', hc', a0', n0', c0', a1', n1', c1', a2', n2', c2', a3', n3', c3', fa', fn', fc', ta', tn', tc', qa', qn', qc', aa', an', ac', hO⟩ := hat.on
      have hra := hO.r.a.plain
      have hlan := (sliceS_len hra).1
      have hkan : k < an' := by have h7 : s.ans.length = an' := hlan; have := HL.out; omega
      obtain ⟨b2, o2, A, N, C, he2, _, hb2, hcell, hiff⟩ := ans_at hra hkan
      subst he2
      have HI : Hid (A = none ↔ s.ans.getD k (some []) = none) := hiff
      have hli : (k : Int) < (qn : Int) := by omega
      have hk0 : (0 : Int) ≤ (k : Int) := by omega
      have hka : (k : Int) < (an' : Int) := by omega
      have hbn := new_bel wr (.cells #[.int .i64 t, .int .i64 r, .int .i64 x, .int .i64 c] 97)
      have kb := Box.new wr 97 #[.int .i64 t, .int .i64 r, .int .i64 x, .int .i64 c]
      have hO1 := hO.keep hbn
      have hm1 := hmv.bel hbn
      have hcell1 := (hbn.cell (by exact hb2)).trans hcell
      clear hra hlan hiff hO hmv hat hcell hbn
      go_upto_region 3 with fail
      clear d0 d1 d2 d3
      generalize wr.alloc (.cells #[.int .i64 t, .int .i64 r, .int .i64 x, .int .i64 c] 97) = W at *
      have y12 := hO1.box.cell 12 rfl
      have d0 := kb.cell 0 rfl
      have d1 := kb.cell 1 rfl
      have d2 := kb.cell 2 rfl
      have d3 := kb.cell 3 rfl
      cases A with
      | none =>
        have HS := HST.out
        rw [if_pos (HI.out.1 (by trivial))] at HS
        have HS2 : Hid (Ft.puts s.bag (Ft.asksTo s q (k + 1)) = Ft.put B (Ft.askOf s.e s.h s.lay s.toks (pt t r x c))) := by
          show _ = _
          rw [HS, Ft.puts_snoc, HBB.out]
        have HC : Hid (Calls _ _ _ _ _) := faskfor hO1.at HB200.out HR.out HT.out t r x c ⟨HAK.out.t, HAK.out.r, HAK.out.ex, HAK.out.m⟩
        have HM1 := hid hm1
        clear HS hO1 hm1
        go_wp2_with (go_at_call 60; refine HC.out.mono ?_; rintro e u2 ⟨rfl, hm2, hat2⟩)
        go_roundw
        case rel => exact ⟨k + 1, by omega, by go_num, HM1.out.trans hm2, by rw [HS2.out]; exact hat2⟩
        case measure => simp [intOf]; omega
      | some A =>
        have HS := HST.out
        rw [if_neg (fun h9 => by have h8 := HI.out.2 h9; cases h8), List.append_nil] at HS
        have HS2 : Hid (Ft.puts s.bag (Ft.asksTo s q (k + 1)) = B) := by
          show _ = _
          rw [HS, HBB.out]
        have HE := hid (And.intro hm1 hO1.at)
        clear HS hO1 hm1
        go_wp2
        go_roundw
        case rel => exact ⟨k + 1, by omega, by go_num, HE.out.1, by rw [HS2.out]; exact HE.out.2⟩
        case measure => simp [intOf]; omega
    · have hkn : k = qn := by omega
      subst hkn
      have hli : ¬ (k : Int) < (k : Int) := by omega
      have hX : Ft.puts s.bag (Ft.asksTo s q k) = Ft.puts s.bag ((Ft.left q s.ans).map (Ft.askOf s.e s.h s.lay s.toks)) := by rw [← HN.out, Ft.asksTo_all s q HL.out]
      rw [hX] at hat
      have HE := hid (And.intro hmv hat)
      clear hX hat hmv
      go_wp2
      go_end0
      exact ⟨rfl, HE.out.1, HE.out.2⟩

/-! ### begin -/
/-- What holds of a state that is about to be entered. -/
structure Ready (dim : Int) (ms : List Ly) (T : List (List Int)) (s : Ft.St) : Prop where
  m : Md.Right dim ms
  t : Md.TRight dim T
  i : Ft.Inv dim ms T (Ft.at0 ms s s.toks s.lay)
theorem toks_right {dim : Int} {ms : List Ly} {T : List (List Int)} {s : Ft.St} (hR : Md.Right dim ms) (hT : Md.TRight dim T) (hI : s.toks = Ft.tl ms T s.lay) : Md.TRight dim s.toks := by rw [hI]; exact Ft.tl_right hR hT _
theorem asks_ok {dim : Int} {ms : List Ly} {T : List (List Int)} {s : Ft.St} (hI : Ft.Inv dim ms T s) (hR : Md.Right dim ms) (hT : Md.TRight dim T) : ∀ x ∈ Ft.qs ms s, AskOk s x := by
  intro x hx
  unfold Ft.qs at hx
  by_cases hl : s.lay < ms.length
  · rw [if_pos hl] at hx
    have hp := hI.part hl hx
    have hi := hp.is hR hT
    have hg := Ft.ask_good hR hT hI.map hI.wide hp
    rw [← hI.toks] at hi hg
    have hwl := hI.wide _ (in_of hl ly0)
    exact ⟨⟨hi.1, hi.2.1⟩, ⟨hi.2.2.1, hi.2.2.2.1⟩, ⟨hi.2.2.2.2.1, by have := hi.2.2.2.2.2; omega⟩, hg.1⟩
  · rw [if_neg hl] at hx
    cases hx
theorem qs_few {dim : Int} {ms : List Ly} {T : List (List Int)} {s : Ft.St} (hI : Ft.Inv dim ms T s) (hR : Md.Right dim ms) (hT : Md.TRight dim T) : (Ft.qs ms s).length ≤ 32 := by
  unfold Ft.qs
  split
  · exact Ft.ps_few hI hR hT
  · exact Nat.zero_le _
theorem qs_len {dim : Int} {ms : List Ly} {T : List (List Int)} {s : Ft.St} (hI : Ft.Inv dim ms T s) : (Ft.qs ms s).length = s.ans.length := by
  rw [hI.many]
  unfold Ft.qs
  split <;> rfl
theorem ask_is (ms : List Ly) (s : Ft.St) : Ft.ask ms s = { s with bag := Ft.puts s.bag ((Ft.left (Ft.qs ms s) s.ans).map (Ft.askOf s.e s.h s.lay s.toks)) } := by
  unfold Ft.ask Ft.qs
  by_cases hl : s.lay < ms.length
  · rw [if_pos hl, if_pos hl]
  · rw [if_neg hl, if_neg hl]
    simp [Ft.left, Ft.puts]
/-- Ask, by the machine. -/
theorem faskM {T : List (List Int)} (H : FlAt O V w p dim ms s (Ft.qs ms s)) (hI : Ft.Inv dim ms T s) (hR : Md.Right dim ms) (hT : Md.TRight dim T) :
    Calls Tryz.prog 25 #[.pointer (some ⟨p, 0, none⟩)] w fun e w' => e = .returned (.tuple #[]) ∧ Mv V V w w' ∧ FlAt O V w' p dim ms (Ft.ask ms s) (Ft.qs ms s) := by
  have htr := toks_right hR hT hI.toks
  have h32 := qs_few hI hR hT
  have := fask H hI.few hI.map (by have := htr.2.1; omega) (qs_len hI) (by omega) (asks_ok hI hR hT)
  rw [← ask_is ms s] at this
  exact this

theorem ly_thereF {w : World} {F : Nat → Prop} {a : Option Addr} {n c : Nat} {ls : List Ly} (h : lysS.rep w F [.slice a n c] ls) {j : Nat} (hj : j < n) :
    ∃ b off ag ng cg ax nx cx g xs cap, a = some ⟨b, off, none⟩ ∧ F b ∧ b < w.heap.size ∧ ls.getD j ly0 = (g, xs, cap, ()) ∧ matS.rep w F [.slice ag ng cg] g ∧ xpsS.rep w F [.slice ax nx cx] xs ∧
      w.cell? ⟨b, off + j * 3, none⟩ = some (.slice ag ng cg) ∧ w.cell? ⟨b, off + j * 3 + 1, none⟩ = some (.slice ax nx cx) ∧ w.cell? ⟨b, off + j * 3 + 2, none⟩ = some (.int .i64 cap) := by
  obtain ⟨b, off, ag, ng, cg, ax, nx, cx, ha, hF, hb, hg, hx, c0, c1, c2⟩ := ly_at h hj
  exact ⟨b, off, ag, ng, cg, ax, nx, cx, (ls.getD j ly0).1, (ls.getD j ly0).2.1, (ls.getD j ly0).2.2.1, ha, hF, hb, rfl, hg, hx, c0, c1, c2⟩
theorem at0_ans (ms : List Ly) (s : Ft.St) : Ft.at0 ms s s.toks s.lay = { s with ans := List.replicate (Ft.qs ms (Ft.at0 ms s s.toks s.lay)).length none } := by
  unfold Ft.at0 Ft.qs Ft.ps Ft.lyAt
  by_cases hl : s.lay < ms.length
  · simp only [if_pos hl]
  · simp only [if_neg hl]
    rfl
set_option maxRecDepth 100000 in
set_option maxHeartbeats 4000000 in
theorem fbegin {T : List (List Int)} (H : FlAt O V w p dim ms s q) (hr : Ready dim ms T s) :
    Calls Tryz.prog 41 #[.pointer (some ⟨p, 0, none⟩)] w fun e w' => e = .returned (.tuple #[]) ∧ ∃ V', Mv V V' w w' ∧ FlAt O V' w' p dim ms (Ft.enter ms s s.toks s.lay) (Ft.qs ms (Ft.at0 ms s s.toks s.lay)) := by
  have HRD := hid hr
  obtain ⟨i0, hi0, hi1, hi2, hi3⟩ := info_parts Tryz.infoRow
  obtain ⟨la, ln, lc, ha, hn, hc, a0, n0, c0, a1, n1, c1, a2, n2, c2, a3, n3, c3, fa, fn, fc, ta, tn, tc, qa, qn, qc, aa, an, ac, hO⟩ := H.on
  have hat := hO.parts (rep_none ptS w (Out O V))
  have hmv : Mv V V w (w.setCell ⟨p, 11, none⟩ (.slice none 0 0)) := (Mv.refl V w).set hO.r.vp _
  have y11 := hO.box.cell 11 rfl
  have f11 := hO.box.free 11
  have HAT := hid hat
  have HMV := hid hmv
  clear hr hO hat hmv H
  go_enter Tryz.func41, Tryz.ntmps41
  go_upto_region 1 with fail
  generalize w.setCell ⟨p, 11, none⟩ (.slice none 0 0) = W at *
  clear y11 f11
  by_cases hl : s.lay < ms.length
  · have HL := hid hl
    have HD : Hid (Calls _ _ _ _ _) := fisdone HAT.out false ⟨fun h => (by cases h), fun h => (by omega)⟩
    clear hl
    go_wp2_with fail
    refine HD.out.mono ?_
    rintro e u1 ⟨rfl, hb1⟩
    obtain ⟨la, ln, lc, ha, hn, hc, a0, n0, c0, a1, n1, c1, a2, n2, c2, a3, n3, c3, fa, fn, fc, ta, tn, tc, qa, qn, qc, aa, an, ac, hO⟩ := (HAT.out.keep hb1).on
    have hm1 := HMV.out.bel hb1
    have hlm := (sliceS_len hO.r.m).1
    have hlt := (sliceS_len hO.r.t).1
    have hll : s.lay < ln := by have := HL.out; omega
    obtain ⟨bl, ol, ag, ng, cg, ax, nx, cx, g, xs, cap, rfl, hFb, hbb, hE, hrg, hrx, e0, e1, e2⟩ := ly_thereF hO.r.m hll
    have hbp : bl ≠ p := fun e => hFb.1 (e ▸ hO.r.vp)
    have hLR : Md.LRight (g, xs, cap, ()) dim := by rw [← hE]; exact Ft.ly_right HRD.out.m HL.out
    have hTR := toks_right HRD.out.m HRD.out.t HRD.out.i.toks
    have hTR' : Md.TRight dim s.toks := hTR
    have hD : Below u1.heap.size u1 u1.drew := (Below.refl _ u1).drew
    have HP : Hid (Calls _ _ _ _ _) := mpartsH ag ng cg ax nx cx g xs cap dim ta tn tc s.toks u1.drew (Shape.any (Shape.below hrg hD)) (Shape.any (Shape.below hrx hD)) (Shape.any (Shape.below hO.r.t hD)) hLR HRD.out.m.2.1 hTR'
    have HQ : Hid (Md.parts (g, xs, cap, ()) s.toks = Ft.qs ms (Ft.at0 ms s s.toks s.lay)) := by
      show _ = _
      unfold Ft.qs Ft.ps Ft.lyAt Ft.at0
      rw [if_pos HL.out, hE]
    have HH : Hid (∀ u, Below u1.heap.size u1 u → u.cell? ⟨p, 1, none⟩ = some (.slice (some ⟨bl, ol, none⟩) ln lc) ∧ u.cell? ⟨p, 9, none⟩ = some (.int .i64 (s.lay : Int)) ∧ u.cell? ⟨p, 10, none⟩ = some (.slice ta tn tc) ∧ u.cell? ⟨bl, ol + s.lay * 3, none⟩ = some (.slice ag ng cg) ∧ u.cell? ⟨bl, ol + s.lay * 3 + 1, none⟩ = some (.slice ax nx cx) ∧ u.cell? ⟨bl, ol + s.lay * 3 + 2, none⟩ = some (.int .i64 cap)) := fun u hu => ⟨(hO.box.keep hu).cell 1 rfl, (hO.box.keep hu).cell 9 rfl, (hO.box.keep hu).cell 10 rfl, (hu.cell (by exact hbb)).trans e0, (hu.cell (by exact hbb)).trans e1, (hu.cell (by exact hbb)).trans e2⟩
    have HH2 : Hid (∀ u x, Below u1.heap.size u1 u → (u.setCell ⟨p, 11, none⟩ x).cell? ⟨p, 1, none⟩ = some (.slice (some ⟨bl, ol, none⟩) ln lc) ∧ (u.setCell ⟨p, 11, none⟩ x).cell? ⟨p, 9, none⟩ = some (.int .i64 (s.lay : Int)) ∧ (u.setCell ⟨p, 11, none⟩ x).cell? ⟨p, 10, none⟩ = some (.slice ta tn tc) ∧ (u.setCell ⟨p, 11, none⟩ x).cell? ⟨bl, ol + s.lay * 3, none⟩ = some (.slice ag ng cg) ∧ (u.setCell ⟨p, 11, none⟩ x).cell? ⟨bl, ol + s.lay * 3 + 1, none⟩ = some (.slice ax nx cx) ∧ (u.setCell ⟨p, 11, none⟩ x).cell? ⟨bl, ol + s.lay * 3 + 2, none⟩ = some (.int .i64 cap)) := fun u x hu => ⟨((hO.box.keep hu).set 11 x).cell 1 rfl, ((hO.box.keep hu).set 11 x).cell 9 rfl, ((hO.box.keep hu).set 11 x).cell 10 rfl, (World.cell?_of_block (a := ⟨bl, ol + s.lay * 3, none⟩) (Below.heap_setCell u _ x bl hbp)).trans ((hu.cell (by exact hbb)).trans e0), (World.cell?_of_block (a := ⟨bl, ol + s.lay * 3 + 1, none⟩) (Below.heap_setCell u _ x bl hbp)).trans ((hu.cell (by exact hbb)).trans e1), (World.cell?_of_block (a := ⟨bl, ol + s.lay * 3 + 2, none⟩) (Below.heap_setCell u _ x bl hbp)).trans ((hu.cell (by exact hbb)).trans e2)⟩
    have HO1 := hid hO
    have HM1 := hid hm1
    have hSS := HH.out _ (Below.refl _ _)
    have hli : (s.lay : Int) < (ln : Int) := by omega
    have hl0 : (0 : Int) ≤ (s.lay : Int) := by omega
    clear hlm hlt hll hE hrg hrx e0 e1 e2 hLR hTR hTR' hO hm1 HD hFb hb1
    go_wp2
    go_region_held3 (fun w' => w'.cell? ⟨p, 1, none⟩ = some (.slice (some ⟨bl, ol, none⟩) ln lc) ∧ w'.cell? ⟨p, 9, none⟩ = some (.int .i64 (s.lay : Int)) ∧ w'.cell? ⟨p, 10, none⟩ = some (.slice ta tn tc) ∧ w'.cell? ⟨bl, ol + s.lay * 3, none⟩ = some (.slice ag ng cg) ∧ w'.cell? ⟨bl, ol + s.lay * 3 + 1, none⟩ = some (.slice ax nx cx) ∧ w'.cell? ⟨bl, ol + s.lay * 3 + 2, none⟩ = some (.int .i64 cap))
      (first
        | exact HH2.out u3 (.slice a' n' c') hd3
        | exact HH.out _ hd3
        | exact HH.out _ hD
        | exact hSS
        | go_keep)
      (first
        | (go_at_call 79; refine HP.out.mono ?_; rintro e u3 ⟨hb3, a', n', c', rfl, hr3⟩; have hd3 := bel_then hD hb3; have z11 := (HO1.out.box.keep hd3).cell 11 rfl; have f11 := (HO1.out.box.keep hd3).free 11))
    all_goals
      have hat3 := (HO1.out.keep hd3).parts (out_new HO1.out.r (ptsS.mono hr3 fun b hb _ => hb))
      have hm3 := (HM1.out.bel hd3).set (p := p) (i := 11) HO1.out.r.vp (.slice a' n' c')
      rw [HQ.out] at hat3
      have HM := hid hm3
      clear hm3 z11 f11 hr3 hb3 hd3 hSS
      go_upto_region 3 with fail
      generalize u3.setCell ⟨p, 11, none⟩ (.slice a' n' c') = UU at *
      obtain ⟨la', ln', lc', ha', hn', hc', a0', n0', c0', a1', n1', c1', a2', n2', c2', a3', n3', c3', fa', fn', fc', ta', tn', tc', qa, qn, qc, aa', an', ac', hO⟩ := hat3.on
      clear hat3
      have hlq := (sliceS_len hO.r.q).1
      have x11 := hO.box.cell 11 rfl
      have HO := hid hO
      have HLQ := hid hlq
      have h32 := qs_few HRD.out.i HRD.out.m HRD.out.t
      have hq32 : qn ≤ 32 := by rw [← hlq]; exact h32
      clear hO hlq h32
      go_wp2_with (at_make; refine wpList_make_full _ rfl _ _ 25 rfl UU.heap.size 42 i0 (.slice none 0 0) 1 Tryz.underlying25 hi0 hi1 hi2 _ _ _ _ qn rfl rfl (by rfl) (by rfl) ?b2 ?b3 (Nat.le_refl _) ?_)
      case b2 => rw [hi3]; omega
      case b3 => unfold maxLen; omega
      intro u0 hown0 hg0
      have hb0 : Below UU.heap.size UU u0 := (Below.refl _ _).grown hg0 (Nat.le_refl _) (fun g hg => by cases hg)
      have ho0 : Own ansS u0 UU.heap.size 42 (.slice (some ⟨UU.heap.size, 0, none⟩) qn qn) (List.replicate qn none) :=
        Own.made (A := ansS) (z := [.slice none 0 0]) (by show 0 < 1; omega) rfl (by show u0.ownsRow UU.heap.size 42 1 _ qn (madeCells #[.slice none 0 0] (qn * 1)).toList; rw [Nat.mul_one]; exact hown0) (fun F => rfl)
      have hO0 := HO.out.keep hb0
      have z12 := hO0.box.cell 12 rfl
      have f12 := hO0.box.free 12
      have hfin := HO.out.ans hb0 ho0 (fun y hy => List.eq_of_mem_replicate hy)
      have hmf := ((HM.out.bel hb0).wide (g := UU.heap.size) HM.out.size).set (p := p) (i := 12) (.inl HO.out.r.vp) (.slice (some ⟨UU.heap.size, 0, none⟩) qn qn)
      have hfin2 : FlAt O (fun b => V b ∨ b = UU.heap.size) (u0.setCell ⟨p, 12, none⟩ (.slice (some ⟨UU.heap.size, 0, none⟩) qn qn)) p dim ms (Ft.at0 ms s s.toks s.lay) (Ft.qs ms (Ft.at0 ms s s.toks s.lay)) := by
        have ea := at0_ans ms s
        rw [HLQ.out] at ea
        generalize Ft.qs ms (Ft.at0 ms s s.toks s.lay) = Q at hfin ⊢
        rw [ea]
        exact hfin
      have HC : Hid (Calls _ _ _ _ _) := faskM hfin2 HRD.out.i HRD.out.m HRD.out.t
      have HMF := hid hmf
      clear hfin hfin2 hmf ho0 hown0 hg0 hb0 hO0 x11
      go_wp2_with (go_at_call 25; refine HC.out.mono ?_; rintro e u5 ⟨rfl, hm5, hat5⟩)
      go_end0
      exact ⟨rfl, _, HMF.out.trans hm5, hat5⟩
  · have hle := HRD.out.i.lay
    have hle' : s.lay ≤ ms.length := hle
    have HD : Hid (Calls _ _ _ _ _) := fisdone HAT.out true ⟨fun _ => (by omega), fun _ => rfl⟩
    have HQ : Hid (([] : List Pt) = Ft.qs ms (Ft.at0 ms s s.toks s.lay)) := by
      show _ = _
      unfold Ft.qs Ft.at0
      rw [if_neg hl]
    clear hle hle' hl
    go_wp2_with fail
    refine HD.out.mono ?_
    rintro e UU ⟨rfl, hb1⟩
    have hat3 := HAT.out.keep hb1
    rw [HQ.out] at hat3
    have hm3 := HMV.out.bel hb1
    have HM := hid hm3
    clear hm3 HD hb1
    obtain ⟨la', ln', lc', ha', hn', hc', a0', n0', c0', a1', n1', c1', a2', n2', c2', a3', n3', c3', fa', fn', fc', ta', tn', tc', qa, qn, qc, aa', an', ac', hO⟩ := hat3.on
    clear hat3
    have hlq := (sliceS_len hO.r.q).1
    have x11 := hO.box.cell 11 rfl
    have HO := hid hO
    have HLQ := hid hlq
    have h32 := qs_few HRD.out.i HRD.out.m HRD.out.t
    have hq32 : qn ≤ 32 := by rw [← hlq]; exact h32
    clear hO hlq h32
    go_wp2_with (at_make; refine wpList_make_full _ rfl _ _ 25 rfl UU.heap.size 42 i0 (.slice none 0 0) 1 Tryz.underlying25 hi0 hi1 hi2 _ _ _ _ qn rfl rfl (by rfl) (by rfl) ?b2 ?b3 (Nat.le_refl _) ?_)
    case b2 => rw [hi3]; omega
    case b3 => unfold maxLen; omega
    intro u0 hown0 hg0
    have hb0 : Below UU.heap.size UU u0 := (Below.refl _ _).grown hg0 (Nat.le_refl _) (fun g hg => by cases hg)
    have ho0 : Own ansS u0 UU.heap.size 42 (.slice (some ⟨UU.heap.size, 0, none⟩) qn qn) (List.replicate qn none) :=
      Own.made (A := ansS) (z := [.slice none 0 0]) (by show 0 < 1; omega) rfl (by show u0.ownsRow UU.heap.size 42 1 _ qn (madeCells #[.slice none 0 0] (qn * 1)).toList; rw [Nat.mul_one]; exact hown0) (fun F => rfl)
    have hO0 := HO.out.keep hb0
    have z12 := hO0.box.cell 12 rfl
    have f12 := hO0.box.free 12
    have hfin := HO.out.ans hb0 ho0 (fun y hy => List.eq_of_mem_replicate hy)
    have hmf := ((HM.out.bel hb0).wide (g := UU.heap.size) HM.out.size).set (p := p) (i := 12) (.inl HO.out.r.vp) (.slice (some ⟨UU.heap.size, 0, none⟩) qn qn)
    have hfin2 : FlAt O (fun b => V b ∨ b = UU.heap.size) (u0.setCell ⟨p, 12, none⟩ (.slice (some ⟨UU.heap.size, 0, none⟩) qn qn)) p dim ms (Ft.at0 ms s s.toks s.lay) (Ft.qs ms (Ft.at0 ms s s.toks s.lay)) := by
      have ea := at0_ans ms s
      rw [HLQ.out] at ea
      generalize Ft.qs ms (Ft.at0 ms s s.toks s.lay) = Q at hfin ⊢
      rw [ea]
      exact hfin
    have HC : Hid (Calls _ _ _ _ _) := faskM hfin2 HRD.out.i HRD.out.m HRD.out.t
    have HMF := hid hmf
    clear hfin hfin2 hmf ho0 hown0 hg0 hb0 hO0 x11
    go_wp2_with (go_at_call 25; refine HC.out.mono ?_; rintro e u5 ⟨rfl, hm5, hat5⟩)
    go_end0
    exact ⟨rfl, _, HMF.out.trans hm5, hat5⟩
end

end Go.Proofs.YtfidgcanolegfaaGreat
