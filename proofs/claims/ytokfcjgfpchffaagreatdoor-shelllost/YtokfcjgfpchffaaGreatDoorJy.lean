/- 3 texts as one, in their order: FltF, FltG, FltH. -/
import Derived.Test.YtokfcjgfpchffaaGreatDoorFltE
import Derived.Test.YtokfcjgfpchffaaGreatDoorKu
import Derived.Test.YtokfcjgfpchffaaGreatDoorJk

/- What askFor, Ask, begin and comeOn of package fleet do when called. -/
namespace Go.Proofs.YtokfcjgfpchffaaGreatDoor
open Go.ChangeShapes Go.WideShapes Go.ChangeAt Go.RowKit


set_option maxRecDepth 100000 in
/-- What is needed to ask for a part. -/
structure AskOk (s : Ft.St) (x : Pt) : Prop where
  t : 0 ≤ x.1 ∧ x.1 < (s.toks.length : Int)
  r : 0 ≤ x.2.1 ∧ x.2.1 ≤ 1
  ex : 0 ≤ x.2.2.1 ∧ x.2.2.1 < (s.h.length : Int)
  m : Wx.right (Ft.askOf s.e s.h s.lay s.toks x)
section
variable {O V : Nat → Prop} {w : World} {p : Nat} {dim : Int} {ms : List Ly} {s : Ft.St} {q : List Pt}
set_option maxHeartbeats 4000000 in
theorem faskfor (H : FlAt O V w p dim ms s q) (hf : s.bag.length ≤ 200) (hR : Pl.Right s.e s.h) (ht : s.toks.length ≤ 1000) (t r x k : Int) (hA : AskOk s (pt t r x k)) :
    Calls Tryz.prog 50 #[.pointer (some ⟨p, 0, none⟩), .agg #[.int .i64 t, .int .i64 r, .int .i64 x, .int .i64 k]] w fun e w' => e = .returned (.tuple #[]) ∧ Mv V V w w' ∧ FlAt O V w' p dim ms { s with bag := Ft.put s.bag (Ft.askOf s.e s.h s.lay s.toks (pt t r x k)) } q := by
  obtain ⟨h1, h2, h3, h4⟩ := hA
  obtain ⟨t', rfl⟩ : ∃ t' : Nat, t = t' := ⟨t.toNat, by have h9 : 0 ≤ t := h1.1; omega⟩
  obtain ⟨r', rfl⟩ : ∃ r' : Nat, r = r' := ⟨r.toNat, by have h9 : 0 ≤ r := h2.1; omega⟩
  obtain ⟨x', rfl⟩ : ∃ x' : Nat, x = x' := ⟨x.toNat, by have h9 : 0 ≤ x := h3.1; omega⟩
  have h1' : t' < s.toks.length := by have h9 : (t' : Int) < (s.toks.length : Int) := h1.2; omega
  have h2' : r' ≤ 1 := by have h9 : (r' : Int) ≤ 1 := h2.2; omega
  have h3' : x' < s.h.length := by have h9 : (x' : Int) < (s.h.length : Int) := h3.2; omega
  obtain ⟨la, ln, lc, ha, hn, hc, a0, n0, c0, a1, n1, c1, a2, n2, c2, a3, n3, c3, fa, fn, fc, ta, tn, tc, qa, qn, qc, aa, an, ac, hO⟩ := H.on
  have hlt := (sliceS_len hO.r.t).1
  have hlh := (sliceS_len hO.r.h).1
  obtain ⟨z, hz⟩ : ∃ z, Pl.pick (s.h.getD x' []) (t' + r') = z := ⟨_, rfl⟩
  have hm : Ft.askOf s.e s.h s.lay s.toks (pt (t' : Int) (r' : Int) (x' : Int) k) = ⟨1, 0, z, 0, 1, (s.lay : Int), (t' : Int), (r' : Int), (x' : Int), s.e, s.toks.getD t' []⟩ := by
    rw [← hz]
    unfold Ft.askOf pt
    simp only [Int.toNat_natCast]
    rw [show ((t' : Int) + (r' : Int)).toNat = t' + r' by omega]
  have HM : Hid (Ft.askOf s.e s.h s.lay s.toks (pt (t' : Int) (r' : Int) (x' : Int) k) = ⟨1, 0, z, 0, 1, (s.lay : Int), (t' : Int), (r' : Int), (x' : Int), s.e, s.toks.getD t' []⟩ ∧ Wx.right (Ft.askOf s.e s.h s.lay s.toks (pt (t' : Int) (r' : Int) (x' : Int) k))) := ⟨hm, h4⟩
  have hB := new_bel w (.cells #[.int .i64 (t' : Int), .int .i64 (r' : Int), .int .i64 (x' : Int), .int .i64 k] 95)
  have kp := Box.new w 95 #[.int .i64 (t' : Int), .int .i64 (r' : Int), .int .i64 (x' : Int), .int .i64 k]
  have hO1 := hO.keep hB
  have hpw : p ≠ w.heap.size := by have := hO.box.lt; omega
  have hsz : Ex.Sized s.h := ⟨by have := hR.2.1; omega, fun l hl => by have := Pl.row_len (hR.2.2 l hl); omega⟩
  have HF : Hid (s.bag.length ≤ 200) := hf
  have HPK : Hid (∀ u, Below (w.alloc (.cells #[.int .i64 (t' : Int), .int .i64 (r' : Int), .int .i64 (x' : Int), .int .i64 k] 95)).heap.size (w.alloc (.cells #[.int .i64 (t' : Int), .int .i64 (r' : Int), .int .i64 (x' : Int), .int .i64 k] 95)) u → Calls Tryz.prog 88 #[.agg #[.int .i64 s.e, .slice ha hn hc], .int .i64 (x' : Int), .int .i64 ((t' + r' : Nat) : Int)] u fun r w' => r = .returned (.tuple #[.int .i64 z, .bool true]) ∧ Below u.heap.size u w') := fun u hu => ppick s.e ha hn hc s.h x' (t' + r') u (Shape.any (Shape.below hO1.r.h hu)) hsz hR (by omega) (by omega) z hz
  have hwrap : IntKind.i64.wrap ((t' : Int) + (r' : Int)) = ((t' + r' : Nat) : Int) := by rw [IntKind.wrap_i64]; omega
  have htn : (t' : Int) < (tn : Int) := by omega
  have ht0 : (0 : Int) ≤ (t' : Int) := by omega
  have htn' : t' < tn := by omega
  clear h1 h2 h3 h4 h1' h2' h3' hm hsz hf hR ht hlt hlh hz H hO
  go_enter Tryz.func50, Tryz.ntmps50
  go_upto_region 1 with fail
  generalize w.alloc (.cells #[.int .i64 (t' : Int), .int .i64 (r' : Int), .int .i64 (x' : Int), .int .i64 k] 95) = W at *
  have k0 := fun x : Later W => x.cell (kp.cell 0 (v := .int .i64 (t' : Int)) rfl)
  have k1 := fun x : Later W => x.cell (kp.cell 1 (v := .int .i64 (r' : Int)) rfl)
  have k2 := fun x : Later W => x.cell (kp.cell 2 (v := .int .i64 (x' : Int)) rfl)
  have y2 := fun x : Later W => x.cell (hO1.box.cell 2 (v := .int .i64 s.e) rfl)
  have y3 := fun x : Later W => x.cell (hO1.box.cell 3 (v := .slice ha hn hc) rfl)
  have hpk : ∀ x : Later W, Calls Tryz.prog 88 #[.agg #[.int .i64 s.e, .slice ha hn hc], .int .i64 (x' : Int), .int .i64 ((t' + r' : Nat) : Int)] x.u fun r w' => r = .returned (.tuple #[.int .i64 z, .bool true]) ∧ Below x.u.heap.size x.u w' := fun x => HPK.out x.u x.h
  have HPC : Hid (∀ x : Later W, Calls Tryz.prog 88 #[.agg #[.int .i64 s.e, .slice ha hn hc], .int .i64 (x' : Int), .int .i64 ((t' + r' : Nat) : Int)] x.u fun r w' => r = .returned (.tuple #[.int .i64 z, .bool true]) ∧ Below x.u.heap.size x.u w') := hpk
  have HO1 : Hid (FlOn O V W p dim ms s q la ln lc ha hn hc a0 n0 c0 a1 n1 c1 a2 n2 c2 a3 n3 c3 fa fn fc ta tn tc qa qn qc aa an ac) := hO1
  have HK1 : Hid (Box W w.heap.size 95 #[.int .i64 (t' : Int), .int .i64 (r' : Int), .int .i64 (x' : Int), .int .i64 k]) := kp
  have HB1 : Hid (Below w.heap.size w W) := hB
  clear hpk HPK kp hO1 hB
  have : Nonempty (Later W) := Later.there W
  refine region_later (by kernel_rfl) (by kernel_rfl) ?_
  repeat (go_big_quiet_step ((go_at_call 88; exact Later.call (HPC.out _))))
  refine wpQuiet_nil ?_
  intro x9
  obtain ⟨W9, hb9⟩ := x9
  have hO9 := HO1.out.keep hb9
  have kp9 := HK1.out.keep hb9
  have hB9 := bel_then HB1.out hb9
  obtain ⟨b1, o1, A, C, he, hb1, d0, hrow⟩ := mat_at hO9.r.t htn'
  subst he
  have hbp : b1 ≠ p := by
    intro e
    obtain ⟨b2, o2, A2, C2, he2, hF2, d2⟩ : ∃ b2 o2 A2 C2, (some ⟨b1, o1, none⟩ : Option Addr) = some ⟨b2, o2, none⟩ ∧ Out O V b2 ∧ W9.cell? ⟨b2, o2 + t', none⟩ = some (.slice A2 (s.toks.getD t' []).length C2) := by
      have hlt := (sliceS_len hO9.r.t).1
      obtain ⟨b2, o2, cs, ha2, hF2, _, hc2, hr2⟩ := sliceS_at hO9.r.t (by exact Nat.one_pos) (j := t') (by omega)
      have e2 : s.toks.getD t' [] = s.toks[t']'(by omega) := by rw [List.getD_eq_getElem?_getD, List.getElem?_eq_getElem (by omega)]; rfl
      rw [e2]
      obtain ⟨A2, C2, css, rfl, _⟩ := hr2
      have h9 := hc2 0 _ rfl
      rw [show o2 + (t' * rowS.size + 0) = o2 + t' by show o2 + (t' * 1 + 0) = o2 + t'; omega] at h9
      exact ⟨b2, o2, A2, C2, ha2, hF2, h9⟩
    injection he2 with he2
    injection he2 with e1 _ _
    exact hF2.1 (by rw [← e1, e]; exact hO9.r.vp)
  generalize hv : s.toks.getD t' [] = v at *
  have HV : Hid (s.toks.getD t' [] = v) := hv
  have hD : Below W9.heap.size W9 W9.drew := (Below.refl _ W9).drew
  have HS : Hid (Calls _ _ _ _ _) := fsendR (hO9.keep hD).at 1 0 z 0 1 (s.lay : Int) (t' : Int) (r' : Int) (x' : Int) s.e A v.length C v (Shape.any (Shape.below hrow hD)) (Ft.askOf s.e s.h s.lay s.toks (pt (t' : Int) (r' : Int) (x' : Int) k)) HM.out.1 HM.out.2 HF.out
  clear hv HPC k0 k1 k2 y2 y3 HO1 HK1 HB1
  have HH : Hid (∀ u, Below W9.heap.size W9 u → u.cell? ⟨p, 9, none⟩ = some (.int .i64 (s.lay : Int)) ∧ u.cell? ⟨p, 2, none⟩ = some (.int .i64 s.e) ∧ u.cell? ⟨p, 10, none⟩ = some (.slice (some ⟨b1, o1, none⟩) tn tc) ∧ u.cell? ⟨w.heap.size, 0, none⟩ = some (.int .i64 (t' : Int)) ∧ u.cell? ⟨w.heap.size, 1, none⟩ = some (.int .i64 (r' : Int)) ∧ u.cell? ⟨w.heap.size, 2, none⟩ = some (.int .i64 (x' : Int)) ∧ u.cell? ⟨b1, o1 + t', none⟩ = some (.slice A v.length C)) := fun u hu => ⟨(hO9.box.keep hu).cell 9 rfl, (hO9.box.keep hu).cell 2 rfl, (hO9.box.keep hu).cell 10 rfl, (kp9.keep hu).cell 0 rfl, (kp9.keep hu).cell 1 rfl, (kp9.keep hu).cell 2 rfl, (hu.cell (by exact hb1)).trans d0⟩
  have HH2 : Hid (∀ u x, Below W9.heap.size W9 u → (u.setCell ⟨p, 8, none⟩ x).cell? ⟨p, 9, none⟩ = some (.int .i64 (s.lay : Int)) ∧ (u.setCell ⟨p, 8, none⟩ x).cell? ⟨p, 2, none⟩ = some (.int .i64 s.e) ∧ (u.setCell ⟨p, 8, none⟩ x).cell? ⟨p, 10, none⟩ = some (.slice (some ⟨b1, o1, none⟩) tn tc) ∧ (u.setCell ⟨p, 8, none⟩ x).cell? ⟨w.heap.size, 0, none⟩ = some (.int .i64 (t' : Int)) ∧ (u.setCell ⟨p, 8, none⟩ x).cell? ⟨w.heap.size, 1, none⟩ = some (.int .i64 (r' : Int)) ∧ (u.setCell ⟨p, 8, none⟩ x).cell? ⟨w.heap.size, 2, none⟩ = some (.int .i64 (x' : Int)) ∧ (u.setCell ⟨p, 8, none⟩ x).cell? ⟨b1, o1 + t', none⟩ = some (.slice A v.length C)) := fun u x hu => ⟨((hO9.box.keep hu).set 8 x).cell 9 rfl, ((hO9.box.keep hu).set 8 x).cell 2 rfl, ((hO9.box.keep hu).set 8 x).cell 10 rfl, ((kp9.keep hu).other x (Ne.symm hpw)).cell 0 rfl, ((kp9.keep hu).other x (Ne.symm hpw)).cell 1 rfl, ((kp9.keep hu).other x (Ne.symm hpw)).cell 2 rfl, (World.cell?_of_block (a := ⟨b1, o1 + t', none⟩) (Below.heap_setCell u _ x b1 hbp)).trans ((hu.cell (by exact hb1)).trans d0)⟩
  have HO9 := hid hO9
  have HB9 : Hid (Below w.heap.size w W9) := hB9
  have hSS := HH.out _ (Below.refl _ _)
  clear d0 hrow hO9 kp9 hB9
  go_wp2
  go_region_held3 (fun w' => w'.cell? ⟨p, 9, none⟩ = some (.int .i64 (s.lay : Int)) ∧ w'.cell? ⟨p, 2, none⟩ = some (.int .i64 s.e) ∧ w'.cell? ⟨p, 10, none⟩ = some (.slice (some ⟨b1, o1, none⟩) tn tc) ∧ w'.cell? ⟨w.heap.size, 0, none⟩ = some (.int .i64 (t' : Int)) ∧ w'.cell? ⟨w.heap.size, 1, none⟩ = some (.int .i64 (r' : Int)) ∧ w'.cell? ⟨w.heap.size, 2, none⟩ = some (.int .i64 (x' : Int)) ∧ w'.cell? ⟨b1, o1 + t', none⟩ = some (.slice A v.length C))
    (first
      | exact hq
      | exact HH.out _ hD
      | exact hSS
      | go_keep)
    (first
      | (go_at_call 89; refine HS.out.mono ?_; rintro e w' ⟨rfl, u3, f', n', c', rfl, hb3, hr3⟩; have hd3 := bel_then hD hb3; have hq := HH2.out u3 (.slice f' n' c') hd3))
  all_goals
    go_wp2
    go_end0
    exact ⟨rfl, (Mv.of_bel (bel_then HB9.out hd3)).set HO9.out.r.vp _, (HO9.out.keep hd3).bag hr3⟩
end

end Go.Proofs.YtokfcjgfpchffaaGreatDoor

/- What Ask, begin and comeOn of package fleet do when called. -/
namespace Go.Proofs.YtokfcjgfpchffaaGreatDoor
open Go.ChangeShapes Go.WideShapes Go.ChangeAt Go.RowKit


namespace Ft
/-- What is asked of the first k parts. -/
def asksTo (s : St) (q : List Pt) (k : Nat) : List Wx.Msg := (left (q.take k) (s.ans.take k)).map (askOf s.e s.h s.lay s.toks)
theorem asksTo_zero (s : St) (q : List Pt) : asksTo s q 0 = [] := by simp [asksTo, left]
theorem asksTo_all (s : St) (q : List Pt) (h : q.length = s.ans.length) : asksTo s q q.length = (left q s.ans).map (askOf s.e s.h s.lay s.toks) := by
  unfold asksTo
  rw [List.take_length, h, List.take_length]
theorem asksTo_step (s : St) (q : List Pt) (h : q.length = s.ans.length) {k : Nat} (hk : k < q.length) : asksTo s q (k + 1) = asksTo s q k ++ (if s.ans.getD k (some []) = none then [askOf s.e s.h s.lay s.toks (q.getD k pt0)] else []) := by
  have hk2 : k < s.ans.length := by omega
  unfold asksTo left
  rw [List.take_succ_eq_append_getElem hk, List.take_succ_eq_append_getElem hk2, List.zip_append (by rw [List.length_take, List.length_take]; omega), List.filterMap_append, List.map_append]
  congr 1
  have e1 : q.getD k pt0 = q[k] := by rw [List.getD_eq_getElem?_getD, List.getElem?_eq_getElem hk]; rfl
  have e2 : s.ans.getD k (some []) = s.ans[k] := by rw [List.getD_eq_getElem?_getD, List.getElem?_eq_getElem hk2]; rfl
  rw [e1, e2]
  by_cases hn : s.ans[k] = none
  · rw [if_pos hn]; simp [hn]
  · rw [if_neg hn]; simp [hn]
theorem puts_snoc (b xs : List Wx.Msg) (m : Wx.Msg) : puts b (xs ++ [m]) = put (puts b xs) m := by simp [puts]
/-- What it is told when it begins a layer. -/
def qs (ms : List Ly) (s : St) : List Pt := if s.lay < ms.length then ps ms s else []
end Ft

theorem Mv.rep {α : Type} {A : Shape α} {O V V' : Nat → Prop} {w w' : World} {cs : List Value} {x : α} (hm : Mv V V' w w') (h : A.rep w (Out O V) cs x) : A.rep w' (Out O V) cs x := A.keep h fun b hb hlt => hm.block b hlt hb.1

section
variable {O V : Nat → Prop} {w : World} {p : Nat} {dim : Int} {ms : List Ly} {s : Ft.St} {q : List Pt}
set_option maxRecDepth 100000 in
set_option maxHeartbeats 4000000 in
theorem fask (H : FlAt O V w p dim ms s q) (hf : s.bag.length ≤ 200) (hR : Pl.Right s.e s.h) (ht : s.toks.length ≤ 1000) (hq : q.length = s.ans.length) (hq9 : q.length ≤ 1000) (hA : ∀ x ∈ q, AskOk s x) :
    Calls Tryz.prog 20 #[.pointer (some ⟨p, 0, none⟩)] w fun e w' => e = .returned (.tuple #[]) ∧ Mv V V w w' ∧ FlAt O V w' p dim ms { s with bag := Ft.puts s.bag ((Ft.left q s.ans).map (Ft.askOf s.e s.h s.lay s.toks)) } q := by
  have q22 : ∀ (w : World) (a : Option Addr) (n c n' c' : Nat), (binOp .eql 31 (.slice a n c) (.slice none n' c')).run Tryz.prog w = .ok (.bool a.isNone) w := fun w a n c n' c' => Lib.run_eql_slice_nil w _ _ a n c n' c' Tryz.underlying31
  have HH := hid H
  have HF := hid hf
  have HR := hid hR
  have HT := hid ht
  have HL := hid hq
  have HL9 := hid hq9
  have HA := hid hA
  obtain ⟨la, ln, lc, ha, hn, hc, a0, n0, c0, a1, n1, c1, a2, n2, c2, a3, n3, c3, fa, fn, fc, ta, tn, tc, qa, qn, qc, aa, an, ac, hO⟩ := H.on
  have hlq := (sliceS_len hO.r.q).1
  have HQ := hid hO.r.q
  have HN := hid hlq
  have hqn9 : qn ≤ 1000 := by omega
  have x11 := hO.box.cell 11 rfl
  clear hlq hO hf hR ht hq hq9 hA H
  go_enter Tryz.func20, Tryz.ntmps20
  go_wp2
  go_loopw [9] (fun i wr => ∃ k : Nat, k ≤ qn ∧ i = .int .i64 k ∧ Mv V V w wr ∧ FlAt O V wr p dim ms { s with bag := Ft.puts s.bag (Ft.asksTo s q k) } q) (fun i _ => qn - (intOf i).toNat)
  case atStart => exact ⟨0, Nat.zero_le _, rfl, Mv.refl _ _, by rw [Ft.asksTo_zero]; exact HH.out⟩
  case round =>
    clear HH x11
    obtain ⟨k, hk, rfl, hmv, hat⟩ := hrel
    by_cases hlt : k < qn
    · obtain ⟨b1, o1, t, r, x, c, rfl, _, hE, d0, d1, d2, d3⟩ := pt_there (hmv.rep HQ.out) hlt
      have hkl : k < q.length := by have := HN.out; omega
      have hST := Ft.asksTo_step s q HL.out hkl
      rw [hE] at hST
      have hAK : AskOk s (pt t r x c) := HA.out _ (by rw [← hE]; exact in_of hkl pt0)
      have hB200 : (Ft.puts s.bag (Ft.asksTo s q k)).length ≤ 200 := Ft.puts_len HF.out
      generalize hBB : Ft.puts s.bag (Ft.asksTo s q k) = B at *
      have HB200 := hid hB200
      have HAK := hid hAK
      have HBB := hid hBB
      have HST := hid hST
      clear hBB hE hST hAK hB200
      obtain ⟨la', ln', lc', ha', hn', hc', a0', n0', c0', a1', n1', c1', a2', n2', c2', a3', n3', c3', fa', fn', fc', ta', tn', tc', qa', qn', qc', aa', an', ac', hO⟩ := hat.on
      have hra := hO.r.a.plain
      have hlan := (sliceS_len hra).1
      have hkan : k < an' := by have h7 : s.ans.length = an' := hlan; have := HL.out; omega
      obtain ⟨b2, o2, A, N, C, he2, _, hb2, hcell, hiff⟩ := ans_at hra hkan
      subst he2
      have HI : Hid (A = none ↔ s.ans.getD k (some []) = none) := hiff
      have hli : (k : Int) < (qn : Int) := by omega
      have hk0 : (0 : Int) ≤ (k : Int) := by omega
      have hka : (k : Int) < (an' : Int) := by omega
      have hbn := new_bel wr (.cells #[.int .i64 t, .int .i64 r, .int .i64 x, .int .i64 c] 95)
      have kb := Box.new wr 95 #[.int .i64 t, .int .i64 r, .int .i64 x, .int .i64 c]
      have hO1 := hO.keep hbn
      have hm1 := hmv.bel hbn
      have hcell1 := (hbn.cell (by exact hb2)).trans hcell
      clear hra hlan hiff hO hmv hat hcell hbn
      go_upto_region 3 with fail
      clear d0 d1 d2 d3
      generalize wr.alloc (.cells #[.int .i64 t, .int .i64 r, .int .i64 x, .int .i64 c] 95) = W at *
      have y12 := hO1.box.cell 12 rfl
      have d0 := kb.cell 0 rfl
      have d1 := kb.cell 1 rfl
      have d2 := kb.cell 2 rfl
      have d3 := kb.cell 3 rfl
      cases A with
      | none =>
        have HS := HST.out
        rw [if_pos (HI.out.1 (by trivial))] at HS
        have HS2 : Hid (Ft.puts s.bag (Ft.asksTo s q (k + 1)) = Ft.put B (Ft.askOf s.e s.h s.lay s.toks (pt t r x c))) := by
          show _ = _
          rw [HS, Ft.puts_snoc, HBB.out]
        have HC : Hid (Calls _ _ _ _ _) := faskfor hO1.at HB200.out HR.out HT.out t r x c ⟨HAK.out.t, HAK.out.r, HAK.out.ex, HAK.out.m⟩
        have HM1 := hid hm1
        clear HS hO1 hm1
        go_wp2_with (go_at_call 50; refine HC.out.mono ?_; rintro e u2 ⟨rfl, hm2, hat2⟩)
        go_roundw
        case rel => exact ⟨k + 1, by omega, by go_num, HM1.out.trans hm2, by rw [HS2.out]; exact hat2⟩
        case measure => simp [intOf]; omega
      | some A =>
        have HS := HST.out
        rw [if_neg (fun h9 => by have h8 := HI.out.2 h9; cases h8), List.append_nil] at HS
        have HS2 : Hid (Ft.puts s.bag (Ft.asksTo s q (k + 1)) = B) := by
          show _ = _
          rw [HS, HBB.out]
        have HE := hid (And.intro hm1 hO1.at)
        clear HS hO1 hm1
        go_wp2
        go_roundw
        case rel => exact ⟨k + 1, by omega, by go_num, HE.out.1, by rw [HS2.out]; exact HE.out.2⟩
        case measure => simp [intOf]; omega
    · have hkn : k = qn := by omega
      subst hkn
      have hli : ¬ (k : Int) < (k : Int) := by omega
      have hX : Ft.puts s.bag (Ft.asksTo s q k) = Ft.puts s.bag ((Ft.left q s.ans).map (Ft.askOf s.e s.h s.lay s.toks)) := by rw [← HN.out, Ft.asksTo_all s q HL.out]
      rw [hX] at hat
      have HE := hid (And.intro hmv hat)
      clear hX hat hmv
      go_wp2
      go_end0
      exact ⟨rfl, HE.out.1, HE.out.2⟩

/-! ### begin -/
/-- What holds of a state that is about to be entered. -/
structure Ready (dim : Int) (ms : List Ly) (T : List (List Int)) (s : Ft.St) : Prop where
  m : Md.Right dim ms
  t : Md.TRight dim T
  i : Ft.Inv dim ms T (Ft.at0 ms s s.toks s.lay)
theorem toks_right {dim : Int} {ms : List Ly} {T : List (List Int)} {s : Ft.St} (hR : Md.Right dim ms) (hT : Md.TRight dim T) (hI : s.toks = Ft.tl ms T s.lay) : Md.TRight dim s.toks := by rw [hI]; exact Ft.tl_right hR hT _
theorem asks_ok {dim : Int} {ms : List Ly} {T : List (List Int)} {s : Ft.St} (hI : Ft.Inv dim ms T s) (hR : Md.Right dim ms) (hT : Md.TRight dim T) : ∀ x ∈ Ft.qs ms s, AskOk s x := by
  intro x hx
  unfold Ft.qs at hx
  by_cases hl : s.lay < ms.length
  · rw [if_pos hl] at hx
    have hp := hI.part hl hx
    have hi := hp.is hR hT
    have hg := Ft.ask_good hR hT hI.map hI.wide hp
    rw [← hI.toks] at hi hg
    have hwl := hI.wide _ (in_of hl ly0)
    exact ⟨⟨hi.1, hi.2.1⟩, ⟨hi.2.2.1, hi.2.2.2.1⟩, ⟨hi.2.2.2.2.1, by have := hi.2.2.2.2.2; omega⟩, hg.1⟩
  · rw [if_neg hl] at hx
    cases hx
theorem qs_few {dim : Int} {ms : List Ly} {T : List (List Int)} {s : Ft.St} (hI : Ft.Inv dim ms T s) (hR : Md.Right dim ms) (hT : Md.TRight dim T) : (Ft.qs ms s).length ≤ 32 := by
  unfold Ft.qs
  split
  · exact Ft.ps_few hI hR hT
  · exact Nat.zero_le _
theorem qs_len {dim : Int} {ms : List Ly} {T : List (List Int)} {s : Ft.St} (hI : Ft.Inv dim ms T s) : (Ft.qs ms s).length = s.ans.length := by
  rw [hI.many]
  unfold Ft.qs
  split <;> rfl
theorem ask_is (ms : List Ly) (s : Ft.St) : Ft.ask ms s = { s with bag := Ft.puts s.bag ((Ft.left (Ft.qs ms s) s.ans).map (Ft.askOf s.e s.h s.lay s.toks)) } := by
  unfold Ft.ask Ft.qs
  by_cases hl : s.lay < ms.length
  · rw [if_pos hl, if_pos hl]
  · rw [if_neg hl, if_neg hl]
    simp [Ft.left, Ft.puts]
/-- Ask, by the machine. -/
theorem faskM {T : List (List Int)} (H : FlAt O V w p dim ms s (Ft.qs ms s)) (hI : Ft.Inv dim ms T s) (hR : Md.Right dim ms) (hT : Md.TRight dim T) :
    Calls Tryz.prog 20 #[.pointer (some ⟨p, 0, none⟩)] w fun e w' => e = .returned (.tuple #[]) ∧ Mv V V w w' ∧ FlAt O V w' p dim ms (Ft.ask ms s) (Ft.qs ms s) := by
  have htr := toks_right hR hT hI.toks
  have h32 := qs_few hI hR hT
  have := fask H hI.few hI.map (by have := htr.2.1; omega) (qs_len hI) (by omega) (asks_ok hI hR hT)
  rw [← ask_is ms s] at this
  exact this

theorem ly_thereF {w : World} {F : Nat → Prop} {a : Option Addr} {n c : Nat} {ls : List Ly} (h : lysS.rep w F [.slice a n c] ls) {j : Nat} (hj : j < n) :
    ∃ b off ag ng cg ax nx cx g xs cap, a = some ⟨b, off, none⟩ ∧ F b ∧ b < w.heap.size ∧ ls.getD j ly0 = (g, xs, cap, ()) ∧ matS.rep w F [.slice ag ng cg] g ∧ xpsS.rep w F [.slice ax nx cx] xs ∧
      w.cell? ⟨b, off + j * 3, none⟩ = some (.slice ag ng cg) ∧ w.cell? ⟨b, off + j * 3 + 1, none⟩ = some (.slice ax nx cx) ∧ w.cell? ⟨b, off + j * 3 + 2, none⟩ = some (.int .i64 cap) := by
  obtain ⟨b, off, ag, ng, cg, ax, nx, cx, ha, hF, hb, hg, hx, c0, c1, c2⟩ := ly_at h hj
  exact ⟨b, off, ag, ng, cg, ax, nx, cx, (ls.getD j ly0).1, (ls.getD j ly0).2.1, (ls.getD j ly0).2.2.1, ha, hF, hb, rfl, hg, hx, c0, c1, c2⟩
theorem at0_ans (ms : List Ly) (s : Ft.St) : Ft.at0 ms s s.toks s.lay = { s with ans := List.replicate (Ft.qs ms (Ft.at0 ms s s.toks s.lay)).length none } := by
  unfold Ft.at0 Ft.qs Ft.ps Ft.lyAt
  by_cases hl : s.lay < ms.length
  · simp only [if_pos hl]
  · simp only [if_neg hl]
    rfl
set_option maxRecDepth 100000 in
set_option maxHeartbeats 4000000 in
theorem fbegin {T : List (List Int)} (H : FlAt O V w p dim ms s q) (hr : Ready dim ms T s) :
    Calls Tryz.prog 47 #[.pointer (some ⟨p, 0, none⟩)] w fun e w' => e = .returned (.tuple #[]) ∧ ∃ V', Mv V V' w w' ∧ FlAt O V' w' p dim ms (Ft.enter ms s s.toks s.lay) (Ft.qs ms (Ft.at0 ms s s.toks s.lay)) := by
  have HRD := hid hr
  obtain ⟨i0, hi0, hi1, hi2, hi3⟩ := info_parts Tryz.infoRow
  obtain ⟨la, ln, lc, ha, hn, hc, a0, n0, c0, a1, n1, c1, a2, n2, c2, a3, n3, c3, fa, fn, fc, ta, tn, tc, qa, qn, qc, aa, an, ac, hO⟩ := H.on
  have hat := hO.parts (rep_none ptS w (Out O V))
  have hmv : Mv V V w (w.setCell ⟨p, 11, none⟩ (.slice none 0 0)) := (Mv.refl V w).set hO.r.vp _
  have y11 := hO.box.cell 11 rfl
  have f11 := hO.box.free 11
  have HAT := hid hat
  have HMV := hid hmv
  clear hr hO hat hmv H
  go_enter Tryz.func47, Tryz.ntmps47
  go_upto_region 1 with fail
  generalize w.setCell ⟨p, 11, none⟩ (.slice none 0 0) = W at *
  clear y11 f11
  by_cases hl : s.lay < ms.length
  · have HL := hid hl
    have HD : Hid (Calls _ _ _ _ _) := fisdone HAT.out false ⟨fun h => (by cases h), fun h => (by omega)⟩
    clear hl
    go_wp2_with fail
    refine HD.out.mono ?_
    rintro e u1 ⟨rfl, hb1⟩
    obtain ⟨la, ln, lc, ha, hn, hc, a0, n0, c0, a1, n1, c1, a2, n2, c2, a3, n3, c3, fa, fn, fc, ta, tn, tc, qa, qn, qc, aa, an, ac, hO⟩ := (HAT.out.keep hb1).on
    have hm1 := HMV.out.bel hb1
    have hlm := (sliceS_len hO.r.m).1
    have hlt := (sliceS_len hO.r.t).1
    have hll : s.lay < ln := by have := HL.out; omega
    obtain ⟨bl, ol, ag, ng, cg, ax, nx, cx, g, xs, cap, rfl, hFb, hbb, hE, hrg, hrx, e0, e1, e2⟩ := ly_thereF hO.r.m hll
    have hbp : bl ≠ p := fun e => hFb.1 (e ▸ hO.r.vp)
    have hLR : Md.LRight (g, xs, cap, ()) dim := by rw [← hE]; exact Ft.ly_right HRD.out.m HL.out
    have hTR := toks_right HRD.out.m HRD.out.t HRD.out.i.toks
    have hTR' : Md.TRight dim s.toks := hTR
    have hD : Below u1.heap.size u1 u1.drew := (Below.refl _ u1).drew
    have HP : Hid (Calls _ _ _ _ _) := mpartsH ag ng cg ax nx cx g xs cap dim ta tn tc s.toks u1.drew (Shape.any (Shape.below hrg hD)) (Shape.any (Shape.below hrx hD)) (Shape.any (Shape.below hO.r.t hD)) hLR HRD.out.m.2.1 hTR'
    have HQ : Hid (Md.parts (g, xs, cap, ()) s.toks = Ft.qs ms (Ft.at0 ms s s.toks s.lay)) := by
      show _ = _
      unfold Ft.qs Ft.ps Ft.lyAt Ft.at0
      rw [if_pos HL.out, hE]
    have HH : Hid (∀ u, Below u1.heap.size u1 u → u.cell? ⟨p, 1, none⟩ = some (.slice (some ⟨bl, ol, none⟩) ln lc) ∧ u.cell? ⟨p, 9, none⟩ = some (.int .i64 (s.lay : Int)) ∧ u.cell? ⟨p, 10, none⟩ = some (.slice ta tn tc) ∧ u.cell? ⟨bl, ol + s.lay * 3, none⟩ = some (.slice ag ng cg) ∧ u.cell? ⟨bl, ol + s.lay * 3 + 1, none⟩ = some (.slice ax nx cx) ∧ u.cell? ⟨bl, ol + s.lay * 3 + 2, none⟩ = some (.int .i64 cap)) := fun u hu => ⟨(hO.box.keep hu).cell 1 rfl, (hO.box.keep hu).cell 9 rfl, (hO.box.keep hu).cell 10 rfl, (hu.cell (by exact hbb)).trans e0, (hu.cell (by exact hbb)).trans e1, (hu.cell (by exact hbb)).trans e2⟩
    have HH2 : Hid (∀ u x, Below u1.heap.size u1 u → (u.setCell ⟨p, 11, none⟩ x).cell? ⟨p, 1, none⟩ = some (.slice (some ⟨bl, ol, none⟩) ln lc) ∧ (u.setCell ⟨p, 11, none⟩ x).cell? ⟨p, 9, none⟩ = some (.int .i64 (s.lay : Int)) ∧ (u.setCell ⟨p, 11, none⟩ x).cell? ⟨p, 10, none⟩ = some (.slice ta tn tc) ∧ (u.setCell ⟨p, 11, none⟩ x).cell? ⟨bl, ol + s.lay * 3, none⟩ = some (.slice ag ng cg) ∧ (u.setCell ⟨p, 11, none⟩ x).cell? ⟨bl, ol + s.lay * 3 + 1, none⟩ = some (.slice ax nx cx) ∧ (u.setCell ⟨p, 11, none⟩ x).cell? ⟨bl, ol + s.lay * 3 + 2, none⟩ = some (.int .i64 cap)) := fun u x hu => ⟨((hO.box.keep hu).set 11 x).cell 1 rfl, ((hO.box.keep hu).set 11 x).cell 9 rfl, ((hO.box.keep hu).set 11 x).cell 10 rfl, (World.cell?_of_block (a := ⟨bl, ol + s.lay * 3, none⟩) (Below.heap_setCell u _ x bl hbp)).trans ((hu.cell (by exact hbb)).trans e0), (World.cell?_of_block (a := ⟨bl, ol + s.lay * 3 + 1, none⟩) (Below.heap_setCell u _ x bl hbp)).trans ((hu.cell (by exact hbb)).trans e1), (World.cell?_of_block (a := ⟨bl, ol + s.lay * 3 + 2, none⟩) (Below.heap_setCell u _ x bl hbp)).trans ((hu.cell (by exact hbb)).trans e2)⟩
    have HO1 := hid hO
    have HM1 := hid hm1
    have hSS := HH.out _ (Below.refl _ _)
    have hli : (s.lay : Int) < (ln : Int) := by omega
    have hl0 : (0 : Int) ≤ (s.lay : Int) := by omega
    clear hlm hlt hll hE hrg hrx e0 e1 e2 hLR hTR hTR' hO hm1 HD hFb hb1
    go_wp2
    go_region_held3 (fun w' => w'.cell? ⟨p, 1, none⟩ = some (.slice (some ⟨bl, ol, none⟩) ln lc) ∧ w'.cell? ⟨p, 9, none⟩ = some (.int .i64 (s.lay : Int)) ∧ w'.cell? ⟨p, 10, none⟩ = some (.slice ta tn tc) ∧ w'.cell? ⟨bl, ol + s.lay * 3, none⟩ = some (.slice ag ng cg) ∧ w'.cell? ⟨bl, ol + s.lay * 3 + 1, none⟩ = some (.slice ax nx cx) ∧ w'.cell? ⟨bl, ol + s.lay * 3 + 2, none⟩ = some (.int .i64 cap))
      (first
        | exact HH2.out u3 (.slice a' n' c') hd3
        | exact HH.out _ hd3
        | exact HH.out _ hD
        | exact hSS
        | go_keep)
      (first
        | (go_at_call 85; refine HP.out.mono ?_; rintro e u3 ⟨hb3, a', n', c', rfl, hr3⟩; have hd3 := bel_then hD hb3; have z11 := (HO1.out.box.keep hd3).cell 11 rfl; have f11 := (HO1.out.box.keep hd3).free 11))
    all_goals
      have hat3 := (HO1.out.keep hd3).parts (out_new HO1.out.r (ptsS.mono hr3 fun b hb _ => hb))
      have hm3 := (HM1.out.bel hd3).set (p := p) (i := 11) HO1.out.r.vp (.slice a' n' c')
      rw [HQ.out] at hat3
      have HM := hid hm3
      clear hm3 z11 f11 hr3 hb3 hd3 hSS
      go_upto_region 3 with fail
      generalize u3.setCell ⟨p, 11, none⟩ (.slice a' n' c') = UU at *
      obtain ⟨la', ln', lc', ha', hn', hc', a0', n0', c0', a1', n1', c1', a2', n2', c2', a3', n3', c3', fa', fn', fc', ta', tn', tc', qa, qn, qc, aa', an', ac', hO⟩ := hat3.on
      clear hat3
      have hlq := (sliceS_len hO.r.q).1
      have x11 := hO.box.cell 11 rfl
      have HO := hid hO
      have HLQ := hid hlq
      have h32 := qs_few HRD.out.i HRD.out.m HRD.out.t
      have hq32 : qn ≤ 32 := by rw [← hlq]; exact h32
      clear hO hlq h32
      go_wp2_with (at_make; refine wpList_make_full _ rfl _ _ 32 rfl UU.heap.size 31 i0 (.slice none 0 0) 1 Tryz.underlying32 hi0 hi1 hi2 _ _ _ _ qn rfl rfl (by rfl) (by rfl) ?b2 ?b3 (Nat.le_refl _) ?_)
      case b2 => rw [hi3]; omega
      case b3 => unfold maxLen; omega
      intro u0 hown0 hg0
      have hb0 : Below UU.heap.size UU u0 := (Below.refl _ _).grown hg0 (Nat.le_refl _) (fun g hg => by cases hg)
      have ho0 : Own ansS u0 UU.heap.size 31 (.slice (some ⟨UU.heap.size, 0, none⟩) qn qn) (List.replicate qn none) :=
        Own.made (A := ansS) (z := [.slice none 0 0]) (by show 0 < 1; omega) rfl (by show u0.ownsRow UU.heap.size 31 1 _ qn (madeCells #[.slice none 0 0] (qn * 1)).toList; rw [Nat.mul_one]; exact hown0) (fun F => rfl)
      have hO0 := HO.out.keep hb0
      have z12 := hO0.box.cell 12 rfl
      have f12 := hO0.box.free 12
      have hfin := HO.out.ans hb0 ho0 (fun y hy => List.eq_of_mem_replicate hy)
      have hmf := ((HM.out.bel hb0).wide (g := UU.heap.size) HM.out.size).set (p := p) (i := 12) (.inl HO.out.r.vp) (.slice (some ⟨UU.heap.size, 0, none⟩) qn qn)
      have hfin2 : FlAt O (fun b => V b ∨ b = UU.heap.size) (u0.setCell ⟨p, 12, none⟩ (.slice (some ⟨UU.heap.size, 0, none⟩) qn qn)) p dim ms (Ft.at0 ms s s.toks s.lay) (Ft.qs ms (Ft.at0 ms s s.toks s.lay)) := by
        have ea := at0_ans ms s
        rw [HLQ.out] at ea
        generalize Ft.qs ms (Ft.at0 ms s s.toks s.lay) = Q at hfin ⊢
        rw [ea]
        exact hfin
      have HC : Hid (Calls _ _ _ _ _) := faskM hfin2 HRD.out.i HRD.out.m HRD.out.t
      have HMF := hid hmf
      clear hfin hfin2 hmf ho0 hown0 hg0 hb0 hO0 x11
      go_wp2_with (go_at_call 20; refine HC.out.mono ?_; rintro e u5 ⟨rfl, hm5, hat5⟩)
      go_end0
      exact ⟨rfl, _, HMF.out.trans hm5, hat5⟩
  · have hle := HRD.out.i.lay
    have hle' : s.lay ≤ ms.length := hle
    have HD : Hid (Calls _ _ _ _ _) := fisdone HAT.out true ⟨fun _ => (by omega), fun _ => rfl⟩
    have HQ : Hid (([] : List Pt) = Ft.qs ms (Ft.at0 ms s s.toks s.lay)) := by
      show _ = _
      unfold Ft.qs Ft.at0
      rw [if_neg hl]
    clear hle hle' hl
    go_wp2_with fail
    refine HD.out.mono ?_
    rintro e UU ⟨rfl, hb1⟩
    have hat3 := HAT.out.keep hb1
    rw [HQ.out] at hat3
    have hm3 := HMV.out.bel hb1
    have HM := hid hm3
    clear hm3 HD hb1
    obtain ⟨la', ln', lc', ha', hn', hc', a0', n0', c0', a1', n1', c1', a2', n2', c2', a3', n3', c3', fa', fn', fc', ta', tn', tc', qa, qn, qc, aa', an', ac', hO⟩ := hat3.on
    clear hat3
    have hlq := (sliceS_len hO.r.q).1
    have x11 := hO.box.cell 11 rfl
    have HO := hid hO
    have HLQ := hid hlq
    have h32 := qs_few HRD.out.i HRD.out.m HRD.out.t
    have hq32 : qn ≤ 32 := by rw [← hlq]; exact h32
    clear hO hlq h32
    go_wp2_with (at_make; refine wpList_make_full _ rfl _ _ 32 rfl UU.heap.size 31 i0 (.slice none 0 0) 1 Tryz.underlying32 hi0 hi1 hi2 _ _ _ _ qn rfl rfl (by rfl) (by rfl) ?b2 ?b3 (Nat.le_refl _) ?_)
    case b2 => rw [hi3]; omega
    case b3 => unfold maxLen; omega
    intro u0 hown0 hg0
    have hb0 : Below UU.heap.size UU u0 := (Below.refl _ _).grown hg0 (Nat.le_refl _) (fun g hg => by cases hg)
    have ho0 : Own ansS u0 UU.heap.size 31 (.slice (some ⟨UU.heap.size, 0, none⟩) qn qn) (List.replicate qn none) :=
      Own.made (A := ansS) (z := [.slice none 0 0]) (by show 0 < 1; omega) rfl (by show u0.ownsRow UU.heap.size 31 1 _ qn (madeCells #[.slice none 0 0] (qn * 1)).toList; rw [Nat.mul_one]; exact hown0) (fun F => rfl)
    have hO0 := HO.out.keep hb0
    have z12 := hO0.box.cell 12 rfl
    have f12 := hO0.box.free 12
    have hfin := HO.out.ans hb0 ho0 (fun y hy => List.eq_of_mem_replicate hy)
    have hmf := ((HM.out.bel hb0).wide (g := UU.heap.size) HM.out.size).set (p := p) (i := 12) (.inl HO.out.r.vp) (.slice (some ⟨UU.heap.size, 0, none⟩) qn qn)
    have hfin2 : FlAt O (fun b => V b ∨ b = UU.heap.size) (u0.setCell ⟨p, 12, none⟩ (.slice (some ⟨UU.heap.size, 0, none⟩) qn qn)) p dim ms (Ft.at0 ms s s.toks s.lay) (Ft.qs ms (Ft.at0 ms s s.toks s.lay)) := by
      have ea := at0_ans ms s
      rw [HLQ.out] at ea
      generalize Ft.qs ms (Ft.at0 ms s s.toks s.lay) = Q at hfin ⊢
      rw [ea]
      exact hfin
    have HC : Hid (Calls _ _ _ _ _) := faskM hfin2 HRD.out.i HRD.out.m HRD.out.t
    have HMF := hid hmf
    clear hfin hfin2 hmf ho0 hown0 hg0 hb0 hO0 x11
    go_wp2_with (go_at_call 20; refine HC.out.mono ?_; rintro e u5 ⟨rfl, hm5, hat5⟩)
    go_end0
    exact ⟨rfl, _, HMF.out.trans hm5, hat5⟩
end

end Go.Proofs.YtokfcjgfpchffaaGreatDoor

/- What comeOn of package fleet does when called. -/
namespace Go.Proofs.YtokfcjgfpchffaaGreatDoor
open Go.ChangeShapes Go.WideShapes Go.ChangeAt Go.RowKit


theorem qs_ask (ms : List Ly) (s : Ft.St) : Ft.qs ms (Ft.ask ms s) = Ft.qs ms s := by
  obtain ⟨_, h1, h2, _⟩ := Ft.ask_ans ms s
  unfold Ft.qs Ft.ps Ft.lyAt
  rw [h1, h2]
theorem qs_enter (ms : List Ly) (s : Ft.St) (t : List (List Int)) (l : Nat) : Ft.qs ms (Ft.enter ms s t l) = Ft.qs ms (Ft.at0 ms s t l) := qs_ask ms _
/-- The layer, as it stands in memory. -/
def layIn (p : Nat) (w : World) : Nat := match w.cell? ⟨p, 9, none⟩ with
  | some v => (intOf v).toNat
  | none => 0
theorem layIn_is {O V : Nat → Prop} {w : World} {p : Nat} {dim : Int} {ms : List Ly} {s : Ft.St} {q : List Pt} (H : FlAt O V w p dim ms s q) : layIn p w = s.lay := by
  obtain ⟨la, ln, lc, ha, hn, hc, a0, n0, c0, a1, n1, c1, a2, n2, c2, a3, n3, c3, fa, fn, fc, ta, tn, tc, qa, qn, qc, aa, an, ac, hx, hr⟩ := H
  have h9 := hx.cell 9 (v := .int .i64 (s.lay : Int)) rfl
  unfold layIn
  rw [h9]
  simp [intOf]
section
variable {O V : Nat → Prop} {w : World} {p : Nat} {dim : Int} {ms : List Ly} {s : Ft.St} {q : List Pt}
set_option maxRecDepth 100000 in
set_option maxHeartbeats 4000000 in
theorem fcomeon {T : List (List Int)} (H : FlAt O V w p dim ms s (Ft.qs ms s)) (hI : Ft.Inv dim ms T s) (hR : Md.Right dim ms) (hT : Md.TRight dim T) :
    Calls Tryz.prog 48 #[.pointer (some ⟨p, 0, none⟩)] w fun e w' => e = .returned (.tuple #[]) ∧ ∃ V', Mv V V' w w' ∧ FlAt O V' w' p dim ms (Ft.on ms s) (Ft.qs ms (Ft.on ms s)) := by
  have HH := hid H
  have HI := hid hI
  have HR := hid hR
  have HT := hid hT
  clear H hI hR hT
  go_enter Tryz.func48, Tryz.ntmps48
  go_wp2
  go_loopw [] (fun wr => ∃ V1 s1, Mv V V1 w wr ∧ FlAt O V1 wr p dim ms s1 (Ft.qs ms s1) ∧ (s1 = s ∨ (s1 = Ft.on ms s ∧ Ft.Settled ms s1))) (fun wr => ms.length - layIn p wr)
  case atStart => exact ⟨V, s, Mv.refl _ _, HH.out, .inl rfl⟩
  case round =>
    clear HH
    obtain ⟨V1, s1, hmv, hat, hwh⟩ := hrel
    have hI1 : Ft.Inv dim ms T s1 := hwh.elim (fun e => e ▸ HI.out) (fun e => e.1 ▸ HI.out.on HR.out HT.out)
    have hq32 := qs_few hI1 HR.out HT.out
    have han : s1.ans.length ≤ 1000 := by rw [← qs_len hI1]; omega
    by_cases hl : s1.lay < ms.length
    · by_cases hw : Ft.whole s1
      · obtain rfl : s1 = s := hwh.elim id fun e => absurd hw (e.2 hl)
        have hTR := toks_right HR.out HT.out hI1.toks
        have hall := hI1.all hl hw
        have hps : Ft.qs ms s1 = Ft.ps ms s1 := by unfold Ft.qs; rw [if_pos hl]
        have hLR := Ft.ly_right HR.out hl
        have hans : ∀ v ∈ s1.ans.map (fun x => x.getD []), v.length ≤ 1000 := by rw [hall]; exact Md.answers_sized hLR hTR HR.out.2.1
        have hne : s1.ans.map (fun x => x.getD []) = s1.ans.map (fun x => x.getD []) := rfl
        have HNX : Hid (Md.combine s1.toks (Ft.qs ms s1) (s1.ans.map fun x => x.getD []) = Ft.tl ms T (s1.lay + 1)) := by
          show _ = _
          rw [hps, hall, Ft.tl_next hl, ← hI1.toks]
          exact Md.combine_step hLR hTR
        have HON : Hid (Ft.on ms s1 = Ft.enter ms s1 (Md.combine s1.toks (Ft.qs ms s1) (s1.ans.map fun x => x.getD [])) (s1.lay + 1)) := by
          show _ = _
          unfold Ft.on
          rw [if_pos ⟨hl, hw⟩, hps]
        have hset := Ft.on_settled hI1 HR.out HT.out
        have HSET := hid hset
        have HL := hid hl
        have HD : Hid (Calls _ _ _ _ _) := fisdone hat false ⟨fun h => (by cases h), fun h => (by omega)⟩
        have HAN : Hid (∀ u, FlAt O V1 u p dim ms s1 (Ft.qs ms s1) → Calls Tryz.prog 86 #[.pointer (some ⟨p, 0, none⟩)] u fun e w' => e = .returned (.bool true) ∧ Below u.heap.size u w') := fun u hu => fisanswered hu han true ⟨fun _ => hw, fun _ => rfl⟩
        have HTS : Hid (s1.toks.length ≤ 1000 ∧ ∀ v ∈ s1.toks, v.length ≤ 1000) := ⟨by have := hTR.2.1; omega, fun v hv => by have := (hTR.2.2.2 v hv).1; have := HR.out.2.1; omega⟩
        have HAS := hid hans
        have HAT := hid hat
        have HAT0 := hid hat
        have HMV := hid hmv
        clear hl hw hwh hTR hall hps hLR hans hne hset han hat hmv
        go_wp2_with fail
        refine HD.out.mono ?_
        rintro e u1 ⟨rfl, hb1⟩
        have hat1 := HAT.out.keep hb1
        have HAN1 : Hid (Calls _ _ _ _ _) := HAN.out u1 hat1
        clear HAN HD
        go_wp2_with fail
        refine HAN1.out.mono ?_
        rintro e u2 ⟨rfl, hb2⟩
        obtain ⟨la, ln, lc, ha, hn, hc, a0, n0, c0, a1, n1, c1, a2, n2, c2, a3, n3, c3, fa, fn, fc, ta, tn, tc, qa, qn, qc, aa, an, ac, hO⟩ := (hat1.keep hb2).on
        have hm2 := HMV.out.bel (bel_then hb1 hb2)
        have hra := hO.r.a.plain
        have hlt := (sliceS_len hO.r.t).1
        have hlq := (sliceS_len hO.r.q).1
        have hD : Below u2.heap.size u2 u2.drew := (Below.refl _ u2).drew
        have HC : Hid (Calls _ _ _ _ _) := mcombineH ta tn tc s1.toks qa qn qc (Ft.qs ms s1) aa an ac (s1.ans.map fun x => x.getD []) u2.drew (Shape.any (Shape.below hO.r.t hD)) (Shape.any (Shape.below hO.r.q hD)) (Shape.any (Shape.below (anss_rows hra) hD)) (by have := HTS.out.1; omega) (by omega) HTS.out.2 HAS.out
        have hSS : u2.cell? ⟨p, 10, none⟩ = some (.slice ta tn tc) ∧ u2.cell? ⟨p, 11, none⟩ = some (.slice qa qn qc) ∧ u2.cell? ⟨p, 12, none⟩ = some (.slice aa an ac) := ⟨hO.box.cell 10 rfl, hO.box.cell 11 rfl, hO.box.cell 12 rfl⟩
        have HO := hid hO
        have HM2 := hid hm2
        clear hO hm2 hra hlt hlq hat1 HAN1 HAT HMV hb1 hb2
        go_wp2
        have x10 := hSS.1
        have x11 := hSS.2.1
        have x12 := hSS.2.2
        clear hSS
        go_region_with
          (go_at_call 87; refine HC.out.mono ?_; rintro e u3 ⟨hb3, a', c', rfl, hr3⟩; have hd3 := bel_then hD hb3; have z10 := (HO.out.box.keep hd3).cell 10 rfl; have f10 := (HO.out.box.keep hd3).free 10)
        all_goals
          have hat3 := (HO.out.keep hd3).toks (out_new HO.out.r (matS.mono hr3 fun b hb _ => hb))
          have hm3 := (HM2.out.bel hd3).set (p := p) (i := 10) HO.out.r.vp (.slice a' tn c')
          have HM3 := hid hm3
          clear hm3 z10 f10 hr3 hb3 hd3 x10 x11 x12 HC HM2 HO hD
          go_upto_region 2 with fail
          generalize u3.setCell ⟨p, 10, none⟩ (.slice a' tn c') = U at *
          obtain ⟨la', ln', lc', ha', hn', hc', a0', n0', c0', a1', n1', c1', a2', n2', c2', a3', n3', c3', fa', fn', fc', ta', tn', tc', qa', qn', qc', aa', an', ac', hO3⟩ := hat3.on
          have x9 := hO3.box.cell 9 (v := .int .i64 (s1.lay : Int)) rfl
          have f9 := hO3.box.free 9
          have hl4 : (s1.lay : Int) ≤ 4 := by have := HL.out; have := HR.out.2.2.2.1; omega
          have hat4 := hO3.lay (s1.lay + 1) (x := (s1.lay : Int) + 1) (by omega)
          have HC2 : Hid (Calls _ _ _ _ _) := fbegin hat4 ⟨HR.out, HT.out, by
            have h9 := Ft.at0_inv hI1 (Nat.le_succ s1.lay) (by have := HL.out; omega) HNX.out
            exact h9⟩
          have HM4 := hid (HM3.out.set (p := p) (i := 9) hO3.r.vp (.int .i64 ((s1.lay : Int) + 1)))
          clear hat3 hat4 hO3
          go_wp2_with (go_at_call 47; refine HC2.out.mono ?_; rintro e u5 ⟨rfl, V5, hm5, hat5⟩)
          have hat6 : FlAt O V5 u5 p dim ms (Ft.on ms s1) (Ft.qs ms (Ft.on ms s1)) := by
            rw [HON.out, qs_enter]
            exact hat5
          have HE := hid (And.intro (HM4.out.trans hm5) hat6)
          clear hat5 hat6 hm5 x9 f9
          go_roundw
          case rel => exact ⟨V5, Ft.on ms s1, HE.out.1, HE.out.2, .inr ⟨rfl, HSET.out⟩⟩
          case measure =>
            rw [layIn_is HE.out.2, layIn_is HAT0.out, HON.out]
            have h9 : (Ft.enter ms s1 (Md.combine s1.toks (Ft.qs ms s1) (s1.ans.map fun x => x.getD [])) (s1.lay + 1)).lay = s1.lay + 1 := (Ft.ask_ans ms _).2.1
            rw [h9]
            have := HL.out
            omega
      · have HW := hid hw
        have HOUT : Hid (s1 = Ft.on ms s) := hwh.elim (fun e => by
          show _ = _
          subst e
          unfold Ft.on
          rw [if_neg (fun h => HW.out h.2)]) (fun e => e.1)
        have HD : Hid (Calls _ _ _ _ _) := fisdone hat false ⟨fun h => (by cases h), fun h => (by omega)⟩
        have HAN : Hid (∀ u, FlAt O V1 u p dim ms s1 (Ft.qs ms s1) → Calls Tryz.prog 86 #[.pointer (some ⟨p, 0, none⟩)] u fun e w' => e = .returned (.bool false) ∧ Below u.heap.size u w') := fun u hu => fisanswered hu han false ⟨fun h => (by cases h), fun h => absurd h HW.out⟩
        have HAT := hid hat
        have HMV := hid hmv
        clear hl hw hwh han hat hmv
        go_wp2_with fail
        refine HD.out.mono ?_
        rintro e u1 ⟨rfl, hb1⟩
        have hat1 := HAT.out.keep hb1
        have HAN1 : Hid (Calls _ _ _ _ _) := HAN.out u1 hat1
        clear HAN HD
        go_wp2_with fail
        refine HAN1.out.mono ?_
        rintro e u2 ⟨rfl, hb2⟩
        have hat2 := hat1.keep hb2
        have hm2 := HMV.out.bel (bel_then hb1 hb2)
        rw [HOUT.out] at hat2
        go_wp2
        go_end0
        exact ⟨rfl, V1, hm2, hat2⟩
    · have HOUT : Hid (s1 = Ft.on ms s) := hwh.elim (fun e => by
        show _ = _
        subst e
        unfold Ft.on
        rw [if_neg (fun h => hl h.1)]) (fun e => e.1)
      have hle := hI1.lay
      have HD : Hid (Calls _ _ _ _ _) := fisdone hat true ⟨fun _ => (by omega), fun _ => rfl⟩
      have HAT := hid hat
      have HMV := hid hmv
      clear hl hwh hle hat hmv
      go_wp2_with fail
      refine HD.out.mono ?_
      rintro e u1 ⟨rfl, hb1⟩
      have hat2 := HAT.out.keep hb1
      have hm2 := HMV.out.bel hb1
      rw [HOUT.out] at hat2
      go_wp2
      go_end0
      exact ⟨rfl, V1, hm2, hat2⟩
end

end Go.Proofs.YtokfcjgfpchffaaGreatDoor
