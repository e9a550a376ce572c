/- What askFor, Ask, begin and comeOn of package fleet do when called. -/
import Derived.Test.YtfidgcanolegfaaGreatFltE
import Derived.Test.YtfidgcanolegfaaGreatMdlE
import Derived.Test.YtfidgcanolegfaaGreatJk
namespace Go.Proofs.YtfidgcanolegfaaGreat
open Go.ChangeShapes Go.WideShapes Go.ChangeAt Go.RowKit


set_option maxRecDepth 100000 in
/-- What is needed to ask for a part. -/
structure AskOk (s : Ft.St) (x : Pt) : Prop where
  t : 0 ≤ x.1 ∧ x.1 < (s.toks.length : Int)
  r : 0 ≤ x.2.1 ∧ x.2.1 ≤ 1
  ex : 0 ≤ x.2.2.1 ∧ x.2.2.1 < (s.h.length : Int)
  m : Wx.right (Ft.askOf s.e s.h s.lay s.toks x)
section
variable {O V : Nat → Prop} {w : World} {p : Nat} {dim : Int} {ms : List Ly} {s : Ft.St} {q : List Pt}
set_option maxHeartbeats 4000000 in
theorem faskfor (H : FlAt O V w p dim ms s q) (hf : s.bag.length ≤ 200) (hR : Pl.Right s.e s.h) (ht : s.toks.length ≤ 1000) (t r x k : Int) (hA : AskOk s (pt t r x k)) :
    Calls Tryz.prog 60 #[.pointer (some ⟨p, 0, none⟩), .agg #[.int .i64 t, .int .i64 r, .int .i64 x, .int .i64 k]] w fun e w' => e = .returned (.tuple #[]) ∧ Mv V V w w' ∧ FlAt O V w' p dim ms { s with bag := Ft.put s.bag (Ft.askOf s.e s.h s.lay s.toks (pt t r x k)) } q := by
  obtain ⟨h1, h2, h3, h4⟩ := hA
  obtain ⟨t', rfl⟩ : ∃ t' : Nat, t = t' := ⟨t.toNat, by have h9 : 0 ≤ t := h1.1; omega⟩
  obtain ⟨r', rfl⟩ : ∃ r' : Nat, r = r' := ⟨r.toNat, by have h9 : 0 ≤ r := h2.1; omega⟩
  obtain ⟨x', rfl⟩ : ∃ x' : Nat, x = x' := ⟨x.toNat, by have h9 : 0 ≤ x := h3.1; omega⟩
  have h1' : t' < s.toks.length := by have h9 : (t' : Int) < (s.toks.length : Int) := h1.2; omega
  have h2' : r' ≤ 1 := by have h9 : (r' : Int) ≤ 1 := h2.2; omega
  have h3' : x' < s.h.length := by have h9 : (x' : Int) < (s.h.length : Int) := h3.2; omega
  obtain ⟨la, ln, lc, ha, hn, hc, a0, n0, c0, a1, n1, c1, a2, n2, c2, a3, n3, c3, fa, fn, fc, ta, tn, tc, qa, qn, qc, aa, an, ac, hO⟩ := H.on
  have hlt := (sliceS_len hO.r.t).1
  have hlh := (sliceS_len hO.r.h).1
  obtain ⟨z, hz⟩ : ∃ z, Pl.pick (s.h.getD x' []) (t' + r') = z := ⟨_, rfl⟩
  have hm : Ft.askOf s.e s.h s.lay s.toks (pt (t' : Int) (r' : Int) (x' : Int) k) = ⟨1, 0, z, 0, 1, (s.lay : Int), (t' : Int), (r' : Int), (x' : Int), s.e, s.toks.getD t' []⟩ := by
    rw [← hz]
    unfold Ft.askOf pt
    simp only [Int.toNat_natCast]
    rw [show ((t' : Int) + (r' : Int)).toNat = t' + r' by omega]
  have HM : Hid (Ft.askOf s.e s.h s.lay s.toks (pt (t' : Int) (r' : Int) (x' : Int) k) = ⟨1, 0, z, 0, 1, (s.lay : Int), (t' : Int), (r' : Int), (x' : Int), s.e, s.toks.getD t' []⟩ ∧ Wx.right (Ft.askOf s.e s.h s.lay s.toks (pt (t' : Int) (r' : Int) (x' : Int) k))) := ⟨hm, h4⟩
  have hB := new_bel w (.cells #[.int .i64 (t' : Int), .int .i64 (r' : Int), .int .i64 (x' : Int), .int .i64 k] 97)
  have kp := Box.new w 97 #[.int .i64 (t' : Int), .int .i64 (r' : Int), .int .i64 (x' : Int), .int .i64 k]
  have hO1 := hO.keep hB
  have hpw : p ≠ w.heap.size := by have := hO.box.lt; omega
  have hsz : Ex.Sized s.h := ⟨by have := hR.2.1; omega, fun l hl => by have := Pl.row_len (hR.2.2 l hl); omega⟩
  have HF : Hid (s.bag.length ≤ 200) := hf
  have HPK : Hid (∀ u, Below (w.alloc (.cells #[.int .i64 (t' : Int), .int .i64 (r' : Int), .int .i64 (x' : Int), .int .i64 k] 97)).heap.size (w.alloc (.cells #[.int .i64 (t' : Int), .int .i64 (r' : Int), .int .i64 (x' : Int), .int .i64 k] 97)) u → Calls Tryz.prog 100 #[.agg #[.int .i64 s.e, .slice ha hn hc], .int .i64 (x' : Int), .int .i64 ((t' + r' : Nat) : Int)] u fun r w' => r = .returned (.tuple #[.int .i64 z, .bool true]) ∧ Below u.heap.size u w') := fun u hu => ppick s.e ha hn hc s.h x' (t' + r') u (Shape.any (Shape.below hO1.r.h hu)) hsz hR (by omega) (by omega) z hz
  have hwrap : IntKind.i64.wrap ((t' : Int) + (r' : Int)) = ((t' + r' : Nat) : Int) := by rw [IntKind.wrap_i64]; omega
  have htn : (t' : Int) < (tn : Int) := by omega
  have ht0 : (0 : Int) ≤ (t' : Int) := by omega
  have htn' : t' < tn := by omega
  clear h1 h2 h3 h4 h1' h2' h3' hm hsz hf hR ht hlt hlh hz H hO
  go_enter Tryz.func60, Tryz.ntmps60
  go_upto_region 1 with fail
  generalize w.alloc (.cells #[.int .i64 (t' : Int), .int .i64 (r' : Int), .int .i64 (x' : Int), .int .i64 k] 97) = W at *
  have k0 := fun x : Later W => x.cell (kp.cell 0 (v := .int .i64 (t' : Int)) rfl)
  have k1 := fun x : Later W => x.cell (kp.cell 1 (v := .int .i64 (r' : Int)) rfl)
  have k2 := fun x : Later W => x.cell (kp.cell 2 (v := .int .i64 (x' : Int)) rfl)
  have y2 := fun x : Later W => x.cell (hO1.box.cell 2 (v := .int .i64 s.e) rfl)
  have y3 := fun x : Later W => x.cell (hO1.box.cell 3 (v := .slice ha hn hc) rfl)
  have hpk : ∀ x : Later W, Calls Tryz.prog 100 #[.agg #[.int .i64 s.e, .slice ha hn hc], .int .i64 (x' : Int), .int .i64 ((t' + r' : Nat) : Int)] x.u fun r w' => r = .returned (.tuple #[.int .i64 z, .bool true]) ∧ Below x.u.heap.size x.u w' := fun x => HPK.out x.u x.h
  have HPC : Hid (∀ x : Later W, Calls Tryz.prog 100 #[.agg #[.int .i64 s.e, .slice ha hn hc], .int .i64 (x' : Int), .int .i64 ((t' + r' : Nat) : Int)] x.u fun r w' => r = .returned (.tuple #[.int .i64 z, .bool true]) ∧ Below x.u.heap.size x.u w') := hpk
  have HO1 : Hid (FlOn O V W p dim ms s q la ln lc ha hn hc a0 n0 c0 a1 n1 c1 a2 n2 c2 a3 n3 c3 fa fn fc ta tn tc qa qn qc aa an ac) := hO1
  have HK1 : Hid (Box W w.heap.size 97 #[.int .i64 (t' : Int), .int .i64 (r' : Int), .int .i64 (x' : Int), .int .i64 k]) := kp
  have HB1 : Hid (Below w.heap.size w W) := hB
  clear hpk HPK kp hO1 hB
  have : Nonempty (Later W) := Later.there W
  refine region_later (by kernel_rfl) (by kernel_rfl) ?_
  repeat (go_big_quiet_step ((go_at_call 100; exact Later.call (HPC.out _))))
  refine wpQuiet_nil ?_
  intro x9
  obtain ⟨W9, hb9⟩ := x9
  have hO9 := HO1.out.keep hb9
  have kp9 := HK1.out.keep hb9
  have hB9 := bel_then HB1.out hb9
  obtain ⟨b1, o1, A, C, he, hb1, d0, hrow⟩ := mat_at hO9.r.t htn'
  subst he
  have hbp : b1 ≠ p := by
    intro e
    obtain ⟨b2, o2, A2, C2, he2, hF2, d2⟩ : ∃ b2 o2 A2 C2, (some ⟨b1, o1, none⟩ : Option Addr) = some ⟨b2, o2, none⟩ ∧ Out O V b2 ∧ W9.cell? ⟨b2, o2 + t', none⟩ = some (.slice A2 (s.toks.getD t' []).length C2) := by
      have hlt := (sliceS_len hO9.r.t).1
      obtain ⟨b2, o2, cs, ha2, hF2, _, hc2, hr2⟩ := sliceS_at hO9.r.t (by exact Nat.one_pos) (j := t') (by omega)
      have e2 : s.toks.getD t' [] = s.toks[t']'(by omega) := by rw [List.getD_eq_getElem?_getD, List.getElem?_eq_getElem (by omega)]; rfl
      rw [e2]
      obtain ⟨A2, C2, css, rfl, _⟩ := hr2
      have h9 := hc2 0 _ rfl
      rw [show o2 + (t' * rowS.size + 0) = o2 + t' by show o2 + (t' * 1 + 0) = o2 + t'; omega] at h9
      exact ⟨b2, o2, A2, C2, ha2, hF2, h9⟩
    injection he2 with he2
    injection he2 with e1 _ _
    exact hF2.1 (by rw [← e1, e]; exact hO9.r.vp)
  generalize hv : s.toks.getD t' [] = v at *
  have HV : Hid (s.toks.getD t' [] = v) := hv
  have hD : Below W9.heap.size W9 W9.drew := (Below.refl _ W9).drew
  have HS : Hid (Calls _ _ _ _ _) := fsendR (hO9.keep hD).at 1 0 z 0 1 (s.lay : Int) (t' : Int) (r' : Int) (x' : Int) s.e A v.length C v (Shape.any (Shape.below hrow hD)) (Ft.askOf s.e s.h s.lay s.toks (pt (t' : Int) (r' : Int) (x' : Int) k)) HM.out.1 HM.out.2 HF.out
  clear hv HPC k0 k1 k2 y2 y3 HO1 HK1 HB1
  have HH : Hid (∀ u, Below W9.heap.size W9 u → u.cell? ⟨p, 9, none⟩ = some (.int .i64 (s.lay : Int)) ∧ u.cell? ⟨p, 2, none⟩ = some (.int .i64 s.e) ∧ u.cell? ⟨p, 10, none⟩ = some (.slice (some ⟨b1, o1, none⟩) tn tc) ∧ u.cell? ⟨w.heap.size, 0, none⟩ = some (.int .i64 (t' : Int)) ∧ u.cell? ⟨w.heap.size, 1, none⟩ = some (.int .i64 (r' : Int)) ∧ u.cell? ⟨w.heap.size, 2, none⟩ = some (.int .i64 (x' : Int)) ∧ u.cell? ⟨b1, o1 + t', none⟩ = some (.slice A v.length C)) := fun u hu => ⟨(hO9.box.keep hu).cell 9 rfl, (hO9.box.keep hu).cell 2 rfl, (hO9.box.keep hu).cell 10 rfl, (kp9.keep hu).cell 0 rfl, (kp9.keep hu).cell 1 rfl, (kp9.keep hu).cell 2 rfl, (hu.cell (by exact hb1)).trans d0⟩
  have HH2 : Hid (∀ u x, Below W9.heap.size W9 u → (u.setCell ⟨p, 8, none⟩ x).cell? ⟨p, 9, none⟩ = some (.int .i64 (s.lay : Int)) ∧ (u.setCell ⟨p, 8, none⟩ x).cell? ⟨p, 2, none⟩ = some (.int .i64 s.e) ∧ (u.setCell ⟨p, 8, none⟩ x).cell? ⟨p, 10, none⟩ = some (.slice (some ⟨b1, o1, none⟩) tn tc) ∧ (u.setCell ⟨p, 8, none⟩ x).cell? ⟨w.heap.size, 0, none⟩ = some (.int .i64 (t' : Int)) ∧ (u.setCell ⟨p, 8, none⟩ x).cell? ⟨w.heap.size, 1, none⟩ = some (.int .i64 (r' : Int)) ∧ (u.setCell ⟨p, 8, none⟩ x).cell? ⟨w.heap.size, 2, none⟩ = some (.int .i64 (x' : Int)) ∧ (u.setCell ⟨p, 8, none⟩ x).cell? ⟨b1, o1 + t', none⟩ = some (.slice A v.length C)) := fun u x hu => ⟨((hO9.box.keep hu).set 8 x).cell 9 rfl, ((hO9.box.keep hu).set 8 x).cell 2 rfl, ((hO9.box.keep hu).set 8 x).cell 10 rfl, ((kp9.keep hu).other x (Ne.symm hpw)).cell 0 rfl, ((kp9.keep hu).other x (Ne.symm hpw)).cell 1 rfl, ((kp9.keep hu).other x (Ne.symm hpw)).cell 2 rfl, (World.cell?_of_block (a := ⟨b1, o1 + t', none⟩) (Below.heap_setCell u _ x b1 hbp)).trans ((hu.cell (by exact hb1)).trans d0)⟩
  have HO9 := hid hO9
  have HB9 : Hid (Below w.heap.size w W9) := hB9
  have hSS := HH.out _ (Below.refl _ _)
  clear d0 hrow hO9 kp9 hB9
  go_wp2
  go_region_held3 (fun w' => w'.cell? ⟨p, 9, none⟩ = some (.int .i64 (s.lay : Int)) ∧ w'.cell? ⟨p, 2, none⟩ = some (.int .i64 s.e) ∧ w'.cell? ⟨p, 10, none⟩ = some (.slice (some ⟨b1, o1, none⟩) tn tc) ∧ w'.cell? ⟨w.heap.size, 0, none⟩ = some (.int .i64 (t' : Int)) ∧ w'.cell? ⟨w.heap.size, 1, none⟩ = some (.int .i64 (r' : Int)) ∧ w'.cell? ⟨w.heap.size, 2, none⟩ = some (.int .i64 (x' : Int)) ∧ w'.cell? ⟨b1, o1 + t', none⟩ = some (.slice A v.length C))
    (first
      | exact hq
      | exact HH.out _ hD
      | exact hSS
      | go_keep)
    (first
      | (go_at_call 99; refine HS.out.mono ?_; rintro e w' ⟨rfl, u3, f', n', c', rfl, hb3, hr3⟩; have hd3 := bel_then hD hb3; have hq := HH2.out u3 (.slice f' n' c') hd3))
  all_goals
    go_wp2
    go_end0
    exact ⟨rfl, (Mv.of_bel (bel_then HB9.out hd3)).set HO9.out.r.vp _, (HO9.out.keep hd3).bag hr3⟩
end

end Go.Proofs.YtfidgcanolegfaaGreat
