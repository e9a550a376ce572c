/- What Deliver of package fleet does when called. -/
import Derived.Test.YtfidgcanolegfaaGreatFltI
import Derived.Test.YtfidgcanolegfaaGreatFltJ
import Derived.Test.YtfidgcanolegfaaGreatWireT
namespace Go.Proofs.YtfidgcanolegfaaGreat
open Go.ChangeShapes Go.WideShapes Go.ChangeAt Go.RowKit


/-- What holds of a fleet between the calls. -/
structure Alive (dim : Int) (ms : List Ly) (T : List (List Int)) (s : Ft.St) : Prop where
  m : Md.Right dim ms
  t : Md.TRight dim T
  i : Ft.Inv dim ms T s
  n : Ft.Lone s
theorem qs_same {ms : List Ly} {s s' : Ft.St} (h1 : s'.lay = s.lay) (h2 : s'.toks = s.toks) : Ft.qs ms s' = Ft.qs ms s := by
  unfold Ft.qs Ft.ps Ft.lyAt
  rw [h1, h2]
theorem qs_node {dim : Int} {ms : List Ly} {s : Ft.St} {m : Wx.Msg} (h : 1 ≤ m.to ∧ m.to ≤ 4) : Ft.qs ms (Ft.took dim ms s m) = Ft.qs ms s := by
  rw [Ft.took_node h rfl]
  cases Nd.work dim ms s.e s.h m.to (s.ls.getD (m.to - 1).toNat []) m with
  | none => rfl
  | some x => rfl
theorem qs_drop (ms : List Ly) (s : Ft.St) (k : Nat) : Ft.qs ms (Ft.drop s k) = Ft.qs ms s := rfl
theorem took_else {dim : Int} {ms : List Ly} {s : Ft.St} {m : Wx.Msg} (h0 : m.to ≠ 0) (h4 : ¬ m.to ≤ 4) : Ft.took dim ms s m = s := by
  unfold Ft.took
  rw [if_neg (fun h => h4 h.2), if_neg (fun h => h0 h.1)]
section
variable {O V : Nat → Prop} {w : World} {p : Nat} {dim : Int} {ms : List Ly} {s : Ft.St} {q : List Pt}
set_option maxRecDepth 100000 in
theorem fdeliver_out (H : FlAt O V w p dim ms s q) (hf : s.bag.length ≤ 200) (i : Int) (hi : ¬ (0 ≤ i ∧ i < (s.bag.length : Int))) :
    Calls Tryz.prog 24 #[.pointer (some ⟨p, 0, none⟩), .int .i64 i] w fun e w' => e = .returned (.int .i64 4) ∧ Below w.heap.size w w' := by
  have HT : Hid (Calls _ _ _ _ _) := ftake_out H hf i hi
  clear hf hi H
  go_enter Tryz.func24, Tryz.ntmps24
  go_wp2_with fail
  refine HT.out.mono ?_
  rintro e u1 ⟨rfl, hb1⟩
  have q4 : ((4 : Int) != 0) = true := rfl
  go_wp2
  go_ret
  exact ⟨rfl, hb1⟩
set_option maxRecDepth 100000 in
set_option maxHeartbeats 4000000 in
theorem fdeliver_in {T : List (List Int)} (H : FlAt O V w p dim ms s (Ft.qs ms s)) (hA : Alive dim ms T s) (k : Nat) (hk : k < s.bag.length) :
    Calls Tryz.prog 24 #[.pointer (some ⟨p, 0, none⟩), .int .i64 (k : Int)] w fun e w' => e = .returned (.int .i64 0) ∧ ∃ V', Mv V V' w w' ∧ FlAt O V' w' p dim ms (Ft.deliver dim ms s k) (Ft.qs ms (Ft.deliver dim ms s k)) := by
  obtain ⟨m, hm⟩ : ∃ m, s.bag.getD k Wx.zero = m := ⟨_, rfl⟩
  have HT : Hid (Calls _ _ _ _ _) := ftake_in H hA.i.few k hk m hm
  have hg : Ft.Good ms T s.lay m := by rw [← hm]; exact hA.i.bag _ (in_of hk _)
  have hdl : Ft.deliver dim ms s k = Ft.took dim ms (Ft.drop s k) m := by unfold Ft.deliver; rw [if_pos hk, hm]
  have hsz := enc_size m hg.1.2.2.2.1
  have htk := enc_take hg.1
  have HDL := hid hdl
  have HG := hid hg
  have HA : Hid (Alive dim ms T (Ft.drop s k)) := ⟨hA.m, hA.t, hA.i.drop k, hA.n⟩
  clear hg hdl hm hA hk H
  obtain ⟨x0, x1, x2, x3, x4, x5, x6, x7, x8, x9, l⟩ := m
  have HW : Hid (∀ u, Calls Tryz.prog 57 #[.string (enc ⟨x0, x1, x2, x3, x4, x5, x6, x7, x8, x9, l⟩)] u fun e w' => Below u.heap.size u w' ∧ ∃ ya yn yc, e = .returned (.tuple #[.agg #[.int .i64 x0, .int .i64 x1, .int .i64 x2, .int .i64 x3, .int .i64 x4, .int .i64 x5, .int .i64 x6, .int .i64 x7, .int .i64 x8, .int .i64 x9, .slice ya yn yc], .int .i64 0]) ∧ rowS.rep w' (u.heap.size ≤ ·) [.slice ya yn yc] l) := fun u => wtakeH _ (by unfold maxLen; omega) x0 x1 x2 x3 x4 x5 x6 x7 x8 x9 l 0 htk u
  have hto : 0 ≤ x2 := (HG.out.1.2.2.1 x2 (by simp [Wx.ten])).1
  clear htk hsz
  go_enter Tryz.func24, Tryz.ntmps24
  go_wp2_with fail
  refine HT.out.mono ?_
  rintro e u1 ⟨rfl, hm1, hat1⟩
  generalize enc ⟨x0, x1, x2, x3, x4, x5, x6, x7, x8, x9, l⟩ = t at *
  have HM1 := hid hm1
  have HAT1 := hid hat1
  have q0 : ((0 : Int) != 0) = false := rfl
  clear hm1 hat1 HT
  go_wp2_with fail
  refine (HW.out u1).mono ?_
  rintro e u2 ⟨hb2, ya, yn, yc, rfl, hr2⟩
  have hbn := new_bel u2 (.cells #[.int .i64 x0, .int .i64 x1, .int .i64 x2, .int .i64 x3, .int .i64 x4, .int .i64 x5, .int .i64 x6, .int .i64 x7, .int .i64 x8, .int .i64 x9, .slice ya yn yc] 44)
  have kx := Box.new u2 44 #[.int .i64 x0, .int .i64 x1, .int .i64 x2, .int .i64 x3, .int .i64 x4, .int .i64 x5, .int .i64 x6, .int .i64 x7, .int .i64 x8, .int .i64 x9, .slice ya yn yc]
  have hb3 := bel_then hb2 hbn
  have hat3 := HAT1.out.keep hb3
  have hm3 := HM1.out.bel hb3
  have hr2' : rowS.rep u2 (Out O V) [.slice ya yn yc] l := by
    obtain ⟨la, ln, lc, ha, hn, hc, a0, n0, c0, a1, n1, c1, a2, n2, c2, a3, n3, c3, fa, fn, fc, ta, tn, tc, qa, qn, qc, aa, an, ac, hO⟩ := HAT1.out.on
    exact out_new hO.r hr2
  have hr3 := Shape.below hr2' hbn
  have HM3 := hid hm3
  have HAT3 := hid hat3
  have HR3 := hid hr3
  clear hm3 hat3 hr3 hr2' hr2 hb3 hbn hb2 HM1 HAT1 HW
  go_upto_region 5 with fail
  generalize u2.alloc (.cells #[.int .i64 x0, .int .i64 x1, .int .i64 x2, .int .i64 x3, .int .i64 x4, .int .i64 x5, .int .i64 x6, .int .i64 x7, .int .i64 x8, .int .i64 x9, .slice ya yn yc] 44) = U at *
  have d0 := kx.cell 0 rfl
  have d1 := kx.cell 1 rfl
  have d2 := kx.cell 2 rfl
  have d3 := kx.cell 3 rfl
  have d4 := kx.cell 4 rfl
  have d5 := kx.cell 5 rfl
  have d6 := kx.cell 6 rfl
  have d7 := kx.cell 7 rfl
  have d8 := kx.cell 8 rfl
  have d9 := kx.cell 9 rfl
  have d10 := kx.cell 10 rfl
  rcases (by omega : x2 = 0 ∨ x2 = 1 ∨ x2 = 2 ∨ x2 = 3 ∨ x2 = 4 ∨ 4 < x2) with rfl | rfl | rfl | rfl | rfl | hx
  · have g0 : ((0 : Int) == 0) = true := rfl
    have HC : Hid (Calls _ _ _ _ _) := fhear (T := T) HAT3.out HA.out.i HA.out.m HA.out.t x0 x1 x3 x4 x5 x6 x7 x8 x9 ya yn yc l HR3.out HG.out
    go_wp2_with (go_at_call 58; refine HC.out.mono ?_; rintro e u5 ⟨rfl, V5, hm5, hat5⟩)
    go_ret
    rw [HDL.out]
    exact ⟨rfl, V5, HM3.out.trans hm5, hat5⟩
  · have g0 : ((1 : Int) == 0) = false := rfl
    have HC : Hid (Calls _ _ _ _ _) := fwork1 (T := T) HAT3.out HA.out.i HA.out.m HA.out.t HA.out.n x0 x1 x3 x4 x5 x6 x7 x8 x9 ya yn yc l (Shape.any HR3.out) HG.out
    go_wp2_with (go_at_call 59; refine HC.out.mono ?_; rintro e u5 ⟨rfl, hm5, hat5⟩)
    go_ret
    rw [HDL.out, qs_node (by show (1 : Int) ≤ 1 ∧ (1 : Int) ≤ 4; omega)]
    exact ⟨rfl, V, HM3.out.trans hm5, hat5⟩
  · have g0 : ((2 : Int) == 0) = false := rfl
    have HC : Hid (Calls _ _ _ _ _) := fwork2 (T := T) HAT3.out HA.out.i HA.out.m HA.out.t HA.out.n x0 x1 x3 x4 x5 x6 x7 x8 x9 ya yn yc l (Shape.any HR3.out) HG.out
    go_wp2_with (go_at_call 59; refine HC.out.mono ?_; rintro e u5 ⟨rfl, hm5, hat5⟩)
    go_ret
    rw [HDL.out, qs_node (by show (1 : Int) ≤ 2 ∧ (2 : Int) ≤ 4; omega)]
    exact ⟨rfl, V, HM3.out.trans hm5, hat5⟩
  · have g0 : ((3 : Int) == 0) = false := rfl
    have HC : Hid (Calls _ _ _ _ _) := fwork3 (T := T) HAT3.out HA.out.i HA.out.m HA.out.t HA.out.n x0 x1 x3 x4 x5 x6 x7 x8 x9 ya yn yc l (Shape.any HR3.out) HG.out
    go_wp2_with (go_at_call 59; refine HC.out.mono ?_; rintro e u5 ⟨rfl, hm5, hat5⟩)
    go_ret
    rw [HDL.out, qs_node (by show (1 : Int) ≤ 3 ∧ (3 : Int) ≤ 4; omega)]
    exact ⟨rfl, V, HM3.out.trans hm5, hat5⟩
  · have g0 : ((4 : Int) == 0) = false := rfl
    have HC : Hid (Calls _ _ _ _ _) := fwork4 (T := T) HAT3.out HA.out.i HA.out.m HA.out.t HA.out.n x0 x1 x3 x4 x5 x6 x7 x8 x9 ya yn yc l (Shape.any HR3.out) HG.out
    go_wp2_with (go_at_call 59; refine HC.out.mono ?_; rintro e u5 ⟨rfl, hm5, hat5⟩)
    go_ret
    rw [HDL.out, qs_node (by show (1 : Int) ≤ 4 ∧ (4 : Int) ≤ 4; omega)]
    exact ⟨rfl, V, HM3.out.trans hm5, hat5⟩
  · have g0 : (x2 == 0) = false := by rw [beq_eq_false_iff_ne]; omega
    have g4 : ¬ x2 ≤ 4 := by omega
    have HTK : Hid (Ft.took dim ms (Ft.drop s k) ⟨x0, x1, x2, x3, x4, x5, x6, x7, x8, x9, l⟩ = Ft.drop s k) := took_else (by show x2 ≠ 0; omega) g4
    go_wp2
    go_ret
    rw [HDL.out, HTK.out]
    exact ⟨rfl, V, HM3.out, HAT3.out⟩
end

end Go.Proofs.YtfidgcanolegfaaGreat
