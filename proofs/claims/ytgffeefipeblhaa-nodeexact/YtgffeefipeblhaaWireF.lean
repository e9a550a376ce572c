/- What the document's Same of layer 7 does when called. -/
import Derived.Test.YtgffeefipeblhaaWireE
import Derived.Test.YtgffeefipeblhaaWireC
namespace Go.Proofs.Ytgffeefipeblhaa
open Go.ChangeShapes Go.WideShapes Go.ChangeAt Go.RowKit

theorem listOf_inj {a b : Wx.Msg} (h : Wx.listOf a = Wx.listOf b) : a = b := by
  obtain ⟨a0, a1, a2, a3, a4, a5, a6, a7, a8, a9, l⟩ := a
  obtain ⟨b0, b1, b2, b3, b4, b5, b6, b7, b8, b9, r⟩ := b
  unfold Wx.listOf Wx.ten at h
  simp only [List.cons_append, List.nil_append, List.cons.injEq] at h
  obtain ⟨rfl, rfl, rfl, rfl, rfl, rfl, rfl, rfl, rfl, rfl, _, rfl⟩ := h
  rfl

/-- Two messages are the same. -/
def Alike (a b : Wx.Msg) : Prop := a = b

/-- The values of which the list is asked, and what it is. -/
def Goes (v1 v2 v : Value) (n1 n2 n : Nat) (t1 t2 t : List Int) : Prop := (v = v1 ∧ n = n1 ∧ t = t1) ∨ (v = v2 ∧ n = n2 ∧ t = t2)

theorem like_all {t1 t2 : List Int} {n : Nat} (h1 : t1.length = n) (h2 : t2.length = n) (h : ∀ j, j < n → t1.getD j 0 = t2.getD j 0) : t1 = t2 := by
  apply List.ext_getElem (by omega)
  intro i g1 g2
  have := h i (by omega)
  rw [List.getD_eq_getElem?_getD, List.getD_eq_getElem?_getD, List.getElem?_eq_getElem g1, List.getElem?_eq_getElem g2] at this
  exact this

set_option maxHeartbeats 2000000 in
theorem rsame (x0 x1 x2 x3 x4 x5 x6 x7 x8 x9 : Int) (xa : Option Addr) (xn xc : Nat) (l : List Int) (y0 y1 y2 y3 y4 y5 y6 y7 y8 y9 : Int) (ya : Option Addr) (yn yc : Nat) (r : List Int) (w : World) (hx : rowS.rep w everywhere [.slice xa xn xc] l) (hy : rowS.rep w everywhere [.slice ya yn yc] r) (hxn : xn ≤ 50000) (hyn : yn ≤ 50000) :
    Calls Try.prog 12 #[.agg #[.int .i64 x0, .int .i64 x1, .int .i64 x2, .int .i64 x3, .int .i64 x4, .int .i64 x5, .int .i64 x6, .int .i64 x7, .int .i64 x8, .int .i64 x9, .slice xa xn xc], .agg #[.int .i64 y0, .int .i64 y1, .int .i64 y2, .int .i64 y3, .int .i64 y4, .int .i64 y5, .int .i64 y6, .int .i64 y7, .int .i64 y8, .int .i64 y9, .slice ya yn yc]] w fun e w' => Says e (Alike ⟨x0, x1, x2, x3, x4, x5, x6, x7, x8, x9, l⟩ ⟨y0, y1, y2, y3, y4, y5, y6, y7, y8, y9, r⟩) ∧ Below w.heap.size w w' := by
  have hxA := Shape.low hx
  have hyA := Shape.low hy
  have HX1 : Hid ((Wx.listOf ⟨x0, x1, x2, x3, x4, x5, x6, x7, x8, x9, l⟩).length = 11 + xn) := by show _ = _; rw [listOf_len, ← (sliceS_len hx).1]
  have HY1 : Hid ((Wx.listOf ⟨y0, y1, y2, y3, y4, y5, y6, y7, y8, y9, r⟩).length = 11 + yn) := by show _ = _; rw [listOf_len, ← (sliceS_len hy).1]
  have HV : Hid (∀ v n t, Goes (.agg #[.int .i64 x0, .int .i64 x1, .int .i64 x2, .int .i64 x3, .int .i64 x4, .int .i64 x5, .int .i64 x6, .int .i64 x7, .int .i64 x8, .int .i64 x9, .slice xa xn xc]) (.agg #[.int .i64 y0, .int .i64 y1, .int .i64 y2, .int .i64 y3, .int .i64 y4, .int .i64 y5, .int .i64 y6, .int .i64 y7, .int .i64 y8, .int .i64 y9, .slice ya yn yc]) v (11 + xn) (11 + yn) n (Wx.listOf ⟨x0, x1, x2, x3, x4, x5, x6, x7, x8, x9, l⟩) (Wx.listOf ⟨y0, y1, y2, y3, y4, y5, y6, y7, y8, y9, r⟩) t → ∀ W, Below w.heap.size w W → Calls Try.prog 27 #[v] W fun e w' => Below W.heap.size W w' ∧ ∃ a c, e = .returned (.slice a n c) ∧ rowS.rep w' everywhere [.slice a n c] t) := by
    rintro v n t (⟨rfl, rfl, rfl⟩ | ⟨rfl, rfl, rfl⟩) W hW
    · exact rlist x0 x1 x2 x3 x4 x5 x6 x7 x8 x9 xa xn xc l W (Shape.any (Shape.now hxA hW)) hxn
    · exact rlist y0 y1 y2 y3 y4 y5 y6 y7 y8 y9 ya yn yc r W (Shape.any (Shape.now hyA hW)) hyn
  have g1 : Goes (.agg #[.int .i64 x0, .int .i64 x1, .int .i64 x2, .int .i64 x3, .int .i64 x4, .int .i64 x5, .int .i64 x6, .int .i64 x7, .int .i64 x8, .int .i64 x9, .slice xa xn xc]) (.agg #[.int .i64 y0, .int .i64 y1, .int .i64 y2, .int .i64 y3, .int .i64 y4, .int .i64 y5, .int .i64 y6, .int .i64 y7, .int .i64 y8, .int .i64 y9, .slice ya yn yc]) (.agg #[.int .i64 x0, .int .i64 x1, .int .i64 x2, .int .i64 x3, .int .i64 x4, .int .i64 x5, .int .i64 x6, .int .i64 x7, .int .i64 x8, .int .i64 x9, .slice xa xn xc]) (11 + xn) (11 + yn) (11 + xn) (Wx.listOf ⟨x0, x1, x2, x3, x4, x5, x6, x7, x8, x9, l⟩) (Wx.listOf ⟨y0, y1, y2, y3, y4, y5, y6, y7, y8, y9, r⟩) (Wx.listOf ⟨x0, x1, x2, x3, x4, x5, x6, x7, x8, x9, l⟩) := .inl ⟨rfl, rfl, rfl⟩
  have g2 : Goes (.agg #[.int .i64 x0, .int .i64 x1, .int .i64 x2, .int .i64 x3, .int .i64 x4, .int .i64 x5, .int .i64 x6, .int .i64 x7, .int .i64 x8, .int .i64 x9, .slice xa xn xc]) (.agg #[.int .i64 y0, .int .i64 y1, .int .i64 y2, .int .i64 y3, .int .i64 y4, .int .i64 y5, .int .i64 y6, .int .i64 y7, .int .i64 y8, .int .i64 y9, .slice ya yn yc]) (.agg #[.int .i64 y0, .int .i64 y1, .int .i64 y2, .int .i64 y3, .int .i64 y4, .int .i64 y5, .int .i64 y6, .int .i64 y7, .int .i64 y8, .int .i64 y9, .slice ya yn yc]) (11 + xn) (11 + yn) (11 + yn) (Wx.listOf ⟨x0, x1, x2, x3, x4, x5, x6, x7, x8, x9, l⟩) (Wx.listOf ⟨y0, y1, y2, y3, y4, y5, y6, y7, y8, y9, r⟩) (Wx.listOf ⟨y0, y1, y2, y3, y4, y5, y6, y7, y8, y9, r⟩) := .inr ⟨rfl, rfl, rfl⟩
  have HQ : Hid (Alike ⟨x0, x1, x2, x3, x4, x5, x6, x7, x8, x9, l⟩ ⟨y0, y1, y2, y3, y4, y5, y6, y7, y8, y9, r⟩ ↔ Wx.listOf ⟨x0, x1, x2, x3, x4, x5, x6, x7, x8, x9, l⟩ = Wx.listOf ⟨y0, y1, y2, y3, y4, y5, y6, y7, y8, y9, r⟩) := ⟨fun h => by rw [show _ = _ from h], listOf_inj⟩
  have hB0 : Below w.heap.size w ((w.alloc (.cells #[.int .i64 x0, .int .i64 x1, .int .i64 x2, .int .i64 x3, .int .i64 x4, .int .i64 x5, .int .i64 x6, .int .i64 x7, .int .i64 x8, .int .i64 x9, .slice xa xn xc] 31)).alloc (.cells #[.int .i64 y0, .int .i64 y1, .int .i64 y2, .int .i64 y3, .int .i64 y4, .int .i64 y5, .int .i64 y6, .int .i64 y7, .int .i64 y8, .int .i64 y9, .slice ya yn yc] 31)).drew := (bel_alloc (new_bel w _) _).drew
  have hbx : Box ((w.alloc (.cells #[.int .i64 x0, .int .i64 x1, .int .i64 x2, .int .i64 x3, .int .i64 x4, .int .i64 x5, .int .i64 x6, .int .i64 x7, .int .i64 x8, .int .i64 x9, .slice xa xn xc] 31)).alloc (.cells #[.int .i64 y0, .int .i64 y1, .int .i64 y2, .int .i64 y3, .int .i64 y4, .int .i64 y5, .int .i64 y6, .int .i64 y7, .int .i64 y8, .int .i64 y9, .slice ya yn yc] 31)).drew w.heap.size 31 #[.int .i64 x0, .int .i64 x1, .int .i64 x2, .int .i64 x3, .int .i64 x4, .int .i64 x5, .int .i64 x6, .int .i64 x7, .int .i64 x8, .int .i64 x9, .slice xa xn xc] := (Box.new w _ _).keep (new_bel _ _).drew
  have hby : Box ((w.alloc (.cells #[.int .i64 x0, .int .i64 x1, .int .i64 x2, .int .i64 x3, .int .i64 x4, .int .i64 x5, .int .i64 x6, .int .i64 x7, .int .i64 x8, .int .i64 x9, .slice xa xn xc] 31)).alloc (.cells #[.int .i64 y0, .int .i64 y1, .int .i64 y2, .int .i64 y3, .int .i64 y4, .int .i64 y5, .int .i64 y6, .int .i64 y7, .int .i64 y8, .int .i64 y9, .slice ya yn yc] 31)).drew (w.heap.size + 1) 31 #[.int .i64 y0, .int .i64 y1, .int .i64 y2, .int .i64 y3, .int .i64 y4, .int .i64 y5, .int .i64 y6, .int .i64 y7, .int .i64 y8, .int .i64 y9, .slice ya yn yc] := by
    have := Box.new (w.alloc (.cells #[.int .i64 x0, .int .i64 x1, .int .i64 x2, .int .i64 x3, .int .i64 x4, .int .i64 x5, .int .i64 x6, .int .i64 x7, .int .i64 x8, .int .i64 x9, .slice xa xn xc] 31)) 31 #[.int .i64 y0, .int .i64 y1, .int .i64 y2, .int .i64 y3, .int .i64 y4, .int .i64 y5, .int .i64 y6, .int .i64 y7, .int .i64 y8, .int .i64 y9, .slice ya yn yc]
    rw [show (w.alloc (.cells #[.int .i64 x0, .int .i64 x1, .int .i64 x2, .int .i64 x3, .int .i64 x4, .int .i64 x5, .int .i64 x6, .int .i64 x7, .int .i64 x8, .int .i64 x9, .slice xa xn xc] 31)).heap.size = w.heap.size + 1 by simp] at this
    exact this
  clear hx hy hxA hyA
  go_enter Try.func12, Try.ntmps12
  generalize Wx.listOf ⟨x0, x1, x2, x3, x4, x5, x6, x7, x8, x9, l⟩ = t1 at *
  generalize Wx.listOf ⟨y0, y1, y2, y3, y4, y5, y6, y7, y8, y9, r⟩ = t2 at *
  generalize hn1 : 11 + xn = n1 at *
  generalize hn2 : 11 + yn = n2 at *
  have hL1 : n1 ≤ 60000 := by omega
  have hL2 : n2 ≤ 60000 := by omega
  clear hn1 hn2 hxn hyn
  go_upto_region 1 with fail
  go_cut [5, 6] from 8 (fun v5 v6 wx => ∃ a1 c1 a2 c2, v5 = .slice a1 n1 c1 ∧ v6 = .slice a2 n2 c2 ∧ rowS.rep wx everywhere [.slice a1 n1 c1] t1 ∧ rowS.rep wx everywhere [.slice a2 n2 c2] t2 ∧ Below w.heap.size w wx)
  case first =>
    rename_i Jx Kx hRJ hMK
    set_option maxRecDepth 100000 in
    go_region_with
      (first
        | (go_at_call 27; refine (HV.out _ _ _ (by assumption) _ hB1).mono ?_; rintro e u2 ⟨hb2, a2, c2, rfl, hrep2⟩; have hB2 := hB1.trans (hb2.mono hB1.size))
        | (go_at_call 27; refine (HV.out _ _ _ (by assumption) _ hB0).mono ?_; rintro e u1 ⟨hb1, a1, c1, rfl, hrep1⟩; have hB1 := hB0.trans (hb1.mono hB0.size); have hbx1 := hbx.keep hb1; have hby1 := hby.keep hb1; have p0 := hbx1.cell 0 rfl; have p1 := hbx1.cell 1 rfl; have p2 := hbx1.cell 2 rfl; have p3 := hbx1.cell 3 rfl; have p4 := hbx1.cell 4 rfl; have p5 := hbx1.cell 5 rfl; have p6 := hbx1.cell 6 rfl; have p7 := hbx1.cell 7 rfl; have p8 := hbx1.cell 8 rfl; have p9 := hbx1.cell 9 rfl; have p10 := hbx1.cell 10 rfl; have q0 := hby1.cell 0 rfl; have q1 := hby1.cell 1 rfl; have q2 := hby1.cell 2 rfl; have q3 := hby1.cell 3 rfl; have q4 := hby1.cell 4 rfl; have q5 := hby1.cell 5 rfl; have q6 := hby1.cell 6 rfl; have q7 := hby1.cell 7 rfl; have q8 := hby1.cell 8 rfl; have q9 := hby1.cell 9 rfl; have q10 := hby1.cell 10 rfl))
    all_goals
      refine hMK _ _ (Met.intro (hRJ _ _ ?_))
      (repeat apply Exists.intro)
      refine ⟨?_, rfl⟩
      first
        | exact ⟨a1, c1, a2, c2, rfl, rfl, Shape.below hrep1 hb2, hrep2, hB2⟩
        | exact ⟨a2, c2, a1, c1, rfl, rfl, hrep2, Shape.below hrep1 hb2, hB2⟩
  case rest =>
    obtain ⟨a1, c1, a2, c2, rfl, rfl, hr1, hr2, hB⟩ := hcut
    have hR1 := Row.of_rep hr1
    have hR2 := Row.of_rep hr2
    clear hr1 hr2 HV g1 g2 hB0 hbx hby
    by_cases hne : n1 = n2
    · subst hne
      have q : ((n1 : Int) != (n1 : Int)) = false := by simp
      go_wp2
      go_loopw [7] (fun i wr => ∃ k : Nat, k ≤ n1 ∧ i = .int .i64 k ∧ Below wc.heap.size wc wr ∧ Hid (∀ j, j < k → t1.getD j 0 = t2.getD j 0)) (fun i _ => n1 - (intOf i).toNat)
      case atStart => exact ⟨0, Nat.zero_le _, rfl, Below.refl _ _, fun j h => by omega⟩
      case round =>
        obtain ⟨k, hk, rfl, hbel, HJ⟩ := hrel
        by_cases hlt : k < n1
        · have hli : (k : Int) < (n1 : Int) := by omega
          obtain ⟨b1, o1, rfl, hb1, hc1⟩ := (hR1.keep hbel).at hlt
          obtain ⟨b2, o2, rfl, hb2, hc2⟩ := (hR2.keep hbel).at hlt
          have HS : Hid (t1.getD k 0 = t2.getD k 0 → ∀ j, j < k + 1 → t1.getD j 0 = t2.getD j 0) := by
            intro h j hj
            rcases Nat.lt_or_ge j k with h1 | h1
            · exact HJ.out j h1
            · have e : j = k := by omega
              subst e; exact h
          have HN : Hid (t1 = t2 → t1.getD k 0 = t2.getD k 0) := fun h => by rw [h]
          generalize t1.getD k 0 = x at *
          generalize t2.getD k 0 = y at *
          have hd1 : ∀ x : Later wr, x.u.cell? ⟨b1, o1 + k, none⟩ = _ := fun x => x.cell hc1
          have hd2 : ∀ x : Later wr, x.u.cell? ⟨b2, o2 + k, none⟩ = _ := fun x => x.cell hc2
          have hne9 : Nonempty (Later wr) := Later.there wr
          clear hc1 hc2
          by_cases hxy : x = y
          · have q2 : (x != y) = false := by rw [bne_eq_false_iff_eq]; exact hxy
            have HXY : Hid (x = y) := hxy
            clear hxy
            go_wp2
            refine region_later (by kernel_rfl) (by kernel_rfl) ?_
            repeat (go_big_quiet_step (fail))
            refine wpQuiet_nil ?_
            intro x9
            obtain ⟨W9, hb9⟩ := x9
            have hbel9 := bel_then hbel hb9
            go_wp2
            go_roundw
            case rel => exact ⟨k + 1, by omega, by go_num, hbel9, HS.out HXY.out⟩
            case measure => simp [intOf]; omega
          · have q2 : (x != y) = true := by rw [bne_iff_ne]; exact hxy
            go_wp2
            refine region_later (by kernel_rfl) (by kernel_rfl) ?_
            repeat (go_big_quiet_step (fail))
            refine wpQuiet_nil ?_
            intro x9
            obtain ⟨W9, hb9⟩ := x9
            have hbel9 := bel_then hbel hb9
            go_wp2
            go_ret
            exact ⟨Says.no fun h => hxy (HN.out (HQ.out.1 h)), bel_then hB hbel9⟩
        · have hkn : k = n1 := by omega
          subst hkn
          have hli : ¬ (k : Int) < (k : Int) := by omega
          go_wp2
          go_ret
          exact ⟨Says.yes (HQ.out.2 (like_all HX1.out HY1.out HJ.out)), bel_then hB hbel⟩
    · have q : ((n1 : Int) != (n2 : Int)) = true := by rw [bne_iff_ne]; omega
      go_wp2
      go_ret
      exact ⟨Says.no fun h => hne (by rw [← HX1.out, ← HY1.out, HQ.out.1 h]), hB⟩

end Go.Proofs.Ytgffeefipeblhaa
