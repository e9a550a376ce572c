/- What work of package fleet does when called. -/
import Derived.Test.YtokfcjgfpchffaaGreatDoorJy
import Derived.Test.YtokfcjgfpchffaaGreatDoorJk
import Derived.Test.YtokfcjgfpchffaaGreatDoorJo
namespace Go.Proofs.YtokfcjgfpchffaaGreatDoor
open Go.ChangeShapes Go.WideShapes Go.ChangeAt Go.RowKit


namespace Ft
open Md Nd
section
variable {dim : Int} {ms : List Ly} {T : List (List Int)} {s : St}
theorem ledger_short (hI : Inv dim ms T s) (hR : Right dim ms) (hT : TRight dim T) (hL : Lone s) (j : Nat) : Dx.Short (s.ls.getD j []) := by
  have hf := ledger_few hR hT (lone_at hL j) (hI.ledger j)
  have h1 := hR.2.2.2.1
  have h2 := hT.2.1
  have h3 : ms.length * T.length ≤ 4 * 16 := Nat.mul_le_mul (by omega) (by omega)
  refine ⟨by omega, fun x hx => ?_⟩
  obtain ⟨L, p, _, hp, _, hv⟩ := hI.ledger j x hx
  rw [hv]
  have := makes_eight hR hT hp
  omega
theorem work_right (hI : Inv dim ms T s) (hR : Right dim ms) (hT : TRight dim T) {m : Wx.Msg} (hm : Good ms T s.lay m) (h1 : 1 ≤ m.to ∧ m.to ≤ 4) {j : Nat} {l : List En} {out : Wx.Msg} (e : Nd.work dim ms s.e s.h m.to (s.ls.getD j []) m = some (l, out)) : Wx.right out := by
  rcases work_ways dim ms s.e s.h m.to (s.ls.getD j []) m with ⟨_, e2⟩ | ⟨hf, _, e2⟩ | ⟨hf, _, v, hg, e2⟩ | ⟨hf, _, hg, e2⟩
  · rw [e2] at e; cases e
  · rw [e2] at e; cases e
    exact reply_right hf (.inr rfl) ⟨by omega, by omega⟩ ⟨Nat.zero_le _, fun x hx => (by cases hx)⟩
  · rw [e2] at e; cases e
    obtain ⟨x, hx, hk, hv⟩ := got_mem hg
    obtain ⟨L2, p2, hL2, hp2, hk2, hv2⟩ := hI.ledger _ x hx
    rw [← hv, hv2]
    exact reply_right hf (.inl rfl) ⟨by omega, by omega⟩ ⟨makes_eight hR hT hp2, fun x hx => by have := makes_held L2 p2 x hx; omega⟩
  · rw [e2] at e; cases e
    obtain ⟨L, p, hL, hp, ha, hvec⟩ := hm.2.1 hf.2.2.2.1
    have hmk : Md.ans (lyOf ms m) m.vec m.expert = makes ms T L p := by
      unfold makes lyOf
      rw [hvec, ha.2.2.2.2, ha.2.1]
      rfl
    rw [hmk]
    exact reply_right hf (.inl rfl) ⟨by omega, by omega⟩ ⟨makes_eight hR hT hp, fun x hx => by have := makes_held L p x hx; omega⟩
theorem took_node {m : Wx.Msg} (h1 : 1 ≤ m.to ∧ m.to ≤ 4) {j : Nat} (hj : (m.to - 1).toNat = j) : took dim ms s m = (match Nd.work dim ms s.e s.h m.to (s.ls.getD j []) m with | none => s | some (l, out) => { s with ls := s.ls.set j l, bag := put s.bag out }) := by
  unfold took
  rw [if_pos h1, hj]
  cases Nd.work dim ms s.e s.h m.to (s.ls.getD j []) m <;> rfl
end
end Ft

section
variable {O V : Nat → Prop} {w : World} {p : Nat} {dim : Int} {ms : List Ly} {s : Ft.St} {q : List Pt}
set_option maxRecDepth 100000 in
set_option maxHeartbeats 4000000 in
theorem fwork1 {T : List (List Int)} (H : FlAt O V w p dim ms s q) (hI : Ft.Inv dim ms T s) (hR : Md.Right dim ms) (hT : Md.TRight dim T) (hLn : Ft.Lone s) (x0 x1 x3 x4 x5 x6 x7 x8 x9 : Int) (xa : Option Addr) (xn xc : Nat) (l : List Int) (hr : rowS.rep w everywhere [.slice xa xn xc] l) (hm : Ft.Good ms T s.lay ⟨x0, x1, 1, x3, x4, x5, x6, x7, x8, x9, l⟩) :
    Calls Tryz.prog 54 #[.pointer (some ⟨p, 0, none⟩), .agg #[.int .i64 x0, .int .i64 x1, .int .i64 1, .int .i64 x3, .int .i64 x4, .int .i64 x5, .int .i64 x6, .int .i64 x7, .int .i64 x8, .int .i64 x9, .slice xa xn xc]] w fun e w' => e = .returned (.tuple #[]) ∧ Mv V V w w' ∧ FlAt O V w' p dim ms (Ft.took dim ms s ⟨x0, x1, 1, x3, x4, x5, x6, x7, x8, x9, l⟩) q := by
  obtain ⟨la, ln, lc, ha, hn, hc, a0, n0, c0, a1, n1, c1, a2, n2, c2, a3, n3, c3, fa, fn, fc, ta, tn, tc, qa, qn, qc, aa, an, ac, hO⟩ := H.on
  have hxn := (sliceS_len hr).1
  have hl8 : l.length ≤ 8 := hm.1.2.2.2.1
  have hB := new_bel w (.cells #[.int .i64 x0, .int .i64 x1, .int .i64 1, .int .i64 x3, .int .i64 x4, .int .i64 x5, .int .i64 x6, .int .i64 x7, .int .i64 x8, .int .i64 x9, .slice xa xn xc] 100)
  have kx := Box.new w 100 #[.int .i64 x0, .int .i64 x1, .int .i64 1, .int .i64 x3, .int .i64 x4, .int .i64 x5, .int .i64 x6, .int .i64 x7, .int .i64 x8, .int .i64 x9, .slice xa xn xc]
  have hO1 := hO.keep hB
  have hr1 := Shape.below hr hB
  have hsh := Ft.ledger_short hI hR hT hLn 0
  obtain ⟨L, m', bb, ht⟩ := Nd.tells_there dim ms s.e s.h 1 (s.ls.getD 0 []) ⟨x0, x1, 1, x3, x4, x5, x6, x7, x8, x9, l⟩
  obtain ⟨y0, y1, y2, y3, y4, y5, y6, y7, y8, y9, yl⟩ := m'
  obtain ⟨lm, hlm⟩ : ∃ lm, L.length = lm := ⟨_, rfl⟩
  obtain ⟨yn, hyn⟩ : ∃ yn, yl.length = yn := ⟨_, rfl⟩
  have HIM := hid (And.intro hI (And.intro hR (And.intro hT hm)))
  have HT := hid ht
  have h4 := hI.len
  have hpw : w.heap.size ≠ p := by have := hO.box.lt; omega
  have hpsz : Ex.Sized s.h := ⟨by have := hI.map.2.1; omega, fun k hk => by have := Pl.row_len (hI.map.2.2 k hk); omega⟩
  have hlz : ∀ k ∈ ms, Md.LSized k := fun k hk => Md.right_lsized (hR.2.2.2.2 k hk) hR.2.1
  have hln := (sliceS_len hO.r.m).1
  have hln9 : ln ≤ 1000 := by have := hR.2.2.2.1; omega
  clear hr hm hI hR hT hLn hO H ht
  go_enter Tryz.func54, Tryz.ntmps54
  go_upto_region 1 with fail
  generalize w.alloc (.cells #[.int .i64 x0, .int .i64 x1, .int .i64 1, .int .i64 x3, .int .i64 x4, .int .i64 x5, .int .i64 x6, .int .i64 x7, .int .i64 x8, .int .i64 x9, .slice xa xn xc] 100) = W0 at *
  have k2 := fun y : Later W0 => y.cell (kx.cell 2 (v := .int .i64 1) rfl)
  have : Nonempty (Later W0) := Later.there W0
  refine region_later (by kernel_rfl) (by kernel_rfl) ?_
  repeat (go_big_quiet_step (fail))
  refine wpQuiet_nil ?_
  intro y9'
  obtain ⟨W, hb9⟩ := y9'
  have hO2 := hO1.keep hb9
  have kx2 := kx.keep hb9
  have hr2 := Shape.below hr1 hb9
  have hB2 := bel_then hB hb9
  clear k2 hO1 kx hr1 hB
  have HWK : Hid (∀ u, Below W.heap.size W u → Calls Tryz.prog 97 #[.agg #[.int .i64 dim, .slice la ln lc], .agg #[.int .i64 s.e, .slice ha hn hc], .int .i64 1, .slice a0 n0 c0, .agg #[.int .i64 x0, .int .i64 x1, .int .i64 1, .int .i64 x3, .int .i64 x4, .int .i64 x5, .int .i64 x6, .int .i64 x7, .int .i64 x8, .int .i64 x9, .slice xa xn xc]] u fun e w' => Below u.heap.size u w' ∧ ∃ a' c' ya yc, e = .returned (.tuple #[.slice a' lm c', .agg #[.int .i64 y0, .int .i64 y1, .int .i64 y2, .int .i64 y3, .int .i64 y4, .int .i64 y5, .int .i64 y6, .int .i64 y7, .int .i64 y8, .int .i64 y9, .slice ya yn yc], .bool bb]) ∧ ensS.rep w' (fun b => (Out O V b ∧ b < W.heap.size) ∨ u.heap.size ≤ b) [.slice a' lm c'] L ∧ rowS.rep w' (u.heap.size ≤ ·) [.slice ya yn yc] yl) := fun u hu => by
    have hOu := hO2.keep hu
    exact nwork (P := fun b => Out O V b ∧ b < W.heap.size) dim la ln lc ms s.e ha hn hc s.h 1 a0 n0 c0 (s.ls.getD 0 []) x0 x1 1 x3 x4 x5 x6 x7 x8 x9 xa xn xc l u ⟨Shape.any hOu.r.m, hln9, hlz, Shape.any hOu.r.h, hpsz, Shape.below (ensS.mono hO2.r.g0 (fun b hb hlt => ⟨hb, hlt⟩)) hu, fun b hb => Nat.lt_of_lt_of_le hb.2 hu.size, hsh, Shape.below hr2 hu, by omega⟩ L y0 y1 y2 y3 y4 y5 y6 y7 y8 y9 yl bb HT.out lm hlm yn hyn
  have HS : Hid (∀ u, Below W.heap.size W u → u.cell? ⟨p, 0, none⟩ = some (.int .i64 dim) ∧ u.cell? ⟨p, 1, none⟩ = some (.slice la ln lc) ∧ u.cell? ⟨p, 2, none⟩ = some (.int .i64 s.e) ∧ u.cell? ⟨p, 3, none⟩ = some (.slice ha hn hc) ∧ u.cell? ⟨p, 4, none⟩ = some (.slice a0 n0 c0) ∧ u.cell? ⟨w.heap.size, 0, none⟩ = some (.int .i64 x0) ∧ u.cell? ⟨w.heap.size, 1, none⟩ = some (.int .i64 x1) ∧ u.cell? ⟨w.heap.size, 2, none⟩ = some (.int .i64 1) ∧ u.cell? ⟨w.heap.size, 3, none⟩ = some (.int .i64 x3) ∧ u.cell? ⟨w.heap.size, 4, none⟩ = some (.int .i64 x4) ∧ u.cell? ⟨w.heap.size, 5, none⟩ = some (.int .i64 x5) ∧ u.cell? ⟨w.heap.size, 6, none⟩ = some (.int .i64 x6) ∧ u.cell? ⟨w.heap.size, 7, none⟩ = some (.int .i64 x7) ∧ u.cell? ⟨w.heap.size, 8, none⟩ = some (.int .i64 x8) ∧ u.cell? ⟨w.heap.size, 9, none⟩ = some (.int .i64 x9) ∧ u.cell? ⟨w.heap.size, 10, none⟩ = some (.slice xa xn xc)) := fun u hu => by
    have k := hO2.box.keep hu
    have q := kx2.keep hu
    exact ⟨k.cell 0 rfl, k.cell 1 rfl, k.cell 2 rfl, k.cell 3 rfl, k.cell 4 rfl, q.cell 0 rfl, q.cell 1 rfl, q.cell 2 rfl, q.cell 3 rfl, q.cell 4 rfl, q.cell 5 rfl, q.cell 6 rfl, q.cell 7 rfl, q.cell 8 rfl, q.cell 9 rfl, q.cell 10 rfl⟩
  have HO := hid hO2
  have HB := hid hB2
  clear hO2 kx2 hr2 hB2 hlz hpsz hsh hln hln9
  go_upto_region 2 with fail
  go_cut [5, 6, 7] from 8 (fun v5 v6 v7 wx => ∃ a c g ya yc, v5 = .slice a lm c ∧ v6 = .pointer (some ⟨g, 0, none⟩) ∧ v7 = .bool bb ∧ Box wx g 100 #[.int .i64 y0, .int .i64 y1, .int .i64 y2, .int .i64 y3, .int .i64 y4, .int .i64 y5, .int .i64 y6, .int .i64 y7, .int .i64 y8, .int .i64 y9, .slice ya yn yc] ∧ ensS.rep wx (Out O V) [.slice a lm c] L ∧ rowS.rep wx (W.heap.size ≤ ·) [.slice ya yn yc] yl ∧ W.heap.size ≤ g ∧ Below W.heap.size W wx)
  case first =>
    rename_i Jx Kx hRJ hMK
    have hD : Below W.heap.size W W.drew := (Below.refl _ W).drew
    have hDA : Below W.heap.size W (W.drew.alloc (.cells #[.int .i64 0, .int .i64 0, .int .i64 0, .int .i64 0, .int .i64 0, .int .i64 0, .int .i64 0, .int .i64 0, .int .i64 0, .int .i64 0, .slice none 0 0] 100)) := bel_alloc hD _
    obtain ⟨i1, i2, i3, i4, i5, i6, i7, i8, i9, i10, i11, i12, i13, i14, i15, i16⟩ := HS.out W (Below.refl _ _)
    have kM0 : Box (W.drew.alloc (.cells #[.int .i64 0, .int .i64 0, .int .i64 0, .int .i64 0, .int .i64 0, .int .i64 0, .int .i64 0, .int .i64 0, .int .i64 0, .int .i64 0, .slice none 0 0] 100)) W.heap.size 100 #[.int .i64 0, .int .i64 0, .int .i64 0, .int .i64 0, .int .i64 0, .int .i64 0, .int .i64 0, .int .i64 0, .int .i64 0, .int .i64 0, .slice none 0 0] := Box.new W.drew _ _
    go_region_held3 (fun u => u.cell? ⟨p, 0, none⟩ = some (.int .i64 dim) ∧ u.cell? ⟨p, 1, none⟩ = some (.slice la ln lc) ∧ u.cell? ⟨p, 2, none⟩ = some (.int .i64 s.e) ∧ u.cell? ⟨p, 3, none⟩ = some (.slice ha hn hc) ∧ u.cell? ⟨p, 4, none⟩ = some (.slice a0 n0 c0) ∧ u.cell? ⟨w.heap.size, 0, none⟩ = some (.int .i64 x0) ∧ u.cell? ⟨w.heap.size, 1, none⟩ = some (.int .i64 x1) ∧ u.cell? ⟨w.heap.size, 2, none⟩ = some (.int .i64 1) ∧ u.cell? ⟨w.heap.size, 3, none⟩ = some (.int .i64 x3) ∧ u.cell? ⟨w.heap.size, 4, none⟩ = some (.int .i64 x4) ∧ u.cell? ⟨w.heap.size, 5, none⟩ = some (.int .i64 x5) ∧ u.cell? ⟨w.heap.size, 6, none⟩ = some (.int .i64 x6) ∧ u.cell? ⟨w.heap.size, 7, none⟩ = some (.int .i64 x7) ∧ u.cell? ⟨w.heap.size, 8, none⟩ = some (.int .i64 x8) ∧ u.cell? ⟨w.heap.size, 9, none⟩ = some (.int .i64 x9) ∧ u.cell? ⟨w.heap.size, 10, none⟩ = some (.slice xa xn xc))
      (first
        | exact HS.out _ (by first | with_reducible assumption | with_reducible exact Below.refl _ _ | (with_reducible refine bel_alloc ?_ _; with_reducible assumption) | (with_reducible refine bel_all11 ?_ ?_ _ _ _ _ _ _ _ _ _ _ _; (first | with_reducible assumption | (with_reducible refine bel_alloc ?_ _; with_reducible assumption)); omega))
        | go_keep)
      (first
        | (go_at_call 97; refine (HWK.out _ (by first | exact hDA | exact hD)).mono ?_; rintro e u2 ⟨hb2, aw, cw, ya, yc, rfl, hr2, hy2⟩; have hd2 : Below W.heap.size W u2 := (by first | exact bel_then hDA hb2 | exact bel_then hD hb2); have hs2 := hd2.size; (try (have kM2 := kM0.keep hb2; have c0 := kM2.cell 0 rfl; have c1 := kM2.cell 1 rfl; have c2 := kM2.cell 2 rfl; have c3 := kM2.cell 3 rfl; have c4 := kM2.cell 4 rfl; have c5 := kM2.cell 5 rfl; have c6 := kM2.cell 6 rfl; have c7 := kM2.cell 7 rfl; have c8 := kM2.cell 8 rfl; have c9 := kM2.cell 9 rfl; have c10 := kM2.cell 10 rfl; have f0 := kM2.free 0; have f1 := kM2.free 1; have f2 := kM2.free 2; have f3 := kM2.free 3; have f4 := kM2.free 4; have f5 := kM2.free 5; have f6 := kM2.free 6; have f7 := kM2.free 7; have f8 := kM2.free 8; have f9 := kM2.free 9; have f10 := kM2.free 10)); (have kM4 := Box.new u2 100 #[.int .i64 0, .int .i64 0, .int .i64 0, .int .i64 0, .int .i64 0, .int .i64 0, .int .i64 0, .int .i64 0, .int .i64 0, .int .i64 0, .slice none 0 0]; have d0 := kM4.cell 0 rfl; have d1 := kM4.cell 1 rfl; have d2 := kM4.cell 2 rfl; have d3 := kM4.cell 3 rfl; have d4 := kM4.cell 4 rfl; have d5 := kM4.cell 5 rfl; have d6 := kM4.cell 6 rfl; have d7 := kM4.cell 7 rfl; have d8 := kM4.cell 8 rfl; have d9 := kM4.cell 9 rfl; have d10 := kM4.cell 10 rfl; have e0 := kM4.free 0; have e1 := kM4.free 1; have e2 := kM4.free 2; have e3 := kM4.free 3; have e4 := kM4.free 4; have e5 := kM4.free 5; have e6 := kM4.free 6; have e7 := kM4.free 7; have e8 := kM4.free 8; have e9 := kM4.free 9; have e10 := kM4.free 10)))
    all_goals
      refine hMK _ _ (Met.intro (hRJ _ _ ?_))
      (repeat apply Exists.intro)
      refine ⟨?_, rfl⟩
    all_goals
      first
        | (have hx := kM2.all11 (.int .i64 y0) (.int .i64 y1) (.int .i64 y2) (.int .i64 y3) (.int .i64 y4) (.int .i64 y5) (.int .i64 y6) (.int .i64 y7) (.int .i64 y8) (.int .i64 y9) (.slice ya yn yc); have hq1 : ensS.rep u2 (fun b => (Out O V b ∧ b < W.heap.size) ∨ W.heap.size < b) [.slice aw lm cw] L := ensS.mono hr2 (fun b hb _ => hb.elim .inl (fun h => .inr (by simp at h; exact h))); have hq2 : rowS.rep u2 (W.heap.size < ·) [.slice ya yn yc] yl := rowS.mono hy2 (fun b hb _ => by have h9 := hb; simp at h9; exact h9); exact ⟨aw, cw, W.heap.size, ya, yc, rfl, rfl, rfl, hx, ensS.mono (rep_all11 hq1 (fun b hb => hb.elim (fun h => by have := h.2; omega) (fun h => by omega)) _ _ _ _ _ _ _ _ _ _ _) (fun b hb _ => hb.elim (fun h => h.1) (fun h => ⟨fun hv => by have := HO.out.r.lt b hv; omega, fun ho => by have := HO.out.r.olt b ho; omega⟩)), rowS.mono (rep_all11 hq2 (fun b hb => by have h9 : W.heap.size < b := hb; omega) _ _ _ _ _ _ _ _ _ _ _) (fun b hb _ => Nat.le_of_lt hb), Nat.le_refl _, bel_all11 hd2 (Nat.le_refl _) _ _ _ _ _ _ _ _ _ _ _⟩)
        | (have hq1 : ensS.rep u2 (fun b => (Out O V b ∧ b < W.heap.size) ∨ W.heap.size ≤ b) [.slice aw lm cw] L := ensS.mono hr2 (fun b hb _ => hb.elim .inl (fun h => .inr (by simp at h; omega))); have hq2 : rowS.rep u2 (W.heap.size ≤ ·) [.slice ya yn yc] yl := rowS.mono hy2 (fun b hb _ => by have h9 := hb; simp at h9; omega); exact ⟨aw, cw, u2.heap.size, ya, yc, rfl, rfl, rfl, Box.new _ _ _, Shape.below (ensS.mono hq1 (fun b hb _ => hb.elim (fun h => h.1) (fun h => ⟨fun hv => by have := HO.out.r.lt b hv; omega, fun ho => by have := HO.out.r.olt b ho; omega⟩))) (new_bel _ _), Shape.below hq2 (new_bel _ _), hs2, bel_alloc hd2 _⟩)
  case rest =>
    obtain ⟨a, c, g, ya, yc, rfl, rfl, rfl, kg, hrL, hry, hgW, hBW⟩ := hcut
    have hOc := HO.out.keep hBW
    have hBc := bel_then HB.out hBW
    have hpW : p < W.heap.size := HO.out.box.lt
    cases bb with
    | false =>
      have HTK : Hid (Ft.took dim ms s ⟨x0, x1, 1, x3, x4, x5, x6, x7, x8, x9, l⟩ = s) := by
        show _ = _
        rw [Ft.took_node (m := ⟨x0, x1, 1, x3, x4, x5, x6, x7, x8, x9, l⟩) (j := 0) ⟨by show (1 : Int) ≤ 1; omega, by show (1 : Int) ≤ 4; omega⟩ rfl, (Nd.tells_false.1 HT.out).1]
      have HE := hid (And.intro (Mv.of_bel (V := V) hBc) hOc.at)
      clear HS HWK hOc hBc kg hrL hry
      go_wp2
      (try simp only [Exit.inBlock, Exit.then]); refine bodyPost_ret (results_none rfl _ _ _) rfl ?_
      rw [HTK.out]
      exact ⟨rfl, HE.out.1, HE.out.2⟩
    | true =>
      have hwk := Nd.tells_true.1 HT.out
      have HTK : Hid (Ft.took dim ms s ⟨x0, x1, 1, x3, x4, x5, x6, x7, x8, x9, l⟩ = { s with ls := s.ls.set 0 L, bag := Ft.put s.bag ⟨y0, y1, y2, y3, y4, y5, y6, y7, y8, y9, yl⟩ }) := by
        show _ = _
        rw [Ft.took_node (m := ⟨x0, x1, 1, x3, x4, x5, x6, x7, x8, x9, l⟩) (j := 0) ⟨by show (1 : Int) ≤ 1; omega, by show (1 : Int) ≤ 4; omega⟩ rfl, hwk]
      have hrt : Wx.right ⟨y0, y1, y2, y3, y4, y5, y6, y7, y8, y9, yl⟩ := Ft.work_right HIM.out.1 HIM.out.2.1 HIM.out.2.2.1 HIM.out.2.2.2 ⟨by show (1 : Int) ≤ 1; omega, by show (1 : Int) ≤ 4; omega⟩ hwk
      have hled : FlAt O V (wc.setCell ⟨p, 4, none⟩ (.slice a lm c)) p dim ms { s with ls := s.ls.set 0 L } q := hOc.led h4 (k := 0) (by omega) hrL
      have hkg : Box (wc.setCell ⟨p, 4, none⟩ (.slice a lm c)) g 100 #[.int .i64 y0, .int .i64 y1, .int .i64 y2, .int .i64 y3, .int .i64 y4, .int .i64 y5, .int .i64 y6, .int .i64 y7, .int .i64 y8, .int .i64 y9, .slice ya yn yc] := kg.other (b2 := p) (i := 4) _ (by omega)
      have hry2 : rowS.rep (wc.setCell ⟨p, 4, none⟩ (.slice a lm c)) (W.heap.size ≤ ·) [.slice ya yn yc] yl := Shape.keep _ hry fun b hb _ => Below.heap_setCell wc _ _ b (fun (e : b = p) => by have h9 : W.heap.size ≤ b := hb; omega)
      have hmv : Mv V V w (wc.setCell ⟨p, 4, none⟩ (.slice a lm c)) := (Mv.of_bel hBc).set HO.out.r.vp _
      have HC : Hid (Calls _ _ _ _ _) := fsend hled y0 y1 y2 y3 y4 y5 y6 y7 y8 y9 ya yn yc yl (Shape.any hry2) ⟨y0, y1, y2, y3, y4, y5, y6, y7, y8, y9, yl⟩ rfl hrt HIM.out.1.few
      have HMV := hid hmv
      have zc := hOc.box.cell 4 rfl
      have fc := hOc.box.free 4
      clear HS HWK hwk hrt hled hry hry2 hmv hOc hBc kg hrL
      go_upto_region 5 with fail
      generalize wc.setCell ⟨p, 4, none⟩ (.slice a lm c) = U at *
      clear zc fc
      have d0 := hkg.cell 0 rfl
      have d1 := hkg.cell 1 rfl
      have d2 := hkg.cell 2 rfl
      have d3 := hkg.cell 3 rfl
      have d4 := hkg.cell 4 rfl
      have d5 := hkg.cell 5 rfl
      have d6 := hkg.cell 6 rfl
      have d7 := hkg.cell 7 rfl
      have d8 := hkg.cell 8 rfl
      have d9 := hkg.cell 9 rfl
      have d10 := hkg.cell 10 rfl
      go_wp2_with (go_at_call 89; refine HC.out.mono ?_; rintro e u5 ⟨rfl, hm5, hat5⟩)
      go_end0
      rw [HTK.out]
      exact ⟨rfl, HMV.out.trans hm5, hat5⟩
set_option maxRecDepth 100000 in
set_option maxHeartbeats 4000000 in
theorem fwork2 {T : List (List Int)} (H : FlAt O V w p dim ms s q) (hI : Ft.Inv dim ms T s) (hR : Md.Right dim ms) (hT : Md.TRight dim T) (hLn : Ft.Lone s) (x0 x1 x3 x4 x5 x6 x7 x8 x9 : Int) (xa : Option Addr) (xn xc : Nat) (l : List Int) (hr : rowS.rep w everywhere [.slice xa xn xc] l) (hm : Ft.Good ms T s.lay ⟨x0, x1, 2, x3, x4, x5, x6, x7, x8, x9, l⟩) :
    Calls Tryz.prog 54 #[.pointer (some ⟨p, 0, none⟩), .agg #[.int .i64 x0, .int .i64 x1, .int .i64 2, .int .i64 x3, .int .i64 x4, .int .i64 x5, .int .i64 x6, .int .i64 x7, .int .i64 x8, .int .i64 x9, .slice xa xn xc]] w fun e w' => e = .returned (.tuple #[]) ∧ Mv V V w w' ∧ FlAt O V w' p dim ms (Ft.took dim ms s ⟨x0, x1, 2, x3, x4, x5, x6, x7, x8, x9, l⟩) q := by
  obtain ⟨la, ln, lc, ha, hn, hc, a0, n0, c0, a1, n1, c1, a2, n2, c2, a3, n3, c3, fa, fn, fc, ta, tn, tc, qa, qn, qc, aa, an, ac, hO⟩ := H.on
  have hxn := (sliceS_len hr).1
  have hl8 : l.length ≤ 8 := hm.1.2.2.2.1
  have hB := new_bel w (.cells #[.int .i64 x0, .int .i64 x1, .int .i64 2, .int .i64 x3, .int .i64 x4, .int .i64 x5, .int .i64 x6, .int .i64 x7, .int .i64 x8, .int .i64 x9, .slice xa xn xc] 100)
  have kx := Box.new w 100 #[.int .i64 x0, .int .i64 x1, .int .i64 2, .int .i64 x3, .int .i64 x4, .int .i64 x5, .int .i64 x6, .int .i64 x7, .int .i64 x8, .int .i64 x9, .slice xa xn xc]
  have hO1 := hO.keep hB
  have hr1 := Shape.below hr hB
  have hsh := Ft.ledger_short hI hR hT hLn 1
  obtain ⟨L, m', bb, ht⟩ := Nd.tells_there dim ms s.e s.h 2 (s.ls.getD 1 []) ⟨x0, x1, 2, x3, x4, x5, x6, x7, x8, x9, l⟩
  obtain ⟨y0, y1, y2, y3, y4, y5, y6, y7, y8, y9, yl⟩ := m'
  obtain ⟨lm, hlm⟩ : ∃ lm, L.length = lm := ⟨_, rfl⟩
  obtain ⟨yn, hyn⟩ : ∃ yn, yl.length = yn := ⟨_, rfl⟩
  have HIM := hid (And.intro hI (And.intro hR (And.intro hT hm)))
  have HT := hid ht
  have h4 := hI.len
  have hpw : w.heap.size ≠ p := by have := hO.box.lt; omega
  have hpsz : Ex.Sized s.h := ⟨by have := hI.map.2.1; omega, fun k hk => by have := Pl.row_len (hI.map.2.2 k hk); omega⟩
  have hlz : ∀ k ∈ ms, Md.LSized k := fun k hk => Md.right_lsized (hR.2.2.2.2 k hk) hR.2.1
  have hln := (sliceS_len hO.r.m).1
  have hln9 : ln ≤ 1000 := by have := hR.2.2.2.1; omega
  clear hr hm hI hR hT hLn hO H ht
  go_enter Tryz.func54, Tryz.ntmps54
  go_upto_region 1 with fail
  generalize w.alloc (.cells #[.int .i64 x0, .int .i64 x1, .int .i64 2, .int .i64 x3, .int .i64 x4, .int .i64 x5, .int .i64 x6, .int .i64 x7, .int .i64 x8, .int .i64 x9, .slice xa xn xc] 100) = W0 at *
  have k2 := fun y : Later W0 => y.cell (kx.cell 2 (v := .int .i64 2) rfl)
  have : Nonempty (Later W0) := Later.there W0
  refine region_later (by kernel_rfl) (by kernel_rfl) ?_
  repeat (go_big_quiet_step (fail))
  refine wpQuiet_nil ?_
  intro y9'
  obtain ⟨W, hb9⟩ := y9'
  have hO2 := hO1.keep hb9
  have kx2 := kx.keep hb9
  have hr2 := Shape.below hr1 hb9
  have hB2 := bel_then hB hb9
  clear k2 hO1 kx hr1 hB
  have HWK : Hid (∀ u, Below W.heap.size W u → Calls Tryz.prog 97 #[.agg #[.int .i64 dim, .slice la ln lc], .agg #[.int .i64 s.e, .slice ha hn hc], .int .i64 2, .slice a1 n1 c1, .agg #[.int .i64 x0, .int .i64 x1, .int .i64 2, .int .i64 x3, .int .i64 x4, .int .i64 x5, .int .i64 x6, .int .i64 x7, .int .i64 x8, .int .i64 x9, .slice xa xn xc]] u fun e w' => Below u.heap.size u w' ∧ ∃ a' c' ya yc, e = .returned (.tuple #[.slice a' lm c', .agg #[.int .i64 y0, .int .i64 y1, .int .i64 y2, .int .i64 y3, .int .i64 y4, .int .i64 y5, .int .i64 y6, .int .i64 y7, .int .i64 y8, .int .i64 y9, .slice ya yn yc], .bool bb]) ∧ ensS.rep w' (fun b => (Out O V b ∧ b < W.heap.size) ∨ u.heap.size ≤ b) [.slice a' lm c'] L ∧ rowS.rep w' (u.heap.size ≤ ·) [.slice ya yn yc] yl) := fun u hu => by
    have hOu := hO2.keep hu
    exact nwork (P := fun b => Out O V b ∧ b < W.heap.size) dim la ln lc ms s.e ha hn hc s.h 2 a1 n1 c1 (s.ls.getD 1 []) x0 x1 2 x3 x4 x5 x6 x7 x8 x9 xa xn xc l u ⟨Shape.any hOu.r.m, hln9, hlz, Shape.any hOu.r.h, hpsz, Shape.below (ensS.mono hO2.r.g1 (fun b hb hlt => ⟨hb, hlt⟩)) hu, fun b hb => Nat.lt_of_lt_of_le hb.2 hu.size, hsh, Shape.below hr2 hu, by omega⟩ L y0 y1 y2 y3 y4 y5 y6 y7 y8 y9 yl bb HT.out lm hlm yn hyn
  have HS : Hid (∀ u, Below W.heap.size W u → u.cell? ⟨p, 0, none⟩ = some (.int .i64 dim) ∧ u.cell? ⟨p, 1, none⟩ = some (.slice la ln lc) ∧ u.cell? ⟨p, 2, none⟩ = some (.int .i64 s.e) ∧ u.cell? ⟨p, 3, none⟩ = some (.slice ha hn hc) ∧ u.cell? ⟨p, 5, none⟩ = some (.slice a1 n1 c1) ∧ u.cell? ⟨w.heap.size, 0, none⟩ = some (.int .i64 x0) ∧ u.cell? ⟨w.heap.size, 1, none⟩ = some (.int .i64 x1) ∧ u.cell? ⟨w.heap.size, 2, none⟩ = some (.int .i64 2) ∧ u.cell? ⟨w.heap.size, 3, none⟩ = some (.int .i64 x3) ∧ u.cell? ⟨w.heap.size, 4, none⟩ = some (.int .i64 x4) ∧ u.cell? ⟨w.heap.size, 5, none⟩ = some (.int .i64 x5) ∧ u.cell? ⟨w.heap.size, 6, none⟩ = some (.int .i64 x6) ∧ u.cell? ⟨w.heap.size, 7, none⟩ = some (.int .i64 x7) ∧ u.cell? ⟨w.heap.size, 8, none⟩ = some (.int .i64 x8) ∧ u.cell? ⟨w.heap.size, 9, none⟩ = some (.int .i64 x9) ∧ u.cell? ⟨w.heap.size, 10, none⟩ = some (.slice xa xn xc)) := fun u hu => by
    have k := hO2.box.keep hu
    have q := kx2.keep hu
    exact ⟨k.cell 0 rfl, k.cell 1 rfl, k.cell 2 rfl, k.cell 3 rfl, k.cell 5 rfl, q.cell 0 rfl, q.cell 1 rfl, q.cell 2 rfl, q.cell 3 rfl, q.cell 4 rfl, q.cell 5 rfl, q.cell 6 rfl, q.cell 7 rfl, q.cell 8 rfl, q.cell 9 rfl, q.cell 10 rfl⟩
  have HO := hid hO2
  have HB := hid hB2
  clear hO2 kx2 hr2 hB2 hlz hpsz hsh hln hln9
  go_upto_region 2 with fail
  go_cut [5, 6, 7] from 8 (fun v5 v6 v7 wx => ∃ a c g ya yc, v5 = .slice a lm c ∧ v6 = .pointer (some ⟨g, 0, none⟩) ∧ v7 = .bool bb ∧ Box wx g 100 #[.int .i64 y0, .int .i64 y1, .int .i64 y2, .int .i64 y3, .int .i64 y4, .int .i64 y5, .int .i64 y6, .int .i64 y7, .int .i64 y8, .int .i64 y9, .slice ya yn yc] ∧ ensS.rep wx (Out O V) [.slice a lm c] L ∧ rowS.rep wx (W.heap.size ≤ ·) [.slice ya yn yc] yl ∧ W.heap.size ≤ g ∧ Below W.heap.size W wx)
  case first =>
    rename_i Jx Kx hRJ hMK
    have hD : Below W.heap.size W W.drew := (Below.refl _ W).drew
    have hDA : Below W.heap.size W (W.drew.alloc (.cells #[.int .i64 0, .int .i64 0, .int .i64 0, .int .i64 0, .int .i64 0, .int .i64 0, .int .i64 0, .int .i64 0, .int .i64 0, .int .i64 0, .slice none 0 0] 100)) := bel_alloc hD _
    obtain ⟨i1, i2, i3, i4, i5, i6, i7, i8, i9, i10, i11, i12, i13, i14, i15, i16⟩ := HS.out W (Below.refl _ _)
    have kM0 : Box (W.drew.alloc (.cells #[.int .i64 0, .int .i64 0, .int .i64 0, .int .i64 0, .int .i64 0, .int .i64 0, .int .i64 0, .int .i64 0, .int .i64 0, .int .i64 0, .slice none 0 0] 100)) W.heap.size 100 #[.int .i64 0, .int .i64 0, .int .i64 0, .int .i64 0, .int .i64 0, .int .i64 0, .int .i64 0, .int .i64 0, .int .i64 0, .int .i64 0, .slice none 0 0] := Box.new W.drew _ _
    go_region_held3 (fun u => u.cell? ⟨p, 0, none⟩ = some (.int .i64 dim) ∧ u.cell? ⟨p, 1, none⟩ = some (.slice la ln lc) ∧ u.cell? ⟨p, 2, none⟩ = some (.int .i64 s.e) ∧ u.cell? ⟨p, 3, none⟩ = some (.slice ha hn hc) ∧ u.cell? ⟨p, 5, none⟩ = some (.slice a1 n1 c1) ∧ u.cell? ⟨w.heap.size, 0, none⟩ = some (.int .i64 x0) ∧ u.cell? ⟨w.heap.size, 1, none⟩ = some (.int .i64 x1) ∧ u.cell? ⟨w.heap.size, 2, none⟩ = some (.int .i64 2) ∧ u.cell? ⟨w.heap.size, 3, none⟩ = some (.int .i64 x3) ∧ u.cell? ⟨w.heap.size, 4, none⟩ = some (.int .i64 x4) ∧ u.cell? ⟨w.heap.size, 5, none⟩ = some (.int .i64 x5) ∧ u.cell? ⟨w.heap.size, 6, none⟩ = some (.int .i64 x6) ∧ u.cell? ⟨w.heap.size, 7, none⟩ = some (.int .i64 x7) ∧ u.cell? ⟨w.heap.size, 8, none⟩ = some (.int .i64 x8) ∧ u.cell? ⟨w.heap.size, 9, none⟩ = some (.int .i64 x9) ∧ u.cell? ⟨w.heap.size, 10, none⟩ = some (.slice xa xn xc))
      (first
        | exact HS.out _ (by first | with_reducible assumption | with_reducible exact Below.refl _ _ | (with_reducible refine bel_alloc ?_ _; with_reducible assumption) | (with_reducible refine bel_all11 ?_ ?_ _ _ _ _ _ _ _ _ _ _ _; (first | with_reducible assumption | (with_reducible refine bel_alloc ?_ _; with_reducible assumption)); omega))
        | go_keep)
      (first
        | (go_at_call 97; refine (HWK.out _ (by first | exact hDA | exact hD)).mono ?_; rintro e u2 ⟨hb2, aw, cw, ya, yc, rfl, hr2, hy2⟩; have hd2 : Below W.heap.size W u2 := (by first | exact bel_then hDA hb2 | exact bel_then hD hb2); have hs2 := hd2.size; (try (have kM2 := kM0.keep hb2; have c0 := kM2.cell 0 rfl; have c1 := kM2.cell 1 rfl; have c2 := kM2.cell 2 rfl; have c3 := kM2.cell 3 rfl; have c4 := kM2.cell 4 rfl; have c5 := kM2.cell 5 rfl; have c6 := kM2.cell 6 rfl; have c7 := kM2.cell 7 rfl; have c8 := kM2.cell 8 rfl; have c9 := kM2.cell 9 rfl; have c10 := kM2.cell 10 rfl; have f0 := kM2.free 0; have f1 := kM2.free 1; have f2 := kM2.free 2; have f3 := kM2.free 3; have f4 := kM2.free 4; have f5 := kM2.free 5; have f6 := kM2.free 6; have f7 := kM2.free 7; have f8 := kM2.free 8; have f9 := kM2.free 9; have f10 := kM2.free 10)); (have kM4 := Box.new u2 100 #[.int .i64 0, .int .i64 0, .int .i64 0, .int .i64 0, .int .i64 0, .int .i64 0, .int .i64 0, .int .i64 0, .int .i64 0, .int .i64 0, .slice none 0 0]; have d0 := kM4.cell 0 rfl; have d1 := kM4.cell 1 rfl; have d2 := kM4.cell 2 rfl; have d3 := kM4.cell 3 rfl; have d4 := kM4.cell 4 rfl; have d5 := kM4.cell 5 rfl; have d6 := kM4.cell 6 rfl; have d7 := kM4.cell 7 rfl; have d8 := kM4.cell 8 rfl; have d9 := kM4.cell 9 rfl; have d10 := kM4.cell 10 rfl; have e0 := kM4.free 0; have e1 := kM4.free 1; have e2 := kM4.free 2; have e3 := kM4.free 3; have e4 := kM4.free 4; have e5 := kM4.free 5; have e6 := kM4.free 6; have e7 := kM4.free 7; have e8 := kM4.free 8; have e9 := kM4.free 9; have e10 := kM4.free 10)))
    all_goals
      refine hMK _ _ (Met.intro (hRJ _ _ ?_))
      (repeat apply Exists.intro)
      refine ⟨?_, rfl⟩
    all_goals
      first
        | (have hx := kM2.all11 (.int .i64 y0) (.int .i64 y1) (.int .i64 y2) (.int .i64 y3) (.int .i64 y4) (.int .i64 y5) (.int .i64 y6) (.int .i64 y7) (.int .i64 y8) (.int .i64 y9) (.slice ya yn yc); have hq1 : ensS.rep u2 (fun b => (Out O V b ∧ b < W.heap.size) ∨ W.heap.size < b) [.slice aw lm cw] L := ensS.mono hr2 (fun b hb _ => hb.elim .inl (fun h => .inr (by simp at h; exact h))); have hq2 : rowS.rep u2 (W.heap.size < ·) [.slice ya yn yc] yl := rowS.mono hy2 (fun b hb _ => by have h9 := hb; simp at h9; exact h9); exact ⟨aw, cw, W.heap.size, ya, yc, rfl, rfl, rfl, hx, ensS.mono (rep_all11 hq1 (fun b hb => hb.elim (fun h => by have := h.2; omega) (fun h => by omega)) _ _ _ _ _ _ _ _ _ _ _) (fun b hb _ => hb.elim (fun h => h.1) (fun h => ⟨fun hv => by have := HO.out.r.lt b hv; omega, fun ho => by have := HO.out.r.olt b ho; omega⟩)), rowS.mono (rep_all11 hq2 (fun b hb => by have h9 : W.heap.size < b := hb; omega) _ _ _ _ _ _ _ _ _ _ _) (fun b hb _ => Nat.le_of_lt hb), Nat.le_refl _, bel_all11 hd2 (Nat.le_refl _) _ _ _ _ _ _ _ _ _ _ _⟩)
        | (have hq1 : ensS.rep u2 (fun b => (Out O V b ∧ b < W.heap.size) ∨ W.heap.size ≤ b) [.slice aw lm cw] L := ensS.mono hr2 (fun b hb _ => hb.elim .inl (fun h => .inr (by simp at h; omega))); have hq2 : rowS.rep u2 (W.heap.size ≤ ·) [.slice ya yn yc] yl := rowS.mono hy2 (fun b hb _ => by have h9 := hb; simp at h9; omega); exact ⟨aw, cw, u2.heap.size, ya, yc, rfl, rfl, rfl, Box.new _ _ _, Shape.below (ensS.mono hq1 (fun b hb _ => hb.elim (fun h => h.1) (fun h => ⟨fun hv => by have := HO.out.r.lt b hv; omega, fun ho => by have := HO.out.r.olt b ho; omega⟩))) (new_bel _ _), Shape.below hq2 (new_bel _ _), hs2, bel_alloc hd2 _⟩)
  case rest =>
    obtain ⟨a, c, g, ya, yc, rfl, rfl, rfl, kg, hrL, hry, hgW, hBW⟩ := hcut
    have hOc := HO.out.keep hBW
    have hBc := bel_then HB.out hBW
    have hpW : p < W.heap.size := HO.out.box.lt
    cases bb with
    | false =>
      have HTK : Hid (Ft.took dim ms s ⟨x0, x1, 2, x3, x4, x5, x6, x7, x8, x9, l⟩ = s) := by
        show _ = _
        rw [Ft.took_node (m := ⟨x0, x1, 2, x3, x4, x5, x6, x7, x8, x9, l⟩) (j := 1) ⟨by show (1 : Int) ≤ 2; omega, by show (2 : Int) ≤ 4; omega⟩ rfl, (Nd.tells_false.1 HT.out).1]
      have HE := hid (And.intro (Mv.of_bel (V := V) hBc) hOc.at)
      clear HS HWK hOc hBc kg hrL hry
      go_wp2
      (try simp only [Exit.inBlock, Exit.then]); refine bodyPost_ret (results_none rfl _ _ _) rfl ?_
      rw [HTK.out]
      exact ⟨rfl, HE.out.1, HE.out.2⟩
    | true =>
      have hwk := Nd.tells_true.1 HT.out
      have HTK : Hid (Ft.took dim ms s ⟨x0, x1, 2, x3, x4, x5, x6, x7, x8, x9, l⟩ = { s with ls := s.ls.set 1 L, bag := Ft.put s.bag ⟨y0, y1, y2, y3, y4, y5, y6, y7, y8, y9, yl⟩ }) := by
        show _ = _
        rw [Ft.took_node (m := ⟨x0, x1, 2, x3, x4, x5, x6, x7, x8, x9, l⟩) (j := 1) ⟨by show (1 : Int) ≤ 2; omega, by show (2 : Int) ≤ 4; omega⟩ rfl, hwk]
      have hrt : Wx.right ⟨y0, y1, y2, y3, y4, y5, y6, y7, y8, y9, yl⟩ := Ft.work_right HIM.out.1 HIM.out.2.1 HIM.out.2.2.1 HIM.out.2.2.2 ⟨by show (1 : Int) ≤ 2; omega, by show (2 : Int) ≤ 4; omega⟩ hwk
      have hled : FlAt O V (wc.setCell ⟨p, 5, none⟩ (.slice a lm c)) p dim ms { s with ls := s.ls.set 1 L } q := hOc.led h4 (k := 1) (by omega) hrL
      have hkg : Box (wc.setCell ⟨p, 5, none⟩ (.slice a lm c)) g 100 #[.int .i64 y0, .int .i64 y1, .int .i64 y2, .int .i64 y3, .int .i64 y4, .int .i64 y5, .int .i64 y6, .int .i64 y7, .int .i64 y8, .int .i64 y9, .slice ya yn yc] := kg.other (b2 := p) (i := 5) _ (by omega)
      have hry2 : rowS.rep (wc.setCell ⟨p, 5, none⟩ (.slice a lm c)) (W.heap.size ≤ ·) [.slice ya yn yc] yl := Shape.keep _ hry fun b hb _ => Below.heap_setCell wc _ _ b (fun (e : b = p) => by have h9 : W.heap.size ≤ b := hb; omega)
      have hmv : Mv V V w (wc.setCell ⟨p, 5, none⟩ (.slice a lm c)) := (Mv.of_bel hBc).set HO.out.r.vp _
      have HC : Hid (Calls _ _ _ _ _) := fsend hled y0 y1 y2 y3 y4 y5 y6 y7 y8 y9 ya yn yc yl (Shape.any hry2) ⟨y0, y1, y2, y3, y4, y5, y6, y7, y8, y9, yl⟩ rfl hrt HIM.out.1.few
      have HMV := hid hmv
      have zc := hOc.box.cell 5 rfl
      have fc := hOc.box.free 5
      clear HS HWK hwk hrt hled hry hry2 hmv hOc hBc kg hrL
      go_upto_region 5 with fail
      generalize wc.setCell ⟨p, 5, none⟩ (.slice a lm c) = U at *
      clear zc fc
      have d0 := hkg.cell 0 rfl
      have d1 := hkg.cell 1 rfl
      have d2 := hkg.cell 2 rfl
      have d3 := hkg.cell 3 rfl
      have d4 := hkg.cell 4 rfl
      have d5 := hkg.cell 5 rfl
      have d6 := hkg.cell 6 rfl
      have d7 := hkg.cell 7 rfl
      have d8 := hkg.cell 8 rfl
      have d9 := hkg.cell 9 rfl
      have d10 := hkg.cell 10 rfl
      go_wp2_with (go_at_call 89; refine HC.out.mono ?_; rintro e u5 ⟨rfl, hm5, hat5⟩)
      go_end0
      rw [HTK.out]
      exact ⟨rfl, HMV.out.trans hm5, hat5⟩
set_option maxRecDepth 100000 in
set_option maxHeartbeats 4000000 in
theorem fwork3 {T : List (List Int)} (H : FlAt O V w p dim ms s q) (hI : Ft.Inv dim ms T s) (hR : Md.Right dim ms) (hT : Md.TRight dim T) (hLn : Ft.Lone s) (x0 x1 x3 x4 x5 x6 x7 x8 x9 : Int) (xa : Option Addr) (xn xc : Nat) (l : List Int) (hr : rowS.rep w everywhere [.slice xa xn xc] l) (hm : Ft.Good ms T s.lay ⟨x0, x1, 3, x3, x4, x5, x6, x7, x8, x9, l⟩) :
    Calls Tryz.prog 54 #[.pointer (some ⟨p, 0, none⟩), .agg #[.int .i64 x0, .int .i64 x1, .int .i64 3, .int .i64 x3, .int .i64 x4, .int .i64 x5, .int .i64 x6, .int .i64 x7, .int .i64 x8, .int .i64 x9, .slice xa xn xc]] w fun e w' => e = .returned (.tuple #[]) ∧ Mv V V w w' ∧ FlAt O V w' p dim ms (Ft.took dim ms s ⟨x0, x1, 3, x3, x4, x5, x6, x7, x8, x9, l⟩) q := by
  obtain ⟨la, ln, lc, ha, hn, hc, a0, n0, c0, a1, n1, c1, a2, n2, c2, a3, n3, c3, fa, fn, fc, ta, tn, tc, qa, qn, qc, aa, an, ac, hO⟩ := H.on
  have hxn := (sliceS_len hr).1
  have hl8 : l.length ≤ 8 := hm.1.2.2.2.1
  have hB := new_bel w (.cells #[.int .i64 x0, .int .i64 x1, .int .i64 3, .int .i64 x3, .int .i64 x4, .int .i64 x5, .int .i64 x6, .int .i64 x7, .int .i64 x8, .int .i64 x9, .slice xa xn xc] 100)
  have kx := Box.new w 100 #[.int .i64 x0, .int .i64 x1, .int .i64 3, .int .i64 x3, .int .i64 x4, .int .i64 x5, .int .i64 x6, .int .i64 x7, .int .i64 x8, .int .i64 x9, .slice xa xn xc]
  have hO1 := hO.keep hB
  have hr1 := Shape.below hr hB
  have hsh := Ft.ledger_short hI hR hT hLn 2
  obtain ⟨L, m', bb, ht⟩ := Nd.tells_there dim ms s.e s.h 3 (s.ls.getD 2 []) ⟨x0, x1, 3, x3, x4, x5, x6, x7, x8, x9, l⟩
  obtain ⟨y0, y1, y2, y3, y4, y5, y6, y7, y8, y9, yl⟩ := m'
  obtain ⟨lm, hlm⟩ : ∃ lm, L.length = lm := ⟨_, rfl⟩
  obtain ⟨yn, hyn⟩ : ∃ yn, yl.length = yn := ⟨_, rfl⟩
  have HIM := hid (And.intro hI (And.intro hR (And.intro hT hm)))
  have HT := hid ht
  have h4 := hI.len
  have hpw : w.heap.size ≠ p := by have := hO.box.lt; omega
  have hpsz : Ex.Sized s.h := ⟨by have := hI.map.2.1; omega, fun k hk => by have := Pl.row_len (hI.map.2.2 k hk); omega⟩
  have hlz : ∀ k ∈ ms, Md.LSized k := fun k hk => Md.right_lsized (hR.2.2.2.2 k hk) hR.2.1
  have hln := (sliceS_len hO.r.m).1
  have hln9 : ln ≤ 1000 := by have := hR.2.2.2.1; omega
  clear hr hm hI hR hT hLn hO H ht
  go_enter Tryz.func54, Tryz.ntmps54
  go_upto_region 1 with fail
  generalize w.alloc (.cells #[.int .i64 x0, .int .i64 x1, .int .i64 3, .int .i64 x3, .int .i64 x4, .int .i64 x5, .int .i64 x6, .int .i64 x7, .int .i64 x8, .int .i64 x9, .slice xa xn xc] 100) = W0 at *
  have k2 := fun y : Later W0 => y.cell (kx.cell 2 (v := .int .i64 3) rfl)
  have : Nonempty (Later W0) := Later.there W0
  refine region_later (by kernel_rfl) (by kernel_rfl) ?_
  repeat (go_big_quiet_step (fail))
  refine wpQuiet_nil ?_
  intro y9'
  obtain ⟨W, hb9⟩ := y9'
  have hO2 := hO1.keep hb9
  have kx2 := kx.keep hb9
  have hr2 := Shape.below hr1 hb9
  have hB2 := bel_then hB hb9
  clear k2 hO1 kx hr1 hB
  have HWK : Hid (∀ u, Below W.heap.size W u → Calls Tryz.prog 97 #[.agg #[.int .i64 dim, .slice la ln lc], .agg #[.int .i64 s.e, .slice ha hn hc], .int .i64 3, .slice a2 n2 c2, .agg #[.int .i64 x0, .int .i64 x1, .int .i64 3, .int .i64 x3, .int .i64 x4, .int .i64 x5, .int .i64 x6, .int .i64 x7, .int .i64 x8, .int .i64 x9, .slice xa xn xc]] u fun e w' => Below u.heap.size u w' ∧ ∃ a' c' ya yc, e = .returned (.tuple #[.slice a' lm c', .agg #[.int .i64 y0, .int .i64 y1, .int .i64 y2, .int .i64 y3, .int .i64 y4, .int .i64 y5, .int .i64 y6, .int .i64 y7, .int .i64 y8, .int .i64 y9, .slice ya yn yc], .bool bb]) ∧ ensS.rep w' (fun b => (Out O V b ∧ b < W.heap.size) ∨ u.heap.size ≤ b) [.slice a' lm c'] L ∧ rowS.rep w' (u.heap.size ≤ ·) [.slice ya yn yc] yl) := fun u hu => by
    have hOu := hO2.keep hu
    exact nwork (P := fun b => Out O V b ∧ b < W.heap.size) dim la ln lc ms s.e ha hn hc s.h 3 a2 n2 c2 (s.ls.getD 2 []) x0 x1 3 x3 x4 x5 x6 x7 x8 x9 xa xn xc l u ⟨Shape.any hOu.r.m, hln9, hlz, Shape.any hOu.r.h, hpsz, Shape.below (ensS.mono hO2.r.g2 (fun b hb hlt => ⟨hb, hlt⟩)) hu, fun b hb => Nat.lt_of_lt_of_le hb.2 hu.size, hsh, Shape.below hr2 hu, by omega⟩ L y0 y1 y2 y3 y4 y5 y6 y7 y8 y9 yl bb HT.out lm hlm yn hyn
  have HS : Hid (∀ u, Below W.heap.size W u → u.cell? ⟨p, 0, none⟩ = some (.int .i64 dim) ∧ u.cell? ⟨p, 1, none⟩ = some (.slice la ln lc) ∧ u.cell? ⟨p, 2, none⟩ = some (.int .i64 s.e) ∧ u.cell? ⟨p, 3, none⟩ = some (.slice ha hn hc) ∧ u.cell? ⟨p, 6, none⟩ = some (.slice a2 n2 c2) ∧ u.cell? ⟨w.heap.size, 0, none⟩ = some (.int .i64 x0) ∧ u.cell? ⟨w.heap.size, 1, none⟩ = some (.int .i64 x1) ∧ u.cell? ⟨w.heap.size, 2, none⟩ = some (.int .i64 3) ∧ u.cell? ⟨w.heap.size, 3, none⟩ = some (.int .i64 x3) ∧ u.cell? ⟨w.heap.size, 4, none⟩ = some (.int .i64 x4) ∧ u.cell? ⟨w.heap.size, 5, none⟩ = some (.int .i64 x5) ∧ u.cell? ⟨w.heap.size, 6, none⟩ = some (.int .i64 x6) ∧ u.cell? ⟨w.heap.size, 7, none⟩ = some (.int .i64 x7) ∧ u.cell? ⟨w.heap.size, 8, none⟩ = some (.int .i64 x8) ∧ u.cell? ⟨w.heap.size, 9, none⟩ = some (.int .i64 x9) ∧ u.cell? ⟨w.heap.size, 10, none⟩ = some (.slice xa xn xc)) := fun u hu => by
    have k := hO2.box.keep hu
    have q := kx2.keep hu
    exact ⟨k.cell 0 rfl, k.cell 1 rfl, k.cell 2 rfl, k.cell 3 rfl, k.cell 6 rfl, q.cell 0 rfl, q.cell 1 rfl, q.cell 2 rfl, q.cell 3 rfl, q.cell 4 rfl, q.cell 5 rfl, q.cell 6 rfl, q.cell 7 rfl, q.cell 8 rfl, q.cell 9 rfl, q.cell 10 rfl⟩
  have HO := hid hO2
  have HB := hid hB2
  clear hO2 kx2 hr2 hB2 hlz hpsz hsh hln hln9
  go_upto_region 2 with fail
  go_cut [5, 6, 7] from 8 (fun v5 v6 v7 wx => ∃ a c g ya yc, v5 = .slice a lm c ∧ v6 = .pointer (some ⟨g, 0, none⟩) ∧ v7 = .bool bb ∧ Box wx g 100 #[.int .i64 y0, .int .i64 y1, .int .i64 y2, .int .i64 y3, .int .i64 y4, .int .i64 y5, .int .i64 y6, .int .i64 y7, .int .i64 y8, .int .i64 y9, .slice ya yn yc] ∧ ensS.rep wx (Out O V) [.slice a lm c] L ∧ rowS.rep wx (W.heap.size ≤ ·) [.slice ya yn yc] yl ∧ W.heap.size ≤ g ∧ Below W.heap.size W wx)
  case first =>
    rename_i Jx Kx hRJ hMK
    have hD : Below W.heap.size W W.drew := (Below.refl _ W).drew
    have hDA : Below W.heap.size W (W.drew.alloc (.cells #[.int .i64 0, .int .i64 0, .int .i64 0, .int .i64 0, .int .i64 0, .int .i64 0, .int .i64 0, .int .i64 0, .int .i64 0, .int .i64 0, .slice none 0 0] 100)) := bel_alloc hD _
    obtain ⟨i1, i2, i3, i4, i5, i6, i7, i8, i9, i10, i11, i12, i13, i14, i15, i16⟩ := HS.out W (Below.refl _ _)
    have kM0 : Box (W.drew.alloc (.cells #[.int .i64 0, .int .i64 0, .int .i64 0, .int .i64 0, .int .i64 0, .int .i64 0, .int .i64 0, .int .i64 0, .int .i64 0, .int .i64 0, .slice none 0 0] 100)) W.heap.size 100 #[.int .i64 0, .int .i64 0, .int .i64 0, .int .i64 0, .int .i64 0, .int .i64 0, .int .i64 0, .int .i64 0, .int .i64 0, .int .i64 0, .slice none 0 0] := Box.new W.drew _ _
    go_region_held3 (fun u => u.cell? ⟨p, 0, none⟩ = some (.int .i64 dim) ∧ u.cell? ⟨p, 1, none⟩ = some (.slice la ln lc) ∧ u.cell? ⟨p, 2, none⟩ = some (.int .i64 s.e) ∧ u.cell? ⟨p, 3, none⟩ = some (.slice ha hn hc) ∧ u.cell? ⟨p, 6, none⟩ = some (.slice a2 n2 c2) ∧ u.cell? ⟨w.heap.size, 0, none⟩ = some (.int .i64 x0) ∧ u.cell? ⟨w.heap.size, 1, none⟩ = some (.int .i64 x1) ∧ u.cell? ⟨w.heap.size, 2, none⟩ = some (.int .i64 3) ∧ u.cell? ⟨w.heap.size, 3, none⟩ = some (.int .i64 x3) ∧ u.cell? ⟨w.heap.size, 4, none⟩ = some (.int .i64 x4) ∧ u.cell? ⟨w.heap.size, 5, none⟩ = some (.int .i64 x5) ∧ u.cell? ⟨w.heap.size, 6, none⟩ = some (.int .i64 x6) ∧ u.cell? ⟨w.heap.size, 7, none⟩ = some (.int .i64 x7) ∧ u.cell? ⟨w.heap.size, 8, none⟩ = some (.int .i64 x8) ∧ u.cell? ⟨w.heap.size, 9, none⟩ = some (.int .i64 x9) ∧ u.cell? ⟨w.heap.size, 10, none⟩ = some (.slice xa xn xc))
      (first
        | exact HS.out _ (by first | with_reducible assumption | with_reducible exact Below.refl _ _ | (with_reducible refine bel_alloc ?_ _; with_reducible assumption) | (with_reducible refine bel_all11 ?_ ?_ _ _ _ _ _ _ _ _ _ _ _; (first | with_reducible assumption | (with_reducible refine bel_alloc ?_ _; with_reducible assumption)); omega))
        | go_keep)
      (first
        | (go_at_call 97; refine (HWK.out _ (by first | exact hDA | exact hD)).mono ?_; rintro e u2 ⟨hb2, aw, cw, ya, yc, rfl, hr2, hy2⟩; have hd2 : Below W.heap.size W u2 := (by first | exact bel_then hDA hb2 | exact bel_then hD hb2); have hs2 := hd2.size; (try (have kM2 := kM0.keep hb2; have c0 := kM2.cell 0 rfl; have c1 := kM2.cell 1 rfl; have c2 := kM2.cell 2 rfl; have c3 := kM2.cell 3 rfl; have c4 := kM2.cell 4 rfl; have c5 := kM2.cell 5 rfl; have c6 := kM2.cell 6 rfl; have c7 := kM2.cell 7 rfl; have c8 := kM2.cell 8 rfl; have c9 := kM2.cell 9 rfl; have c10 := kM2.cell 10 rfl; have f0 := kM2.free 0; have f1 := kM2.free 1; have f2 := kM2.free 2; have f3 := kM2.free 3; have f4 := kM2.free 4; have f5 := kM2.free 5; have f6 := kM2.free 6; have f7 := kM2.free 7; have f8 := kM2.free 8; have f9 := kM2.free 9; have f10 := kM2.free 10)); (have kM4 := Box.new u2 100 #[.int .i64 0, .int .i64 0, .int .i64 0, .int .i64 0, .int .i64 0, .int .i64 0, .int .i64 0, .int .i64 0, .int .i64 0, .int .i64 0, .slice none 0 0]; have d0 := kM4.cell 0 rfl; have d1 := kM4.cell 1 rfl; have d2 := kM4.cell 2 rfl; have d3 := kM4.cell 3 rfl; have d4 := kM4.cell 4 rfl; have d5 := kM4.cell 5 rfl; have d6 := kM4.cell 6 rfl; have d7 := kM4.cell 7 rfl; have d8 := kM4.cell 8 rfl; have d9 := kM4.cell 9 rfl; have d10 := kM4.cell 10 rfl; have e0 := kM4.free 0; have e1 := kM4.free 1; have e2 := kM4.free 2; have e3 := kM4.free 3; have e4 := kM4.free 4; have e5 := kM4.free 5; have e6 := kM4.free 6; have e7 := kM4.free 7; have e8 := kM4.free 8; have e9 := kM4.free 9; have e10 := kM4.free 10)))
    all_goals
      refine hMK _ _ (Met.intro (hRJ _ _ ?_))
      (repeat apply Exists.intro)
      refine ⟨?_, rfl⟩
    all_goals
      first
        | (have hx := kM2.all11 (.int .i64 y0) (.int .i64 y1) (.int .i64 y2) (.int .i64 y3) (.int .i64 y4) (.int .i64 y5) (.int .i64 y6) (.int .i64 y7) (.int .i64 y8) (.int .i64 y9) (.slice ya yn yc); have hq1 : ensS.rep u2 (fun b => (Out O V b ∧ b < W.heap.size) ∨ W.heap.size < b) [.slice aw lm cw] L := ensS.mono hr2 (fun b hb _ => hb.elim .inl (fun h => .inr (by simp at h; exact h))); have hq2 : rowS.rep u2 (W.heap.size < ·) [.slice ya yn yc] yl := rowS.mono hy2 (fun b hb _ => by have h9 := hb; simp at h9; exact h9); exact ⟨aw, cw, W.heap.size, ya, yc, rfl, rfl, rfl, hx, ensS.mono (rep_all11 hq1 (fun b hb => hb.elim (fun h => by have := h.2; omega) (fun h => by omega)) _ _ _ _ _ _ _ _ _ _ _) (fun b hb _ => hb.elim (fun h => h.1) (fun h => ⟨fun hv => by have := HO.out.r.lt b hv; omega, fun ho => by have := HO.out.r.olt b ho; omega⟩)), rowS.mono (rep_all11 hq2 (fun b hb => by have h9 : W.heap.size < b := hb; omega) _ _ _ _ _ _ _ _ _ _ _) (fun b hb _ => Nat.le_of_lt hb), Nat.le_refl _, bel_all11 hd2 (Nat.le_refl _) _ _ _ _ _ _ _ _ _ _ _⟩)
        | (have hq1 : ensS.rep u2 (fun b => (Out O V b ∧ b < W.heap.size) ∨ W.heap.size ≤ b) [.slice aw lm cw] L := ensS.mono hr2 (fun b hb _ => hb.elim .inl (fun h => .inr (by simp at h; omega))); have hq2 : rowS.rep u2 (W.heap.size ≤ ·) [.slice ya yn yc] yl := rowS.mono hy2 (fun b hb _ => by have h9 := hb; simp at h9; omega); exact ⟨aw, cw, u2.heap.size, ya, yc, rfl, rfl, rfl, Box.new _ _ _, Shape.below (ensS.mono hq1 (fun b hb _ => hb.elim (fun h => h.1) (fun h => ⟨fun hv => by have := HO.out.r.lt b hv; omega, fun ho => by have := HO.out.r.olt b ho; omega⟩))) (new_bel _ _), Shape.below hq2 (new_bel _ _), hs2, bel_alloc hd2 _⟩)
  case rest =>
    obtain ⟨a, c, g, ya, yc, rfl, rfl, rfl, kg, hrL, hry, hgW, hBW⟩ := hcut
    have hOc := HO.out.keep hBW
    have hBc := bel_then HB.out hBW
    have hpW : p < W.heap.size := HO.out.box.lt
    cases bb with
    | false =>
      have HTK : Hid (Ft.took dim ms s ⟨x0, x1, 3, x3, x4, x5, x6, x7, x8, x9, l⟩ = s) := by
        show _ = _
        rw [Ft.took_node (m := ⟨x0, x1, 3, x3, x4, x5, x6, x7, x8, x9, l⟩) (j := 2) ⟨by show (1 : Int) ≤ 3; omega, by show (3 : Int) ≤ 4; omega⟩ rfl, (Nd.tells_false.1 HT.out).1]
      have HE := hid (And.intro (Mv.of_bel (V := V) hBc) hOc.at)
      clear HS HWK hOc hBc kg hrL hry
      go_wp2
      (try simp only [Exit.inBlock, Exit.then]); refine bodyPost_ret (results_none rfl _ _ _) rfl ?_
      rw [HTK.out]
      exact ⟨rfl, HE.out.1, HE.out.2⟩
    | true =>
      have hwk := Nd.tells_true.1 HT.out
      have HTK : Hid (Ft.took dim ms s ⟨x0, x1, 3, x3, x4, x5, x6, x7, x8, x9, l⟩ = { s with ls := s.ls.set 2 L, bag := Ft.put s.bag ⟨y0, y1, y2, y3, y4, y5, y6, y7, y8, y9, yl⟩ }) := by
        show _ = _
        rw [Ft.took_node (m := ⟨x0, x1, 3, x3, x4, x5, x6, x7, x8, x9, l⟩) (j := 2) ⟨by show (1 : Int) ≤ 3; omega, by show (3 : Int) ≤ 4; omega⟩ rfl, hwk]
      have hrt : Wx.right ⟨y0, y1, y2, y3, y4, y5, y6, y7, y8, y9, yl⟩ := Ft.work_right HIM.out.1 HIM.out.2.1 HIM.out.2.2.1 HIM.out.2.2.2 ⟨by show (1 : Int) ≤ 3; omega, by show (3 : Int) ≤ 4; omega⟩ hwk
      have hled : FlAt O V (wc.setCell ⟨p, 6, none⟩ (.slice a lm c)) p dim ms { s with ls := s.ls.set 2 L } q := hOc.led h4 (k := 2) (by omega) hrL
      have hkg : Box (wc.setCell ⟨p, 6, none⟩ (.slice a lm c)) g 100 #[.int .i64 y0, .int .i64 y1, .int .i64 y2, .int .i64 y3, .int .i64 y4, .int .i64 y5, .int .i64 y6, .int .i64 y7, .int .i64 y8, .int .i64 y9, .slice ya yn yc] := kg.other (b2 := p) (i := 6) _ (by omega)
      have hry2 : rowS.rep (wc.setCell ⟨p, 6, none⟩ (.slice a lm c)) (W.heap.size ≤ ·) [.slice ya yn yc] yl := Shape.keep _ hry fun b hb _ => Below.heap_setCell wc _ _ b (fun (e : b = p) => by have h9 : W.heap.size ≤ b := hb; omega)
      have hmv : Mv V V w (wc.setCell ⟨p, 6, none⟩ (.slice a lm c)) := (Mv.of_bel hBc).set HO.out.r.vp _
      have HC : Hid (Calls _ _ _ _ _) := fsend hled y0 y1 y2 y3 y4 y5 y6 y7 y8 y9 ya yn yc yl (Shape.any hry2) ⟨y0, y1, y2, y3, y4, y5, y6, y7, y8, y9, yl⟩ rfl hrt HIM.out.1.few
      have HMV := hid hmv
      have zc := hOc.box.cell 6 rfl
      have fc := hOc.box.free 6
      clear HS HWK hwk hrt hled hry hry2 hmv hOc hBc kg hrL
      go_upto_region 5 with fail
      generalize wc.setCell ⟨p, 6, none⟩ (.slice a lm c) = U at *
      clear zc fc
      have d0 := hkg.cell 0 rfl
      have d1 := hkg.cell 1 rfl
      have d2 := hkg.cell 2 rfl
      have d3 := hkg.cell 3 rfl
      have d4 := hkg.cell 4 rfl
      have d5 := hkg.cell 5 rfl
      have d6 := hkg.cell 6 rfl
      have d7 := hkg.cell 7 rfl
      have d8 := hkg.cell 8 rfl
      have d9 := hkg.cell 9 rfl
      have d10 := hkg.cell 10 rfl
      go_wp2_with (go_at_call 89; refine HC.out.mono ?_; rintro e u5 ⟨rfl, hm5, hat5⟩)
      go_end0
      rw [HTK.out]
      exact ⟨rfl, HMV.out.trans hm5, hat5⟩
set_option maxRecDepth 100000 in
set_option maxHeartbeats 4000000 in
theorem fwork4 {T : List (List Int)} (H : FlAt O V w p dim ms s q) (hI : Ft.Inv dim ms T s) (hR : Md.Right dim ms) (hT : Md.TRight dim T) (hLn : Ft.Lone s) (x0 x1 x3 x4 x5 x6 x7 x8 x9 : Int) (xa : Option Addr) (xn xc : Nat) (l : List Int) (hr : rowS.rep w everywhere [.slice xa xn xc] l) (hm : Ft.Good ms T s.lay ⟨x0, x1, 4, x3, x4, x5, x6, x7, x8, x9, l⟩) :
    Calls Tryz.prog 54 #[.pointer (some ⟨p, 0, none⟩), .agg #[.int .i64 x0, .int .i64 x1, .int .i64 4, .int .i64 x3, .int .i64 x4, .int .i64 x5, .int .i64 x6, .int .i64 x7, .int .i64 x8, .int .i64 x9, .slice xa xn xc]] w fun e w' => e = .returned (.tuple #[]) ∧ Mv V V w w' ∧ FlAt O V w' p dim ms (Ft.took dim ms s ⟨x0, x1, 4, x3, x4, x5, x6, x7, x8, x9, l⟩) q := by
  obtain ⟨la, ln, lc, ha, hn, hc, a0, n0, c0, a1, n1, c1, a2, n2, c2, a3, n3, c3, fa, fn, fc, ta, tn, tc, qa, qn, qc, aa, an, ac, hO⟩ := H.on
  have hxn := (sliceS_len hr).1
  have hl8 : l.length ≤ 8 := hm.1.2.2.2.1
  have hB := new_bel w (.cells #[.int .i64 x0, .int .i64 x1, .int .i64 4, .int .i64 x3, .int .i64 x4, .int .i64 x5, .int .i64 x6, .int .i64 x7, .int .i64 x8, .int .i64 x9, .slice xa xn xc] 100)
  have kx := Box.new w 100 #[.int .i64 x0, .int .i64 x1, .int .i64 4, .int .i64 x3, .int .i64 x4, .int .i64 x5, .int .i64 x6, .int .i64 x7, .int .i64 x8, .int .i64 x9, .slice xa xn xc]
  have hO1 := hO.keep hB
  have hr1 := Shape.below hr hB
  have hsh := Ft.ledger_short hI hR hT hLn 3
  obtain ⟨L, m', bb, ht⟩ := Nd.tells_there dim ms s.e s.h 4 (s.ls.getD 3 []) ⟨x0, x1, 4, x3, x4, x5, x6, x7, x8, x9, l⟩
  obtain ⟨y0, y1, y2, y3, y4, y5, y6, y7, y8, y9, yl⟩ := m'
  obtain ⟨lm, hlm⟩ : ∃ lm, L.length = lm := ⟨_, rfl⟩
  obtain ⟨yn, hyn⟩ : ∃ yn, yl.length = yn := ⟨_, rfl⟩
  have HIM := hid (And.intro hI (And.intro hR (And.intro hT hm)))
  have HT := hid ht
  have h4 := hI.len
  have hpw : w.heap.size ≠ p := by have := hO.box.lt; omega
  have hpsz : Ex.Sized s.h := ⟨by have := hI.map.2.1; omega, fun k hk => by have := Pl.row_len (hI.map.2.2 k hk); omega⟩
  have hlz : ∀ k ∈ ms, Md.LSized k := fun k hk => Md.right_lsized (hR.2.2.2.2 k hk) hR.2.1
  have hln := (sliceS_len hO.r.m).1
  have hln9 : ln ≤ 1000 := by have := hR.2.2.2.1; omega
  clear hr hm hI hR hT hLn hO H ht
  go_enter Tryz.func54, Tryz.ntmps54
  go_upto_region 1 with fail
  generalize w.alloc (.cells #[.int .i64 x0, .int .i64 x1, .int .i64 4, .int .i64 x3, .int .i64 x4, .int .i64 x5, .int .i64 x6, .int .i64 x7, .int .i64 x8, .int .i64 x9, .slice xa xn xc] 100) = W0 at *
  have k2 := fun y : Later W0 => y.cell (kx.cell 2 (v := .int .i64 4) rfl)
  have : Nonempty (Later W0) := Later.there W0
  refine region_later (by kernel_rfl) (by kernel_rfl) ?_
  repeat (go_big_quiet_step (fail))
  refine wpQuiet_nil ?_
  intro y9'
  obtain ⟨W, hb9⟩ := y9'
  have hO2 := hO1.keep hb9
  have kx2 := kx.keep hb9
  have hr2 := Shape.below hr1 hb9
  have hB2 := bel_then hB hb9
  clear k2 hO1 kx hr1 hB
  have HWK : Hid (∀ u, Below W.heap.size W u → Calls Tryz.prog 97 #[.agg #[.int .i64 dim, .slice la ln lc], .agg #[.int .i64 s.e, .slice ha hn hc], .int .i64 4, .slice a3 n3 c3, .agg #[.int .i64 x0, .int .i64 x1, .int .i64 4, .int .i64 x3, .int .i64 x4, .int .i64 x5, .int .i64 x6, .int .i64 x7, .int .i64 x8, .int .i64 x9, .slice xa xn xc]] u fun e w' => Below u.heap.size u w' ∧ ∃ a' c' ya yc, e = .returned (.tuple #[.slice a' lm c', .agg #[.int .i64 y0, .int .i64 y1, .int .i64 y2, .int .i64 y3, .int .i64 y4, .int .i64 y5, .int .i64 y6, .int .i64 y7, .int .i64 y8, .int .i64 y9, .slice ya yn yc], .bool bb]) ∧ ensS.rep w' (fun b => (Out O V b ∧ b < W.heap.size) ∨ u.heap.size ≤ b) [.slice a' lm c'] L ∧ rowS.rep w' (u.heap.size ≤ ·) [.slice ya yn yc] yl) := fun u hu => by
    have hOu := hO2.keep hu
    exact nwork (P := fun b => Out O V b ∧ b < W.heap.size) dim la ln lc ms s.e ha hn hc s.h 4 a3 n3 c3 (s.ls.getD 3 []) x0 x1 4 x3 x4 x5 x6 x7 x8 x9 xa xn xc l u ⟨Shape.any hOu.r.m, hln9, hlz, Shape.any hOu.r.h, hpsz, Shape.below (ensS.mono hO2.r.g3 (fun b hb hlt => ⟨hb, hlt⟩)) hu, fun b hb => Nat.lt_of_lt_of_le hb.2 hu.size, hsh, Shape.below hr2 hu, by omega⟩ L y0 y1 y2 y3 y4 y5 y6 y7 y8 y9 yl bb HT.out lm hlm yn hyn
  have HS : Hid (∀ u, Below W.heap.size W u → u.cell? ⟨p, 0, none⟩ = some (.int .i64 dim) ∧ u.cell? ⟨p, 1, none⟩ = some (.slice la ln lc) ∧ u.cell? ⟨p, 2, none⟩ = some (.int .i64 s.e) ∧ u.cell? ⟨p, 3, none⟩ = some (.slice ha hn hc) ∧ u.cell? ⟨p, 7, none⟩ = some (.slice a3 n3 c3) ∧ u.cell? ⟨w.heap.size, 0, none⟩ = some (.int .i64 x0) ∧ u.cell? ⟨w.heap.size, 1, none⟩ = some (.int .i64 x1) ∧ u.cell? ⟨w.heap.size, 2, none⟩ = some (.int .i64 4) ∧ u.cell? ⟨w.heap.size, 3, none⟩ = some (.int .i64 x3) ∧ u.cell? ⟨w.heap.size, 4, none⟩ = some (.int .i64 x4) ∧ u.cell? ⟨w.heap.size, 5, none⟩ = some (.int .i64 x5) ∧ u.cell? ⟨w.heap.size, 6, none⟩ = some (.int .i64 x6) ∧ u.cell? ⟨w.heap.size, 7, none⟩ = some (.int .i64 x7) ∧ u.cell? ⟨w.heap.size, 8, none⟩ = some (.int .i64 x8) ∧ u.cell? ⟨w.heap.size, 9, none⟩ = some (.int .i64 x9) ∧ u.cell? ⟨w.heap.size, 10, none⟩ = some (.slice xa xn xc)) := fun u hu => by
    have k := hO2.box.keep hu
    have q := kx2.keep hu
    exact ⟨k.cell 0 rfl, k.cell 1 rfl, k.cell 2 rfl, k.cell 3 rfl, k.cell 7 rfl, q.cell 0 rfl, q.cell 1 rfl, q.cell 2 rfl, q.cell 3 rfl, q.cell 4 rfl, q.cell 5 rfl, q.cell 6 rfl, q.cell 7 rfl, q.cell 8 rfl, q.cell 9 rfl, q.cell 10 rfl⟩
  have HO := hid hO2
  have HB := hid hB2
  clear hO2 kx2 hr2 hB2 hlz hpsz hsh hln hln9
  go_upto_region 2 with fail
  go_cut [5, 6, 7] from 8 (fun v5 v6 v7 wx => ∃ a c g ya yc, v5 = .slice a lm c ∧ v6 = .pointer (some ⟨g, 0, none⟩) ∧ v7 = .bool bb ∧ Box wx g 100 #[.int .i64 y0, .int .i64 y1, .int .i64 y2, .int .i64 y3, .int .i64 y4, .int .i64 y5, .int .i64 y6, .int .i64 y7, .int .i64 y8, .int .i64 y9, .slice ya yn yc] ∧ ensS.rep wx (Out O V) [.slice a lm c] L ∧ rowS.rep wx (W.heap.size ≤ ·) [.slice ya yn yc] yl ∧ W.heap.size ≤ g ∧ Below W.heap.size W wx)
  case first =>
    rename_i Jx Kx hRJ hMK
    have hD : Below W.heap.size W W.drew := (Below.refl _ W).drew
    have hDA : Below W.heap.size W (W.drew.alloc (.cells #[.int .i64 0, .int .i64 0, .int .i64 0, .int .i64 0, .int .i64 0, .int .i64 0, .int .i64 0, .int .i64 0, .int .i64 0, .int .i64 0, .slice none 0 0] 100)) := bel_alloc hD _
    obtain ⟨i1, i2, i3, i4, i5, i6, i7, i8, i9, i10, i11, i12, i13, i14, i15, i16⟩ := HS.out W (Below.refl _ _)
    have kM0 : Box (W.drew.alloc (.cells #[.int .i64 0, .int .i64 0, .int .i64 0, .int .i64 0, .int .i64 0, .int .i64 0, .int .i64 0, .int .i64 0, .int .i64 0, .int .i64 0, .slice none 0 0] 100)) W.heap.size 100 #[.int .i64 0, .int .i64 0, .int .i64 0, .int .i64 0, .int .i64 0, .int .i64 0, .int .i64 0, .int .i64 0, .int .i64 0, .int .i64 0, .slice none 0 0] := Box.new W.drew _ _
    go_region_held3 (fun u => u.cell? ⟨p, 0, none⟩ = some (.int .i64 dim) ∧ u.cell? ⟨p, 1, none⟩ = some (.slice la ln lc) ∧ u.cell? ⟨p, 2, none⟩ = some (.int .i64 s.e) ∧ u.cell? ⟨p, 3, none⟩ = some (.slice ha hn hc) ∧ u.cell? ⟨p, 7, none⟩ = some (.slice a3 n3 c3) ∧ u.cell? ⟨w.heap.size, 0, none⟩ = some (.int .i64 x0) ∧ u.cell? ⟨w.heap.size, 1, none⟩ = some (.int .i64 x1) ∧ u.cell? ⟨w.heap.size, 2, none⟩ = some (.int .i64 4) ∧ u.cell? ⟨w.heap.size, 3, none⟩ = some (.int .i64 x3) ∧ u.cell? ⟨w.heap.size, 4, none⟩ = some (.int .i64 x4) ∧ u.cell? ⟨w.heap.size, 5, none⟩ = some (.int .i64 x5) ∧ u.cell? ⟨w.heap.size, 6, none⟩ = some (.int .i64 x6) ∧ u.cell? ⟨w.heap.size, 7, none⟩ = some (.int .i64 x7) ∧ u.cell? ⟨w.heap.size, 8, none⟩ = some (.int .i64 x8) ∧ u.cell? ⟨w.heap.size, 9, none⟩ = some (.int .i64 x9) ∧ u.cell? ⟨w.heap.size, 10, none⟩ = some (.slice xa xn xc))
      (first
        | exact HS.out _ (by first | with_reducible assumption | with_reducible exact Below.refl _ _ | (with_reducible refine bel_alloc ?_ _; with_reducible assumption) | (with_reducible refine bel_all11 ?_ ?_ _ _ _ _ _ _ _ _ _ _ _; (first | with_reducible assumption | (with_reducible refine bel_alloc ?_ _; with_reducible assumption)); omega))
        | go_keep)
      (first
        | (go_at_call 97; refine (HWK.out _ (by first | exact hDA | exact hD)).mono ?_; rintro e u2 ⟨hb2, aw, cw, ya, yc, rfl, hr2, hy2⟩; have hd2 : Below W.heap.size W u2 := (by first | exact bel_then hDA hb2 | exact bel_then hD hb2); have hs2 := hd2.size; (try (have kM2 := kM0.keep hb2; have c0 := kM2.cell 0 rfl; have c1 := kM2.cell 1 rfl; have c2 := kM2.cell 2 rfl; have c3 := kM2.cell 3 rfl; have c4 := kM2.cell 4 rfl; have c5 := kM2.cell 5 rfl; have c6 := kM2.cell 6 rfl; have c7 := kM2.cell 7 rfl; have c8 := kM2.cell 8 rfl; have c9 := kM2.cell 9 rfl; have c10 := kM2.cell 10 rfl; have f0 := kM2.free 0; have f1 := kM2.free 1; have f2 := kM2.free 2; have f3 := kM2.free 3; have f4 := kM2.free 4; have f5 := kM2.free 5; have f6 := kM2.free 6; have f7 := kM2.free 7; have f8 := kM2.free 8; have f9 := kM2.free 9; have f10 := kM2.free 10)); (have kM4 := Box.new u2 100 #[.int .i64 0, .int .i64 0, .int .i64 0, .int .i64 0, .int .i64 0, .int .i64 0, .int .i64 0, .int .i64 0, .int .i64 0, .int .i64 0, .slice none 0 0]; have d0 := kM4.cell 0 rfl; have d1 := kM4.cell 1 rfl; have d2 := kM4.cell 2 rfl; have d3 := kM4.cell 3 rfl; have d4 := kM4.cell 4 rfl; have d5 := kM4.cell 5 rfl; have d6 := kM4.cell 6 rfl; have d7 := kM4.cell 7 rfl; have d8 := kM4.cell 8 rfl; have d9 := kM4.cell 9 rfl; have d10 := kM4.cell 10 rfl; have e0 := kM4.free 0; have e1 := kM4.free 1; have e2 := kM4.free 2; have e3 := kM4.free 3; have e4 := kM4.free 4; have e5 := kM4.free 5; have e6 := kM4.free 6; have e7 := kM4.free 7; have e8 := kM4.free 8; have e9 := kM4.free 9; have e10 := kM4.free 10)))
    all_goals
      refine hMK _ _ (Met.intro (hRJ _ _ ?_))
      (repeat apply Exists.intro)
      refine ⟨?_, rfl⟩
    all_goals
      first
        | (have hx := kM2.all11 (.int .i64 y0) (.int .i64 y1) (.int .i64 y2) (.int .i64 y3) (.int .i64 y4) (.int .i64 y5) (.int .i64 y6) (.int .i64 y7) (.int .i64 y8) (.int .i64 y9) (.slice ya yn yc); have hq1 : ensS.rep u2 (fun b => (Out O V b ∧ b < W.heap.size) ∨ W.heap.size < b) [.slice aw lm cw] L := ensS.mono hr2 (fun b hb _ => hb.elim .inl (fun h => .inr (by simp at h; exact h))); have hq2 : rowS.rep u2 (W.heap.size < ·) [.slice ya yn yc] yl := rowS.mono hy2 (fun b hb _ => by have h9 := hb; simp at h9; exact h9); exact ⟨aw, cw, W.heap.size, ya, yc, rfl, rfl, rfl, hx, ensS.mono (rep_all11 hq1 (fun b hb => hb.elim (fun h => by have := h.2; omega) (fun h => by omega)) _ _ _ _ _ _ _ _ _ _ _) (fun b hb _ => hb.elim (fun h => h.1) (fun h => ⟨fun hv => by have := HO.out.r.lt b hv; omega, fun ho => by have := HO.out.r.olt b ho; omega⟩)), rowS.mono (rep_all11 hq2 (fun b hb => by have h9 : W.heap.size < b := hb; omega) _ _ _ _ _ _ _ _ _ _ _) (fun b hb _ => Nat.le_of_lt hb), Nat.le_refl _, bel_all11 hd2 (Nat.le_refl _) _ _ _ _ _ _ _ _ _ _ _⟩)
        | (have hq1 : ensS.rep u2 (fun b => (Out O V b ∧ b < W.heap.size) ∨ W.heap.size ≤ b) [.slice aw lm cw] L := ensS.mono hr2 (fun b hb _ => hb.elim .inl (fun h => .inr (by simp at h; omega))); have hq2 : rowS.rep u2 (W.heap.size ≤ ·) [.slice ya yn yc] yl := rowS.mono hy2 (fun b hb _ => by have h9 := hb; simp at h9; omega); exact ⟨aw, cw, u2.heap.size, ya, yc, rfl, rfl, rfl, Box.new _ _ _, Shape.below (ensS.mono hq1 (fun b hb _ => hb.elim (fun h => h.1) (fun h => ⟨fun hv => by have := HO.out.r.lt b hv; omega, fun ho => by have := HO.out.r.olt b ho; omega⟩))) (new_bel _ _), Shape.below hq2 (new_bel _ _), hs2, bel_alloc hd2 _⟩)
  case rest =>
    obtain ⟨a, c, g, ya, yc, rfl, rfl, rfl, kg, hrL, hry, hgW, hBW⟩ := hcut
    have hOc := HO.out.keep hBW
    have hBc := bel_then HB.out hBW
    have hpW : p < W.heap.size := HO.out.box.lt
    cases bb with
    | false =>
      have HTK : Hid (Ft.took dim ms s ⟨x0, x1, 4, x3, x4, x5, x6, x7, x8, x9, l⟩ = s) := by
        show _ = _
        rw [Ft.took_node (m := ⟨x0, x1, 4, x3, x4, x5, x6, x7, x8, x9, l⟩) (j := 3) ⟨by show (1 : Int) ≤ 4; omega, by show (4 : Int) ≤ 4; omega⟩ rfl, (Nd.tells_false.1 HT.out).1]
      have HE := hid (And.intro (Mv.of_bel (V := V) hBc) hOc.at)
      clear HS HWK hOc hBc kg hrL hry
      go_wp2
      (try simp only [Exit.inBlock, Exit.then]); refine bodyPost_ret (results_none rfl _ _ _) rfl ?_
      rw [HTK.out]
      exact ⟨rfl, HE.out.1, HE.out.2⟩
    | true =>
      have hwk := Nd.tells_true.1 HT.out
      have HTK : Hid (Ft.took dim ms s ⟨x0, x1, 4, x3, x4, x5, x6, x7, x8, x9, l⟩ = { s with ls := s.ls.set 3 L, bag := Ft.put s.bag ⟨y0, y1, y2, y3, y4, y5, y6, y7, y8, y9, yl⟩ }) := by
        show _ = _
        rw [Ft.took_node (m := ⟨x0, x1, 4, x3, x4, x5, x6, x7, x8, x9, l⟩) (j := 3) ⟨by show (1 : Int) ≤ 4; omega, by show (4 : Int) ≤ 4; omega⟩ rfl, hwk]
      have hrt : Wx.right ⟨y0, y1, y2, y3, y4, y5, y6, y7, y8, y9, yl⟩ := Ft.work_right HIM.out.1 HIM.out.2.1 HIM.out.2.2.1 HIM.out.2.2.2 ⟨by show (1 : Int) ≤ 4; omega, by show (4 : Int) ≤ 4; omega⟩ hwk
      have hled : FlAt O V (wc.setCell ⟨p, 7, none⟩ (.slice a lm c)) p dim ms { s with ls := s.ls.set 3 L } q := hOc.led h4 (k := 3) (by omega) hrL
      have hkg : Box (wc.setCell ⟨p, 7, none⟩ (.slice a lm c)) g 100 #[.int .i64 y0, .int .i64 y1, .int .i64 y2, .int .i64 y3, .int .i64 y4, .int .i64 y5, .int .i64 y6, .int .i64 y7, .int .i64 y8, .int .i64 y9, .slice ya yn yc] := kg.other (b2 := p) (i := 7) _ (by omega)
      have hry2 : rowS.rep (wc.setCell ⟨p, 7, none⟩ (.slice a lm c)) (W.heap.size ≤ ·) [.slice ya yn yc] yl := Shape.keep _ hry fun b hb _ => Below.heap_setCell wc _ _ b (fun (e : b = p) => by have h9 : W.heap.size ≤ b := hb; omega)
      have hmv : Mv V V w (wc.setCell ⟨p, 7, none⟩ (.slice a lm c)) := (Mv.of_bel hBc).set HO.out.r.vp _
      have HC : Hid (Calls _ _ _ _ _) := fsend hled y0 y1 y2 y3 y4 y5 y6 y7 y8 y9 ya yn yc yl (Shape.any hry2) ⟨y0, y1, y2, y3, y4, y5, y6, y7, y8, y9, yl⟩ rfl hrt HIM.out.1.few
      have HMV := hid hmv
      have zc := hOc.box.cell 7 rfl
      have fc := hOc.box.free 7
      clear HS HWK hwk hrt hled hry hry2 hmv hOc hBc kg hrL
      go_upto_region 5 with fail
      generalize wc.setCell ⟨p, 7, none⟩ (.slice a lm c) = U at *
      clear zc fc
      have d0 := hkg.cell 0 rfl
      have d1 := hkg.cell 1 rfl
      have d2 := hkg.cell 2 rfl
      have d3 := hkg.cell 3 rfl
      have d4 := hkg.cell 4 rfl
      have d5 := hkg.cell 5 rfl
      have d6 := hkg.cell 6 rfl
      have d7 := hkg.cell 7 rfl
      have d8 := hkg.cell 8 rfl
      have d9 := hkg.cell 9 rfl
      have d10 := hkg.cell 10 rfl
      go_wp2_with (go_at_call 89; refine HC.out.mono ?_; rintro e u5 ⟨rfl, hm5, hat5⟩)
      go_end0
      rw [HTK.out]
      exact ⟨rfl, HMV.out.trans hm5, hat5⟩
end

end Go.Proofs.YtokfcjgfpchffaaGreatDoor
