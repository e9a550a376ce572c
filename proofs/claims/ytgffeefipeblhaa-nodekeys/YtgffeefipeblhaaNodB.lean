/- What worked and canWork of package node do when called. -/
import Derived.Test.YtgffeefipeblhaaNodA
import Derived.Test.YtgffeefipeblhaaJa
namespace Go.Proofs.Ytgffeefipeblhaa
open Go.ChangeShapes Go.WideShapes Go.ChangeAt Go.RowKit

namespace Nd
/-- What is told of a key for which z would be worked out: the row y, the ledger L behind. -/
def Works (l : List En) (k : Ky) (z : List Int) (L : List En) (y : List Int) : Prop := (got l k = some y ∧ L = l) ∨ (got l k = none ∧ y = z ∧ L = l ++ [en k y])
theorem works_there (l : List En) (k : Ky) (z : List Int) : ∃ L y, Works l k z L y := by
  cases h : got l k with
  | some y => exact ⟨l, y, .inl ⟨h, rfl⟩⟩
  | none => exact ⟨_, z, .inr ⟨h, rfl, rfl⟩⟩
/-- May the node work on it (the map and the model aside)? -/
def Can (dim : Int) (ms : List Ly) (node : Int) (a : Wx.Msg) : Prop := Wx.right a ∧ a.kind = 1 ∧ a.to = node ∧ a.layer < (ms.length : Int) ∧ a.expert < ((lyOf ms a).2.1.length : Int) ∧ Md.TRight dim [a.vec]
theorem fits_iff {dim : Int} {ms : List Ly} {e : Int} {h : List (List Int)} {node : Int} {a : Wx.Msg} : Fits dim ms e h node a ↔ Md.Right dim ms ∧ Pl.Right e h ∧ Can dim ms node a := Iff.rfl
theorem first_of_got {l : List En} {k : Ky} {y : List Int} (h : got l k = some y) : ∃ i, Dx.First l k i ∧ (l.getD i en0).2.1 = y := by
  rcases Dx.first_or_no l k with h1 | ⟨i, h1⟩
  · rw [got_no h1] at h; cases h
  · refine ⟨i, h1, ?_⟩
    rw [got_first h1] at h
    exact Option.some.inj h
end Nd

set_option maxRecDepth 100000 in
set_option maxHeartbeats 1000000 in
theorem nworked {P : Nat → Prop} (ai : Option Addr) (ni ci : Nat) (ao : Option Addr) (no co : Nat) (mi mo : List (List Int)) (la : Option Addr) (ln lc : Nat) (l : List En) (x0 x1 x2 x3 x4 x5 x6 x7 x8 x9 : Int) (xa : Option Addr) (xn xc : Nat) (v : List Int) (w : World)
    (hX : Exp w ai ni ci ao no co mi mo) (hi : Ex.Sized mi) (ho : Ex.Sized mo) (hl : ensS.rep w P [.slice la ln lc] l) (hP : ∀ b, P b → b < w.heap.size) (hs : Dx.Short l) (hv : rowS.rep w everywhere [.slice xa xn xc] v) (hxn : xn ≤ 1000) (hR : Ex.Right mi mo xn)
    (L : List En) (y : List Int) (hw : Nd.Works l (ky x4 x5 x6 x7) (Ex.run mi mo v) L y) (m : Nat) (hm : L.length = m) (ny : Nat) (hny : y.length = ny) :
    Calls Try.prog 22 #[.agg #[.slice ai ni ci, .slice ao no co], .slice la ln lc, .agg #[.int .i64 x0, .int .i64 x1, .int .i64 x2, .int .i64 x3, .int .i64 x4, .int .i64 x5, .int .i64 x6, .int .i64 x7, .int .i64 x8, .int .i64 x9, .slice xa xn xc]] w fun e w' => Below w.heap.size w w' ∧ ∃ a' c' b' d', e = .returned (.tuple #[.slice a' m c', .slice b' ny d']) ∧ ensS.rep w' (fun b => P b ∨ w.heap.size ≤ b) [.slice a' m c'] L ∧ rowS.rep w' (w.heap.size ≤ ·) [.slice b' ny d'] y := by
  have hll := (sliceS_len hl).1
  have hB := bel_alloc (bel_two w (.cells #[.slice ai ni ci, .slice ao no co] 63) (.cells #[.int .i64 x0, .int .i64 x1, .int .i64 x2, .int .i64 x3, .int .i64 x4, .int .i64 x5, .int .i64 x6, .int .i64 x7, .int .i64 x8, .int .i64 x9, .slice xa xn xc] 31)) (.cells #[.int .i64 x4, .int .i64 x5, .int .i64 x6, .int .i64 x7] 37)
  have ke := ((Box.new w 63 #[.slice ai ni ci, .slice ao no co]).keep (new_bel _ (.cells #[.int .i64 x0, .int .i64 x1, .int .i64 x2, .int .i64 x3, .int .i64 x4, .int .i64 x5, .int .i64 x6, .int .i64 x7, .int .i64 x8, .int .i64 x9, .slice xa xn xc] 31))).keep (new_bel _ (.cells #[.int .i64 x4, .int .i64 x5, .int .i64 x6, .int .i64 x7] 37))
  have kx := (Box.new (w.alloc (.cells #[.slice ai ni ci, .slice ao no co] 63)) 31 #[.int .i64 x0, .int .i64 x1, .int .i64 x2, .int .i64 x3, .int .i64 x4, .int .i64 x5, .int .i64 x6, .int .i64 x7, .int .i64 x8, .int .i64 x9, .slice xa xn xc]).keep (new_bel _ (.cells #[.int .i64 x4, .int .i64 x5, .int .i64 x6, .int .i64 x7] 37))
  have kk := Box.new ((w.alloc (.cells #[.slice ai ni ci, .slice ao no co] 63)).alloc (.cells #[.int .i64 x0, .int .i64 x1, .int .i64 x2, .int .i64 x3, .int .i64 x4, .int .i64 x5, .int .i64 x6, .int .i64 x7, .int .i64 x8, .int .i64 x9, .slice xa xn xc] 31)) 37 #[.int .i64 x4, .int .i64 x5, .int .i64 x6, .int .i64 x7]
  have e1 : (w.alloc (.cells #[.slice ai ni ci, .slice ao no co] 63)).heap.size = w.heap.size + 1 := by simp
  have e2 : ((w.alloc (.cells #[.slice ai ni ci, .slice ao no co] 63)).alloc (.cells #[.int .i64 x0, .int .i64 x1, .int .i64 x2, .int .i64 x3, .int .i64 x4, .int .i64 x5, .int .i64 x6, .int .i64 x7, .int .i64 x8, .int .i64 x9, .slice xa xn xc] 31)).heap.size = w.heap.size + 2 := by simp
  rw [e1] at kx
  rw [e2] at kk
  have hX1 := hX.below hB
  have hl1 := Shape.below hl hB
  have hv1 := Shape.below hv hB
  have HX : Hid (Exp _ ai ni ci ao no co mi mo) := hX1
  have HLL : Hid (l.length = ln) := hll
  have HI : Hid (Ex.Sized mi) := hi
  have HO : Hid (Ex.Sized mo) := ho
  have HS : Hid (Dx.Short l) := hs
  have HP : Hid (∀ b, P b → b < w.heap.size) := hP
  have HR : Hid (Ex.Right mi mo xn) := hR
  have HRL : Hid ((Ex.run mi mo v).length = xn) := by
    show _ = _
    exact Ex.run_length v hR
  have HM : Hid (L.length = m) := hm
  have HNY : Hid (y.length = ny) := hny
  clear hX hi ho hl hP hs hv hR hm hny hX1 e1 e2 hll
  rcases hw with ⟨hg, hL⟩ | ⟨hg, hy, hL⟩
  · obtain ⟨i, hfi, hiv⟩ := Nd.first_of_got hg
    have hmn : m = ln := by rw [← HM.out, hL, HLL.out]
    subst hmn
    subst hL
    have HF : Hid (Dx.First L (ky x4 x5 x6 x7) i ∧ (L.getD i en0).2.1 = y) := ⟨hfi, hiv⟩
    clear hg hfi hiv
    go_enter Try.func22, Try.ntmps22
    go_upto_region 2 with fail
    generalize World.alloc (World.alloc (World.alloc w _) _) (.cells #[.int .i64 x4, .int .i64 x5, .int .i64 x6, .int .i64 x7] 37) = W at *
    have hc : Hid (Calls _ _ _ _ _) := lfind_at la m lc L x4 x5 x6 x7 W (Shape.any hl1) HS.out i HF.out.1 y HF.out.2 ny HNY.out
    have k0 := kk.cell 0 rfl
    have k1 := kk.cell 1 rfl
    have k2 := kk.cell 2 rfl
    have k3 := kk.cell 3 rfl
    go_wp2_with fail
    refine hc.out.mono ?_
    rintro e u1 ⟨hb1, a1, c1, rfl, hr1⟩
    have hB1 := bel_then hB hb1
    have hcc : Hid (Calls _ _ _ _ _) := ncopied la m lc L u1 (Shape.below hl1 hb1) (fun b hb => by have := HP.out b hb; have := hB1.size; omega) HS.out
    clear hc k0 k1 k2 k3 ke kx kk hl1 hv1 HX
    go_wp2_with (go_at_call 19; refine hcc.out.mono ?_; rintro e u2 ⟨hb2, a2, c2, rfl, hr2⟩)
    go_ret2
    exact ⟨bel_then hB1 hb2, a2, c2, a1, c1, rfl, ensS.mono hr2 (fun b hb _ => hb.elim .inl fun h => .inr (Nat.le_trans hB1.size h)), rowS.mono (Shape.below hr1 hb2) fun b hb _ => Nat.le_trans hB.size hb⟩
  · subst hy
    have hny2 : ny = xn := by rw [← HNY.out, HRL.out]
    subst hny2
    have hmn : ln + 1 = m := by rw [← HM.out, hL, List.length_append, HLL.out]; rfl
    have HNO : Hid (Dx.No l (ky x4 x5 x6 x7)) := Nd.no_of_got hg
    have HL : Hid (l ++ [en (ky x4 x5 x6 x7) (Ex.run mi mo v)] = L) := hL.symm
    have HMN : Hid (ln + 1 = m) := hmn
    clear hg hL hmn
    generalize hyy : Ex.run mi mo v = y at *
    have HYY : Hid (Ex.run mi mo v = y) := hyy
    clear hyy
    go_enter Try.func22, Try.ntmps22
    go_upto_region 2 with fail
    generalize World.alloc (World.alloc (World.alloc w _) _) (.cells #[.int .i64 x4, .int .i64 x5, .int .i64 x6, .int .i64 x7] 37) = W at *
    have hc : Hid (Calls _ _ _ _ _) := lfind_no la ln lc l x4 x5 x6 x7 W (Shape.any hl1) (by have := HS.out.1; have := HLL.out; omega) HNO.out
    have k0 := kk.cell 0 rfl
    have k1 := kk.cell 1 rfl
    have k2 := kk.cell 2 rfl
    have k3 := kk.cell 3 rfl
    go_wp2_with fail
    refine hc.out.mono ?_
    rintro e u1 ⟨rfl, hb1⟩
    have hB1 := bel_then hB hb1
    have ke1 := ke.keep hb1
    have kx1 := kx.keep hb1
    have kk1 := kk.keep hb1
    have hl2 := Shape.below hl1 hb1
    have hcx : Hid (Calls _ _ _ _ _) := xrun_at ai ni ci ao no co mi mo xa ny xc v u1 (HX.out.below hb1) HI.out HO.out (Row.of_rep (Shape.below hv1 hb1)) (by omega)
    clear hc k0 k1 k2 k3 ke kx kk hl1 hv1 HX hb1 hB
    have p0 := ke1.cell 0 rfl
    have p1 := ke1.cell 1 rfl
    have p10 := kx1.cell 10 rfl
    go_wp2_with fail
    refine hcx.out.mono ?_
    rintro e u2 ⟨hg, hb2⟩
    obtain ⟨a2, c2, rfl, hr2⟩ := hg.yes HR.out
    rw [HYY.out] at hr2
    have hB2 := bel_then hB1 hb2
    have kk2 := kk1.keep hb2
    have hl3 := Shape.below hl2 hb2
    have hce : Hid (Calls _ _ _ _ _) := lenter_to la ln lc l x4 x5 x6 x7 a2 ny c2 y u2 (Shape.any hl3) HS.out (Shape.any hr2) (by omega) HNO.out m HMN.out L HL.out
    have HZ1 : Hid (w.heap.size ≤ u1.heap.size) := hB1.size
    clear hcx p0 p1 p10 ke1 kx1 kk1 hl2 hB1 hg hb2
    have k0 := kk2.cell 0 rfl
    have k1 := kk2.cell 1 rfl
    have k2 := kk2.cell 2 rfl
    have k3 := kk2.cell 3 rfl
    go_wp2_with (go_at_call 42; refine hce.out.mono ?_; rintro e u3 ⟨hb3, a3, c3, rfl, hr3⟩)
    go_ret2
    exact ⟨bel_then hB2 hb3, a3, c3, a2, c2, rfl, ensS.mono hr3 (fun b hb _ => .inr (Nat.le_trans hB2.size hb)), rowS.mono (Shape.below hr2 hb3) fun b hb _ => Nat.le_trans HZ1.out hb⟩

end Go.Proofs.Ytgffeefipeblhaa
