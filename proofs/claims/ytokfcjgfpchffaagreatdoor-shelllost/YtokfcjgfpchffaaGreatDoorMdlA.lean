/- What the functions of package model that only read, and the document's Small, Right, Tokens and Same, do when called. -/
import Derived.Test.YtokfcjgfpchffaaGreatDoorExpA
import Derived.Test.YtokfcjgfpchffaaGreatDoorKb
namespace Go.Proofs.YtokfcjgfpchffaaGreatDoor
open Go.ChangeShapes Go.WideShapes Go.ChangeAt Go.RowKit

/-- What the walks are not to look at. -/
theorem hid {p : Prop} (h : p) : Hid p := h

/-! ### Layers and experts by their letters -/
section
variable {w : World} {F : Nat → Prop} {a : Option Addr} {n c : Nat}
theorem ly_there {ls : List Ly} (h : lysS.rep w F [.slice a n c] ls) {j : Nat} (hj : j < n) :
    ∃ b off ag ng cg ax nx cx g xs cap, a = some ⟨b, off, none⟩ ∧ b < w.heap.size ∧ ls.getD j ly0 = (g, xs, cap, ()) ∧ matS.rep w F [.slice ag ng cg] g ∧ xpsS.rep w F [.slice ax nx cx] xs ∧
      w.cell? ⟨b, off + j * 3, none⟩ = some (.slice ag ng cg) ∧ w.cell? ⟨b, off + j * 3 + 1, none⟩ = some (.slice ax nx cx) ∧ w.cell? ⟨b, off + j * 3 + 2, none⟩ = some (.int .i64 cap) := by
  obtain ⟨b, off, ag, ng, cg, ax, nx, cx, ha, _, hb, hg, hx, c0, c1, c2⟩ := ly_at h hj
  exact ⟨b, off, ag, ng, cg, ax, nx, cx, (ls.getD j ly0).1, (ls.getD j ly0).2.1, (ls.getD j ly0).2.2.1, ha, hb, rfl, hg, hx, c0, c1, c2⟩
theorem xp_there {xs : List Xp} (h : xpsS.rep w F [.slice a n c] xs) {j : Nat} (hj : j < n) :
    ∃ b off ai ni ci ao no co mi mo, a = some ⟨b, off, none⟩ ∧ b < w.heap.size ∧ xs.getD j xp0 = (mi, mo, ()) ∧ matS.rep w F [.slice ai ni ci] mi ∧ matS.rep w F [.slice ao no co] mo ∧
      w.cell? ⟨b, off + j * 2, none⟩ = some (.slice ai ni ci) ∧ w.cell? ⟨b, off + j * 2 + 1, none⟩ = some (.slice ao no co) := by
  obtain ⟨b, off, ai, ni, ci, ao, no, co, ha, _, hb, h1, h2, c0, c1⟩ := xp_at h hj
  exact ⟨b, off, ai, ni, ci, ao, no, co, (xs.getD j xp0).1, (xs.getD j xp0).2.1, ha, hb, rfl, h1, h2, c0, c1⟩
end

namespace Md
/-- No more than can be walked. -/
def LSized (l : Ly) : Prop := l.2.1.length ≤ 1000 ∧ Ex.Sized l.1 ∧ ∀ x ∈ l.2.1, Ex.Sized x.1 ∧ Ex.Sized x.2.1
theorem right_sized {m : List (List Int)} {r c : Int} (h : Mx.Right m r c) (h1 : r ≤ 1000) (h2 : c ≤ 1000) : Ex.Sized m := ⟨by have := h.1; omega, fun l hl => by have := (h.2 l hl).1; omega⟩
theorem right_lsized {l : Ly} {dim : Int} (h : LRight l dim) (hd : dim ≤ 8) : LSized l := by
  obtain ⟨h1, h2, h3, h4, h5, h6⟩ := h
  refine ⟨by omega, right_sized h3 (by omega) (by omega), fun x hx => ?_⟩
  obtain ⟨a1, a2, a3, a4⟩ := h6 x hx
  exact ⟨right_sized a3 (by omega) (by omega), right_sized a4 (by omega) (by omega)⟩
theorem lright_iff {g : List (List Int)} {xs : List Xp} {cap dim : Int} {nx : Nat} (h : xs.length = nx) : LRight (g, xs, cap, ()) dim ↔ (1 ≤ (nx : Int) ∧ (nx : Int) ≤ 8) ∧ (1 ≤ cap ∧ cap ≤ 32) ∧ Mx.Right g (nx : Int) dim ∧ ∀ x ∈ xs, Ex.Right x.1 x.2.1 dim := by
  subst h
  constructor
  · rintro ⟨h1, h2, h3, h4, h5, h6⟩
    have h1' : 1 ≤ xs.length := h1
    have h2' : xs.length ≤ 8 := h2
    exact ⟨⟨by omega, by omega⟩, ⟨h4, h5⟩, h3, h6⟩
  · rintro ⟨⟨h1, h2⟩, ⟨h4, h5⟩, h3, h6⟩
    exact ⟨by show 1 ≤ xs.length; omega, by show xs.length ≤ 8; omega, h3, h4, h5, h6⟩
theorem right_iff {ls : List Ly} {dim : Int} {n : Nat} (h : ls.length = n) : Right dim ls ↔ (1 ≤ dim ∧ dim ≤ 8) ∧ (1 ≤ (n : Int) ∧ (n : Int) ≤ 4) ∧ ∀ l ∈ ls, LRight l dim := by
  subst h
  constructor
  · rintro ⟨h1, h2, h3, h4, h5⟩; exact ⟨⟨h1, h2⟩, ⟨by omega, by omega⟩, h5⟩
  · rintro ⟨⟨h1, h2⟩, ⟨h3, h4⟩, h5⟩; exact ⟨h1, h2, by omega, by omega, h5⟩
theorem tright_iff {ts : List (List Int)} {dim : Int} {n : Nat} (h : ts.length = n) : TRight dim ts ↔ (1 ≤ (n : Int) ∧ (n : Int) ≤ 16) ∧ Mx.Right ts (n : Int) dim := by
  subst h
  constructor
  · rintro ⟨h1, h2, h3⟩; exact ⟨⟨by omega, by omega⟩, h3⟩
  · rintro ⟨⟨h1, h2⟩, h3⟩; exact ⟨by omega, by omega, h3⟩
end Md

/-! ### The program's -/
set_option maxRecDepth 100000 in
theorem isFrom (n m : Int) (w : World) : Calls Tryz.prog 75 #[.int .i64 n, .int .i64 m] w fun e w' => Says e (1 ≤ n ∧ n ≤ m) ∧ w' = w := by
  by_cases h1 : 1 ≤ n
  · by_cases h2 : n ≤ m
    · go_enter Tryz.func75, Tryz.ntmps75
      go_wp2
      go_ret
      exact ⟨Says.yes ⟨h1, h2⟩, rfl⟩
    · go_enter Tryz.func75, Tryz.ntmps75
      go_wp2
      go_ret
      exact ⟨Says.no fun h => by omega, rfl⟩
  · go_enter Tryz.func75, Tryz.ntmps75
    go_wp2
    go_ret
    exact ⟨Says.no fun h => by omega, rfl⟩

set_option maxRecDepth 100000 in
set_option maxHeartbeats 1000000 in
theorem lright (ag : Option Addr) (ng cg : Nat) (ax : Option Addr) (nx cx : Nat) (g : List (List Int)) (xs : List Xp) (cap dim : Int) (w : World) (hg : matS.rep w everywhere [.slice ag ng cg] g) (hx : xpsS.rep w everywhere [.slice ax nx cx] xs) (hz : Md.LSized (g, xs, cap, ())) :
    Calls Tryz.prog 76 #[.agg #[.slice ag ng cg, .slice ax nx cx, .int .i64 cap], .int .i64 dim] w fun e w' => Says e (Md.LRight (g, xs, cap, ()) dim) ∧ Below w.heap.size w w' := by
  have hlg := (sliceS_len hg).1
  have hlx := (sliceS_len hx).1
  have hB := new_bel w (.cells #[.slice ag ng cg, .slice ax nx cx, .int .i64 cap] 37)
  have HR := hid (Md.lright_iff (g := g) (cap := cap) (dim := dim) hlx)
  have HZ : Hid (xs.length ≤ 1000 ∧ Ex.Sized g ∧ ∀ x ∈ xs, Ex.Sized x.1 ∧ Ex.Sized x.2.1) := hz
  have HL : Hid (xs.length = nx) := hlx
  have hng : ng ≤ 100000 := by have := hz.2.1.1; have h7 : g.length ≤ 100000 := this; omega
  have hnx : nx ≤ 1000 := by have := hz.1; have h7 : xs.length ≤ 1000 := this; omega
  have hg1 := Shape.below hg hB
  have HX : Hid (xpsS.rep w everywhere [.slice ax nx cx] xs) := hx
  clear hg hx hz hlg hlx
  generalize Md.LRight (g, xs, cap, ()) dim = R at *
  go_enter Tryz.func76, Tryz.ntmps76
  go_wp2_with fail
  refine by_says (isFrom nx 8 _) (fun h1 => ?_) (fun h1 => ?_)
  case refine_2 =>
    go_wp2
    go_ret
    exact ⟨Says.no fun h => h1 (HR.out.1 h).1, hB⟩
  have H1 : Hid (1 ≤ (nx : Int) ∧ (nx : Int) ≤ 8) := h1
  clear h1
  go_wp2_with fail
  refine by_says (isFrom cap 32 _) (fun h1 => ?_) (fun h1 => ?_)
  case refine_2 =>
    go_wp2
    go_ret
    exact ⟨Says.no fun h => h1 (HR.out.1 h).2.1, hB⟩
  have H2 : Hid (1 ≤ cap ∧ cap ≤ 32) := h1
  clear h1
  go_wp2_with fail
  refine by_says (right ag ng cg g everywhere nx dim _ hg1 hng HZ.out.2.1.2) (fun h1 => ?_) (fun h1 => ?_)
  case refine_2 =>
    go_wp2
    go_ret
    exact ⟨Says.no fun h => h1 (HR.out.1 h).2.2.1, hB⟩
  have H3 : Hid (Mx.Right g (nx : Int) dim) := h1
  clear h1 hg1
  go_wp2
  go_loopw [31] (fun i wr => ∃ k : Nat, k ≤ nx ∧ i = .int .i64 k ∧ Below w.heap.size w wr ∧ Hid (∀ x ∈ xs.take k, Ex.Right x.1 x.2.1 dim)) (fun i _ => nx - (intOf i).toNat)
  case atStart => exact ⟨0, Nat.zero_le _, rfl, hB, Mx.all_zero⟩
  case round =>
    clear hB
    obtain ⟨k, hk, rfl, hbel, HI⟩ := hrel
    by_cases hlt : k < nx
    · obtain ⟨b, off, ai, ni, ci, ao, no, co, mi, mo, rfl, hb, hE, hi, ho, c0, c1⟩ := xp_there HX.out hlt
      have hli : (k : Int) < (nx : Int) := by omega
      have HM : Hid ((mi, mo, ()) ∈ xs) := by rw [← hE]; exact in_of (by have := HL.out; omega) _
      have HS : Hid (Ex.Right mi mo dim → ∀ x ∈ xs.take (k + 1), Ex.Right x.1 x.2.1 dim) := fun h => Mx.all_succ (d := xp0) (by have := HL.out; omega) HI.out (by rw [hE]; exact h)
      have d0 := (hbel.cell (by exact hb)).trans c0
      have d1 := (hbel.cell (by exact hb)).trans c1
      have hb1 := bel_alloc hbel (.cells #[.slice ai ni ci, .slice ao no co] 34)
      have hX : Exp (wr.alloc (.cells #[.slice ai ni ci, .slice ao no co] 34)) ai ni ci ao no co mi mo := ⟨Shape.below hi hb1, Shape.below ho hb1⟩
      clear c0 c1 hE hi ho
      go_wp2_with fail
      refine (xright ai ni ci ao no co mi mo dim _ hX (HZ.out.2.2 _ HM.out).1 (HZ.out.2.2 _ HM.out).2).mono ?_
      rintro e u1 ⟨hs, hb2⟩
      have hB2 := bel_then hb1 hb2
      by_cases hR : Ex.Right mi mo dim
      · rw [hs.is hR]
        have HR2 : Hid (Ex.Right mi mo dim) := hR
        clear hR hs hX hb1 hb2 d0 d1
        go_wp2
        go_roundw
        case rel => exact ⟨k + 1, by omega, by go_num, hB2, HS.out HR2.out⟩
        case measure => simp [intOf]; omega
      · rw [hs.not hR]
        have HR2 : Hid (¬ Ex.Right mi mo dim) := hR
        clear hR hs hX hb1 hb2 d0 d1
        go_wp2
        go_ret
        exact ⟨Says.no fun h => HR2.out ((HR.out.1 h).2.2.2 _ HM.out), hB2⟩
    · have hli : ¬ (k : Int) < (nx : Int) := by omega
      go_wp2
      go_ret
      exact ⟨Says.yes (HR.out.2 ⟨H1.out, H2.out, H3.out, Mx.all_full (by have := HL.out; omega) HI.out⟩), hbel⟩

set_option maxRecDepth 100000 in
set_option maxHeartbeats 1000000 in
theorem mright (a : Option Addr) (n c : Nat) (ls : List Ly) (dim : Int) (w : World) (h : lysS.rep w everywhere [.slice a n c] ls) (hn : n ≤ 1000) (hz : ∀ l ∈ ls, Md.LSized l) :
    Calls Tryz.prog 40 #[.agg #[.int .i64 dim, .slice a n c]] w fun e w' => Says e (Md.Right dim ls) ∧ Below w.heap.size w w' := by
  have hl := (sliceS_len h).1
  have hB := new_bel w (.cells #[.int .i64 dim, .slice a n c] 41)
  have q := Box.new w 41 #[.int .i64 dim, .slice a n c]
  have HR := hid (Md.right_iff (dim := dim) hl)
  have HZ : Hid (∀ l ∈ ls, Md.LSized l) := hz
  have HL : Hid (ls.length = n) := hl
  have HX : Hid (lysS.rep w everywhere [.slice a n c] ls) := h
  clear h hz hl
  generalize Md.Right dim ls = R at *
  go_enter Tryz.func40, Tryz.ntmps40
  go_wp2_with fail
  refine by_says (isFrom dim 8 _) (fun h1 => ?_) (fun h1 => ?_)
  case refine_2 =>
    go_wp2
    go_ret
    exact ⟨Says.no fun h => h1 (HR.out.1 h).1, hB⟩
  have H1 : Hid (1 ≤ dim ∧ dim ≤ 8) := h1
  clear h1
  go_wp2_with fail
  refine by_says (isFrom n 4 _) (fun h1 => ?_) (fun h1 => ?_)
  case refine_2 =>
    go_wp2
    go_ret
    exact ⟨Says.no fun h => h1 (HR.out.1 h).2.1, hB⟩
  have H2 : Hid (1 ≤ (n : Int) ∧ (n : Int) ≤ 4) := h1
  clear h1
  go_wp2
  go_loopw [19] (fun i wr => ∃ k : Nat, k ≤ n ∧ i = .int .i64 k ∧ Below w.heap.size w wr ∧ Box wr w.heap.size 41 #[.int .i64 dim, .slice a n c] ∧ Hid (∀ l ∈ ls.take k, Md.LRight l dim)) (fun i _ => n - (intOf i).toNat)
  case atStart => exact ⟨0, Nat.zero_le _, rfl, hB, q, Mx.all_zero⟩
  case round =>
    clear hB q
    obtain ⟨k, hk, rfl, hbel, hbox, HI⟩ := hrel
    by_cases hlt : k < n
    · obtain ⟨b, off, ag, ng, cg, ax, nx, cx, g, xs, cap, rfl, hb, hE, hg, hx, c0, c1, c2⟩ := ly_there HX.out hlt
      have hli : (k : Int) < (n : Int) := by omega
      have HM : Hid ((g, xs, cap, ()) ∈ ls) := by rw [← hE]; exact in_of (by have := HL.out; omega) _
      have HS : Hid (Md.LRight (g, xs, cap, ()) dim → ∀ l ∈ ls.take (k + 1), Md.LRight l dim) := fun h => Mx.all_succ (d := ly0) (by have := HL.out; omega) HI.out (by rw [hE]; exact h)
      have d0 := (hbel.cell (by exact hb)).trans c0
      have d1 := (hbel.cell (by exact hb)).trans c1
      have d2 := (hbel.cell (by exact hb)).trans c2
      have hb1 := bel_alloc hbel (.cells #[.slice ag ng cg, .slice ax nx cx, .int .i64 cap] 37)
      have hg1 := Shape.below hg hb1
      have hx1 := Shape.below hx hb1
      have hbox1 := hbox.keep (new_bel wr (.cells #[.slice ag ng cg, .slice ax nx cx, .int .i64 cap] 37))
      have p0 := hbox1.cell 0 rfl
      clear c0 c1 c2 hE hg hx
      go_wp2_with fail
      refine (lright ag ng cg ax nx cx g xs cap dim _ hg1 hx1 (HZ.out _ HM.out)).mono ?_
      rintro e u1 ⟨hs, hb2⟩
      have hB2 := bel_then hb1 hb2
      have hbox2 := hbox1.keep hb2
      by_cases hR : Md.LRight (g, xs, cap, ()) dim
      · rw [hs.is hR]
        have HR2 : Hid (Md.LRight (g, xs, cap, ()) dim) := hR
        clear hR hs hg1 hx1 hb1 hb2 d0 d1 d2 p0 hbox hbox1
        go_wp2
        go_roundw
        case rel => exact ⟨k + 1, by omega, by go_num, hB2, hbox2, HS.out HR2.out⟩
        case measure => simp [intOf]; omega
      · rw [hs.not hR]
        have HR2 : Hid (¬ Md.LRight (g, xs, cap, ()) dim) := hR
        clear hR hs hg1 hx1 hb1 hb2 d0 d1 d2 p0 hbox hbox1
        go_wp2
        go_ret
        exact ⟨Says.no fun h => HR2.out ((HR.out.1 h).2.2 _ HM.out), hB2⟩
    · have hli : ¬ (k : Int) < (n : Int) := by omega
      go_wp2
      go_ret
      exact ⟨Says.yes (HR.out.2 ⟨H1.out, H2.out, Mx.all_full (by have := HL.out; omega) HI.out⟩), hbel⟩

set_option maxRecDepth 100000 in
theorem mtokens (a : Option Addr) (n c : Nat) (dim : Int) (b : Option Addr) (m d : Nat) (ts : List (List Int)) (w : World) (h : matS.rep w everywhere [.slice b m d] ts) (hz : Ex.Sized ts) :
    Calls Tryz.prog 41 #[.agg #[.int .i64 dim, .slice a n c], .slice b m d] w fun e w' => Says e (Md.TRight dim ts) ∧ Below w.heap.size w w' := by
  have hl := (sliceS_len h).1
  have hB := new_bel w (.cells #[.int .i64 dim, .slice a n c] 41)
  have q := Box.new w 41 #[.int .i64 dim, .slice a n c]
  have HR := hid (Md.tright_iff (dim := dim) hl)
  have HZ : Hid (Ex.Sized ts) := hz
  have hm : m ≤ 100000 := by have := hz.1; omega
  have h1 := Shape.below h hB
  clear h hz hl
  generalize Md.TRight dim ts = R at *
  go_enter Tryz.func41, Tryz.ntmps41
  go_wp2_with fail
  refine by_says (isFrom m 16 _) (fun g1 => ?_) (fun g1 => ?_)
  case refine_2 =>
    go_wp2
    go_ret
    exact ⟨Says.no fun h => g1 (HR.out.1 h).1, hB⟩
  have H1 : Hid (1 ≤ (m : Int) ∧ (m : Int) ≤ 16) := g1
  clear g1
  go_wp2_with fail
  refine by_says (right b m d ts everywhere m dim _ h1 hm HZ.out.2) (fun g1 => ?_) (fun g1 => ?_)
  case refine_2 =>
    go_wp2
    go_ret
    exact ⟨Says.no fun h => g1 (HR.out.1 h).2, hB⟩
  go_wp2
  go_ret
  exact ⟨Says.yes (HR.out.2 ⟨H1.out, g1⟩), hB⟩

/-! ### The document's -/
end Go.Proofs.YtokfcjgfpchffaaGreatDoor
