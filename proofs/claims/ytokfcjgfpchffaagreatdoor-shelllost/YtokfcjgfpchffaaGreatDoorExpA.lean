/- What the functions of package expert, and the document's answers for layer 11, do when called. -/
import Derived.Test.YtokfcjgfpchffaaGreatDoorJm
import Derived.Test.YtokfcjgfpchffaaGreatDoorKa
import Derived.Test.YtokfcjgfpchffaaGreatDoorKb
namespace Go.Proofs.YtokfcjgfpchffaaGreatDoor
open Go.ChangeShapes Go.WideShapes Go.ChangeAt Go.RowKit

set_option maxRecDepth 100000 in
theorem isSize (n : Int) (w : World) : Calls Tryz.prog 153 #[.int .i64 n] w fun e w' => Says e (1 ≤ n ∧ n ≤ 8) ∧ w' = w := by
  by_cases h1 : 1 ≤ n
  · by_cases h2 : n ≤ 8
    · go_enter Tryz.func153, Tryz.ntmps153
      go_wp2
      go_ret
      exact ⟨Says.yes ⟨h1, h2⟩, rfl⟩
    · go_enter Tryz.func153, Tryz.ntmps153
      go_wp2
      go_ret
      exact ⟨Says.no fun h => by omega, rfl⟩
  · go_enter Tryz.func153, Tryz.ntmps153
    go_wp2
    go_ret
    exact ⟨Says.no fun h => by omega, rfl⟩

/-- An expert in memory. -/
structure Exp (w : World) (ai : Option Addr) (ni ci : Nat) (ao : Option Addr) (no co : Nat) (mi mo : List (List Int)) : Prop where
  i : matS.rep w everywhere [.slice ai ni ci] mi
  o : matS.rep w everywhere [.slice ao no co] mo
theorem Exp.below {w w' : World} {ai : Option Addr} {ni ci : Nat} {ao : Option Addr} {no co : Nat} {mi mo : List (List Int)} (h : Exp w ai ni ci ao no co mi mo) (hb : Below w.heap.size w w') : Exp w' ai ni ci ao no co mi mo := ⟨Shape.below h.i hb, Shape.below h.o hb⟩

set_option maxRecDepth 100000 in
theorem xright (ai : Option Addr) (ni ci : Nat) (ao : Option Addr) (no co : Nat) (mi mo : List (List Int)) (dim : Int) (w : World) (h : Exp w ai ni ci ao no co mi mo) (hi : Ex.Sized mi) (ho : Ex.Sized mo) :
    Calls Tryz.prog 116 #[.agg #[.slice ai ni ci, .slice ao no co], .int .i64 dim] w fun e w' => Says e (Ex.Right mi mo dim) ∧ Below w.heap.size w w' := by
  have hli := (sliceS_len h.i).1
  have hlo := (sliceS_len h.o).1
  have hB := new_bel w (.cells #[.slice ai ni ci, .slice ao no co] 34)
  have h2 := h.below hB
  have HR : Hid (Ex.Right mi mo dim ↔ (1 ≤ dim ∧ dim ≤ 8) ∧ (1 ≤ (ni : Int) ∧ (ni : Int) ≤ 8) ∧ Mx.Right mi ni dim ∧ Mx.Right mo dim ni) := by
    show _ ↔ _
    unfold Ex.Right
    rw [hli]
    constructor
    · rintro ⟨p, q, r, s⟩; exact ⟨p, by omega, r, s⟩
    · rintro ⟨p, q, r, s⟩; exact ⟨p, by omega, r, s⟩
  have HI : Hid (Ex.Sized mi) := hi
  have HO : Hid (Ex.Sized mo) := ho
  have hni : ni ≤ 100000 := by have := hi.1; omega
  have hno : no ≤ 100000 := by have := ho.1; omega
  have HX := h2
  clear h h2 hi ho hli hlo
  generalize Ex.Right mi mo dim = R at *
  go_enter Tryz.func116, Tryz.ntmps116
  go_wp2_with fail
  refine by_says (isSize dim _) (fun h1 => ?_) (fun h1 => ?_)
  case refine_2 =>
    go_wp2
    go_ret
    exact ⟨Says.no fun h => h1 (HR.out.1 h).1, hB⟩
  have H1 : Hid (1 ≤ dim ∧ dim ≤ 8) := h1
  clear h1
  go_wp2_with fail
  refine by_says (isSize ni _) (fun h1 => ?_) (fun h1 => ?_)
  case refine_2 =>
    go_wp2
    go_ret
    exact ⟨Says.no fun h => h1 (HR.out.1 h).2.1, hB⟩
  have H2 : Hid (1 ≤ (ni : Int) ∧ (ni : Int) ≤ 8) := h1
  clear h1
  go_wp2_with fail
  refine by_says (right ai ni ci mi everywhere ni dim _ HX.i hni HI.out.2) (fun h1 => ?_) (fun h1 => ?_)
  case refine_2 =>
    go_wp2
    go_ret
    exact ⟨Says.no fun h => h1 (HR.out.1 h).2.2.1, hB⟩
  have H3 : Hid (Mx.Right mi ni dim) := h1
  clear h1
  go_wp2_with fail
  refine by_says (right ao no co mo everywhere dim ni _ HX.o hno HO.out.2) (fun h1 => ?_) (fun h1 => ?_)
  case refine_2 =>
    go_wp2
    go_ret
    exact ⟨Says.no fun h => h1 (HR.out.1 h).2.2.2, hB⟩
  go_wp2
  go_ret
  exact ⟨Says.yes (HR.out.2 ⟨H1.out, H2.out, H3.out, h1⟩), hB⟩
set_option maxRecDepth 100000 in
set_option maxHeartbeats 1000000 in
theorem xrun_at (ai : Option Addr) (ni ci : Nat) (ao : Option Addr) (no co : Nat) (mi mo : List (List Int)) (a : Option Addr) (n c : Nat) (v : List Int) (w : World) (h : Exp w ai ni ci ao no co mi mo) (hi : Ex.Sized mi) (ho : Ex.Sized mo) (hv : Row .i64 w a n v) (hn : n ≤ 100000) :
    Calls Tryz.prog 168 #[.agg #[.slice ai ni ci, .slice ao no co], .slice a n c] w fun e w' => GivesAt w.heap.size e w' n (Ex.run mi mo v) (Ex.Right mi mo n) ∧ Below w.heap.size w w' := by
  have hli := (sliceS_len h.i).1
  have hlo := (sliceS_len h.o).1
  have hB := new_bel w (.cells #[.slice ai ni ci, .slice ao no co] 34)
  have q := Box.new w 34 #[.slice ai ni ci, .slice ao no co]
  have HX := h.below hB
  have hv2 := hv.keep hB
  have HI : Hid (Ex.Sized mi) := hi
  have HO : Hid (Ex.Sized mo) := ho
  have hni : ni ≤ 100000 := by have := hi.1; omega
  have hno : no ≤ 100000 := by have := ho.1; omega
  have HLI : Hid (mi.length = ni) := hli
  have HLO : Hid (mo.length = no) := hlo
  clear h hi ho hli hlo hv
  go_enter Tryz.func168, Tryz.ntmps168
  go_wp2_with fail
  refine (xright ai ni ci ao no co mi mo n _ HX HI.out HO.out).mono ?_
  rintro e u1 ⟨hs, hb1⟩
  have hB1 := bel_then hB hb1
  have q1 := q.keep hb1
  have hX1 := HX.below hb1
  have hv1 := hv2.keep hb1
  clear hB q HX hv2 hb1
  by_cases hR : Ex.Right mi mo n
  case neg =>
    rw [hs.not hR]
    clear hs
    have HR : Hid (¬ Ex.Right mi mo n) := hR
    clear hR
    go_wp2
    go_ret2
    exact ⟨.inr ⟨HR.out, rfl⟩, hB1⟩
  rw [hs.is hR]
  have HR : Hid (Ex.Right mi mo n) := hR
  have hon : no = n := by rw [← HLO.out]; exact hR.len
  subst hon
  clear hs hR
  have p0 := q1.cell 0 rfl
  go_wp2_with fail
  refine (mapply ai a ni ci no c mi v everywhere u1 hX1.i hv1 hni hn).mono ?_
  rintro e u2 ⟨hg, hb2⟩
  obtain ⟨a2, c2, rfl, hr2⟩ := hg.yes HR.out.fitsIn
  have hB2 := bel_then hB1 hb2
  have q2 := q1.keep hb2
  have hX2 := hX1.below hb2
  clear p0 hg hb2 q1 hX1 hv1 hB1
  have hD : Below u2.heap.size u2 u2.drew := (Below.refl _ u2).drew
  have hr3 := Row.of_rep (Shape.below hr2 hD)
  have p1 := q2.cell 1 rfl
  have HF : Hid (Mx.Fits mo ni) := by show Mx.Fits mo ni; rw [← HLI.out]; exact HR.out.fitsOut
  go_wp2
  go_region_with (first
    | (go_at_call 186; refine (vrelu a2 ni c2 (Mx.app mi v) u2.drew hr3 hni).mono ?_; rintro e u3 ⟨a3, c3, rfl, hr4, hb3⟩; have hb4 := bel_then hD hb3; have p2 := (q2.keep hb4).cell 1 rfl)
    | (go_at_call 181; refine (mapply_at ao a3 no co ni c3 mo (Vx.relu (Mx.app mi v)) everywhere u3 (hX2.below hb4).o hr4 hno hni).mono ?_; rintro e u4 ⟨hg, hb5⟩; obtain ⟨a4, c4, rfl, hr5⟩ := hg.yes HF.out))
  all_goals
    go_wp2
    go_ret2
    exact ⟨.inl ⟨HR.out, a4, c4, rfl, rowS.mono hr5 fun b hb _ => Nat.le_trans (bel_then hB2 hb4).size hb⟩, bel_then hB2 (bel_then hb4 hb5)⟩
set_option maxRecDepth 100000 in
set_option maxHeartbeats 1000000 in
theorem rxrun_at (ai : Option Addr) (ni ci : Nat) (ao : Option Addr) (no co : Nat) (mi mo : List (List Int)) (a : Option Addr) (n c : Nat) (v : List Int) (w : World) (h : Exp w ai ni ci ao no co mi mo) (hi : Ex.Sized mi) (ho : Ex.Sized mo) (hv : Row .i64 w a n v) (hn : n ≤ 100000) (hR : Ex.Right mi mo n) :
    Calls Tryz.prog 39 #[.agg #[.slice ai ni ci, .slice ao no co], .slice a n c] w fun e w' => ∃ a' c', e = .returned (.slice a' n c') ∧ rowS.rep w' (w.heap.size ≤ ·) [.slice a' n c'] (Ex.run mi mo v) ∧ Below w.heap.size w w' := by
  have hli := (sliceS_len h.i).1
  have hlo := (sliceS_len h.o).1
  have hB := new_bel w (.cells #[.slice ai ni ci, .slice ao no co] 34)
  have q := Box.new w 34 #[.slice ai ni ci, .slice ao no co]
  have HX := h.below hB
  have hv2 := hv.keep hB
  have HI : Hid (Ex.Sized mi) := hi
  have HO : Hid (Ex.Sized mo) := ho
  have hni : ni ≤ 100000 := by have := hi.1; omega
  have hno : no ≤ 100000 := by have := ho.1; omega
  have HLI : Hid (mi.length = ni) := hli
  have HLO : Hid (mo.length = no) := hlo
  have HR : Hid (Ex.Right mi mo n) := hR
  have hon : no = n := by rw [← HLO.out]; exact hR.len
  subst hon
  clear h hi ho hli hlo hv hR
  go_enter Tryz.func39, Tryz.ntmps39
  go_wp2_with fail
  refine (rapply ai a ni ci no c mi v everywhere _ HX.i hv2 hni hn).mono ?_
  rintro e u2 ⟨hg, hb2⟩
  obtain ⟨a2, c2, rfl, hr2⟩ := hg.yes HR.out.fitsIn
  have hB2 := bel_then hB hb2
  have q2 := q.keep hb2
  have hX2 := HX.below hb2
  clear hg hb2 q HX hv2 hB
  have hD : Below u2.heap.size u2 u2.drew := (Below.refl _ u2).drew
  have hr3 := Row.of_rep (Shape.below hr2 hD)
  have p1 := q2.cell 1 rfl
  have HF : Hid (Mx.Fits mo ni) := by show Mx.Fits mo ni; rw [← HLI.out]; exact HR.out.fitsOut
  go_wp2
  go_region_with (first
    | (go_at_call 74; refine (rrelu a2 ni c2 (Mx.app mi v) u2.drew hr3 hni).mono ?_; rintro e u3 ⟨a3, c3, rfl, hr4, hb3⟩; have hb4 := bel_then hD hb3; have p2 := (q2.keep hb4).cell 1 rfl)
    | (go_at_call 73; refine (rapply_at ao a3 no co ni c3 mo (Vx.relu (Mx.app mi v)) everywhere u3 (hX2.below hb4).o hr4 hno hni).mono ?_; rintro e u4 ⟨hg, hb5⟩; obtain ⟨a4, c4, rfl, hr5⟩ := hg.yes HF.out))
  all_goals
    go_wp2
    go_ret
    exact ⟨a4, c4, rfl, rowS.mono hr5 fun b hb _ => Nat.le_trans (bel_then hB2 hb4).size hb, bel_then hB2 (bel_then hb4 hb5)⟩
theorem rxrun (ai : Option Addr) (ni ci : Nat) (ao : Option Addr) (no co : Nat) (mi mo : List (List Int)) (a : Option Addr) (n c : Nat) (v : List Int) (w : World) (h : Exp w ai ni ci ao no co mi mo) (hi : Ex.Sized mi) (ho : Ex.Sized mo) (hv : Row .i64 w a n v) (hn : n ≤ 100000) (hR : Ex.Right mi mo n) :
    Calls Tryz.prog 39 #[.agg #[.slice ai ni ci, .slice ao no co], .slice a n c] w fun e w' => ∃ a' c', e = .returned (.slice a' n c') ∧ rowS.rep w' everywhere [.slice a' n c'] (Ex.run mi mo v) ∧ Below w.heap.size w w' :=
  (rxrun_at ai ni ci ao no co mi mo a n c v w h hi ho hv hn hR).mono fun _ _ ⟨a', c', he, hr, hb⟩ => ⟨a', c', he, Shape.any hr, hb⟩

end Go.Proofs.YtokfcjgfpchffaaGreatDoor
