/- What the functions of package expert, and the document's answers for layer 11, do when called. -/
import Derived.Test.YtgbcneiciefkkaaMatB
import Derived.Test.YtgbcneiciefkkaaSlot
import Derived.Test.YtgbcneiciefkkaaStruct
import Derived.Test.YtgbcneiciefkkaaEx
namespace Go.Proofs.Ytgbcneiciefkkaa
open Go.ChangeShapes Go.WideShapes Go.ChangeAt Go.RowKit

theorem isSize (n : Int) (w : World) : Calls Try.prog 32 #[.int .i64 n] w fun e w' => Says e (1 ≤ n ∧ n ≤ 8) ∧ w' = w := by
  by_cases h1 : 1 ≤ n
  · by_cases h2 : n ≤ 8
    · go_enter Try.func32, Try.ntmps32
      go_wp2
      go_ret
      exact ⟨Says.yes ⟨h1, h2⟩, rfl⟩
    · go_enter Try.func32, Try.ntmps32
      go_wp2
      go_ret
      exact ⟨Says.no fun h => by omega, rfl⟩
  · go_enter Try.func32, Try.ntmps32
    go_wp2
    go_ret
    exact ⟨Says.no fun h => by omega, rfl⟩

/-- An expert in memory. -/
structure Exp (w : World) (ai : Option Addr) (ni ci : Nat) (ao : Option Addr) (no co : Nat) (mi mo : List (List Int)) : Prop where
  i : matS.rep w everywhere [.slice ai ni ci] mi
  o : matS.rep w everywhere [.slice ao no co] mo
theorem Exp.below {w w' : World} {ai : Option Addr} {ni ci : Nat} {ao : Option Addr} {no co : Nat} {mi mo : List (List Int)} (h : Exp w ai ni ci ao no co mi mo) (hb : Below w.heap.size w w') : Exp w' ai ni ci ao no co mi mo := ⟨Shape.below h.i hb, Shape.below h.o hb⟩

theorem xright (ai : Option Addr) (ni ci : Nat) (ao : Option Addr) (no co : Nat) (mi mo : List (List Int)) (dim : Int) (w : World) (h : Exp w ai ni ci ao no co mi mo) (hi : Ex.Sized mi) (ho : Ex.Sized mo) :
    Calls Try.prog 19 #[.agg #[.slice ai ni ci, .slice ao no co], .int .i64 dim] w fun e w' => Says e (Ex.Right mi mo dim) ∧ Below w.heap.size w w' := by
  have hli := (sliceS_len h.i).1
  have hlo := (sliceS_len h.o).1
  have hB := new_bel w (.cells #[.slice ai ni ci, .slice ao no co] 24)
  have h2 := h.below hB
  have HR : Hid (Ex.Right mi mo dim ↔ (1 ≤ dim ∧ dim ≤ 8) ∧ (1 ≤ (ni : Int) ∧ (ni : Int) ≤ 8) ∧ Mx.Right mi ni dim ∧ Mx.Right mo dim ni) := by
    show _ ↔ _
    unfold Ex.Right
    rw [hli]
    constructor
    · rintro ⟨p, q, r, s⟩; exact ⟨p, by omega, r, s⟩
    · rintro ⟨p, q, r, s⟩; exact ⟨p, by omega, r, s⟩
  have HI : Hid (Ex.Sized mi) := hi
  have HO : Hid (Ex.Sized mo) := ho
  have hni : ni ≤ 100000 := by have := hi.1; omega
  have hno : no ≤ 100000 := by have := ho.1; omega
  have HX := h2
  clear h h2 hi ho hli hlo
  generalize Ex.Right mi mo dim = R at *
  go_enter Try.func19, Try.ntmps19
  go_wp2_with fail
  refine by_says (isSize dim _) (fun h1 => ?_) (fun h1 => ?_)
  case refine_2 =>
    go_wp2
    go_ret
    exact ⟨Says.no fun h => h1 (HR.out.1 h).1, hB⟩
  have H1 : Hid (1 ≤ dim ∧ dim ≤ 8) := h1
  clear h1
  go_wp2_with fail
  refine by_says (isSize ni _) (fun h1 => ?_) (fun h1 => ?_)
  case refine_2 =>
    go_wp2
    go_ret
    exact ⟨Says.no fun h => h1 (HR.out.1 h).2.1, hB⟩
  have H2 : Hid (1 ≤ (ni : Int) ∧ (ni : Int) ≤ 8) := h1
  clear h1
  go_wp2_with fail
  refine by_says (right ai ni ci mi everywhere ni dim _ HX.i hni HI.out.2) (fun h1 => ?_) (fun h1 => ?_)
  case refine_2 =>
    go_wp2
    go_ret
    exact ⟨Says.no fun h => h1 (HR.out.1 h).2.2.1, hB⟩
  have H3 : Hid (Mx.Right mi ni dim) := h1
  clear h1
  go_wp2_with fail
  refine by_says (right ao no co mo everywhere dim ni _ HX.o hno HO.out.2) (fun h1 => ?_) (fun h1 => ?_)
  case refine_2 =>
    go_wp2
    go_ret
    exact ⟨Says.no fun h => h1 (HR.out.1 h).2.2.2, hB⟩
  go_wp2
  go_ret
  exact ⟨Says.yes (HR.out.2 ⟨H1.out, H2.out, H3.out, h1⟩), hB⟩
theorem xright_tell (ai : Option Addr) (ni ci : Nat) (ao : Option Addr) (no co : Nat) (mi mo : List (List Int)) (dim : Int) (w : World) (h : Exp w ai ni ci ao no co mi mo) (hi : Ex.Sized mi) (ho : Ex.Sized mo) (b : Bool) (hb : tell (Ex.Right mi mo dim) = b) :
    Calls Try.prog 19 #[.agg #[.slice ai ni ci, .slice ao no co], .int .i64 dim] w fun e w' => e = .returned (.bool b) ∧ Below w.heap.size w w' :=
  (xright ai ni ci ao no co mi mo dim w h hi ho).mono fun _ _ ⟨hs, hb'⟩ => ⟨by rw [← hb]; exact hs.form, hb'⟩

theorem rxright (ai : Option Addr) (ni ci : Nat) (ao : Option Addr) (no co : Nat) (mi mo : List (List Int)) (dim : Int) (w : World) (h : Exp w ai ni ci ao no co mi mo) (hi : Ex.Sized mi) (ho : Ex.Sized mo) :
    Calls Try.prog 12 #[.agg #[.slice ai ni ci, .slice ao no co], .int .i64 dim] w fun e w' => Says e (Ex.Right mi mo dim) ∧ Below w.heap.size w w' := by
  have hli := (sliceS_len h.i).1
  have hlo := (sliceS_len h.o).1
  have hB := new_bel w (.cells #[.slice ai ni ci, .slice ao no co] 24)
  have h2 := h.below hB
  have HR : Hid (Ex.Right mi mo dim ↔ (1 ≤ dim ∧ dim ≤ 8) ∧ (1 ≤ (ni : Int) ∧ (ni : Int) ≤ 8) ∧ Mx.Right mi ni dim ∧ Mx.Right mo dim ni) := by
    show _ ↔ _
    unfold Ex.Right
    rw [hli]
    constructor
    · rintro ⟨p, q, r, s⟩; exact ⟨p, by omega, r, s⟩
    · rintro ⟨p, q, r, s⟩; exact ⟨p, by omega, r, s⟩
  have HI : Hid (Ex.Sized mi) := hi
  have HO : Hid (Ex.Sized mo) := ho
  have hni : ni ≤ 100000 := by have := hi.1; omega
  have hno : no ≤ 100000 := by have := ho.1; omega
  have HX := h2
  clear h h2 hi ho hli hlo
  generalize Ex.Right mi mo dim = R at *
  by_cases d1 : dim < 1
  · go_enter Try.func12, Try.ntmps12
    go_wp2
    go_ret
    exact ⟨Says.no fun h => by have := (HR.out.1 h).1; omega, hB⟩
  by_cases d2 : 8 < dim
  · go_enter Try.func12, Try.ntmps12
    go_wp2
    go_ret
    exact ⟨Says.no fun h => by have := (HR.out.1 h).1; omega, hB⟩
  by_cases d3 : (ni : Int) < 1
  · go_enter Try.func12, Try.ntmps12
    go_wp2
    go_ret
    exact ⟨Says.no fun h => by have := (HR.out.1 h).2.1; omega, hB⟩
  by_cases d4 : 8 < (ni : Int)
  · go_enter Try.func12, Try.ntmps12
    go_wp2
    go_ret
    exact ⟨Says.no fun h => by have := (HR.out.1 h).2.1; omega, hB⟩
  go_enter Try.func12, Try.ntmps12
  go_wp2_with fail
  refine by_says (rright ai ni ci mi everywhere ni dim _ HX.i hni HI.out.2) (fun h1 => ?_) (fun h1 => ?_)
  case refine_2 =>
    go_wp2
    go_ret
    exact ⟨Says.no fun h => h1 (HR.out.1 h).2.2.1, hB⟩
  have H3 : Hid (Mx.Right mi ni dim) := h1
  clear h1
  go_wp2_with fail
  refine by_says (rright ao no co mo everywhere dim ni _ HX.o hno HO.out.2) (fun h1 => ?_) (fun h1 => ?_)
  case refine_2 =>
    go_wp2
    go_ret
    exact ⟨Says.no fun h => h1 (HR.out.1 h).2.2.2, hB⟩
  go_wp2
  go_ret
  exact ⟨Says.yes (HR.out.2 ⟨by omega, by omega, H3.out, h1⟩), hB⟩
theorem rxright_tell (ai : Option Addr) (ni ci : Nat) (ao : Option Addr) (no co : Nat) (mi mo : List (List Int)) (dim : Int) (w : World) (h : Exp w ai ni ci ao no co mi mo) (hi : Ex.Sized mi) (ho : Ex.Sized mo) (b : Bool) (hb : tell (Ex.Right mi mo dim) = b) :
    Calls Try.prog 12 #[.agg #[.slice ai ni ci, .slice ao no co], .int .i64 dim] w fun e w' => e = .returned (.bool b) ∧ Below w.heap.size w w' :=
  (rxright ai ni ci ao no co mi mo dim w h hi ho).mono fun _ _ ⟨hs, hb'⟩ => ⟨by rw [← hb]; exact hs.form, hb'⟩



end Go.Proofs.Ytgbcneiciefkkaa
