/- Calls of bag's functions one behind the other, with letters for what is made. -/
import Derived.Test.YtkpbkknneebdmaaBagC
import Derived.Test.YtkpbkknneebdmaaOrd
namespace Go.Proofs.Ytkpbkknneebdmaa
open Go.ChangeShapes Go.WideShapes Go.ChangeAt Go.RowKit

/-- It returns a bag of n texts, m. -/
def Bags (e : Ending) (w' : World) (n : Nat) (m : List ByteArray) : Prop := ∃ a c, e = .returned (.slice a n c) ∧ bagS.rep w' everywhere [.slice a n c] m

theorem put_to (a : Option Addr) (n c : Nat) (l : List ByteArray) (s : ByteArray) (w : World) (ha : bagS.rep w everywhere [.slice a n c] l) (h : n < 200) (k : Nat) (hk : n + 1 = k) (m : List ByteArray) (hm : l ++ [s] = m) :
    Calls Try.prog 14 #[.slice a n c, .string s] w fun e w' => Below w.heap.size w w' ∧ ∃ a' c', e = .returned (.slice a' k c') ∧ bagS.rep w' everywhere [.slice a' k c'] m := by
  subst hk; subst hm; exact bput_room a n c l s w ha h

theorem take_to (a : Option Addr) (n c : Nat) (l : List ByteArray) (j : Nat) (w : World) (ha : bagS.rep w everywhere [.slice a n c] l) (hn : n ≤ 50000) (hj : j < n) (i : Int) (hi : (j : Int) = i) (k : Nat) (hk : n - 1 = k) (s : ByteArray) (hs : l.getD j noText = s) (m : List ByteArray) (hm : Bx.without l j = m) :
    Calls Try.prog 9 #[.slice a n c, .int .i64 i] w fun e w' => Below w.heap.size w w' ∧ ∃ a' c', e = .returned (.tuple #[.string s, .slice a' k c', .bool true]) ∧ bagS.rep w' everywhere [.slice a' k c'] m := by
  subst hk; subst hm; subst hs; subst hi; exact btake_in a n c l j w ha hn hj

theorem twice_to (a : Option Addr) (n c : Nat) (l : List ByteArray) (j : Nat) (w : World) (ha : bagS.rep w everywhere [.slice a n c] l) (hn : n ≤ 50000) (hj : j < n) (i : Int) (hi : (j : Int) = i) (m : List ByteArray) (hm : Bx.put l (l.getD j noText) = m) (k : Nat) (hk : m.length = k) :
    Calls Try.prog 11 #[.slice a n c, .int .i64 i] w fun e w' => Below w.heap.size w w' ∧ ∃ a' c', e = .returned (.slice a' k c') ∧ bagS.rep w' everywhere [.slice a' k c'] m := by
  subst hk; subst hm; subst hi; exact btwice_in a n c l j w ha hn hj

theorem same_yes (a : Option Addr) (n c : Nat) (l : List ByteArray) (b : Option Addr) (m d : Nat) (w : World) (ha : bagS.rep w everywhere [.slice a n c] l) (hb : bagS.rep w everywhere [.slice b m d] l) (hn : n ≤ 50000) :
    Calls Try.prog 10 #[.slice a n c, .slice b m d] w fun e w' => e = .returned (.bool true) ∧ Below w.heap.size w w' :=
  (rsame a n c l b m d l w ha hb hn).mono fun _ _ ⟨hs, hb⟩ => ⟨hs.is rfl, hb⟩

theorem getD_snoc {l : List ByteArray} {s : ByteArray} {j : Nat} (h : j < l.length) : (l ++ [s]).getD j noText = l.getD j noText := by
  rw [List.getD_eq_getElem?_getD, List.getD_eq_getElem?_getD, List.getElem?_append_left h]

end Go.Proofs.Ytkpbkknneebdmaa
