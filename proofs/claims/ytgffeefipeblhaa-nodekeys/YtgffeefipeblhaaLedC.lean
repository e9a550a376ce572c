/- Enter with letters for what it makes, and the fixed answer of the laws of layer 12. -/
import Derived.Test.YtgffeefipeblhaaLedB
namespace Go.Proofs.Ytgffeefipeblhaa
open Go.ChangeShapes Go.WideShapes Go.ChangeAt Go.RowKit

theorem Dx.short_nil : Dx.Short [] := ⟨Nat.zero_le _, fun e he => by simp at he⟩
theorem Dx.Short.add {l : List En} (h : Dx.Short l) (hl : l.length < 1000) {k : Ky} {v : List Int} (hv : v.length ≤ 1000) : Dx.Short (l ++ [en k v]) := by
  refine ⟨by rw [List.length_append]; exact hl, fun e he => ?_⟩
  rcases List.mem_append.1 he with he | he
  · exact h.2 e he
  · rw [List.mem_singleton.1 he]; exact hv

/-- Enter of a key that is not there: the new length and the new ledger under names of one's own. -/
theorem lenter_to (a : Option Addr) (n c : Nat) (l : List En) (p q r s : Int) (va : Option Addr) (vn vc : Nat) (v : List Int) (w : World) (h : ensS.rep w everywhere [.slice a n c] l) (hs : Dx.Short l) (hv : rowS.rep w everywhere [.slice va vn vc] v) (hvn : vn ≤ 1000) (hx : Dx.No l (ky p q r s)) (m : Nat) (hm : n + 1 = m) (L : List En) (hL : l ++ [en (ky p q r s) v] = L) :
    Calls Try.prog 42 #[.slice a n c, .agg #[.int .i64 p, .int .i64 q, .int .i64 r, .int .i64 s], .slice va vn vc] w fun e w' => Below w.heap.size w w' ∧ ∃ a' c', e = .returned (.tuple #[.slice a' m c', .bool true]) ∧ ensS.rep w' (w.heap.size ≤ ·) [.slice a' m c'] L := by
  subst hm
  subst hL
  exact lenter_new a n c l p q r s va vn vc v w h hs hv hvn hx


end Go.Proofs.Ytgffeefipeblhaa
