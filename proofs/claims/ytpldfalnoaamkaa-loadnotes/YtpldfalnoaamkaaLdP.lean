/- What the laws of layer 21 want of load's own functions, as one structure of letters: shown of the landed code in a text of its own. -/
import Derived.Test.YtpldfalnoaamkaaLdC
namespace Go.Proofs.Ytpldfalnoaamkaa
open Go.ChangeShapes Go.WideShapes Go.ChangeAt Go.RowKit

set_option linter.unusedVariables false in
structure LoadDoes : Prop where
  count : ∀ (b0 : Option Addr) (n0 c0 : Nat) (l : List Int) (x : Int) (w : World) (hr : Row .i64 w b0 n0 l) (hn0 : n0 ≤ 100000), Calls Try.prog 15 #[.slice b0 n0 c0, .int .i64 x] w fun r w' => r = .returned (.int .i64 (Ld.count l x)) ∧ Below w.heap.size w w'
  weight : ∀ (e : Int) (a : Option Addr) (n c : Nat) (m : List (List Int)) (y : Int) (w : World) (h : matS.rep w everywhere [.slice a n c] m) (hz : Ex.Sized m), Calls Try.prog 16 #[.agg #[.int .i64 e, .slice a n c], .int .i64 y] w fun r w' => r = .returned (.int .i64 (Ld.weight m y : Nat)) ∧ Below w.heap.size w w'
  hot : ∀ (b0 : Option Addr) (n0 c0 : Nat) (l : List Int) (e : Int) (a : Option Addr) (n c : Nat) (m : List (List Int)) (bd X N : Int) (B : Bool) (w : World) (hr : Row .i64 w b0 n0 l) (hn0 : n0 ≤ 100000) (h : matS.rep w everywhere [.slice a n c] m) (hz : Ex.Sized m) (hI : Ld.Hot l e m bd X N B), Calls Try.prog 18 #[.slice b0 n0 c0, .agg #[.int .i64 e, .slice a n c], .int .i64 bd] w fun r w' => r = .returned (.tuple #[.int .i64 X, .int .i64 N, .bool B]) ∧ Below w.heap.size w w'
  cold : ∀ (b0 : Option Addr) (n0 c0 : Nat) (l : List Int) (e : Int) (a : Option Addr) (n c : Nat) (m : List (List Int)) (bd X N : Int) (B : Bool) (w : World) (hr : Row .i64 w b0 n0 l) (hn0 : n0 ≤ 100000) (h : matS.rep w everywhere [.slice a n c] m) (hz : Ex.Sized m) (hI : Ld.Cold l e m bd X N B), Calls Try.prog 19 #[.slice b0 n0 c0, .agg #[.int .i64 e, .slice a n c], .int .i64 bd] w fun r w' => r = .returned (.tuple #[.int .i64 X, .int .i64 N, .bool B]) ∧ Below w.heap.size w w'
  note : ∀ (b0 : Option Addr) (n0 c0 : Nat) (l : List Int) (x : Int) (w : World) (h : rowS.rep w everywhere [.slice b0 n0 c0] l) (hn0 : n0 ≤ 1000) (hf : ∀ y ∈ l, (-9223372036854775808 : Int) ≤ y), Calls Try.prog 12 #[.slice b0 n0 c0, .int .i64 x] w fun r w' => Below w.heap.size w w' ∧ ∃ a c, r = .returned (.slice a (Ld.note l x).length c) ∧ rowS.rep w' everywhere [.slice a (Ld.note l x).length c] (Ld.note l x)
  awake : ∀ (w : World), Calls Try.prog 11 #[] w fun r w' => r = .returned (.bool true) ∧ Below w.heap.size w w'

end Go.Proofs.Ytpldfalnoaamkaa
