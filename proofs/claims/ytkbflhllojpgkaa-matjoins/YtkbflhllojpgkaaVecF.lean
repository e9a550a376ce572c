/- The fixed answer of the laws of layer 2. -/
import Derived.Test.YtkbflhllojpgkaaVecE
namespace Go.Proofs.Ytkbflhllojpgkaa
open Go.ChangeShapes Go.WideShapes Go.ChangeAt Go.RowKit

theorem bel_then {w w1 w2 : World} (h : Below w.heap.size w w1) (k : Below w1.heap.size w1 w2) : Below w.heap.size w w2 := h.trans (k.mono h.size)

/-- A row that a literal has just laid. -/
theorem Row.lit (w : World) (cs : Array Value) (l : List Int) (hc : cs.toList = l.map (Value.int .i64)) : Row .i64 (w.alloc (.cells cs 3)) (some ⟨w.heap.size, 0, none⟩) l.length l :=
  Row.of_block (heap_alloc_new w _) hc

end Go.Proofs.Ytkbflhllojpgkaa
