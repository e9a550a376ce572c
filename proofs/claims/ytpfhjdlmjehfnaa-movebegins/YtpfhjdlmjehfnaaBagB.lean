/- What the functions of package bag do when called. -/
import Derived.Test.YtpfhjdlmjehfnaaBagA
import Derived.Test.YtpfhjdlmjehfnaaSlot
namespace Go.Proofs.Ytpfhjdlmjehfnaa
open Go.ChangeShapes Go.WideShapes Go.ChangeAt Go.RowKit


/-- One list in a literal of lists. -/
theorem laid_one {w : World} {F : Nat → Prop} {v : Value} {l : List ByteArray} {e : TypeId} (h : bagS.rep w F [v] l) : (sliceS bagS).rep (w.alloc (.cells #[v] e)) everywhere [.slice (some ⟨w.heap.size, 0, none⟩) 1 1] [l] :=
  rep_lit [[v]] [l] e (Shape.all_one h) (by show 1 ≤ maxLen; decide)
/-- Two of them. -/
theorem laid_two {w : World} {F : Nat → Prop} {v v' : Value} {l l' : List ByteArray} {e : TypeId} (h : bagS.rep w F [v] l) (h' : bagS.rep w F [v'] l') : (sliceS bagS).rep (w.alloc (.cells #[v, v'] e)) everywhere [.slice (some ⟨w.heap.size, 0, none⟩) 2 2] [l, l'] :=
  rep_lit [[v], [v']] [l, l'] e (Shape.all_append (Shape.all_one h) (Shape.all_one h')) (by show 2 ≤ maxLen; decide)
/-- One text in a literal of texts. -/
theorem laid_text (w : World) (s : ByteArray) (e : TypeId) : bagS.rep (w.alloc (.cells #[.string s] e)) everywhere [.slice (some ⟨w.heap.size, 0, none⟩) 1 1] [s] :=
  rep_lit (A := strS) (F := everywhere) [[.string s]] [s] e (Shape.all_one rfl) (by show 1 ≤ maxLen; decide)

end Go.Proofs.Ytpfhjdlmjehfnaa
