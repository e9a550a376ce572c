/- The fixed answer of layer 16's statements. -/
import Derived.Test.YtokkhkhipgopbaaChkG
import Derived.Test.YtokkhkhipgopbaaCutA
import Derived.Test.YtokkhkhipgopbaaLits
namespace Go.Proofs.Ytokkhkhipgopbaa
open Go.ChangeShapes Go.WideShapes Go.ChangeAt Go.RowKit

theorem one_sized (p : Int) : Ex.Sized [[p]] := ⟨by simp, fun l hl => by rw [List.mem_singleton.1 hl]; simp⟩
theorem laid_expert (w : World) (p q : Int) : Exp ((((w.alloc (.cells #[.int .i64 p] 3)).alloc (.cells #[.slice (some ⟨w.heap.size, 0, none⟩) 1 1] 47)).alloc (.cells #[.int .i64 q] 3)).alloc (.cells #[.slice (some ⟨w.heap.size + 1 + 1, 0, none⟩) 1 1] 47))
    (some ⟨w.heap.size + 1, 0, none⟩) 1 1 (some ⟨w.heap.size + 1 + 1 + 1, 0, none⟩) 1 1 [[p]] [[q]] := by
  have h1 := mat_one w p
  have hs : ((w.alloc (.cells #[.int .i64 p] 3)).alloc (.cells #[.slice (some ⟨w.heap.size, 0, none⟩) 1 1] 47)).heap.size = w.heap.size + 1 + 1 := by simp
  generalize (w.alloc (.cells #[.int .i64 p] 3)).alloc (.cells #[.slice (some ⟨w.heap.size, 0, none⟩) 1 1] 47) = W at *
  have h2 := mat_one W q
  rw [hs] at h2
  have hb := bel_two W (.cells #[.int .i64 q] 3) (.cells #[.slice (some ⟨w.heap.size + 1 + 1, 0, none⟩) 1 1] 47)
  exact ⟨Shape.below h1 hb, h2⟩
theorem abc_cut : texts (Ck.cut [97, 98, 99] 2) = [⟨#[97, 98]⟩, ⟨#[99]⟩] := by rfl

end Go.Proofs.Ytokkhkhipgopbaa
