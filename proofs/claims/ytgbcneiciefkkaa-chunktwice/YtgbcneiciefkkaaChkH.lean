/- The fixed answer of layer 16's statements. -/
import Derived.Test.YtgbcneiciefkkaaChkG
import Derived.Test.YtgbcneiciefkkaaCutA
import Derived.Test.YtgbcneiciefkkaaLits
namespace Go.Proofs.Ytgbcneiciefkkaa
open Go.ChangeShapes Go.WideShapes Go.ChangeAt Go.RowKit

theorem one_sized (p : Int) : Ex.Sized [[p]] := ⟨by simp, fun l hl => by rw [List.mem_singleton.1 hl]; simp⟩
theorem laid_expert (w : World) (p q : Int) : Exp ((((w.alloc (.cells #[.int .i64 p] 3)).alloc (.cells #[.slice (some ⟨w.heap.size, 0, none⟩) 1 1] 49)).alloc (.cells #[.int .i64 q] 3)).alloc (.cells #[.slice (some ⟨w.heap.size + 1 + 1, 0, none⟩) 1 1] 49))
    (some ⟨w.heap.size + 1, 0, none⟩) 1 1 (some ⟨w.heap.size + 1 + 1 + 1, 0, none⟩) 1 1 [[p]] [[q]] := by
  have h1 := mat_one w p
  have hs : ((w.alloc (.cells #[.int .i64 p] 3)).alloc (.cells #[.slice (some ⟨w.heap.size, 0, none⟩) 1 1] 49)).heap.size = w.heap.size + 1 + 1 := by simp
  generalize (w.alloc (.cells #[.int .i64 p] 3)).alloc (.cells #[.slice (some ⟨w.heap.size, 0, none⟩) 1 1] 49) = W at *
  have h2 := mat_one W q
  rw [hs] at h2
  have hb := bel_two W (.cells #[.int .i64 q] 3) (.cells #[.slice (some ⟨w.heap.size + 1 + 1, 0, none⟩) 1 1] 49)
  exact ⟨Shape.below h1 hb, h2⟩
theorem abc_cut : texts (Ck.cut [97, 98, 99] 2) = [⟨#[97, 98]⟩, ⟨#[99]⟩] := by rfl

theorem kawake (w : World) : Calls Try.prog 10 #[] w fun e w' => e = .returned (.bool true) ∧ Below w.heap.size w w' := by
  have hX := laid_expert w 1 2
  have hB : Below w.heap.size w ((((w.alloc (.cells #[.int .i64 1] 3)).alloc (.cells #[.slice (some ⟨w.heap.size, 0, none⟩) 1 1] 49)).alloc (.cells #[.int .i64 2] 3)).alloc (.cells #[.slice (some ⟨w.heap.size + 1 + 1, 0, none⟩) 1 1] 49)) := bel_alloc (bel_alloc (bel_two _ _ _) _) _
  have hR : Ex.Right [[1]] [[2]] 1 := Ex.right_one rfl rfl
  have HE : Hid (Calls _ _ _ _ _) := kexport _ 1 1 _ 1 1 [[1]] [[2]] 1 _ hX hR
  have hsz : (⟨(Ck.exp [[1]] [[2]] 1).toArray⟩ : ByteArray).size = 20 := by rw [bsize, Ck.exp_len hR]; rfl
  have HI : Hid _ := kimport ⟨(Ck.exp [[1]] [[2]] 1).toArray⟩ (by rw [hsz]; omega)
  have HM : Hid (Ck.imp (⟨(Ck.exp [[1]] [[2]] 1).toArray⟩ : ByteArray).data.toList = (([[1]], [[2]], ()), 1, 0)) := by
    show _ = _
    rw [show (⟨(Ck.exp [[1]] [[2]] 1).toArray⟩ : ByteArray).data.toList = Ck.exp [[1]] [[2]] 1 by simp]
    exact Ck.imp_exp hR
  generalize (⟨(Ck.exp [[1]] [[2]] 1).toArray⟩ : ByteArray) = S at *
  have HCut : Hid (∀ w, Calls _ _ _ _ _) := kcut ⟨#[97, 98, 99]⟩ 2 (by omega) (by omega) (by show 3 ≤ _; omega) 2 rfl
  have k3 : ((⟨#[99]⟩ : ByteArray).toList == (⟨#[99]⟩ : ByteArray).toList) = true := by simp
  have k4 : ((⟨#[97, 98, 99]⟩ : ByteArray).toList == (⟨#[97, 98, 99]⟩ : ByteArray).toList) = true := by simp
  clear hX hR
  go_enter Try.func10, Try.ntmps10
  go_wp2_with fail
  refine HE.out.mono ?_
  rintro e u1 ⟨rfl, hb1⟩
  have hB1 := bel_then hB hb1
  clear hB hb1 HE
  go_wp2_with fail
  refine (HI.out u1 _ _ _ _ HM.out).mono ?_
  rintro e u2 ⟨hb2, ai, ni, ci, ao, no, co, rfl, hX2⟩
  have hno := (sliceS_len hX2.o).1
  have hno1 : no = 1 := hno.symm
  subst hno1
  have hB2 := bel_alloc (bel_then hB1 hb2) (.cells #[.slice ai ni ci, .slice ao 1 co] 24)
  have kx := Box.new u2 24 #[.slice ai ni ci, .slice ao 1 co]
  clear hB1 hb2 hX2 hno HI HM
  go_wp2_with fail
  refine (HCut.out _).mono ?_
  rintro e u3 ⟨hb3, a3, c3, rfl, ho3⟩
  have hB3 := bel_then hB2 hb3
  have kx3 := kx.keep hb3
  have y1 := kx3.cell 1 rfl
  rw [show texts (Ck.cut (⟨#[97, 98, 99]⟩ : ByteArray).data.toList 2) = [⟨#[97, 98]⟩, ⟨#[99]⟩] from abc_cut] at ho3
  have hr3 := ho3.is
  obtain ⟨b4, o4, rfl, _, hc4⟩ := (Texts.of_rep hr3).at (show 1 < 2 by omega)
  have hc5 : u3.cell? ⟨b4, o4 + 1, none⟩ = some (.string ⟨#[99]⟩) := hc4
  have HJ : Hid (Calls _ _ _ _ _) := kjoin _ 2 c3 [⟨#[97, 98]⟩, ⟨#[99]⟩] everywhere u3 hr3 (by omega) (by show 3 ≤ _; omega)
  rw [show (⟨(lists [⟨#[97, 98]⟩, ⟨#[99]⟩]).flatten.toArray⟩ : ByteArray) = ⟨#[97, 98, 99]⟩ from rfl] at HJ
  clear hB2 hb3 kx kx3 ho3 hr3 HCut hc4
  go_wp2_with fail
  refine HJ.out.mono ?_
  rintro e u4 ⟨rfl, hb4⟩
  have hB4 := bel_then hB3 hb4
  go_wp2
  go_ret
  exact ⟨rfl, hB4⟩

end Go.Proofs.Ytgbcneiciefkkaa
