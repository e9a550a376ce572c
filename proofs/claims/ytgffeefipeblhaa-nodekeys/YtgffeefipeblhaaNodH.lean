/- The fixed answer of the laws of layer 18. -/
import Derived.Test.YtgffeefipeblhaaNodG
import Derived.Test.YtgffeefipeblhaaPlcE
namespace Go.Proofs.Ytgffeefipeblhaa
open Go.ChangeShapes Go.WideShapes Go.ChangeAt Go.RowKit

namespace Nd
theorem fitsA {v : List Int} (hr : Wx.right ⟨1, 0, 2, 0, 0, 0, 0, 0, 0, 0, v⟩) (ht : Md.TRight 1 [v]) : Fits 1 [Md.lyA] 0 [[2]] 2 ⟨1, 0, 2, 0, 0, 0, 0, 0, 0, 0, v⟩ :=
  ⟨Md.modA_right, ⟨by decide, by decide, fun l hl => by rw [List.mem_singleton.1 hl]; exact ⟨by decide, by decide, by decide⟩⟩, hr, rfl, rfl, by show (0 : Int) < 1; decide, by show (0 : Int) < 1; decide, ht⟩
theorem heldA (v : List Int) : Held 0 [[2]] 2 ⟨1, 0, 2, 0, 0, 0, 0, 0, 0, 0, v⟩ := ⟨rfl, ⟨(by show (0 : Int) ≤ 0; decide), (by show (0 : Int) < 1; decide)⟩, (by show (2 : Int) ∈ [2]; decide)⟩
theorem tok9 : Md.TRight 1 [[9]] := ⟨by decide, by decide, rfl, fun l hl => by rw [List.mem_singleton.1 hl]; exact ⟨rfl, fun n hn => by rw [List.mem_singleton.1 hn]; rfl⟩⟩
theorem awake1 : Tells 1 [Md.lyA] 0 [[2]] 2 [] ⟨1, 0, 2, 0, 0, 0, 0, 0, 0, 0, [7]⟩ [en (ky 0 0 0 0) [7]] ⟨2, 2, 0, 0, 0, 0, 0, 0, 0, 0, [7]⟩ true :=
  .inr (.inr ⟨fitsA (by decide) Md.tokA_right, heldA _, [7], .inr ⟨rfl, by decide +kernel, rfl⟩, rfl, rfl⟩)
theorem awake2 : Tells 1 [Md.lyA] 0 [[2]] 2 [en (ky 0 0 0 0) [7]] ⟨1, 0, 2, 0, 0, 0, 0, 0, 0, 0, [9]⟩ [en (ky 0 0 0 0) [7]] ⟨2, 2, 0, 0, 0, 0, 0, 0, 0, 0, [7]⟩ true :=
  .inr (.inr ⟨fitsA (by decide) tok9, heldA _, [7], .inl ⟨by decide +kernel, rfl⟩, rfl, rfl⟩)
theorem shortA : Dx.Short [en (ky 0 0 0 0) [7]] := ⟨by decide, fun e he => by rw [List.mem_singleton.1 he]; decide⟩
end Nd

set_option maxRecDepth 100000 in
set_option maxHeartbeats 4000000 in
theorem nawake (w : World) : Calls Try.prog 9 #[] w fun e w' => e = .returned (.bool true) ∧ Below w.heap.size w w' := by
  have hv0 := Shape.below (row_lit w [7] 3 (by simp [maxLen])) (bel_two _ (.cells #[.int .i64 1, .int .i64 0, .int .i64 2, .int .i64 0, .int .i64 0, .int .i64 0, .int .i64 0, .int .i64 0, .int .i64 0, .int .i64 0, .slice (some ⟨w.heap.size, 0, none⟩) 1 1] 31) (.cells #[.int .i64 2] 3))
  obtain ⟨V, hV⟩ : ∃ V, V = ((((w.alloc (.cells #[.int .i64 7] 3)).alloc (.cells #[.int .i64 1, .int .i64 0, .int .i64 2, .int .i64 0, .int .i64 0, .int .i64 0, .int .i64 0, .int .i64 0, .int .i64 0, .int .i64 0, .slice (some ⟨w.heap.size, 0, none⟩) 1 1] 31)).alloc (.cells #[.int .i64 2] 3)).alloc (.cells #[.slice (some ⟨w.heap.size + 1 + 1, 0, none⟩) 1 1] 29)).alloc (.cells #[.int .i64 0, .slice (some ⟨w.heap.size + 1 + 1 + 1, 0, none⟩) 1 1] 27) := ⟨_, rfl⟩
  obtain ⟨hB, hv, ka, hp, kp⟩ : Below w.heap.size w V ∧ rowS.rep V everywhere [.slice (some ⟨w.heap.size, 0, none⟩) 1 1] [7] ∧ Box V (w.heap.size + 1) 31 #[.int .i64 1, .int .i64 0, .int .i64 2, .int .i64 0, .int .i64 0, .int .i64 0, .int .i64 0, .int .i64 0, .int .i64 0, .int .i64 0, .slice (some ⟨w.heap.size, 0, none⟩) 1 1] ∧ matS.rep V (w.heap.size + 2 ≤ ·) [.slice (some ⟨w.heap.size + 1 + 1 + 1, 0, none⟩) 1 1] [[2]] ∧ Box V (w.heap.size + 4) 27 #[.int .i64 0, .slice (some ⟨w.heap.size + 1 + 1 + 1, 0, none⟩) 1 1] := by
    subst hV
    have kx := Box.new (w.alloc (.cells #[.int .i64 7] 3)) 31 #[.int .i64 1, .int .i64 0, .int .i64 2, .int .i64 0, .int .i64 0, .int .i64 0, .int .i64 0, .int .i64 0, .int .i64 0, .int .i64 0, .slice (some ⟨w.heap.size, 0, none⟩) 1 1]
    rw [show (w.alloc (.cells #[.int .i64 7] 3)).heap.size = w.heap.size + 1 by simp] at kx
    have hb2 := bel_two w (.cells #[.int .i64 7] 3) (.cells #[.int .i64 1, .int .i64 0, .int .i64 2, .int .i64 0, .int .i64 0, .int .i64 0, .int .i64 0, .int .i64 0, .int .i64 0, .int .i64 0, .slice (some ⟨w.heap.size, 0, none⟩) 1 1] 31)
    have hs2 : ((w.alloc (.cells #[.int .i64 7] 3)).alloc (.cells #[.int .i64 1, .int .i64 0, .int .i64 2, .int .i64 0, .int .i64 0, .int .i64 0, .int .i64 0, .int .i64 0, .int .i64 0, .int .i64 0, .slice (some ⟨w.heap.size, 0, none⟩) 1 1] 31)).heap.size = w.heap.size + 1 + 1 := by simp
    have hv2 := Shape.below (row_lit w [7] 3 (by simp [maxLen])) (new_bel _ (.cells #[.int .i64 1, .int .i64 0, .int .i64 2, .int .i64 0, .int .i64 0, .int .i64 0, .int .i64 0, .int .i64 0, .int .i64 0, .int .i64 0, .slice (some ⟨w.heap.size, 0, none⟩) 1 1] 31))
    have hv2' : rowS.rep ((w.alloc (.cells #[.int .i64 7] 3)).alloc (.cells #[.int .i64 1, .int .i64 0, .int .i64 2, .int .i64 0, .int .i64 0, .int .i64 0, .int .i64 0, .int .i64 0, .int .i64 0, .int .i64 0, .slice (some ⟨w.heap.size, 0, none⟩) 1 1] 31)) everywhere [.slice (some ⟨w.heap.size, 0, none⟩) 1 1] [7] := hv2
    clear hv2
    generalize (w.alloc (.cells #[.int .i64 7] 3)).alloc _ = W at *
    have hm := mat_oneF W 2 (B := w.heap.size + 2) (by omega)
    have hb4 := bel_two W (.cells #[.int .i64 2] 3) (.cells #[.slice (some ⟨W.heap.size, 0, none⟩) 1 1] 29)
    rw [hs2] at hm hb4
    have kx4 := kx.below hb4 (by omega)
    have hv4 : rowS.rep _ _ _ _ := rowS.keep (Shape.low hv2') fun b hb _ => hb4.block b (by omega)
    have hs4 : ((W.alloc (.cells #[.int .i64 2] 3)).alloc (.cells #[.slice (some ⟨w.heap.size + 1 + 1, 0, none⟩) 1 1] 29)).heap.size = w.heap.size + 4 := by simp; omega
    have hB4 : Below w.heap.size w ((W.alloc (.cells #[.int .i64 2] 3)).alloc (.cells #[.slice (some ⟨w.heap.size + 1 + 1, 0, none⟩) 1 1] 29)) := bel_alloc (bel_alloc hb2 _) _
    clear hb4 hb2 kx hv2'
    generalize (W.alloc (.cells #[.int .i64 2] 3)).alloc _ = W4 at *
    have kp := Box.new W4 27 #[.int .i64 0, .slice (some ⟨w.heap.size + 1 + 1 + 1, 0, none⟩) 1 1]
    rw [hs4] at kp
    exact ⟨bel_alloc hB4 _, Shape.any (Shape.below hv4 (new_bel _ _)), kx4.keep (new_bel _ _), Shape.below hm (new_bel _ _), kp⟩
  have HV : Hid (V = ((((w.alloc (.cells #[.int .i64 7] 3)).alloc (.cells #[.int .i64 1, .int .i64 0, .int .i64 2, .int .i64 0, .int .i64 0, .int .i64 0, .int .i64 0, .int .i64 0, .int .i64 0, .int .i64 0, .slice (some ⟨w.heap.size, 0, none⟩) 1 1] 31)).alloc (.cells #[.int .i64 2] 3)).alloc (.cells #[.slice (some ⟨w.heap.size + 1 + 1, 0, none⟩) 1 1] 29)).alloc (.cells #[.int .i64 0, .slice (some ⟨w.heap.size + 1 + 1 + 1, 0, none⟩) 1 1] 27)) := hV
  clear hV hv0
  have HT : Hid (∀ u, Calls Try.prog 15 #[] u fun e w' => Below u.heap.size u w' ∧ ∃ a, e = .returned (.agg #[.int .i64 1, .slice a 1 1]) ∧ lysS.rep w' (u.heap.size + 1 ≤ ·) [.slice a 1 1] [Md.lyA]) := ntiny
  have HN : Hid (∀ u, Below V.heap.size V u → ∀ a1, lysS.rep u everywhere [.slice a1 1 1] [Md.lyA] → Calls Try.prog 10 #[.agg #[.int .i64 1, .slice a1 1 1], .agg #[.int .i64 0, .slice (some ⟨w.heap.size + 1 + 1 + 1, 0, none⟩) 1 1], .int .i64 2, .slice none 0 0, .agg #[.int .i64 1, .int .i64 0, .int .i64 2, .int .i64 0, .int .i64 0, .int .i64 0, .int .i64 0, .int .i64 0, .int .i64 0, .int .i64 0, .slice (some ⟨w.heap.size, 0, none⟩) 1 1]] u fun e w' => Below u.heap.size u w' ∧ ∃ a' c' ya yc, e = .returned (.tuple #[.slice a' 1 c', .agg #[.int .i64 2, .int .i64 2, .int .i64 0, .int .i64 0, .int .i64 0, .int .i64 0, .int .i64 0, .int .i64 0, .int .i64 0, .int .i64 0, .slice ya 1 yc], .bool true]) ∧ ensS.rep w' (fun b => False ∨ u.heap.size ≤ b) [.slice a' 1 c'] [en (ky 0 0 0 0) [7]] ∧ rowS.rep w' (u.heap.size ≤ ·) [.slice ya 1 yc] [7]) := fun u hu a1 hl =>
    nwork (P := fun _ => False) 1 a1 1 1 [Md.lyA] 0 _ 1 1 [[2]] 2 none 0 0 [] 1 0 2 0 0 0 0 0 0 0 _ 1 1 [7] u ⟨hl, by omega, fun l hl => by rw [List.mem_singleton.1 hl]; exact Md.right_lsized Md.lyA_right (by omega), Shape.any (Shape.below hp hu), ⟨by decide, fun l hl => by rw [List.mem_singleton.1 hl]; decide⟩, rep_none _ _ _, fun b hb => hb.elim, Dx.short_nil, Shape.below hv hu, by omega⟩ _ 2 2 0 0 0 0 0 0 0 0 [7] true Nd.awake1 1 rfl 1 rfl
  have HS : Hid (∀ u, Below V.heap.size V u → u.cell? ⟨w.heap.size + 4, 0, none⟩ = some (.int .i64 0) ∧ u.cell? ⟨w.heap.size + 4, 1, none⟩ = some (.slice (some ⟨w.heap.size + 1 + 1 + 1, 0, none⟩) 1 1) ∧ u.cell? ⟨w.heap.size + 1, 0, none⟩ = some (.int .i64 1) ∧ u.cell? ⟨w.heap.size + 1, 1, none⟩ = some (.int .i64 0) ∧ u.cell? ⟨w.heap.size + 1, 2, none⟩ = some (.int .i64 2) ∧ u.cell? ⟨w.heap.size + 1, 3, none⟩ = some (.int .i64 0) ∧ u.cell? ⟨w.heap.size + 1, 4, none⟩ = some (.int .i64 0) ∧ u.cell? ⟨w.heap.size + 1, 5, none⟩ = some (.int .i64 0) ∧ u.cell? ⟨w.heap.size + 1, 6, none⟩ = some (.int .i64 0) ∧ u.cell? ⟨w.heap.size + 1, 7, none⟩ = some (.int .i64 0) ∧ u.cell? ⟨w.heap.size + 1, 8, none⟩ = some (.int .i64 0) ∧ u.cell? ⟨w.heap.size + 1, 9, none⟩ = some (.int .i64 0) ∧ u.cell? ⟨w.heap.size + 1, 10, none⟩ = some (.slice (some ⟨w.heap.size, 0, none⟩) 1 1)) := fun u hu => by
    have k := kp.keep hu
    have q := ka.keep hu
    exact ⟨k.cell 0 rfl, k.cell 1 rfl, q.cell 0 rfl, q.cell 1 rfl, q.cell 2 rfl, q.cell 3 rfl, q.cell 4 rfl, q.cell 5 rfl, q.cell 6 rfl, q.cell 7 rfl, q.cell 8 rfl, q.cell 9 rfl, q.cell 10 rfl⟩
  go_enter Try.func9, Try.ntmps9
  go_upto_region 3 with fail
  rw [← HV.out]
  clear HV
  go_cut [3, 4, 5] from 9 (fun v3 v4 v5 wx => ∃ a c g ya yc, v3 = .slice a 1 c ∧ v4 = .pointer (some ⟨g, 0, none⟩) ∧ v5 = .bool true ∧ Box wx g 31 #[.int .i64 2, .int .i64 2, .int .i64 0, .int .i64 0, .int .i64 0, .int .i64 0, .int .i64 0, .int .i64 0, .int .i64 0, .int .i64 0, .slice ya 1 yc] ∧ ensS.rep wx (V.heap.size ≤ ·) [.slice a 1 c] [en (ky 0 0 0 0) [7]] ∧ V.heap.size ≤ g ∧ Below V.heap.size V wx)
  case first =>
    rename_i Jx Kx hRJ hMK
    have hD : Below V.heap.size V V.drew := (Below.refl _ V).drew
    have hDA : Below V.heap.size V (V.drew.alloc (.cells #[.int .i64 0, .int .i64 0, .int .i64 0, .int .i64 0, .int .i64 0, .int .i64 0, .int .i64 0, .int .i64 0, .int .i64 0, .int .i64 0, .slice none 0 0] 31)) := bel_alloc hD _
    obtain ⟨i1, i2, i3, i4, i5, i6, i7, i8, i9, i10, i11, i12, i13⟩ := HS.out V (Below.refl _ _)
    have kM0 : Box (V.drew.alloc (.cells #[.int .i64 0, .int .i64 0, .int .i64 0, .int .i64 0, .int .i64 0, .int .i64 0, .int .i64 0, .int .i64 0, .int .i64 0, .int .i64 0, .slice none 0 0] 31)) V.heap.size 31 #[.int .i64 0, .int .i64 0, .int .i64 0, .int .i64 0, .int .i64 0, .int .i64 0, .int .i64 0, .int .i64 0, .int .i64 0, .int .i64 0, .slice none 0 0] := Box.new V.drew _ _
    go_region_held3 (fun u => u.cell? ⟨w.heap.size + 4, 0, none⟩ = some (.int .i64 0) ∧ u.cell? ⟨w.heap.size + 4, 1, none⟩ = some (.slice (some ⟨w.heap.size + 1 + 1 + 1, 0, none⟩) 1 1) ∧ u.cell? ⟨w.heap.size + 1, 0, none⟩ = some (.int .i64 1) ∧ u.cell? ⟨w.heap.size + 1, 1, none⟩ = some (.int .i64 0) ∧ u.cell? ⟨w.heap.size + 1, 2, none⟩ = some (.int .i64 2) ∧ u.cell? ⟨w.heap.size + 1, 3, none⟩ = some (.int .i64 0) ∧ u.cell? ⟨w.heap.size + 1, 4, none⟩ = some (.int .i64 0) ∧ u.cell? ⟨w.heap.size + 1, 5, none⟩ = some (.int .i64 0) ∧ u.cell? ⟨w.heap.size + 1, 6, none⟩ = some (.int .i64 0) ∧ u.cell? ⟨w.heap.size + 1, 7, none⟩ = some (.int .i64 0) ∧ u.cell? ⟨w.heap.size + 1, 8, none⟩ = some (.int .i64 0) ∧ u.cell? ⟨w.heap.size + 1, 9, none⟩ = some (.int .i64 0) ∧ u.cell? ⟨w.heap.size + 1, 10, none⟩ = some (.slice (some ⟨w.heap.size, 0, none⟩) 1 1))
      (first
        | exact HS.out _ (by first | with_reducible assumption | with_reducible exact Below.refl _ _ | (with_reducible refine bel_alloc ?_ _; with_reducible assumption) | (with_reducible refine bel_all11 ?_ ?_ _ _ _ _ _ _ _ _ _ _ _; (first | with_reducible assumption | (with_reducible refine bel_alloc ?_ _; with_reducible assumption)); omega))
        | go_keep)
      (first
        | (go_at_call 15; refine (HT.out _).mono ?_; rintro e u1 ⟨hb1, a1, rfl, hl1⟩; have hd1 : Below V.heap.size V u1 := (by first | exact bel_then hDA hb1 | exact bel_then hD hb1); have hs1 := hd1.size; (try (have kM := kM0.keep hb1)))
        | (go_at_call 10; refine (HN.out _ (by first | assumption | exact bel_alloc (by assumption) _) a1 (by first | exact Shape.any hl1 | exact Shape.any (Shape.below hl1 (new_bel _ _)))).mono ?_; rintro e u2 ⟨hb2, aw, cw, ya, yc, rfl, hr2, hy2⟩; have hd2 : Below V.heap.size V u2 := (by first | exact bel_then hd1 hb2 | exact bel_then (bel_alloc hd1 _) hb2); have hs2 := hd2.size; (try (have kM2 := kM.keep hb2; have c0 := kM2.cell 0 rfl; have c1 := kM2.cell 1 rfl; have c2 := kM2.cell 2 rfl; have c3 := kM2.cell 3 rfl; have c4 := kM2.cell 4 rfl; have c5 := kM2.cell 5 rfl; have c6 := kM2.cell 6 rfl; have c7 := kM2.cell 7 rfl; have c8 := kM2.cell 8 rfl; have c9 := kM2.cell 9 rfl; have c10 := kM2.cell 10 rfl; have f0 := kM2.free 0; have f1 := kM2.free 1; have f2 := kM2.free 2; have f3 := kM2.free 3; have f4 := kM2.free 4; have f5 := kM2.free 5; have f6 := kM2.free 6; have f7 := kM2.free 7; have f8 := kM2.free 8; have f9 := kM2.free 9; have f10 := kM2.free 10)); (try (have kM3 := (Box.new u1 31 #[.int .i64 0, .int .i64 0, .int .i64 0, .int .i64 0, .int .i64 0, .int .i64 0, .int .i64 0, .int .i64 0, .int .i64 0, .int .i64 0, .slice none 0 0]).keep hb2; have c0 := kM3.cell 0 rfl; have c1 := kM3.cell 1 rfl; have c2 := kM3.cell 2 rfl; have c3 := kM3.cell 3 rfl; have c4 := kM3.cell 4 rfl; have c5 := kM3.cell 5 rfl; have c6 := kM3.cell 6 rfl; have c7 := kM3.cell 7 rfl; have c8 := kM3.cell 8 rfl; have c9 := kM3.cell 9 rfl; have c10 := kM3.cell 10 rfl; have f0 := kM3.free 0; have f1 := kM3.free 1; have f2 := kM3.free 2; have f3 := kM3.free 3; have f4 := kM3.free 4; have f5 := kM3.free 5; have f6 := kM3.free 6; have f7 := kM3.free 7; have f8 := kM3.free 8; have f9 := kM3.free 9; have f10 := kM3.free 10)); (have kM4 := Box.new u2 31 #[.int .i64 0, .int .i64 0, .int .i64 0, .int .i64 0, .int .i64 0, .int .i64 0, .int .i64 0, .int .i64 0, .int .i64 0, .int .i64 0, .slice none 0 0]; have d0 := kM4.cell 0 rfl; have d1 := kM4.cell 1 rfl; have d2 := kM4.cell 2 rfl; have d3 := kM4.cell 3 rfl; have d4 := kM4.cell 4 rfl; have d5 := kM4.cell 5 rfl; have d6 := kM4.cell 6 rfl; have d7 := kM4.cell 7 rfl; have d8 := kM4.cell 8 rfl; have d9 := kM4.cell 9 rfl; have d10 := kM4.cell 10 rfl; have e0 := kM4.free 0; have e1 := kM4.free 1; have e2 := kM4.free 2; have e3 := kM4.free 3; have e4 := kM4.free 4; have e5 := kM4.free 5; have e6 := kM4.free 6; have e7 := kM4.free 7; have e8 := kM4.free 8; have e9 := kM4.free 9; have e10 := kM4.free 10)))
    all_goals
      refine hMK _ _ (Met.intro (hRJ _ _ ?_))
      (repeat apply Exists.intro)
      refine ⟨?_, rfl⟩
    all_goals
      first
        | (have hx := kM2.all11 (.int .i64 2) (.int .i64 2) (.int .i64 0) (.int .i64 0) (.int .i64 0) (.int .i64 0) (.int .i64 0) (.int .i64 0) (.int .i64 0) (.int .i64 0) (.slice ya 1 yc); have hlt : V.heap.size < u1.heap.size := (by have h9 := kM.lt; exact h9); have hrA := ensS.mono (F' := (V.heap.size < ·)) hr2 (fun b hb _ => hb.elim False.elim (fun h => by show V.heap.size < b; omega)); exact ⟨aw, cw, V.heap.size, ya, yc, rfl, rfl, rfl, hx, ensS.mono (rep_all11 hrA (fun b hb => by have h9 : V.heap.size < b := hb; omega) _ _ _ _ _ _ _ _ _ _ _) (fun b hb _ => Nat.le_of_lt hb), Nat.le_refl _, bel_all11 hd2 (Nat.le_refl _) _ _ _ _ _ _ _ _ _ _ _⟩)
        | (have hx := kM3.all11 (.int .i64 2) (.int .i64 2) (.int .i64 0) (.int .i64 0) (.int .i64 0) (.int .i64 0) (.int .i64 0) (.int .i64 0) (.int .i64 0) (.int .i64 0) (.slice ya 1 yc); have hrA := ensS.mono (F' := (u1.heap.size < ·)) hr2 (fun b hb _ => hb.elim False.elim (fun h => by show u1.heap.size < b; simp at h; omega)); exact ⟨aw, cw, u1.heap.size, ya, yc, rfl, rfl, rfl, hx, ensS.mono (rep_all11 hrA (fun b hb => by have h9 : u1.heap.size < b := hb; omega) _ _ _ _ _ _ _ _ _ _ _) (fun b hb _ => by have h9 : u1.heap.size < b := hb; show V.heap.size ≤ b; omega), hs1, bel_all11 hd2 hs1 _ _ _ _ _ _ _ _ _ _ _⟩)
        | exact ⟨aw, cw, u2.heap.size, ya, yc, rfl, rfl, rfl, Box.new _ _ _, ensS.mono (Shape.below hr2 (new_bel _ _)) (fun b hb _ => hb.elim False.elim (fun h => by show V.heap.size ≤ b; omega)), hs2, bel_alloc hd2 _⟩
  case rest =>
    obtain ⟨a, c, g, ya, yc, rfl, rfl, rfl, kg, hr, hgV, hBV⟩ := hcut
    clear HS HN
    have hVs : w.heap.size + 4 < V.heap.size := kp.lt
    have hbn := new_bel wc (.cells #[.int .i64 9] 3)
    have hbV9 := bel_then hBV hbn
    have ka9 := ka.keep hbV9
    have hwV : V.heap.size ≤ wc.heap.size := hBV.size
    have hv9 := rep_put (b := w.heap.size + 1) (i := 10) (row_oneF wc 9 (Nat.le_refl _)) (fun b (hb : wc.heap.size ≤ b) => by omega) (.slice (some ⟨wc.heap.size, 0, none⟩) 1 1)
    have hr9 := rep_put (b := w.heap.size + 1) (i := 10) (Shape.below hr hbn) (fun b (hb : V.heap.size ≤ b) => by omega) (.slice (some ⟨wc.heap.size, 0, none⟩) 1 1)
    have hp9 := rep_put (b := w.heap.size + 1) (i := 10) (Shape.below hp hbV9) (fun b (hb : w.heap.size + 2 ≤ b) => by omega) (.slice (some ⟨wc.heap.size, 0, none⟩) 1 1)
    have kg9 := (kg.keep hbn).other (b2 := w.heap.size + 1) (i := 10) (.slice (some ⟨wc.heap.size, 0, none⟩) 1 1) (by omega)
    have kp9 := (kp.keep hbV9).other (b2 := w.heap.size + 1) (i := 10) (.slice (some ⟨wc.heap.size, 0, none⟩) 1 1) (by omega)
    have ka10 := ka9.set10 (.slice (some ⟨wc.heap.size, 0, none⟩) 1 1)
    have hB9 := bel_put (i := 10) (bel_then hB hbV9) (by omega : w.heap.size ≤ w.heap.size + 1) (.slice (some ⟨wc.heap.size, 0, none⟩) 1 1)
    have z10 := ka9.cell 10 rfl
    have f10 := ka9.free 10
    clear hv ka hp kp kg hr hBV hB hbn hbV9 ka9
    go_upto_region 5 with fail
    clear z10 f10
    generalize (wc.alloc (.cells #[.int .i64 9] 3)).setCell _ _ = V2 at *
    generalize wc.heap.size = g9 at *
    have HN : Hid (∀ u, Below V2.heap.size V2 u → ∀ a1, lysS.rep u everywhere [.slice a1 1 1] [Md.lyA] → Calls Try.prog 10 #[.agg #[.int .i64 1, .slice a1 1 1], .agg #[.int .i64 0, .slice (some ⟨w.heap.size + 1 + 1 + 1, 0, none⟩) 1 1], .int .i64 2, .slice a 1 c, .agg #[.int .i64 1, .int .i64 0, .int .i64 2, .int .i64 0, .int .i64 0, .int .i64 0, .int .i64 0, .int .i64 0, .int .i64 0, .int .i64 0, .slice (some ⟨g9, 0, none⟩) 1 1]] u fun e w' => Below u.heap.size u w' ∧ ∃ a' c' ya yc, e = .returned (.tuple #[.slice a' 1 c', .agg #[.int .i64 2, .int .i64 2, .int .i64 0, .int .i64 0, .int .i64 0, .int .i64 0, .int .i64 0, .int .i64 0, .int .i64 0, .int .i64 0, .slice ya 1 yc], .bool true]) ∧ ensS.rep w' (fun b => b < V2.heap.size ∨ u.heap.size ≤ b) [.slice a' 1 c'] [en (ky 0 0 0 0) [7]] ∧ rowS.rep w' (u.heap.size ≤ ·) [.slice ya 1 yc] [7]) := fun u hu a1 hl =>
      nwork (P := (· < V2.heap.size)) 1 a1 1 1 [Md.lyA] 0 _ 1 1 [[2]] 2 a 1 c [en (ky 0 0 0 0) [7]] 1 0 2 0 0 0 0 0 0 0 _ 1 1 [9] u ⟨hl, by omega, fun l hl => by rw [List.mem_singleton.1 hl]; exact Md.right_lsized Md.lyA_right (by omega), Shape.any (Shape.below hp9 hu), ⟨by decide, fun l hl => by rw [List.mem_singleton.1 hl]; decide⟩, Shape.now (Shape.low hr9) hu, fun b hb => Nat.lt_of_lt_of_le hb hu.size, Nd.shortA, Shape.any (Shape.below hv9 hu), by omega⟩ _ 2 2 0 0 0 0 0 0 0 0 [7] true Nd.awake2 1 rfl 1 rfl
    have HS : Hid (∀ u, Below V2.heap.size V2 u → u.cell? ⟨w.heap.size + 4, 0, none⟩ = some (.int .i64 0) ∧ u.cell? ⟨w.heap.size + 4, 1, none⟩ = some (.slice (some ⟨w.heap.size + 1 + 1 + 1, 0, none⟩) 1 1) ∧ u.cell? ⟨w.heap.size + 1, 0, none⟩ = some (.int .i64 1) ∧ u.cell? ⟨w.heap.size + 1, 1, none⟩ = some (.int .i64 0) ∧ u.cell? ⟨w.heap.size + 1, 2, none⟩ = some (.int .i64 2) ∧ u.cell? ⟨w.heap.size + 1, 3, none⟩ = some (.int .i64 0) ∧ u.cell? ⟨w.heap.size + 1, 4, none⟩ = some (.int .i64 0) ∧ u.cell? ⟨w.heap.size + 1, 5, none⟩ = some (.int .i64 0) ∧ u.cell? ⟨w.heap.size + 1, 6, none⟩ = some (.int .i64 0) ∧ u.cell? ⟨w.heap.size + 1, 7, none⟩ = some (.int .i64 0) ∧ u.cell? ⟨w.heap.size + 1, 8, none⟩ = some (.int .i64 0) ∧ u.cell? ⟨w.heap.size + 1, 9, none⟩ = some (.int .i64 0) ∧ u.cell? ⟨w.heap.size + 1, 10, none⟩ = some (.slice (some ⟨g9, 0, none⟩) 1 1)) := fun u hu => by
      have k := kp9.keep hu
      have q := ka10.keep hu
      exact ⟨k.cell 0 rfl, k.cell 1 rfl, q.cell 0 rfl, q.cell 1 rfl, q.cell 2 rfl, q.cell 3 rfl, q.cell 4 rfl, q.cell 5 rfl, q.cell 6 rfl, q.cell 7 rfl, q.cell 8 rfl, q.cell 9 rfl, q.cell 10 rfl⟩
    clear hv9 hr9 hp9 kp9 ka10
    go_cut [6, 7, 8] from 9 (fun v6 v7 v8 wx => ∃ a c g ya yc, v6 = .slice a 1 c ∧ v7 = .pointer (some ⟨g, 0, none⟩) ∧ v8 = .bool true ∧ Box wx g 31 #[.int .i64 2, .int .i64 2, .int .i64 0, .int .i64 0, .int .i64 0, .int .i64 0, .int .i64 0, .int .i64 0, .int .i64 0, .int .i64 0, .slice ya 1 yc] ∧ rowS.rep wx (V2.heap.size ≤ ·) [.slice ya 1 yc] [7] ∧ V2.heap.size ≤ g ∧ Below V2.heap.size V2 wx)
    case first =>
      rename_i Jx Kx hRJ hMK
      have hD : Below V2.heap.size V2 V2.drew := (Below.refl _ V2).drew
      have hDA : Below V2.heap.size V2 (V2.drew.alloc (.cells #[.int .i64 0, .int .i64 0, .int .i64 0, .int .i64 0, .int .i64 0, .int .i64 0, .int .i64 0, .int .i64 0, .int .i64 0, .int .i64 0, .slice none 0 0] 31)) := bel_alloc hD _
      obtain ⟨i1, i2, i3, i4, i5, i6, i7, i8, i9, i10, i11, i12, i13⟩ := HS.out V2 (Below.refl _ _)
      have kM0 : Box (V2.drew.alloc (.cells #[.int .i64 0, .int .i64 0, .int .i64 0, .int .i64 0, .int .i64 0, .int .i64 0, .int .i64 0, .int .i64 0, .int .i64 0, .int .i64 0, .slice none 0 0] 31)) V2.heap.size 31 #[.int .i64 0, .int .i64 0, .int .i64 0, .int .i64 0, .int .i64 0, .int .i64 0, .int .i64 0, .int .i64 0, .int .i64 0, .int .i64 0, .slice none 0 0] := Box.new V2.drew _ _
      go_region_held3 (fun u => u.cell? ⟨w.heap.size + 4, 0, none⟩ = some (.int .i64 0) ∧ u.cell? ⟨w.heap.size + 4, 1, none⟩ = some (.slice (some ⟨w.heap.size + 1 + 1 + 1, 0, none⟩) 1 1) ∧ u.cell? ⟨w.heap.size + 1, 0, none⟩ = some (.int .i64 1) ∧ u.cell? ⟨w.heap.size + 1, 1, none⟩ = some (.int .i64 0) ∧ u.cell? ⟨w.heap.size + 1, 2, none⟩ = some (.int .i64 2) ∧ u.cell? ⟨w.heap.size + 1, 3, none⟩ = some (.int .i64 0) ∧ u.cell? ⟨w.heap.size + 1, 4, none⟩ = some (.int .i64 0) ∧ u.cell? ⟨w.heap.size + 1, 5, none⟩ = some (.int .i64 0) ∧ u.cell? ⟨w.heap.size + 1, 6, none⟩ = some (.int .i64 0) ∧ u.cell? ⟨w.heap.size + 1, 7, none⟩ = some (.int .i64 0) ∧ u.cell? ⟨w.heap.size + 1, 8, none⟩ = some (.int .i64 0) ∧ u.cell? ⟨w.heap.size + 1, 9, none⟩ = some (.int .i64 0) ∧ u.cell? ⟨w.heap.size + 1, 10, none⟩ = some (.slice (some ⟨g9, 0, none⟩) 1 1))
        (first
          | exact HS.out _ (by first | with_reducible assumption | with_reducible exact Below.refl _ _ | (with_reducible refine bel_alloc ?_ _; with_reducible assumption) | (with_reducible refine bel_all11 ?_ ?_ _ _ _ _ _ _ _ _ _ _ _; (first | with_reducible assumption | (with_reducible refine bel_alloc ?_ _; with_reducible assumption)); omega))
          | go_keep)
        (first
          | (go_at_call 15; refine (HT.out _).mono ?_; rintro e u1 ⟨hb1, a1, rfl, hl1⟩; have hd1 : Below V2.heap.size V2 u1 := (by first | exact bel_then hDA hb1 | exact bel_then hD hb1); have hs1 := hd1.size; (try (have kM := kM0.keep hb1)))
          | (go_at_call 10; refine (HN.out _ (by first | assumption | exact bel_alloc (by assumption) _) a1 (by first | exact Shape.any hl1 | exact Shape.any (Shape.below hl1 (new_bel _ _)))).mono ?_; rintro e u2 ⟨hb2, aw, cw, ya, yc, rfl, hr2, hy2⟩; have hd2 : Below V2.heap.size V2 u2 := (by first | exact bel_then hd1 hb2 | exact bel_then (bel_alloc hd1 _) hb2); have hs2 := hd2.size; (try (have kM2 := kM.keep hb2; have c0 := kM2.cell 0 rfl; have c1 := kM2.cell 1 rfl; have c2 := kM2.cell 2 rfl; have c3 := kM2.cell 3 rfl; have c4 := kM2.cell 4 rfl; have c5 := kM2.cell 5 rfl; have c6 := kM2.cell 6 rfl; have c7 := kM2.cell 7 rfl; have c8 := kM2.cell 8 rfl; have c9 := kM2.cell 9 rfl; have c10 := kM2.cell 10 rfl; have f0 := kM2.free 0; have f1 := kM2.free 1; have f2 := kM2.free 2; have f3 := kM2.free 3; have f4 := kM2.free 4; have f5 := kM2.free 5; have f6 := kM2.free 6; have f7 := kM2.free 7; have f8 := kM2.free 8; have f9 := kM2.free 9; have f10 := kM2.free 10)); (try (have kM3 := (Box.new u1 31 #[.int .i64 0, .int .i64 0, .int .i64 0, .int .i64 0, .int .i64 0, .int .i64 0, .int .i64 0, .int .i64 0, .int .i64 0, .int .i64 0, .slice none 0 0]).keep hb2; have c0 := kM3.cell 0 rfl; have c1 := kM3.cell 1 rfl; have c2 := kM3.cell 2 rfl; have c3 := kM3.cell 3 rfl; have c4 := kM3.cell 4 rfl; have c5 := kM3.cell 5 rfl; have c6 := kM3.cell 6 rfl; have c7 := kM3.cell 7 rfl; have c8 := kM3.cell 8 rfl; have c9 := kM3.cell 9 rfl; have c10 := kM3.cell 10 rfl; have f0 := kM3.free 0; have f1 := kM3.free 1; have f2 := kM3.free 2; have f3 := kM3.free 3; have f4 := kM3.free 4; have f5 := kM3.free 5; have f6 := kM3.free 6; have f7 := kM3.free 7; have f8 := kM3.free 8; have f9 := kM3.free 9; have f10 := kM3.free 10)); (have kM4 := Box.new u2 31 #[.int .i64 0, .int .i64 0, .int .i64 0, .int .i64 0, .int .i64 0, .int .i64 0, .int .i64 0, .int .i64 0, .int .i64 0, .int .i64 0, .slice none 0 0]; have d0 := kM4.cell 0 rfl; have d1 := kM4.cell 1 rfl; have d2 := kM4.cell 2 rfl; have d3 := kM4.cell 3 rfl; have d4 := kM4.cell 4 rfl; have d5 := kM4.cell 5 rfl; have d6 := kM4.cell 6 rfl; have d7 := kM4.cell 7 rfl; have d8 := kM4.cell 8 rfl; have d9 := kM4.cell 9 rfl; have d10 := kM4.cell 10 rfl; have e0 := kM4.free 0; have e1 := kM4.free 1; have e2 := kM4.free 2; have e3 := kM4.free 3; have e4 := kM4.free 4; have e5 := kM4.free 5; have e6 := kM4.free 6; have e7 := kM4.free 7; have e8 := kM4.free 8; have e9 := kM4.free 9; have e10 := kM4.free 10)))
      all_goals
        refine hMK _ _ (Met.intro (hRJ _ _ ?_))
        (repeat apply Exists.intro)
        refine ⟨?_, rfl⟩
      all_goals
        first
          | (have hx := kM2.all11 (.int .i64 2) (.int .i64 2) (.int .i64 0) (.int .i64 0) (.int .i64 0) (.int .i64 0) (.int .i64 0) (.int .i64 0) (.int .i64 0) (.int .i64 0) (.slice ya 1 yc); have hlt : V2.heap.size < u1.heap.size := (by have h9 := kM.lt; exact h9); have hrA := rowS.mono (F' := (V2.heap.size < ·)) hy2 (fun b (h : u1.heap.size ≤ b) _ => by show V2.heap.size < b; omega); exact ⟨aw, cw, V2.heap.size, ya, yc, rfl, rfl, rfl, hx, rowS.mono (rep_all11 hrA (fun b hb => by have h9 : V2.heap.size < b := hb; omega) _ _ _ _ _ _ _ _ _ _ _) (fun b hb _ => Nat.le_of_lt hb), Nat.le_refl _, bel_all11 hd2 (Nat.le_refl _) _ _ _ _ _ _ _ _ _ _ _⟩)
          | (have hx := kM3.all11 (.int .i64 2) (.int .i64 2) (.int .i64 0) (.int .i64 0) (.int .i64 0) (.int .i64 0) (.int .i64 0) (.int .i64 0) (.int .i64 0) (.int .i64 0) (.slice ya 1 yc); have hrA := rowS.mono (F' := (u1.heap.size < ·)) hy2 (fun b h _ => by show u1.heap.size < b; simp at h; omega); exact ⟨aw, cw, u1.heap.size, ya, yc, rfl, rfl, rfl, hx, rowS.mono (rep_all11 hrA (fun b hb => by have h9 : u1.heap.size < b := hb; omega) _ _ _ _ _ _ _ _ _ _ _) (fun b hb _ => by have h9 : u1.heap.size < b := hb; show V2.heap.size ≤ b; omega), hs1, bel_all11 hd2 hs1 _ _ _ _ _ _ _ _ _ _ _⟩)
          | exact ⟨aw, cw, u2.heap.size, ya, yc, rfl, rfl, rfl, Box.new _ _ _, rowS.mono (Shape.below hy2 (new_bel _ _)) (fun b (h : u1.heap.size ≤ b) _ => by show V2.heap.size ≤ b; omega), hs2, bel_alloc hd2 _⟩
    case rest =>
      obtain ⟨a', c', g', ya', yc', rfl, rfl, rfl, kg', hy', hgV', hBV'⟩ := hcut
      have kg1 := kg9.keep hBV'
      have m0 := kg1.cell 0 rfl
      have m1 := kg1.cell 1 rfl
      have n10 := kg'.cell 10 rfl
      obtain ⟨b5, o5, rfl, _, hc5⟩ := (Row.of_rep hy').at (j := 0) (by omega)
      rw [Nat.add_zero] at hc5
      simp only [List.getD_cons_zero] at hc5
      have HB : Hid (Below _ _ _) := bel_then hB9 hBV'
      clear HN HS kg9 kg1 kg' hy' hB9
      go_wp2
      go_ret
      exact ⟨rfl, HB.out⟩
end Go.Proofs.Ytgffeefipeblhaa
