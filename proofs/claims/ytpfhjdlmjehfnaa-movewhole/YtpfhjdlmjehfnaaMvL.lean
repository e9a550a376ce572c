/- The fixed answer of the laws of layer 22. -/
import Derived.Test.YtpfhjdlmjehfnaaMvI
import Derived.Test.YtpfhjdlmjehfnaaMvC
import Derived.Test.YtpfhjdlmjehfnaaMvD
import Derived.Test.YtpfhjdlmjehfnaaMvE
import Derived.Test.YtpfhjdlmjehfnaaMr
namespace Go.Proofs.Ytpfhjdlmjehfnaa
open Go.ChangeShapes Go.WideShapes Go.ChangeAt Go.RowKit



namespace Mq
theorem ab_begin : Begin 0 [[1]] 0 1 2 ⟨#[97, 98]⟩ 1 0 1 2 1 (Cx.sum [97, 98] : Int) [false, false] [noText, noText] (pieces (lst ⟨#[97, 98]⟩) 1) 0 :=
  plain_begin (s := ⟨#[97, 98]⟩) (k := 1) ⟨by decide, by decide⟩ (by decide) (by decide) ⟨by decide, by decide⟩
theorem ab_one (S : Int) : Piece 1 S [false, false] [noText, noText] 1 ⟨#[98]⟩ 1 [false, true] [noText, ⟨#[98]⟩] 0 :=
  .inr (.inr (.inl ⟨⟨rfl, rfl, by decide, by decide⟩, rfl, rfl, rfl, rfl, rfl, rfl⟩))
theorem ab_two {S : Int} (h : (Cx.sum [97, 98] : Int) = S) : Piece 1 S [false, true] [noText, ⟨#[98]⟩] 0 ⟨#[97]⟩ 2 [true, true] [⟨#[97]⟩, ⟨#[98]⟩] 0 :=
  .inr (.inr (.inr (.inr ⟨⟨rfl, rfl, by decide, by decide⟩, rfl, rfl, rfl, rfl, h, rfl, rfl⟩)))
theorem short_two {H : List Bool} {G : List ByteArray} (h1 : H.length = 2) (h2 : G.length = 2) (h : ∀ x ∈ G, x.size ≤ 1) : Short H G := ⟨by omega, by omega, fun x hx => by have := h x hx; omega⟩
theorem ab_short0 : Short [false, false] [noText, noText] := short_two rfl rfl (by decide)
theorem ab_short1 : Short [false, true] [noText, ⟨#[98]⟩] := short_two rfl rfl (by decide)
theorem ab_text : Text 2 [⟨#[97]⟩, ⟨#[98]⟩] ⟨#[97, 98]⟩ true := .inl ⟨.inl rfl, rfl, rfl⟩
end Mq
set_option maxRecDepth 100000 in
set_option maxHeartbeats 4000000 in
theorem mawake (w : World) : Calls Try.prog 11 #[] w fun r w' => r = .returned (.bool true) ∧ Below w.heap.size w w' := by
  obtain ⟨S, hS⟩ : ∃ S : Int, (Cx.sum [97, 98] : Int) = S := ⟨_, rfl⟩
  have HI := hidL Mq.ab_begin
  rw [hS] at HI
  have HP2 := hidL (Mq.ab_two hS)
  generalize Mq.pieces (Mq.lst ⟨#[97, 98]⟩) 1 = L at *
  clear hS
  go_enter Try.func11, Try.ntmps11
  go_wp2_with fail
  refine (mplain w).mono ?_
  rintro r u1 ⟨hb1, a, rfl, hm⟩
  have HC1 : Hid (Calls _ _ _ _ _) := mbegin 0 a 1 1 [[1]] 0 1 2 ⟨#[97, 98]⟩ 1 0 1 2 1 S _ _ L 0 u1 (Shape.any hm) Mq.plain_sized (by decide) HI.out
  clear HI hm
  go_wp2_with fail
  refine HC1.out.mono ?_
  rintro r u2 ⟨hb2, ha, nh, hc, ga, gc, la, lc, rfl, hH, hG, hL⟩
  obtain rfl : nh = 2 := (sliceS_len hH).1.symm
  have hbn := new_bel u2 (.cells #[.int .i64 0, .int .i64 1, .int .i64 2, .int .i64 1, .int .i64 S, .slice ha 2 hc, .slice ga 2 gc] 30)
  have km := Box.new u2 30 #[.int .i64 0, .int .i64 1, .int .i64 2, .int .i64 1, .int .i64 S, .slice ha 2 hc, .slice ga 2 gc]
  have HB2 := hidL (bel_then (bel_then hb1 hb2) hbn)
  have hH2 := Shape.any (Shape.below hH hbn)
  have hG2 := Shape.any (Shape.below hG hbn)
  have HMw : Hid (w.heap.size ≤ u2.heap.size) := Nat.le_trans hb1.size hb2.size
  clear hH hG hL hb1 hb2 hbn HC1
  have c0 := km.cell 0 rfl; have c1 := km.cell 1 rfl; have c2 := km.cell 2 rfl; have c3 := km.cell 3 rfl; have c4 := km.cell 4 rfl; have c5 := km.cell 5 rfl; have c6 := km.cell 6 rfl
  go_wp2_with fail
  generalize u2.alloc (.cells #[.int .i64 0, .int .i64 1, .int .i64 2, .int .i64 1, .int .i64 S, .slice ha 2 hc, .slice ga 2 gc] 30) = W2 at *
  generalize u2.heap.size = M at *
  refine (mpiece 0 1 2 1 S ha 2 hc ga 2 gc [false, false] [noText, noText] 1 ⟨#[98]⟩ 1 0 [false, true] [noText, ⟨#[98]⟩] W2 hH2 hG2 Mq.ab_short0 (by decide) (Mq.ab_one S)).mono ?_
  rintro r u3 ⟨hb3, ha3, hc3, ga3, gc3, rfl, hH3, hG3⟩
  have km3 := km.keep hb3
  have HB3 := hidL (bel_then HB2.out hb3)
  have hM3 := hidL km.lt
  clear km c0 c1 c2 c3 c4 c5 c6 hH2 hG2 HB2
  have f0 := km3.free 0; have f1 := km3.free 1; have f2 := km3.free 2; have f3 := km3.free 3; have f4 := km3.free 4; have f5 := km3.free 5; have f6 := km3.free 6
  have c0 := km3.cell 0 rfl; have c1 := km3.cell 1 rfl; have c2 := km3.cell 2 rfl; have c3 := km3.cell 3 rfl; have c4 := km3.cell 4 rfl; have c5 := km3.cell 5 rfl; have c6 := km3.cell 6 rfl
  have km4 := km3.all7 (.int .i64 0) (.int .i64 1) (.int .i64 2) (.int .i64 1) (.int .i64 S) (.slice ha3 2 hc3) (.slice ga3 2 gc3)
  have hH4 := rep_all7 hH3 (b := M) (fun b hb => by have h9 : W2.heap.size ≤ b := hb; have := hM3.out; omega) (.int .i64 0) (.int .i64 1) (.int .i64 2) (.int .i64 1) (.int .i64 S) (.slice ha3 2 hc3) (.slice ga3 2 gc3)
  have hG4 := rep_all7 hG3 (b := M) (fun b hb => by have h9 : W2.heap.size ≤ b := hb; have := hM3.out; omega) (.int .i64 0) (.int .i64 1) (.int .i64 2) (.int .i64 1) (.int .i64 S) (.slice ha3 2 hc3) (.slice ga3 2 gc3)
  have HB4 := hidL (bel_all7 HB3.out (b := M) HMw.out (.int .i64 0) (.int .i64 1) (.int .i64 2) (.int .i64 1) (.int .i64 S) (.slice ha3 2 hc3) (.slice ga3 2 gc3))
  clear km3 hH3 hG3 HB3 hb3
  go_upto_region 3 with fail
  obtain ⟨W4, hW4⟩ : ∃ V, V = (((((((u3.setCell ⟨M, 0, none⟩ (.int .i64 0)).setCell ⟨M, 1, none⟩ (.int .i64 1)).setCell ⟨M, 2, none⟩ (.int .i64 2)).setCell ⟨M, 3, none⟩ (.int .i64 1)).setCell ⟨M, 4, none⟩ (.int .i64 S)).setCell ⟨M, 5, none⟩ (.slice ha3 2 hc3)).setCell ⟨M, 6, none⟩ (.slice ga3 2 gc3)) := ⟨_, rfl⟩
  rw [← hW4] at km4 hH4 hG4 HB4 ⊢
  clear hW4 c0 c1 c2 c3 c4 c5 c6 f0 f1 f2 f3 f4 f5 f6 hM3
  have hM4 := hidL km4.lt
  have c0 := km4.cell 0 rfl; have c1 := km4.cell 1 rfl; have c2 := km4.cell 2 rfl; have c3 := km4.cell 3 rfl; have c4 := km4.cell 4 rfl; have c5 := km4.cell 5 rfl; have c6 := km4.cell 6 rfl
  go_wp2_with fail
  refine (mpiece 0 1 2 1 S ha3 2 hc3 ga3 2 gc3 [false, true] [noText, ⟨#[98]⟩] 0 ⟨#[97]⟩ 2 0 [true, true] [⟨#[97]⟩, ⟨#[98]⟩] W4 (Shape.any hH4) (Shape.any hG4) Mq.ab_short1 (by decide) HP2.out).mono ?_
  rintro r u5 ⟨hb5, ha5, hc5, ga5, gc5, rfl, hH5, hG5⟩
  have km5 := km4.keep hb5
  have HB5 := hidL (bel_then HB4.out hb5)
  clear km4 c0 c1 c2 c3 c4 c5 c6 hH4 hG4 HB4 HP2
  have f0 := km5.free 0; have f1 := km5.free 1; have f2 := km5.free 2; have f3 := km5.free 3; have f4 := km5.free 4; have f5 := km5.free 5; have f6 := km5.free 6
  have c0 := km5.cell 0 rfl; have c1 := km5.cell 1 rfl; have c2 := km5.cell 2 rfl; have c3 := km5.cell 3 rfl; have c4 := km5.cell 4 rfl; have c5 := km5.cell 5 rfl; have c6 := km5.cell 6 rfl
  have km6 := km5.all7 (.int .i64 0) (.int .i64 1) (.int .i64 2) (.int .i64 2) (.int .i64 S) (.slice ha5 2 hc5) (.slice ga5 2 gc5)
  have hH6 := rep_all7 hH5 (b := M) (fun b hb => by have h9 : W4.heap.size ≤ b := hb; have := hM4.out; omega) (.int .i64 0) (.int .i64 1) (.int .i64 2) (.int .i64 2) (.int .i64 S) (.slice ha5 2 hc5) (.slice ga5 2 gc5)
  have hG6 := rep_all7 hG5 (b := M) (fun b hb => by have h9 : W4.heap.size ≤ b := hb; have := hM4.out; omega) (.int .i64 0) (.int .i64 1) (.int .i64 2) (.int .i64 2) (.int .i64 S) (.slice ha5 2 hc5) (.slice ga5 2 gc5)
  have HB6 := hidL (bel_all7 HB5.out (b := M) HMw.out (.int .i64 0) (.int .i64 1) (.int .i64 2) (.int .i64 2) (.int .i64 S) (.slice ha5 2 hc5) (.slice ga5 2 gc5))
  clear km5 hH5 hG5 HB5 hb5
  go_upto_region 4 with fail
  obtain ⟨W6, hW6⟩ : ∃ V, V = (((((((u5.setCell ⟨M, 0, none⟩ (.int .i64 0)).setCell ⟨M, 1, none⟩ (.int .i64 1)).setCell ⟨M, 2, none⟩ (.int .i64 2)).setCell ⟨M, 3, none⟩ (.int .i64 2)).setCell ⟨M, 4, none⟩ (.int .i64 S)).setCell ⟨M, 5, none⟩ (.slice ha5 2 hc5)).setCell ⟨M, 6, none⟩ (.slice ga5 2 gc5)) := ⟨_, rfl⟩
  rw [← hW6] at km6 hH6 hG6 HB6 ⊢
  clear hW6 c0 c1 c2 c3 c4 c5 c6 f0 f1 f2 f3 f4 f5 f6 hM4
  have c0 := km6.cell 0 rfl; have c1 := km6.cell 1 rfl; have c2 := km6.cell 2 rfl; have c3 := km6.cell 3 rfl; have c4 := km6.cell 4 rfl; have c5 := km6.cell 5 rfl; have c6 := km6.cell 6 rfl
  go_wp2_with fail
  refine (mtext 0 1 2 2 S ha5 2 hc5 ga5 2 gc5 [true, true] [⟨#[97]⟩, ⟨#[98]⟩] ⟨#[97, 98]⟩ true W6 (Shape.any hH6) (Shape.any hG6) (by decide) (by decide) Mq.ab_text).mono ?_
  rintro r u7 ⟨rfl, hb7⟩
  have km7 := km6.keep hb7
  have HB7 := hidL (bel_then HB6.out hb7)
  have hH7 := Shape.any (Shape.below hH6 hb7)
  have hG7 := Shape.any (Shape.below hG6 hb7)
  clear km6 c0 c1 c2 c3 c4 c5 c6 hH6 hG6 HB6 hb7
  go_upto_region 5 with fail
  have HS : Hid (∀ u, Below u7.heap.size u7 u → u.cell? ⟨M, 0, none⟩ = some (.int .i64 0) ∧ u.cell? ⟨M, 1, none⟩ = some (.int .i64 1) ∧ u.cell? ⟨M, 2, none⟩ = some (.int .i64 2) ∧ u.cell? ⟨M, 3, none⟩ = some (.int .i64 2) ∧ u.cell? ⟨M, 4, none⟩ = some (.int .i64 S) ∧ u.cell? ⟨M, 5, none⟩ = some (.slice ha5 2 hc5) ∧ u.cell? ⟨M, 6, none⟩ = some (.slice ga5 2 gc5)) := fun u hu => by
    have q := km7.keep hu
    exact ⟨q.cell 0 rfl, q.cell 1 rfl, q.cell 2 rfl, q.cell 3 rfl, q.cell 4 rfl, q.cell 5 rfl, q.cell 6 rfl⟩
  obtain ⟨M9, hM9⟩ : ∃ M9, Pl.turn [[1]] 0 2 true = M9 := ⟨_, rfl⟩
  have HA9 := hidL (Mq.plain_add (t := 2) ⟨by decide, by decide⟩ (by decide))
  rw [hM9] at HA9
  clear hM9
  have HT : Hid (∀ u, Calls Try.prog 26 #[] u fun r w' => Below u.heap.size u w' ∧ ∃ a, r = .returned (.agg #[.int .i64 0, .slice a 1 1]) ∧ matS.rep w' (u.heap.size ≤ ·) [.slice a 1 1] [[1]]) := mplain
  have HN : Hid (∀ u, Below u7.heap.size u7 u → ∀ a1 (F : Nat → Prop), matS.rep u F [.slice a1 1 1] [[1]] → Calls Try.prog 22 #[.agg #[.int .i64 0, .int .i64 1, .int .i64 2, .int .i64 2, .int .i64 S, .slice ha5 2 hc5, .slice ga5 2 gc5], .agg #[.int .i64 0, .slice a1 1 1]] u fun r w' => Below u.heap.size u w' ∧ ∃ ha' hc' ga' gc' a' c', r = .returned (.tuple #[.agg #[.int .i64 0, .int .i64 1, .int .i64 2, .int .i64 3, .int .i64 S, .slice ha' 2 hc', .slice ga' 2 gc'], .agg #[.int .i64 1, .slice a' 1 c'], .int .i64 0]) ∧ bitsS.rep w' (u.heap.size ≤ ·) [.slice ha' 2 hc'] [true, true] ∧ bagS.rep w' (u.heap.size ≤ ·) [.slice ga' 2 gc'] [⟨#[97]⟩, ⟨#[98]⟩] ∧ matS.rep w' (fun b => F b ∨ u.heap.size ≤ b) [.slice a' 1 c'] M9) := fun u hu a1 F hl =>
    mcommit 0 1 2 2 S ha5 2 hc5 ga5 2 gc5 _ _ 0 a1 1 1 [[1]] 3 1 0 M9 u (Shape.below hH7 hu) (Shape.below hG7 hu) hl (by decide) (by decide) ⟨by decide, fun l hl => by rw [List.mem_singleton.1 hl]; decide⟩ (.inr (.inr ⟨rfl, HA9.out, rfl, rfl⟩))
  clear hH7 hG7
  go_cut [8, 9, 10] from 11 (fun v8 v9 v10 wx => ∃ g a c, v9 = .pointer (some ⟨g, 0, none⟩) ∧ v10 = .int .i64 0 ∧ Box wx g 24 #[.int .i64 1, .slice a 1 c] ∧ matS.rep wx everywhere [.slice a 1 c] M9 ∧ Below u7.heap.size u7 wx)
  case first =>
    rename_i Jx Kx hRJ hMK
    have hD : Below u7.heap.size u7 u7.drew := (Below.refl _ u7).drew
    have bn1 : Box (u7.drew.alloc (.cells #[.int .i64 0, .int .i64 0, .int .i64 0, .int .i64 0, .int .i64 0, .slice none 0 0, .slice none 0 0] 30)) u7.heap.size 30 #[.int .i64 0, .int .i64 0, .int .i64 0, .int .i64 0, .int .i64 0, .slice none 0 0, .slice none 0 0] := Box.new u7.drew _ _
    have bn2 := bn1.keep (new_bel _ (.cells #[.int .i64 0, .slice none 0 0] 24))
    have bn3 : Box ((u7.drew.alloc (.cells #[.int .i64 0, .slice none 0 0] 24)).alloc (.cells #[.int .i64 0, .int .i64 0, .int .i64 0, .int .i64 0, .int .i64 0, .slice none 0 0, .slice none 0 0] 30)) (u7.heap.size + 1) 30 #[.int .i64 0, .int .i64 0, .int .i64 0, .int .i64 0, .int .i64 0, .slice none 0 0, .slice none 0 0] := Box.two u7.drew _ _ _
    have bp1 : Box (u7.drew.alloc (.cells #[.int .i64 0, .slice none 0 0] 24)) u7.heap.size 24 #[.int .i64 0, .slice none 0 0] := Box.new u7.drew _ _
    have bp2 := bp1.keep (new_bel _ (.cells #[.int .i64 0, .int .i64 0, .int .i64 0, .int .i64 0, .int .i64 0, .slice none 0 0, .slice none 0 0] 30))
    have bp3 : Box ((u7.drew.alloc (.cells #[.int .i64 0, .int .i64 0, .int .i64 0, .int .i64 0, .int .i64 0, .slice none 0 0, .slice none 0 0] 30)).alloc (.cells #[.int .i64 0, .slice none 0 0] 24)) (u7.heap.size + 1) 24 #[.int .i64 0, .slice none 0 0] := Box.two u7.drew _ _ _
    go_region_held3 (fun u => u.cell? ⟨M, 0, none⟩ = some (.int .i64 0) ∧ u.cell? ⟨M, 1, none⟩ = some (.int .i64 1) ∧ u.cell? ⟨M, 2, none⟩ = some (.int .i64 2) ∧ u.cell? ⟨M, 3, none⟩ = some (.int .i64 2) ∧ u.cell? ⟨M, 4, none⟩ = some (.int .i64 S) ∧ u.cell? ⟨M, 5, none⟩ = some (.slice ha5 2 hc5) ∧ u.cell? ⟨M, 6, none⟩ = some (.slice ga5 2 gc5))
      (first
        | exact HS.out _ (by (repeat' (first | with_reducible assumption | with_reducible exact Below.refl _ _ | with_reducible refine bel_alloc ?_ _ | with_reducible refine Below.drew ?_ | with_reducible refine bel_all7 ?_ ?_ _ _ _ _ _ _ _ | with_reducible refine bel_all2 ?_ ?_ _ _)); all_goals omega)
        | go_keep)
      (first
        | (go_at_call 26; refine (HT.out _).mono ?_; rintro r u8 ⟨hb8, a8, rfl, hm8⟩; have hm8 := rep_low hm8; have hd8 : Below u7.heap.size u7 u8 := (by first | exact bel_then hD hb8 | exact bel_then (bel_alloc hD _) hb8 | exact bel_then (bel_alloc (bel_alloc hD _) _) hb8); have hs8 := hd8.size; (first | (have qN := bn1.keep hb8) | (have qN := bn2.keep hb8) | (have qN := bn3.keep hb8) | skip); (first | (have qP := bp1.keep hb8) | (have qP := bp2.keep hb8) | (have qP := bp3.keep hb8) | skip))
        | (go_at_call 22; refine (HN.out _ (by first | assumption | exact bel_alloc (by assumption) _ | exact bel_alloc (bel_alloc (by assumption) _) _) a8 _ (by first | exact hm8 | exact Shape.below hm8 (new_bel _ _) | exact Shape.below (Shape.below hm8 (new_bel _ _)) (new_bel _ _))).mono ?_; rintro r u9 ⟨hb9, ha9, hc9, ga9, gc9, a9, c9, rfl, hH9, hG9, hm9⟩; have hd9 : Below u7.heap.size u7 u9 := (by first | exact bel_then hd8 hb9 | exact bel_then (bel_alloc hd8 _) hb9 | exact bel_then (bel_alloc (bel_alloc hd8 _) _) hb9); have hs9 := hd9.size; obtain ⟨F9, hF9, hm9⟩ := rep_name hm9; (first | (have kN := qN.keep hb9) | (have kN := (qN.keep (new_bel _ _)).keep hb9) | (have kN := (Box.new u8 30 #[.int .i64 0, .int .i64 0, .int .i64 0, .int .i64 0, .int .i64 0, .slice none 0 0, .slice none 0 0]).keep hb9) | (have kN := ((Box.new u8 30 #[.int .i64 0, .int .i64 0, .int .i64 0, .int .i64 0, .int .i64 0, .slice none 0 0, .slice none 0 0]).keep (new_bel _ (.cells #[.int .i64 0, .slice none 0 0] 24))).keep hb9) | (have kN := (Box.two u8 (.cells #[.int .i64 0, .slice none 0 0] 24) 30 #[.int .i64 0, .int .i64 0, .int .i64 0, .int .i64 0, .int .i64 0, .slice none 0 0, .slice none 0 0]).keep hb9) | skip); (first | (have kP := qP.keep hb9) | (have kP := (qP.keep (new_bel _ _)).keep hb9) | (have kP := (Box.new u8 24 #[.int .i64 0, .slice none 0 0]).keep hb9) | (have kP := ((Box.new u8 24 #[.int .i64 0, .slice none 0 0]).keep (new_bel _ (.cells #[.int .i64 0, .int .i64 0, .int .i64 0, .int .i64 0, .int .i64 0, .slice none 0 0, .slice none 0 0] 30))).keep hb9) | (have kP := (Box.two u8 (.cells #[.int .i64 0, .int .i64 0, .int .i64 0, .int .i64 0, .int .i64 0, .slice none 0 0, .slice none 0 0] 30) 24 #[.int .i64 0, .slice none 0 0]).keep hb9) | skip); (try (have c0 := kN.cell 0 rfl; have c1 := kN.cell 1 rfl; have c2 := kN.cell 2 rfl; have c3 := kN.cell 3 rfl; have c4 := kN.cell 4 rfl; have c5 := kN.cell 5 rfl; have c6 := kN.cell 6 rfl; have f0 := kN.free 0; have f1 := kN.free 1; have f2 := kN.free 2; have f3 := kN.free 3; have f4 := kN.free 4; have f5 := kN.free 5; have f6 := kN.free 6; have ltN := kN.lt)); (try (have k0 := kP.cell 0 rfl; have k1 := kP.cell 1 rfl; have l0 := kP.free 0; have l1 := kP.free 1; have ltP := kP.lt)); (try (have ltq := qN.lt; have neq := Nat.ne_of_lt ltq; have neq2 := neq.symm)); (try (have ltp := qP.lt; have nep := Nat.ne_of_lt ltp; have nep2 := nep.symm))))
    all_goals
      refine hMK _ _ (Met.intro (hRJ _ _ ?_))
      (repeat apply Exists.intro)
      refine ⟨?_, rfl⟩
    all_goals
      refine ⟨_, a9, c9, rfl, rfl, ?_, ?_, ?_⟩
      · (repeat' (first | with_reducible exact kP | with_reducible refine Box.at _ _ ?_ | with_reducible refine Box.past ?_ _ | with_reducible refine Box.all2 (p0 := .int .i64 0) (p1 := .slice none 0 0) ?_ _ _ | with_reducible refine Box.all7_other ?_ ?_ _ _ _ _ _ _ _))
        all_goals (first | omega | simp)
      · refine Shape.any (F := F9) ?_
        (repeat' (first | with_reducible exact hm9 | with_reducible refine rep_new ?_ _ | with_reducible refine rep_all7 ?_ ?_ _ _ _ _ _ _ _ | with_reducible refine Shape.all2 ?_ ?_ _ _))
        all_goals (intro b hb; (try intro h0); rw [hF9] at hb; rcases hb with ⟨h1, h2⟩ | h1 <;> (try simp at h1) <;> omega)
      · (repeat' (first | with_reducible exact hd9 | with_reducible refine bel_alloc ?_ _ | with_reducible refine bel_all7 ?_ ?_ _ _ _ _ _ _ _ | with_reducible refine bel_all2 ?_ ?_ _ _))
        all_goals omega
  case rest =>
    obtain ⟨g, a9, c9, rfl, rfl, kg, hm9, hBV⟩ := hcut
    have km8 := km7.keep hBV
    have HBW := hidL (bel_then HB7.out hBV)
    have hR9 := HA9.out.right Mq.plain_right
    have HHo : Hid (Calls _ _ _ _ _) := pholds 1 a9 1 c9 M9 0 2 true wc hm9 ⟨by have := hR9.2.1; omega, fun l hl => by have := Pl.right_sized hR9 l hl; omega⟩ (tell_yes (HA9.out.done rfl).2)
    clear HS HT HN HA9 hR9 hm9 hBV km7
    have c3 := km8.cell 3 rfl
    have d0 := kg.cell 0 rfl
    have d1 := kg.cell 1 rfl
    clear km8 kg
    go_wp2_with (go_at_call 27; refine HHo.out.mono ?_; rintro r WZ ⟨rfl, hbz⟩)
    go_ret
    exact ⟨rfl, bel_then HBW.out hbz⟩
end Go.Proofs.Ytpfhjdlmjehfnaa
