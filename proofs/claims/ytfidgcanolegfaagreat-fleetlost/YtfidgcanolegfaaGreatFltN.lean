/- What is left alive by each act; the fixed answer of the statements of layer 19. -/
import Derived.Test.YtfidgcanolegfaaGreatFltM
import Derived.Test.YtfidgcanolegfaaGreatPlcG
namespace Go.Proofs.YtfidgcanolegfaaGreat
open Go.ChangeShapes Go.WideShapes Go.ChangeAt Go.RowKit


section
variable {dim : Int} {ms : List Ly} {T : List (List Int)} {s : Ft.St}
theorem Alive.start {e : Int} {h : List (List Int)} (H : May dim ms e h T) : Alive dim ms T (Ft.start ms e h T) := ⟨H.1, H.2.1, Ft.Inv.start H.1 H.2.1 H.2.2.1 H.2.2.2, Ft.lone_start e h⟩
theorem Alive.deliver (H : Alive dim ms T s) (k : Nat) : Alive dim ms T (Ft.deliver dim ms s k) := ⟨H.m, H.t, H.i.deliver H.m H.t k, Ft.lone_deliver H.n k⟩
theorem Alive.ask (H : Alive dim ms T s) : Alive dim ms T (Ft.ask ms s) := ⟨H.m, H.t, H.i.ask H.m H.t, Ft.lone_ask H.n⟩
theorem Alive.drop (H : Alive dim ms T s) (k : Nat) : Alive dim ms T (Ft.drop s k) := ⟨H.m, H.t, H.i.drop k, H.n⟩
theorem Alive.twice (H : Alive dim ms T s) (k : Nat) : Alive dim ms T (Ft.twice s k) := ⟨H.m, H.t, H.i.twice k, by
  have := H.n
  unfold Ft.twice
  split
  · exact this
  · exact this⟩
theorem Alive.turned (H : Alive dim ms T s) {e : Int} {h : List (List Int)} (hm : Pl.Right e h) (hl : h.length = s.h.length) : Alive dim ms T (Ft.turned s e h) := ⟨H.m, H.t, H.i.turned hm hl, H.n⟩
theorem Alive.run (H : Alive dim ms T s) (k : Nat) : Alive dim ms T (Ft.run dim ms k s) := ⟨H.m, H.t, Ft.run_inv H.i H.m H.t k, Ft.lone_run H.n k⟩
theorem Alive.short (H : Alive dim ms T s) : Pl.Short s.toks := by
  rw [H.i.toks]
  exact Md.tright_short (Ft.tl_right H.m H.t _) H.m.2.1
theorem Alive.worked (H : Alive dim ms T s) : Ft.worked s ≤ 100000 := by
  have h1 := Ft.worked_few H.i H.m H.t H.n
  have h2 := H.m.2.2.2.1
  have h3 := H.t.2.1
  have h4 : ms.length * T.length ≤ 4 * 16 := Nat.mul_le_mul (by omega) (by omega)
  omega
end
section
variable {O V : Nat → Prop} {w : World} {p : Nat} {dim : Int} {ms : List Ly} {s : Ft.St} {q : List Pt}
theorem fdeliver0 {T : List (List Int)} (H : FlAt O V w p dim ms s (Ft.qs ms s)) (hA : Alive dim ms T s) (hk : s.bag ≠ []) :
    Calls Tryz.prog 24 #[.pointer (some ⟨p, 0, none⟩), .int .i64 0] w fun e w' => e = .returned (.int .i64 0) ∧ ∃ V', Mv V V' w w' ∧ FlAt O V' w' p dim ms (Ft.deliver dim ms s 0) (Ft.qs ms (Ft.deliver dim ms s 0)) :=
  fdeliver_in H hA 0 (List.length_pos_iff.2 hk)
theorem fdeliver0_no {T : List (List Int)} (H : FlAt O V w p dim ms s (Ft.qs ms s)) (hA : Alive dim ms T s) (hk : s.bag = []) :
    Calls Tryz.prog 24 #[.pointer (some ⟨p, 0, none⟩), .int .i64 0] w fun e w' => e = .returned (.int .i64 4) ∧ Below w.heap.size w w' :=
  fdeliver_out H hA.i.few 0 (by rw [hk]; simp)
end

/-! ### The fixed answer -/
theorem aw_may : May 1 [Md.lyA] 0 [[2]] [[7]] := ⟨Md.modA_right, Md.tokA_right, Pl.one_right (by omega) (by decide), fun l hl => by rw [List.mem_singleton.1 hl]; decide⟩
theorem aw_bag : (Ft.start [Md.lyA] 0 [[2]] [[7]]).bag.length = 1 := by decide +kernel
theorem aw_tot : Ft.tot [Md.lyA] [[7]] 1 = 1 := by decide +kernel
theorem aw_done : Md.forward [Md.lyA] [[7]] = [[14]] := by decide +kernel
theorem aw_run : (Ft.run 1 [Md.lyA] 2 (Ft.start [Md.lyA] 0 [[2]] [[7]])).lay = 1 ∧ Ft.worked (Ft.run 1 [Md.lyA] 2 (Ft.start [Md.lyA] 0 [[2]] [[7]])) = 1 ∧ (Ft.run 1 [Md.lyA] 2 (Ft.start [Md.lyA] 0 [[2]] [[7]])).bag = [] ∧ (Ft.run 1 [Md.lyA] 1 (Ft.start [Md.lyA] 0 [[2]] [[7]])).bag ≠ [] ∧ (Ft.run 1 [Md.lyA] 2 (Ft.start [Md.lyA] 0 [[2]] [[7]])).toks = [[14]] := by
  have h := Ft.counts (dim := 1) aw_may.1 aw_may.2.1 aw_may.2.2.1 aw_may.2.2.2 1 (by decide)
  rw [aw_tot] at h
  have ha := (Alive.start aw_may).run 2
  have hd := ha.i.done (by rw [h.1]; decide)
  exact ⟨h.1, h.2.1, h.2.2.2.1 rfl, h.2.2.2.2 1 (by omega), by rw [hd, aw_done]⟩
set_option maxRecDepth 100000 in
set_option maxHeartbeats 2000000 in
theorem fawake (w : World) : Calls Tryz.prog 13 #[] w fun e w' => e = .returned (.bool true) ∧ Below w.heap.size w w' := by
  have hm := mat_one w 65536
  have hB := bel_two w (.cells #[.int .i64 65536] 3) (.cells #[.slice (some ⟨w.heap.size, 0, none⟩) 1 1] 42)
  have HST := hid (And.intro aw_may (And.intro aw_bag aw_run))
  go_enter Tryz.func13, Tryz.ntmps13
  go_upto_region 2 with fail
  generalize ((w.alloc (.cells #[.int .i64 65536] 3)).alloc (.cells #[.slice (some ⟨w.heap.size, 0, none⟩) 1 1] 42)) = W at *
  have hl := laid_model hm 1
  have hBl := bel_two W (.cells #[.slice (some ⟨w.heap.size + 1, 0, none⟩) 1 1, .slice (some ⟨w.heap.size + 1, 0, none⟩) 1 1] 69) (.cells #[.slice (some ⟨w.heap.size + 1, 0, none⟩) 1 1, .slice (some ⟨W.heap.size, 0, none⟩) 1 1, .int .i64 1] 65)
  have hl5 := Shape.below hl (new_bel _ (.cells #[.int .i64 1, .slice (some ⟨W.heap.size + 1, 0, none⟩) 1 1] 24))
  have hB5 := bel_then hB (bel_alloc hBl (.cells #[.int .i64 1, .slice (some ⟨W.heap.size + 1, 0, none⟩) 1 1] 24))
  have k5 := Box.new ((W.alloc (.cells #[.slice (some ⟨w.heap.size + 1, 0, none⟩) 1 1, .slice (some ⟨w.heap.size + 1, 0, none⟩) 1 1] 69)).alloc (.cells #[.slice (some ⟨w.heap.size + 1, 0, none⟩) 1 1, .slice (some ⟨W.heap.size, 0, none⟩) 1 1, .int .i64 1] 65)) 24 #[.int .i64 1, .slice (some ⟨W.heap.size + 1, 0, none⟩) 1 1]
  rw [show ((W.alloc (.cells #[.slice (some ⟨w.heap.size + 1, 0, none⟩) 1 1, .slice (some ⟨w.heap.size + 1, 0, none⟩) 1 1] 69)).alloc (.cells #[.slice (some ⟨w.heap.size + 1, 0, none⟩) 1 1, .slice (some ⟨W.heap.size, 0, none⟩) 1 1, .int .i64 1] 65)).heap.size = W.heap.size + 1 + 1 by simp] at k5
  clear hl hBl hB
  go_upto_region 3 with fail
  generalize (((W.alloc (.cells #[.slice (some ⟨w.heap.size + 1, 0, none⟩) 1 1, .slice (some ⟨w.heap.size + 1, 0, none⟩) 1 1] 69)).alloc (.cells #[.slice (some ⟨w.heap.size + 1, 0, none⟩) 1 1, .slice (some ⟨W.heap.size, 0, none⟩) 1 1, .int .i64 1] 65)).alloc (.cells #[.int .i64 1, .slice (some ⟨W.heap.size + 1, 0, none⟩) 1 1] 24)) = V at *
  have p0 := k5.cell 0 rfl
  have p1 := k5.cell 1 rfl
  obtain ⟨X, hX⟩ : ∃ X, X = (V.alloc (.cells #[.int .i64 2] 3)).alloc (.cells #[.slice (some ⟨V.heap.size, 0, none⟩) 1 1] 42) := ⟨_, rfl⟩
  have hsX : X.heap.size = V.heap.size + 1 + 1 := by rw [hX]; simp
  have hhX := mat_one V 2
  rw [← hX] at hhX
  have hbX := bel_two V (.cells #[.int .i64 2] 3) (.cells #[.slice (some ⟨V.heap.size, 0, none⟩) 1 1] 42)
  rw [← hX] at hbX
  have htY := mat_one X 7
  have hbY := bel_two X (.cells #[.int .i64 7] 3) (.cells #[.slice (some ⟨X.heap.size, 0, none⟩) 1 1] 42)
  have hbVY := bel_then hbX hbY
  have hlY := Shape.below hl5 hbVY
  have hhY := Shape.below hhX hbY
  have HC : Hid (Calls _ _ _ _ _) := fnew (I := (· < ((X.alloc (.cells #[.int .i64 7] 3)).alloc (.cells #[.slice (some ⟨X.heap.size, 0, none⟩) 1 1] 42)).heap.size)) (O := fun _ => False) 1 _ 1 1 [Md.lyA] 0 _ 1 1 [[2]] _ 1 1 [[7]] _ ⟨Shape.low hlY, Shape.low hhY, Shape.low htY, fun _ hb => hb, by omega, fun l hl => by rw [List.mem_singleton.1 hl]; exact Md.right_lsized Md.lyA_right (by omega), ⟨by decide, fun l hl => by rw [List.mem_singleton.1 hl]; decide⟩, ⟨by decide, fun l hl => by rw [List.mem_singleton.1 hl]; decide⟩⟩ (fun _ hb => hb.elim) aw_may
  have hB6 := bel_then hB5 hbVY
  rw [hsX] at HC hB6
  rw [hX] at HC hB6
  clear hm hl5 k5 hB5 hhX hbX htY hbY hbVY hlY hhY hsX hX
  go_wp2_with fail
  refine HC.out.mono ?_
  rintro e u1 ⟨hb1, p, V1, rfl, hV1, hat1⟩
  have hBu1 := bel_then hB6 hb1
  have hV1' : ∀ b, V1 b → w.heap.size ≤ b := fun b hb => Nat.le_trans hB6.size (hV1 b hb)
  have HA0 := hid (Alive.start aw_may)
  have HBG : Hid (Calls _ _ _ _ _) := fbag hat1 HA0.out.i.few 1 HST.out.2.1
  have HE1 := hid (And.intro hBu1 (And.intro hV1' hat1))
  clear hBu1 hV1' hV1 hat1 hb1 hB6 HC p0 p1
  go_wp2_with fail
  refine HBG.out.mono ?_
  rintro e u2 ⟨hb2, ba, bc, rfl, _⟩
  have HD1 : Hid (Calls _ _ _ _ _) := fdeliver0 (HE1.out.2.2.keep hb2) HA0.out (fun h9 => by have := HST.out.2.1; rw [h9] at this; cases this)
  have HB2 := hid (bel_then HE1.out.1 hb2)
  clear hb2 HBG
  go_wp2_with fail
  refine HD1.out.mono ?_
  rintro e u3 ⟨rfl, V3, hm3, hat3⟩
  have HD2 : Hid (Calls _ _ _ _ _) := fdeliver0 hat3 (HA0.out.deliver 0) HST.out.2.2.2.2.2.1
  have HB3 := hid (And.intro (hm3.below HE1.out.2.1 HB2.out.size HB2.out) (hm3.base HE1.out.2.1 HB2.out.size))
  clear hm3 hat3 HD1
  go_wp2_with fail
  refine HD2.out.mono ?_
  rintro e u4 ⟨rfl, V4, hm4, hat4⟩
  have hat4' : FlAt (fun _ => False) V4 u4 p 1 [Md.lyA] (Ft.run 1 [Md.lyA] 2 (Ft.start [Md.lyA] 0 [[2]] [[7]])) (Ft.qs [Md.lyA] (Ft.run 1 [Md.lyA] 2 (Ft.start [Md.lyA] 0 [[2]] [[7]]))) := hat4
  have HA2 := hid (HA0.out.run 2)
  have HB4 := hid (hm4.below HB3.out.2 HB3.out.1.size HB3.out.1)
  generalize hs2 : Ft.run 1 [Md.lyA] 2 (Ft.start [Md.lyA] 0 [[2]] [[7]]) = s2 at *
  have HD3 : Hid (Calls _ _ _ _ _) := fdone_yes hat4' (by rw [HST.out.2.2.1]; rfl) HA2.out.short 1 (by rw [HST.out.2.2.2.2.2.2]; rfl)
  have HAT4 := hid hat4'
  clear hm4 hat4 hat4' HD2 hs2
  go_wp2_with fail
  refine HD3.out.mono ?_
  rintro e u5 ⟨hb5, ra, rc, rfl, hr5⟩
  rw [HST.out.2.2.2.2.2.2] at hr5
  obtain ⟨b1, o1, A, C, rfl, _, c1, hr⟩ := mat_at hr5 (j := 0) (by omega)
  obtain ⟨b2, o2, rfl, _, c2⟩ := (Row.of_rep hr).at (j := 0) (by decide)
  rw [Nat.add_zero] at c1 c2
  have d1 : u5.cell? ⟨b1, o1, none⟩ = some (.slice (some ⟨b2, o2, none⟩) 1 C) := c1
  have d2 : u5.cell? ⟨b2, o2, none⟩ = some (.int .i64 14) := c2
  have hat5 := HAT4.out.keep hb5
  have hwk := fworked hat5 HA2.out.i.len HA2.out.worked
  rw [HST.out.2.2.2.1] at hwk
  have HW : Hid (Calls _ _ _ _ _) := hwk
  have HAT5 := hid hat5
  have HB5 := hid (bel_then HB4.out hb5)
  clear c1 c2 hr hr5 hat5 hwk hb5 HD3
  go_wp2_with fail
  refine HW.out.mono ?_
  rintro e u6 ⟨rfl, hb6⟩
  have HDR : Hid (Calls _ _ _ _ _) := fdrop_out (HAT5.out.keep hb6) HA2.out.i.few 0 (by rw [HST.out.2.2.2.2.1]; simp)
  have HB6 := hid (bel_then HB5.out hb6)
  clear hb6 d1 d2 HW
  go_wp2_with fail
  refine HDR.out.mono ?_
  rintro e u7 ⟨rfl, hb7⟩
  go_wp2
  go_ret
  exact ⟨rfl, bel_then HB6.out hb7⟩

end Go.Proofs.YtfidgcanolegfaaGreat
