/- What Import of package chunk does when called. -/
import Derived.Test.YtokkhkhipgopbaaChkF
namespace Go.Proofs.Ytokkhkhipgopbaa
open Go.ChangeShapes Go.WideShapes Go.ChangeAt Go.RowKit

/-- An expert in memory that lies from block B on. -/
structure ExpHi (B : Nat) (w : World) (ai : Option Addr) (ni ci : Nat) (ao : Option Addr) (no co : Nat) (mi mo : List (List Int)) : Prop where
  i : matS.rep w (B ≤ ·) [.slice ai ni ci] mi
  o : matS.rep w (B ≤ ·) [.slice ao no co] mo
theorem ExpHi.exp {B : Nat} {w : World} {ai : Option Addr} {ni ci : Nat} {ao : Option Addr} {no co : Nat} {mi mo : List (List Int)} (h : ExpHi B w ai ni ci ao no co mi mo) : Exp w ai ni ci ao no co mi mo := ⟨Shape.any h.i, Shape.any h.o⟩

theorem sg_few {n : Nat} (h : n ≤ 8) : Wx.sg n = n := by unfold Wx.sg; rw [if_neg (by omega)]
theorem sg_over {n : Nat} (hn : n < 4294967296) (h : 1 ≤ Wx.sg n) : Wx.sg n = n := by
  unfold Wx.sg at *
  split at h
  · omega
  · rw [if_neg (by assumption)]
section
variable {l : List UInt8} {H D : Nat}
theorem told_parts (hf : Ck.formed l) (hH : Wx.at4 (l.take (l.length - 4)) 0 = H) (hD : Wx.at4 (l.take (l.length - 4)) 4 = D) (h1 : H ≤ 8) (h2 : D ≤ 8) (h3 : l.length - 4 = 8 + 8 * (H * D)) :
    Ck.hOf l = H ∧ Ck.dOf l = D ∧ Ck.area l = H * D ∧ Ck.ins l = Ck.rowsOf (l.take (l.length - 4)) 8 H D ∧ Ck.outs l = Ck.rowsOf (l.take (l.length - 4)) (8 + 4 * (H * D)) D H := by
  have h12 := hf.1
  rw [at4_take l _ _ (by omega) (by omega)] at hH hD
  have eH : Ck.hOf l = H := by unfold Ck.hOf; rw [hH, sg_few h1]
  have eD : Ck.dOf l = D := by unfold Ck.dOf; rw [hD, sg_few h2]
  have eA : Ck.area l = H * D := by unfold Ck.area; rw [eH, eD]; rfl
  have hc : D * H = H * D := Nat.mul_comm _ _
  refine ⟨eH, eD, eA, ?_, ?_⟩
  · unfold Ck.ins
    rw [eH, eD, rowsOf_take _ _ _ _ _ (by omega) (by omega)]
    rfl
  · unfold Ck.outs
    rw [eH, eD, eA, rowsOf_take _ _ _ _ _ (by rw [hc]; omega) (by omega)]
    rfl
theorem told_is (hf : Ck.formed l) (hH : Wx.at4 (l.take (l.length - 4)) 0 = H) (hD : Wx.at4 (l.take (l.length - 4)) 4 = D) :
    Ck.told l ↔ (H ≤ 8 ∧ D ≤ 8 ∧ l.length - 4 = 8 + 8 * (H * D)) ∧ Ex.Right (Ck.rowsOf (l.take (l.length - 4)) 8 H D) (Ck.rowsOf (l.take (l.length - 4)) (8 + 4 * (H * D)) D H) D := by
  have h12 := hf.1
  constructor
  · rintro ⟨⟨a1, a2, a3, a4, a5⟩, hR⟩
    have eH : Ck.hOf l = H := by
      unfold Ck.hOf at *
      rw [← hH, at4_take l _ _ (by omega) (by omega)]
      exact sg_over (Wx.at4_lt _ _) a1
    have eD : Ck.dOf l = D := by
      unfold Ck.dOf at *
      rw [← hD, at4_take l _ _ (by omega) (by omega)]
      exact sg_over (Wx.at4_lt _ _) a3
    have eA : Ck.area l = H * D := by unfold Ck.area; rw [eH, eD]; rfl
    have b1 : H ≤ 8 := by omega
    have b2 : D ≤ 8 := by omega
    have b3 : l.length - 4 = 8 + 8 * (H * D) := by rw [← eA]; omega
    obtain ⟨_, _, _, p4, p5⟩ := told_parts hf hH hD b1 b2 b3
    rw [p4, p5, eD] at hR
    exact ⟨⟨b1, b2, b3⟩, hR⟩
  · rintro ⟨⟨b1, b2, b3⟩, hR⟩
    obtain ⟨p1, p2, p3, p4, p5⟩ := told_parts hf hH hD b1 b2 b3
    have r1 := hR.1
    have r2 := hR.2.1
    rw [Ck.rowsOf_len] at r2
    refine ⟨⟨by omega, by omega, by omega, by omega, by rw [p3]; omega⟩, ?_⟩
    rw [p4, p5, p2]
    exact hR
end

theorem rowsOf_sized (l : List UInt8) (p : Nat) {q r : Nat} (hq : q ≤ 8) (hr : r ≤ 8) : Ex.Sized (Ck.rowsOf l p q r) := ⟨by rw [Ck.rowsOf_len]; omega, fun x hx => by rw [Ck.rowsOf_rows hx]; omega⟩
section
variable (s : ByteArray) (hs : s.size ≤ 100000) (w : World)
set_option maxRecDepth 100000 in
theorem kimport_unformed (h : ¬ Ck.formed s.data.toList) : Calls Try.prog 10 #[.string s] w fun e w' => e = .returned (.tuple #[.agg #[.slice none 0 0, .slice none 0 0], .int .i64 0, .int .i64 2]) ∧ Below w.heap.size w w' := by
  have hl := list_size s
  unfold Ck.formed at h
  rw [hl] at h
  have tm : ((s.size : Nat) : Int).tmod 4 = ((s.size % 4 : Nat) : Int) := by rw [Int.tmod_eq_emod_of_nonneg (by omega)]; rfl
  have kb := Box.new w 33 #[.slice none 0 0, .slice none 0 0]
  have hend := new_bel w (.cells #[.slice none 0 0, .slice none 0 0] 33)
  by_cases h1 : s.size < 12
  · have q1 : (s.size : Int) < 12 := by omega
    clear h hl
    go_enter Try.func10, Try.ntmps10
    go_wp2
    refine ret_three Try.underlying33 Try.infoExpert rfl rfl rfl rfl rfl kb rfl ?_
    exact ⟨rfl, hend⟩
  · have q1 : ¬ (s.size : Int) < 12 := by omega
    have q2 : (((s.size % 4 : Nat) : Int) != 0) = true := by rw [bne_iff_ne]; omega
    clear h hl
    go_enter Try.func10, Try.ntmps10
    go_wp2
    refine ret_three Try.underlying33 Try.infoExpert rfl rfl rfl rfl rfl kb rfl ?_
    exact ⟨rfl, hend⟩

/-- What a text that is formed comes with. -/
structure Formed (s S : ByteArray) (E : Nat) : Prop where
  few : 12 ≤ s.size
  four : s.size % 4 = 0
  size : s.size = E + 4
  cut : ∀ w : World, (Instr.slice 9 (.string s) none (some (.int .i64 (E : Int))) none).run Try.prog w = .ok (.string S) w
  list : S.data.toList = s.data.toList.take (s.data.toList.length - 4)
  long : S.size = E
theorem formed_there (h : Ck.formed s.data.toList) : ∃ S E, Formed s S E := by
  have hl := list_size s
  obtain ⟨h1, h2⟩ := h
  rw [hl] at h1 h2
  obtain ⟨S, hS, hSl, hSs⟩ := cut_to s (j := s.size - 4) (by omega)
  exact ⟨S, s.size - 4, h1, h2, by omega, hS, by rw [hl]; exact hSl, hSs⟩

set_option maxHeartbeats 1000000 in
include hs in
set_option maxRecDepth 100000 in
theorem kimport_unsummed (h : Ck.formed s.data.toList) (h2 : ¬ Ck.summed s.data.toList) : Calls Try.prog 10 #[.string s] w fun e w' => e = .returned (.tuple #[.agg #[.slice none 0 0, .slice none 0 0], .int .i64 0, .int .i64 9]) ∧ Below w.heap.size w w' := by
  obtain ⟨S, E, hF⟩ := formed_there s h
  have hl := list_size s
  have tm : ((s.size : Nat) : Int).tmod 4 = ((s.size % 4 : Nat) : Int) := by rw [Int.tmod_eq_emod_of_nonneg (by omega)]; rfl
  have hE : s.size = E + 4 := hF.size
  have hEE : (s.size : Int) - 4 = (E : Int) := by omega
  have hE5 : E ≤ 100000 := by omega
  have q1 : ¬ (s.size : Int) < 12 := by have := hF.few; omega
  have q2 : (((s.size % 4 : Nat) : Int) != 0) = false := by rw [hF.four]; rfl
  have hcut := hF.cut
  have HN : Hid (∀ w, Calls Try.prog 20 #[.string s, .int .i64 (E : Int)] w fun e w' => e = .returned (.int .i64 (Wx.at4 s.data.toList E : Nat)) ∧ Below w.heap.size w w') := fun w => knumberAt s E E ⟨rfl, by omega, by unfold maxLen; omega⟩ w
  have HC : Hid (∀ w, Calls Try.prog 19 #[.string S] w fun e w' => e = .returned (.int .i64 (crc S : Nat)) ∧ w' = w) := fun w => csum S (by rw [hF.long]; unfold maxLen; omega) w
  have hne : Wx.at4 s.data.toList E ≠ crc S := fun e => h2 (by
    unfold Ck.summed
    rw [← hF.list, hl, show s.size - 4 = E by omega, e]
    rfl)
  clear h h2 hF hl hs hE
  generalize Wx.at4 s.data.toList E = y at *
  generalize crc S = x at *
  have q3 : ((y : Int) != (x : Int)) = true := by rw [bne_iff_ne]; omega
  have kb := Box.new w 33 #[.slice none 0 0, .slice none 0 0]
  have hB := new_bel w (.cells #[.slice none 0 0, .slice none 0 0] 33)
  go_enter Try.func10, Try.ntmps10
  go_wp2
  generalize w.alloc (.cells #[.slice none 0 0, .slice none 0 0] 33) = W at *
  have hne9 : Nonempty (Later W) := Later.there W
  refine region_later (by kernel_rfl) (by kernel_rfl) ?_
  repeat (go_big_quiet_step (first
    | (go_at_call 20; exact Later.call (HN.out _))
    | (go_at_call 19; exact Later.same (HC.out _))))
  refine wpQuiet_nil ?_
  intro x9
  obtain ⟨W9, hb9⟩ := x9
  have kb9 := kb.keep hb9
  have c0 := kb9.cell 0 rfl
  have c1 := kb9.cell 1 rfl
  have f0 := kb9.free 0
  have f1 := kb9.free 1
  have hend := bel_all2 (bel_then hB hb9) (b := w.heap.size) (Nat.le_refl _) (.slice none 0 0) (.slice none 0 0)
  clear hne9 HN HC
  go_wp2
  refine ret_three Try.underlying33 Try.infoExpert rfl rfl rfl rfl rfl (kb9.all2 _ _) rfl ?_
  exact ⟨rfl, hend⟩

set_option maxHeartbeats 1000000 in
include hs in
set_option maxRecDepth 100000 in
theorem kimport_untold (h : Ck.formed s.data.toList) (h2 : Ck.summed s.data.toList) (h3 : ¬ Ck.told s.data.toList) : Calls Try.prog 10 #[.string s] w fun e w' => e = .returned (.tuple #[.agg #[.slice none 0 0, .slice none 0 0], .int .i64 0, .int .i64 2]) ∧ Below w.heap.size w w' := by
  obtain ⟨S, E, hF⟩ := formed_there s h
  have hl := list_size s
  have hlS := list_size S
  have tm : ((s.size : Nat) : Int).tmod 4 = ((s.size % 4 : Nat) : Int) := by rw [Int.tmod_eq_emod_of_nonneg (by omega)]; rfl
  have hE : s.size = E + 4 := hF.size
  have hEE : (s.size : Int) - 4 = (E : Int) := by omega
  have hE5 : E ≤ 100000 := by omega
  have q1 : ¬ (s.size : Int) < 12 := by have := hF.few; omega
  have q2 : (((s.size % 4 : Nat) : Int) != 0) = false := by rw [hF.four]; rfl
  have hcut := hF.cut
  have hyx : Wx.at4 s.data.toList E = crc S := by
    have h9 := h2
    unfold Ck.summed at h9
    rw [← hF.list, hl, show s.size - 4 = E by omega] at h9
    exact h9
  have HN : Hid (∀ w, Calls Try.prog 20 #[.string s, .int .i64 (E : Int)] w fun e w' => e = .returned (.int .i64 (crc S : Nat)) ∧ Below w.heap.size w w') := fun w => by rw [← hyx]; exact knumberAt s E E ⟨rfl, by omega, by unfold maxLen; omega⟩ w
  have HC : Hid (∀ w, Calls Try.prog 19 #[.string S] w fun e w' => e = .returned (.int .i64 (crc S : Nat)) ∧ w' = w) := fun w => csum S (by rw [hF.long]; unfold maxLen; omega) w
  obtain ⟨H, hH⟩ : ∃ H, Wx.at4 S.data.toList 0 = H := ⟨_, rfl⟩
  obtain ⟨D, hD⟩ : ∃ D, Wx.at4 S.data.toList 4 = D := ⟨_, rfl⟩
  have hTI := told_is (H := H) (D := D) h (by rw [← hF.list]; exact hH) (by rw [← hF.list]; exact hD)
  rw [← hF.list, hl, show s.size - 4 = E by omega] at hTI
  have hSE := hF.long
  have hS8 : 8 ≤ S.size := by have := hF.few; omega
  by_cases hno : 8 < H ∨ 8 < D ∨ S.size ≠ 8 + 8 * (H * D)
  · have HX : Hid (∀ w, Calls Try.prog 21 #[.string S] w fun e w' => e = .returned (.tuple #[.agg #[.slice none 0 0, .slice none 0 0], .int .i64 0, .bool false]) ∧ Below w.heap.size w w') := fun w => kexpertOf_no S H D hH hD hS8 (by omega) hno w
    clear h h2 h3 hF hl hs hE hno hTI hH hD hyx hSE hS8 hlS
    generalize crc S = x at *
    have q3 : ((x : Int) != (x : Int)) = false := by simp
    have kb := Box.new w 33 #[.slice none 0 0, .slice none 0 0]
    have hB := new_bel w (.cells #[.slice none 0 0, .slice none 0 0] 33)
    go_enter Try.func10, Try.ntmps10
    go_wp2
    generalize w.alloc (.cells #[.slice none 0 0, .slice none 0 0] 33) = W at *
    have hne9 : Nonempty (Later W) := Later.there W
    refine region_later (by kernel_rfl) (by kernel_rfl) ?_
    repeat (go_big_quiet_step (first
      | (go_at_call 20; exact Later.call (HN.out _))
      | (go_at_call 19; exact Later.same (HC.out _))))
    refine wpQuiet_nil ?_
    intro x9
    obtain ⟨W9, hb9⟩ := x9
    have kb9 := kb.keep hb9
    have hB9 := bel_then hB hb9
    clear hne9 HN HC hB kb
    go_wp2_with fail
    refine (HX.out _).mono ?_
    rintro e u3 ⟨rfl, hb3⟩
    have kbU := (kb9.keep hb3).keep (new_bel u3 (.cells #[.slice none 0 0, .slice none 0 0] 33))
    have hBU := bel_then (bel_then hB9 hb3) (new_bel u3 (.cells #[.slice none 0 0, .slice none 0 0] 33))
    clear kb9 hB9 hb3 HX
    go_upto_region 7 with fail
    generalize u3.alloc (.cells #[.slice none 0 0, .slice none 0 0] 33) = U at *
    have c0 := kbU.cell 0 rfl
    have c1 := kbU.cell 1 rfl
    have f0 := kbU.free 0
    have f1 := kbU.free 1
    have hend := bel_all2 hBU (b := w.heap.size) (Nat.le_refl _) (.slice none 0 0) (.slice none 0 0)
    go_wp2
    refine ret_three Try.underlying33 Try.infoExpert rfl rfl rfl rfl rfl (kbU.all2 _ _) rfl ?_
    exact ⟨rfl, hend⟩
  · have b1 : H ≤ 8 := by omega
    have b2 : D ≤ 8 := by omega
    have b3 : S.size = 8 + 8 * (H * D) := by omega
    have HX : Hid (∀ w, Calls Try.prog 21 #[.string S] w fun e w' => Below w.heap.size w w' ∧ ∃ a1 c1 a2 c2, e = .returned (.tuple #[.agg #[.slice a1 H c1, .slice a2 D c2], .int .i64 (D : Int), .bool true]) ∧ matS.rep w' (w.heap.size ≤ ·) [.slice a1 H c1] (Ck.rowsOf S.data.toList 8 H D) ∧ matS.rep w' (w.heap.size ≤ ·) [.slice a2 D c2] (Ck.rowsOf S.data.toList (8 + 4 * (H * D)) D H)) := fun w => kexpertOf S H D hH hD b1 b2 b3 w
    have hnR : ¬ Ex.Right (Ck.rowsOf S.data.toList 8 H D) (Ck.rowsOf S.data.toList (8 + 4 * (H * D)) D H) D := fun hR => h3 (hTI.2 ⟨⟨b1, b2, by omega⟩, hR⟩)
    have hz1 := rowsOf_sized S.data.toList 8 b1 b2
    have hz2 := rowsOf_sized S.data.toList (8 + 4 * (H * D)) b2 b1
    clear h h2 h3 hF hl hs hE hno hTI hH hD hyx hSE hS8 hlS b3
    generalize Ck.rowsOf S.data.toList 8 H D = MI at *
    generalize Ck.rowsOf S.data.toList (8 + 4 * (H * D)) D H = MO at *
    generalize crc S = x at *
    have q3 : ((x : Int) != (x : Int)) = false := by simp
    have kb := Box.new w 33 #[.slice none 0 0, .slice none 0 0]
    have hB := new_bel w (.cells #[.slice none 0 0, .slice none 0 0] 33)
    go_enter Try.func10, Try.ntmps10
    go_wp2
    generalize w.alloc (.cells #[.slice none 0 0, .slice none 0 0] 33) = W at *
    have hne9 : Nonempty (Later W) := Later.there W
    refine region_later (by kernel_rfl) (by kernel_rfl) ?_
    repeat (go_big_quiet_step (first
      | (go_at_call 20; exact Later.call (HN.out _))
      | (go_at_call 19; exact Later.same (HC.out _))))
    refine wpQuiet_nil ?_
    intro x9
    obtain ⟨W9, hb9⟩ := x9
    have kb9 := kb.keep hb9
    have hB9 := bel_then hB hb9
    clear hne9 HN HC hB kb
    go_wp2_with fail
    refine (HX.out _).mono ?_
    rintro e u3 ⟨hb3, a1, c1, a2, c2, rfl, hXI, hXO⟩
    have hXP : Exp u3 a1 H c1 a2 D c2 MI MO := ⟨Shape.any hXI, Shape.any hXO⟩
    have hnb := new_bel u3 (.cells #[.slice a1 H c1, .slice a2 D c2] 33)
    have kbU := (kb9.keep hb3).keep hnb
    have kx := Box.new u3 33 #[.slice a1 H c1, .slice a2 D c2]
    have hBU := bel_then (bel_then hB9 hb3) hnb
    have HR : Hid (Calls _ _ _ _ _) := xright_tell a1 H c1 a2 D c2 MI MO D _ (hXP.below hnb) hz1 hz2 false (tell_no hnR)
    clear kb9 hB9 hb3 HX hnb hXP hXI hXO hnR hz1 hz2
    go_upto_region 7 with fail
    generalize u3.alloc (.cells #[.slice a1 H c1, .slice a2 D c2] 33) = U at *
    have x0 := kx.cell 0 rfl
    have x1 := kx.cell 1 rfl
    go_wp2_with fail
    refine HR.out.mono ?_
    rintro e u4 ⟨rfl, hb4⟩
    have kb4 := kbU.keep hb4
    have c0 := kb4.cell 0 rfl
    have c1 := kb4.cell 1 rfl
    have f0 := kb4.free 0
    have f1 := kb4.free 1
    have hend := bel_all2 (bel_then hBU hb4) (b := w.heap.size) (Nat.le_refl _) (.slice none 0 0) (.slice none 0 0)
    clear x0 x1 kx HR
    go_wp2
    refine ret_three Try.underlying33 Try.infoExpert rfl rfl rfl rfl rfl (kb4.all2 _ _) rfl ?_
    exact ⟨rfl, hend⟩

set_option maxHeartbeats 1000000 in
include hs in
set_option maxRecDepth 100000 in
theorem kimport_ok (h : Ck.formed s.data.toList) (h2 : Ck.summed s.data.toList) (h3 : Ck.told s.data.toList) : Calls Try.prog 10 #[.string s] w fun e w' => Below w.heap.size w w' ∧ ∃ ai ni ci ao no co, e = .returned (.tuple #[.agg #[.slice ai ni ci, .slice ao no co], .int .i64 (Ck.dOf s.data.toList), .int .i64 0]) ∧ ExpHi w.heap.size w' ai ni ci ao no co (Ck.ins s.data.toList) (Ck.outs s.data.toList) := by
  obtain ⟨S, E, hF⟩ := formed_there s h
  have hl := list_size s
  have hlS := list_size S
  have tm : ((s.size : Nat) : Int).tmod 4 = ((s.size % 4 : Nat) : Int) := by rw [Int.tmod_eq_emod_of_nonneg (by omega)]; rfl
  have hE : s.size = E + 4 := hF.size
  have hEE : (s.size : Int) - 4 = (E : Int) := by omega
  have hE5 : E ≤ 100000 := by omega
  have q1 : ¬ (s.size : Int) < 12 := by have := hF.few; omega
  have q2 : (((s.size % 4 : Nat) : Int) != 0) = false := by rw [hF.four]; rfl
  have hcut := hF.cut
  have hyx : Wx.at4 s.data.toList E = crc S := by
    have h9 := h2
    unfold Ck.summed at h9
    rw [← hF.list, hl, show s.size - 4 = E by omega] at h9
    exact h9
  have HN : Hid (∀ w, Calls Try.prog 20 #[.string s, .int .i64 (E : Int)] w fun e w' => e = .returned (.int .i64 (crc S : Nat)) ∧ Below w.heap.size w w') := fun w => by rw [← hyx]; exact knumberAt s E E ⟨rfl, by omega, by unfold maxLen; omega⟩ w
  have HC : Hid (∀ w, Calls Try.prog 19 #[.string S] w fun e w' => e = .returned (.int .i64 (crc S : Nat)) ∧ w' = w) := fun w => csum S (by rw [hF.long]; unfold maxLen; omega) w
  obtain ⟨H, hH⟩ : ∃ H, Wx.at4 S.data.toList 0 = H := ⟨_, rfl⟩
  obtain ⟨D, hD⟩ : ∃ D, Wx.at4 S.data.toList 4 = D := ⟨_, rfl⟩
  have hTI := told_is (H := H) (D := D) h (by rw [← hF.list]; exact hH) (by rw [← hF.list]; exact hD)
  rw [← hF.list, hl, show s.size - 4 = E by omega] at hTI
  have hSE := hF.long
  have hS8 : 8 ≤ S.size := by have := hF.few; omega
  obtain ⟨⟨b1, b2, b3⟩, hR⟩ := hTI.1 h3
  have hP := told_parts (H := H) (D := D) h (by rw [← hF.list]; exact hH) (by rw [← hF.list]; exact hD) b1 b2 (by rw [hl]; omega)
  rw [← hF.list] at hP
  obtain ⟨_, p2, _, p4, p5⟩ := hP
  rw [p2, p4, p5]
  have HX : Hid (∀ w, Calls Try.prog 21 #[.string S] w fun e w' => Below w.heap.size w w' ∧ ∃ a1 c1 a2 c2, e = .returned (.tuple #[.agg #[.slice a1 H c1, .slice a2 D c2], .int .i64 (D : Int), .bool true]) ∧ matS.rep w' (w.heap.size ≤ ·) [.slice a1 H c1] (Ck.rowsOf S.data.toList 8 H D) ∧ matS.rep w' (w.heap.size ≤ ·) [.slice a2 D c2] (Ck.rowsOf S.data.toList (8 + 4 * (H * D)) D H)) := fun w => kexpertOf S H D hH hD b1 b2 (by omega) w
  have hz1 := rowsOf_sized S.data.toList 8 b1 b2
  have hz2 := rowsOf_sized S.data.toList (8 + 4 * (H * D)) b2 b1
  clear h h2 h3 hF hl hs hE hTI hH hD hyx hSE hS8 hlS b3 p2 p4 p5
  generalize Ck.rowsOf S.data.toList 8 H D = MI at *
  generalize Ck.rowsOf S.data.toList (8 + 4 * (H * D)) D H = MO at *
  generalize crc S = x at *
  have q3 : ((x : Int) != (x : Int)) = false := by simp
  have kb := Box.new w 33 #[.slice none 0 0, .slice none 0 0]
  have hB := new_bel w (.cells #[.slice none 0 0, .slice none 0 0] 33)
  go_enter Try.func10, Try.ntmps10
  go_wp2
  generalize w.alloc (.cells #[.slice none 0 0, .slice none 0 0] 33) = W at *
  have hne9 : Nonempty (Later W) := Later.there W
  refine region_later (by kernel_rfl) (by kernel_rfl) ?_
  repeat (go_big_quiet_step (first
    | (go_at_call 20; exact Later.call (HN.out _))
    | (go_at_call 19; exact Later.same (HC.out _))))
  refine wpQuiet_nil ?_
  intro x9
  obtain ⟨W9, hb9⟩ := x9
  have kb9 := kb.keep hb9
  have hB9 := bel_then hB hb9
  clear hne9 HN HC hB kb
  go_wp2_with fail
  refine (HX.out _).mono ?_
  rintro e u3 ⟨hb3, a1, c1, a2, c2, rfl, hXI, hXO⟩
  have hXP : Exp u3 a1 H c1 a2 D c2 MI MO := ⟨Shape.any hXI, Shape.any hXO⟩
  have hnb := new_bel u3 (.cells #[.slice a1 H c1, .slice a2 D c2] 33)
  have kb3 := kb9.keep hb3
  have hV9 := kb9.lt
  have hwW : w.heap.size ≤ W9.heap.size := hB9.size
  have hI4 : ∀ u, Below (u3.alloc (.cells #[.slice a1 H c1, .slice a2 D c2] 33)).heap.size (u3.alloc (.cells #[.slice a1 H c1, .slice a2 D c2] 33)) u → ∀ v0 v1, ExpHi w.heap.size ((u.setCell ⟨w.heap.size, 0, none⟩ v0).setCell ⟨w.heap.size, 1, none⟩ v1) a1 H c1 a2 D c2 MI MO := fun u hu v0 v1 =>
    ⟨matS.mono (Shape.all2 (Shape.below (Shape.below hXI hnb) hu) (fun k (hk : W9.heap.size ≤ k) _ => by omega) v0 v1) (fun k (hk : W9.heap.size ≤ k) _ => by show w.heap.size ≤ k; omega), matS.mono (Shape.all2 (Shape.below (Shape.below hXO hnb) hu) (fun k (hk : W9.heap.size ≤ k) _ => by omega) v0 v1) (fun k (hk : W9.heap.size ≤ k) _ => by show w.heap.size ≤ k; omega)⟩
  have HI4 : Hid _ := hI4
  have kbU := kb3.keep hnb
  have kx := Box.new u3 33 #[.slice a1 H c1, .slice a2 D c2]
  have hBU := bel_then (bel_then hB9 hb3) hnb
  have hXU := hXP.below hnb
  have HR : Hid (Calls _ _ _ _ _) := xright_tell a1 H c1 a2 D c2 MI MO D _ hXU hz1 hz2 true (tell_yes hR)
  clear kb9 hB9 hb3 HX hnb hR hz1 hz2 kb3 hXP hXI hXO hI4 hV9
  go_upto_region 7 with fail
  generalize u3.alloc (.cells #[.slice a1 H c1, .slice a2 D c2] 33) = U at *
  have x0 := kx.cell 0 rfl
  have x1 := kx.cell 1 rfl
  go_wp2_with fail
  refine HR.out.mono ?_
  rintro e u4 ⟨rfl, hb4⟩
  have kb4 := kbU.keep hb4
  have kx4 := kx.keep hb4
  have v0 := kb4.cell 0 rfl
  have v1 := kb4.cell 1 rfl
  have f0 := kb4.free 0
  have f1 := kb4.free 1
  have y0 := kx4.cell 0 rfl
  have y1 := kx4.cell 1 rfl
  have HX4 : Hid _ := HI4.out u4 hb4 (.slice a1 H c1) (.slice a2 D c2)
  have hend := bel_all2 (bel_then hBU hb4) (b := w.heap.size) (Nat.le_refl _) (.slice a1 H c1) (.slice a2 D c2)
  clear x0 x1 HR HI4 hXU
  go_wp2
  refine ret_three Try.underlying33 Try.infoExpert rfl rfl rfl rfl rfl (kb4.all2 _ _) rfl ?_
  exact ⟨hend, a1, H, _, a2, D, _, rfl, HX4.out⟩

include hs in
/-- What Import answers. -/
theorem kimport_at (mi mo : List (List Int)) (dim er : Int) (ht : Ck.imp s.data.toList = ((mi, mo, ()), dim, er)) : Calls Try.prog 10 #[.string s] w fun e w' => Below w.heap.size w w' ∧ ∃ ai ni ci ao no co, e = .returned (.tuple #[.agg #[.slice ai ni ci, .slice ao no co], .int .i64 dim, .int .i64 er]) ∧ ExpHi w.heap.size w' ai ni ci ao no co mi mo := by
  by_cases h1 : Ck.formed s.data.toList
  · by_cases h2 : Ck.summed s.data.toList
    · by_cases h3 : Ck.told s.data.toList
      · rw [Ck.imp_ok h1 h2 h3] at ht
        cases ht
        exact kimport_ok s hs w h1 h2 h3
      · rw [Ck.imp_untold h1 h2 h3] at ht
        cases ht
        exact (kimport_untold s hs w h1 h2 h3).mono (by rintro e w' ⟨rfl, hb⟩; exact ⟨hb, none, 0, 0, none, 0, 0, rfl, ⟨rep_none _ _ _, rep_none _ _ _⟩⟩)
    · rw [Ck.imp_unsummed h1 h2] at ht
      cases ht
      exact (kimport_unsummed s hs w h1 h2).mono (by rintro e w' ⟨rfl, hb⟩; exact ⟨hb, none, 0, 0, none, 0, 0, rfl, ⟨rep_none _ _ _, rep_none _ _ _⟩⟩)
  · rw [Ck.imp_unformed h1] at ht
    cases ht
    exact (kimport_unformed s w h1).mono (by rintro e w' ⟨rfl, hb⟩; exact ⟨hb, none, 0, 0, none, 0, 0, rfl, ⟨rep_none _ _ _, rep_none _ _ _⟩⟩)
include hs in
theorem kimport (mi mo : List (List Int)) (dim er : Int) (ht : Ck.imp s.data.toList = ((mi, mo, ()), dim, er)) : Calls Try.prog 10 #[.string s] w fun e w' => Below w.heap.size w w' ∧ ∃ ai ni ci ao no co, e = .returned (.tuple #[.agg #[.slice ai ni ci, .slice ao no co], .int .i64 dim, .int .i64 er]) ∧ Exp w' ai ni ci ao no co mi mo :=
  (kimport_at s hs w mi mo dim er ht).mono fun _ _ ⟨hb, ai, ni, ci, ao, no, co, he, hx⟩ => ⟨hb, ai, ni, ci, ao, no, co, he, hx.exp⟩
end

end Go.Proofs.Ytokkhkhipgopbaa
