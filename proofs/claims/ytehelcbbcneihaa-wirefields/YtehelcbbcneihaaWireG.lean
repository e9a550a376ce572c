/- What the document's Take of layer 7 does when called. -/
import Derived.Test.YtehelcbbcneihaaWireE
import Derived.Test.YtehelcbbcneihaaWireT
namespace Go.Proofs.Ytehelcbbcneihaa
open Go.ChangeShapes Go.WideShapes Go.ChangeAt Go.RowKit

/-- The ten numbers ahead of Vec, as the document reads them. -/
theorem rat10 (s : ByteArray) (h52 : 52 ≤ s.size) (hs : s.size ≤ maxLen) : ∃ h0 h1 h2 h3 h4 h5 h6 h7 h8 h9, Wx.msgOf s.data.toList = ⟨h0, h1, h2, h3, h4, h5, h6, h7, h8, h9, Wx.vecOf s.data.toList⟩ ∧
    Hid (∀ w, Calls Try.prog 28 #[.string s, .int .i64 4] w fun e w' => e = .returned (.int .i64 h0) ∧ Below w.heap.size w w') ∧
    Hid (∀ w, Calls Try.prog 28 #[.string s, .int .i64 8] w fun e w' => e = .returned (.int .i64 h1) ∧ Below w.heap.size w w') ∧
    Hid (∀ w, Calls Try.prog 28 #[.string s, .int .i64 12] w fun e w' => e = .returned (.int .i64 h2) ∧ Below w.heap.size w w') ∧
    Hid (∀ w, Calls Try.prog 28 #[.string s, .int .i64 16] w fun e w' => e = .returned (.int .i64 h3) ∧ Below w.heap.size w w') ∧
    Hid (∀ w, Calls Try.prog 28 #[.string s, .int .i64 20] w fun e w' => e = .returned (.int .i64 h4) ∧ Below w.heap.size w w') ∧
    Hid (∀ w, Calls Try.prog 28 #[.string s, .int .i64 24] w fun e w' => e = .returned (.int .i64 h5) ∧ Below w.heap.size w w') ∧
    Hid (∀ w, Calls Try.prog 28 #[.string s, .int .i64 28] w fun e w' => e = .returned (.int .i64 h6) ∧ Below w.heap.size w w') ∧
    Hid (∀ w, Calls Try.prog 28 #[.string s, .int .i64 32] w fun e w' => e = .returned (.int .i64 h7) ∧ Below w.heap.size w w') ∧
    Hid (∀ w, Calls Try.prog 28 #[.string s, .int .i64 36] w fun e w' => e = .returned (.int .i64 h8) ∧ Below w.heap.size w w') ∧
    Hid (∀ w, Calls Try.prog 28 #[.string s, .int .i64 40] w fun e w' => e = .returned (.int .i64 h9) ∧ Below w.heap.size w w') :=
  ⟨_, _, _, _, _, _, _, _, _, _, rfl, fun w => rat s 4 4 ⟨rfl, by omega, hs⟩ w, fun w => rat s 8 8 ⟨rfl, by omega, hs⟩ w, fun w => rat s 12 12 ⟨rfl, by omega, hs⟩ w, fun w => rat s 16 16 ⟨rfl, by omega, hs⟩ w, fun w => rat s 20 20 ⟨rfl, by omega, hs⟩ w, fun w => rat s 24 24 ⟨rfl, by omega, hs⟩ w, fun w => rat s 28 28 ⟨rfl, by omega, hs⟩ w, fun w => rat s 32 32 ⟨rfl, by omega, hs⟩ w, fun w => rat s 36 36 ⟨rfl, by omega, hs⟩ w, fun w => rat s 40 40 ⟨rfl, by omega, hs⟩ w⟩

theorem vec_at (s : List UInt8) {k : Nat} (h : k < (s.length - 52) / 4) : (Wx.vecOf s).getD k 0 = Wx.sg (Wx.at4 s (48 + 4 * k)) := by
  rw [List.getD_eq_getElem?_getD]; simp [Wx.vecOf, h]

set_option maxHeartbeats 1000000 in
theorem rtake (s : ByteArray) (hs : s.size ≤ 1000) (y0 y1 y2 y3 y4 y5 y6 y7 y8 y9 : Int) (l : List Int) (er : Int) (ht : Wx.take s.data.toList = (⟨y0, y1, y2, y3, y4, y5, y6, y7, y8, y9, l⟩, er)) (w : World) : Calls Try.prog 16 #[.string s] w fun e w' => Below w.heap.size w w' ∧
    ∃ ya yn yc, e = .returned (.tuple #[.agg #[.int .i64 y0, .int .i64 y1, .int .i64 y2, .int .i64 y3, .int .i64 y4, .int .i64 y5, .int .i64 y6, .int .i64 y7, .int .i64 y8, .int .i64 y9, .slice ya yn yc], .int .i64 er]) ∧ rowS.rep w' everywhere [.slice ya yn yc] l := by
  have hsm : s.size ≤ maxLen := by unfold maxLen; omega
  have hsl : s.data.toList.length = s.size := by rw [Array.length_toList]; rfl
  obtain ⟨N, hN⟩ : ∃ N, w.heap.size = N := ⟨_, rfl⟩
  have hz0 := Box.new w 24 #[.int .i64 0, .int .i64 0, .int .i64 0, .int .i64 0, .int .i64 0, .int .i64 0, .int .i64 0, .int .i64 0, .int .i64 0, .int .i64 0, .slice none 0 0]
  rw [hN] at hz0
  have hbl0 := new_bel w (.cells #[.int .i64 0, .int .i64 0, .int .i64 0, .int .i64 0, .int .i64 0, .int .i64 0, .int .i64 0, .int .i64 0, .int .i64 0, .int .i64 0, .slice none 0 0] 24)
  by_cases h52 : s.size < 52
  · have q : (s.size : Int) < 52 := by omega
    have h0 := ht.symm.trans (Wx.take_unformed (fun h => by have := h.1; omega))
    cases h0
    have f0 := hz0.free 0
    have f1 := hz0.free 1
    have f2 := hz0.free 2
    have f3 := hz0.free 3
    have f4 := hz0.free 4
    have f5 := hz0.free 5
    have f6 := hz0.free 6
    have f7 := hz0.free 7
    have f8 := hz0.free 8
    have f9 := hz0.free 9
    have f10 := hz0.free 10
    have c0 := hz0.cell 0 rfl
    have c1 := hz0.cell 1 rfl
    have c2 := hz0.cell 2 rfl
    have c3 := hz0.cell 3 rfl
    have c4 := hz0.cell 4 rfl
    have c5 := hz0.cell 5 rfl
    have c6 := hz0.cell 6 rfl
    have c7 := hz0.cell 7 rfl
    have c8 := hz0.cell 8 rfl
    have c9 := hz0.cell 9 rfl
    have c10 := hz0.cell 10 rfl
    go_enter Try.func16, Try.ntmps16
    go_wp2
    refine ret_box rfl rfl rfl rfl hz0 rfl ?_
    exact ⟨hbl0, none, 0, 0, rfl, rep_none _ _ _⟩
  have q52 : ¬ (s.size : Int) < 52 := by omega
  have HA0 : Hid _ := rat s 0 0 ⟨rfl, by omega, hsm⟩
  have hx0 := Wx.at4_lt s.data.toList 0
  have HFO : Hid (Wx.formed s.data.toList ↔ Wx.at4 s.data.toList 0 = s.size - 4 ∧ s.size % 4 = 0) := by
    show _ ↔ _
    unfold Wx.formed
    rw [hsl]
    exact ⟨fun h => h.2, fun h => ⟨by omega, h⟩⟩
  obtain ⟨x0, ex0⟩ : ∃ x0, x0 = Wx.at4 s.data.toList 0 := ⟨_, rfl⟩
  rw [← ex0] at HA0 hx0 HFO
  clear ex0
  by_cases hf1 : x0 = s.size - 4
  rotate_left
  · have q1 : ((x0 : Int) != (s.size : Int) - 4) = true := by rw [bne_iff_ne]; omega
    have h0 := ht.symm.trans (Wx.take_unformed (fun h => hf1 (HFO.out.1 h).1))
    cases h0
    go_enter Try.func16, Try.ntmps16
    go_wp2_with fail
    refine (HA0.out _).mono ?_
    rintro e u ⟨rfl, hb⟩
    have hz := hz0.keep hb
    have hbel := bel_then hbl0 hb
    have f0 := hz.free 0
    have f1 := hz.free 1
    have f2 := hz.free 2
    have f3 := hz.free 3
    have f4 := hz.free 4
    have f5 := hz.free 5
    have f6 := hz.free 6
    have f7 := hz.free 7
    have f8 := hz.free 8
    have f9 := hz.free 9
    have f10 := hz.free 10
    have c0 := hz.cell 0 rfl
    have c1 := hz.cell 1 rfl
    have c2 := hz.cell 2 rfl
    have c3 := hz.cell 3 rfl
    have c4 := hz.cell 4 rfl
    have c5 := hz.cell 5 rfl
    have c6 := hz.cell 6 rfl
    have c7 := hz.cell 7 rfl
    have c8 := hz.cell 8 rfl
    have c9 := hz.cell 9 rfl
    have c10 := hz.cell 10 rfl
    go_wp2
    refine ret_box rfl rfl rfl rfl (hz.all11 _ _ _ _ _ _ _ _ _ _ _) rfl ?_
    exact ⟨bel_all11 hbel (by omega) _ _ _ _ _ _ _ _ _ _ _, none, 0, 0, rfl, rep_none _ _ _⟩
  have q1 : ((x0 : Int) != (s.size : Int) - 4) = false := by rw [bne_eq_false_iff_eq]; omega
  have HF1 : Hid (x0 = s.size - 4) := hf1
  clear hf1
  by_cases hf2 : s.size % 4 = 0
  rotate_left
  · have q2 : ((s.size : Int) % 4 != 0) = true := by rw [bne_iff_ne]; omega
    have h0 := ht.symm.trans (Wx.take_unformed (fun h => hf2 (HFO.out.1 h).2))
    cases h0
    go_enter Try.func16, Try.ntmps16
    go_wp2_with fail
    refine (HA0.out _).mono ?_
    rintro e u ⟨rfl, hb⟩
    have hz := hz0.keep hb
    have hbel := bel_then hbl0 hb
    have f0 := hz.free 0
    have f1 := hz.free 1
    have f2 := hz.free 2
    have f3 := hz.free 3
    have f4 := hz.free 4
    have f5 := hz.free 5
    have f6 := hz.free 6
    have f7 := hz.free 7
    have f8 := hz.free 8
    have f9 := hz.free 9
    have f10 := hz.free 10
    have c0 := hz.cell 0 rfl
    have c1 := hz.cell 1 rfl
    have c2 := hz.cell 2 rfl
    have c3 := hz.cell 3 rfl
    have c4 := hz.cell 4 rfl
    have c5 := hz.cell 5 rfl
    have c6 := hz.cell 6 rfl
    have c7 := hz.cell 7 rfl
    have c8 := hz.cell 8 rfl
    have c9 := hz.cell 9 rfl
    have c10 := hz.cell 10 rfl
    go_wp2
    refine ret_box rfl rfl rfl rfl (hz.all11 _ _ _ _ _ _ _ _ _ _ _) rfl ?_
    exact ⟨bel_all11 hbel (by omega) _ _ _ _ _ _ _ _ _ _ _, none, 0, 0, rfl, rep_none _ _ _⟩
  have q2 : ((s.size : Int) % 4 != 0) = false := by rw [bne_eq_false_iff_eq]; omega
  have HF : Hid (Wx.formed s.data.toList) := HFO.out.2 ⟨HF1.out, hf2⟩
  have HF2 : Hid (s.size % 4 = 0) := hf2
  clear hf2
  obtain ⟨D, hD, hDl, hDs⟩ := cut_inner s (by omega)
  have HCR : Hid (crc D = Cx.sum (Wx.inner s.data.toList)) := by show Cx.sum D.data.toList = _; rw [hDl]
  have hcs : ∀ w, _ := fun w => rsum D (by rw [hDs]; unfold maxLen; omega) w
  have HNA : Hid (∀ i : Int, i = (s.size : Int) - 4 → ∀ w, Calls Try.prog 28 #[.string s, .int .i64 i] w fun e w' => e = .returned (.int .i64 (Wx.at4 s.data.toList (s.size - 4) : Nat)) ∧ Below w.heap.size w w') := fun i hi => rat s i (s.size - 4) ⟨by omega, by omega, hsm⟩
  have HSU : Hid (Wx.summed s.data.toList ↔ Wx.at4 s.data.toList (s.size - 4) = crc D) := by show _ ↔ _; unfold Wx.summed; rw [hsl, HCR.out]
  have hx := Wx.at4_lt s.data.toList (s.size - 4)
  have hy := crc_lt D
  generalize Wx.at4 s.data.toList (s.size - 4) = x at *
  generalize crc D = yy at *
  have ws : IntKind.i64.wrap ((s.size : Int) - 4) = (s.size : Int) - 4 := by rw [IntKind.wrap_i64]; omega
  clear hDl HCR hDs
  by_cases hsu : x = yy
  rotate_left
  · have q : ((x : Int) != (yy : Int)) = true := by rw [bne_iff_ne]; omega
    have h0 := ht.symm.trans (Wx.take_unsummed HF.out (fun h => hsu (HSU.out.1 h)))
    cases h0
    go_enter Try.func16, Try.ntmps16
    go_wp2_with fail
    refine (HA0.out _).mono ?_
    rintro e u ⟨rfl, hb⟩
    have hz := hz0.keep hb
    have hbel := bel_then hbl0 hb
    have hne9 : Nonempty (Later u) := Later.there u
    go_wp2
    refine region_later (by kernel_rfl) (by kernel_rfl) ?_
    repeat (go_big_quiet_step (first | (go_at_call 28; exact Later.call (HNA.out _ (by omega) _)) | (go_at_call 27; exact Later.same (hcs _))))
    refine wpQuiet_nil ?_
    intro x9
    obtain ⟨W9, hb9⟩ := x9
    have hz9 := hz.keep hb9
    have hbel9 := bel_then hbel hb9
    have f0 := hz9.free 0
    have f1 := hz9.free 1
    have f2 := hz9.free 2
    have f3 := hz9.free 3
    have f4 := hz9.free 4
    have f5 := hz9.free 5
    have f6 := hz9.free 6
    have f7 := hz9.free 7
    have f8 := hz9.free 8
    have f9 := hz9.free 9
    have f10 := hz9.free 10
    have c0 := hz9.cell 0 rfl
    have c1 := hz9.cell 1 rfl
    have c2 := hz9.cell 2 rfl
    have c3 := hz9.cell 3 rfl
    have c4 := hz9.cell 4 rfl
    have c5 := hz9.cell 5 rfl
    have c6 := hz9.cell 6 rfl
    have c7 := hz9.cell 7 rfl
    have c8 := hz9.cell 8 rfl
    have c9 := hz9.cell 9 rfl
    have c10 := hz9.cell 10 rfl
    go_wp2
    refine ret_box rfl rfl rfl rfl (hz9.all11 _ _ _ _ _ _ _ _ _ _ _) rfl ?_
    exact ⟨bel_all11 hbel9 (by omega) _ _ _ _ _ _ _ _ _ _ _, none, 0, 0, rfl, rep_none _ _ _⟩
  have q : ((x : Int) != (yy : Int)) = false := by rw [bne_eq_false_iff_eq]; omega
  have HS : Hid (Wx.summed s.data.toList) := HSU.out.2 hsu
  clear hsu
  obtain ⟨h0, h1, h2, h3, h4, h5, h6, h7, h8, h9, HM, K0, K1, K2, K3, K4, K5, K6, K7, K8, K9⟩ := rat10 s (by omega) hsm
  obtain ⟨i0, hi0, hi1, hi2, hi3⟩ := info_parts Try.infoInt
  obtain ⟨n, hn⟩ : ∃ n, n = (s.size - 52) / 4 := ⟨_, rfl⟩
  have hn2 : s.size = 52 + 4 * n := by have := HF2.out; omega
  have HV : Hid ((Wx.vecOf s.data.toList).length = n) := by show _ = _; rw [vecOf_len, hsl, hn]
  have HW : Hid (∀ k, k < n → (Wx.vecOf s.data.toList).getD k 0 = Wx.sg (Wx.at4 s.data.toList (48 + 4 * k))) := fun k hk => vec_at _ (by rw [hsl, ← hn]; exact hk)
  have HT : Hid (Wx.told s.data.toList ↔ Wx.at4 s.data.toList 44 = n ∧ Wx.right ⟨h0, h1, h2, h3, h4, h5, h6, h7, h8, h9, Wx.vecOf s.data.toList⟩) := by
    show _ ↔ _
    unfold Wx.told
    rw [HV.out, HM]
  have HMM : Hid (Wx.msgOf s.data.toList = ⟨h0, h1, h2, h3, h4, h5, h6, h7, h8, h9, Wx.vecOf s.data.toList⟩) := HM
  have HA44 : Hid _ := rat s 44 44 ⟨rfl, by omega, hsm⟩
  have hx44 := Wx.at4_lt s.data.toList 44
  obtain ⟨x44, ex44⟩ : ∃ x44, x44 = Wx.at4 s.data.toList 44 := ⟨_, rfl⟩
  rw [← ex44] at HT HA44 hx44
  have HSZ : Hid (s.size = 52 + 4 * n) := hn2
  have hn3 : n ≤ 1000 := by omega
  clear HM ex44 hn hsl hn2
  go_enter Try.func16, Try.ntmps16
  go_wp2_with fail
  refine (HA0.out _).mono ?_
  rintro e u ⟨rfl, hb⟩
  have hz := hz0.keep hb
  have hbel := bel_then hbl0 hb
  have hne9 : Nonempty (Later u) := Later.there u
  go_wp2
  refine region_later (by kernel_rfl) (by kernel_rfl) ?_
  repeat (go_big_quiet_step (first | (go_at_call 28; exact Later.call (HNA.out _ (by omega) _)) | (go_at_call 27; exact Later.same (hcs _))))
  refine wpQuiet_nil ?_
  intro x9
  obtain ⟨v0, hb9⟩ := x9
  have hz9 := hz.keep hb9
  have hbel9 := bel_then hbel hb9
  clear hz hbel hb HA0 HNA HSU hcs hD
  go_wp2_with fail
  refine (K0.out _).mono ?_
  rintro e v1 ⟨rfl, hb1⟩
  have hw1 := hb1
  go_wp2_with fail
  refine (K1.out _).mono ?_
  rintro e v2 ⟨rfl, hb2⟩
  have hw2 := bel_then hw1 hb2
  go_wp2_with fail
  refine (K2.out _).mono ?_
  rintro e v3 ⟨rfl, hb3⟩
  have hw3 := bel_then hw2 hb3
  go_wp2_with fail
  refine (K3.out _).mono ?_
  rintro e v4 ⟨rfl, hb4⟩
  have hw4 := bel_then hw3 hb4
  go_wp2_with fail
  refine (K4.out _).mono ?_
  rintro e v5 ⟨rfl, hb5⟩
  have hw5 := bel_then hw4 hb5
  go_wp2_with fail
  refine (K5.out _).mono ?_
  rintro e v6 ⟨rfl, hb6⟩
  have hw6 := bel_then hw5 hb6
  go_wp2_with fail
  refine (K6.out _).mono ?_
  rintro e v7 ⟨rfl, hb7⟩
  have hw7 := bel_then hw6 hb7
  go_wp2_with fail
  refine (K7.out _).mono ?_
  rintro e v8 ⟨rfl, hb8⟩
  have hw8 := bel_then hw7 hb8
  go_wp2_with fail
  refine (K8.out _).mono ?_
  rintro e v9 ⟨rfl, hb9⟩
  have hw9 := bel_then hw8 hb9
  go_wp2_with fail
  refine (K9.out _).mono ?_
  rintro e v10 ⟨rfl, hb10⟩
  have hw10 := bel_then hw9 hb10
  have hz4 := hz9.keep hw10
  have hbel4 := bel_then hbel9 hw10
  clear hz9 hbel9 hb1 hw1 K0 hb2 hw2 K1 hb3 hw3 K2 hb4 hw4 K3 hb5 hw5 K4 hb6 hw6 K5 hb7 hw7 K6 hb8 hw8 K7 hb9 hw9 K8 hb10 hw10 K9
  obtain ⟨M, hM⟩ : ∃ M, v10.heap.size = M := ⟨_, rfl⟩
  have HNM : Hid (N < M) := by show _ < _; rw [← hM]; exact hz4.lt
  go_wp2
  go_loopw [5] (fun i wr => ∃ (k : Nat) (va : Option Addr) (vc : Nat), k ≤ n ∧ i = .int .i64 (48 + 4 * (k : Int)) ∧ Box wr M 24 #[.int .i64 h0, .int .i64 h1, .int .i64 h2, .int .i64 h3, .int .i64 h4, .int .i64 h5, .int .i64 h6, .int .i64 h7, .int .i64 h8, .int .i64 h9, .slice va k vc] ∧ Own (intS .i64) wr (M + 1) 3 (.slice va k vc) ((Wx.vecOf s.data.toList).take k) ∧ Below M v10 wr) (fun i _ => s.size - (intOf i).toNat)
  case atStart =>
    subst hM
    exact ⟨0, none, 0, Nat.zero_le _, rfl, Box.new _ _ _, Own.nil _ _ _ _, new_bel _ _⟩
  case round =>
    obtain ⟨k, va, vc, hk, rfl, hbox, hown, hbl⟩ := hrel
    by_cases hlt : k < n
    · have hli : 48 + 4 * (k : Int) < (s.size : Int) - 4 := by have := HSZ.out; omega
      have HTT : Hid (((Wx.vecOf s.data.toList).take k).length = k) := by show _ = _; rw [List.length_take, HV.out]; omega
      have HSS : Hid ((Wx.vecOf s.data.toList).take (k + 1) = (Wx.vecOf s.data.toList).take k ++ [Wx.sg (Wx.at4 s.data.toList (48 + 4 * k))]) := by
        show _ = _
        rw [take_snoc _ _ (by rw [HV.out]; exact hlt), HW.out k hlt]
      have hx4 := Wx.at4_lt s.data.toList (48 + 4 * k)
      have HNA : Hid (∀ i : Int, i = 48 + 4 * (k : Int) → ∀ w, Calls Try.prog 28 #[.string s, .int .i64 i] w fun e w' => e = .returned (.int .i64 (Wx.at4 s.data.toList (48 + 4 * k) : Nat)) ∧ Below w.heap.size w w') := fun i hi => rat s i (48 + 4 * k) ⟨by omega, by have := HSZ.out; omega, hsm⟩
      have HMS : Hid (s.size - (48 + 4 * k + 4) < s.size - (48 + 4 * k)) := by show _ < _; have := HSZ.out; omega
      generalize Wx.at4 s.data.toList (48 + 4 * k) = x at *
      have hne : some M ≠ Value.ownBlock (.slice va k vc) := fun h => by have := (hown.lt M h.symm).1; omega
      by_cases hgt : x > 2147483647
      · have qg : (2147483647 : Int) < (x : Int) := by omega
        have HG : Hid (Wx.sg x = (x : Int) - 4294967296) := by show _ = _; unfold Wx.sg; rw [if_pos hgt]
        go_wp2_with fail
        refine (HNA.out _ (by omega) _).mono ?_
        rintro e u5 ⟨rfl, hb5⟩
        have hbox5 := hbox.keep hb5
        have hc5 := hbox5.cell 10 rfl
        have ho5 := hown.keep hb5
        go_wp2_with (at_builtin; refine wpList_app (intS .i64) (by simp [Region.wanted]) (.tmp 74) (.tmp 76) 22 rfl (M + 1) 3 i0 (.int .i64 0) 8 Try.underlying22 hi0 hi1 hi2 hi3 rfl Nat.one_pos (by omega) (by rfl) (ho5.keep (new_bel u5 _)) (by rfl) (ho5.src ((x : Int) - 4294967296)).1 (ho5.src ((x : Int) - 4294967296)).2 (by rw [HTT.out]; omega) (by have := hbox5.lt; simp; omega) ?_; intro a6 c6 u6 ho6 hg6 hb6 hat6; rw [HTT.out] at ho6 ⊢; have hbox6 := (hbox5.keep (new_bel u5 _)).grown hg6 hne; have hc6 := hbox6.cell 10 rfl; have hf6 := hbox6.free 10)
        go_roundw
        case rel =>
          refine ⟨k + 1, a6, c6, by omega, by go_num, hbox6.set10 _, ?_, ?_⟩
          · rw [HSS.out, HG.out]
            exact Own.other ho6 (grown_set u6 M 10 _) (fun b hb h => by have := (ho6.lt b hb).1; have := Option.some.inj h; omega)
          · exact bel_put (hbl.trans ((hb5.mono (by have := hbox.lt; omega)).trans (((Below.refl _ _).alloc (by have := hbox5.lt; omega) _).trans (hb6.mono (by omega))))) (Nat.le_refl _) _
        case measure => have := HMS.out; simp [intOf]; omega
      · have qg : ¬ (2147483647 : Int) < (x : Int) := by omega
        have HG : Hid (Wx.sg x = (x : Int)) := by show _ = _; unfold Wx.sg; rw [if_neg hgt]
        go_wp2_with fail
        refine (HNA.out _ (by omega) _).mono ?_
        rintro e u5 ⟨rfl, hb5⟩
        have hbox5 := hbox.keep hb5
        have hc5 := hbox5.cell 10 rfl
        have ho5 := hown.keep hb5
        go_wp2_with (at_builtin; refine wpList_app (intS .i64) (by simp [Region.wanted]) (.tmp 74) (.tmp 76) 22 rfl (M + 1) 3 i0 (.int .i64 0) 8 Try.underlying22 hi0 hi1 hi2 hi3 rfl Nat.one_pos (by omega) (by rfl) (ho5.keep (new_bel u5 _)) (by rfl) (ho5.src ((x : Int))).1 (ho5.src ((x : Int))).2 (by rw [HTT.out]; omega) (by have := hbox5.lt; simp; omega) ?_; intro a6 c6 u6 ho6 hg6 hb6 hat6; rw [HTT.out] at ho6 ⊢; have hbox6 := (hbox5.keep (new_bel u5 _)).grown hg6 hne; have hc6 := hbox6.cell 10 rfl; have hf6 := hbox6.free 10)
        go_roundw
        case rel =>
          refine ⟨k + 1, a6, c6, by omega, by go_num, hbox6.set10 _, ?_, ?_⟩
          · rw [HSS.out, HG.out]
            exact Own.other ho6 (grown_set u6 M 10 _) (fun b hb h => by have := (ho6.lt b hb).1; have := Option.some.inj h; omega)
          · exact bel_put (hbl.trans ((hb5.mono (by have := hbox.lt; omega)).trans (((Below.refl _ _).alloc (by have := hbox5.lt; omega) _).trans (hb6.mono (by omega))))) (Nat.le_refl _) _
        case measure => have := HMS.out; simp [intOf]; omega
    · have hkn : k = n := by omega
      subst hkn
      have hli : ¬ 48 + 4 * (k : Int) < (s.size : Int) - 4 := by have := HSZ.out; omega
      have HA2 : Hid ((Wx.vecOf s.data.toList).take k = Wx.vecOf s.data.toList) := List.take_of_length_le (by rw [HV.out]; exact Nat.le_refl _)
      rw [HA2.out] at hown
      have hz5 := hz4.below hbl HNM.out
      have hbel5 := hbel4.trans (hbl.mono (by have := HNM.out; omega))
      have hrep := hown.high
      have d0 : ∀ x : Later wr, x.u.cell? ⟨M, 0, none⟩ = _ := fun x => x.cell (hbox.cell 0 rfl)
      have d1 : ∀ x : Later wr, x.u.cell? ⟨M, 1, none⟩ = _ := fun x => x.cell (hbox.cell 1 rfl)
      have d2 : ∀ x : Later wr, x.u.cell? ⟨M, 2, none⟩ = _ := fun x => x.cell (hbox.cell 2 rfl)
      have d3 : ∀ x : Later wr, x.u.cell? ⟨M, 3, none⟩ = _ := fun x => x.cell (hbox.cell 3 rfl)
      have d4 : ∀ x : Later wr, x.u.cell? ⟨M, 4, none⟩ = _ := fun x => x.cell (hbox.cell 4 rfl)
      have d5 : ∀ x : Later wr, x.u.cell? ⟨M, 5, none⟩ = _ := fun x => x.cell (hbox.cell 5 rfl)
      have d6 : ∀ x : Later wr, x.u.cell? ⟨M, 6, none⟩ = _ := fun x => x.cell (hbox.cell 6 rfl)
      have d7 : ∀ x : Later wr, x.u.cell? ⟨M, 7, none⟩ = _ := fun x => x.cell (hbox.cell 7 rfl)
      have d8 : ∀ x : Later wr, x.u.cell? ⟨M, 8, none⟩ = _ := fun x => x.cell (hbox.cell 8 rfl)
      have d9 : ∀ x : Later wr, x.u.cell? ⟨M, 9, none⟩ = _ := fun x => x.cell (hbox.cell 9 rfl)
      have d10 : ∀ x : Later wr, x.u.cell? ⟨M, 10, none⟩ = _ := fun x => x.cell (hbox.cell 10 rfl)
      have hne9 : Nonempty (Later wr) := Later.there wr
      by_cases h44 : x44 = k
      rotate_left
      · have q44 : ((x44 : Int) != (k : Int)) = true := by rw [bne_iff_ne]; omega
        have h0 := ht.symm.trans (Wx.take_untold HF.out HS.out (fun h => h44 (HT.out.1 h).1))
        cases h0
        go_wp2
        refine region_later (by kernel_rfl) (by kernel_rfl) ?_
        repeat (go_big_quiet_step (first | (go_at_call 28; exact Later.call (HA44.out _)) | (go_at_call 11; exact Later.call (HRR.out _))))
        refine wpQuiet_nil ?_
        intro x9
        obtain ⟨W9, hb9⟩ := x9
        have hz9 := hz5.keep hb9
        have hbox9 := hbox.keep hb9
        have hbel9 := bel_then hbel5 hb9
        have f0 := hz9.free 0
        have f1 := hz9.free 1
        have f2 := hz9.free 2
        have f3 := hz9.free 3
        have f4 := hz9.free 4
        have f5 := hz9.free 5
        have f6 := hz9.free 6
        have f7 := hz9.free 7
        have f8 := hz9.free 8
        have f9 := hz9.free 9
        have f10 := hz9.free 10
        have c0 := hz9.cell 0 rfl
        have c1 := hz9.cell 1 rfl
        have c2 := hz9.cell 2 rfl
        have c3 := hz9.cell 3 rfl
        have c4 := hz9.cell 4 rfl
        have c5 := hz9.cell 5 rfl
        have c6 := hz9.cell 6 rfl
        have c7 := hz9.cell 7 rfl
        have c8 := hz9.cell 8 rfl
        have c9 := hz9.cell 9 rfl
        have c10 := hz9.cell 10 rfl
        go_wp2
        refine ret_box rfl rfl rfl rfl (hz9.all11 _ _ _ _ _ _ _ _ _ _ _) rfl ?_
        exact ⟨bel_all11 hbel9 (by omega) _ _ _ _ _ _ _ _ _ _ _, none, 0, 0, rfl, rep_none _ _ _⟩
      have q44 : ((x44 : Int) != (k : Int)) = false := by rw [bne_eq_false_iff_eq]; omega
      have H44 : Hid (x44 = k) := h44
      clear h44
      by_cases hp : Wx.right ⟨h0, h1, h2, h3, h4, h5, h6, h7, h8, h9, Wx.vecOf s.data.toList⟩
      rotate_left
      · have HRR : Hid (∀ x : Later wr, Calls Try.prog 11 #[.agg #[.int .i64 h0, .int .i64 h1, .int .i64 h2, .int .i64 h3, .int .i64 h4, .int .i64 h5, .int .i64 h6, .int .i64 h7, .int .i64 h8, .int .i64 h9, .slice va k vc]] x.u fun e w' => e = .returned (.bool false) ∧ Below x.u.heap.size x.u w') := fun x =>
          (rright h0 h1 h2 h3 h4 h5 h6 h7 h8 h9 va k vc _ x.u (Shape.any (Shape.below hrep x.h)) (by omega)).mono (fun e w' h => ⟨h.1.not hp, h.2⟩)
        have h0 := ht.symm.trans (Wx.take_untold HF.out HS.out (fun h => hp (HT.out.1 h).2))
        cases h0
        go_wp2
        refine region_later (by kernel_rfl) (by kernel_rfl) ?_
        repeat (go_big_quiet_step (first | (go_at_call 28; exact Later.call (HA44.out _)) | (go_at_call 11; exact Later.call (HRR.out _))))
        refine wpQuiet_nil ?_
        intro x9
        obtain ⟨W9, hb9⟩ := x9
        have hz9 := hz5.keep hb9
        have hbox9 := hbox.keep hb9
        have hbel9 := bel_then hbel5 hb9
        have f0 := hz9.free 0
        have f1 := hz9.free 1
        have f2 := hz9.free 2
        have f3 := hz9.free 3
        have f4 := hz9.free 4
        have f5 := hz9.free 5
        have f6 := hz9.free 6
        have f7 := hz9.free 7
        have f8 := hz9.free 8
        have f9 := hz9.free 9
        have f10 := hz9.free 10
        have c0 := hz9.cell 0 rfl
        have c1 := hz9.cell 1 rfl
        have c2 := hz9.cell 2 rfl
        have c3 := hz9.cell 3 rfl
        have c4 := hz9.cell 4 rfl
        have c5 := hz9.cell 5 rfl
        have c6 := hz9.cell 6 rfl
        have c7 := hz9.cell 7 rfl
        have c8 := hz9.cell 8 rfl
        have c9 := hz9.cell 9 rfl
        have c10 := hz9.cell 10 rfl
        go_wp2
        refine ret_box rfl rfl rfl rfl (hz9.all11 _ _ _ _ _ _ _ _ _ _ _) rfl ?_
        exact ⟨bel_all11 hbel9 (by omega) _ _ _ _ _ _ _ _ _ _ _, none, 0, 0, rfl, rep_none _ _ _⟩
      · have HRR : Hid (∀ x : Later wr, Calls Try.prog 11 #[.agg #[.int .i64 h0, .int .i64 h1, .int .i64 h2, .int .i64 h3, .int .i64 h4, .int .i64 h5, .int .i64 h6, .int .i64 h7, .int .i64 h8, .int .i64 h9, .slice va k vc]] x.u fun e w' => e = .returned (.bool true) ∧ Below x.u.heap.size x.u w') := fun x =>
          (rright h0 h1 h2 h3 h4 h5 h6 h7 h8 h9 va k vc _ x.u (Shape.any (Shape.below hrep x.h)) (by omega)).mono (fun e w' h => ⟨h.1.is hp, h.2⟩)
        have h0 := ht.symm.trans (Wx.take_ok HF.out HS.out (HT.out.2 ⟨H44.out, hp⟩))
        rw [HMM.out] at h0
        cases h0
        go_wp2
        refine region_later (by kernel_rfl) (by kernel_rfl) ?_
        repeat (go_big_quiet_step (first | (go_at_call 28; exact Later.call (HA44.out _)) | (go_at_call 11; exact Later.call (HRR.out _))))
        refine wpQuiet_nil ?_
        intro x9
        obtain ⟨W9, hb9⟩ := x9
        have hz9 := hz5.keep hb9
        have hbox9 := hbox.keep hb9
        have hbel9 := bel_then hbel5 hb9
        have f0 := hz9.free 0
        have f1 := hz9.free 1
        have f2 := hz9.free 2
        have f3 := hz9.free 3
        have f4 := hz9.free 4
        have f5 := hz9.free 5
        have f6 := hz9.free 6
        have f7 := hz9.free 7
        have f8 := hz9.free 8
        have f9 := hz9.free 9
        have f10 := hz9.free 10
        have c0 := hz9.cell 0 rfl
        have c1 := hz9.cell 1 rfl
        have c2 := hz9.cell 2 rfl
        have c3 := hz9.cell 3 rfl
        have c4 := hz9.cell 4 rfl
        have c5 := hz9.cell 5 rfl
        have c6 := hz9.cell 6 rfl
        have c7 := hz9.cell 7 rfl
        have c8 := hz9.cell 8 rfl
        have c9 := hz9.cell 9 rfl
        have c10 := hz9.cell 10 rfl
        have p0 := hbox9.cell 0 rfl
        have p1 := hbox9.cell 1 rfl
        have p2 := hbox9.cell 2 rfl
        have p3 := hbox9.cell 3 rfl
        have p4 := hbox9.cell 4 rfl
        have p5 := hbox9.cell 5 rfl
        have p6 := hbox9.cell 6 rfl
        have p7 := hbox9.cell 7 rfl
        have p8 := hbox9.cell 8 rfl
        have p9 := hbox9.cell 9 rfl
        have p10 := hbox9.cell 10 rfl
        go_wp2
        refine ret_box rfl rfl rfl rfl (hz9.all11 _ _ _ _ _ _ _ _ _ _ _) rfl ?_
        refine ⟨bel_all11 hbel9 (by omega) _ _ _ _ _ _ _ _ _ _ _, va, k, vc, rfl, ?_⟩
        exact Shape.any (Shape.keep _ (Shape.below hrep hb9) (fun b hb hlt => (grown_all11 W9 N _ _ _ _ _ _ _ _ _ _ _).block b hlt (fun e => by have h2 := Option.some.inj e; have h3 : M + 1 ≤ b := hb; have := HNM.out; omega)))

end Go.Proofs.Ytehelcbbcneihaa
