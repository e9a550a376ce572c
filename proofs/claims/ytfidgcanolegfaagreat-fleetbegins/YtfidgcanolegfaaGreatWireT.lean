/- What Take of package wire does when called. -/
import Derived.Test.YtfidgcanolegfaaGreatWireC
namespace Go.Proofs.YtfidgcanolegfaaGreat
open Go.ChangeShapes Go.WideShapes Go.ChangeAt Go.RowKit

theorem inner_len (s : List UInt8) : (Wx.inner s).length = s.length - 8 := by unfold Wx.inner; rw [List.length_take, List.length_drop]; omega
theorem at4_inner (s : List UInt8) (i : Nat) (h : i + 12 ≤ s.length) : Wx.at4 (Wx.inner s) i = Wx.at4 s (4 + i) := by
  have e : ∀ k, k + 8 < s.length → (Wx.inner s).getD k 0 = s.getD (4 + k) 0 := by
    intro k hk
    unfold Wx.inner
    rw [List.getD_eq_getElem?_getD, List.getD_eq_getElem?_getD, List.getElem?_take, if_pos (by omega), List.getElem?_drop]
  unfold Wx.at4
  rw [e i (by omega), e (i + 1) (by omega), e (i + 2) (by omega), e (i + 3) (by omega)]
  rfl
theorem head10_inner {s : List UInt8} (h : Wx.formed s) : head10 (Wx.inner s) = Wx.ten (Wx.msgOf s) := by
  have hl := h.1
  have e : ∀ i, i < 10 → Wx.at4 (Wx.inner s) (4 * i) = Wx.at4 s (4 + 4 * i) := fun i hi => at4_inner s _ (by omega)
  show [(Wx.at4 (Wx.inner s) (4 * 0) : Int), Wx.at4 (Wx.inner s) (4 * 1), Wx.at4 (Wx.inner s) (4 * 2), Wx.at4 (Wx.inner s) (4 * 3), Wx.at4 (Wx.inner s) (4 * 4), Wx.at4 (Wx.inner s) (4 * 5), Wx.at4 (Wx.inner s) (4 * 6), Wx.at4 (Wx.inner s) (4 * 7), Wx.at4 (Wx.inner s) (4 * 8), Wx.at4 (Wx.inner s) (4 * 9)] = _
  rw [e 0 (by omega), e 1 (by omega), e 2 (by omega), e 3 (by omega), e 4 (by omega), e 5 (by omega), e 6 (by omega), e 7 (by omega), e 8 (by omega), e 9 (by omega)]
  rfl
theorem counts_inner {s : List UInt8} (h : Wx.formed s) : Counts (Wx.inner s) ↔ Wx.at4 s 44 = (s.length - 52) / 4 ∧ Wx.at4 s 44 ≤ 8 := by
  obtain ⟨h1, _, h3⟩ := h
  unfold Counts
  rw [show Wx.at4 (Wx.inner s) 40 = Wx.at4 s 44 from at4_inner s 40 (by omega), inner_len]
  constructor
  · rintro ⟨a, b⟩; exact ⟨by omega, a⟩
  · rintro ⟨a, b⟩; exact ⟨b, by omega⟩
theorem vecOf_len (s : List UInt8) : (Wx.vecOf s).length = (s.length - 52) / 4 := by simp [Wx.vecOf]
theorem bvec_inner {s : List UInt8} (h : Wx.formed s) (hc : Counts (Wx.inner s)) : bvec (Wx.inner s) = Wx.vecOf s := by
  have h1 := h.1
  obtain ⟨ha, _⟩ := (counts_inner h).1 hc
  unfold bvec Wx.vecOf
  rw [show Wx.at4 (Wx.inner s) 40 = Wx.at4 s 44 from at4_inner s 40 (by omega), ha]
  apply List.map_congr_left
  intro i hi
  have := List.mem_range.1 hi
  rw [at4_inner s (44 + 4 * i) (by omega), show 4 + (44 + 4 * i) = 48 + 4 * i by omega]
theorem told_inner {s : List UInt8} (h : Wx.formed s) : Wx.told s ↔ Counts (Wx.inner s) ∧ Wx.right (Wx.msgOf s) := by
  rw [counts_inner h]
  unfold Wx.told
  rw [vecOf_len]
  constructor
  · rintro ⟨a, b⟩
    have h8 : (Wx.vecOf s).length ≤ 8 := b.2.2.2.1
    rw [vecOf_len] at h8
    exact ⟨⟨a, by omega⟩, b⟩
  · rintro ⟨⟨a, _⟩, b⟩; exact ⟨a, b⟩

/-- The bytes that the sum is of, cut out. -/
theorem cut_inner (s : ByteArray) (h : 52 ≤ s.size) : ∃ D : ByteArray, (∀ w : World, (Instr.slice 9 (.string s) (some (.int .i64 4)) (some (.int .i64 ((s.size : Int) - 4))) none).run Tryz.prog w = .ok (.string D) w) ∧ D.data.toList = Wx.inner s.data.toList ∧ D.size = s.size - 8 := by
  refine ⟨s.extract 4 (s.size - 4), fun w => ?_, ?_, ?_⟩
  · have := run_slice_string (P := Tryz.prog) w 9 s .i64 .i64 4 ((s.size : Int) - 4) Tryz.underlying9 (by omega) (by omega) (by omega)
    rw [show ((s.size : Int) - 4).toNat = s.size - 4 by omega] at this
    exact this
  · have e : s = ByteArray.mk s.data.toList.toArray := by cases s; simp
    have hsz : s.data.toList.length = s.size := by rw [Array.length_toList]; rfl
    conv => lhs; rw [e, ByteArray.extract_mk]
    unfold Wx.inner
    rw [hsz]
    show (List.take (s.size - 4 - 4) (List.drop 4 s.data.toList)).toArray.toList = _
    rw [List.toList_toArray, show s.size - 4 - 4 = s.size - 8 by omega]
  · rw [ByteArray.size_extract]; omega

set_option maxRecDepth 100000 in
theorem wtakeH (s : ByteArray) (hs : s.size ≤ maxLen) (y0 y1 y2 y3 y4 y5 y6 y7 y8 y9 : Int) (l : List Int) (er : Int) (ht : Wx.take s.data.toList = (⟨y0, y1, y2, y3, y4, y5, y6, y7, y8, y9, l⟩, er)) (w : World) : Calls Tryz.prog 57 #[.string s] w fun e w' => Below w.heap.size w w' ∧
    ∃ ya yn yc, e = .returned (.tuple #[.agg #[.int .i64 y0, .int .i64 y1, .int .i64 y2, .int .i64 y3, .int .i64 y4, .int .i64 y5, .int .i64 y6, .int .i64 y7, .int .i64 y8, .int .i64 y9, .slice ya yn yc], .int .i64 er]) ∧ rowS.rep w' (w.heap.size ≤ ·) [.slice ya yn yc] l := by
  have hm : s.size ≤ 9223372036854775807 := hs
  have hsl : s.data.toList.length = s.size := by rw [Array.length_toList]; rfl
  obtain ⟨N, hN⟩ : ∃ N, w.heap.size = N := ⟨_, rfl⟩
  by_cases hf : Wx.formed s.data.toList
  · have h52 : 52 ≤ s.size := by have := hf.1; omega
    have HF : Hid (Wx.formed s.data.toList) := hf
    go_enter Tryz.func57, Tryz.ntmps57
    go_wp2_with fail
    refine (rightLength s hs _).mono ?_
    rintro e u ⟨hsay, hb⟩
    rw [hsay.is hf]
    have hz := (Box.new w 44 #[.int .i64 0, .int .i64 0, .int .i64 0, .int .i64 0, .int .i64 0, .int .i64 0, .int .i64 0, .int .i64 0, .int .i64 0, .int .i64 0, .slice none 0 0]).keep hb
    have hbel := bel_then (new_bel w _) hb
    clear hsay hb hf
    rw [hN] at hz
    obtain ⟨D, hD, hDl, hDs⟩ := cut_inner s h52
    have HDL : Hid (D.data.toList = Wx.inner s.data.toList) := hDl
    have HTI : Hid _ := told_inner HF.out
    have HHI : Hid _ := head10_inner HF.out
    have HBI : Hid _ := bvec_inner HF.out
    have hcs := csum D (by rw [hDs]; omega)
    have HCR : Hid (crc D = Cx.sum (Wx.inner s.data.toList)) := by show Cx.sum D.data.toList = _; rw [hDl]
    have HNA : Hid (∀ i : Int, i = (s.size : Int) - 4 → ∀ w, Calls Tryz.prog 92 #[.string s, .int .i64 i] w fun e w' => e = .returned (.int .i64 (Wx.at4 s.data.toList (s.size - 4) : Nat)) ∧ Below w.heap.size w w') := fun i hi => numberAt s i (s.size - 4) ⟨by omega, by omega, hs⟩
    have HSU : Hid (Wx.summed s.data.toList ↔ Wx.at4 s.data.toList (s.size - 4) = crc D) := by show _ ↔ _; unfold Wx.summed; rw [hsl, HCR.out]
    have hx := Wx.at4_lt s.data.toList (s.size - 4)
    have hy := crc_lt D
    generalize Wx.at4 s.data.toList (s.size - 4) = x at *
    generalize crc D = y at *
    clear hDl HCR
    by_cases hsu : x = y
    · have q : ((x : Int) != (y : Int)) = false := by rw [bne_eq_false_iff_eq]; omega
      have HS : Hid (Wx.summed s.data.toList) := HSU.out.2 hsu
      clear hsu
      go_wp2_with fail
      refine (HNA.out _ (by omega) _).mono ?_
      rintro e u2 ⟨rfl, hb2⟩
      have hz2 := hz.keep hb2
      have hbel2 := bel_then hbel hb2
      clear hz hb2 hbel
      go_wp2_with (go_at_call 93; refine by_same (hcs _) ?_)
      refine (messageOf D (by rw [hDs]; omega) (by rw [hDs]; omega) _).mono ?_
      rintro e u3 ⟨hb3, hcase⟩
      have hz3 := hz2.keep hb3
      have hbel3 := bel_then hbel2 hb3
      have HN2 : Hid (N < u2.heap.size) := hz2.lt
      clear hb3 hz2 hbel2
      rw [HDL.out] at hcase
      rcases hcase with ⟨hnc, rfl⟩ | ⟨hc, z0, z1, z2, z3, z4, z5, z6, z7, z8, z9, hh, za, zn, zc, rfl, hrep⟩
      · have h0 := ht.symm.trans (Wx.take_untold HF.out HS.out (fun h => hnc (HTI.out.1 h).1))
        cases h0
        have hz4 := hz3.keep (new_bel u3 (.cells #[.int .i64 0, .int .i64 0, .int .i64 0, .int .i64 0, .int .i64 0, .int .i64 0, .int .i64 0, .int .i64 0, .int .i64 0, .int .i64 0, .slice none 0 0] 44))
        have hbel4 := bel_alloc hbel3 (.cells #[.int .i64 0, .int .i64 0, .int .i64 0, .int .i64 0, .int .i64 0, .int .i64 0, .int .i64 0, .int .i64 0, .int .i64 0, .int .i64 0, .slice none 0 0] 44)
        have f0 := hz4.free 0
        have f1 := hz4.free 1
        have f2 := hz4.free 2
        have f3 := hz4.free 3
        have f4 := hz4.free 4
        have f5 := hz4.free 5
        have f6 := hz4.free 6
        have f7 := hz4.free 7
        have f8 := hz4.free 8
        have f9 := hz4.free 9
        have f10 := hz4.free 10
        have c0 := hz4.cell 0 rfl
        have c1 := hz4.cell 1 rfl
        have c2 := hz4.cell 2 rfl
        have c3 := hz4.cell 3 rfl
        have c4 := hz4.cell 4 rfl
        have c5 := hz4.cell 5 rfl
        have c6 := hz4.cell 6 rfl
        have c7 := hz4.cell 7 rfl
        have c8 := hz4.cell 8 rfl
        have c9 := hz4.cell 9 rfl
        have c10 := hz4.cell 10 rfl
        go_wp2
        refine ret_box rfl rfl rfl rfl (hz4.all11 _ _ _ _ _ _ _ _ _ _ _) rfl ?_
        exact ⟨bel_all11 hbel4 (by omega) _ _ _ _ _ _ _ _ _ _ _, none, 0, 0, rfl, rep_none _ _ _⟩
      · have HM : Hid (Wx.msgOf s.data.toList = ⟨z0, z1, z2, z3, z4, z5, z6, z7, z8, z9, bvec (Wx.inner s.data.toList)⟩) := by
          show _ = _
          rw [HHI.out] at hh
          rw [HBI.out hc]
          unfold Wx.ten Wx.msgOf at hh
          unfold Wx.msgOf
          injection hh with e0 hh
          injection hh with e1 hh
          injection hh with e2 hh
          injection hh with e3 hh
          injection hh with e4 hh
          injection hh with e5 hh
          injection hh with e6 hh
          injection hh with e7 hh
          injection hh with e8 hh
          injection hh with e9 hh
          simp only at e0 e1 e2 e3 e4 e5 e6 e7 e8 e9
          rw [e0, e1, e2, e3, e4, e5, e6, e7, e8, e9]
        have HT : Hid (Wx.told s.data.toList ↔ Wx.right ⟨z0, z1, z2, z3, z4, z5, z6, z7, z8, z9, bvec (Wx.inner s.data.toList)⟩) := by
          show _ ↔ _
          rw [HTI.out, HM.out]
          exact ⟨fun h => h.2, fun h => ⟨hc, h⟩⟩
        clear hh hc
        generalize bvec (Wx.inner s.data.toList) = r at *
        go_wp2_with fail
        refine (wright z0 z1 z2 z3 z4 z5 z6 z7 z8 z9 za zn zc r _ (Row.of_rep (Shape.below hrep (new_bel u3 _)))).mono ?_
        rintro e u4 ⟨hsay, hb4⟩
        have hz4 := (hz3.keep (new_bel u3 _)).keep hb4
        have hbel4 := bel_then (bel_alloc hbel3 _) hb4
        have hbz := (Box.new u3 44 #[.int .i64 z0, .int .i64 z1, .int .i64 z2, .int .i64 z3, .int .i64 z4, .int .i64 z5, .int .i64 z6, .int .i64 z7, .int .i64 z8, .int .i64 z9, .slice za zn zc]).keep hb4
        have hrep4 := Shape.below (Shape.below hrep (new_bel u3 _)) hb4
        clear hb4 hz3 hbel3 hrep
        by_cases hp : Wx.right ⟨z0, z1, z2, z3, z4, z5, z6, z7, z8, z9, r⟩
        · have h0 := ht.symm.trans (Wx.take_ok HF.out HS.out (HT.out.2 hp))
          rw [HM.out] at h0
          cases h0
          rw [hsay.is hp]
          have f0 := hz4.free 0
          have f1 := hz4.free 1
          have f2 := hz4.free 2
          have f3 := hz4.free 3
          have f4 := hz4.free 4
          have f5 := hz4.free 5
          have f6 := hz4.free 6
          have f7 := hz4.free 7
          have f8 := hz4.free 8
          have f9 := hz4.free 9
          have f10 := hz4.free 10
          have c0 := hz4.cell 0 rfl
          have c1 := hz4.cell 1 rfl
          have c2 := hz4.cell 2 rfl
          have c3 := hz4.cell 3 rfl
          have c4 := hz4.cell 4 rfl
          have c5 := hz4.cell 5 rfl
          have c6 := hz4.cell 6 rfl
          have c7 := hz4.cell 7 rfl
          have c8 := hz4.cell 8 rfl
          have c9 := hz4.cell 9 rfl
          have c10 := hz4.cell 10 rfl
          have d0 := hbz.cell 0 rfl
          have d1 := hbz.cell 1 rfl
          have d2 := hbz.cell 2 rfl
          have d3 := hbz.cell 3 rfl
          have d4 := hbz.cell 4 rfl
          have d5 := hbz.cell 5 rfl
          have d6 := hbz.cell 6 rfl
          have d7 := hbz.cell 7 rfl
          have d8 := hbz.cell 8 rfl
          have d9 := hbz.cell 9 rfl
          have d10 := hbz.cell 10 rfl
          clear hsay hp
          go_wp2
          refine ret_box rfl rfl rfl rfl (hz4.all11 _ _ _ _ _ _ _ _ _ _ _) rfl ?_
          refine ⟨bel_all11 hbel4 (by omega) _ _ _ _ _ _ _ _ _ _ _, za, zn, zc, rfl, ?_⟩
          refine Shape.mono _ (Shape.keep _ hrep4 (fun b hb hlt => (grown_all11 u4 N _ _ _ _ _ _ _ _ _ _ _).block b hlt (fun e => by have h2 := Option.some.inj e; have h3 : u2.heap.size ≤ b := hb; have := HN2.out; omega))) (fun b hb _ => ?_)
          have h3 : u2.heap.size ≤ b := hb
          have := HN2.out
          show w.heap.size ≤ b
          omega
        · have h0 := ht.symm.trans (Wx.take_untold HF.out HS.out (fun h => hp (HT.out.1 h)))
          cases h0
          rw [hsay.not hp]
          have f0 := hz4.free 0
          have f1 := hz4.free 1
          have f2 := hz4.free 2
          have f3 := hz4.free 3
          have f4 := hz4.free 4
          have f5 := hz4.free 5
          have f6 := hz4.free 6
          have f7 := hz4.free 7
          have f8 := hz4.free 8
          have f9 := hz4.free 9
          have f10 := hz4.free 10
          have c0 := hz4.cell 0 rfl
          have c1 := hz4.cell 1 rfl
          have c2 := hz4.cell 2 rfl
          have c3 := hz4.cell 3 rfl
          have c4 := hz4.cell 4 rfl
          have c5 := hz4.cell 5 rfl
          have c6 := hz4.cell 6 rfl
          have c7 := hz4.cell 7 rfl
          have c8 := hz4.cell 8 rfl
          have c9 := hz4.cell 9 rfl
          have c10 := hz4.cell 10 rfl
          clear hsay hp
          go_wp2
          refine ret_box rfl rfl rfl rfl (hz4.all11 _ _ _ _ _ _ _ _ _ _ _) rfl ?_
          exact ⟨bel_all11 hbel4 (by omega) _ _ _ _ _ _ _ _ _ _ _, none, 0, 0, rfl, rep_none _ _ _⟩
    · have q : ((x : Int) != (y : Int)) = true := by rw [bne_iff_ne]; omega
      have h0 := ht.symm.trans (Wx.take_unsummed HF.out (fun h => hsu (HSU.out.1 h)))
      cases h0
      go_wp2_with fail
      refine (HNA.out _ (by omega) _).mono ?_
      rintro e u2 ⟨rfl, hb2⟩
      have hz2 := hz.keep hb2
      have hbel2 := bel_then hbel hb2
      have f0 := hz2.free 0
      have f1 := hz2.free 1
      have f2 := hz2.free 2
      have f3 := hz2.free 3
      have f4 := hz2.free 4
      have f5 := hz2.free 5
      have f6 := hz2.free 6
      have f7 := hz2.free 7
      have f8 := hz2.free 8
      have f9 := hz2.free 9
      have f10 := hz2.free 10
      have c0 := hz2.cell 0 rfl
      have c1 := hz2.cell 1 rfl
      have c2 := hz2.cell 2 rfl
      have c3 := hz2.cell 3 rfl
      have c4 := hz2.cell 4 rfl
      have c5 := hz2.cell 5 rfl
      have c6 := hz2.cell 6 rfl
      have c7 := hz2.cell 7 rfl
      have c8 := hz2.cell 8 rfl
      have c9 := hz2.cell 9 rfl
      have c10 := hz2.cell 10 rfl
      go_wp2_with (go_at_call 93; refine by_same (hcs _) ?_)
      refine ret_box rfl rfl rfl rfl (hz2.all11 _ _ _ _ _ _ _ _ _ _ _) rfl ?_
      exact ⟨bel_all11 hbel2 (by omega) _ _ _ _ _ _ _ _ _ _ _, none, 0, 0, rfl, rep_none _ _ _⟩
  · have h0 := ht.symm.trans (Wx.take_unformed hf)
    cases h0
    go_enter Tryz.func57, Tryz.ntmps57
    go_wp2_with fail
    refine (rightLength s hs _).mono ?_
    rintro e u ⟨hsay, hb⟩
    rw [hsay.not hf]
    have hz := (Box.new w 44 #[.int .i64 0, .int .i64 0, .int .i64 0, .int .i64 0, .int .i64 0, .int .i64 0, .int .i64 0, .int .i64 0, .int .i64 0, .int .i64 0, .slice none 0 0]).keep hb
    have hbel := bel_then (new_bel w _) hb
    rw [hN] at hz
    have f0 := hz.free 0
    have f1 := hz.free 1
    have f2 := hz.free 2
    have f3 := hz.free 3
    have f4 := hz.free 4
    have f5 := hz.free 5
    have f6 := hz.free 6
    have f7 := hz.free 7
    have f8 := hz.free 8
    have f9 := hz.free 9
    have f10 := hz.free 10
    have c0 := hz.cell 0 rfl
    have c1 := hz.cell 1 rfl
    have c2 := hz.cell 2 rfl
    have c3 := hz.cell 3 rfl
    have c4 := hz.cell 4 rfl
    have c5 := hz.cell 5 rfl
    have c6 := hz.cell 6 rfl
    have c7 := hz.cell 7 rfl
    have c8 := hz.cell 8 rfl
    have c9 := hz.cell 9 rfl
    have c10 := hz.cell 10 rfl
    go_wp2
    refine ret_box rfl rfl rfl rfl (hz.all11 _ _ _ _ _ _ _ _ _ _ _) rfl ?_
    exact ⟨bel_all11 hbel (by omega) _ _ _ _ _ _ _ _ _ _ _, none, 0, 0, rfl, rep_none _ _ _⟩
theorem wtake (s : ByteArray) (hs : s.size ≤ maxLen) (y0 y1 y2 y3 y4 y5 y6 y7 y8 y9 : Int) (l : List Int) (er : Int) (ht : Wx.take s.data.toList = (⟨y0, y1, y2, y3, y4, y5, y6, y7, y8, y9, l⟩, er)) (w : World) : Calls Tryz.prog 57 #[.string s] w fun e w' => Below w.heap.size w w' ∧
    ∃ ya yn yc, e = .returned (.tuple #[.agg #[.int .i64 y0, .int .i64 y1, .int .i64 y2, .int .i64 y3, .int .i64 y4, .int .i64 y5, .int .i64 y6, .int .i64 y7, .int .i64 y8, .int .i64 y9, .slice ya yn yc], .int .i64 er]) ∧ rowS.rep w' everywhere [.slice ya yn yc] l :=
  (wtakeH s hs y0 y1 y2 y3 y4 y5 y6 y7 y8 y9 l er ht w).mono fun _ _ ⟨h1, ya, yn, yc, h2, h3⟩ => ⟨h1, ya, yn, yc, h2, Shape.any h3⟩

end Go.Proofs.YtfidgcanolegfaaGreat
