/- LoadAdds, with letters. -/
import Derived.Test.YtpldfalnoaamkaaLdI
import Derived.Test.YtpldfalnoaamkaaLdT
namespace Go.Proofs.Ytpldfalnoaamkaa
open Go.ChangeShapes Go.WideShapes Go.ChangeAt Go.RowKit


theorem Try.infoEight : (Try.prog.info? 46).map (fun i => (i.zero, i.size, 0)) = some (some (.agg (List.replicate 8 (Value.int .i64 0)).toArray), 8, 0) := by kernel_rfl
theorem zeros8 (u : World) : (zeroValue 46).run Try.prog u = .ok (.agg ((List.replicate 8 0).map (Value.int .i64)).toArray) u := by
  obtain ⟨i0, hi, hz⟩ : ∃ i0, Try.prog.info? 46 = some i0 ∧ i0.zero = some (.agg (List.replicate 8 (Value.int .i64 0)).toArray) := by
    have h := Try.infoEight
    cases hi : Try.prog.info? 46 with
    | none => rw [hi] at h; cases h
    | some i0 =>
      rw [hi] at h
      have h2 := Option.some.inj h
      exact ⟨i0, rfl, (Prod.mk.inj h2).1⟩
  rw [List.map_replicate]
  generalize (List.replicate 8 (Value.int .i64 0)).toArray = Z at *
  simp [zeroValue, typeInfo, hi, hz]
theorem index8 (x0 x1 x2 x3 x4 x5 x6 x7 : Int) (k : Nat) (hk : k < 8) (w : World) : (Instr.index 46 (.agg #[.int .i64 x0, .int .i64 x1, .int .i64 x2, .int .i64 x3, .int .i64 x4, .int .i64 x5, .int .i64 x6, .int .i64 x7]) (.int .i64 (k : Int))).run Try.prog w = .ok (.int .i64 ([x0, x1, x2, x3, x4, x5, x6, x7].getD k 0)) w := by
  have i0 : ∀ w : World, (Instr.index 46 (.agg #[.int .i64 x0, .int .i64 x1, .int .i64 x2, .int .i64 x3, .int .i64 x4, .int .i64 x5, .int .i64 x6, .int .i64 x7]) (.int .i64 0)).run Try.prog w = .ok (.int .i64 x0) w := fun _ => by kernel_rfl
  have i1 : ∀ w : World, (Instr.index 46 (.agg #[.int .i64 x0, .int .i64 x1, .int .i64 x2, .int .i64 x3, .int .i64 x4, .int .i64 x5, .int .i64 x6, .int .i64 x7]) (.int .i64 1)).run Try.prog w = .ok (.int .i64 x1) w := fun _ => by kernel_rfl
  have i2 : ∀ w : World, (Instr.index 46 (.agg #[.int .i64 x0, .int .i64 x1, .int .i64 x2, .int .i64 x3, .int .i64 x4, .int .i64 x5, .int .i64 x6, .int .i64 x7]) (.int .i64 2)).run Try.prog w = .ok (.int .i64 x2) w := fun _ => by kernel_rfl
  have i3 : ∀ w : World, (Instr.index 46 (.agg #[.int .i64 x0, .int .i64 x1, .int .i64 x2, .int .i64 x3, .int .i64 x4, .int .i64 x5, .int .i64 x6, .int .i64 x7]) (.int .i64 3)).run Try.prog w = .ok (.int .i64 x3) w := fun _ => by kernel_rfl
  have i4 : ∀ w : World, (Instr.index 46 (.agg #[.int .i64 x0, .int .i64 x1, .int .i64 x2, .int .i64 x3, .int .i64 x4, .int .i64 x5, .int .i64 x6, .int .i64 x7]) (.int .i64 4)).run Try.prog w = .ok (.int .i64 x4) w := fun _ => by kernel_rfl
  have i5 : ∀ w : World, (Instr.index 46 (.agg #[.int .i64 x0, .int .i64 x1, .int .i64 x2, .int .i64 x3, .int .i64 x4, .int .i64 x5, .int .i64 x6, .int .i64 x7]) (.int .i64 5)).run Try.prog w = .ok (.int .i64 x5) w := fun _ => by kernel_rfl
  have i6 : ∀ w : World, (Instr.index 46 (.agg #[.int .i64 x0, .int .i64 x1, .int .i64 x2, .int .i64 x3, .int .i64 x4, .int .i64 x5, .int .i64 x6, .int .i64 x7]) (.int .i64 6)).run Try.prog w = .ok (.int .i64 x6) w := fun _ => by kernel_rfl
  have i7 : ∀ w : World, (Instr.index 46 (.agg #[.int .i64 x0, .int .i64 x1, .int .i64 x2, .int .i64 x3, .int .i64 x4, .int .i64 x5, .int .i64 x6, .int .i64 x7]) (.int .i64 7)).run Try.prog w = .ok (.int .i64 x7) w := fun _ => by kernel_rfl
  rcases (by omega : k = 0 ∨ k = 1 ∨ k = 2 ∨ k = 3 ∨ k = 4 ∨ k = 5 ∨ k = 6 ∨ k = 7) with rfl | rfl | rfl | rfl | rfl | rfl | rfl | rfl
  · exact i0 w
  · exact i1 w
  · exact i2 w
  · exact i3 w
  · exact i4 w
  · exact i5 w
  · exact i6 w
  · exact i7 w

/-- What was noted, and how often each one was. -/
def Ld.Told (S : List Nat) (ws : List Int) : Prop := ws.length = 8 ∧ ∀ y, y < 8 → ws.getD y 0 = ((S.count y : Nat) : Int)
theorem Ld.told_nil : Ld.Told [] (List.replicate 8 0) := ⟨rfl, fun y hy => by rw [List.getD_eq_getElem?_getD, List.getElem?_replicate, if_pos hy]; rfl⟩
theorem Ld.told_out {S : List Nat} {ws : List Int} (h : Ld.Told S ws) {x : Nat} (hx : 8 ≤ x) : Ld.Told (x :: S) ws := ⟨h.1, fun y hy => by
  rw [h.2 y hy, List.count_cons]
  have : (x == y) = false := by rw [beq_eq_false_iff_ne]; omega
  rw [this]
  rfl⟩
theorem Ld.told_in {S : List Nat} {ws : List Int} (h : Ld.Told S ws) {x : Nat} (hx : x < 8) {z : Int} (hz : ws.getD x 0 = z) : Ld.Told (x :: S) (ws.set x (z + 1)) := ⟨by rw [List.length_set]; exact h.1, fun y hy => by
  rw [List.getD_eq_getElem?_getD, List.getElem?_set, List.count_cons]
  by_cases e : x = y
  · subst e
    rw [if_pos rfl, if_pos (by rw [h.1]; exact hx), beq_self_eq_true, if_pos rfl, ← hz, h.2 x hx]
    rfl
  · have : (x == y) = false := by rw [beq_eq_false_iff_ne]; exact e
    rw [if_neg e, ← List.getD_eq_getElem?_getD, h.2 y hy, this]
    rfl⟩
theorem eight_there {ws : List Int} (h : ws.length = 8) : ∃ x0 x1 x2 x3 x4 x5 x6 x7, ws = [x0, x1, x2, x3, x4, x5, x6, x7] := by
  match ws, h with
  | [x0, x1, x2, x3, x4, x5, x6, x7], _ => exact ⟨_, _, _, _, _, _, _, _, rfl⟩

set_option maxRecDepth 100000 in
set_option maxHeartbeats 4000000 in
theorem ladds (b0 : Option Addr) (n0 c0 : Nat) (l : List Int) (w : World) (h0 : (sliceS (intS .u8)).rep w everywhere [.slice b0 n0 c0] l) (hf : ∀ x ∈ l, 0 ≤ x ∧ x ≤ 255) :
    Calls Try.prog 7 #[.slice b0 n0 c0] w fun r w' => r = .returned (.bool true) ∧ Below w.heap.size w w' := by
  have HAW : Hid (∀ u, Calls Try.prog 11 #[] u fun r w' => r = .returned (.bool true) ∧ Below u.heap.size u w') := fun u => lawake u
  have HN0 : Hid (l.length = n0) := (sliceS_len h0).1
  have HRW : Hid (∀ u, Below w.heap.size w u → Row .u8 u b0 n0 l) := fun u hu => (Row.of_rep h0).keep hu
  have HF := hidL hf
  obtain ⟨Z, hZ⟩ : ∃ Z, Z = List.replicate 8 (0 : Int) := ⟨_, rfl⟩
  have hz : ∀ u : World, (zeroValue 46).run Try.prog u = .ok (.agg (Z.map (Value.int .i64)).toArray) u := fun u => by rw [hZ]; exact zeros8 u
  have HT0 : Hid (Ld.Told [] Z) := by rw [hZ]; exact Ld.told_nil
  have HTH : Hid (Box (w.alloc (.cells (Z.map (Value.int .i64)).toArray 46)) w.heap.size 46 (Z.map (Value.int .i64)).toArray) := Box.new _ _ _
  have hth := new_bel w (.cells (Z.map (Value.int .i64)).toArray 46)
  clear h0 hf hZ
  go_enter Try.func7, Try.ntmps7
  go_wp2
  go_loopw [3, 5] (fun v i wr => ∃ (j : Nat) (S : List Nat) (ws : List Int) (a : Option Addr) (q c : Nat), j ≤ n0 ∧ j ≤ 100 ∧ i = .int .i64 j ∧ v = .slice a q c ∧ Hid (S.length = j) ∧ q ≤ 8 ∧ rowS.rep wr (· ≠ w.heap.size) [.slice a q c] (Ld.noted S) ∧ Hid (Ld.Told S ws) ∧ Box wr w.heap.size 46 (ws.map (Value.int .i64)).toArray ∧ Below w.heap.size w wr) (fun _ i _ => 100 - (intOf i).toNat)
  case atStart => exact ⟨0, [], Z, none, 0, 0, Nat.zero_le _, Nat.zero_le _, rfl, rfl, rfl, Nat.zero_le _, rep_none _ _ _, HT0.out, HTH.out, hth⟩
  case round =>
    clear hth HTH HT0 hz
    obtain ⟨j, S, ws, a, q, c, hj, hj100, rfl, rfl, HS, hq8, hrep, HT, kb, hbel⟩ := hrel
    by_cases hlt : j < n0 ∧ j < 100
    · obtain ⟨hlt1, hlt2⟩ := hlt
      have hli : (j : Int) < (n0 : Int) := by omega
      have hli2 : (j : Int) < 100 := by omega
      have hj0 : (0 : Int) ≤ (j : Int) := by omega
      obtain ⟨b1, o1, rfl, hb1, hc1⟩ := (HRW.out wr hbel).at hlt1
      have hbx := HF.out _ (Mx.num_mem l j (by have := HN0.out; omega))
      obtain ⟨y, hy⟩ : ∃ y, l.getD j 0 = y := ⟨_, rfl⟩
      rw [hy] at hc1 hbx
      have hbx1 := hbx.1
      have hbx2 := hbx.2
      obtain ⟨x, hx⟩ : ∃ x : Nat, y % 10 = (x : Int) := ⟨(y % 10).toNat, by omega⟩
      have hx10 : x < 10 := by omega
      have hm1 : 0 ≤ y % 10 := by omega
      have hm2 : y % 10 < 10 := by omega
      have hxx := hidL hx
      have HNO : Hid (Calls _ _ _ _ _) := lnote a q c (Ld.noted S) (x : Int) wr (Shape.any hrep) (by omega) (fun v hv => by
        obtain ⟨i, hi, rfl⟩ := List.getElem_of_mem hv
        have h9 := ((Ld.noted_few S).2 i).1
        rw [Ld.count_nat, List.getD_eq_getElem?_getD, List.getElem?_eq_getElem hi] at h9
        have h8 : 0 ≤ (Ld.noted S)[i] := h9
        omega)
      have hnf := (Ld.noted_few (x :: S)).1
      have hne : Ld.note (Ld.noted S) (x : Int) = Ld.noted (x :: S) := rfl
      rw [hne] at HNO
      obtain ⟨q2, hq2⟩ : ∃ q2, (Ld.noted (x :: S)).length = q2 := ⟨_, rfl⟩
      rw [hq2] at HNO hnf
      obtain ⟨L2, hL2⟩ : ∃ L2, Ld.noted (x :: S) = L2 := ⟨_, rfl⟩
      rw [hL2] at HNO
      have HL2 := hidL hL2
      clear hne hq2 hL2 hrep hy hbx
      go_upto_region 7 with fail
      rw [hx]
      clear hx hm1 hm2 hc1
      go_wp2_with fail
      refine HNO.out.mono ?_
      rintro r W2 ⟨hb2, a2, c2, rfl, hr2⟩
      have hkb := kb.lt
      have kb2 := kb.keep hb2
      have HB2 := hidL (bel_then hbel hb2)
      have HR2 : Hid (rowS.rep W2 (· ≠ w.heap.size) [.slice a2 q2 c2] L2) := rowS.mono hr2 fun b hb _ => by have h9 : wr.heap.size ≤ b := hb; show b ≠ w.heap.size; omega
      clear hr2 hb2 hbel kb HNO
      by_cases hx8 : x < 8
      · have hx8i : (x : Int) < 8 := by omega
        have hx0 : (0 : Int) ≤ (x : Int) := by omega
        obtain ⟨z, hz⟩ : ∃ z, ws.getD x 0 = z := ⟨_, rfl⟩
        have hzz := HT.out.2 x hx8
        have hcnt : S.count x ≤ S.length := List.count_le_length
        have hSL := HS.out
        have hz1 : 0 ≤ z := by omega
        have hz2 : z ≤ 100 := by omega
        have hcell : W2.cell? ⟨w.heap.size, x, none⟩ = some (.int .i64 z) := kb2.cell x (by
          rw [List.getElem?_toArray, List.getElem?_map, List.getElem?_eq_getElem (by rw [HT.out.1]; exact hx8), ← hz, List.getD_eq_getElem?_getD, List.getElem?_eq_getElem (by rw [HT.out.1]; exact hx8)]
          rfl)
        have hfr := kb2.free x
        have HT2 := hidL (Ld.told_in HT.out hx8 hz)
        have hkb9 : Box (W2.setCell ⟨w.heap.size, x, none⟩ (.int .i64 (z + 1))) w.heap.size 46 ((ws.set x (z + 1)).map (Value.int .i64)).toArray := by
          have h9 := kb2.set x (.int .i64 (z + 1))
          rw [List.map_set]
          simpa using h9
        have HKB := hidL hkb9
        have HRB : Hid (rowS.rep (W2.setCell ⟨w.heap.size, x, none⟩ (.int .i64 (z + 1))) (· ≠ w.heap.size) [.slice a2 q2 c2] L2) := rowS.keep HR2.out fun b hb _ => Below.heap_setCell W2 _ _ b hb
        have HB3 := hidL (bel_put (i := x) HB2.out (Nat.le_refl w.heap.size) (.int .i64 (z + 1)))
        clear kb2 hzz hcnt hSL hz hkb9
        go_wp2
        go_roundw
        case rel => exact ⟨j + 1, x :: S, _, a2, q2, c2, by omega, by omega, by go_num, rfl, by show _ = _; rw [List.length_cons, HS.out], by omega, by rw [HL2.out]; exact HRB.out, HT2, HKB.out, HB3.out⟩
        case measure => simp [intOf]; omega
      · have hx8i : ¬ (x : Int) < 8 := by omega
        have HT2 := hidL (Ld.told_out HT.out (x := x) (by omega))
        go_wp2
        go_roundw
        case rel => exact ⟨j + 1, x :: S, ws, a2, q2, c2, by omega, by omega, by go_num, rfl, by show _ = _; rw [List.length_cons, HS.out], by omega, by rw [HL2.out]; exact HR2.out, HT2, kb2, HB2.out⟩
        case measure => simp [intOf]; omega
    · obtain ⟨x0, x1, x2, x3, x4, x5, x6, x7, hws⟩ := eight_there HT.out.1
      subst hws
      have kb8 : Box wr w.heap.size 46 #[.int .i64 x0, .int .i64 x1, .int .i64 x2, .int .i64 x3, .int .i64 x4, .int .i64 x5, .int .i64 x6, .int .i64 x7] := kb
      have d0 := kb8.cell 0 rfl
      have d1 := kb8.cell 1 rfl
      have d2 := kb8.cell 2 rfl
      have d3 := kb8.cell 3 rfl
      have d4 := kb8.cell 4 rfl
      have d5 := kb8.cell 5 rfl
      have d6 := kb8.cell 6 rfl
      have d7 := kb8.cell 7 rfl
      have HIX : Hid (∀ (k : Nat) (v : Int), k < 8 → [x0, x1, x2, x3, x4, x5, x6, x7].getD k 0 = v → ∀ u : World, (Instr.index 46 (.agg #[.int .i64 x0, .int .i64 x1, .int .i64 x2, .int .i64 x3, .int .i64 x4, .int .i64 x5, .int .i64 x6, .int .i64 x7]) (.int .i64 (k : Int))).run Try.prog u = .ok (.int .i64 v) u) := fun k v hk hv u => by rw [← hv]; exact index8 x0 x1 x2 x3 x4 x5 x6 x7 k hk u
      have HRow := hidL (Row.of_rep hrep)
      have HSJ : Hid (S.length ≤ 1000) := by show S.length ≤ 1000; rw [HS.out]; omega
      clear kb kb8 hrep
      have hends : (n0 : Int) ≤ (j : Int) ∨ (j : Int) < (n0 : Int) ∧ (100 : Int) ≤ (j : Int) := by omega
      clear hlt
      rcases hends with hli | ⟨hli, hli2⟩
      all_goals
        go_wp2
        clear d0 d1 d2 d3 d4 d5 d6 d7
        obtain ⟨W3, hW3⟩ : ∃ W3, W3 = wr := ⟨_, rfl⟩
        subst hW3
        go_loopw [36] (fun i wq => ∃ k : Nat, k ≤ 8 ∧ i = .int .i64 k ∧ wq = W3) (fun i _ => 8 - (intOf i).toNat)
        case atStart => exact ⟨0, by omega, rfl, rfl⟩
        case round =>
          obtain ⟨k, hk, rfl, hww⟩ := hrel
          replace hww := hww.symm
          subst hww
          by_cases hk8 : k < 8
          · have hki : (k : Int) < 8 := by omega
            have hk0 : (0 : Int) ≤ (k : Int) := by omega
            obtain ⟨v, hv⟩ : ∃ v, [x0, x1, x2, x3, x4, x5, x6, x7].getD k 0 = v := ⟨_, rfl⟩
            have hix := HIX.out k v hk8 hv
            have hvc : Ld.count (Ld.noted S) (k : Int) = v := by rw [Ld.noted_counts S HSJ.out k (by omega), ← HT.out.2 k hk8, hv]
            have hcc := lcount a q c (Ld.noted S) (k : Int) _ HRow.out (by omega)
            rw [hvc] at hcc
            have HCC : Hid (Calls _ _ _ _ _) := hcc
            have hne : (v != v) = false := by simp
            clear hv hvc hcc
            go_wp2_with fail
            refine HCC.out.mono ?_
            rintro r W9 ⟨rfl, h9⟩
            subst h9
            go_wp2
            go_roundw
            case rel => exact ⟨k + 1, by omega, by go_num, by trivial⟩
            case measure => simp [intOf]; omega
          · have hk9 : k = 8 := by omega
            subst hk9
            have hki : ¬ (8 : Int) < 8 := by omega
            have hqi : (q : Int) ≤ 8 := by omega
            go_wp2_with fail
            refine (HAW.out _).mono ?_
            rintro r WZ ⟨rfl, hbz⟩
            go_wp2
            go_ret
            exact ⟨rfl, bel_then (hbel) hbz⟩

end Go.Proofs.Ytpldfalnoaamkaa
