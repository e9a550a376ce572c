/- What slices.DeleteFunc of frames and link.Told do when called. -/
import Derived.Test.YtfdbnongpkiibaaLinkB
namespace Go.Proofs.Ytfdbnongpkiibaa
open Go.ChangeShapes Go.WideShapes Go.ChangeAt Go.RowKit

namespace Lx
/-- Of the first j frames those that are kept stand in the first i places of 'cur'; the rest is as it was. -/
def Kept (l : List Fr) (q : Int) (i j : Nat) (cur : List Fr) : Prop := cur.length = l.length ∧ i < j ∧ j ≤ l.length ∧ cur.take i = told (l.take j) q ∧ cur.drop j = l.drop j
theorem take_step {l : List Fr} {j : Nat} (h : j < l.length) : l.take (j + 1) = l.take j ++ [l.getD j fr0] := by rw [List.take_succ_eq_append_getElem h, getD_get h]
theorem told_yes {f : Fr} {q : Int} (h : f.1 = q) : told [f] q = [] := by unfold told; simp [h]
theorem told_no {f : Fr} {q : Int} (h : f.1 ≠ q) : told [f] q = [f] := by unfold told; simp [h]
theorem kept_start {l : List Fr} {q : Int} {k : Nat} (hk : k < l.length) (hq : (l.getD k fr0).1 = q) (hno : ∀ j, j < k → (l.getD j fr0).1 ≠ q) : Kept l q k (k + 1) l := by
  refine ⟨rfl, Nat.lt_succ_self _, hk, ?_, rfl⟩
  rw [take_step hk, told_append, told_yes hq, List.append_nil, told_none]
  intro f hf
  obtain ⟨j, hj⟩ := List.getElem?_of_mem hf
  rw [List.getElem?_take] at hj
  split at hj
  · rename_i hjk
    have := hno j hjk
    rwa [List.getD_eq_getElem?_getD, hj] at this
  · cases hj
theorem kept_at {l cur : List Fr} {q : Int} {i j m : Nat} (h : Kept l q i j cur) (hm : j ≤ m) : cur.getD m fr0 = l.getD m fr0 := by
  have e : ∀ l : List Fr, l.getD m fr0 = (l.drop j).getD (m - j) fr0 := fun l => by
    rw [List.getD_eq_getElem?_getD, List.getD_eq_getElem?_getD, List.getElem?_drop, show j + (m - j) = m by omega]
  rw [e cur, e l, h.2.2.2.2]
theorem kept_keep {l cur : List Fr} {q : Int} {i j : Nat} (h : Kept l q i j cur) (hj : j < l.length) {f : Fr} (hf : l.getD j fr0 = f) (hq : f.1 ≠ q) : Kept l q (i + 1) (j + 1) (cur.set i f) := by
  obtain ⟨h1, h2, h3, h4, h5⟩ := h
  refine ⟨by simpa using h1, by omega, hj, ?_, ?_⟩
  · rw [take_step hj, told_append, hf, told_no hq, ← h4, take_step (by rw [List.length_set]; omega)]
    have e1 : (cur.set i f).take i = cur.take i := by rw [List.take_set_of_le (Nat.le_refl _)]
    have e2 : (cur.set i f).getD i fr0 = f := by rw [List.getD_eq_getElem?_getD, List.getElem?_set_self (by omega)]; rfl
    rw [e1, e2]
  · rw [List.drop_set_of_lt (by omega)]
    have := congrArg (List.drop 1) h5
    rwa [List.drop_drop, List.drop_drop] at this
theorem kept_skip {l cur : List Fr} {q : Int} {i j : Nat} (h : Kept l q i j cur) (hj : j < l.length) (hq : (l.getD j fr0).1 = q) : Kept l q i (j + 1) cur := by
  obtain ⟨h1, h2, h3, h4, h5⟩ := h
  refine ⟨h1, by omega, hj, ?_, ?_⟩
  · rw [take_step hj, told_append, told_yes hq, List.append_nil, h4]
  · have := congrArg (List.drop 1) h5
    rwa [List.drop_drop, List.drop_drop] at this
theorem kept_done {l cur : List Fr} {q : Int} {i : Nat} (h : Kept l q i l.length cur) : cur.take i = told l q := by
  have := h.2.2.2.1
  rwa [List.take_length] at this
end Lx

/-- 'clear(s)' of frames. -/
theorem run_clear_frs (w : World) (g o n c : Nat) (hn : 0 < n) (hc : ∀ j, j < n * 2 → (w.cell? ⟨g, o + j, none⟩).isSome = true) (hf : ∀ j, w.frozen? ⟨g, o + j, none⟩ = false) :
    ∃ Z : List Value, Z.length = n * 2 ∧ ∀ ty, (Builtin.clear_ #[22] ty #[.slice (some ⟨g, o, none⟩) n c]).run Try.prog w = .ok (.tuple #[]) (w.setCells g o Z) := by
  refine ⟨(Builtin.zeroCells #[.int .i64 0, .string ByteArray.empty] n).toList, by simp [Builtin.zeroCells], fun ty => ?_⟩
  have h1 : ∀ v ∈ (Builtin.zeroCells #[.int .i64 0, .string ByteArray.empty] n).toList, v.oneCell' = true := by
    intro v hv
    simp only [Builtin.zeroCells, Array.mem_toList_iff, Array.mem_map, Array.mem_range] at hv
    obtain ⟨i, _, rfl⟩ := hv
    have hi : i % (#[Value.int .i64 0, .string ByteArray.empty] : Array Value).size < 2 := Nat.mod_lt _ (by decide)
    generalize i % (#[Value.int .i64 0, .string ByteArray.empty] : Array Value).size = k at hi
    match k, hi with
    | 0, _ => rfl
    | 1, _ => rfl
  have hl : (Builtin.zeroCells #[.int .i64 0, .string ByteArray.empty] n).toList.length = n * 2 := by simp [Builtin.zeroCells]
  have hst := run_storeCells_cells (P := Try.prog) g o (Builtin.zeroCells #[.int .i64 0, .string ByteArray.empty] n).toList 0 w (by rw [hl]; exact hc) (fun j _ => hf j) h1
  simp only [Nat.add_zero] at hst
  obtain ⟨m, rfl⟩ : ∃ m, n = m + 1 := ⟨n - 1, by omega⟩
  have hz : ∀ u : World, (zeroValue 45).run Try.prog u = .ok (.agg #[.int .i64 0, .string ByteArray.empty]) u := Try.zeroValue45
  simp [Builtin.clear_, run_underlying Try.underlying22, hz, Value.cells, hst]

set_option maxHeartbeats 2000000 in
theorem fdelete (a : Option Addr) (n c : Nat) (l : List Fr) (q : Int) (B base : Nat) (w : World) (h : Own frS w base 45 (.slice a n c) l) (hn : n ≤ 1000) (hc : w.cell? ⟨B, 0, none⟩ = some (.int .i64 q)) (hB : B < base) (hbase : base ≤ w.heap.size) :
    Calls Try.prog 18 #[.slice a n c, .func (.func 17) #[] #[.pointer (some ⟨B, 0, none⟩)]] w fun e w' =>
      Below base w w' ∧ ∃ n', e = .returned (.slice a n' c) ∧ frsS.rep w' (base ≤ ·) [.slice a n' c] (Lx.told l q) := by
  obtain ⟨hl, hnc, hcm⟩ := sliceS_len h.is
  have hix := findex a n c l q B w h.is hn hc
  have HH : Hid (Own frS w base 45 (.slice a n c) l) := h
  have HL : Hid (l.length = n) := hl
  clear h hl
  go_enter Try.func18, Try.ntmps18
  go_wp2_with fail
  refine hix.mono ?_
  rintro e u1 ⟨hE, hb1⟩
  have ho1 := HH.out.keep hb1
  have hb2 : Below base w u1 := hb1.mono hbase
  have hcq := (hb2.cell (p := ⟨B, 0, none⟩) hB).trans hc
  have hbs : base ≤ u1.heap.size := by have := hb1.size; omega
  clear hb1 hix HH hc
  rcases hE with ⟨hno, rfl⟩ | ⟨k0, hk0, hq0, hno, rfl⟩
  · have HN : Hid (∀ j, j < n → (l.getD j fr0).1 ≠ q) := hno
    clear hno
    go_wp2
    go_ret
    refine ⟨hb2, n, rfl, ?_⟩
    rw [Lx.told_none]
    · exact ho1.frs
    · intro f hf
      obtain ⟨j, hj⟩ := List.getElem?_of_mem hf
      have hjl : j < l.length := (List.getElem?_eq_some_iff.1 hj).1
      have := HN.out j (by have := HL.out; omega)
      rwa [List.getD_eq_getElem?_getD, hj] at this
  · obtain ⟨g, rfl, hbg, hgw, _⟩ := ho1.form (show 0 < n by omega)
    have hne1 : ((k0 : Int) == -1) = false := by simp
    have HK : Hid (Lx.Kept l q k0 (k0 + 1) l) := Lx.kept_start (by have := HL.out; omega) hq0 hno
    clear hq0 hno
    go_wp2
    go_loopw [5, 6] (fun s5 s6 wr => ∃ (i j : Nat) (cur : List Fr), s5 = .int .i64 i ∧ s6 = .int .i64 j ∧ i < j ∧ j ≤ n ∧ Lx.Kept l q i j cur ∧ Own frS wr base 45 (.slice (some ⟨g, 0, none⟩) n c) cur ∧ Below base w wr ∧ base ≤ wr.heap.size ∧ wr.cell? ⟨B, 0, none⟩ = some (.int .i64 q)) (fun _ j _ => n - (intOf j).toNat)
    case atStart => exact ⟨k0, k0 + 1, l, rfl, by go_num, by omega, by omega, HK.out, ho1, hb2, hbs, hcq⟩
    case round =>
      clear ho1 hb2 hcq HK hne1 hbs hgw
      obtain ⟨i, j, cur, rfl, rfl, hij, hjn, hkept, ho, hbel, hbs, hcq⟩ := hrel
      have HK : Hid (Lx.Kept l q i j cur) := hkept
      clear hkept
      by_cases hlt : j < n
      · have hli : (j : Int) < (n : Int) := by omega
        obtain ⟨b1, o1, he, _, _, hcell, hcell2⟩ := fr_at ho.is hlt
        have e := Option.some.inj he
        injection e with e1 e2 e3
        subst e1; subst e2
        clear he
        have hl := HL.out
        rw [Nat.zero_add, HK.out |> fun h => Lx.kept_at h (Nat.le_refl j)] at hcell hcell2
        obtain ⟨b1, o1, he, _, _, hci, hci2⟩ := fr_at ho.is (show i < n by omega)
        have e := Option.some.inj he
        injection e with e1 e2 e3
        subst e1; subst e2
        clear he
        rw [Nat.zero_add] at hci hci2
        have hgw : g < wr.heap.size := (ho.lt g rfl).2
        obtain ⟨x, hx⟩ : ∃ x, (l.getD j fr0).1 = x := ⟨_, rfl⟩
        obtain ⟨y, hy⟩ : ∃ y, (l.getD j fr0).2.1 = y := ⟨_, rfl⟩
        rw [hx] at hcell
        rw [hy] at hcell2
        have HE : Hid (l.getD j fr0 = fr x y) := by show _ = _; rw [fr_eta (l.getD j fr0), hx, hy]
        clear hx hy
        have hbn := new_bel wr (.cells #[.int .i64 x, .string y] 45)
        have hcall := istold x q y B (wr.alloc (.cells #[.int .i64 x, .string y] 45)) (Lib.cell?_alloc_some _ hcq)
        have kv := Box.new wr 45 #[.int .i64 x, .string y]
        have ho2 := ho.keep hbn
        generalize (cur.getD i fr0).1 = x0 at *
        generalize (cur.getD i fr0).2.1 = y0 at *
        by_cases hq : x = q
        · have e : (x == q) = true := by simpa using hq
          rw [e] at hcall
          have HQ : Hid (x = q) := hq
          clear e hq
          go_wp2_with (go_at_call 17; refine hcall.mono ?_; rintro e u2 ⟨rfl, hb3⟩)
          go_roundw
          case rel =>
            have hb4 := bel_then hbn hb3
            have hB2 : B < wr.heap.size := by omega
            exact ⟨i, j + 1, cur, rfl, by go_num, by omega, by omega, Lx.kept_skip HK.out (by omega) (by rw [HE.out]; exact HQ.out), ho.keep hb4, hbel.trans (hb4.mono hbs), by have := hb4.size; omega, (hb4.cell (p := ⟨B, 0, none⟩) hB2).trans hcq⟩
          case measure => simp [intOf]; omega
        · have e : (x == q) = false := by simpa using hq
          rw [e] at hcall
          have HQ : Hid (x ≠ q) := hq
          clear e hq
          go_wp2_with fail
          refine hcall.mono ?_
          rintro e u2 ⟨rfl, hb3⟩
          have hb4 := bel_then hbn hb3
          have hB2 : B < wr.heap.size := by omega
          have ho3 := ho2.keep hb3
          have kv2 := kv.keep hb3
          have v0 := kv2.cell 0 rfl
          have v1 := kv2.cell 1 rfl
          have hci3 := (hb4.cell (p := ⟨g, i * 2, none⟩) hgw).trans hci
          have hci4 := (hb4.cell (p := ⟨g, i * 2 + 1, none⟩) hgw).trans hci2
          have hf1 := ho3.fr_free (i * 2)
          have hf2 := ho3.fr_free (i * 2 + 1)
          have hcq2 := (hb4.cell (p := ⟨B, 0, none⟩) hB2).trans hcq
          have hbel2 := hbel.trans (hb4.mono hbs)
          have hbs2 : base ≤ u2.heap.size := by have := hb4.size; omega
          have hii : (i : Int) < (n : Int) := by omega
          have HS : Hid (Own frS ((u2.setCell ⟨g, i * 2, none⟩ (.int .i64 x)).setCell ⟨g, i * 2 + 1, none⟩ (.string y)) base 45 (.slice (some ⟨g, 0, none⟩) n c) (cur.set i (fr x y))) := ho3.fr_store (show i < n by omega) (fr x y)
          clear hcell hcell2 hci hci2 hcq hbel hbs ho ho2 ho3 kv kv2 hb3 hb4 hbn hcall
          go_wp2
          go_roundw
          case rel =>
            have hne : B ≠ g := by omega
            have hbe := bel_put (bel_put hbel2 (b := g) (i := i * 2) hbg (.int .i64 x)) (b := g) (i := i * 2 + 1) hbg (.string y)
            refine ⟨i + 1, j + 1, cur.set i (fr x y), by go_num, by go_num, by omega, by omega, Lx.kept_keep HK.out (by omega) HE.out HQ.out, HS.out, hbe, ?_, ?_⟩
            · have := hbe.size
              have h7 := (bel_put (bel_put (Below.refl base u2) (b := g) (i := i * 2) hbg (.int .i64 x)) (b := g) (i := i * 2 + 1) hbg (.string y)).size
              omega
            · have h7 := (bel_put (bel_put (Below.refl base u2) (b := g) (i := i * 2) hbg (.int .i64 x)) (b := g) (i := i * 2 + 1) hbg (.string y))
              exact (h7.cell (p := ⟨B, 0, none⟩) hB).trans hcq2
          case measure => simp [intOf]; omega
      · have hjn' : j = n := by omega
        subst hjn'
        have hli : ¬ (j : Int) < (j : Int) := by omega
        have hl := HL.out
        have hkd : cur.take i = Lx.told l q := Lx.kept_done (hl.symm ▸ HK.out)
        have hcl : cur.length = j := (HK.out).1.trans hl
        obtain ⟨Z, hZ, hclear⟩ := run_clear_frs wr g (i * 2) (j - i) (c - i) (by omega) (fun m hm => by
          have hmj : (i * 2 + m) / 2 < j := by omega
          obtain ⟨b1, o1, he, _, _, h1, h2⟩ := fr_at ho.is hmj
          have e := Option.some.inj he
          injection e with e1 e2 e3
          subst e1; subst e2
          rw [Nat.zero_add] at h1 h2
          rcases Nat.mod_two_eq_zero_or_one (i * 2 + m) with hm2 | hm2
          · rw [show (i * 2 + m) / 2 * 2 = i * 2 + m by omega] at h1; rw [h1]; rfl
          · rw [show (i * 2 + m) / 2 * 2 + 1 = i * 2 + m by omega] at h2; rw [h2]; rfl) (fun m => ho.fr_free _)
        obtain ⟨i0, hi, hz0, hz1, hz2⟩ := info_parts Try.infoFrame
        have hE : ∀ w : World, (Instr.slice 22 (.slice (some ⟨g, 0, none⟩) j c) none (some (.int .i64 (i : Int))) none).run Try.prog w = .ok (.slice (some ⟨g, 0, none⟩) i c) w := fun w => by
          rw [run_slice_h w 22 (some ⟨g, 0, none⟩) j c Try.underlying22 .i64 i (by omega) (by omega)]
          simp [sizeOf, typeInfo, go_sem, hi, hz1]
        have hD : ∀ w : World, (Instr.slice 22 (.slice (some ⟨g, 0, none⟩) j c) (some (.int .i64 (i : Int))) none none).run Try.prog w = .ok (.slice (some ⟨g, i * 2, none⟩) (j - i) (c - i)) w := fun w => by
          rw [run_slice_l w 22 (some ⟨g, 0, none⟩) j c Try.underlying22 .i64 i (by omega) (by omega)]
          have hci : ¬ c = i := by omega
          simp [sizeOf, typeInfo, go_sem, hi, hz1, hci, Addr.add_lit]
        have hW : Below base w (wr.setCells g (i * 2) Z) := hbel.trans (Lib.below_setCells_w hbg _ _ _)
        have HR : Hid (frsS.rep (wr.setCells g (i * 2) Z) (base ≤ ·) [.slice (some ⟨g, 0, none⟩) i c] (Lx.told l q)) := by
          show frsS.rep _ _ _ _
          refine frs_rep (by rw [← hkd, List.length_take]; omega) (by omega) hcm hbg ?_ fun m hm => ?_
          · have := (Lib.below_setCells_w hbg Z (i * 2) wr).size
            have := (ho.lt g rfl).2
            omega
          · obtain ⟨b1, o1, he, _, _, h1, h2⟩ := fr_at ho.is (show m < j by omega)
            have e := Option.some.inj he
            injection e with e1 e2 e3
            subst e1; subst e2
            have ec : (Lx.told l q).getD m fr0 = cur.getD m fr0 := by rw [← hkd, List.getD_eq_getElem?_getD, List.getElem?_take, if_pos hm, ← List.getD_eq_getElem?_getD]
            rw [ec, World.cell?_setCells_out _ _ _ _ _ (fun _ _ => by show 0 + m * 2 < i * 2 ∨ _; omega), World.cell?_setCells_out _ _ _ _ _ (fun _ _ => by show 0 + m * 2 + 1 < i * 2 ∨ _; omega)]
            exact ⟨h1, h2⟩
        generalize wr.setCells g (i * 2) Z = u3 at *
        clear hkd hcl ho hbel hbs hcq hl hi
        go_wp2
        go_ret
        exact ⟨hW, i, rfl, HR.out⟩

end Go.Proofs.Ytfdbnongpkiibaa
