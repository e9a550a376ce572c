/- The first one that is entered of a key stays, whatever is entered behind it. -/
import Derived.Test.YtfbghicknaldcaaRows
import Derived.Test.YtfbghicknaldcaaLedC
import Derived.WalkKit
import Derived.ProofKit
import Derived.OpenShut
import Derived.ShutString
import Derived.ChangeOld
import Derived.Below
namespace Go.Proofs.Ytfbghicknaldcaa.ledgerFirst
open Go.ChangeShapes Go.WideShapes Go.ChangeAt Go.RowKit
open Go.ChangeMaps (open_string shut_string)
set_option linter.unusedVariables false

theorem own : ownKnob Try.prog.godebug = none := by kernel_rfl
theorem laidOut : laidOutB Try.prog = true := by kernel_rfl

theorem Try.infoInts : (Try.prog.info? 41).map (fun i => (i.zero, i.size, 0)) = some (some (.agg (List.replicate 256 (Value.int .i64 0)).toArray), 256, 0) := by kernel_rfl
theorem zerosInts (u : World) : (zeroValue 41).run Try.prog u = .ok (.agg ((List.replicate 256 (0 : Int)).map (Value.int .i64)).toArray) u := by
  obtain ⟨i0, hi, hz⟩ : ∃ i0, Try.prog.info? 41 = some i0 ∧ i0.zero = some (.agg (List.replicate 256 (Value.int .i64 0)).toArray) := by
    have h := Try.infoInts
    cases hi : Try.prog.info? 41 with
    | none => rw [hi] at h; cases h
    | some i0 =>
      rw [hi] at h
      have h2 := Option.some.inj h
      exact ⟨i0, rfl, (Prod.mk.inj h2).1⟩
  rw [List.map_replicate]
  generalize (List.replicate 256 (Value.int .i64 0)).toArray = Z at *
  simp [zeroValue, typeInfo, hi, hz]

/-- The array says of each token what was entered first of it, or 0. -/
def Keeps (l : List En) (fs : List Int) (k : Nat) : Prop :=
  fs.length = 256 ∧ l.length ≤ k ∧ (∀ e ∈ l, e.2.1.length ≤ 1) ∧ ∀ t : Nat, t < 256 → (fs.getD t 0 = 0 ∧ Dx.No l (ky 0 0 t 0)) ∨ (fs.getD t 0 ≠ 0 ∧ ∃ i, Dx.First l (ky 0 0 t 0) i ∧ (l.getD i en0).2.1 = [fs.getD t 0])
theorem keeps_none : Keeps [] (List.replicate 256 0) 0 := by
  refine ⟨List.length_replicate, Nat.le_refl _, fun e he => by simp at he, fun t ht => .inl ⟨?_, Dx.no_nil _⟩⟩
  rw [List.getD_eq_getElem?_getD, List.getElem?_replicate, if_pos ht]
  rfl
theorem Keeps.short {l : List En} {fs : List Int} {k : Nat} (h : Keeps l fs k) (hk : k ≤ 1000) : Dx.Short l := ⟨by have := h.2.1; omega, fun e he => by have := h.2.2.1 e he; omega⟩
theorem set_int {l : List Int} {x i : Nat} {y : Int} (hx : x < l.length) : (l.set x y).getD i 0 = if x = i then y else l.getD i 0 := by
  by_cases e : x = i
  · subst e; rw [if_pos rfl, List.getD_eq_getElem?_getD, List.getElem?_set_self hx]; rfl
  · rw [if_neg e, List.getD_eq_getElem?_getD, List.getElem?_set_ne e, List.getD_eq_getElem?_getD]
theorem Keeps.new {l : List En} {fs : List Int} {k t : Nat} (h : Keeps l fs k) (ht : t < 256) (hy : fs.getD t 0 = 0) :
    Dx.No l (ky 0 0 t 0) ∧ Keeps (l ++ [en (ky 0 0 t 0) [(k : Int) + 1]]) (fs.set t ((k : Int) + 1)) (k + 1) := by
  obtain ⟨h1, h2, h3, h4⟩ := h
  have hno : Dx.No l (ky 0 0 t 0) := by
    rcases h4 t ht with h | h
    · exact h.2
    · exact absurd hy h.1
  refine ⟨hno, by rw [List.length_set]; exact h1, by rw [List.length_append]; show l.length + 1 ≤ k + 1; omega, fun e he => ?_, fun u hu => ?_⟩
  · rcases List.mem_append.1 he with he | he
    · exact h3 e he
    · rw [List.mem_singleton.1 he]; exact Nat.le_refl 1
  · rw [set_int (by omega)]
    by_cases e : t = u
    · subst e
      rw [if_pos rfl]
      refine .inr ⟨by omega, l.length, hno.new _, ?_⟩
      rw [Dx.getD_new]
      rfl
    · rw [if_neg e]
      rcases h4 u hu with h | ⟨h5, i, h6, h7⟩
      · refine .inl ⟨h.1, h.2.more ?_⟩
        intro hk
        have hk' : ky 0 0 (t : Int) 0 = ky 0 0 (u : Int) 0 := hk
        have := (ky_eq.1 hk').2.2.1
        omega
      · exact .inr ⟨h5, i, h6.more _, by rw [Dx.getD_left h6.1]; exact h7⟩
theorem Keeps.old {l : List En} {fs : List Int} {k t : Nat} (h : Keeps l fs k) (ht : t < 256) (hy : fs.getD t 0 ≠ 0) :
    (∃ i, Dx.First l (ky 0 0 t 0) i ∧ (l.getD i en0).2.1 = [fs.getD t 0]) ∧ Keeps l fs (k + 1) := by
  obtain ⟨h1, h2, h3, h4⟩ := h
  refine ⟨?_, h1, by omega, h3, h4⟩
  rcases h4 t ht with h | h
  · exact absurd h.1 hy
  · exact h.2
/- The walk: the call returns true, and nothing that was there is written. -/
set_option maxHeartbeats 4000000 in
set_option maxRecDepth 100000 in
theorem walk (a0 : Option Addr) (len0 cap0 : Nat) (m0 : List Int) (w : World) (w0 : (sliceS (intS .u8)).rep w everywhere [.slice a0 len0 cap0] m0) (f0 : (∀ x0 ∈ m0, (Lit.int .u8 x0).wf = true)) :
    Calls Try.prog 4 #[.slice a0 len0 cap0] w fun e w' => e = .returned (.bool true) ∧ Below w.heap.size w w' := by
  have hA := Shape.low w0
  have hl0 := (sliceS_len w0).1
  have HU : Hid (∀ j, j < len0 → 0 ≤ m0.getD j 0 ∧ m0.getD j 0 ≤ 255) := fun j hj => bounds_u8 (f0 _ (by rw [List.getD_eq_getElem?_getD, List.getElem?_eq_getElem (by omega)]; exact List.getElem_mem _))
  clear w0 f0
  obtain ⟨Z, hZ⟩ : ∃ Z, Z = List.replicate 256 (0 : Int) := ⟨_, rfl⟩
  have hz : ∀ u : World, (zeroValue 41).run Try.prog u = .ok (.agg (Z.map (Value.int .i64)).toArray) u := fun u => by rw [hZ]; exact zerosInts u
  have HG : Hid (Keeps [] Z 0) := by show Keeps _ _ _; rw [hZ]; exact keeps_none
  clear hZ
  have HQ : Hid (Box (w.alloc (.cells (Z.map (Value.int .i64)).toArray 41)) w.heap.size 41 (Z.map (Value.int .i64)).toArray) := Box.new _ _ _
  go_enter Try.func4, Try.ntmps4
  go_wp2
  go_loopw [3, 5] (fun v3 v5 wr => ∃ (k n : Nat) (a1 : Option Addr) (c1 : Nat) (l : List En) (fs : List Int), k ≤ len0 ∧ k ≤ 100 ∧ v3 = .slice a1 n c1 ∧ v5 = .int .i64 k ∧ Keeps l fs k ∧ ensS.rep wr (· ≠ w.heap.size) [.slice a1 n c1] l ∧ Box wr w.heap.size 41 (fs.map (Value.int .i64)).toArray ∧ Below w.heap.size w wr) (fun _ i _ => 100 - (intOf i).toNat)
  case atStart => exact ⟨0, 0, none, 0, [], Z, Nat.zero_le _, Nat.zero_le _, rfl, rfl, HG.out, rep_none _ _ _, HQ.out, new_bel _ _⟩
  case round =>
    clear HQ HG hz
    obtain ⟨k, n, a1, c1, l, fs, hk, hk2, rfl, rfl, hkeep, hrep, harr, hbel⟩ := hrel
    have hl := (sliceS_len hrep).1
    by_cases hlt : k < len0 ∧ k < 100
    · obtain ⟨hlt1, hlt2⟩ := hlt
      have hli : (k : Int) < (len0 : Int) := by omega
      have hli2 : (k : Int) < 100 := by omega
      have hk0 : (0 : Int) ≤ (k : Int) := by omega
      obtain ⟨b1, o1, rfl, hbF, hcell⟩ := (Row.of_rep (Shape.now hA hbel)).at hlt1
      obtain ⟨x, hx⟩ : ∃ x : Nat, m0.getD k 0 = (x : Int) := ⟨(m0.getD k 0).toNat, by have := HU.out k hlt1; omega⟩
      have hx256 : x < 256 := by have := HU.out k hlt1; omega
      have hx0i : (0 : Int) ≤ (x : Int) := by omega
      have hxi : (x : Int) < 256 := by omega
      rw [hx] at hcell
      have HXe : Hid (m0.getD k 0 = (x : Int)) := hx
      have HK : Hid (Keeps l fs k) := hkeep
      have HLen : Hid (l.length = n) := hl
      have HFl : Hid (fs.length = 256) := hkeep.1
      have hn100 : n ≤ 100 := by have := hkeep.2.1; omega
      clear hx hkeep hl
      have hltA := harr.lt
      go_upto_region 7 with fail
      have hbn := new_bel wr (.cells #[.int .i64 0, .int .i64 0, .int .i64 (x : Int), .int .i64 0] 24)
      have kk := Box.new wr 24 #[.int .i64 0, .int .i64 0, .int .i64 (x : Int), .int .i64 0]
      have hr1 := Shape.below hrep hbn
      have ka1 := harr.keep hbn
      have hB1 := bel_then hbel hbn
      clear hrep harr hbel hbn hcell
      generalize wr.alloc (.cells #[.int .i64 0, .int .i64 0, .int .i64 (x : Int), .int .i64 0] 24) = W1 at *
      generalize wr.heap.size = g at *
      have kp0 := kk.cell 0 rfl
      have kp1 := kk.cell 1 rfl
      have kp2 := kk.cell 2 rfl
      have kp3 := kk.cell 3 rfl
      have hbn := new_bel W1 (.cells #[.int .i64 ((k : Int) + 1)] 3)
      have hv1 : rowS.rep (W1.alloc (.cells #[.int .i64 ((k : Int) + 1)] 3)) everywhere [.slice (some ⟨W1.heap.size, 0, none⟩) 1 1] [(k : Int) + 1] := row_lit W1 [(k : Int) + 1] 3 (by simp [maxLen])
      have hsz2 : (W1.alloc (.cells #[.int .i64 ((k : Int) + 1)] 3)).heap.size = W1.heap.size + 1 := by simp
      have HZ2 : Hid ((W1.alloc (.cells #[.int .i64 ((k : Int) + 1)] 3)).heap.size = W1.heap.size + 1) := hsz2
      clear hsz2
      have hgl := kk.lt
      have hal := ka1.lt
      by_cases hy : fs.getD x 0 = 0
      · obtain ⟨hno, hkeep2⟩ := HK.out.new hx256 hy
        obtain ⟨L, hL⟩ : ∃ L, l ++ [en (ky 0 0 x 0) [(k : Int) + 1]] = L := ⟨_, rfl⟩
        have hfirst := hno.new [(k : Int) + 1]
        have hval : ((l ++ [en (ky 0 0 x 0) [(k : Int) + 1]]).getD l.length en0).2.1 = [(k : Int) + 1] := by rw [Dx.getD_new]; rfl
        have hc1 : Hid (Calls _ _ _ _ _) := lenter_to a1 n c1 l 0 0 x 0 (some ⟨W1.heap.size, 0, none⟩) 1 1 [(k : Int) + 1] _ (Shape.any (Shape.below hr1 hbn)) (HK.out.short (by omega)) hv1 (by omega) hno (n + 1) rfl L hL
        rw [hL] at hkeep2 hfirst hval
        have HK2 : Hid (Keeps L (fs.set x ((k : Int) + 1)) (k + 1)) := hkeep2
        have HFi : Hid (Dx.First L (ky 0 0 x 0) l.length ∧ (L.getD l.length en0).2.1 = [(k : Int) + 1]) := ⟨hfirst, hval⟩
        have HC : Hid ((fs.map (Value.int .i64)).toArray[x]? = some (.int .i64 0)) := by
          show _ = _
          rw [List.getElem?_toArray, List.getElem?_map, ← hy, List.getD_eq_getElem?_getD, List.getElem?_eq_getElem (by have := HFl.out; omega)]
          rfl
        clear hno hkeep2 hfirst hval hy hL
        go_wp2_with fail
        refine hc1.out.mono ?_
        rintro e u1 ⟨hb1, a2, c2, rfl, hr2⟩
        have hb2 := bel_then hbn hb1
        have hB2 := bel_then hB1 hb2
        have kk2 := kk.keep hb2
        have ka2 := ka1.keep hb2
        obtain ⟨b', o', he, hbw, hcell2⟩ := (Row.of_rep (Shape.now hA hB2)).at hlt1
        have e := Option.some.inj he
        injection e with e1 e2 e3
        subst e1
        subst e2
        clear he e3
        rw [HXe.out] at hcell2
        have ca := ka2.cell x (v := .int .i64 0) HC.out
        have fa := ka2.free x
        clear kp0 kp1 kp2 kp3 hc1 hv1 hr1
        go_upto_region 13 with fail
        have hr3 : ensS.rep (u1.setCell ⟨w.heap.size, x, none⟩ (.int .i64 ((k : Int) + 1))) (· ≠ w.heap.size) [.slice a2 (n + 1) c2] L := ensS.keep (ensS.mono hr2 fun b hb _ => by have h7 : (W1.alloc (.cells #[.int .i64 ((k : Int) + 1)] 3)).heap.size ≤ b := hb; have := HZ2.out; omega) (fun b hb _ => Below.heap_setCell u1 _ _ b hb)
        have hB3 : Below w.heap.size w (u1.setCell ⟨w.heap.size, x, none⟩ (.int .i64 ((k : Int) + 1))) := bel_put hB2 (Nat.le_refl _) _
        have kk3 : Box (u1.setCell ⟨w.heap.size, x, none⟩ (.int .i64 ((k : Int) + 1))) g 24 #[.int .i64 0, .int .i64 0, .int .i64 (x : Int), .int .i64 0] := kk2.other _ (by omega)
        have ka3 : Box (u1.setCell ⟨w.heap.size, x, none⟩ (.int .i64 ((k : Int) + 1))) w.heap.size 41 ((fs.set x ((k : Int) + 1)).map (Value.int .i64)).toArray := by have h7 := ka2.set x (.int .i64 ((k : Int) + 1)); rw [List.map_set]; simpa using h7
        clear hr2 hB2 kk2 ka2 ca fa hcell2 hb1 hb2
        generalize u1.setCell ⟨w.heap.size, x, none⟩ (.int .i64 ((k : Int) + 1)) = W3 at *
        have kp0 := kk3.cell 0 rfl
        have kp1 := kk3.cell 1 rfl
        have kp2 := kk3.cell 2 rfl
        have kp3 := kk3.cell 3 rfl
        have hc2 : Hid (Calls _ _ _ _ _) := lfind_at a2 (n + 1) c2 L 0 0 x 0 W3 (Shape.any hr3) (HK2.out.short (by omega)) l.length HFi.out.1 [(k : Int) + 1] HFi.out.2 1 rfl
        go_wp2_with fail
        refine hc2.out.mono ?_
        rintro e u2 ⟨hb4, a5, c5, rfl, hr5⟩
        have hB4 := bel_then hB3 hb4
        have ka4 := ka3.keep hb4
        have hr4 := Shape.below hr3 hb4
        obtain ⟨b6, o6, rfl, _, hc6⟩ := (Row.of_rep hr5).at (j := 0) (by omega)
        rw [Nat.add_zero] at hc6
        simp only [List.getD_cons_zero] at hc6
        obtain ⟨b', o', he, hbw, hcell2⟩ := (Row.of_rep (Shape.now hA hB4)).at hlt1
        have e := Option.some.inj he
        injection e with e1 e2 e3
        subst e1
        subst e2
        clear he e3
        rw [HXe.out] at hcell2
        have HC3 : Hid (((fs.set x ((k : Int) + 1)).map (Value.int .i64)).toArray[x]? = some (.int .i64 ((k : Int) + 1))) := by
          show _ = _
          rw [List.getElem?_toArray, List.getElem?_map, List.getElem?_set, if_pos rfl, if_pos (by have := HFl.out; omega)]
          rfl
        have hne9 : Nonempty (Later u2) := Later.there u2
        have y0 : ∀ x9 : Later u2, x9.u.cell? ⟨b6, o6, none⟩ = some (.int .i64 ((k : Int) + 1)) := fun x9 => x9.cell hc6
        have y1 : ∀ x9 : Later u2, x9.u.cell? ⟨b1, o1 + k, none⟩ = some (.int .u8 (x : Int)) := fun x9 => x9.cell hcell2
        have y2 : ∀ x9 : Later u2, x9.u.cell? ⟨w.heap.size, x, none⟩ = some (.int .i64 ((k : Int) + 1)) := fun x9 => x9.cell (ka4.cell x (v := .int .i64 ((k : Int) + 1)) HC3.out)
        have en1 : ((k : Int) + 1 != (k : Int) + 1) = false := by simp
        clear hc6 hcell2 hc2 kp0 kp1 kp2 kp3 hr5 hr3 ka3 hB3
        go_wp2
        refine region_later (by kernel_rfl) (by kernel_rfl) ?_
        repeat (go_big_quiet_step (fail))
        refine wpQuiet_nil ?_
        intro x9
        obtain ⟨u3, hb5⟩ := x9
        go_wp2
        go_roundw
        case rel => exact ⟨k + 1, n + 1, a2, c2, L, _, by omega, by omega, rfl, by go_num, HK2.out, Shape.below hr4 hb5, ka4.keep hb5, bel_then hB4 hb5⟩
        case measure => simp [intOf]; omega
      · obtain ⟨⟨i, hfirst, hval⟩, hkeep2⟩ := HK.out.old hx256 hy
        obtain ⟨y, hye⟩ : ∃ y, fs.getD x 0 = y := ⟨_, rfl⟩
        rw [hye] at hy hval
        have hc1 : Hid (Calls _ _ _ _ _) := lenter_no a1 n c1 l 0 0 x 0 (some ⟨W1.heap.size, 0, none⟩) 1 1 _ (Shape.any (Shape.below hr1 hbn)) (HK.out.short (by omega)) i hfirst
        have HK2 : Hid (Keeps l fs (k + 1)) := hkeep2
        have HFi : Hid (Dx.First l (ky 0 0 x 0) i ∧ (l.getD i en0).2.1 = [y]) := ⟨hfirst, hval⟩
        have HC : Hid ((fs.map (Value.int .i64)).toArray[x]? = some (.int .i64 y)) := by
          show _ = _
          rw [List.getElem?_toArray, List.getElem?_map, ← hye, List.getD_eq_getElem?_getD, List.getElem?_eq_getElem (by have := HFl.out; omega)]
          rfl
        have ey : (y == 0) = false := by simpa using hy
        clear hkeep2 hfirst hval hye hy
        go_wp2_with fail
        refine hc1.out.mono ?_
        rintro e u1 ⟨hb1, a2, c2, rfl, hr2⟩
        have hb2 := bel_then hbn hb1
        have hB2 := bel_then hB1 hb2
        have kk2 := kk.keep hb2
        have ka2 := ka1.keep hb2
        obtain ⟨b', o', he, hbw, hcell2⟩ := (Row.of_rep (Shape.now hA hB2)).at hlt1
        have e := Option.some.inj he
        injection e with e1 e2 e3
        subst e1
        subst e2
        clear he e3
        rw [HXe.out] at hcell2
        have ca := ka2.cell x (v := .int .i64 y) HC.out
        have hr3 : ensS.rep u1 (· ≠ w.heap.size) [.slice a2 n c2] l := ensS.mono hr2 fun b hb _ => by have h7 : (W1.alloc (.cells #[.int .i64 ((k : Int) + 1)] 3)).heap.size ≤ b := hb; have := HZ2.out; omega
        clear kp0 kp1 kp2 kp3 hc1 hv1 hr1 hr2
        go_upto_region 13 with fail
        have kp0 := kk2.cell 0 rfl
        have kp1 := kk2.cell 1 rfl
        have kp2 := kk2.cell 2 rfl
        have kp3 := kk2.cell 3 rfl
        clear hcell2 ca
        have hc2 : Hid (Calls _ _ _ _ _) := lfind_at a2 n c2 l 0 0 x 0 u1 (Shape.any hr3) (HK2.out.short (by omega)) i HFi.out.1 [y] HFi.out.2 1 rfl
        go_wp2_with fail
        refine hc2.out.mono ?_
        rintro e u2 ⟨hb4, a5, c5, rfl, hr5⟩
        have hB4 := bel_then hB2 hb4
        have ka4 := ka2.keep hb4
        have hr4 := Shape.below hr3 hb4
        obtain ⟨b6, o6, rfl, _, hc6⟩ := (Row.of_rep hr5).at (j := 0) (by omega)
        rw [Nat.add_zero] at hc6
        simp only [List.getD_cons_zero] at hc6
        obtain ⟨b', o', he, hbw, hcell2⟩ := (Row.of_rep (Shape.now hA hB4)).at hlt1
        have e := Option.some.inj he
        injection e with e1 e2 e3
        subst e1
        subst e2
        clear he e3
        rw [HXe.out] at hcell2
        have hne9 : Nonempty (Later u2) := Later.there u2
        have y0 : ∀ x9 : Later u2, x9.u.cell? ⟨b6, o6, none⟩ = some (.int .i64 y) := fun x9 => x9.cell hc6
        have y1 : ∀ x9 : Later u2, x9.u.cell? ⟨b1, o1 + k, none⟩ = some (.int .u8 (x : Int)) := fun x9 => x9.cell hcell2
        have y2 : ∀ x9 : Later u2, x9.u.cell? ⟨w.heap.size, x, none⟩ = some (.int .i64 y) := fun x9 => x9.cell (ka4.cell x (v := .int .i64 y) HC.out)
        have en1 : (y != y) = false := by simp
        clear hc6 hcell2 hc2 kp0 kp1 kp2 kp3 hr5 hr3 ka2 hB2
        go_wp2
        refine region_later (by kernel_rfl) (by kernel_rfl) ?_
        repeat (go_big_quiet_step (fail))
        refine wpQuiet_nil ?_
        intro x9
        obtain ⟨u3, hb5⟩ := x9
        go_wp2
        go_roundw
        case rel => exact ⟨k + 1, n, a2, c2, l, fs, by omega, by omega, rfl, by go_num, HK2.out, Shape.below hr4 hb5, ka4.keep hb5, bel_then hB4 hb5⟩
        case measure => simp [intOf]; omega
    · clear hkeep hrep harr
      by_cases hlt1 : k < len0
      · have hli : (k : Int) < (len0 : Int) := by omega
        have hli2 : ¬ (k : Int) < 100 := by omega
        go_wp2_with (go_at_call 7; refine (dawake _).mono ?_; rintro e u6 ⟨rfl, hb6⟩)
        go_ret
        exact ⟨rfl, bel_then hbel hb6⟩
      · have hli : ¬ (k : Int) < (len0 : Int) := by omega
        go_wp2_with (go_at_call 7; refine (dawake _).mono ?_; rintro e u6 ⟨rfl, hb6⟩)
        go_ret
        exact ⟨rfl, bel_then hbel hb6⟩

/- From the walk to the row. -/
set_option maxRecDepth 100000 in
theorem lifted (os : Os) (started : os.Started) (H : Type) (enc : TypeId × Value → H) :
    ReturnsInHanded {} Try.checked os 4 .any (Rows.ledgerFirstSpec.pre6 enc Try.prog Try.f4 Rows.ledgerFirstRow.domain false) (Rows.ledgerFirstSpec.post enc Try.prog Try.f4 false true false false) := by
  refine returnsInHanded_of_change (C := Try.checked) own started (by kernel_rfl) Try.func4
    (ChangeSpec.witness6 (enc := enc) (C := Try.checked) false ⟨#[], #[.slice none 0 0], []⟩ 8 (by kernel_rfl) (by kernel_rfl) (by kernel_rfl) (by kernel_rfl)) ?_
  intro W base args ds gs before hval0 hW hcnd _
  have hval : ∀ (j : Nat) t v, Try.f4.params[j]? = some t → args[j]? = some v → Value.okWide Try.prog W .any base t v := hval0
  have hW' := hW
  obtain ⟨p, q, hA0, hV, rfl, hfz, hnd⟩ := hW
  have hA : DataW.TrodAll enc Try.prog W 0 (fun _ => true) true Try.f4.params.toList args.toList ds p := hA0
  rw [Try.params4] at hA hval
  obtain ⟨v0, vs0, d0, ds0, p0, q0, hargs, rfl, rfl, h0, r0⟩ := trodAll_cons hA
  obtain ⟨rfl, rfl, rfl⟩ := trodAll_nil r0
  obtain rfl : args = #[v0] := by cases args; simp_all
  obtain ⟨rfl, rfl⟩ := trodVars_none hV
  obtain ⟨a0, len0, cap0, rfl⟩ := okWide_slice Try.underlying40 (hval 0 40 v0 rfl rfl)
  have k0 := h0
  have lt0 : ∀ x ∈ p0, x.block < W.heap.size := by obtain ⟨m, hm⟩ := k0; exact DataW.trod_lt m _ _ _ hm
  obtain ⟨m0, w0, f0⟩ : ∃ y, (sliceS (intS .u8)).rep W everywhere [.slice a0 len0 cap0] y ∧ (∀ x0 ∈ y, (Lit.int .u8 x0).wf = true) := by
    obtain ⟨fuel, hf⟩ := h0
    exact (opens_slice (A := (intS .u8)) Try.underlying40 (show Try.prog.cellsOf 5 = 1 by kernel_rfl) (by exact Nat.succ_pos _) (opens_int Try.underlying5)) H enc W _ _ _ fuel _ _ hf
  clear hA0 hval0
  refine (walk a0 len0 cap0 m0 W w0 f0).mono fun e W' ⟨he, bel⟩ => ?_
  subst he
  exact ⟨_, rfl, _, _, _, [], _, [], hW', trodAll_mk1 (shut_bool Try.underlying4 _), (trodAll_cons_mk (Below.trod laidOut (by kernel_rfl) (of_decide_eq_true (by kernel_rfl)) k0 bel lt0) trodAll_mk0), rfl, bel.frame _, fun h => by cases h⟩

theorem over : Rows.ledgerFirstRow.holds Try.pinned (OpenSpec.ofChange Rows.ledgerFirstSpec) :=
  OpenClaim.holds_of_wide 4 Try.f4 rfl rfl rfl rfl rfl rfl rfl ⟨rfl, rfl, rfl, rfl, rfl⟩ rfl rfl rfl rfl rfl (by kernel_rfl) Try.func4 (by kernel_rfl)
    (of_decide_eq_true (by kernel_rfl)) (by unfold Func.isWrapper; first | (rw [if_pos (by decide +kernel)]; kernel_rfl) | (rw [if_neg (by decide +kernel)]; exact ⟨rfl, rfl⟩))
    (fun os started H enc _ => lifted os started H enc)

end Go.Proofs.Ytfbghicknaldcaa.ledgerFirst

namespace Go.Proofs.Ytfbghicknaldcaa
theorem ledgerFirst_holds : Rows.LedgerFirstSaid := ledgerFirst.over
end Go.Proofs.Ytfbghicknaldcaa
