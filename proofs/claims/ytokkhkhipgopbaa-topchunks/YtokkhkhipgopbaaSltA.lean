/- What slots.Assign and the document's ahead and Slot do when called. -/
import Derived.Test.YtokkhkhipgopbaaJb
import Derived.Test.YtokkhkhipgopbaaBase
import Derived.Maps.OwnOps
import Derived.Maps.Views
import Derived.ChangeKeysEq
import Derived.Laws.StructEq
namespace Go.Proofs.Ytokkhkhipgopbaa
open Go.ChangeShapes Go.WideShapes Go.ChangeAt Go.RowKit Go.Maps

theorem Try.infoPair : (Try.prog.info? 85).map (fun i => (i.zero, i.size, i.bytes)) = some (some (.agg #[.int .i64 0, .int .i64 0]), 2, 16) := by kernel_rfl
theorem keyInt : Keyed Try.prog 3 := int_keyed Try.underlying3
theorem zeroInt (w : World) : (zeroValue 3).run Try.prog w = .ok (.int .i64 0) w := by kernel_rfl
theorem index2 (p q : Int) (k : Nat) (hk : k < 2) (x : Int) (h0 : k = 0 → x = p) (h1 : k = 1 → x = q) (w : World) : (Instr.index 85 (.agg #[.int .i64 p, .int .i64 q]) (.int .i64 (k : Int))).run Try.prog w = .ok (.int .i64 x) w := by
  have i0 : ∀ w : World, (Instr.index 85 (.agg #[.int .i64 p, .int .i64 q]) (.int .i64 0)).run Try.prog w = .ok (.int .i64 p) w := fun _ => by kernel_rfl
  have i1 : ∀ w : World, (Instr.index 85 (.agg #[.int .i64 p, .int .i64 q]) (.int .i64 1)).run Try.prog w = .ok (.int .i64 q) w := fun _ => by kernel_rfl
  rcases (by omega : k = 0 ∨ k = 1) with rfl | rfl
  · rw [h0 rfl]; exact i0 w
  · rw [h1 rfl]; exact i1 w

/-! ### '==' of pairs -/
theorem eqPairIn (p q : Int) (w : World) : (Op.equalIn 10000 85 (.agg #[.int .i64 p, .int .i64 q]) (.agg #[.int .i64 p, .int .i64 q])).run Try.prog w = .ok true w := by
  have u3 := Try.underlying3
  have a3 := Try.isAgg3
  have z3 := Try.sizeOf3
  obtain ⟨i0, hi0, _⟩ := info_parts Try.infoInt
  rw [show (10000 : Nat) = 9999 + 1 from rfl, run_equalIn_array w 9999 _ _ Try.underlying85 hi0]
  rw [show Try.prog.cellsOf 3 = 1 by kernel_rfl, show List.range 2 = [0, 1] from rfl]
  simp only [Op.eqItems]
  go_simp
theorem eqPair (p q : Int) (w : World) : (binOp .eql 85 (.agg #[.int .i64 p, .int .i64 q]) (.agg #[.int .i64 p, .int .i64 q])).run Try.prog w = .ok (.bool true) w := by
  rw [run_eql_struct, eqPairIn]
  rfl
theorem neqPair (p q : Int) (w : World) : (binOp .neq 85 (.agg #[.int .i64 p, .int .i64 q]) (.agg #[.int .i64 p, .int .i64 q])).run Try.prog w = .ok (.bool false) w := by
  rw [run_neq_struct, eqPairIn]
  rfl

/-! ### Assign -/
/-- Block B is the map of what was given by the first i parts. -/
def Given (u : World) (B : Nat) (l : List Int) (E C : Int) (i : Nat) : Prop :=
  ∃ D : DataW Unit, u.ownsMap Try.prog 3 (plainElem Try.prog 3) B i D ∧ ∀ x : Int, D.atKey (.int .i64 x) (.lit (.int .i64 0)) = .lit (.int .i64 (Sl.giv l E C i x))
theorem owns_map {u : World} {B i : Nat} {D : DataW Unit} (h : u.ownsMap Try.prog 3 (plainElem Try.prog 3) B i D) : IsMap D := by
  obtain ⟨es, clock, _, _, _, hD⟩ := h
  exact ⟨_, hD⟩
theorem Given.made (w : World) (l : List Int) (E C : Int) : Given (w.alloc (.map #[] 0)) w.heap.size l E C 0 :=
  ⟨.map [], World.ownsMap_made _ _ _ _, fun x => by rw [Sl.giv_zero]; rfl⟩
theorem Given.kept {u u' : World} {B : Nat} {l : List Int} {E C : Int} {i : Nat} (h : Given u B l E C i) {row : Option Nat} (hg : u.grownBy u' row) (hne : some B ≠ row) : Given u' B l E C i := by
  obtain ⟨D, h1, h2⟩ := h
  exact ⟨D, h1.kept hg hne, h2⟩
theorem Given.no {u : World} {B : Nat} {l : List Int} {E C : Int} {i : Nat} (h : Given u B l E C i) (hi : i < l.length) {x : Int} (hx : l.getD i 0 = x) (hno : ¬ (0 ≤ x ∧ x < E ∧ Sl.giv l E C i x < C)) : Given u B l E C (i + 1) := by
  obtain ⟨D, h1, h2⟩ := h
  refine ⟨D, h1.mono (Nat.le_succ _), fun z => ?_⟩
  rw [h2 z]
  by_cases e : z = x
  · subst e; rw [Sl.giv_no hi hx hno]
  · rw [Sl.giv_other hi (by rw [hx]; exact e)]
theorem Given.yes {u : World} {B : Nat} {l : List Int} {E C : Int} {i : Nat} {x y : Int} {D : DataW Unit} (hk : keyOf Try.prog 3 (.int .i64 x) = some (.int .i64 x)) (h1 : u.ownsMap Try.prog 3 (plainElem Try.prog 3) B (i + 1) (D.put (.int .i64 x) (.lit (.int .i64 (y + 1)))))
    (hm : IsMap D) (h2 : ∀ x : Int, D.atKey (.int .i64 x) (.lit (.int .i64 0)) = .lit (.int .i64 (Sl.giv l E C i x))) (hi : i < l.length) (hx : l.getD i 0 = x) (hy : y = Sl.giv l E C i x) (g0 : 0 ≤ x) (g1 : x < E) (g2 : Sl.giv l E C i x < C) : Given u B l E C (i + 1) := by
  refine ⟨_, h1, fun z => ?_⟩
  by_cases e : z = x
  · subst e
    rw [atKey_put_same hm (keyInt.key hk), Sl.giv_yes hi hx g0 g1 g2, hy]
  · rw [atKey_put_other (fun h => e (by injection h)), h2 z, Sl.giv_other hi (by rw [hx]; exact e)]

/-- The first i parts are done: the slots lie in the block behind the map's, and what is given in that. -/
def Part (w u : World) (n : Nat) (l : List Int) (E C : Int) (i : Nat) : Prop :=
  u.ownsRow (w.heap.size + 1) 85 2 (.slice (some ⟨w.heap.size + 1, 0, none⟩) n n) n ((fill (Sl.upto l E C i) (n * 2)).map (Value.int .i64)) ∧ Given u w.heap.size l E C i ∧ Below w.heap.size w u
section
variable {w u : World} {n : Nat} {l : List Int} {E C : Int} {i : Nat}
theorem Part.bel (h : Part w u n l E C i) : Below w.heap.size w u := h.2.2
theorem Part.alloc (h : Part w u n l E C i) (o : Obj) : Part w (u.alloc o) n l E C i :=
  ⟨h.1.alloc o, h.2.1.kept (World.grownBy_alloc u o none) (by simp), bel_alloc h.2.2 o⟩
theorem Part.cell (h : Part w u n l E C i) {j : Nat} (hj : j < n * 2) : ∃ z, u.cell? ⟨w.heap.size + 1, j, none⟩ = some z := by
  refine ⟨(((fill (Sl.upto l E C i) (n * 2)).map (Value.int .i64)))[j]'(by rw [h.1.1]; exact hj), ?_⟩
  rw [h.1.cellAt j hj]
  exact List.getElem?_eq_getElem _
theorem Part.free (h : Part w u n l E C i) (j : Nat) : u.frozen? ⟨w.heap.size + 1, j, none⟩ = false := h.1.frozenAt j
theorem Part.start {u0 : World} (h : u0.ownsRow (w.heap.size + 1) 85 2 (.slice (some ⟨w.heap.size + 1, 0, none⟩) n n) n (madeCells (Value.agg #[.int .i64 0, .int .i64 0]).cells (n * 2)).toList) (hg : (w.alloc (.map #[] 0)).grownBy u0 none) : Part w u0 n l E C 0 := by
  refine ⟨?_, (Given.made w l E C).kept hg (by simp), (new_bel w _).grown hg (by simp) (fun g hg => by cases hg)⟩
  have e : (madeCells (Value.agg #[.int .i64 0, .int .i64 0]).cells (n * 2)).toList = (fill (Sl.upto l E C 0) (n * 2)).map (Value.int .i64) := by
    rw [show (Value.agg #[.int .i64 0, .int .i64 0]).cells = #[.int .i64 0, .int .i64 0] from rfl, made_pairs]
    simp [fill, Sl.upto]
  rw [e] at h
  exact h
theorem set_map (L : List Int) (j : Nat) (x : Int) : (L.map (Value.int .i64)).set j (.int .i64 x) = (L.set j x).map (Value.int .i64) := by rw [List.map_set]
theorem Part.no (h : Part w u n l E C i) (hl : l.length = n * 2) (hi : i < n * 2) {x : Int} (hx : l.getD i 0 = x) (hno : ¬ (0 ≤ x ∧ x < E ∧ Sl.giv l E C i x < C)) : Part w (u.setCell ⟨w.heap.size + 1, i, none⟩ (.int .i64 (-1))) n l E C (i + 1) := by
  obtain ⟨h1, h2, h3⟩ := h
  obtain ⟨k1, k2⟩ := h1.stored i (.int .i64 (-1))
  refine ⟨?_, (h2.kept k2 (by simp)).no (by omega) hx hno, bel_put h3 (by omega) _⟩
  rw [set_map] at k1
  have e := fill_set (Sl.upto l E C i) (n * 2) (-1) (by rw [Sl.upto_len]; exact hi)
  rw [Sl.upto_len] at e
  rw [Sl.upto_succ, Sl.slot_no hx hno, ← e]
  exact k1
theorem Part.yes {w1 : World} {x y : Int} {D : DataW Unit} (h : Part w u n l E C i) (hl : l.length = n * 2) (hi : i < n * 2) (hx : l.getD i 0 = x) (hk : keyOf Try.prog 3 (.int .i64 x) = some (.int .i64 x)) (hy : y = Sl.giv l E C i x) (g0 : 0 ≤ x) (g1 : x < E) (g2 : Sl.giv l E C i x < C)
    (hm : IsMap D) (hD : ∀ x : Int, D.atKey (.int .i64 x) (.lit (.int .i64 0)) = .lit (.int .i64 (Sl.giv l E C i x)))
    (hw : w1.ownsMap Try.prog 3 (plainElem Try.prog 3) w.heap.size (i + 1) (D.put (.int .i64 x) (.lit (.int .i64 (y + 1))))) (hg : ((u.setCell ⟨w.heap.size + 1, i, none⟩ (.int .i64 (-1))).setCell ⟨w.heap.size + 1, i, none⟩ (.int .i64 y)).grownBy w1 (some w.heap.size)) : Part w w1 n l E C (i + 1) := by
  obtain ⟨h1, h2, h3⟩ := h
  obtain ⟨k1, k2⟩ := h1.stored i (.int .i64 (-1))
  obtain ⟨k3, k4⟩ := k1.stored i (.int .i64 y)
  have hb := bel_put (i := i) (bel_put (i := i) h3 (b := w.heap.size + 1) (by omega) (.int .i64 (-1))) (b := w.heap.size + 1) (by omega) (.int .i64 y)
  refine ⟨?_, Given.yes hk hw hm hD (by omega) hx hy g0 g1 g2, hb.grown hg hb.size (fun j hj => by cases hj; exact Nat.le_refl _)⟩
  have k5 := k3.kept hg (.inr (by show some (w.heap.size + 1) ≠ some w.heap.size; simp))
  rw [set_map, set_map] at k5
  have e := Sl.put_one (done := Sl.upto l E C i) (n := n * 2) (y := -1) (x := y) (by rw [Sl.upto_len]; exact hi)
  rw [Sl.upto_len] at e
  rw [Sl.upto_succ, Sl.slot_yes hx g0 g1 g2, ← hy, ← e]
  exact k5
theorem Part.done (h : Part w u n l E C (n * 2)) (hl : l.length = n * 2) : Flat u (some ⟨w.heap.size + 1, 0, none⟩) n (Sl.slots l E C) := by
  have h1 := h.1
  rw [fill_full _ _ (Sl.upto_len _ _ _ _)] at h1
  have := Flat.of_owns h1
  unfold Sl.slots
  rw [hl]
  exact this
theorem Part.looked (h : Part w u n l E C i) : ∃ D : DataW Unit, (u.setCell ⟨w.heap.size + 1, i, none⟩ (.int .i64 (-1))).ownsMap Try.prog 3 (plainElem Try.prog 3) w.heap.size i D ∧ (∀ y : Int, ((u.setCell ⟨w.heap.size + 1, i, none⟩ (.int .i64 (-1))).setCell ⟨w.heap.size + 1, i, none⟩ (.int .i64 y)).ownsMap Try.prog 3 (plainElem Try.prog 3) w.heap.size i D) ∧ IsMap D ∧ ∀ x : Int, D.atKey (.int .i64 x) (.lit (.int .i64 0)) = .lit (.int .i64 (Sl.giv l E C i x)) := by
  obtain ⟨h1, ⟨D, h2, hD⟩, h3⟩ := h
  have k2 := h2.kept (grown_set u (w.heap.size + 1) i (.int .i64 (-1))) (by simp)
  exact ⟨D, k2, fun y => k2.kept (grown_set _ (w.heap.size + 1) i (.int .i64 y)) (by simp), owns_map h2, hD⟩
end

set_option maxHeartbeats 4000000 in
set_option maxRecDepth 100000 in
theorem assign (a : Option Addr) (n c : Nat) (l : List Int) (E C : Int) (w : World) (h : Flat w a n l) (hn : n ≤ 1000) (hf : ∀ x ∈ l, (Lit.int .i64 x).wf = true) :
    Calls Try.prog 39 #[.slice a n c, .int .i64 E, .int .i64 C] w fun e w' => Below w.heap.size w w' ∧ ∃ b, e = .returned (.slice (some ⟨b, 0, none⟩) n n) ∧ Flat w' (some ⟨b, 0, none⟩) n (Sl.slots l E C) := by
  obtain ⟨i0, hi0, hi1, hi2, hi3⟩ := info_parts Try.infoPair
  have hmm := @run_makeMap Try.prog
  have HF : Hid (∀ x ∈ l, (Lit.int .i64 x).wf = true) := hf
  have HL : Hid (l.length = n * 2) := h.len
  have HH : Hid (Flat w a n l) := h
  clear hf h
  go_enter Try.func39, Try.ntmps39
  go_wp2_with (at_make; refine wpList_make_full _ rfl _ _ 82 rfl (w.heap.size + 1) 85 i0 (.agg #[.int .i64 0, .int .i64 0]) 2 Try.underlying82 hi0 hi1 hi2 _ _ _ _ n rfl rfl (by rfl) (by rfl) ?b2 ?b3 ?b4 ?_)
  case b2 => rw [hi3]; omega
  case b3 => unfold maxLen; omega
  case b4 => simp
  intro u0 hown0 hg0
  have HP : Hid (Part w u0 n l E C 0) := Part.start hown0 hg0
  clear hown0 hg0 hmm
  go_wp2
  go_loopw [20] (fun i wr => ∃ j : Nat, j ≤ n ∧ i = .int .i64 j ∧ Part w wr n l E C (j * 2)) (fun i _ => n - (intOf i).toNat)
  case atStart => exact ⟨0, Nat.zero_le _, rfl, HP.out⟩
  case round =>
    clear HP
    obtain ⟨j, hj, rfl, hp⟩ := hrel
    obtain ⟨W0, hW0⟩ : ∃ W0, W0 = wr := ⟨_, rfl⟩
    subst hW0
    by_cases hlt : j < n
    · obtain ⟨b1, o1, rfl, _, c0, c1⟩ := (HH.out.keep hp.bel).at hlt
      have hli : (j : Int) < (n : Int) := by omega
      have hj0 : (0 : Int) ≤ (j : Int) := by omega
      obtain ⟨p, hP⟩ : ∃ p, l.getD (j * 2) 0 = p := ⟨_, rfl⟩
      obtain ⟨q, hQ⟩ : ∃ q, l.getD (j * 2 + 1) 0 = q := ⟨_, rfl⟩
      rw [hP] at c0
      rw [hQ] at c1
      have HPQ : Hid (l.getD (j * 2) 0 = p ∧ l.getD (j * 2 + 1) 0 = q) := ⟨hP, hQ⟩
      have HP : Hid (Part w (W0.alloc (.cells #[.int .i64 p, .int .i64 q] 85)) n l E C (j * 2)) := hp.alloc _
      clear hP hQ hp
      go_wp2
      go_loopw [26] (fun i wr => ∃ k : Nat, k ≤ 2 ∧ i = .int .i64 k ∧ Part w wr n l E C (j * 2 + k)) (fun i _ => 2 - (intOf i).toNat)
      case atStart => exact ⟨0, Nat.zero_le _, rfl, HP.out⟩
      case round =>
        clear HP c0 c1
        obtain ⟨k, hk, rfl, hp⟩ := hrel
        by_cases hk2 : k < 2
        · have hkc : (k : Int) < 2 := by omega
          have hk0 : (0 : Int) ≤ (k : Int) := by omega
          obtain ⟨x, hX⟩ : ∃ x, l.getD (j * 2 + k) 0 = x := ⟨_, rfl⟩
          have hix := index2 p q k hk2 x (fun e => by subst e; rw [← hX]; exact HPQ.out.1) (fun e => by subst e; rw [← hX]; exact HPQ.out.2)
          have HX : Hid (l.getD (j * 2 + k) 0 = x) := hX
          have hkey : keyOf Try.prog 3 (.int .i64 x) = some (.int .i64 x) := keyOf_int_mk Try.underlying3 (HF.out x (by rw [← hX]; exact Sl.num_mem (by have := HL.out; omega)))
          obtain ⟨z, hz⟩ := hp.cell (j := j * 2 + k) (by omega)
          have f0 := hp.free (j * 2 + k)
          obtain ⟨D, hown, hown2, hm, hD⟩ := hp.looked
          obtain ⟨y, hY⟩ : ∃ y, Sl.giv l E C (j * 2 + k) x = y := ⟨_, rfl⟩
          have hy9 : 0 ≤ y ∧ y ≤ 2000 := by have := Sl.giv_le l E C x (j * 2 + k); omega
          have HY : Hid (Sl.giv l E C (j * 2 + k) x = y) := hY
          have HD : Hid (∀ x : Int, D.atKey (.int .i64 x) (.lit (.int .i64 0)) = .lit (.int .i64 (Sl.giv l E C (j * 2 + k) x))) := hD
          have HP : Hid (Part w wr n l E C (j * 2 + k)) := hp
          clear hX hD hY hp
          by_cases hin : 0 ≤ x ∧ x < E ∧ y < C
          · obtain ⟨g0, g1, g2⟩ := hin
            go_wp2_with (first
              | (at_lookup; refine wpList_lookup_own_int _ rfl _ _ 99 rfl 3 3 .i64 keyInt Try.underlying99 Try.underlying3 (zeroInt _) w.heap.size (j * 2 + k) _ rfl hown _ _ rfl hkey ?_; intro c9 hat hwc; obtain rfl : c9 = y := (by have h7 := HD.out x; rw [hat, HY.out] at h7; injection h7 with h7; injection h7); clear hat hwc)
              | (at_mapUpdate; refine wpList_mapUpdate_own _ rfl _ _ _ 99 rfl 3 3 keyInt Try.underlying99 _ w.heap.size (j * 2 + k) _ rfl (hown2 _) (by unfold maxLen; omega) _ _ _ rfl rfl hkey _ [] (plainElem_int Try.underlying3 (WalkArith.wf_i64 (by omega))) ?_; intro w1 hown3 hgrow3)
              | go_in)
            go_roundw
            case rel => exact ⟨k + 1, by omega, by go_num, HP.out.yes HL.out (by omega) HX.out hkey HY.out.symm g0 g1 (by rw [HY.out]; exact g2) hm HD.out hown3 hgrow3⟩
            case measure => simp [intOf]; omega
          · have HN : Hid (¬ (0 ≤ x ∧ x < E ∧ Sl.giv l E C (j * 2 + k) x < C)) := by rw [HY.out]; exact hin
            rcases (by omega : x < 0 ∨ (0 ≤ x ∧ E ≤ x) ∨ (0 ≤ x ∧ x < E ∧ C ≤ y)) with g0 | ⟨g0, g1⟩ | ⟨g0, g1, g2⟩
            all_goals
              clear hin
              go_wp2_with (first
                | (at_lookup; refine wpList_lookup_own_int _ rfl _ _ 99 rfl 3 3 .i64 keyInt Try.underlying99 Try.underlying3 (zeroInt _) w.heap.size (j * 2 + k) _ rfl hown _ _ rfl hkey ?_; intro c9 hat hwc; obtain rfl : c9 = y := (by have h7 := HD.out x; rw [hat, HY.out] at h7; injection h7 with h7; injection h7); clear hat hwc)
                | go_in)
              go_roundw
              case rel => exact ⟨k + 1, by omega, by go_num, HP.out.no HL.out (by omega) HX.out HN.out⟩
              case measure => simp [intOf]; omega
        · have hkk : k = 2 := by omega
          subst hkk
          have hli2 : ¬ ((2 : Nat) : Int) < 2 := by omega
          go_wp2
          go_roundw
          case rel => exact ⟨j + 1, by omega, by go_num, by rw [Nat.add_mul, Nat.one_mul]; exact hp⟩
          case measure => simp [intOf]; omega
    · have hjn : j = n := by omega
      subst hjn
      have hli : ¬ (j : Int) < (j : Int) := by omega
      go_wp2
      go_ret
      exact ⟨hp.bel, _, rfl, hp.done HL.out⟩

end Go.Proofs.Ytokkhkhipgopbaa
