/- What slices.BinarySearch and slices.Insert of numbers do when called: the library's contracts at this program, over rows as lists. -/
import Derived.Test.YtpfhjdlmjehfnaaBase
import Derived.Test.YtpfhjdlmjehfnaaSlot
import Derived.Test.YtpfhjdlmjehfnaaClone
import Derived.Shelf.Slices.SearchI
import Derived.Shelf.Slices.Empties
import Derived.Shelf.Spec.SlicesInsertGrow
import Derived.Lib.EndianMore
namespace Go.Proofs.Ytpfhjdlmjehfnaa
open Go.ChangeShapes Go.WideShapes Go.ChangeAt Go.RowKit

def renSearch : Go.Shelf.Ren := ⟨fun | 25 => 41 | 31 => 55 | 32 => 56 | 37 => 64 | n => n, fun | 22 => 67 | 3 => 3 | 4 => 4 | 40 => 92 | 0 => 0 | n => n, fun | n => n⟩
theorem laysSearch : Go.Proofs.Lays2.n25 Try.prog renSearch :=
  { mixed := by kernel_rfl
    f25 := Try.func41.trans (congrArg some (by kernel_rfl))
    f31 := Try.func55.trans (congrArg some (by kernel_rfl))
    f32 := Try.func56.trans (congrArg some (by kernel_rfl))
    f37 := Try.func64.trans (congrArg some (by kernel_rfl))
    t0 := Try.underlying0
    a0 := Try.isAgg0
    z0 := Try.sizeOf0
    v0 := Try.zeroValue0
    t3 := Try.underlying3
    a3 := Try.isAgg3
    z3 := Try.sizeOf3
    v3 := Try.zeroValue3
    t4 := Try.underlying4
    a4 := Try.isAgg4
    z4 := Try.sizeOf4
    v4 := Try.zeroValue4
    t22 := Try.underlying67
    a22 := Try.isAgg67
    z22 := Try.sizeOf67
    v22 := Try.zeroValue67
    t40 := Try.underlying92
    a40 := Try.isAgg92
    z40 := Try.sizeOf92
    v40 := Try.zeroValue92 }
def renInsert : Go.Shelf.Ren := ⟨fun | 21 => 42 | 27 => 57 | 28 => 58 | 35 => 65 | 39 => 68 | n => n, fun | 22 => 67 | 3 => 3 | 4 => 4 | 0 => 0 | n => n, fun | n => n⟩
theorem laysInsert : Go.Proofs.Lays2.n21 Try.prog renInsert :=
  { mixed := by kernel_rfl
    f21 := Try.func42.trans (congrArg some (by kernel_rfl))
    f27 := Try.func57.trans (congrArg some (by kernel_rfl))
    f28 := Try.func58.trans (congrArg some (by kernel_rfl))
    f35 := Try.func65.trans (congrArg some (by kernel_rfl))
    f39 := Try.func68.trans (congrArg some (by kernel_rfl))
    t0 := Try.underlying0
    a0 := Try.isAgg0
    z0 := Try.sizeOf0
    v0 := Try.zeroValue0
    t3 := Try.underlying3
    a3 := Try.isAgg3
    z3 := Try.sizeOf3
    v3 := Try.zeroValue3
    t4 := Try.underlying4
    a4 := Try.isAgg4
    z4 := Try.sizeOf4
    v4 := Try.zeroValue4
    t22 := Try.underlying67
    a22 := Try.isAgg67
    z22 := Try.sizeOf67
    v22 := Try.zeroValue67
    i3 := Try.infoInt }

/-! ### BinarySearch -/
theorem search (a : Option Addr) (n c : Nat) (l : List Int) (x : Int) (w : World) (h : rowS.rep w everywhere [.slice a n c] l) (hn : n ≤ 1000) (hs : l.Pairwise (· < ·)) :
    Calls Try.prog 41 #[.slice a n c, .int .i64 x] w fun e w' => e = .returned (.tuple #[.int .i64 ((l.countP (· < x) : Nat) : Int), .bool (l.contains x)]) ∧ Below w.heap.size w w' := by
  obtain ⟨hl, h2⟩ := Row.of_rep h
  rcases h2 with h0 | ⟨b, off, rfl, hc⟩
  · subst h0
    have hnil := List.eq_nil_of_length_eq_zero hl
    subst hnil
    exact (Any.slices_BinarySearch_int_empty laysSearch a c x w).mono (by rintro e w' ⟨rfl, rfl⟩; exact ⟨rfl, Below.refl _ _⟩)
  · have ht : l.take n = l := List.take_of_length_le (by omega)
    refine (Any.slices_BinarySearch_int laysSearch b off n c l x w (by omega) (by omega) (fun j hj => hc j (by omega)) (by rw [ht]; exact hs.imp (fun h => Int.le_of_lt h))).mono ?_
    rintro e w' ⟨rfl, q, rfl⟩
    rw [ht]
    exact ⟨rfl, bel_drewN (Below.refl _ _) q⟩

/-! ### Insert -/
/-- The first i numbers, x, the others. -/
def insAt (l : List Int) (i : Nat) (x : Int) : List Int := l.take i ++ x :: l.drop i
theorem insAt_len (l : List Int) (i : Nat) (x : Int) (h : i ≤ l.length) : (insAt l i x).length = l.length + 1 := by
  unfold insAt
  simp only [List.length_append, List.length_cons, List.length_take, List.length_drop]
  omega
theorem insAt_get (l : List Int) (i : Nat) (x : Int) (h : i ≤ l.length) (j : Nat) : (insAt l i x).getD j 0 = if j < i then l.getD j 0 else if j = i then x else l.getD (j - 1) 0 := by
  unfold insAt
  simp only [List.getD_eq_getElem?_getD, List.getElem?_append, List.length_take, Nat.min_eq_left h]
  by_cases h1 : j < i
  · rw [if_pos h1, if_pos h1, List.getElem?_take, if_pos h1]
  · rw [if_neg h1, if_neg h1]
    by_cases h2 : j = i
    · subst h2
      rw [if_pos rfl, Nat.sub_self]
      rfl
    · rw [if_neg h2, show j - i = (j - i - 1) + 1 by omega, List.getElem?_cons_succ, List.getElem?_drop, show i + (j - i - 1) = j - 1 by omega]
theorem getD_some {l : List Int} {j : Nat} {k : IntKind} (h : j < l.length) : (l.map (Value.int k))[j]? = some (.int k (l.getD j 0)) := by
  rw [List.getElem?_map, List.getD_eq_getElem?_getD, List.getElem?_eq_getElem h]; rfl

theorem setCells_block {g k : Nat} (hk : k ≠ g) : ∀ {vs : List Value} {o : Nat} {w : World}, (w.setCells g o vs).heap[k]? = w.heap[k]?
  | [], _, _ => rfl
  | v :: r, o, w => (setCells_block hk (vs := r) (o := o + 1) (w := w.setCell ⟨g, o, none⟩ v)).trans (Below.heap_setCell w ⟨g, o, none⟩ v k hk)
theorem insert0 (a : Option Addr) (n c : Nat) (l : List Int) (x : Int) (i vb base : Nat) (w : World) (h : Own (intS .i64) w base 3 (.slice a n c) l) (hv : Box w vb 3 #[.int .i64 x]) (hne : some vb ≠ Value.ownBlock (.slice a n c)) (hi : i ≤ n) (hn : n ≤ 1000) (hbase : base ≤ w.heap.size) :
    Calls Try.prog 42 #[.slice a n c, .int .i64 i, .slice (some ⟨vb, 0, none⟩) 1 1] w fun e w' => Below base w w' ∧ (∀ k, k < w.heap.size → some k ≠ Value.ownBlock (.slice a n c) → w'.heap[k]? = w.heap[k]?) ∧ ∃ a' c', e = .returned (.slice a' (n + 1) c') ∧ rowS.rep w' (base ≤ ·) [.slice a' (n + 1) c'] (insAt l i x) := by
  have hl := (sliceS_len h.is).1
  have hcap := (sliceS_len h.is).2
  have hrow := (Row.of_rep h.is).2
  obtain ⟨css, hown, hall⟩ := h
  have hcs : css = l.map fun y => [.int .i64 y] := by
    apply List.ext_getElem?
    intro j
    rw [List.getElem?_map]
    by_cases hj : j < l.length
    · have h1 : css[j]? = some (css[j]'(by rw [hall.1]; exact hj)) := List.getElem?_eq_getElem _
      have h2 := hall.2 j _ _ h1 (List.getElem?_eq_getElem hj)
      rw [h1, List.getElem?_eq_getElem hj]
      exact congrArg some h2
    · rw [List.getElem?_eq_none (by rw [hall.1]; omega), List.getElem?_eq_none (by omega)]; rfl
  subst hcs
  rw [ints_flat] at hown
  have hvs : ∀ (j : Nat) v, ([.int .i64 x] : List Value)[j]? = some v → w.cell? ⟨vb, 0 + j, none⟩ = some v := fun j v hj => by
    rw [Nat.zero_add]
    exact hv.cell j (by simpa using hj)
  have h1v : ∀ v ∈ ([.int .i64 x] : List Value), v.oneCell' = true := fun v hv => by simp at hv; subst hv; rfl
  have h1c : ∀ v ∈ l.map (Value.int .i64), v.oneCell' = true := fun v hv => by obtain ⟨y, _, rfl⟩ := List.mem_map.1 hv; rfl
  have hcl : (l.map (Value.int .i64)).length = n := by simpa using hl
  have hvw := hv.lt
  by_cases hroom : n + 1 ≤ c
  · rcases hown.2 with ⟨he, h0⟩ | ⟨g, cap, cur, he, hbg, hg, hnc, hcm, hcsz, htake⟩
    · cases he; omega
    injection he with e1 e2 e3
    subst e1
    subst e3
    have hgB : Box w g 3 cur := hg
    replace hcsz : cur.size = c := by simpa [intS] using hcsz
    have hcell : ∀ j, j < cur.size → w.cell? ⟨g, j, none⟩ = some (cur[j]!) := fun j hj => by
      rw [cell_of_row w g j cur 3 (0, 0) hg]
      simp [hj]
    have hold : ∀ j, j < n → w.cell? ⟨g, j, none⟩ = some (.int .i64 (l.getD j 0)) := fun j hj => by
      rcases hrow with h0 | ⟨b, off, hb, hc⟩
      · omega
      · have e := Option.some.inj hb
        injection e with e1 e2 e3
        subst e1; subst e2
        have := hc j hj
        rwa [Nat.zero_add] at this
    have hcs' : ∀ j v, (l.map (Value.int .i64))[j]? = some v → w.cell? ⟨g, 0 + j, none⟩ = some v := fun j v hj => by
      have hjl : j < l.length := by have := (List.getElem?_eq_some_iff.1 hj).1; simpa using this
      rw [getD_some hjl] at hj
      cases hj
      rw [Nat.zero_add]
      exact hold j (by omega)
    have hgv : vb ≠ g := fun e => hne (by rw [e]; rfl)
    by_cases hlast : i = n
    · subst hlast
      refine (Any2.slices_Insert_int_end_room laysInsert g 0 i c vb 0 1 1 [.int .i64 x] w (by omega) hroom hcm rfl (fun j hj => by rw [hcell _ (by omega)]; rfl) (fun j hj => hgB.free _) hvs h1v).mono ?_
      rintro e w' ⟨rfl, rfl⟩
      refine ⟨Lib.below_setCells_w hbg _ _ _, fun k _ hk => setCells_block (fun e => hk (by rw [e]; rfl)), _, _, rfl, Row.rep ⟨by rw [insAt_len _ _ _ (by omega), hl], .inr ⟨g, 0, rfl, fun j hj => ?_⟩⟩ hroom hcm (fun b off hb => by cases hb; exact hbg)⟩
      rw [insAt_get l i x (by omega) j]
      by_cases hji : j < i
      · rw [if_pos hji, World.cell?_setCells_out _ _ _ _ _ (fun _ _ => by show 0 + j < 0 + i ∨ _; omega), Nat.zero_add]
        exact hold j hji
      · have : j = i := by omega
        subst this
        rw [if_neg hji, if_pos rfl]
        have := World.cell?_setCells_in g [.int .i64 x] (0 + j) w (fun t ht => by rw [hcell _ (by simp at ht; omega)]; rfl) 0 (by simp)
        exact this
    · have hlt : i < n := by omega
      refine (Any2.slices_Insert_int_shift laysInsert g 0 n c i vb 0 1 1 (l.map (Value.int .i64)) [.int .i64 x] w hlt (by omega) hroom hcm hgv hcl rfl hcs' (fun j hj => by rw [hcell _ (by omega)]; rfl) (fun j hj => hgB.free _) hvs h1c h1v
        3 3 1 cur.size (by unfold World.shape?; rw [hv]; rfl) (by unfold World.shape?; rw [hg]) (by omega) (hv.free _) (hv.free _)).mono ?_
      rintro e w' ⟨rfl, rfl⟩
      have hdl : ((l.map (Value.int .i64)).drop i).length = n - i := by rw [List.length_drop, hcl]
      have hd : ∀ j, j < cur.size → (w.drew.cell? ⟨g, j, none⟩).isSome = true := fun j hj => by show (w.cell? _).isSome = true; rw [hcell _ hj]; rfl
      refine ⟨(Below.drew (Below.refl base w)).trans ((Lib.below_setCells_w hbg _ _ _).trans (Lib.below_setCells_w hbg _ _ _)), fun k _ hk => (setCells_block (fun e => hk (by rw [e]; rfl))).trans (setCells_block (w := w.drew) (fun e => hk (by rw [e]; rfl))), _, _, rfl, Row.rep ⟨by rw [insAt_len _ _ _ (by omega), hl], .inr ⟨g, 0, rfl, fun j hj => ?_⟩⟩ hroom hcm (fun b off hb => by cases hb; exact hbg)⟩
      rw [insAt_get l i x (by omega) j]
      by_cases hji : j = i
      · subst hji
        rw [if_neg (by omega), if_pos rfl]
        exact World.cell?_setCells_in g [.int .i64 x] (0 + j) _ (fun t ht => isSome_setCells _ _ _ _ (fun t' ht' => hd _ (by omega)) _ (hd _ (by simp at ht; omega))) 0 (by simp)
      · rw [World.cell?_setCells_out g [.int .i64 x] _ _ _ (fun _ _ => by show 0 + j < 0 + i ∨ 0 + i + 1 ≤ 0 + j; omega)]
        by_cases hlt2 : j < i
        · rw [if_pos hlt2, World.cell?_setCells_out _ _ _ _ _ (fun _ _ => by show 0 + j < 0 + (i + 1) ∨ _; omega), Nat.zero_add]
          exact hold j (by omega)
        · rw [if_neg hlt2, if_neg hji]
          have := World.cell?_setCells_in g ((l.map (Value.int .i64)).drop i) (0 + (i + 1)) w.drew (fun t' ht' => hd _ (by omega)) (j - (i + 1)) (by omega)
          rw [show 0 + (i + 1) + (j - (i + 1)) = 0 + j by omega] at this
          rw [this, ← List.getElem?_eq_getElem, List.getElem?_drop, show i + (j - (i + 1)) = j - 1 by omega, getD_some (by omega)]
  · have hnil : a = none → n = 0 := fun ha => by
      rcases hrow with h0 | ⟨b, off, hb, hc⟩
      · exact h0
      · rw [ha] at hb; cases hb
    have hcs' : ∀ b off, a = some ⟨b, off, none⟩ → ∀ j v, (l.map (Value.int .i64))[j]? = some v → w.cell? ⟨b, off + j, none⟩ = some v := fun b off ha j v hj => by
      have hjl : j < l.length := by have := (List.getElem?_eq_some_iff.1 hj).1; simpa using this
      rw [getD_some hjl] at hj
      cases hj
      rcases hrow with h0 | ⟨b', off', hb, hc⟩
      · omega
      · rw [ha] at hb
        have e := Option.some.inj hb
        injection e with e1 e2 e3
        subst e1; subst e2
        exact hc j (by omega)
    have hgc := grownCap_ge w (n + 1) c 3
    have hgm := grownCap_le_maxLen w (n + 1) c 3 (by unfold maxLen; omega)
    by_cases hlast : i = n
    · subst hlast
      refine (Any2.slices_Insert_int_end_grow laysInsert a i c vb 0 1 1 (l.map (Value.int .i64)) [.int .i64 x] w (by omega) (by omega) (by omega) (by omega) hcl rfl hnil (fun ad had j v hj => ?_) hvs h1v).mono ?_
      · have h0 : i ≠ 0 := fun e => by have := (List.getElem?_eq_some_iff.1 hj).1; simp at this; omega
        rcases hrow with h0' | ⟨b, off, hb, hc⟩
        · omega
        · rw [had] at hb
          have e := Option.some.inj hb
          subst e
          rw [Addr.add_lit]
          exact hcs' b off had j v hj
      rintro e w' ⟨he, hw'⟩
      replace he : e = .returned (.slice (some ⟨w.heap.size, 0, none⟩) (i + 1) (grownCap w (i + 1) c 3)) := he
      replace hw' : w' = w.drew.alloc (.cells ((l.map (Value.int .i64) ++ [Value.int .i64 x]).toArray ++ Builtin.zeroCells (Value.int .i64 0).cells (grownCap w (i + 1) c 3 - (i + 1))) 3) := hw'
      subst he
      subst hw'
      refine ⟨(Below.drew (Below.refl base w)).alloc hbase _, fun k hk _ => (new_bel w.drew _).block k hk, _, _, rfl, Row.rep ⟨by rw [insAt_len _ _ _ (by omega), hl], .inr ⟨w.heap.size, 0, rfl, fun j hj => ?_⟩⟩ hgc hgm (fun b off hb => by cases hb; exact hbase)⟩
      refine (cell_of_row _ w.heap.size (0 + j) _ 3 (0, 0) (heap_alloc_new w.drew _)).trans ?_
      rw [insAt_get l i x (by omega) j, Array.getElem?_append_left (by simp; omega)]
      by_cases hji : j < i
      · rw [if_pos hji, List.getElem?_toArray, List.getElem?_append_left (by simp; omega), Nat.zero_add, getD_some (by omega)]
      · have : j = i := by omega
        subst this
        rw [if_neg hji, if_pos rfl, List.getElem?_toArray, List.getElem?_append_right (by simp; omega), List.length_map, hl, show 0 + j - j = 0 by omega]
        rfl
    · have hlt : i < n := by omega
      rcases hrow with h0 | ⟨b, off, rfl, hc⟩
      · omega
      have hbw : b < w.heap.size := World.block_lt_of_cell? w _ (hc 0 (by omega))
      refine (Any2.slices_Insert_int_grow laysInsert b off n c i vb 0 1 1 (l.map (Value.int .i64)) [.int .i64 x] w hlt (by omega) (by omega) (by omega) (by omega) hcl rfl (hcs' b off rfl) hvs h1c h1v).mono ?_
      rintro e w' ⟨he, hw'⟩
      have hdl : ((l.map (Value.int .i64)).drop i).length = n - i := by rw [List.length_drop, hcl]
      obtain ⟨ROW, hROW⟩ : ∃ ROW, ROW = ((l.map (Value.int .i64)).take i).toArray ++ Builtin.zeroCells (Value.int .i64 0).cells (n + 1 - i) ++ Builtin.zeroCells (Value.int .i64 0).cells (grownCap w (n + 1) c 3 - (n + 1)) := ⟨_, rfl⟩
      have hRs : n + 1 ≤ ROW.size := by rw [hROW]; simp [Builtin.zeroCells, Value.cells]; omega
      have hRt : ∀ j, j < i → ROW[j]? = some (.int .i64 (l.getD j 0)) := fun j hj => by
        rw [hROW, Array.getElem?_append_left (by simp [Builtin.zeroCells, Value.cells]; omega), Array.getElem?_append_left (by simp; omega), List.getElem?_toArray, List.getElem?_take, if_pos hj, getD_some (by omega)]
      replace he : e = .returned (.slice (some ⟨w.heap.size, 0, none⟩) (n + 1) (grownCap w (n + 1) c 3)) := he
      replace hw' : w' = (((w.alloc (.cells ROW 3)).drew.setCells w.heap.size i [.int .i64 x]).drew).setCells w.heap.size (i + 1) ((l.map (Value.int .i64)).drop i) := by rw [hROW]; exact hw'
      subst he
      subst hw'
      have hW : Below base w (w.alloc (.cells ROW 3)).drew := ((Below.refl base w).alloc hbase _).drew
      have hd : ∀ j, j < ROW.size → ((w.alloc (.cells ROW 3)).drew.cell? ⟨w.heap.size, j, none⟩) = ROW[j]? := fun j hj => cell_of_row _ w.heap.size j ROW 3 (0, 0) (heap_alloc_new w _)
      have hds : ∀ j, j < ROW.size → ((w.alloc (.cells ROW 3)).drew.cell? ⟨w.heap.size, j, none⟩).isSome = true := fun j hj => by rw [hd j hj, Array.getElem?_eq_getElem hj]; rfl
      refine ⟨hW.trans ((Lib.below_setCells_w hbase _ _ _).trans ((Below.drew (Below.refl base _)).trans (Lib.below_setCells_w hbase _ _ _))), fun k hk _ => (setCells_block (by omega)).trans ((setCells_block (w := (w.alloc (.cells ROW 3)).drew) (by omega)).trans ((new_bel w _).block k hk)), _, _, rfl, Row.rep ⟨by rw [insAt_len _ _ _ (by omega), hl], .inr ⟨w.heap.size, 0, rfl, fun j hj => ?_⟩⟩ hgc hgm (fun b off hb => by cases hb; exact hbase)⟩
      rw [insAt_get l i x (by omega) j, Nat.zero_add]
      by_cases hji : j = i
      · subst hji
        rw [if_neg (by omega), if_pos rfl, World.cell?_setCells_out _ _ _ _ _ (fun _ _ => by show j < j + 1 ∨ _; omega)]
        exact World.cell?_setCells_in w.heap.size [.int .i64 x] j _ (fun t ht => hds _ (by simp at ht; omega)) 0 (by simp)
      · by_cases hlt2 : j < i
        · rw [if_pos hlt2, World.cell?_setCells_out _ _ _ _ _ (fun _ _ => by show j < i + 1 ∨ _; omega)]
          refine (World.cell?_setCells_out w.heap.size [.int .i64 x] i (w.alloc (.cells ROW 3)).drew ⟨w.heap.size, j, none⟩ (fun _ _ => by show j < i ∨ _; omega)).trans ?_
          rw [hd j (by omega)]
          exact hRt j hlt2
        · rw [if_neg hlt2, if_neg hji]
          have := World.cell?_setCells_in w.heap.size ((l.map (Value.int .i64)).drop i) (i + 1) ((w.alloc (.cells ROW 3)).drew.setCells w.heap.size i [.int .i64 x]).drew (fun t' ht' => isSome_setCells _ _ _ _ (fun t ht => hds _ (by simp at ht; omega)) _ (hds _ (by omega))) (j - (i + 1)) (by omega)
          rw [show (i + 1) + (j - (i + 1)) = j by omega] at this
          rw [this, ← List.getElem?_eq_getElem, List.getElem?_drop, show i + (j - (i + 1)) = j - 1 by omega, getD_some (by omega)]

theorem insert (a : Option Addr) (n c : Nat) (l : List Int) (x : Int) (i vb base : Nat) (w : World) (h : Own (intS .i64) w base 3 (.slice a n c) l) (hv : Box w vb 3 #[.int .i64 x]) (hne : some vb ≠ Value.ownBlock (.slice a n c)) (hi : i ≤ n) (hn : n ≤ 1000) (hbase : base ≤ w.heap.size) :
    Calls Try.prog 42 #[.slice a n c, .int .i64 i, .slice (some ⟨vb, 0, none⟩) 1 1] w fun e w' => Below base w w' ∧ ∃ a' c', e = .returned (.slice a' (n + 1) c') ∧ rowS.rep w' (base ≤ ·) [.slice a' (n + 1) c'] (insAt l i x) :=
  (insert0 a n c l x i vb base w h hv hne hi hn hbase).mono fun _ _ ⟨h1, _, h2⟩ => ⟨h1, h2⟩

end Go.Proofs.Ytpfhjdlmjehfnaa
