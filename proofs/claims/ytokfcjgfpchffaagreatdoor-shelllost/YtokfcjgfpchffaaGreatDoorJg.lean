/- 3 texts as one, in their order: BagA, BagB, BagC. -/
import Derived.Test.YtokfcjgfpchffaaGreatDoorKe
import Derived.Test.YtokfcjgfpchffaaGreatDoorJk
import Derived.Lib.AppendZeros
import Derived.Test.YtokfcjgfpchffaaGreatDoorKa

/- What slices.Grow and slices.Concat of texts do when called: new memory, the lists one behind the other. -/
namespace Go.Proofs.YtokfcjgfpchffaaGreatDoor
open Go.ChangeShapes Go.WideShapes Go.ChangeAt Go.RowKit

theorem Tryz.infoText : (Tryz.prog.info? 9).map (fun i => (i.zero, i.size, i.bytes)) = some (some (.string noText), 1, 16) := by kernel_rfl

/-- An element of a slice of slices. -/
theorem nest_at {α : Type} {A : Shape α} {w : World} {F : Nat → Prop} {a : Option Addr} {n c : Nat} {m : List (List α)} (h : (sliceS (sliceS A)).rep w F [.slice a n c] m) {j : Nat} (hj : j < n) :
    ∃ b off B C, a = some ⟨b, off, none⟩ ∧ b < w.heap.size ∧ w.cell? ⟨b, off + j, none⟩ = some (.slice B (m.getD j []).length C) ∧ (sliceS A).rep w F [.slice B (m.getD j []).length C] (m.getD j []) := by
  have hl := (sliceS_len h).1
  have hjl : j < m.length := by omega
  obtain ⟨b, off, cs, ha, _, hb, hc, hr⟩ := sliceS_at h (by exact Nat.one_pos) hjl
  have e : m.getD j [] = m[j] := by rw [List.getD_eq_getElem?_getD, List.getElem?_eq_getElem hjl]; rfl
  rw [e]
  obtain ⟨B, C, css, rfl, h1, h2, h3, h4⟩ := hr
  refine ⟨b, off, B, C, ha, hb, ?_, B, C, css, rfl, h1, h2, h3, h4⟩
  have := hc 0 _ rfl
  rwa [show off + (j * (sliceS A).size + 0) = off + j by show off + (j * 1 + 0) = off + j; omega] at this

/-- What 'append([]string(nil), make([]string, n)...)[:0]' makes. -/
theorem run_room (w : World) (n : Nat) (h0 : 0 < n) (hn : n ≤ 100000) :
    ∃ c u, (Builtin.append_ #[24, 3] 24 #[.slice none 0 0, .int .i64 n]).run Tryz.prog w = .ok (.slice (some ⟨w.heap.size, 0, none⟩) n c) u ∧ Below w.heap.size w u ∧ Own strS u w.heap.size 9 (.slice (some ⟨w.heap.size, 0, none⟩) 0 c) [] := by
  obtain ⟨i0, hi, hz0, hz1, hz2⟩ := info_parts Tryz.infoText
  refine ⟨_, _, Lib.run_append_nil_zeros w 24 3 24 9 i0 (.string noText) .i64 .i64 Tryz.underlying24 Tryz.underlying3 hi hz0 n h0 (by rw [hz1]; omega) (by omega) (by rw [hz2]; omega), ?_, ?_⟩
  · exact ((Below.refl _ w).drew).alloc (Nat.le_refl _) _
  · refine ⟨[], ⟨rfl, .inr ⟨w.heap.size, _, _, rfl, Nat.le_refl _, heap_alloc_new w.drew _, Nat.zero_le _, grownCap_le_maxLen w n 0 9 (by unfold maxLen; omega), ?_, rfl⟩⟩, Shape.all_nil⟩
    have := grownCap_ge w n 0 9
    simp [Builtin.zeroCells, Value.cells, strS]
    omega

set_option maxRecDepth 100000 in
theorem grow (n : Nat) (w : World) (hn : n ≤ 100000) :
    Calls Tryz.prog 138 #[.slice none 0 0, .int .i64 n] w fun e w' => Below w.heap.size w w' ∧ ∃ a c, e = .returned (.slice a 0 c) ∧ Own strS w' w.heap.size 9 (.slice a 0 c) [] := by
  by_cases h0 : n = 0
  · subst h0
    go_enter Tryz.func138, Tryz.ntmps138
    go_wp2
    go_ret
    exact ⟨Below.refl _ _, none, 0, rfl, Own.nil _ _ _ _⟩
  · obtain ⟨c, u, hrun, hb, hown⟩ := run_room w n (by omega) hn
    have hp : (0 : Int) < (n : Int) := by omega
    clear h0
    go_enter Tryz.func138, Tryz.ntmps138
    go_wp2_with (at_builtin; refine Lib.wpList_append_run _ rfl _ _ _ _ rfl _ _ rfl rfl _ _ hrun ?_)
    go_ret
    exact ⟨hb, _, _, rfl, hown⟩

/-- The first k lists, one behind the other. -/
def upto (ls : List (List ByteArray)) (k : Nat) : List ByteArray := (ls.take k).flatten
theorem upto_step (ls : List (List ByteArray)) (k : Nat) (h : k < ls.length) : upto ls (k + 1) = upto ls k ++ ls.getD k [] := by
  unfold upto
  rw [List.take_succ_eq_append_getElem h, List.flatten_append, List.getD_eq_getElem?_getD, List.getElem?_eq_getElem h]
  simp
theorem upto_le (ls : List (List ByteArray)) (k : Nat) : (upto ls k).length ≤ ls.flatten.length := by
  have h : ls.flatten.length = ((ls.take k) ++ (ls.drop k)).flatten.length := by rw [List.take_append_drop]
  unfold upto
  rw [h, List.flatten_append, List.length_append]
  omega
theorem bupto_all (ls : List (List ByteArray)) (k : Nat) (h : ls.length ≤ k) : upto ls k = ls.flatten := by unfold upto; rw [List.take_of_length_le h]

/-- Texts that the call owns lie in its own blocks. -/
theorem Own.texts_high {w : World} {base : Nat} {e : TypeId} {a : Option Addr} {n c : Nat} {xs : List ByteArray} (h : Own strS w base e (.slice a n c) xs) : bagS.rep w (base ≤ ·) [.slice a n c] xs := by
  obtain ⟨css, ⟨hl, h1⟩, h2⟩ := h
  have h3 : strS.all w (base ≤ ·) css xs := ⟨h2.1, fun j d x hd hx => h2.2 j d x hd hx⟩
  rcases h1 with ⟨he, h0⟩ | ⟨g, cap, cur, he, hb, hg, hnc, hcm, hcs, htake⟩
  · cases he
    have hx := List.eq_nil_of_length_eq_zero h0
    subst hx
    exact rep_none _ _ _
  · cases he
    refine ⟨some ⟨g, 0, none⟩, c, css, rfl, hnc, hcm, h3, .inr ⟨g, 0, rfl, hb, (Array.getElem?_eq_some_iff.1 hg).1, fun j u hu => ?_⟩⟩
    rw [cell_of_row w g (0 + j) cur e (0, 0) hg]
    have hj := (List.getElem?_eq_some_iff.1 hu).1
    rw [← htake, List.getElem?_take] at hu
    split at hu
    · simpa using hu
    · cases hu

set_option maxRecDepth 100000 in
theorem concatH (a : Option Addr) (n c : Nat) (ls : List (List ByteArray)) (t : List ByteArray) (q : Nat) (w : World) (h : (sliceS bagS).rep w everywhere [.slice a n c] ls) (hn : n ≤ 100) (ht : ls.flatten = t) (htl : t.length = q) (hs : q ≤ 50000) :
    Calls Tryz.prog 99 #[.slice a n c] w fun e w' => Below w.heap.size w w' ∧ ∃ a' c', e = .returned (.slice a' q c') ∧ bagS.rep w' (w.heap.size ≤ ·) [.slice a' q c'] t := by
  obtain ⟨i0, hi0, hi1, hi2, hi3⟩ := info_parts Tryz.infoText
  obtain ⟨hl, hc1, hc2⟩ := sliceS_len h
  have HL : Hid (ls.length = n) := hl
  have HU : Hid (∀ k, (upto ls k).length ≤ q) := fun k => by have := upto_le ls k; rw [ht, htl] at this; exact this
  have HA : Hid ((sliceS bagS).rep w everywhere [.slice a n c] ls) := h
  have HF : Hid (upto ls n = t) := by show _ = _; rw [bupto_all ls n (by omega), ht]
  have HQ : Hid (t.length = q) := htl
  clear hl h ht htl
  go_enter Tryz.func99, Tryz.ntmps99
  go_wp2
  go_loopw [3, 11] (fun z i wr => ∃ k : Nat, k ≤ n ∧ i = .int .i64 k ∧ z = .int .i64 ((upto ls k).length : Nat) ∧ wr = w) (fun _ i _ => n - (intOf i).toNat)
  case atStart => exact ⟨0, Nat.zero_le _, rfl, rfl, rfl⟩
  case round =>
    obtain ⟨k, hk, rfl, rfl, hww⟩ := hrel
    replace hww := hww.symm
    subst hww
    by_cases hlt : k < n
    · obtain ⟨b1, o1, B, C, rfl, hb1, hcell, hr⟩ := nest_at HA.out hlt
      have hli : (k : Int) < (n : Int) := by omega
      have HT : Hid ((upto ls (k + 1)).length = (upto ls k).length + (ls.getD k []).length) := by show _ = _; rw [upto_step ls k (by have := HL.out; omega), List.length_append]
      have hle : (upto ls k).length + (ls.getD k []).length ≤ 50000 := by have := HT.out; have := HU.out (k + 1); omega
      clear hr
      generalize (ls.getD k []).length = r at *
      generalize (upto ls k).length = z at *
      have hq : ¬ ((z : Int) + (r : Int) < 0) := by omega
      go_wp2
      go_roundw
      case rel => exact ⟨k + 1, by omega, by go_num, by rw [HT.out]; simp, by trivial⟩
      case measure => simp [intOf]; omega
    · have hkn : k = n := by omega
      subst hkn
      have hli : ¬ (k : Int) < (k : Int) := by omega
      rw [HF.out, HQ.out]
      go_wp2_with fail
      refine (grow q _ (by omega)).mono ?_
      rintro e u1 ⟨hb1, a1, c1, rfl, ho1⟩
      go_wp2
      go_loopw [6, 27] (fun v i wr => ∃ k2 z : Nat, ∃ a2 c2, k2 ≤ k ∧ i = .int .i64 k2 ∧ v = .slice a2 z c2 ∧ Own strS wr w.heap.size 9 (.slice a2 z c2) (upto ls k2) ∧ Below w.heap.size w wr) (fun _ i _ => k - (intOf i).toNat)
      case atStart => exact ⟨0, 0, _, _, Nat.zero_le _, rfl, rfl, ho1, hb1⟩
      case round =>
        clear ho1 hb1
        obtain ⟨k2, z, a2, c2, hk2, rfl, rfl, ho2, hb2⟩ := hrel
        by_cases hlt : k2 < k
        · obtain ⟨b1, o1, B, C, rfl, hb1, hcell, hr⟩ := nest_at (Shape.now (Shape.low HA.out) hb2) hlt
          have hli : (k2 : Int) < (k : Int) := by omega
          have HT : Hid (upto ls (k2 + 1) = upto ls k2 ++ ls.getD k2 []) := upto_step ls k2 (by have := HL.out; omega)
          have HQ2 : Hid ((upto ls k2).length = z) := (sliceS_len ho2.is).1
          have HE : Hid ((upto ls k2).length + (ls.getD k2 []).length ≤ 100000) := by show _ ≤ _; rw [← List.length_append, ← HT.out]; have := HU.out (k2 + 1); omega
          generalize upto ls k2 = xs at *
          generalize ls.getD k2 [] = ys at *
          generalize hm : ys.length = m at *
          go_wp2_with (at_builtin; refine wpList_app strS (by simp [Region.wanted]) (.tmp 31) (.tmp 32) 24 rfl w.heap.size 9 i0 (.string noText) 16 Tryz.underlying24 hi0 hi1 hi2 hi3 rfl Nat.one_pos (by omega) (by rfl) ho2 (by rfl) hr (Own.apart ho2 (Nat.le_refl _)) HE.out hb2.size ?_; intro a4 c4 u4 ho4 hg4 hb4 hat4; rw [HQ2.out] at ho4 ⊢)
          have hB4 := hb2.trans hb4
          go_roundw
          case rel => exact ⟨k2 + 1, _, a4, c4, by omega, by go_num, rfl, by rw [HT.out]; exact ho4, hB4⟩
          case measure => simp [intOf]; omega
        · have hkn : k2 = k := by omega
          subst hkn
          have hli : ¬ (k2 : Int) < (k2 : Int) := by omega
          rw [HF.out] at ho2
          have hq := (sliceS_len ho2.is).1
          rw [HQ.out] at hq
          subst hq
          go_wp2
          go_ret
          exact ⟨hb2, a2, c2, rfl, ho2.texts_high⟩
theorem concat (a : Option Addr) (n c : Nat) (ls : List (List ByteArray)) (t : List ByteArray) (q : Nat) (w : World) (h : (sliceS bagS).rep w everywhere [.slice a n c] ls) (hn : n ≤ 100) (ht : ls.flatten = t) (htl : t.length = q) (hs : q ≤ 50000) :
    Calls Tryz.prog 99 #[.slice a n c] w fun e w' => Below w.heap.size w w' ∧ ∃ a' c', e = .returned (.slice a' q c') ∧ bagS.rep w' everywhere [.slice a' q c'] t :=
  (concatH a n c ls t q w h hn ht htl hs).mono fun _ _ ⟨h1, a', c', h2, h3⟩ => ⟨h1, a', c', h2, Shape.any h3⟩

end Go.Proofs.YtokfcjgfpchffaaGreatDoor

/- What the functions of package bag do when called. -/
namespace Go.Proofs.YtokfcjgfpchffaaGreatDoor
open Go.ChangeShapes Go.WideShapes Go.ChangeAt Go.RowKit


/-- One list in a literal of lists. -/
theorem laid_one {w : World} {F : Nat → Prop} {v : Value} {l : List ByteArray} {e : TypeId} (h : bagS.rep w F [v] l) : (sliceS bagS).rep (w.alloc (.cells #[v] e)) everywhere [.slice (some ⟨w.heap.size, 0, none⟩) 1 1] [l] :=
  rep_lit [[v]] [l] e (Shape.all_one h) (by show 1 ≤ maxLen; decide)
/-- Two of them. -/
theorem laid_two {w : World} {F : Nat → Prop} {v v' : Value} {l l' : List ByteArray} {e : TypeId} (h : bagS.rep w F [v] l) (h' : bagS.rep w F [v'] l') : (sliceS bagS).rep (w.alloc (.cells #[v, v'] e)) everywhere [.slice (some ⟨w.heap.size, 0, none⟩) 2 2] [l, l'] :=
  rep_lit [[v], [v']] [l, l'] e (Shape.all_append (Shape.all_one h) (Shape.all_one h')) (by show 2 ≤ maxLen; decide)
/-- One text in a literal of texts. -/
theorem laid_text (w : World) (s : ByteArray) (e : TypeId) : bagS.rep (w.alloc (.cells #[.string s] e)) everywhere [.slice (some ⟨w.heap.size, 0, none⟩) 1 1] [s] :=
  rep_lit (A := strS) (F := everywhere) [[.string s]] [s] e (Shape.all_one rfl) (by show 1 ≤ maxLen; decide)

set_option maxRecDepth 100000 in
theorem has (a : Option Addr) (n c : Nat) (i : Int) (w : World) : Calls Tryz.prog 98 #[.slice a n c, .int .i64 i] w fun e w' => Says e (0 ≤ i ∧ i < (n : Int)) ∧ w' = w := by
  by_cases h0 : 0 ≤ i
  · by_cases h1 : i < (n : Int)
    · go_enter Tryz.func98, Tryz.ntmps98
      go_wp2
      go_ret
      exact ⟨Says.yes ⟨h0, h1⟩, rfl⟩
    · go_enter Tryz.func98, Tryz.ntmps98
      go_wp2
      go_ret
      exact ⟨Says.no fun h => by omega, rfl⟩
  · go_enter Tryz.func98, Tryz.ntmps98
    go_wp2
    go_ret
    exact ⟨Says.no fun h => by omega, rfl⟩

/-- What a copy of one list is. -/
theorem concat_one (a : Option Addr) (n c : Nat) (l : List ByteArray) (w : World) (F : Nat → Prop) (ha : bagS.rep w F [.slice a n c] l) (hn : n ≤ 50000) :
    Calls Tryz.prog 99 #[.slice (some ⟨w.heap.size, 0, none⟩) 1 1] (w.alloc (.cells #[.slice a n c] 24)) fun e w' => Below w.heap.size w w' ∧ ∃ a' c', e = .returned (.slice a' n c') ∧ bagS.rep w' (w.heap.size ≤ ·) [.slice a' n c'] l :=
  (concatH _ 1 1 [l] l n _ (laid_one ha) (by omega) (by simp) (sliceS_len ha).1 hn).mono fun _ _ ⟨hb, a', c', he, hr⟩ => ⟨bel_then (new_bel _ _) hb, a', c', he, bagS.mono hr fun b hb2 _ => Nat.le_trans (new_bel w _).size hb2⟩

set_option maxRecDepth 100000 in
theorem bput_fullH (a : Option Addr) (n c : Nat) (l : List ByteArray) (s : ByteArray) (w : World) (ha : bagS.rep w everywhere [.slice a n c] l) (hn : n ≤ 50000) (h : 200 ≤ n) :
    Calls Tryz.prog 100 #[.slice a n c, .string s] w fun e w' => Below w.heap.size w w' ∧ ∃ a' c', e = .returned (.slice a' n c') ∧ bagS.rep w' (w.heap.size ≤ ·) [.slice a' n c'] l := by
  have HA : Hid (bagS.rep w everywhere [.slice a n c] l) := ha
  clear ha
  have hi : (200 : Int) ≤ (n : Int) := by omega
  go_enter Tryz.func100, Tryz.ntmps100
  go_wp2_with fail
  refine (concat_one a n c l w _ HA.out hn).mono ?_
  rintro e u1 ⟨hb1, a1, c1, rfl, hr1⟩
  go_wp2
  go_ret
  exact ⟨hb1, a1, c1, rfl, hr1⟩

set_option maxRecDepth 100000 in
theorem bput_roomH (a : Option Addr) (n c : Nat) (l : List ByteArray) (s : ByteArray) (w : World) (ha : bagS.rep w everywhere [.slice a n c] l) (h : n < 200) :
    Calls Tryz.prog 100 #[.slice a n c, .string s] w fun e w' => Below w.heap.size w w' ∧ ∃ a' c', e = .returned (.slice a' (n + 1) c') ∧ bagS.rep w' (w.heap.size ≤ ·) [.slice a' (n + 1) c'] (l ++ [s]) := by
  have hl := (sliceS_len ha).1
  have HC : Hid (Calls Tryz.prog 99 #[.slice (some ⟨w.heap.size + 1, 0, none⟩) 2 2] ((w.alloc (.cells #[.string s] 9)).alloc (.cells #[.slice a n c, .slice (some ⟨w.heap.size, 0, none⟩) 1 1] 24)) fun e w' => Below w.heap.size w w' ∧ ∃ a' c', e = .returned (.slice a' (n + 1) c') ∧ bagS.rep w' (w.heap.size ≤ ·) [.slice a' (n + 1) c'] (l ++ [s])) := by
    have h2 := laid_two (e := 24) (Shape.any (Shape.below ha (new_bel w (.cells #[.string s] 9)))) (laid_text w s 9)
    rw [show (w.alloc (.cells #[.string s] 9)).heap.size = w.heap.size + 1 by simp] at h2
    exact (concatH _ 2 2 [l, [s]] (l ++ [s]) (n + 1) _ h2 (by omega) (by simp) (by simp [hl]) (by omega)).mono fun _ _ ⟨hb, a', c', he, hr⟩ => ⟨bel_then (bel_alloc (new_bel _ _) _) hb, a', c', he, bagS.mono hr fun b hb2 _ => Nat.le_trans (bel_alloc (new_bel w _) _).size hb2⟩
  have hi : ¬ (200 : Int) ≤ (n : Int) := by omega
  clear hl ha
  go_enter Tryz.func100, Tryz.ntmps100
  go_wp2_with fail
  refine HC.out.mono ?_
  rintro e u1 ⟨hb1, a1, c1, rfl, hr1⟩
  go_wp2
  go_ret
  exact ⟨hb1, a1, c1, rfl, hr1⟩

theorem bputH (a : Option Addr) (n c : Nat) (l : List ByteArray) (s : ByteArray) (w : World) (ha : bagS.rep w everywhere [.slice a n c] l) (hn : n ≤ 50000) :
    Calls Tryz.prog 100 #[.slice a n c, .string s] w fun e w' => Below w.heap.size w w' ∧ ∃ a' c', e = .returned (.slice a' (Bx.put l s).length c') ∧ bagS.rep w' (w.heap.size ≤ ·) [.slice a' (Bx.put l s).length c'] (Bx.put l s) := by
  have hl := (sliceS_len ha).1
  by_cases h : n < 200
  · have := bput_roomH a n c l s w ha h
    rw [Bx.put_room (by omega), show (l ++ [s]).length = n + 1 by simp [hl]]
    exact this
  · have := bput_fullH a n c l s w ha hn (by omega)
    rw [Bx.put_full (by omega), hl]
    exact this

set_option maxRecDepth 100000 in
theorem btake_outH (a : Option Addr) (n c : Nat) (l : List ByteArray) (i : Int) (w : World) (ha : bagS.rep w everywhere [.slice a n c] l) (hn : n ≤ 50000) (hi : ¬ (0 ≤ i ∧ i < (n : Int))) :
    Calls Tryz.prog 55 #[.slice a n c, .int .i64 i] w fun e w' => Below w.heap.size w w' ∧ ∃ a' c', e = .returned (.tuple #[.string noText, .slice a' n c', .bool false]) ∧ bagS.rep w' (w.heap.size ≤ ·) [.slice a' n c'] l := by
  have HA : Hid (bagS.rep w everywhere [.slice a n c] l) := ha
  clear ha
  have HI : Hid (¬ (0 ≤ i ∧ i < (n : Int))) := hi
  clear hi
  go_enter Tryz.func55, Tryz.ntmps55
  go_wp2_with (go_at_call 98; refine by_says (has _ _ _ _ _) (fun h => absurd h HI.out) (fun _ => ?_))
  refine (concat_one a n c l w _ HA.out hn).mono ?_
  rintro e u1 ⟨hb1, a1, c1, rfl, hr1⟩
  go_wp2
  go_ret3
  exact ⟨hb1, a1, c1, rfl, hr1⟩

set_option maxRecDepth 100000 in
theorem btake_inH (a : Option Addr) (n c : Nat) (l : List ByteArray) (k : Nat) (w : World) (ha : bagS.rep w everywhere [.slice a n c] l) (hn : n ≤ 50000) (hk : k < n) :
    Calls Tryz.prog 55 #[.slice a n c, .int .i64 k] w fun e w' => Below w.heap.size w w' ∧ ∃ a' c', e = .returned (.tuple #[.string (l.getD k noText), .slice a' (n - 1) c', .bool true]) ∧ bagS.rep w' (w.heap.size ≤ ·) [.slice a' (n - 1) c'] (Bx.without l k) := by
  obtain ⟨hl, hc1, hc2⟩ := sliceS_len ha
  obtain ⟨i0, hi, hz0, hz1, hz2⟩ := info_parts Tryz.infoText
  have hrE := rep_take ha (k := k) (by omega)
  have hE : ∀ w : World, (Instr.slice 24 (.slice a n c) none (some (.int .i64 (k : Int))) none).run Tryz.prog w = .ok (.slice a k c) w := fun w => by
    rw [run_slice_h w 24 a n c Tryz.underlying24 .i64 k (by omega) (by omega)]
    simp [sizeOf, typeInfo, go_sem, hi, hz1]
  obtain ⟨D, hD, hrD⟩ : ∃ D, (∀ w : World, (Instr.slice 24 (.slice a n c) (some (.int .i64 ((k : Int) + 1))) none none).run Tryz.prog w = .ok (.slice D (n - (k + 1)) (c - (k + 1))) w) ∧ bagS.rep w everywhere [.slice D (n - (k + 1)) (c - (k + 1))] (l.drop (k + 1)) := by
    refine ⟨_, fun w => ?_, rep_drop ha (k := k + 1) (by omega)⟩
    rw [run_slice_l w 24 a n c Tryz.underlying24 .i64 (k + 1) (by omega) (by omega)]
    simp [sizeOf, typeInfo, go_sem, hi, hz1, show ((k : Int) + 1).toNat = k + 1 by omega, strS]
  have HC : Hid (Calls Tryz.prog 99 #[.slice (some ⟨w.heap.size, 0, none⟩) 2 2] (w.alloc (.cells #[.slice a k c, .slice D (n - (k + 1)) (c - (k + 1))] 24)).drew fun e w' => Below w.heap.size w w' ∧ ∃ a' c', e = .returned (.slice a' (n - 1) c') ∧ bagS.rep w' (w.heap.size ≤ ·) [.slice a' (n - 1) c'] (Bx.without l k)) := by
    have h2 := laid_two (e := 24) hrE hrD
    have h3 := Shape.below h2 ((Below.refl _ _).drew)
    exact (concatH _ 2 2 [l.take k, l.drop (k + 1)] (Bx.without l k) (n - 1) _ h3 (by omega) (by simp [Bx.without]) (by rw [Bx.without_len (by omega), hl]) (by omega)).mono fun _ _ ⟨hb, a', c', he, hr⟩ => ⟨bel_then (new_bel _ _).drew hb, a', c', he, bagS.mono hr fun b hb2 _ => Nat.le_trans (new_bel w _).drew.size hb2⟩
  obtain ⟨b1, o1, rfl, hb1, hcell⟩ := (Texts.of_rep ha).at hk
  have HI : Hid (0 ≤ (k : Int) ∧ (k : Int) < (n : Int)) := ⟨by omega, by omega⟩
  have hw : IntKind.i64.wrap ((k : Int) + 1) = (k : Int) + 1 := by rw [IntKind.wrap_i64]; omega
  have hkn : (k : Int) < (n : Int) := by omega
  clear ha hrE hrD hl
  generalize l.getD k noText = x at *
  go_enter Tryz.func55, Tryz.ntmps55
  go_wp2_with (go_at_call 98; refine by_says (has _ _ _ _ _) (fun _ => ?_) (fun h => absurd HI.out h))
  go_region_with
    (go_at_call 99; refine HC.out.mono ?_; rintro e u1 ⟨hbu, a1, c1, rfl, hr1⟩; have hcell1 := (hbu.cell hb1).trans hcell)
  all_goals
    go_wp2
    go_ret3
    exact ⟨hbu, a1, c1, rfl, hr1⟩
theorem btake_out (a : Option Addr) (n c : Nat) (l : List ByteArray) (i : Int) (w : World) (ha : bagS.rep w everywhere [.slice a n c] l) (hn : n ≤ 50000) (hi : ¬ (0 ≤ i ∧ i < (n : Int))) :
    Calls Tryz.prog 55 #[.slice a n c, .int .i64 i] w fun e w' => Below w.heap.size w w' ∧ ∃ a' c', e = .returned (.tuple #[.string noText, .slice a' n c', .bool false]) ∧ bagS.rep w' everywhere [.slice a' n c'] l :=
  (btake_outH a n c l i w ha hn hi).mono fun _ _ ⟨h1, a', c', h2, h3⟩ => ⟨h1, a', c', h2, Shape.any h3⟩
end Go.Proofs.YtokfcjgfpchffaaGreatDoor

/- What bag.Twice, the document's answers for layer 8 and the fixed answer of its laws do when called. -/
namespace Go.Proofs.YtokfcjgfpchffaaGreatDoor
open Go.ChangeShapes Go.WideShapes Go.ChangeAt Go.RowKit

set_option maxRecDepth 100000 in
theorem btwice_inH (a : Option Addr) (n c : Nat) (l : List ByteArray) (k : Nat) (w : World) (ha : bagS.rep w everywhere [.slice a n c] l) (hn : n ≤ 50000) (hk : k < n) :
    Calls Tryz.prog 56 #[.slice a n c, .int .i64 k] w fun e w' => Below w.heap.size w w' ∧ ∃ a' c', e = .returned (.slice a' (Bx.put l (l.getD k noText)).length c') ∧ bagS.rep w' (w.heap.size ≤ ·) [.slice a' (Bx.put l (l.getD k noText)).length c'] (Bx.put l (l.getD k noText)) := by
  have HP : Hid (∀ x, Calls Tryz.prog 100 #[.slice a n c, .string x] w fun e w' => Below w.heap.size w w' ∧ ∃ a' c', e = .returned (.slice a' (Bx.put l x).length c') ∧ bagS.rep w' (w.heap.size ≤ ·) [.slice a' (Bx.put l x).length c'] (Bx.put l x)) := fun x => bputH a n c l x w ha hn
  obtain ⟨b1, o1, rfl, hb1, hcell⟩ := (Texts.of_rep ha).at hk
  have HI : Hid (0 ≤ (k : Int) ∧ (k : Int) < (n : Int)) := ⟨by omega, by omega⟩
  have hkn : (k : Int) < (n : Int) := by omega
  clear ha
  generalize l.getD k noText = x at *
  go_enter Tryz.func56, Tryz.ntmps56
  go_wp2_with (go_at_call 98; refine by_says (has _ _ _ _ _) (fun _ => ?_) (fun h => absurd HI.out h))
  refine Calls.mono (HP.out x) ?_
  rintro e u1 ⟨hb1, a1, c1, rfl, hr1⟩
  go_wp2
  go_ret
  exact ⟨hb1, a1, c1, rfl, hr1⟩

end Go.Proofs.YtokfcjgfpchffaaGreatDoor
