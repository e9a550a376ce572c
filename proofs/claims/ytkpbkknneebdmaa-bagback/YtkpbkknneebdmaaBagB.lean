/- What the functions of package bag do when called. -/
import Derived.Test.YtkpbkknneebdmaaBagA
namespace Go.Proofs.Ytkpbkknneebdmaa
open Go.ChangeShapes Go.WideShapes Go.ChangeAt Go.RowKit

section
variable {α : Type} {A : Shape α} {w : World} {F : Nat → Prop} {a : Option Addr} {n c : Nat} {xs : List α}
theorem all_take {css : List (List Value)} (h : A.all w F css xs) (k : Nat) : A.all w F (css.take k) (xs.take k) := by
  refine ⟨by rw [List.length_take, List.length_take, h.1], fun j d x h1 h2 => ?_⟩
  rw [List.getElem?_take] at h1 h2
  split at h1
  · rename_i hj; rw [if_pos hj] at h2; exact h.2 j d x h1 h2
  · cases h1
theorem all_drop {css : List (List Value)} (h : A.all w F css xs) (k : Nat) : A.all w F (css.drop k) (xs.drop k) := by
  refine ⟨by rw [List.length_drop, List.length_drop, h.1], fun j d x h1 h2 => ?_⟩
  rw [List.getElem?_drop] at h1 h2
  exact h.2 _ d x h1 h2
/-- 's[:k]' -/
theorem rep_take (h : (sliceS A).rep w F [.slice a n c] xs) {k : Nat} (hk : k ≤ n) : (sliceS A).rep w F [.slice a k c] (xs.take k) := by
  obtain ⟨hl, hc1, hc2⟩ := sliceS_len h
  obtain ⟨a', c', css, he, h1, h2, h3, h4⟩ := h
  simp at he
  obtain ⟨rfl, _, rfl⟩ := he
  have hlk : (xs.take k).length = k := by rw [List.length_take]; omega
  refine ⟨a, c, css.take k, by rw [hlk], by omega, h2, all_take h3 k, ?_⟩
  rcases h4 with h0 | ⟨b, off, rfl, hF, hb, hc⟩
  · refine .inl ?_
    have e : css.flatten = (css.take k).flatten ++ (css.drop k).flatten := by rw [← List.flatten_append, List.take_append_drop]
    rw [e] at h0
    exact (List.append_eq_nil_iff.1 h0).1
  · refine .inr ⟨b, off, rfl, hF, hb, fun j v hv => hc j v ?_⟩
    have e : css.flatten = (css.take k).flatten ++ (css.drop k).flatten := by rw [← List.flatten_append, List.take_append_drop]
    rw [e, List.getElem?_append_left (List.getElem?_eq_some_iff.1 hv).1]
    exact hv
/-- 's[k:]' -/
theorem rep_drop (h : (sliceS A).rep w F [.slice a n c] xs) {k : Nat} (hk : k ≤ n) : (sliceS A).rep w F [.slice (if c = k then a else a.map (·.add (k * A.size))) (n - k) (c - k)] (xs.drop k) := by
  obtain ⟨hl, hc1, hc2⟩ := sliceS_len h
  obtain ⟨a', c', css, he, h1, h2, h3, h4⟩ := h
  simp at he
  obtain ⟨rfl, _, rfl⟩ := he
  have hlk : (xs.drop k).length = n - k := by rw [List.length_drop]; omega
  have hcl := flat_len (fun d hd => Shape.all_len (all_take h3 k) d hd)
  have hck : (css.take k).length = k := by rw [List.length_take, h3.1]; omega
  rw [hck] at hcl
  refine ⟨_, c - k, css.drop k, by rw [hlk], by omega, by omega, all_drop h3 k, ?_⟩
  have e : css.flatten = (css.take k).flatten ++ (css.drop k).flatten := by rw [← List.flatten_append, List.take_append_drop]
  by_cases hn : k = n
  · refine .inl ?_
    rw [List.drop_of_length_le (by rw [h3.1]; omega)]
    rfl
  rcases h4 with h0 | ⟨b, off, rfl, hF, hb, hc⟩
  · refine .inl ?_
    rw [e] at h0
    exact (List.append_eq_nil_iff.1 h0).2
  · refine .inr ⟨b, off + k * A.size, ?_, hF, hb, fun j v hv => ?_⟩
    · rw [if_neg (by omega)]
      simp [Addr.add_lit]
    · rw [Nat.add_assoc]
      refine hc (k * A.size + j) v ?_
      rw [e, List.getElem?_append_right (by omega), hcl, Nat.add_sub_cancel_left]
      exact hv
end

/-- One list in a literal of lists. -/
theorem laid_one {w : World} {F : Nat → Prop} {v : Value} {l : List ByteArray} {e : TypeId} (h : bagS.rep w F [v] l) : (sliceS bagS).rep (w.alloc (.cells #[v] e)) everywhere [.slice (some ⟨w.heap.size, 0, none⟩) 1 1] [l] :=
  rep_lit [[v]] [l] e (Shape.all_one h) (by show 1 ≤ maxLen; decide)
/-- Two of them. -/
theorem laid_two {w : World} {F : Nat → Prop} {v v' : Value} {l l' : List ByteArray} {e : TypeId} (h : bagS.rep w F [v] l) (h' : bagS.rep w F [v'] l') : (sliceS bagS).rep (w.alloc (.cells #[v, v'] e)) everywhere [.slice (some ⟨w.heap.size, 0, none⟩) 2 2] [l, l'] :=
  rep_lit [[v], [v']] [l, l'] e (Shape.all_append (Shape.all_one h) (Shape.all_one h')) (by show 2 ≤ maxLen; decide)
/-- One text in a literal of texts. -/
theorem laid_text (w : World) (s : ByteArray) (e : TypeId) : bagS.rep (w.alloc (.cells #[.string s] e)) everywhere [.slice (some ⟨w.heap.size, 0, none⟩) 1 1] [s] :=
  rep_lit (A := strS) (F := everywhere) [[.string s]] [s] e (Shape.all_one rfl) (by show 1 ≤ maxLen; decide)

theorem has (a : Option Addr) (n c : Nat) (i : Int) (w : World) : Calls Try.prog 15 #[.slice a n c, .int .i64 i] w fun e w' => Says e (0 ≤ i ∧ i < (n : Int)) ∧ w' = w := by
  by_cases h0 : 0 ≤ i
  · by_cases h1 : i < (n : Int)
    · go_enter Try.func15, Try.ntmps15
      go_wp2
      go_ret
      exact ⟨Says.yes ⟨h0, h1⟩, rfl⟩
    · go_enter Try.func15, Try.ntmps15
      go_wp2
      go_ret
      exact ⟨Says.no fun h => by omega, rfl⟩
  · go_enter Try.func15, Try.ntmps15
    go_wp2
    go_ret
    exact ⟨Says.no fun h => by omega, rfl⟩

/-- What a copy of one list is. -/
theorem concat_one (a : Option Addr) (n c : Nat) (l : List ByteArray) (w : World) (F : Nat → Prop) (ha : bagS.rep w F [.slice a n c] l) (hn : n ≤ 50000) :
    Calls Try.prog 16 #[.slice (some ⟨w.heap.size, 0, none⟩) 1 1] (w.alloc (.cells #[.slice a n c] 22)) fun e w' => Below w.heap.size w w' ∧ ∃ a' c', e = .returned (.slice a' n c') ∧ bagS.rep w' everywhere [.slice a' n c'] l :=
  (concat _ 1 1 [l] l n _ (laid_one ha) (by omega) (by simp) (sliceS_len ha).1 hn).mono fun _ _ ⟨hb, h⟩ => ⟨bel_then (new_bel _ _) hb, h⟩

theorem bput_full (a : Option Addr) (n c : Nat) (l : List ByteArray) (s : ByteArray) (w : World) (ha : bagS.rep w everywhere [.slice a n c] l) (hn : n ≤ 50000) (h : 200 ≤ n) :
    Calls Try.prog 14 #[.slice a n c, .string s] w fun e w' => Below w.heap.size w w' ∧ ∃ a' c', e = .returned (.slice a' n c') ∧ bagS.rep w' everywhere [.slice a' n c'] l := by
  have HA : Hid (bagS.rep w everywhere [.slice a n c] l) := ha
  clear ha
  have hi : (200 : Int) ≤ (n : Int) := by omega
  go_enter Try.func14, Try.ntmps14
  go_wp2_with fail
  refine (concat_one a n c l w _ HA.out hn).mono ?_
  rintro e u1 ⟨hb1, a1, c1, rfl, hr1⟩
  go_wp2
  go_ret
  exact ⟨hb1, a1, c1, rfl, hr1⟩

theorem bput_room (a : Option Addr) (n c : Nat) (l : List ByteArray) (s : ByteArray) (w : World) (ha : bagS.rep w everywhere [.slice a n c] l) (h : n < 200) :
    Calls Try.prog 14 #[.slice a n c, .string s] w fun e w' => Below w.heap.size w w' ∧ ∃ a' c', e = .returned (.slice a' (n + 1) c') ∧ bagS.rep w' everywhere [.slice a' (n + 1) c'] (l ++ [s]) := by
  have hl := (sliceS_len ha).1
  have HC : Hid (Calls Try.prog 16 #[.slice (some ⟨w.heap.size + 1, 0, none⟩) 2 2] ((w.alloc (.cells #[.string s] 9)).alloc (.cells #[.slice a n c, .slice (some ⟨w.heap.size, 0, none⟩) 1 1] 22)) fun e w' => Below w.heap.size w w' ∧ ∃ a' c', e = .returned (.slice a' (n + 1) c') ∧ bagS.rep w' everywhere [.slice a' (n + 1) c'] (l ++ [s])) := by
    have h2 := laid_two (e := 22) (Shape.any (Shape.below ha (new_bel w (.cells #[.string s] 9)))) (laid_text w s 9)
    rw [show (w.alloc (.cells #[.string s] 9)).heap.size = w.heap.size + 1 by simp] at h2
    exact (concat _ 2 2 [l, [s]] (l ++ [s]) (n + 1) _ h2 (by omega) (by simp) (by simp [hl]) (by omega)).mono fun _ _ ⟨hb, h⟩ => ⟨bel_then (bel_alloc (new_bel _ _) _) hb, h⟩
  have hi : ¬ (200 : Int) ≤ (n : Int) := by omega
  clear hl ha
  go_enter Try.func14, Try.ntmps14
  go_wp2_with fail
  refine HC.out.mono ?_
  rintro e u1 ⟨hb1, a1, c1, rfl, hr1⟩
  go_wp2
  go_ret
  exact ⟨hb1, a1, c1, rfl, hr1⟩

theorem bput (a : Option Addr) (n c : Nat) (l : List ByteArray) (s : ByteArray) (w : World) (ha : bagS.rep w everywhere [.slice a n c] l) (hn : n ≤ 50000) :
    Calls Try.prog 14 #[.slice a n c, .string s] w fun e w' => Below w.heap.size w w' ∧ ∃ a' c', e = .returned (.slice a' (Bx.put l s).length c') ∧ bagS.rep w' everywhere [.slice a' (Bx.put l s).length c'] (Bx.put l s) := by
  have hl := (sliceS_len ha).1
  by_cases h : n < 200
  · have := bput_room a n c l s w ha h
    rw [Bx.put_room (by omega), show (l ++ [s]).length = n + 1 by simp [hl]]
    exact this
  · have := bput_full a n c l s w ha hn (by omega)
    rw [Bx.put_full (by omega), hl]
    exact this

theorem btake_out (a : Option Addr) (n c : Nat) (l : List ByteArray) (i : Int) (w : World) (ha : bagS.rep w everywhere [.slice a n c] l) (hn : n ≤ 50000) (hi : ¬ (0 ≤ i ∧ i < (n : Int))) :
    Calls Try.prog 9 #[.slice a n c, .int .i64 i] w fun e w' => Below w.heap.size w w' ∧ ∃ a' c', e = .returned (.tuple #[.string noText, .slice a' n c', .bool false]) ∧ bagS.rep w' everywhere [.slice a' n c'] l := by
  have HA : Hid (bagS.rep w everywhere [.slice a n c] l) := ha
  clear ha
  have HI : Hid (¬ (0 ≤ i ∧ i < (n : Int))) := hi
  clear hi
  go_enter Try.func9, Try.ntmps9
  go_wp2_with (go_at_call 15; refine by_says (has _ _ _ _ _) (fun h => absurd h HI.out) (fun _ => ?_))
  refine (concat_one a n c l w _ HA.out hn).mono ?_
  rintro e u1 ⟨hb1, a1, c1, rfl, hr1⟩
  go_wp2
  go_ret3
  exact ⟨hb1, a1, c1, rfl, hr1⟩

theorem btake_in (a : Option Addr) (n c : Nat) (l : List ByteArray) (k : Nat) (w : World) (ha : bagS.rep w everywhere [.slice a n c] l) (hn : n ≤ 50000) (hk : k < n) :
    Calls Try.prog 9 #[.slice a n c, .int .i64 k] w fun e w' => Below w.heap.size w w' ∧ ∃ a' c', e = .returned (.tuple #[.string (l.getD k noText), .slice a' (n - 1) c', .bool true]) ∧ bagS.rep w' everywhere [.slice a' (n - 1) c'] (Bx.without l k) := by
  obtain ⟨hl, hc1, hc2⟩ := sliceS_len ha
  obtain ⟨i0, hi, hz0, hz1, hz2⟩ := info_parts Try.infoText
  have hrE := rep_take ha (k := k) (by omega)
  have hE : ∀ w : World, (Instr.slice 22 (.slice a n c) none (some (.int .i64 (k : Int))) none).run Try.prog w = .ok (.slice a k c) w := fun w => by
    rw [run_slice_h w 22 a n c Try.underlying22 .i64 k (by omega) (by omega)]
    simp [sizeOf, typeInfo, go_sem, hi, hz1]
  obtain ⟨D, hD, hrD⟩ : ∃ D, (∀ w : World, (Instr.slice 22 (.slice a n c) (some (.int .i64 ((k : Int) + 1))) none none).run Try.prog w = .ok (.slice D (n - (k + 1)) (c - (k + 1))) w) ∧ bagS.rep w everywhere [.slice D (n - (k + 1)) (c - (k + 1))] (l.drop (k + 1)) := by
    refine ⟨_, fun w => ?_, rep_drop ha (k := k + 1) (by omega)⟩
    rw [run_slice_l w 22 a n c Try.underlying22 .i64 (k + 1) (by omega) (by omega)]
    simp [sizeOf, typeInfo, go_sem, hi, hz1, show ((k : Int) + 1).toNat = k + 1 by omega, strS]
  have HC : Hid (Calls Try.prog 16 #[.slice (some ⟨w.heap.size, 0, none⟩) 2 2] (w.alloc (.cells #[.slice a k c, .slice D (n - (k + 1)) (c - (k + 1))] 22)).drew fun e w' => Below w.heap.size w w' ∧ ∃ a' c', e = .returned (.slice a' (n - 1) c') ∧ bagS.rep w' everywhere [.slice a' (n - 1) c'] (Bx.without l k)) := by
    have h2 := laid_two (e := 22) hrE hrD
    have h3 := Shape.below h2 ((Below.refl _ _).drew)
    exact (concat _ 2 2 [l.take k, l.drop (k + 1)] (Bx.without l k) (n - 1) _ h3 (by omega) (by simp [Bx.without]) (by rw [Bx.without_len (by omega), hl]) (by omega)).mono fun _ _ ⟨hb, h⟩ => ⟨bel_then (new_bel _ _).drew hb, h⟩
  obtain ⟨b1, o1, rfl, hb1, hcell⟩ := (Texts.of_rep ha).at hk
  have HI : Hid (0 ≤ (k : Int) ∧ (k : Int) < (n : Int)) := ⟨by omega, by omega⟩
  have hw : IntKind.i64.wrap ((k : Int) + 1) = (k : Int) + 1 := by rw [IntKind.wrap_i64]; omega
  have hkn : (k : Int) < (n : Int) := by omega
  clear ha hrE hrD hl
  generalize l.getD k noText = x at *
  go_enter Try.func9, Try.ntmps9
  go_wp2_with (go_at_call 15; refine by_says (has _ _ _ _ _) (fun _ => ?_) (fun h => absurd HI.out h))
  go_region_with
    (go_at_call 16; refine HC.out.mono ?_; rintro e u1 ⟨hbu, a1, c1, rfl, hr1⟩; have hcell1 := (hbu.cell hb1).trans hcell)
  all_goals
    go_wp2
    go_ret3
    exact ⟨hbu, a1, c1, rfl, hr1⟩

end Go.Proofs.Ytkpbkknneebdmaa
