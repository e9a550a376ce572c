/- Loads as lists: counts, weights, who should have a holder more or may have one less (no program in sight). -/
import Derived.Test.YtpldfalnoaamkaaPl
namespace Go.Proofs.Ytpldfalnoaamkaa.Ld
open Go.Proofs.Ytpldfalnoaamkaa

/-! ### Counts -/
/-- An expert's count. -/
def count (l : List Int) (x : Int) : Int := if 0 ≤ x ∧ x < (l.length : Int) then l.getD x.toNat 0 else 0
theorem count_in {l : List Int} {k : Nat} (h : k < l.length) : count l (k : Int) = l.getD k 0 := by
  unfold count
  rw [if_pos (by omega)]
  rfl
theorem count_out {l : List Int} {x : Int} (h : ¬ (0 ≤ x ∧ x < (l.length : Int))) : count l x = 0 := if_neg h
theorem count_nat (l : List Int) (k : Nat) : count l (k : Int) = l.getD k 0 := by
  by_cases h : k < l.length
  · exact count_in h
  · rw [count_out (by omega), List.getD_eq_getElem?_getD, List.getElem?_eq_none (by omega)]
    rfl
/-- With noughts behind, as far as k. -/
def pad (l : List Int) (k : Nat) : List Int := l ++ List.replicate (k - l.length) 0
theorem pad_len (l : List Int) (k : Nat) : (pad l k).length = max l.length k := by unfold pad; rw [List.length_append, List.length_replicate]; omega
theorem pad_short {l : List Int} {k : Nat} (h : k ≤ l.length) : pad l k = l := by unfold pad; rw [Nat.sub_eq_zero_of_le h]; exact List.append_nil l
theorem pad_at (l : List Int) (k i : Nat) : (pad l k).getD i 0 = l.getD i 0 := by
  unfold pad
  rw [List.getD_eq_getElem?_getD, List.getD_eq_getElem?_getD, List.getElem?_append]
  by_cases h : i < l.length
  · rw [if_pos h]
  · rw [if_neg h, List.getElem?_eq_none (by omega : l.length ≤ i), List.getElem?_replicate]
    split <;> rfl
/-- One more of an expert. -/
def note (l : List Int) (x : Int) : List Int := if (0 ≤ x ∧ x ≤ 7) ∧ count l x < 2147483647 then (pad l (x.toNat + 1)).set x.toNat (count l x + 1) else l
theorem note_no {l : List Int} {x : Int} (h : ¬ ((0 ≤ x ∧ x ≤ 7) ∧ count l x < 2147483647)) : note l x = l := if_neg h
theorem note_yes {l : List Int} {x : Int} (h : (0 ≤ x ∧ x ≤ 7) ∧ count l x < 2147483647) : note l x = (pad l (x.toNat + 1)).set x.toNat (count l x + 1) := if_pos h
theorem note_len (l : List Int) (x : Int) : (note l x).length ≤ max l.length 8 := by
  unfold note
  split
  · rw [List.length_set, pad_len]; omega
  · omega
theorem count_note {l : List Int} {x : Int} (h : (0 ≤ x ∧ x ≤ 7) ∧ count l x < 2147483647) (y : Nat) : count (note l x) (y : Int) = if (y : Int) = x then count l x + 1 else count l (y : Int) := by
  rw [note_yes h, count_nat, count_nat, List.getD_eq_getElem?_getD, List.getElem?_set]
  have hl : x.toNat < (pad l (x.toNat + 1)).length := by rw [pad_len]; omega
  by_cases hy : (y : Int) = x
  · have e : x.toNat = y := by omega
    rw [if_pos hy, if_pos e, if_pos hl]
    rfl
  · rw [if_neg hy, if_neg (by omega), ← List.getD_eq_getElem?_getD, pad_at]

/-! ### Weights -/
/-- How many of the rows hold n. -/
def held (m : List (List Int)) (n : Int) : Nat := m.countP fun l => l.contains n
theorem held_step (m : List (List Int)) (n : Int) {k : Nat} (h : k < m.length) : held (m.take (k + 1)) n = held (m.take k) n + (if (m.getD k []).contains n then 1 else 0) := by
  unfold held
  rw [Mx.take_row m k h, List.countP_append, List.countP_singleton]
theorem held_le (m : List (List Int)) (n : Int) : held m n ≤ m.length := List.countP_le_length
/-- A node's weight. -/
def weight (m : List (List Int)) (n : Int) : Nat := if 1 ≤ n ∧ n ≤ 4 then held m n else 0
theorem weight_in (m : List (List Int)) {n : Int} (h : 1 ≤ n ∧ n ≤ 4) : weight m n = held m n := if_pos h
theorem weight_out (m : List (List Int)) {n : Int} (h : ¬ (1 ≤ n ∧ n ≤ 4)) : weight m n = 0 := if_neg h
theorem weight_le (m : List (List Int)) (n : Int) : weight m n ≤ m.length := by
  unfold weight
  split
  · exact held_le m n
  · exact Nat.zero_le _

/-! ### The lightest node that does not hold an expert -/
def Free (r : List Int) (n : Int) : Prop := (1 ≤ n ∧ n ≤ 4) ∧ n ∉ r
/-- Of those that do not hold it the one of the least weight, the first one of several; 0: there is none. -/
def Node (m : List (List Int)) (r : List Int) (n : Int) : Prop :=
  (n = 0 ∧ ∀ k, ¬ Free r k) ∨ (Free r n ∧ ∀ k, Free r k → weight m n < weight m k ∨ weight m n = weight m k ∧ n ≤ k)
theorem Node.some {m : List (List Int)} {r : List Int} {n : Int} (h : Node m r n) : n ≠ 0 ↔ ∃ k, Free r k := by
  rcases h with ⟨rfl, h⟩ | ⟨h1, _⟩
  · exact ⟨fun k => absurd rfl k, fun ⟨k, hk⟩ => absurd hk (h k)⟩
  · exact ⟨fun _ => ⟨n, h1⟩, fun _ e => by rw [e] at h1; exact absurd h1.1.1 (by decide)⟩
theorem Node.pos {m : List (List Int)} {r : List Int} {n : Int} (h : Node m r n) : 0 < n ↔ ∃ k, Free r k := by
  rw [← h.some]
  rcases h with ⟨rfl, _⟩ | ⟨h1, _⟩
  · simp
  · have := h1.1.1
    omega
theorem Node.free {m : List (List Int)} {r : List Int} {n : Int} (h : Node m r n) (hn : n ≠ 0) : Free r n := by
  rcases h with ⟨e, _⟩ | ⟨h1, _⟩
  · exact absurd e hn
  · exact h1
theorem Node.one {m : List (List Int)} {r : List Int} {n k : Int} (h : Node m r n) (h2 : Node m r k) : n = k := by
  rcases h with ⟨rfl, h⟩ | ⟨h1, h⟩
  · rcases h2 with ⟨rfl, _⟩ | ⟨k1, _⟩
    · rfl
    · exact absurd k1 (h k)
  · rcases h2 with ⟨rfl, k2⟩ | ⟨k1, k2⟩
    · exact absurd h1 (k2 n)
    · have a := h k k1
      have b := k2 n h1
      omega
theorem node_there (m : List (List Int)) (r : List Int) : ∃ n, Node m r n := by
  -- the least of weight * 8 + number, over whatever stands among 1 .. 4
  have aux : ∀ j : Nat, (∀ k, Free r k → (j : Int) < k) ∨ ∃ n, (Free r n ∧ n ≤ (j : Int)) ∧ ∀ k, Free r k → k ≤ (j : Int) → weight m n < weight m k ∨ weight m n = weight m k ∧ n ≤ k := by
    intro j
    induction j with
    | zero => exact .inl fun k hk => by have := hk.1.1; omega
    | succ j ih =>
      by_cases hf : Free r ((j : Int) + 1)
      · rcases ih with h | ⟨n, hn, h⟩
        · refine .inr ⟨(j : Int) + 1, ⟨hf, by omega⟩, fun k hk hkj => ?_⟩
          have := h k hk
          have e : k = (j : Int) + 1 := by omega
          rw [e]
          exact .inr ⟨rfl, Int.le_refl _⟩
        · by_cases hw : weight m ((j : Int) + 1) < weight m n
          · refine .inr ⟨(j : Int) + 1, ⟨hf, by omega⟩, fun k hk hkj => ?_⟩
            by_cases hkl : k ≤ (j : Int)
            · have := h k hk hkl
              omega
            · have e : k = (j : Int) + 1 := by omega
              rw [e]
              exact .inr ⟨rfl, Int.le_refl _⟩
          · refine .inr ⟨n, ⟨hn.1, by omega⟩, fun k hk hkj => ?_⟩
            by_cases hkl : k ≤ (j : Int)
            · exact h k hk hkl
            · have e : k = (j : Int) + 1 := by omega
              rw [e]
              omega
      · rcases ih with h | ⟨n, hn, h⟩
        · refine .inl fun k hk => ?_
          have := h k hk
          have : k ≠ (j : Int) + 1 := fun e => hf (by rw [← e]; exact hk)
          omega
        · refine .inr ⟨n, ⟨hn.1, by omega⟩, fun k hk hkj => h k hk ?_⟩
          have : k ≠ (j : Int) + 1 := fun e => hf (by rw [← e]; exact hk)
          omega
  rcases aux 4 with h | ⟨n, hn, h⟩
  · exact ⟨0, .inl ⟨rfl, fun k hk => by have h1 := h k hk; have h2 := hk.1.2; omega⟩⟩
  · exact ⟨n, .inr ⟨hn.1, fun k hk => h k hk (by have := hk.1.2; omega)⟩⟩

/-! ### The first of the best -/
/-- x is the first of those of P whose number is the greatest. -/
def First (P : Nat → Prop) (f : Nat → Int) (x : Nat) : Prop := P x ∧ ∀ y, P y → f y < f x ∨ f y = f x ∧ x ≤ y
/-- Among those below k. -/
def FirstTo (P : Nat → Prop) (f : Nat → Int) (k x : Nat) : Prop := (P x ∧ x < k) ∧ ∀ y, P y → y < k → f y < f x ∨ f y = f x ∧ x ≤ y
section
variable {P : Nat → Prop} {f : Nat → Int} {k x : Nat}
theorem First.one {y : Nat} (h : First P f x) (h2 : First P f y) : x = y := by
  have a := h.2 y h2.1
  have b := h2.2 x h.1
  omega
theorem FirstTo.full (h : FirstTo P f k x) (hk : ∀ y, P y → y < k) : First P f x := ⟨h.1.1, fun y hy => h.2 y hy (hk y hy)⟩
theorem none_step (h : ∀ y, P y → ¬ y < k) (hn : ¬ P k) : ∀ y, P y → ¬ y < k + 1 := fun y hy hlt => by
  have := h y hy
  have e : y = k := by omega
  exact hn (by rw [← e]; exact hy)
theorem first_begin (h : ∀ y, P y → ¬ y < k) (hp : P k) : FirstTo P f (k + 1) k := ⟨⟨hp, by omega⟩, fun y hy hlt => by
  have := h y hy
  have e : y = k := by omega
  exact .inr ⟨by rw [e], by omega⟩⟩
theorem FirstTo.keep (h : FirstTo P f k x) (hn : ¬ P k ∨ f k ≤ f x) : FirstTo P f (k + 1) x := ⟨⟨h.1.1, by have := h.1.2; omega⟩, fun y hy hlt => by
  by_cases e : y = k
  · subst e
    rcases hn with h1 | h1
    · exact absurd hy h1
    · have := h.1.2
      omega
  · exact h.2 y hy (by omega)⟩
theorem FirstTo.turn (h : FirstTo P f k x) (hp : P k) (hf : f x < f k) : FirstTo P f (k + 1) k := ⟨⟨hp, by omega⟩, fun y hy hlt => by
  by_cases e : y = k
  · subst e
    exact .inr ⟨rfl, by omega⟩
  · have := h.2 y hy (by omega)
    omega⟩
theorem first_there (n : Nat) (hb : ∀ y, P y → y < n) : (∀ y, ¬ P y) ∨ ∃ x, First P f x := by
  have aux : ∀ k : Nat, (∀ y, P y → ¬ y < k) ∨ ∃ x, FirstTo P f k x := by
    intro k
    induction k with
    | zero => exact .inl fun y _ h => absurd h (Nat.not_lt_zero _)
    | succ k ih =>
      by_cases hp : P k
      · rcases ih with h | ⟨x, h⟩
        · exact .inr ⟨k, first_begin h hp⟩
        · by_cases hf : f x < f k
          · exact .inr ⟨k, h.turn hp hf⟩
          · exact .inr ⟨x, h.keep (.inr (by omega))⟩
      · rcases ih with h | ⟨x, h⟩
        · exact .inl (none_step h hp)
        · exact .inr ⟨x, h.keep (.inl hp)⟩
  rcases aux n with h | ⟨x, h⟩
  · exact .inl fun y hy => h y hy (hb y hy)
  · exact .inr ⟨x, h.full hb⟩
end

/-! ### Who should have a holder more, who may have one less -/
/-- It has too much to do, and a node could hold it too. -/
def HotAt (l : List Int) (m : List (List Int)) (high : Int) (x : Nat) : Prop := x < m.length ∧ high * ((m.getD x []).length : Int) < count l (x : Int) ∧ ∃ k, Free (m.getD x []) k
/-- It has little to do, and another holder. -/
def ColdAt (l : List Int) (m : List (List Int)) (low : Int) (x : Nat) : Prop := x < m.length ∧ 1 < (m.getD x []).length ∧ count l (x : Int) < low * (((m.getD x []).length : Int) - 1)
/-- The map is right, and the bound. -/
def Fair (e : Int) (m : List (List Int)) (bound : Int) : Prop := Pl.Right e m ∧ (1 ≤ bound ∧ bound ≤ 2147483647)
/-- What Hot tells: expert X, node N, B. -/
def Hot (l : List Int) (e : Int) (m : List (List Int)) (high X N : Int) (B : Bool) : Prop :=
  (¬ (Fair e m high ∧ ∃ x, HotAt l m high x) ∧ X = 0 ∧ N = 0 ∧ B = false) ∨
  (Fair e m high ∧ ∃ x : Nat, First (HotAt l m high) (fun y => count l (y : Int)) x ∧ X = (x : Int) ∧ Node m (m.getD x []) N ∧ B = true)
/-- What Cold tells: expert X, node N, B. -/
def Cold (l : List Int) (e : Int) (m : List (List Int)) (low X N : Int) (B : Bool) : Prop :=
  (¬ (Fair e m low ∧ ∃ x, ColdAt l m low x) ∧ X = 0 ∧ N = 0 ∧ B = false) ∨
  (Fair e m low ∧ ∃ x : Nat, First (ColdAt l m low) (fun y => -count l (y : Int)) x ∧ X = (x : Int) ∧ N = (m.getD x []).getD ((m.getD x []).length - 1) 0 ∧ B = true)
theorem hot_there (l : List Int) (e : Int) (m : List (List Int)) (high : Int) : ∃ X N B, Hot l e m high X N B := by
  by_cases h : Fair e m high
  · rcases first_there (P := HotAt l m high) (f := fun y => count l (y : Int)) m.length (fun y hy => hy.1) with h1 | ⟨x, h1⟩
    · exact ⟨0, 0, false, .inl ⟨fun k => k.2.elim fun x hx => h1 x hx, rfl, rfl, rfl⟩⟩
    · obtain ⟨n, hn⟩ := node_there m (m.getD x [])
      exact ⟨x, n, true, .inr ⟨h, x, h1, rfl, hn, rfl⟩⟩
  · exact ⟨0, 0, false, .inl ⟨fun k => h k.1, rfl, rfl, rfl⟩⟩
theorem cold_there (l : List Int) (e : Int) (m : List (List Int)) (low : Int) : ∃ X N B, Cold l e m low X N B := by
  by_cases h : Fair e m low
  · rcases first_there (P := ColdAt l m low) (f := fun y => -count l (y : Int)) m.length (fun y hy => hy.1) with h1 | ⟨x, h1⟩
    · exact ⟨0, 0, false, .inl ⟨fun k => k.2.elim fun x hx => h1 x hx, rfl, rfl, rfl⟩⟩
    · exact ⟨x, _, true, .inr ⟨h, x, h1, rfl, rfl, rfl⟩⟩
  · exact ⟨0, 0, false, .inl ⟨fun k => h k.1, rfl, rfl, rfl⟩⟩
theorem Hot.ok {l : List Int} {e : Int} {m : List (List Int)} {high X N : Int} (h : Hot l e m high X N true) : Fair e m high ∧ ∃ x : Nat, First (HotAt l m high) (fun y => count l (y : Int)) x ∧ X = (x : Int) ∧ Node m (m.getD x []) N := by
  rcases h with ⟨_, _, _, h⟩ | ⟨h1, x, h2, h3, h4, _⟩
  · cases h
  · exact ⟨h1, x, h2, h3, h4⟩
theorem Cold.ok {l : List Int} {e : Int} {m : List (List Int)} {low X N : Int} (h : Cold l e m low X N true) : Fair e m low ∧ ∃ x : Nat, First (ColdAt l m low) (fun y => -count l (y : Int)) x ∧ X = (x : Int) ∧ N = (m.getD x []).getD ((m.getD x []).length - 1) 0 := by
  rcases h with ⟨_, _, _, h⟩ | ⟨h1, x, h2, h3, h4, _⟩
  · cases h
  · exact ⟨h1, x, h2, h3, h4⟩
theorem Hot.no {l : List Int} {e : Int} {m : List (List Int)} {high X N : Int} {B : Bool} (h : Hot l e m high X N B) (hn : ¬ (Fair e m high ∧ ∃ x, First (HotAt l m high) (fun y => count l (y : Int)) x)) : X = 0 ∧ N = 0 ∧ B = false := by
  rcases h with ⟨_, h⟩ | ⟨h1, x, h2, _⟩
  · exact h
  · exact absurd ⟨h1, x, h2⟩ hn
theorem Hot.at {l : List Int} {e : Int} {m : List (List Int)} {high X N : Int} {B : Bool} (h : Hot l e m high X N B) (hF : Fair e m high) {x : Nat} (hx : First (HotAt l m high) (fun y => count l (y : Int)) x) : X = (x : Int) ∧ Node m (m.getD x []) N ∧ B = true := by
  rcases h with ⟨hn, _⟩ | ⟨h1, y, h2, h3, h4, h5⟩
  · exact absurd ⟨hF, x, hx.1⟩ hn
  · obtain rfl := h2.one hx
    exact ⟨h3, h4, h5⟩
theorem Cold.no {l : List Int} {e : Int} {m : List (List Int)} {low X N : Int} {B : Bool} (h : Cold l e m low X N B) (hn : ¬ (Fair e m low ∧ ∃ x, First (ColdAt l m low) (fun y => -count l (y : Int)) x)) : X = 0 ∧ N = 0 ∧ B = false := by
  rcases h with ⟨_, h⟩ | ⟨h1, x, h2, _⟩
  · exact h
  · exact absurd ⟨h1, x, h2⟩ hn
theorem Cold.at {l : List Int} {e : Int} {m : List (List Int)} {low X N : Int} {B : Bool} (h : Cold l e m low X N B) (hF : Fair e m low) {x : Nat} (hx : First (ColdAt l m low) (fun y => -count l (y : Int)) x) : X = (x : Int) ∧ N = (m.getD x []).getD ((m.getD x []).length - 1) 0 ∧ B = true := by
  rcases h with ⟨hn, _⟩ | ⟨h1, y, h2, h3, h4, h5⟩
  · exact absurd ⟨hF, x, hx.1⟩ hn
  · obtain rfl := h2.one hx
    exact ⟨h3, h4, h5⟩

/-! ### What follows -/
/-- What Hot tells can be added. -/
theorem Hot.adds {l : List Int} {e : Int} {m : List (List Int)} {high X N : Int} (h : Hot l e m high X N true) (he : e ≠ 2147483647) : ¬ Pl.Wrong e m X N ∧ ¬ Pl.Holds m X N := by
  obtain ⟨h1, x, h2, rfl, h4⟩ := h.ok
  have hx := h2.1.1
  have hn := h4.free (h4.some.2 h2.1.2.2)
  refine ⟨?_, fun k => hn.2 (by have h9 := k.2; rw [Int.toNat_natCast] at h9; exact h9)⟩
  rintro (k | k | k | k)
  · exact k h1.1
  · exact k ⟨by omega, by omega⟩
  · exact k hn.1
  · exact he k
/-- What Cold tells can be retired. -/
theorem Cold.retires {l : List Int} {e : Int} {m : List (List Int)} {low X N : Int} (h : Cold l e m low X N true) (he : e ≠ 2147483647) : ¬ Pl.Wrong e m X N ∧ Pl.Holds m X N ∧ (m.getD X.toNat []).length ≠ 1 := by
  obtain ⟨h1, x, h2, rfl, rfl⟩ := h.ok
  have hx := h2.1.1
  have hl := h2.1.2.1
  have hr : Pl.RowOk (m.getD x []) := h1.1.2.2 _ (Mx.getD_mem m x hx)
  have hm : (m.getD x []).getD ((m.getD x []).length - 1) 0 ∈ m.getD x [] := Mx.num_mem _ _ (by omega)
  refine ⟨?_, ⟨⟨by omega, by omega⟩, hm⟩, by rw [Int.toNat_natCast]; omega⟩
  rintro (k | k | k | k)
  · exact k h1.1
  · exact k ⟨by omega, by omega⟩
  · exact k (hr.2.1 _ hm)
  · exact he k

end Go.Proofs.Ytpldfalnoaamkaa.Ld
