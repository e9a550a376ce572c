/- The laws on models as lists that the statements of layer 15 rest on (no program in sight). -/
import Derived.Test.YtmechoeoaadfeaaMd
namespace Go.Proofs.Ytmechoeoaadfeaa.Md
open Go.Proofs.Ytmechoeoaadfeaa

section
variable {dim : Int} {ts : List (List Int)} {l : Ly} {ls : List Ly}

/-! ### A beginning of the tokens -/
theorem wants_take (m ts : List (List Int)) (k : Nat) : wants m (ts.take k) = (wants m ts).take (k * 2) := duo_take _ _ _ _
theorem slot_take (l : Ly) (ts : List (List Int)) {i k : Nat} (h : i < k * 2) : slot l (ts.take k) i = slot l ts i := by
  unfold slot
  rw [wants_take, Sl.slot_take h]
theorem take_getD (ts : List (List Int)) {t k : Nat} (h : t < k) : (ts.take k).getD t [] = ts.getD t [] := by
  rw [List.getD_eq_getElem?_getD, List.getD_eq_getElem?_getD, List.getElem?_take, if_pos h]
theorem out_take (l : Ly) {ts : List (List Int)} {t k : Nat} (h : t < k) (hk : k ≤ ts.length) : out l (ts.take k) t = out l ts t := by
  have hl : (ts.take k).length = k := by rw [List.length_take]; omega
  unfold out
  rw [one_even l (by omega), one_odd l (by omega), one_even l (by omega), one_odd l (by omega), slot_take l ts (by omega), slot_take l ts (by omega), take_getD ts h]
theorem step_take (l : Ly) {ts : List (List Int)} {k : Nat} (hk : k ≤ ts.length) : step l (ts.take k) = (step l ts).take k := by
  have hl : (ts.take k).length = k := by rw [List.length_take]; omega
  refine list_ext (by rw [step_len, hl, List.length_take, step_len]; omega) fun t h => ?_
  rw [step_len, hl] at h
  rw [step_at l (by omega), out_take l h hk, take_getD _ h, step_at l (by omega)]
theorem forward_take (ls : List Ly) {ts : List (List Int)} {k : Nat} (hk : k ≤ ts.length) : forward ls (ts.take k) = (forward ls ts).take k := by
  induction ls generalizing ts with
  | nil => rfl
  | cons l ls ih => rw [forward_cons, forward_cons, step_take l hk]; exact ih (by rw [step_len]; exact hk)

/-! ### Experts that make noughts -/
def stillX (x : Xp) : Xp := (x.1, List.replicate x.2.1.length (List.replicate x.1.length 0), ())
def stillL (l : Ly) : Ly := (l.1, l.2.1.map stillX, l.2.2.1, ())
theorem stillX_right {x : Xp} {n : Nat} (h : Ex.Right x.1 x.2.1 n) : Ex.Right (stillX x).1 (stillX x).2.1 n := by
  refine ⟨h.1, h.2.1, h.2.2.1, ?_, fun r hr => ?_⟩
  · show ((List.replicate x.2.1.length (List.replicate x.1.length (0 : Int))).length : Int) = n
    rw [List.length_replicate]; exact h.2.2.2.1
  · rw [List.eq_of_mem_replicate hr]
    exact ⟨by show ((List.replicate x.1.length (0 : Int)).length : Int) = _; rw [List.length_replicate]; rfl, Ex.in_zeros _⟩
theorem stillL_right {n : Nat} (h : LRight l n) : LRight (stillL l) n := by
  have hn : (stillL l).2.1.length = l.2.1.length := by show (l.2.1.map stillX).length = _; rw [List.length_map]
  refine ⟨by rw [hn]; exact h.1, by rw [hn]; exact h.2.1, by rw [hn]; exact h.2.2.1, h.2.2.2.1, h.2.2.2.2.1, fun x hx => ?_⟩
  obtain ⟨y, hy, rfl⟩ := List.mem_map.1 hx
  exact stillX_right (h.2.2.2.2.2 y hy)
theorem app_noughts (k n : Nat) (v : List Int) (h : v.length = n) : Mx.app (List.replicate k (List.replicate n 0)) v = List.replicate k 0 := by
  unfold Mx.app
  rw [List.map_replicate, ← h, Ex.dot_none]
theorem still_run {x : Xp} {n : Nat} (h : Ex.Right x.1 x.2.1 n) (v : List Int) : Ex.run (stillX x).1 (stillX x).2.1 v = List.replicate n 0 := by
  show Mx.app (List.replicate x.2.1.length (List.replicate x.1.length 0)) (Vx.relu (Mx.app x.1 v)) = _
  rw [app_noughts _ _ _ (by rw [Vx.relu_length, Mx.app_length]), h.len]
theorem scale_noughts (n : Nat) (k : Int) : Vx.scale (List.replicate n 0) k = List.replicate n 0 := by
  unfold Vx.scale
  rw [List.map_replicate, show Fx.mul 0 k = 0 by simp [Fx.mul, Fx.hold]]
theorem add_noughts {v : List Int} (h : Mx.In v) : Vx.add v (List.replicate v.length 0) = v := by
  induction v with
  | nil => rfl
  | cons x v ih =>
    have h1 := h x (by simp)
    show Fx.add x 0 :: Vx.add v (List.replicate v.length 0) = _
    rw [ih fun y hy => h y (by simp [hy])]
    congr 1
    unfold Fx.add
    rw [show Fx.hold 0 = 0 from rfl, Int.add_zero, h1, h1]
theorem still_fold {n : Nat} (hl : LRight l n) {v0 : List Int} (hv : v0.length = n) (hin : Mx.In v0) (ps : List Pt) (hp : ∀ p ∈ ps, 0 ≤ p.2.2.1 ∧ p.2.2.1 < (l.2.1.length : Int)) : ps.foldl (grow (stillL l) v0) v0 = v0 := by
  induction ps with
  | nil => rfl
  | cons p ps ih =>
    obtain ⟨h0, h1⟩ := hp p (by simp)
    have e : (stillL l).2.1.getD p.2.2.1.toNat xp0 = stillX (l.2.1.getD p.2.2.1.toNat xp0) := by
      show (l.2.1.map stillX).getD p.2.2.1.toNat xp0 = _
      rw [List.getD_eq_getElem?_getD, List.getElem?_map, List.getD_eq_getElem?_getD, List.getElem?_eq_getElem (by omega)]
      rfl
    have hg : grow (stillL l) v0 v0 p = v0 := by
      unfold grow ans
      rw [e, still_run (ans_right hl h0 h1), scale_noughts, ← hv, add_noughts hin]
    show ps.foldl _ (grow (stillL l) v0 v0 p) = v0
    rw [hg]
    exact ih fun q hq => hp q (by simp [hq])
theorem still_step {n : Nat} (hl : LRight l n) (ht : TRight n ts) : step (stillL l) ts = ts := by
  refine list_ext (step_len _ _) fun t h => ?_
  rw [step_len] at h
  rw [step_at _ h]
  have h1 := ht.row h
  unfold out
  refine still_fold hl (by omega) h1.2 _ fun p hp => ?_
  have h2 := two_experts p hp
  have hn : (stillL l).2.1.length = l.2.1.length := by show (l.2.1.map stillX).length = _; rw [List.length_map]
  rw [hn] at h2
  exact h2
theorem still_forward {n : Nat} (hl : ∀ l ∈ ls, LRight l n) (ht : TRight n ts) : forward (ls.map stillL) ts = ts := by
  induction ls with
  | nil => rfl
  | cons l ls ih =>
    rw [List.map_cons, forward_cons, still_step (hl l (by simp)) ht]
    exact ih fun m hm => hl m (by simp [hm])

/-! ### Room for all -/
def wideL (l : Ly) : Ly := (l.1, l.2.1, 32, ())
theorem wideL_right (h : LRight l dim) : LRight (wideL l) dim := ⟨h.1, h.2.1, h.2.2.1, by show (1 : Int) ≤ 32; omega, by show (32 : Int) ≤ 32; omega, h.2.2.2.2.2⟩
theorem wide_slot (l : Ly) {ts : List (List Int)} {i : Nat} (hi : i < 32) : 0 ≤ slot (wideL l) ts i ↔ 0 ≤ (wants l.1 ts).getD i 0 ∧ (wants l.1 ts).getD i 0 < (l.2.1.length : Int) :=
  Sl.slot_all (l := wants l.1 ts) (E := (l.2.1.length : Int)) (C := 32) (i := i) (by omega)
/-- What is made of a token whose parts all have room. -/
def alone (l : Ly) (v : List Int) : List Int :=
  ((if 0 ≤ first l.1 v ∧ first l.1 v < (l.2.1.length : Int) then [pt 0 0 (first l.1 v) (w1 l.1 v)] else []) ++ (if 0 ≤ second l.1 v ∧ second l.1 v < (l.2.1.length : Int) then [pt 0 1 (second l.1 v) (w2 l.1 v)] else [])).foldl (grow l v) v
theorem out_wide (l : Ly) {ts : List (List Int)} {t : Nat} (h : t < ts.length) (hn : ts.length ≤ 16) : out (wideL l) ts t = alone l (ts.getD t []) := by
  have s0 := wide_slot l (ts := ts) (i := t * 2) (by omega)
  have s1 := wide_slot l (ts := ts) (i := t * 2 + 1) (by omega)
  unfold wants at s0 s1
  rw [duo_even _ _ ts h] at s0
  rw [duo_odd _ _ ts h] at s1
  unfold out alone
  rw [one_even (wideL l) h, one_odd (wideL l) h]
  by_cases c0 : 0 ≤ first l.1 (ts.getD t []) ∧ first l.1 (ts.getD t []) < (l.2.1.length : Int)
  · rw [if_pos c0, if_pos (s0.2 c0)]
    by_cases c1 : 0 ≤ second l.1 (ts.getD t []) ∧ second l.1 (ts.getD t []) < (l.2.1.length : Int)
    · rw [if_pos c1, if_pos (s1.2 c1)]; rfl
    · rw [if_neg c1, if_neg (fun h => c1 (s1.1 h))]; rfl
  · rw [if_neg c0, if_neg (fun h => c0 (s0.1 h))]
    by_cases c1 : 0 ≤ second l.1 (ts.getD t []) ∧ second l.1 (ts.getD t []) < (l.2.1.length : Int)
    · rw [if_pos c1, if_pos (s1.2 c1)]; rfl
    · rw [if_neg c1, if_neg (fun h => c1 (s1.1 h))]; rfl
theorem step_alone (l : Ly) {ts : List (List Int)} {t : Nat} (h : t < ts.length) (hn : ts.length ≤ 16) : [(step (wideL l) ts).getD t []] = step (wideL l) [ts.getD t []] := by
  have e : step (wideL l) [ts.getD t []] = [out (wideL l) [ts.getD t []] 0] := rfl
  rw [e, step_at _ h, out_wide l h hn, out_wide l (ts := [ts.getD t []]) (t := 0) (by simp) (by simp)]
  rfl
theorem forward_alone (ls : List Ly) {ts : List (List Int)} {t : Nat} (h : t < ts.length) (hn : ts.length ≤ 16) : forward (ls.map wideL) [ts.getD t []] = [(forward (ls.map wideL) ts).getD t []] := by
  induction ls generalizing ts with
  | nil => rfl
  | cons l ls ih =>
    rw [List.map_cons, forward_cons, forward_cons, ← step_alone l h hn]
    exact ih (by rw [step_len]; exact h) (by rw [step_len]; exact hn)

/-! ### What parts are -/
/-- How many of the parts are of expert e. -/
def many (ps : List Pt) (e : Int) : Nat := (ps.filter fun p => p.2.2.1 == e).length
theorem many_append (ps qs : List Pt) (e : Int) : many (ps ++ qs) e = many ps e + many qs e := by unfold many; rw [List.filter_append, List.length_append]
theorem many_upto (l : Ly) (ts : List (List Int)) (e : Int) (h0 : 0 ≤ e) (h1 : e < (l.2.1.length : Int)) {i : Nat} (hi : i ≤ ts.length * 2) : (many (upto l ts i) e : Int) = Sl.giv (wants l.1 ts) (l.2.1.length : Int) l.2.2.1 i e := by
  induction i with
  | zero => rw [Sl.giv_zero]; rfl
  | succ i ih =>
    have hl : i < (wants l.1 ts).length := by rw [wants_length]; omega
    rw [upto_succ, many_append]
    have ih' := ih (by omega)
    by_cases hx : (wants l.1 ts).getD i 0 = e
    · by_cases hg : Sl.giv (wants l.1 ts) (l.2.1.length : Int) l.2.2.1 i e < l.2.2.1
      · have hs : slot l ts i = Sl.giv (wants l.1 ts) (l.2.1.length : Int) l.2.2.1 i e := Sl.slot_yes hx h0 h1 hg
        have hp := (Sl.giv_le (wants l.1 ts) (l.2.1.length : Int) l.2.2.1 e i).1
        have h9 : many (one l ts i) e = 1 := by
          unfold one many
          rw [if_pos (by omega), List.filter_cons_of_pos (by show ((wants l.1 ts).getD i 0 == e) = true; rw [hx]; simp)]
          rfl
        rw [h9, Sl.giv_yes hl hx h0 h1 hg]
        omega
      · have hs : slot l ts i = -1 := Sl.slot_no hx (fun h => hg h.2.2)
        have h9 : many (one l ts i) e = 0 := by
          unfold one
          rw [if_neg (by omega)]
          rfl
        rw [h9, Sl.giv_no hl hx (fun h => hg h.2.2)]
        omega
    · have h9 : many (one l ts i) e = 0 := by
        unfold one many
        split
        · rw [List.filter_cons_of_neg (by show ¬ ((wants l.1 ts).getD i 0 == e) = true; simpa using hx)]
          rfl
        · rfl
      rw [h9, Sl.giv_other hl (fun h => hx h.symm)]
      omega
theorem many_parts (l : Ly) (ts : List (List Int)) (e : Int) (h0 : 0 ≤ e) (h1 : e < (l.2.1.length : Int)) (hc : 0 ≤ l.2.2.1) : (many (parts l ts) e : Int) ≤ l.2.2.1 := by
  unfold parts
  rw [many_upto l ts e h0 h1 (Nat.le_refl _)]
  unfold Sl.giv
  split <;> omega
theorem many_take (ps : List Pt) (e : Int) (k : Nat) : many (ps.take k) e ≤ many ps e := by
  have h := many_append (ps.take k) (ps.drop k) e
  rw [List.take_append_drop] at h
  omega
/-- They rise. -/
def at2 (p : Pt) : Int := 2 * p.1 + p.2.1
theorem at2_one {p : Pt} {i : Nat} (h : p ∈ one l ts i) : at2 p = i := by
  obtain ⟨rfl, _⟩ := mem_one h
  show 2 * ((i / 2 : Nat) : Int) + ((i % 2 : Nat) : Int) = i
  omega
theorem rises (l : Ly) (ts : List (List Int)) (n : Nat) : (upto l ts n).Pairwise (fun p q => at2 p < at2 q) := by
  induction n with
  | zero => exact List.Pairwise.nil
  | succ n ih =>
    rw [upto_succ, List.pairwise_append]
    refine ⟨ih, ?_, fun p hp q hq => ?_⟩
    · unfold one; split
      · exact List.pairwise_singleton _ _
      · exact List.Pairwise.nil
    · obtain ⟨i, hi, hp⟩ := mem_upto hp
      rw [at2_one hp, at2_one hq]
      omega
theorem part_is (hl : LRight l dim) (ht : TRight dim ts) {p : Pt} (h : p ∈ parts l ts) : 0 ≤ p.1 ∧ p.1 < (ts.length : Int) ∧ 0 ≤ p.2.1 ∧ p.2.1 ≤ 1 ∧ 0 ≤ p.2.2.1 ∧ p.2.2.1 < (l.2.1.length : Int) ∧ 0 ≤ p.2.2.2.1 ∧ p.2.2.2.1 ≤ 65536 := by
  obtain ⟨f0, f1, f2, f3⟩ := part_fits h
  obtain ⟨i, hi, hp⟩ := mem_upto h
  obtain ⟨rfl, hs⟩ := mem_one hp
  have ht2 : i / 2 < ts.length := by omega
  have hv := (ht.row ht2).1
  have hf := (choice_is hl hv).fair
  refine ⟨f0, f1, ?_, ?_, f2, f3, ?_⟩
  · show (0 : Int) ≤ ((i % 2 : Nat) : Int); omega
  · show ((i % 2 : Nat) : Int) ≤ 1; omega
  · show 0 ≤ (wts l.1 ts).getD i 0 ∧ (wts l.1 ts).getD i 0 ≤ 65536
    unfold wts
    rcases (by omega : i % 2 = 0 ∨ i % 2 = 1) with e | e
    · have e2 : i = i / 2 * 2 := by omega
      rw [e2, duo_even _ _ ts ht2]
      omega
    · have e2 : i = i / 2 * 2 + 1 := by omega
      rw [e2, duo_odd _ _ ts ht2]
      omega
theorem parts_some (hl : LRight l dim) (ht : TRight dim ts) : 1 ≤ (parts l ts).length := by
  have h0 : 0 < ts.length := ht.1
  have hv := (ht.row h0).1
  have hf := (choice_is hl hv).fair
  have hg := hl.gate
  have hc := hl.2.2.2.1
  have hw : (wants l.1 ts).getD 0 0 = first l.1 (ts.getD 0 []) := duo_even (first l.1) (second l.1) ts (t := 0) h0
  have hs : 0 ≤ slot l ts 0 := by
    unfold slot Sl.slot
    rw [hw, Sl.cnt_zero, if_pos (by omega)]
    exact Int.le_refl _
  have h1 : one l ts 0 = [pt ((0 / 2 : Nat) : Int) ((0 % 2 : Nat) : Int) ((wants l.1 ts).getD 0 0) ((wts l.1 ts).getD 0 0)] := by unfold one; rw [if_pos hs]
  have h2 : upto l ts 1 = one l ts 0 := by rw [upto_succ, upto_zero]; rfl
  have h3 : ∀ n, 1 ≤ n → 1 ≤ (upto l ts n).length := by
    intro n
    induction n with
    | zero => intro h; omega
    | succ n ih =>
      intro _
      rcases Nat.eq_zero_or_pos n with e | e
      · subst e; rw [h2, h1]; exact Nat.le_refl _
      · rw [upto_succ, List.length_append]; have := ih e; omega
  exact h3 _ (by omega)
end

end Go.Proofs.Ytmechoeoaadfeaa.Md
