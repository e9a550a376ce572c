/- Models as lists (no program in sight): what Right, Tokens, Parts, Combine and Forward of layer 15 are as functions on lists, and the laws that its statements rest on. -/
import Derived.Test.YtpfhjdlmjehfnaaEx
import Derived.Test.YtpfhjdlmjehfnaaGx
import Derived.Test.YtpfhjdlmjehfnaaVy
import Derived.Test.YtpfhjdlmjehfnaaFl
namespace Go.Proofs.Ytpfhjdlmjehfnaa

abbrev Xp := List (List Int) × List (List Int) × Unit
abbrev Ly := List (List Int) × List Xp × Int × Unit
abbrev Pt := Int × Int × Int × Int × Unit
def xp0 : Xp := ([], [], ())
def ly0 : Ly := ([], [], 0, ())
def pt (t r e w : Int) : Pt := (t, r, e, w, ())
def pt0 : Pt := pt 0 0 0 0

namespace Md

/-! ### Right ones -/
def LRight (l : Ly) (dim : Int) : Prop := 1 ≤ l.2.1.length ∧ l.2.1.length ≤ 8 ∧ Mx.Right l.1 l.2.1.length dim ∧ 1 ≤ l.2.2.1 ∧ l.2.2.1 ≤ 32 ∧ ∀ x ∈ l.2.1, Ex.Right x.1 x.2.1 dim
def Right (dim : Int) (ls : List Ly) : Prop := 1 ≤ dim ∧ dim ≤ 8 ∧ 1 ≤ ls.length ∧ ls.length ≤ 4 ∧ ∀ l ∈ ls, LRight l dim
def TRight (dim : Int) (ts : List (List Int)) : Prop := 1 ≤ ts.length ∧ ts.length ≤ 16 ∧ Mx.Right ts ts.length dim
/-- Short enough to be gone through. -/
def LSmall (l : Ly) : Prop := l.2.1.length ≤ 9 ∧ Mx.Small l.1 ∧ ∀ x ∈ l.2.1, Mx.Small x.1 ∧ Mx.Small x.2.1
def Small (ls : List Ly) : Prop := ls.length ≤ 5 ∧ ∀ l ∈ ls, LSmall l

section
variable {dim : Int} {ts : List (List Int)} {l : Ly} {ls : List Ly}
theorem TRight.row (h : TRight dim ts) {t : Nat} (ht : t < ts.length) : ((ts.getD t []).length : Int) = dim ∧ Mx.In (ts.getD t []) := h.2.2.2 _ (Mx.getD_mem ts t ht)
theorem LRight.fits (h : LRight l dim) {v : List Int} (hv : (v.length : Int) = dim) : Mx.Fits l.1 v.length := fun r hr => by have := (h.2.2.1.2 r hr).1; omega
theorem LRight.gate (h : LRight l dim) : l.1.length = l.2.1.length := by have := h.2.2.1.1; omega
theorem LRight.some (h : LRight l dim) : l.1 ≠ [] := fun e => by have h1 := h.gate; have h2 := h.1; rw [e] at h1; simp at h1; omega
theorem TRight.take (h : TRight dim ts) {k : Nat} (h1 : 1 ≤ k) (h2 : k ≤ ts.length) : TRight dim (ts.take k) := by
  have hl : (ts.take k).length = k := by rw [List.length_take]; omega
  refine ⟨by omega, by have := h.2.1; omega, rfl, fun r hr => h.2.2.2 r (List.mem_of_mem_take hr)⟩
theorem TRight.one (h : TRight dim ts) {t : Nat} (ht : t < ts.length) : TRight dim [ts.getD t []] := ⟨by simp, by simp, rfl, fun r hr => by rw [List.mem_singleton.1 hr]; exact h.row ht⟩
end

/-! ### Two numbers of each row -/
def duo (f g : List Int → Int) (ts : List (List Int)) : List Int := ts.flatMap fun v => [f v, g v]
section
variable (f g : List Int → Int)
theorem duo_length (ts : List (List Int)) : (duo f g ts).length = ts.length * 2 := by
  induction ts with
  | nil => rfl
  | cons v ts ih => show (f v :: g v :: duo f g ts).length = _; simp only [List.length_cons, ih]; omega
theorem duo_snoc (ts : List (List Int)) (v : List Int) : duo f g (ts ++ [v]) = duo f g ts ++ [f v, g v] := by simp [duo]
theorem duo_even (ts : List (List Int)) {t : Nat} (h : t < ts.length) : (duo f g ts).getD (t * 2) 0 = f (ts.getD t []) := by
  induction ts generalizing t with
  | nil => simp at h
  | cons v ts ih =>
    cases t with
    | zero => rfl
    | succ t =>
      show (f v :: g v :: duo f g ts).getD ((t + 1) * 2) 0 = _
      rw [show (t + 1) * 2 = t * 2 + 1 + 1 by omega, List.getD_cons_succ, List.getD_cons_succ, List.getD_cons_succ]
      exact ih (by simpa using h)
theorem duo_odd (ts : List (List Int)) {t : Nat} (h : t < ts.length) : (duo f g ts).getD (t * 2 + 1) 0 = g (ts.getD t []) := by
  induction ts generalizing t with
  | nil => simp at h
  | cons v ts ih =>
    cases t with
    | zero => rfl
    | succ t =>
      show (f v :: g v :: duo f g ts).getD ((t + 1) * 2 + 1) 0 = _
      rw [show (t + 1) * 2 + 1 = (t * 2 + 1) + 1 + 1 by omega, List.getD_cons_succ, List.getD_cons_succ, List.getD_cons_succ]
      exact ih (by simpa using h)
theorem duo_take (ts : List (List Int)) (k : Nat) : duo f g (ts.take k) = (duo f g ts).take (k * 2) := by
  induction ts generalizing k with
  | nil => simp [duo]
  | cons v ts ih =>
    cases k with
    | zero => simp [duo]
    | succ k =>
      show f v :: g v :: duo f g (ts.take k) = (f v :: g v :: duo f g ts).take ((k + 1) * 2)
      rw [show (k + 1) * 2 = k * 2 + 1 + 1 by omega, List.take_succ_cons, List.take_succ_cons, ih]
end

/-! ### Parts -/
def first (m : List (List Int)) (v : List Int) : Int := Tx.best (Mx.app m v)
def second (m : List (List Int)) (v : List Int) : Int := Tx.second (Mx.app m v)
def w1 (m : List (List Int)) (v : List Int) : Int := Gx.part (Mx.app m v)
def w2 (m : List (List Int)) (v : List Int) : Int := 65536 - Gx.part (Mx.app m v)
def wants (m : List (List Int)) (ts : List (List Int)) : List Int := duo (first m) (second m) ts
def wts (m : List (List Int)) (ts : List (List Int)) : List Int := duo (w1 m) (w2 m) ts
def slot (l : Ly) (ts : List (List Int)) (i : Nat) : Int := Sl.slot (wants l.1 ts) (l.2.1.length : Int) l.2.2.1 i
/-- The part at the flat place i, if it has a slot. -/
def one (l : Ly) (ts : List (List Int)) (i : Nat) : List Pt := if 0 ≤ slot l ts i then [pt ((i / 2 : Nat) : Int) ((i % 2 : Nat) : Int) ((wants l.1 ts).getD i 0) ((wts l.1 ts).getD i 0)] else []
def upto (l : Ly) (ts : List (List Int)) (i : Nat) : List Pt := (List.range i).flatMap (one l ts)
def parts (l : Ly) (ts : List (List Int)) : List Pt := upto l ts (ts.length * 2)

section
variable {dim : Int} {ts : List (List Int)} {l : Ly}
theorem choice_is (hl : LRight l dim) {v : List Int} (hv : (v.length : Int) = dim) : Gx.Is l.1 v (first l.1 v) (second l.1 v) (w1 l.1 v) (w2 l.1 v) true :=
  .inr ⟨rfl, hl.fits hv, hl.some, rfl, rfl, rfl, rfl⟩
theorem wants_length (m : List (List Int)) (ts : List (List Int)) : (wants m ts).length = ts.length * 2 := duo_length _ _ _
theorem wts_length (m : List (List Int)) (ts : List (List Int)) : (wts m ts).length = ts.length * 2 := duo_length _ _ _
theorem upto_zero (l : Ly) (ts : List (List Int)) : upto l ts 0 = [] := rfl
theorem upto_succ (l : Ly) (ts : List (List Int)) (i : Nat) : upto l ts (i + 1) = upto l ts i ++ one l ts i := by simp [upto, List.range_succ]
theorem upto_token (l : Ly) (ts : List (List Int)) (t : Nat) : upto l ts ((t + 1) * 2) = upto l ts (t * 2) ++ (one l ts (t * 2) ++ one l ts (t * 2 + 1)) := by
  rw [show (t + 1) * 2 = t * 2 + 1 + 1 by omega, upto_succ, upto_succ, List.append_assoc]
theorem one_even (l : Ly) {ts : List (List Int)} {t : Nat} (h : t < ts.length) : one l ts (t * 2) = if 0 ≤ slot l ts (t * 2) then [pt t 0 (first l.1 (ts.getD t [])) (w1 l.1 (ts.getD t []))] else [] := by
  unfold one wants wts
  rw [duo_even _ _ ts h, duo_even _ _ ts h, show t * 2 / 2 = t by omega, show t * 2 % 2 = 0 by omega]
  rfl
theorem one_odd (l : Ly) {ts : List (List Int)} {t : Nat} (h : t < ts.length) : one l ts (t * 2 + 1) = if 0 ≤ slot l ts (t * 2 + 1) then [pt t 1 (second l.1 (ts.getD t [])) (w2 l.1 (ts.getD t []))] else [] := by
  unfold one wants wts
  rw [duo_odd _ _ ts h, duo_odd _ _ ts h, show (t * 2 + 1) / 2 = t by omega, show (t * 2 + 1) % 2 = 1 by omega]
  rfl
theorem one_len (l : Ly) (ts : List (List Int)) (i : Nat) : (one l ts i).length ≤ 1 := by unfold one; split <;> simp
theorem upto_len (l : Ly) (ts : List (List Int)) (i : Nat) : (upto l ts i).length ≤ i := by
  induction i with
  | zero => simp [upto]
  | succ i ih => rw [upto_succ, List.length_append]; have := one_len l ts i; omega
/-- What a part is. -/
theorem mem_one {p : Pt} {i : Nat} (h : p ∈ one l ts i) : p = pt ((i / 2 : Nat) : Int) ((i % 2 : Nat) : Int) ((wants l.1 ts).getD i 0) ((wts l.1 ts).getD i 0) ∧ 0 ≤ slot l ts i := by
  unfold one at h
  split at h
  · rename_i h2; exact ⟨List.mem_singleton.1 h, h2⟩
  · simp at h
theorem mem_upto {p : Pt} {n : Nat} (h : p ∈ upto l ts n) : ∃ i, i < n ∧ p ∈ one l ts i := by
  obtain ⟨i, hi, hp⟩ := List.mem_flatMap.1 h
  exact ⟨i, List.mem_range.1 hi, hp⟩
theorem slot_expert {i : Nat} (h : 0 ≤ slot l ts i) : 0 ≤ (wants l.1 ts).getD i 0 ∧ (wants l.1 ts).getD i 0 < (l.2.1.length : Int) := by
  unfold slot Sl.slot at h
  split at h
  · rename_i h2; exact ⟨h2.1, h2.2.1⟩
  · omega
theorem part_fits {p : Pt} (h : p ∈ parts l ts) : 0 ≤ p.1 ∧ p.1 < (ts.length : Int) ∧ 0 ≤ p.2.2.1 ∧ p.2.2.1 < (l.2.1.length : Int) := by
  obtain ⟨i, hi, hp⟩ := mem_upto h
  obtain ⟨rfl, hs⟩ := mem_one hp
  have he := slot_expert hs
  refine ⟨?_, ?_, he.1, he.2⟩
  · show (0 : Int) ≤ ((i / 2 : Nat) : Int); omega
  · show ((i / 2 : Nat) : Int) < _; omega

/-! ### Those of one token -/
theorem filter_one (l : Ly) (ts : List (List Int)) (i t : Nat) : (one l ts i).filter (fun p => p.1 == (t : Int)) = if i / 2 = t then one l ts i else [] := by
  unfold one
  split
  · by_cases h : i / 2 = t
    · rw [if_pos h, List.filter_cons_of_pos (by show (((i / 2 : Nat) : Int) == (t : Int)) = true; rw [h]; simp)]; rfl
    · rw [if_neg h, List.filter_cons_of_neg (by show ¬ (((i / 2 : Nat) : Int) == (t : Int)) = true; simp; omega)]; rfl
  · split <;> rfl
theorem filter_upto (l : Ly) (ts : List (List Int)) (n t : Nat) : (upto l ts (n * 2)).filter (fun p => p.1 == (t : Int)) = if t < n then one l ts (t * 2) ++ one l ts (t * 2 + 1) else [] := by
  induction n with
  | zero => simp [upto]
  | succ n ih =>
    rw [upto_token, List.filter_append, List.filter_append, ih, filter_one, filter_one, show n * 2 / 2 = n by omega, show (n * 2 + 1) / 2 = n by omega]
    by_cases h : n = t
    · subst h; rw [if_neg (by omega), if_pos rfl, if_pos rfl, if_pos (by omega)]; rfl
    · rw [if_neg h, if_neg h]
      by_cases h2 : t < n
      · rw [if_pos h2, if_pos (by omega)]; simp
      · rw [if_neg h2, if_neg (by omega)]; rfl
theorem filter_parts (l : Ly) {ts : List (List Int)} {t : Nat} (h : t < ts.length) : (parts l ts).filter (fun p => p.1 == (t : Int)) = one l ts (t * 2) ++ one l ts (t * 2 + 1) := by
  unfold parts; rw [filter_upto, if_pos h]
end

/-! ### Forward -/
/-- What expert e makes of v. -/
def ans (l : Ly) (v : List Int) (e : Int) : List Int := Ex.run (l.2.1.getD e.toNat xp0).1 (l.2.1.getD e.toNat xp0).2.1 v
def grow (l : Ly) (v0 v : List Int) (p : Pt) : List Int := Vx.add v (Vx.scale (ans l v0 p.2.2.1) p.2.2.2.1)
def out (l : Ly) (ts : List (List Int)) (t : Nat) : List Int := (one l ts (t * 2) ++ one l ts (t * 2 + 1)).foldl (grow l (ts.getD t [])) (ts.getD t [])
def stepTo (l : Ly) (ts : List (List Int)) (k : Nat) : List (List Int) := (List.range k).map (out l ts)
def step (l : Ly) (ts : List (List Int)) : List (List Int) := stepTo l ts ts.length
def forward (ls : List Ly) (ts : List (List Int)) : List (List Int) := ls.foldl (fun ts l => step l ts) ts

section
variable {dim : Int} {ts : List (List Int)} {l : Ly} {ls : List Ly}
theorem stepTo_len (l : Ly) (ts : List (List Int)) (k : Nat) : (stepTo l ts k).length = k := by simp [stepTo]
theorem stepTo_succ (l : Ly) (ts : List (List Int)) (k : Nat) : stepTo l ts (k + 1) = stepTo l ts k ++ [out l ts k] := by simp [stepTo, List.range_succ]
theorem step_len (l : Ly) (ts : List (List Int)) : (step l ts).length = ts.length := stepTo_len _ _ _
theorem step_at (l : Ly) {ts : List (List Int)} {t : Nat} (h : t < ts.length) : (step l ts).getD t [] = out l ts t := by
  unfold step stepTo
  rw [List.getD_eq_getElem?_getD, List.getElem?_map, List.getElem?_range h]
  rfl
theorem forward_len (ls : List Ly) (ts : List (List Int)) : (forward ls ts).length = ts.length := by
  induction ls generalizing ts with
  | nil => rfl
  | cons l ls ih => exact (ih (step l ts)).trans (step_len l ts)
theorem forward_cons (l : Ly) (ls : List Ly) (ts : List (List Int)) : forward (l :: ls) ts = forward ls (step l ts) := rfl
theorem forward_append (ls ms : List Ly) (ts : List (List Int)) : forward (ls ++ ms) ts = forward ms (forward ls ts) := List.foldl_append ..
theorem forward_snoc (ls : List Ly) (l : Ly) (ts : List (List Int)) : forward (ls ++ [l]) ts = step l (forward ls ts) := forward_append _ _ _

/-- What is added is held, and as long as it was. -/
theorem add_in {a b : List Int} : Mx.In (Vx.add a b) := by
  intro n hn
  unfold Vx.add at hn
  rw [List.mem_iff_getElem] at hn
  obtain ⟨i, hi, rfl⟩ := hn
  rw [List.getElem_zipWith]
  unfold Fx.add
  exact Fx.hold_id (Fx.hold_lo _) (Fx.hold_hi _)
theorem ans_len (hl : LRight l dim) {v : List Int} (hv : (v.length : Int) = dim) {e : Int} (h0 : 0 ≤ e) (h1 : e < (l.2.1.length : Int)) : (ans l v e).length = v.length := by
  have hm : l.2.1.getD e.toNat xp0 ∈ l.2.1 := by rw [List.getD_eq_getElem?_getD, List.getElem?_eq_getElem (by omega)]; exact List.getElem_mem _
  have hR := hl.2.2.2.2.2 _ hm
  rw [← hv] at hR
  exact Ex.run_length v hR
theorem ans_right (hl : LRight l dim) {e : Int} (h0 : 0 ≤ e) (h1 : e < (l.2.1.length : Int)) : Ex.Right (l.2.1.getD e.toNat xp0).1 (l.2.1.getD e.toNat xp0).2.1 dim := by
  have hm : l.2.1.getD e.toNat xp0 ∈ l.2.1 := by rw [List.getD_eq_getElem?_getD, List.getElem?_eq_getElem (by omega)]; exact List.getElem_mem _
  exact hl.2.2.2.2.2 _ hm
theorem grows (hl : LRight l dim) {v0 : List Int} (hv : (v0.length : Int) = dim) (ps : List Pt) (hp : ∀ p ∈ ps, 0 ≤ p.2.2.1 ∧ p.2.2.1 < (l.2.1.length : Int)) (v : List Int) (hlen : v.length = v0.length) (hin : Mx.In v) :
    (ps.foldl (grow l v0) v).length = v0.length ∧ Mx.In (ps.foldl (grow l v0) v) := by
  induction ps generalizing v with
  | nil => exact ⟨hlen, hin⟩
  | cons p ps ih =>
    have h1 := hp p (by simp)
    refine ih (fun q hq => hp q (by simp [hq])) (grow l v0 v p) ?_ add_in
    unfold grow
    rw [Vx.add_length _ _ (by rw [Vx.scale_length, ans_len hl hv h1.1 h1.2, hlen]), hlen]
theorem one_experts {i : Nat} : ∀ p ∈ one l ts i, 0 ≤ p.2.2.1 ∧ p.2.2.1 < (l.2.1.length : Int) := by
  intro p hp
  obtain ⟨rfl, hs⟩ := mem_one hp
  exact slot_expert hs
theorem two_experts {i j : Nat} : ∀ p ∈ one l ts i ++ one l ts j, 0 ≤ p.2.2.1 ∧ p.2.2.1 < (l.2.1.length : Int) := by
  intro p hp
  rcases List.mem_append.1 hp with hp | hp
  · exact one_experts p hp
  · exact one_experts p hp
theorem out_right (hl : LRight l dim) (ht : TRight dim ts) {t : Nat} (h : t < ts.length) : ((out l ts t).length : Int) = dim ∧ Mx.In (out l ts t) := by
  have h1 := ht.row h
  have h2 := grows hl h1.1 (one l ts (t * 2) ++ one l ts (t * 2 + 1)) two_experts (ts.getD t []) rfl h1.2
  exact ⟨by unfold out; rw [h2.1]; exact h1.1, h2.2⟩
theorem step_right (hl : LRight l dim) (ht : TRight dim ts) : TRight dim (step l ts) := by
  refine ⟨by rw [step_len]; exact ht.1, by rw [step_len]; exact ht.2.1, rfl, fun r hr => ?_⟩
  obtain ⟨t, h, rfl⟩ := List.mem_map.1 hr
  exact out_right hl ht (List.mem_range.1 h)
theorem forward_right (hl : ∀ l ∈ ls, LRight l dim) (ht : TRight dim ts) : TRight dim (forward ls ts) := by
  induction ls generalizing ts with
  | nil => exact ht
  | cons l ls ih => exact ih (fun m hm => hl m (by simp [hm])) (step_right (hl l (by simp)) ht)
end

/-! ### Combine -/
def put (o : List (List Int)) (p : Pt) (a : List Int) : List (List Int) :=
  if 0 ≤ p.1 ∧ p.1 < (o.length : Int) ∧ (o.getD p.1.toNat []).length = a.length then o.set p.1.toNat (Vx.add (o.getD p.1.toNat []) (Vx.scale a p.2.2.2.1)) else o
def puts (o : List (List Int)) (xs : List (Pt × List Int)) : List (List Int) := xs.foldl (fun o x => put o x.1 x.2) o
def combine (ts : List (List Int)) (ps : List Pt) (as : List (List Int)) : List (List Int) := puts ts (ps.zip as)
section
variable {dim : Int} {ts : List (List Int)} {l : Ly}
theorem combine_none (ts : List (List Int)) (ps : List Pt) : combine ts ps [] = ts := by unfold combine; rw [List.zip_nil_right]; rfl
theorem put_len (o : List (List Int)) (p : Pt) (a : List Int) : (put o p a).length = o.length := by unfold put; split <;> simp
theorem puts_len (o : List (List Int)) (xs : List (Pt × List Int)) : (puts o xs).length = o.length := by
  induction xs generalizing o with
  | nil => rfl
  | cons x xs ih => exact (ih (put o x.1 x.2)).trans (put_len _ _ _)
theorem puts_snoc (o : List (List Int)) (xs : List (Pt × List Int)) (x : Pt × List Int) : puts o (xs ++ [x]) = put (puts o xs) x.1 x.2 := by unfold puts; rw [List.foldl_append]; rfl
theorem put_at {o : List (List Int)} {p : Pt} {a : List Int} {t : Nat} (h0 : 0 ≤ p.1) (h1 : p.1 < (o.length : Int)) (h2 : (o.getD p.1.toNat []).length = a.length) :
    (put o p a).getD t [] = if p.1 == (t : Int) then Vx.add (o.getD t []) (Vx.scale a p.2.2.2.1) else o.getD t [] := by
  unfold put
  rw [if_pos ⟨h0, h1, h2⟩]
  by_cases h : p.1 = (t : Int)
  · rw [if_pos (by simpa using h)]
    have e : p.1.toNat = t := by omega
    rw [e, List.getD_eq_getElem?_getD, List.getElem?_set_self (by omega)]
    rfl
  · rw [if_neg (by simpa using h), List.getD_eq_getElem?_getD, List.getElem?_set_ne (by omega), List.getD_eq_getElem?_getD]
theorem puts_at {n : Nat} {o : List (List Int)} (hn : ∀ t, t < o.length → (o.getD t []).length = n) (xs : List (Pt × List Int)) (hx : ∀ x ∈ xs, 0 ≤ x.1.1 ∧ x.1.1 < (o.length : Int) ∧ x.2.length = n) {t : Nat} (ht : t < o.length) :
    (puts o xs).getD t [] = (xs.filter fun x => x.1.1 == (t : Int)).foldl (fun v x => Vx.add v (Vx.scale x.2 x.1.2.2.2.1)) (o.getD t []) := by
  induction xs generalizing o with
  | nil => rfl
  | cons x xs ih =>
    obtain ⟨h0, h1, h2⟩ := hx x (by simp)
    have h3 : (o.getD x.1.1.toNat []).length = x.2.length := by rw [hn _ (by omega), h2]
    have hp := fun t => put_at (t := t) h0 h1 h3
    have ih' := ih (o := put o x.1 x.2) (fun s hs => by
      rw [put_len] at hs
      rw [hp s]
      split
      · rw [Vx.add_length _ _ (by rw [Vx.scale_length, h2, hn s hs]), hn s hs]
      · exact hn s hs) (fun y hy => by rw [put_len]; exact hx y (by simp [hy])) (by rw [put_len]; exact ht)
    show (puts (put o x.1 x.2) xs).getD t [] = _
    rw [ih', hp t]
    by_cases h : (x.1.1 == (t : Int)) = true
    · rw [if_pos h, List.filter_cons_of_pos (p := fun x : Pt × List Int => x.1.1 == (t : Int)) h]; rfl
    · rw [if_neg h, List.filter_cons_of_neg (p := fun x : Pt × List Int => x.1.1 == (t : Int)) h]
theorem list_ext {a b : List (List Int)} (hl : a.length = b.length) (h : ∀ t, t < a.length → a.getD t [] = b.getD t []) : a = b := by
  apply List.ext_getElem hl
  intro i h1 h2
  have := h i h1
  rw [List.getD_eq_getElem?_getD, List.getD_eq_getElem?_getD, List.getElem?_eq_getElem h1, List.getElem?_eq_getElem h2] at this
  exact this
theorem zip_map {α β : Type} (ps : List α) (f : α → β) : ps.zip (ps.map f) = ps.map fun p => (p, f p) := by
  induction ps with
  | nil => rfl
  | cons p ps ih => simp [ih]
/-- The answers of parts. -/
def answers (l : Ly) (ts : List (List Int)) (ps : List Pt) : List (List Int) := ps.map fun p => ans l (ts.getD p.1.toNat []) p.2.2.1
theorem foldl_same (l : Ly) (ts : List (List Int)) (t : Nat) (ps : List Pt) (h : ∀ p ∈ ps, p.1 = (t : Int)) (v : List Int) :
    (ps.map fun p => (p, ans l (ts.getD p.1.toNat []) p.2.2.1)).foldl (fun v (x : Pt × List Int) => Vx.add v (Vx.scale x.2 x.1.2.2.2.1)) v = ps.foldl (grow l (ts.getD t [])) v := by
  induction ps generalizing v with
  | nil => rfl
  | cons p ps ih =>
    have e : p.1.toNat = t := by have := h p (by simp); omega
    show (ps.map _).foldl _ (Vx.add v (Vx.scale (ans l (ts.getD p.1.toNat []) p.2.2.1) p.2.2.2.1)) = ps.foldl _ (grow l (ts.getD t []) v p)
    rw [ih (fun q hq => h q (by simp [hq])), e]
    rfl
theorem combine_step (hl : LRight l dim) (ht : TRight dim ts) : combine ts (parts l ts) (answers l ts (parts l ts)) = step l ts := by
  unfold combine answers
  rw [zip_map]
  refine list_ext (by rw [puts_len, step_len]) fun t h => ?_
  rw [puts_len] at h
  rw [puts_at (n := dim.toNat) (fun s hs => by have := (ht.row hs).1; omega) _ (fun x hx => ?_) h, step_at l h]
  · rw [List.filter_map]
    have e : (fun x : Pt × List Int => x.1.1 == (t : Int)) ∘ (fun p : Pt => (p, ans l (ts.getD p.1.toNat []) p.2.2.1)) = fun p => p.1 == (t : Int) := rfl
    rw [e, foldl_same l ts t _ (fun p hp => by have := (List.mem_filter.1 hp).2; simpa using this), filter_parts l h]
    rfl
  · obtain ⟨p, hp, rfl⟩ := List.mem_map.1 hx
    obtain ⟨h0, h1, h2, h3⟩ := part_fits hp
    have h4 := (ht.row (t := p.1.toNat) (by omega)).1
    refine ⟨h0, h1, ?_⟩
    show (ans l (ts.getD p.1.toNat []) p.2.2.1).length = _
    rw [ans_len hl h4 h2 h3]
    omega
end

end Md
end Go.Proofs.Ytpfhjdlmjehfnaa
