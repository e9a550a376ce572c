/- 3 texts as one, in their order: ScM, ScN, ScS. -/
import Derived.Test.YtokfcjgfpchffaaGreatDoorSl
import Derived.Test.YtokfcjgfpchffaaGreatDoorJz

/- The machine of scripts over lists: what a line does and tells, what a script tells (no program in sight but what lies beneath Alive). -/
namespace Go.Proofs.YtokfcjgfpchffaaGreatDoor.Sc
open Go.Proofs.YtokfcjgfpchffaaGreatDoor Go.Proofs.YtokfcjgfpchffaaGreatDoor.Sh

/-! ### A script's fleet -/
def lyS : Ly := ([[65536], [0]], [([[65536]], [[65536]], ()), ([[65536]], [[131072]], ())], 2, ())
def msS : List Ly := [lyS]
def hS : List (List Int) := [[1, 2], [1, 2]]
def tS : List (List Int) := [[100], [50], [7]]
theorem row_one (n : Int) (h : Fx.hold n = n) : Mx.Right [[n]] 1 1 := ⟨rfl, fun l hl => by rw [List.mem_singleton.1 hl]; exact ⟨rfl, fun x hx => by rw [List.mem_singleton.1 hx]; exact h⟩⟩
theorem mayS : May 1 msS 0 hS tS := by
  refine ⟨⟨by decide, by decide, by decide, by decide, fun l hl => ?_⟩, ⟨by decide, by decide, rfl, fun l hl => ?_⟩, ⟨by decide, by decide, fun l hl => ?_⟩, fun l hl => ?_⟩
  · rw [List.mem_singleton.1 hl]
    refine ⟨by decide, by decide, ⟨rfl, fun r hr => ?_⟩, by decide, by decide, fun x hx => ?_⟩
    · rcases List.mem_cons.1 hr with h | h
      · rw [h]; exact ⟨rfl, fun n hn => by rw [List.mem_singleton.1 hn]; rfl⟩
      · rw [List.mem_singleton.1 h]; exact ⟨rfl, fun n hn => by rw [List.mem_singleton.1 hn]; rfl⟩
    · rcases List.mem_cons.1 hx with h | h
      · rw [h]; exact ⟨by decide, by decide, row_one _ rfl, row_one _ rfl⟩
      · rw [List.mem_singleton.1 h]; exact ⟨by decide, by decide, row_one _ rfl, row_one _ rfl⟩
  · simp only [tS, List.mem_cons, List.not_mem_nil, or_false] at hl
    rcases hl with h | h | h <;> (rw [h]; exact ⟨rfl, fun n hn => by rw [List.mem_singleton.1 hn]; rfl⟩)
  · simp only [hS, List.mem_cons, List.not_mem_nil, or_false, or_self] at hl
    rw [hl]
    exact ⟨by decide, by decide, by decide⟩
  · rw [List.mem_singleton.1 hl]
    decide
noncomputable def begun : Ft.St := Ft.start msS 0 hS tS
theorem begun_alive : Alive 1 msS tS begun := Alive.start mayS

/-! ### A line -/
def told (e : Int) : List UInt8 := if e = 0 then okW else errW ++ dig e.toNat
open Classical in
noncomputable def addS (e : Int) (h : List (List Int)) (x n : Int) : Int × List (List Int) × Int :=
  if Pl.Wrong e h x n then (e, h, 1) else if Pl.Holds h x n then (e, h, 5) else (e + 1, Pl.turn h x n true, 0)
open Classical in
noncomputable def retS (e : Int) (h : List (List Int)) (x n : Int) : Int × List (List Int) × Int :=
  if Pl.Wrong e h x n then (e, h, 1) else if ¬ Pl.Holds h x n then (e, h, 4) else if (h.getD x.toNat []).length = 1 then (e, h, 7) else (e + 1, Pl.turn h x n false, 0)
theorem addS_is (e : Int) (h : List (List Int)) (x n : Int) : Pl.Add e h x n (addS e h x n).1 (addS e h x n).2.1 (addS e h x n).2.2 := by
  unfold addS
  split
  · exact .inl ⟨by assumption, rfl, rfl, rfl⟩
  · split
    · exact .inr (.inl ⟨by assumption, by assumption, rfl, rfl, rfl⟩)
    · exact .inr (.inr ⟨by assumption, by assumption, rfl, rfl, rfl⟩)
theorem retS_is (e : Int) (h : List (List Int)) (x n : Int) : Pl.Ret e h x n (retS e h x n).1 (retS e h x n).2.1 (retS e h x n).2.2 := by
  unfold retS
  split
  · exact .inl ⟨by assumption, rfl, rfl, rfl⟩
  · split
    · exact .inr (.inl ⟨by assumption, by assumption, rfl, rfl, rfl⟩)
    · rename_i h1 h2
      split
      · exact .inr (.inr (.inl ⟨h1, Classical.not_not.1 h2, by assumption, rfl, rfl, rfl⟩))
      · exact .inr (.inr (.inr ⟨h1, Classical.not_not.1 h2, by assumption, rfl, rfl, rfl⟩))
/-- What is done with: each token's number. -/
def doneS (toks : List (List Int)) : List UInt8 := (toks.flatten.map fun n => 32 :: dig n.toNat).flatten
/-- What a line does, and tells: of its first word, and of the numbers behind. -/
noncomputable def act (s : Ft.St) (w : List UInt8) (l : List Nat) : Ft.St × List UInt8 :=
  if w = askW ∧ l.length = 0 then (Ft.ask msS s, okW) else
  if w = deliverW ∧ l.length = 1 then (Ft.deliver 1 msS s (l.getD 0 0), told (if l.getD 0 0 < s.bag.length then 0 else 4)) else
  if w = dropW ∧ l.length = 1 then (Ft.drop s (l.getD 0 0), told (if l.getD 0 0 < s.bag.length then 0 else 4)) else
  if w = twiceW ∧ l.length = 1 then (Ft.twice s (l.getD 0 0), told (if l.getD 0 0 < s.bag.length then 0 else 4)) else
  if w = addW ∧ l.length = 2 then (Ft.turned s (addS s.e s.h (l.getD 0 0 : Nat) (l.getD 1 0 : Nat)).1 (addS s.e s.h (l.getD 0 0 : Nat) (l.getD 1 0 : Nat)).2.1, told (addS s.e s.h (l.getD 0 0 : Nat) (l.getD 1 0 : Nat)).2.2) else
  if w = retireW ∧ l.length = 2 then (Ft.turned s (retS s.e s.h (l.getD 0 0 : Nat) (l.getD 1 0 : Nat)).1 (retS s.e s.h (l.getD 0 0 : Nat) (l.getD 1 0 : Nat)).2.1, told (retS s.e s.h (l.getD 0 0 : Nat) (l.getD 1 0 : Nat)).2.2) else
  if w = bagW ∧ l.length = 0 then (s, okW ++ 32 :: (dig s.bag.length ++ 32 :: dig (Ft.worked s))) else
  if w = doneW ∧ l.length = 0 then (s, okW ++ (if s.lay = msS.length then doneS s.toks else [])) else
  (s, told 2)
open Classical in
noncomputable def tell (s : Ft.St) (line : List UInt8) : Ft.St × List UInt8 :=
  if ∀ x ∈ (pieces 32 line).tail, Num x then act s ((pieces 32 line).headD []) ((pieces 32 line).tail.map val) else (s, told 2)
theorem act_alive {s : Ft.St} (H : Alive 1 msS tS s) (w : List UInt8) (l : List Nat) : Alive 1 msS tS (act s w l).1 := by
  unfold act
  repeat' split
  all_goals first
    | exact H.ask
    | exact H.deliver _
    | exact H.drop _
    | exact H.twice _
    | exact H.turned (Pl.Add.right (addS_is _ _ _ _) H.i.map) (Pl.Add.len (addS_is _ _ _ _))
    | exact H.turned (Pl.Ret.right (retS_is _ _ _ _) H.i.map) (Pl.Ret.len (retS_is _ _ _ _))
    | exact H
theorem tell_alive {s : Ft.St} (H : Alive 1 msS tS s) (line : List UInt8) : Alive 1 msS tS (tell s line).1 := by
  unfold tell
  split
  · exact act_alive H _ _
  · exact H

/-! ### A script -/
noncomputable def after (s : Ft.St) : List (List UInt8) → Ft.St
  | [] => s
  | l :: r => after (tell s l).1 r
noncomputable def run (s : Ft.St) : List (List UInt8) → List UInt8
  | [] => []
  | l :: r => (tell s l).2 ++ 10 :: run (tell s l).1 r
theorem after_app (a b : List (List UInt8)) : ∀ s, after s (a ++ b) = after (after s a) b := by
  induction a with
  | nil => intro s; rfl
  | cons l r ih => intro s; exact ih _
theorem run_app (a b : List (List UInt8)) : ∀ s, run s (a ++ b) = run s a ++ run (after s a) b := by
  induction a with
  | nil => intro s; rfl
  | cons l r ih =>
    intro s
    show (tell s l).2 ++ 10 :: run (tell s l).1 (r ++ b) = ((tell s l).2 ++ 10 :: run (tell s l).1 r) ++ _
    rw [ih, List.append_assoc]
    rfl
theorem after_alive (l : List (List UInt8)) : ∀ {s}, Alive 1 msS tS s → Alive 1 msS tS (after s l) := by
  induction l with
  | nil => intro s h; exact h
  | cons x r ih => intro s h; exact ih (tell_alive h x)
/-- The pieces of two texts, the byte between. -/
theorem pieces_app (c : UInt8) (b : List UInt8) : ∀ a, pieces c (a ++ c :: b) = pieces c a ++ pieces c b := by
  intro a
  induction a with
  | nil => exact pieces_hit c b
  | cons x r ih =>
    by_cases h : x = c
    · subst h
      show pieces x (x :: (r ++ x :: b)) = _
      rw [pieces_hit, pieces_hit, ih]
      rfl
    · obtain ⟨p, ps, hp⟩ := List.exists_cons_of_ne_nil (pieces_ne c r)
      have h1 : pieces c (r ++ c :: b) = p :: (ps ++ pieces c b) := by rw [ih, hp]; rfl
      show pieces c (x :: (r ++ c :: b)) = _
      rw [pieces_miss h h1, pieces_miss h hp]
      rfl
/-- A script's lines. -/
def lines (t : List UInt8) : List (List UInt8) := if t = [] then [] else if (pieces 10 t).getLast? = some [] then (pieces 10 t).dropLast else pieces 10 t
theorem lines_end (t : List UInt8) : lines (t ++ [10]) = pieces 10 t := by
  have h : pieces 10 (t ++ [10]) = pieces 10 t ++ [[]] := pieces_app 10 [] t
  unfold lines
  rw [if_neg (by simp), h, List.getLast?_append, List.getLast?_singleton]
  simp
theorem lines_more (t m : List UInt8) : ∃ r, lines (t ++ 10 :: m) = pieces 10 t ++ r := by
  have h : pieces 10 (t ++ 10 :: m) = pieces 10 t ++ pieces 10 m := pieces_app 10 m t
  unfold lines
  rw [if_neg (by simp), h]
  split
  · exact ⟨(pieces 10 m).dropLast, List.dropLast_append_of_ne_nil (pieces_ne 10 m)⟩
  · exact ⟨pieces 10 m, rfl⟩
noncomputable def report (t : List UInt8) : List UInt8 := run begun (lines t)
/-- What follows: a script's report begins with that of its beginning. -/
theorem report_goes (t m : List UInt8) : ∃ r, report (t ++ 10 :: m) = report (t ++ [10]) ++ r := by
  obtain ⟨r, hr⟩ := lines_more t m
  unfold report
  rw [hr, lines_end, run_app]
  exact ⟨_, rfl⟩

end Go.Proofs.YtokfcjgfpchffaaGreatDoor.Sc

/- Scripts that play a fleet to its end (no program in sight but what lies beneath Alive). -/
namespace Go.Proofs.YtokfcjgfpchffaaGreatDoor.Sc
open Go.Proofs.YtokfcjgfpchffaaGreatDoor Go.Proofs.YtokfcjgfpchffaaGreatDoor.Sh Go.Proofs.YtokfcjgfpchffaaGreatDoor.Ft Go.Proofs.YtokfcjgfpchffaaGreatDoor.Nd

/-! ### Of one layer: what is delivered in order becomes less, and nothing new is asked -/
section
variable {dim : Int} {ms : List Ly} {T : List (List Int)} {s : Ft.St}
theorem on_load (hm : ms.length = 1) (s : Ft.St) : Ft.load (on ms s).bag ≤ Ft.load s.bag := by
  unfold on
  split
  · rename_i h
    have h1 := h.1
    unfold Ft.enter Ft.ask
    rw [if_neg (by show ¬ (s.lay + 1) < ms.length; omega)]
    exact Nat.le_refl _
  · exact Nat.le_refl _
theorem took_load (hm : ms.length = 1) (s : Ft.St) (m : Wx.Msg) : Ft.load (took dim ms s m).bag + 1 ≤ Ft.load s.bag + Ft.weight m := by
  unfold took
  have hw := weight_le m
  by_cases h1 : 1 ≤ m.to ∧ m.to ≤ 4
  · rw [if_pos h1]
    have aux : ∀ (l : List En) (out : Wx.Msg), Ft.weight m = 2 → Ft.weight out = 1 → Ft.load ({ s with ls := s.ls.set (m.to - 1).toNat l, bag := Ft.put s.bag out } : Ft.St).bag + 1 ≤ Ft.load s.bag + Ft.weight m := fun l out h2 h3 => by
      have := load_put s.bag out
      show Ft.load (Ft.put s.bag out) + 1 ≤ Ft.load s.bag + Ft.weight m
      omega
    rcases work_ways dim ms s.e s.h m.to (s.ls.getD (m.to - 1).toNat []) m with ⟨_, e⟩ | ⟨hf, _, e⟩ | ⟨hf, _, v, hg, e⟩ | ⟨hf, _, hg, e⟩
    · rw [e]; show Ft.load s.bag + 1 ≤ _; omega
    · rw [e]; exact aux _ _ (by unfold Ft.weight; rw [if_pos hf.2.2.2.1]) rfl
    · rw [e]; exact aux _ _ (by unfold Ft.weight; rw [if_pos hf.2.2.2.1]) rfl
    · rw [e]; exact aux _ _ (by unfold Ft.weight; rw [if_pos hf.2.2.2.1]) rfl
  · rw [if_neg h1]
    split
    · split
      · omega
      · rename_i j _
        have := on_load hm { s with ans := s.ans.set j (some m.vec) }
        exact Nat.le_trans (Nat.succ_le_succ this) (by show Ft.load s.bag + 1 ≤ _; omega)
    · omega
theorem deliver_load (hm : ms.length = 1) (hb : s.bag ≠ []) : Ft.load (Ft.deliver dim ms s 0).bag + 1 ≤ Ft.load s.bag := by
  unfold Ft.deliver
  rw [if_pos (List.length_pos_iff.2 hb)]
  have h1 := took_load (dim := dim) hm (Ft.drop s 0) (s.bag.getD 0 Wx.zero)
  cases hs : s.bag with
  | nil => exact absurd hs hb
  | cons m b =>
    have h2 : Ft.load (Ft.drop s 0).bag + Ft.weight (s.bag.getD 0 Wx.zero) = Ft.load s.bag := by
      show Ft.load (s.bag.eraseIdx 0) + Ft.weight (s.bag.getD 0 Wx.zero) = Ft.load s.bag
      rw [hs]
      show Ft.load b + Ft.weight m = Ft.load (m :: b)
      rw [load_cons]; omega
    rw [← hs]
    omega
theorem run_load (hm : ms.length = 1) (s : Ft.St) (k : Nat) : (Ft.run dim ms k s).bag = [] ∨ Ft.load (Ft.run dim ms k s).bag + k ≤ Ft.load s.bag := by
  induction k with
  | zero => exact .inr (Nat.le_refl _)
  | succ k ih =>
    by_cases hb : (Ft.run dim ms k s).bag = []
    · refine .inl ?_
      show (Ft.deliver dim ms (Ft.run dim ms k s) 0).bag = []
      unfold Ft.deliver
      rw [hb]
      simpa using hb
    · rcases ih with h1 | h1
      · exact absurd h1 hb
      · have := deliver_load (dim := dim) hm hb
        exact .inr (by show Ft.load (Ft.deliver dim ms (Ft.run dim ms k s) 0).bag + (k + 1) ≤ _; omega)
/-- As many frames as there are, doubled, and one more: none is left. -/
theorem one_ends (hm : ms.length = 1) {k : Nat} (hk : Ft.load s.bag < k) : (Ft.run dim ms k s).bag = [] := by
  rcases run_load (dim := dim) hm s k with h | h
  · exact h
  · omega
theorem stays {j : Nat} (h : (Ft.run dim ms j s).bag = []) (i : Nat) : Ft.run dim ms (j + i) s = Ft.run dim ms j s := by
  induction i with
  | zero => rfl
  | succ i ih =>
    show Ft.deliver dim ms (Ft.run dim ms (j + i) s) 0 = _
    rw [ih]
    unfold Ft.deliver
    rw [if_neg (by rw [h]; exact Nat.lt_irrefl 0)]
/-- Drained, asked again, and drained: done. -/
theorem one_done (hm : ms.length = 1) (H : Alive dim ms T s) (hs : Settled ms s) {j k : Nat} (hj : 400 < j) (hk : ∀ a, Alive dim ms T a → 2 * (ps ms a).length < k) : (Ft.run dim ms k (Ft.ask ms (Ft.run dim ms j s))).lay = ms.length := by
  have hA := H.run j
  have hb : (Ft.run dim ms j s).bag = [] := one_ends hm (by have := load_le s.bag; have := H.i.few; omega)
  have hst := run_settled H.i H.m H.t hs j
  generalize Ft.run dim ms j s = a at *
  have hB := hA.ask
  have hl : Ft.load (Ft.ask ms a).bag < k := by
    have hk9 := hk a hA
    unfold Ft.ask
    split
    · have h1 := load_puts ((left (ps ms a) a.ans).map (askOf a.e a.h a.lay a.toks)) a.bag
      rw [List.length_map] at h1
      have h2 := left_len (ps ms a) a.ans
      have h4 : Ft.load a.bag = 0 := by rw [hb]; rfl
      exact Nat.lt_of_le_of_lt h1 (by omega)
    · rw [hb]; show 0 < k; omega
  have he : (Ft.run dim ms k (Ft.ask ms a)).bag = [] := one_ends hm (by omega)
  have h9 := ask_ends hA.i H.m H.t hst hb (Nat.le_refl 657) (k := 657)
  rcases Nat.le_total k 657 with h | h
  · have h8 := stays he (657 - k)
    rw [show k + (657 - k) = 657 by omega] at h8
    rw [h8] at h9
    have h7 := (hB.run k).i.lay
    omega
  · have h8 : (Ft.run dim ms 657 (Ft.ask ms a)).bag = [] := Ft.run_ends hB.i H.m H.t (Nat.le_refl 657)
    have h6 := stays h8 (k - 657)
    rw [show 657 + (k - 657) = k by omega] at h6
    rw [h6]
    have h7 := (hB.run 657).i.lay
    omega
end

/-! ### What lines leave -/
theorem begun_settled : Settled msS begun := Ft.start_settled mayS.1 mayS.2.1 0 hS
theorem act_settled {s : Ft.St} (H : Alive 1 msS tS s) (hs : Settled msS s) (w : List UInt8) (l : List Nat) : Settled msS (act s w l).1 := by
  unfold act
  repeat' split
  all_goals first
    | exact Ft.ask_settled hs
    | exact Ft.deliver_settled H.i H.m H.t hs _
    | exact Ft.twice_settled hs _
    | exact hs
theorem tell_settled {s : Ft.St} (H : Alive 1 msS tS s) (hs : Settled msS s) (line : List UInt8) : Settled msS (tell s line).1 := by
  unfold tell
  split
  · exact act_settled H hs _ _
  · exact hs
theorem after_settled (l : List (List UInt8)) : ∀ {s}, Alive 1 msS tS s → Settled msS s → Settled msS (after s l) := by
  induction l with
  | nil => intro s _ h; exact h
  | cons x r ih => intro s H h; exact ih (tell_alive H x) (tell_settled H h x)
def deliver0 : List UInt8 := deliverW ++ [32, 48]
theorem num_zero : Num [48] := ⟨by decide, by decide, .inl rfl, fun x hx => by rw [List.mem_singleton.1 hx]; exact ⟨by decide, by decide⟩⟩
theorem tell_of (s : Ft.St) {line w : List UInt8} {r : List (List UInt8)} (hp : pieces 32 line = w :: r) (h : ∀ x ∈ r, Num x) : tell s line = act s w (r.map val) := by
  unfold tell
  rw [if_pos (by rw [hp]; exact h), hp]
  rfl
theorem tell_deliver0 (s : Ft.St) : (tell s deliver0).1 = Ft.deliver 1 msS s 0 := by
  have hp : pieces 32 deliver0 = [deliverW, [48]] := by decide
  rw [tell_of s hp (fun x hx => by rw [List.mem_singleton.1 hx]; exact num_zero)]
  unfold act
  rw [if_neg (fun h => absurd h.1 (by decide)), if_pos ⟨rfl, rfl⟩]
  rfl
theorem tell_ask (s : Ft.St) : (tell s askW).1 = Ft.ask msS s := by
  have hp : pieces 32 askW = [askW] := by decide
  rw [tell_of s hp (fun x hx => by cases hx)]
  unfold act
  rw [if_pos ⟨rfl, rfl⟩]
theorem tell_done (s : Ft.St) : (tell s doneW).2 = okW ++ (if s.lay = msS.length then doneS s.toks else []) := by
  have hp : pieces 32 doneW = [doneW] := by decide
  rw [tell_of s hp (fun x hx => by cases hx)]
  unfold act
  rw [if_neg (fun h => absurd h.1 (by decide)), if_neg (fun h => absurd h.1 (by decide)), if_neg (fun h => absurd h.1 (by decide)), if_neg (fun h => absurd h.1 (by decide)), if_neg (fun h => absurd h.1 (by decide)), if_neg (fun h => absurd h.1 (by decide)), if_neg (fun h => absurd h.1 (by decide)), if_pos ⟨rfl, rfl⟩]
theorem after_deliver (k : Nat) : ∀ s, after s (List.replicate k deliver0) = Ft.run 1 msS k s := by
  induction k with
  | zero => intro s; rfl
  | succ k ih =>
    intro s
    rw [List.replicate_succ', after_app, ih]
    show (tell (Ft.run 1 msS k s) deliver0).1 = _
    rw [tell_deliver0]
    rfl
theorem tl_three (k : Nat) : (Ft.tl msS tS k).length = 3 := by
  have h : ∀ (ls : List Ly) (T : List (List Int)), (Md.forward ls T).length = T.length := by
    intro ls
    induction ls with
    | nil => intro T; rfl
    | cons l ls ih =>
      intro T
      show (Md.forward ls (Md.step l T)).length = _
      rw [ih]
      unfold Md.step
      exact Md.stepTo_len _ _ _
  exact h _ _
theorem parts_six {a : Ft.St} (H : Alive 1 msS tS a) : 2 * (Ft.ps msS a).length < 20 := by
  have h1 := Md.upto_len (Ft.lyAt msS a) a.toks (a.toks.length * 2)
  have h2 : a.toks.length = 3 := by
    rw [H.i.toks]
    exact tl_three a.lay
  have h3 : (Ft.ps msS a).length ≤ a.toks.length * 2 := h1
  omega

end Go.Proofs.YtokfcjgfpchffaaGreatDoor.Sc

/- What a line does and tells, by its first words; a script line by line (no program in sight but what lies beneath Alive). -/
namespace Go.Proofs.YtokfcjgfpchffaaGreatDoor.Sc
open Go.Proofs.YtokfcjgfpchffaaGreatDoor Go.Proofs.YtokfcjgfpchffaaGreatDoor.Sh

/-- A script's first line, and the others. -/
theorem lines_cut {t : List UInt8} (h : t ≠ []) : lines t = (Lib.cut t [10]).1 :: lines (Lib.cut t [10]).2.1 := by
  rcases first_of 10 t with h1 | ⟨p, r, rfl, h1⟩
  · rw [cut_none h1]
    show lines t = t :: lines []
    unfold lines
    rw [if_neg h, pieces_none h1, if_pos rfl, if_neg (by simpa using h)]
  · rw [cut_at h1]
    show lines (p ++ 10 :: r) = p :: lines r
    unfold lines
    rw [if_neg (by simp), pieces_cut h1]
    by_cases h2 : r = []
    · subst h2
      rw [if_pos rfl]
      show (if (p :: [[]]).getLast? = some [] then _ else _) = _
      rw [if_pos (by simp)]
      rfl
    · rw [if_neg h2]
      obtain ⟨q, qs, hq⟩ := List.exists_cons_of_ne_nil (pieces_ne 10 r)
      rw [hq]
      have e1 : (p :: q :: qs).getLast? = (q :: qs).getLast? := by simp [List.getLast?_cons]
      have e2 : (p :: q :: qs).dropLast = p :: (q :: qs).dropLast := rfl
      rw [e1, e2]
      split <;> rfl
theorem run_cut {s : Ft.St} {t : List UInt8} (h : t ≠ []) : run s (lines t) = (tell s (Lib.cut t [10]).1).2 ++ 10 :: run (tell s (Lib.cut t [10]).1).1 (lines (Lib.cut t [10]).2.1) := by
  conv => lhs; rw [lines_cut h]
  rfl


/-- What a line does, by its first words. -/
theorem tell_words (s : Ft.St) (l : List UInt8) : (∃ w r, words l = w :: r ∧ r.length ≤ 2) ∧
    ((∀ x ∈ (words l).tail, Num x) → tell s l = act s ((words l).headD []) ((words l).tail.map val)) ∧ ((¬ ∀ x ∈ (words l).tail, Num x) → tell s l = (s, told 2)) := by
  rw [words_is]
  have key : ∀ (W : List (List UInt8)), Lib.splitK [32] 0 2 l = W → pieces 32 l = W → (∃ w r, W = w :: r ∧ r.length ≤ 2) → (∃ w r, W = w :: r ∧ r.length ≤ 2) ∧ ((∀ x ∈ W.tail, Num x) → tell s l = act s (W.headD []) (W.tail.map val)) ∧ ((¬ ∀ x ∈ W.tail, Num x) → tell s l = (s, told 2)) := fun W _ h2 h3 => by
    refine ⟨h3, fun h => ?_, fun h => ?_⟩
    · unfold tell
      rw [h2, if_pos h]
    · unfold tell
      rw [h2, if_neg h]
  rcases first_of 32 l with h | ⟨p, r, rfl, h⟩
  · have e := splitK_none h 2
    rw [e]
    exact key _ e (pieces_none h) ⟨l, [], rfl, by simp⟩
  · rcases first_of 32 r with k | ⟨q, t, rfl, k⟩
    · have e := splitK_at (r := r) h 1
      rw [splitK_none k] at e
      rw [e]
      exact key _ e (by rw [pieces_cut h, pieces_none k]) ⟨p, [r], rfl, by simp⟩
    · have e := splitK_at (r := q ++ 32 :: t) h 1
      rw [splitK_at k 0] at e
      have e0 : Lib.splitK [32] 0 0 t = [t] := rfl
      rw [e0] at e
      rcases first_of 32 t with m | ⟨u, v, rfl, m⟩
      · rw [e]
        exact key _ e (by rw [pieces_cut h, pieces_cut k, pieces_none m]) ⟨p, [q, t], rfl, by simp⟩
      · rw [e]
        have hno : ¬ ∀ x ∈ [q, u ++ 32 :: v], Num x := fun hx => num_no32 (hx (u ++ 32 :: v) (by simp)) 32 (by simp) rfl
        refine ⟨⟨p, [q, u ++ 32 :: v], rfl, by simp⟩, fun hx => absurd hx hno, fun _ => ?_⟩
        unfold tell
        rw [pieces_cut h, pieces_cut k, pieces_cut m]
        split
        · obtain ⟨z, zs, hz⟩ := List.exists_cons_of_ne_nil (pieces_ne 32 v)
          rw [hz]
          have h3 : 3 ≤ (((p :: q :: u :: z :: zs) : List (List UInt8)).tail.map val).length := by simp
          generalize (((p :: q :: u :: z :: zs) : List (List UInt8)).tail.map val) = L at *
          unfold act
          rw [if_neg (fun h => by omega), if_neg (fun h => by omega), if_neg (fun h => by omega), if_neg (fun h => by omega), if_neg (fun h => by omega), if_neg (fun h => by omega), if_neg (fun h => by omega), if_neg (fun h => by omega)]
        · rfl

/-! ### A line, as numbers and an error -/
noncomputable def alone (s : Ft.St) (w : List UInt8) : Ft.St × List Int × Nat :=
  if w = askW then (Ft.ask msS s, [], 0) else if w = bagW then (s, [(s.bag.length : Int), (Ft.worked s : Int)], 0) else if w = doneW then (s, if s.lay = msS.length then s.toks.flatten else [], 0) else (s, [], 2)
noncomputable def ofFrame (s : Ft.St) (w : List UInt8) (i : Nat) : Ft.St × Nat :=
  if w = deliverW then (Ft.deliver 1 msS s i, if i < s.bag.length then 0 else 4) else if w = dropW then (Ft.drop s i, if i < s.bag.length then 0 else 4) else if w = twiceW then (Ft.twice s i, if i < s.bag.length then 0 else 4) else (s, 2)
noncomputable def ofHolder (s : Ft.St) (w : List UInt8) (x n : Nat) : Ft.St × Nat :=
  if w = addW then (Ft.turned s (addS s.e s.h x n).1 (addS s.e s.h x n).2.1, (addS s.e s.h x n).2.2.toNat) else if w = retireW then (Ft.turned s (retS s.e s.h x n).1 (retS s.e s.h x n).2.1, (retS s.e s.h x n).2.2.toNat) else (s, 2)
open Classical in
noncomputable def play (s : Ft.St) (W : List (List UInt8)) : Ft.St × List Int × Nat :=
  if ∀ x ∈ W.tail, Num x then
    match W.tail.map val with
    | [] => alone s (W.headD [])
    | [i] => ((ofFrame s (W.headD []) i).1, [], (ofFrame s (W.headD []) i).2)
    | [x, n] => ((ofHolder s (W.headD []) x n).1, [], (ofHolder s (W.headD []) x n).2)
    | _ => (s, [], 2)
  else (s, [], 2)
def textI (l : List Int) (e : Nat) : List UInt8 := if e = 0 then okW ++ (l.map fun n => 32 :: dig n.toNat).flatten else errW ++ dig e
theorem told_is (e : Nat) : told (e : Int) = textI [] e := by
  unfold told textI
  by_cases h : e = 0
  · subst h
    rfl
  · rw [if_neg (by omega), if_neg h]
    rfl
theorem addS_nat (e : Int) (h : List (List Int)) (x n : Int) : (((addS e h x n).2.2.toNat : Nat) : Int) = (addS e h x n).2.2 := by
  unfold addS
  repeat' split
  all_goals rfl
theorem retS_nat (e : Int) (h : List (List Int)) (x n : Int) : (((retS e h x n).2.2.toNat : Nat) : Int) = (retS e h x n).2.2 := by
  unfold retS
  repeat' split
  all_goals rfl
theorem act_alone (s : Ft.St) (w : List UInt8) : act s w [] = ((alone s w).1, textI (alone s w).2.1 (alone s w).2.2) := by
  unfold act alone
  by_cases h1 : w = askW
  · subst h1
    rfl
  · rw [if_neg (fun h => h1 h.1), if_neg (fun h => absurd h.2 (by simp)), if_neg (fun h => absurd h.2 (by simp)), if_neg (fun h => absurd h.2 (by simp)), if_neg (fun h => absurd h.2 (by simp)), if_neg (fun h => absurd h.2 (by simp)), if_neg h1]
    by_cases h2 : w = bagW
    · subst h2
      rw [if_pos ⟨rfl, rfl⟩, if_pos rfl]
      show _ = (s, okW ++ ([32 :: dig ((s.bag.length : Int)).toNat, 32 :: dig ((Ft.worked s : Int)).toNat]).flatten)
      rw [show ((s.bag.length : Int)).toNat = s.bag.length by omega, show ((Ft.worked s : Int)).toNat = Ft.worked s by omega]
      simp
    · rw [if_neg (fun h => h2 h.1), if_neg h2]
      by_cases h3 : w = doneW
      · subst h3
        rw [if_pos ⟨rfl, rfl⟩, if_pos rfl]
        show (s, _) = (s, okW ++ _)
        by_cases h4 : s.lay = msS.length
        · rw [if_pos h4, if_pos h4]
          rfl
        · rw [if_neg h4, if_neg h4]
          rfl
      · rw [if_neg (fun h => h3 h.1), if_neg h3]
        show (s, told ((2 : Nat) : Int)) = _
        rw [told_is]
theorem act_frame (s : Ft.St) (w : List UInt8) (i : Nat) : act s w [i] = ((ofFrame s w i).1, textI [] (ofFrame s w i).2) := by
  have hg : ([i] : List Nat).getD 0 0 = i := rfl
  have ht : ∀ c : Prop, [Decidable c] → told (if c then 0 else 4) = textI [] (if c then 0 else 4) := fun c _ => by
    rw [← told_is]
    split <;> rfl
  unfold act ofFrame
  rw [if_neg (fun h => absurd h.2 (by simp)), hg]
  by_cases h1 : w = deliverW
  · subst h1
    rw [if_pos ⟨rfl, rfl⟩, if_pos rfl, ht]
  · rw [if_neg (fun h => h1 h.1), if_neg h1]
    by_cases h2 : w = dropW
    · subst h2
      rw [if_pos ⟨rfl, rfl⟩, if_pos rfl, ht]
    · rw [if_neg (fun h => h2 h.1), if_neg h2]
      by_cases h3 : w = twiceW
      · subst h3
        rw [if_pos ⟨rfl, rfl⟩, if_pos rfl, ht]
      · rw [if_neg (fun h => h3 h.1), if_neg h3, if_neg (fun h => absurd h.2 (by simp)), if_neg (fun h => absurd h.2 (by simp)), if_neg (fun h => absurd h.2 (by simp)), if_neg (fun h => absurd h.2 (by simp))]
        show (s, told ((2 : Nat) : Int)) = _
        rw [told_is]
theorem act_holder (s : Ft.St) (w : List UInt8) (x n : Nat) : act s w [x, n] = ((ofHolder s w x n).1, textI [] (ofHolder s w x n).2) := by
  have hg : ([x, n] : List Nat).getD 0 0 = x := rfl
  have hk : ([x, n] : List Nat).getD 1 0 = n := rfl
  unfold act ofHolder
  rw [if_neg (fun h => absurd h.2 (by simp)), if_neg (fun h => absurd h.2 (by simp)), if_neg (fun h => absurd h.2 (by simp)), if_neg (fun h => absurd h.2 (by simp)), hg, hk]
  by_cases h1 : w = addW
  · subst h1
    rw [if_pos ⟨rfl, rfl⟩, if_pos rfl]
    show (_, told _) = (_, textI [] _)
    rw [← told_is, addS_nat]
  · rw [if_neg (fun h => h1 h.1), if_neg h1]
    by_cases h2 : w = retireW
    · subst h2
      rw [if_pos ⟨rfl, rfl⟩, if_pos rfl]
      show (_, told _) = (_, textI [] _)
      rw [← told_is, retS_nat]
    · rw [if_neg (fun h => h2 h.1), if_neg h2, if_neg (fun h => absurd h.2 (by simp)), if_neg (fun h => absurd h.2 (by simp))]
      show (s, told ((2 : Nat) : Int)) = _
      rw [told_is]
theorem tell_play (s : Ft.St) (l : List UInt8) : tell s l = ((play s (words l)).1, textI (play s (words l)).2.1 (play s (words l)).2.2) := by
  obtain ⟨⟨w, r, hw, hr⟩, h1, h2⟩ := tell_words s l
  unfold play
  by_cases h : ∀ x ∈ (words l).tail, Num x
  · rw [if_pos h, h1 h, hw]
    show act s w (r.map val) = _
    match r, hr with
    | [], _ => exact act_alone s w
    | [a], _ => exact act_frame s w (val a)
    | [a, b], _ => exact act_holder s w (val a) (val b)
    | a :: b :: c :: t, hr => simp at hr
  · rw [if_neg h, h2 h]
    show (s, told ((2 : Nat) : Int)) = _
    rw [told_is]

end Go.Proofs.YtokfcjgfpchffaaGreatDoor.Sc
