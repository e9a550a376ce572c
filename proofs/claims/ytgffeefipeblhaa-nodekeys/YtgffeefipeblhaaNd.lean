/- What a node does with a message, as lists (no program in sight). -/
import Derived.Test.YtgffeefipeblhaaJb
import Derived.Test.YtgffeefipeblhaaJa
import Derived.Test.YtgffeefipeblhaaWx
namespace Go.Proofs.Ytgffeefipeblhaa.Nd
open Go.Proofs.Ytgffeefipeblhaa Go.Proofs.Ytgffeefipeblhaa.Md

/-! ### What a ledger has -/
def got (l : List En) (k : Ky) : Option (List Int) := (l.find? fun x => decide (x.1 = k)).map fun x => x.2.1
theorem got_no {l : List En} {k : Ky} (h : Dx.No l k) : got l k = none := by
  unfold got
  rw [List.find?_eq_none.2 fun x hx => ?_]
  · rfl
  · obtain ⟨j, hj, rfl⟩ := eget_of_mem hx
    simpa using h j hj
theorem first_cons {x : En} {l : List En} {k : Ky} {i : Nat} (h : Dx.First (x :: l) k (i + 1)) : x.1 ≠ k ∧ Dx.First l k i := by
  obtain ⟨h1, h2, h3⟩ := h
  refine ⟨h3 0 (Nat.succ_pos _), by simpa using h1, by simpa using h2, fun j hj => ?_⟩
  have := h3 (j + 1) (by omega)
  simpa using this
theorem got_first {l : List En} {k : Ky} {i : Nat} (h : Dx.First l k i) : got l k = some (l.getD i en0).2.1 := by
  induction l generalizing i with
  | nil => exact absurd h.1 (Nat.not_lt_zero _)
  | cons x l ih =>
    unfold got
    by_cases hx : x.1 = k
    · have : i = 0 := by
        rcases Nat.eq_zero_or_pos i with h0 | h0
        · exact h0
        · exact absurd hx (h.2.2 0 h0)
      subst this
      rw [List.find?_cons_of_pos (by simpa using hx)]
      rfl
    · obtain ⟨j, rfl⟩ : ∃ j, i = j + 1 := by
        rcases Nat.eq_zero_or_pos i with h0 | h0
        · subst h0; exact absurd h.2.1 hx
        · exact ⟨i - 1, by omega⟩
      rw [List.find?_cons_of_neg (by simpa using hx)]
      have := ih (first_cons h).2
      unfold got at this
      rw [this]
      rfl
theorem got_mem {l : List En} {k : Ky} {v : List Int} (h : got l k = some v) : ∃ x ∈ l, x.1 = k ∧ x.2.1 = v := by
  unfold got at h
  obtain ⟨x, hx, rfl⟩ := Option.map_eq_some_iff.1 h
  exact ⟨x, List.mem_of_find?_eq_some hx, by simpa using List.find?_some hx, rfl⟩
theorem got_none {l : List En} {k : Ky} (h : got l k = none) : ∀ x ∈ l, x.1 ≠ k := by
  unfold got at h
  intro x hx
  have := List.find?_eq_none.1 (Option.map_eq_none_iff.1 h) x hx
  simpa using this
theorem no_of_got {l : List En} {k : Ky} (h : got l k = none) : Dx.No l k := fun _ hj => got_none h _ (eget_mem hj)

/-! ### Work -/
def keyOf (a : Wx.Msg) : Ky := ky a.batch a.layer a.token a.rank
def reply (e : Int) (node : Int) (a : Wx.Msg) (kind : Int) (v : List Int) : Wx.Msg := ⟨kind, node, a.fr, a.seq, a.batch, a.layer, a.token, a.rank, a.expert, e, v⟩
def lyOf (ms : List Ly) (a : Wx.Msg) : Ly := ms.getD a.layer.toNat ly0
def Fits (dim : Int) (ms : List Ly) (e : Int) (h : List (List Int)) (node : Int) (a : Wx.Msg) : Prop :=
  Md.Right dim ms ∧ Pl.Right e h ∧ Wx.right a ∧ a.kind = 1 ∧ a.to = node ∧ a.layer < (ms.length : Int) ∧ a.expert < ((lyOf ms a).2.1.length : Int) ∧ TRight dim [a.vec]
/-- The answer of one that is held, and of the map's epoch. -/
def Held (e : Int) (h : List (List Int)) (node : Int) (a : Wx.Msg) : Prop := a.epoch = e ∧ Pl.Holds h a.expert node
open Classical in
/-- The ledger, and what is said. -/
noncomputable def work (dim : Int) (ms : List Ly) (e : Int) (h : List (List Int)) (node : Int) (l : List En) (a : Wx.Msg) : Option (List En × Wx.Msg) :=
  if Fits dim ms e h node a then
    if Held e h node a then
      match got l (keyOf a) with
      | some v => some (l, reply e node a 2 v)
      | none => some (l ++ [en (keyOf a) (ans (lyOf ms a) a.vec a.expert)], reply e node a 2 (ans (lyOf ms a) a.vec a.expert))
    else some (l, reply e node a 3 [])
  else none
section
variable {dim : Int} {ms : List Ly} {e : Int} {h : List (List Int)} {node : Int} {l : List En} {a : Wx.Msg}
theorem work_no (hf : ¬ Fits dim ms e h node a) : work dim ms e h node l a = none := if_neg hf
theorem work_stale (hf : Fits dim ms e h node a) (hh : ¬ Held e h node a) : work dim ms e h node l a = some (l, reply e node a 3 []) := by
  unfold work; rw [if_pos hf, if_neg hh]
theorem work_old (hf : Fits dim ms e h node a) (hh : Held e h node a) {v : List Int} (hg : got l (keyOf a) = some v) : work dim ms e h node l a = some (l, reply e node a 2 v) := by
  unfold work; rw [if_pos hf, if_pos hh, hg]
theorem work_new (hf : Fits dim ms e h node a) (hh : Held e h node a) (hg : got l (keyOf a) = none) : work dim ms e h node l a = some (l ++ [en (keyOf a) (ans (lyOf ms a) a.vec a.expert)], reply e node a 2 (ans (lyOf ms a) a.vec a.expert)) := by
  unfold work; rw [if_pos hf, if_pos hh, hg]
/-- The four ways. -/
theorem work_ways (dim : Int) (ms : List Ly) (e : Int) (h : List (List Int)) (node : Int) (l : List En) (a : Wx.Msg) :
    (¬ Fits dim ms e h node a ∧ work dim ms e h node l a = none) ∨
    (Fits dim ms e h node a ∧ ¬ Held e h node a ∧ work dim ms e h node l a = some (l, reply e node a 3 [])) ∨
    (Fits dim ms e h node a ∧ Held e h node a ∧ ∃ v, got l (keyOf a) = some v ∧ work dim ms e h node l a = some (l, reply e node a 2 v)) ∨
    (Fits dim ms e h node a ∧ Held e h node a ∧ got l (keyOf a) = none ∧ work dim ms e h node l a = some (l ++ [en (keyOf a) (ans (lyOf ms a) a.vec a.expert)], reply e node a 2 (ans (lyOf ms a) a.vec a.expert))) := by
  by_cases hf : Fits dim ms e h node a
  · by_cases hh : Held e h node a
    · cases hg : got l (keyOf a) with
      | some v => exact .inr (.inr (.inl ⟨hf, hh, v, rfl, work_old hf hh hg⟩))
      | none => exact .inr (.inr (.inr ⟨hf, hh, rfl, work_new hf hh hg⟩))
    · exact .inr (.inl ⟨hf, hh, work_stale hf hh⟩)
  · exact .inl ⟨hf, work_no hf⟩
theorem Fits.low (hf : Fits dim ms e h node a) : 0 ≤ a.layer ∧ 0 ≤ a.expert ∧ 0 ≤ a.token ∧ 0 ≤ a.rank := by
  have := hf.2.2.1.2.2.1
  exact ⟨(this a.layer (by simp [Wx.ten])).1, (this a.expert (by simp [Wx.ten])).1, (this a.token (by simp [Wx.ten])).1, (this a.rank (by simp [Wx.ten])).1⟩
theorem Fits.layer (hf : Fits dim ms e h node a) : a.layer.toNat < ms.length ∧ LRight (lyOf ms a) dim := by
  have h1 : a.layer.toNat < ms.length := by have := hf.low.1; have := hf.2.2.2.2.2.1; omega
  exact ⟨h1, hf.1.2.2.2.2 _ (in_of h1 ly0)⟩
theorem Fits.vec (hf : Fits dim ms e h node a) : (a.vec.length : Int) = dim ∧ Mx.In a.vec := by
  have := hf.2.2.2.2.2.2.2.row (t := 0) (by simp)
  simpa using this
/-- What a message may say: a right one. -/
theorem ans_held {ly : Ly} {v : List Int} {x : Int} : ∀ n ∈ ans ly v x, n ≤ 2147483647 ∧ -2147483647 ≤ n := Ex.run_held _ _ _
theorem reply_right (hf : Fits dim ms e h node a) {kind : Int} (hk : kind = 2 ∨ kind = 3) (hn : 0 ≤ node ∧ node ≤ 2147483647) {v : List Int} (hv : v.length ≤ 8 ∧ ∀ n ∈ v, -2147483648 ≤ n ∧ n ≤ 2147483647) : Wx.right (reply e node a kind v) := by
  have hr := hf.2.2.1.2.2.1
  have he := hf.2.1.1
  have h1 := hr a.fr (by simp [Wx.ten])
  have h2 := hr a.seq (by simp [Wx.ten])
  have h3 := hr a.batch (by simp [Wx.ten])
  have h4 := hr a.layer (by simp [Wx.ten])
  have h5 := hr a.token (by simp [Wx.ten])
  have h6 := hr a.rank (by simp [Wx.ten])
  have h7 := hr a.expert (by simp [Wx.ten])
  refine ⟨by show 1 ≤ kind; omega, by show kind ≤ 4; omega, fun x hx => ?_, hv.1, hv.2⟩
  simp only [Wx.ten, reply, List.mem_cons, List.not_mem_nil, or_false] at hx
  rcases hx with rfl | rfl | rfl | rfl | rfl | rfl | rfl | rfl | rfl | rfl <;> omega
end
end Go.Proofs.Ytgffeefipeblhaa.Nd
