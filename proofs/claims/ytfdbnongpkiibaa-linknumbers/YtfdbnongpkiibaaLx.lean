/- Frames in memory and links as lists (no program in sight): a frame is a number and a text, in two cells. -/
import Derived.Test.YtfdbnongpkiibaaStruct
import Derived.Test.YtfdbnongpkiibaaSlot
namespace Go.Proofs.Ytfdbnongpkiibaa
open Go.ChangeShapes Go.WideShapes Go.ChangeAt Go.RowKit

abbrev Fr := Int × ByteArray × Unit
abbrev frS : Shape Fr := consS (intS .i64) (consS strS noneS)
abbrev frsS : Shape (List Fr) := sliceS frS
def fr0 : Fr := (0, ByteArray.empty, ())
/-- The frame of number k and text t. -/
def fr (k : Int) (t : ByteArray) : Fr := (k, t, ())
theorem fr_eta (f : Fr) : f = fr f.1 f.2.1 := rfl

theorem fr_is {w : World} {F : Nat → Prop} {cs : List Value} {x : Fr} (h : frS.rep w F cs x) : cs = [.int .i64 x.1, .string x.2.1] := by
  obtain ⟨d, rfl, h2⟩ := consS_int h
  obtain ⟨d', rfl, h3⟩ := consS_str h2
  rw [noneS_nil h3]
theorem fr_rep (w : World) (F : Nat → Prop) (x : Fr) : frS.rep w F [.int .i64 x.1, .string x.2.1] x := ⟨[_], [_], rfl, rfl, [_], [], rfl, rfl, rfl⟩
theorem frs_all (w : World) (F : Nat → Prop) (l : List Fr) : frS.all w F (l.map fun x => [.int .i64 x.1, .string x.2.1]) l := by
  refine ⟨by simp, fun j c x h1 h2 => ?_⟩
  rw [List.getElem?_map, h2] at h1
  obtain rfl := Option.some.inj h1
  exact fr_rep w F x

theorem getD_get {l : List Fr} {j : Nat} (h : j < l.length) : l.getD j fr0 = l[j] := by rw [List.getD_eq_getElem?_getD, List.getElem?_eq_getElem h]; rfl
theorem getD_mem {l : List Fr} {j : Nat} (h : j < l.length) : l.getD j fr0 ∈ l := by rw [getD_get h]; exact List.getElem_mem h

/-- Frames: where they lie. -/
theorem fr_at {w : World} {F : Nat → Prop} {a : Option Addr} {n c : Nat} {l : List Fr} (h : frsS.rep w F [.slice a n c] l) {j : Nat} (hj : j < n) :
    ∃ b off, a = some ⟨b, off, none⟩ ∧ F b ∧ b < w.heap.size ∧ w.cell? ⟨b, off + j * 2, none⟩ = some (.int .i64 (l.getD j fr0).1) ∧ w.cell? ⟨b, off + j * 2 + 1, none⟩ = some (.string (l.getD j fr0).2.1) := by
  have hl := (sliceS_len h).1
  obtain ⟨b, off, cs, ha, hF, hb, hc, hr⟩ := sliceS_at h (by show 0 < 2; omega) (j := j) (by omega)
  rw [getD_get (by omega)]
  have hcs := fr_is hr
  subst hcs
  have h0 := hc 0 _ rfl
  have h1 := hc 1 _ rfl
  exact ⟨b, off, ha, hF, hb, h0, h1⟩
theorem frs_flat_get (l : List Fr) (j k : Nat) (hk : k < 2) : (l.map fun x : Fr => [Value.int .i64 x.1, .string x.2.1]).flatten[j * 2 + k]? = (l[j]?).bind fun x => [Value.int .i64 x.1, .string x.2.1][k]? := by
  rw [flat_get (s := 2) (by intro c hc; obtain ⟨x, _, rfl⟩ := List.mem_map.1 hc; rfl) j k hk, List.getElem?_map]
  cases l[j]? <;> rfl
theorem frs_rep {w : World} {F : Nat → Prop} {b off n c : Nat} {l : List Fr} (hl : l.length = n) (hc : n ≤ c) (hm : c ≤ maxLen) (hF : F b) (hb : b < w.heap.size)
    (h : ∀ j, j < n → w.cell? ⟨b, off + j * 2, none⟩ = some (.int .i64 (l.getD j fr0).1) ∧ w.cell? ⟨b, off + j * 2 + 1, none⟩ = some (.string (l.getD j fr0).2.1)) : frsS.rep w F [.slice (some ⟨b, off, none⟩) n c] l := by
  subst hl
  refine ⟨_, c, _, rfl, hc, hm, frs_all w F l, .inr ⟨b, off, rfl, hF, hb, ?_⟩⟩
  refine flat_cells (s := 2) (by intro c hc; obtain ⟨x, _, rfl⟩ := List.mem_map.1 hc; rfl) ?_
  intro j c hj k v hk
  rw [List.getElem?_map] at hj
  obtain ⟨x, hx, rfl⟩ := Option.map_eq_some_iff.1 hj
  have hjl : j < l.length := (List.getElem?_eq_some_iff.1 hx).1
  have ex : l.getD j fr0 = x := by rw [List.getD_eq_getElem?_getD, hx]; rfl
  have h2 := h j hjl
  rw [ex] at h2
  match k, hk with
  | 0, hk => cases hk; exact h2.1
  | 1, hk => cases hk; exact h2.2
theorem frs_nil {w : World} {F : Nat → Prop} {n c : Nat} {l : List Fr} (h : frsS.rep w F [.slice none n c] l) : n = 0 ∧ l = [] := by
  have hl := (sliceS_len h).1
  have h0 : n = 0 := by
    rcases Nat.eq_zero_or_pos n with h0 | h0
    · exact h0
    · obtain ⟨b, off, h, _⟩ := fr_at h h0
      cases h
  exact ⟨h0, List.eq_nil_of_length_eq_zero (by omega)⟩
/-- Frames that lie in blocks of G too. -/
theorem frs_in {w : World} {F G : Nat → Prop} {a : Option Addr} {n c : Nat} {l : List Fr} (h : frsS.rep w F [.slice a n c] l) (hG : ∀ b off, a = some ⟨b, off, none⟩ → F b → G b) : frsS.rep w G [.slice a n c] l := by
  obtain ⟨hl, hc, hm⟩ := sliceS_len h
  rcases Nat.eq_zero_or_pos n with h0 | h0
  · subst h0
    have e := List.eq_nil_of_length_eq_zero hl
    subst e
    exact ⟨a, c, [], rfl, Nat.zero_le _, hm, Shape.all_nil, .inl rfl⟩
  · obtain ⟨b, off, rfl, hF, hb, _⟩ := fr_at h h0
    refine frs_rep hl hc hm (hG b off rfl hF) hb fun j hj => ?_
    obtain ⟨b', off', he, _, _, h1, h2⟩ := fr_at h hj
    have e := Option.some.inj he
    injection e with e1 e2 e3
    subst e1; subst e2
    exact ⟨h1, h2⟩
theorem Own.frs {w : World} {base : Nat} {e : TypeId} {a : Option Addr} {n c : Nat} {l : List Fr} (h : Own frS w base e (.slice a n c) l) : frsS.rep w (base ≤ ·) [.slice a n c] l :=
  frs_in h.is fun b off hb _ => by subst hb; exact (h.lt b rfl).1

/-- A store of a frame into frames that the call owns. -/
theorem flat_set2 {css : List (List Value)} (h : ∀ c ∈ css, c.length = 2) (j : Nat) (u v : Value) : (css.set j [u, v]).flatten = (css.flatten.set (j * 2) u).set (j * 2 + 1) v := by
  induction css generalizing j with
  | nil => simp
  | cons c css ih =>
    have h1 := h c (by simp)
    have h2 := ih fun d hd => h d (by simp [hd])
    obtain ⟨p, q, rfl⟩ : ∃ p q, c = [p, q] := by
      match c, h1 with
      | [p, q], _ => exact ⟨p, q, rfl⟩
    cases j with
    | zero => simp
    | succ j =>
      have e1 : (j + 1) * 2 = (j * 2) + 1 + 1 := by omega
      have e2 : (j + 1) * 2 + 1 = (j * 2 + 1) + 1 + 1 := by omega
      rw [e2, e1]
      simp only [List.set_cons_succ, List.flatten_cons, List.cons_append, List.nil_append, h2 j]
theorem Own.fr_store {w : World} {base : Nat} {e : TypeId} {g n c : Nat} {xs : List Fr} (h : Own frS w base e (.slice (some ⟨g, 0, none⟩) n c) xs) {j : Nat} (hj : j < n) (x : Fr) :
    Own frS ((w.setCell ⟨g, j * 2, none⟩ (.int .i64 x.1)).setCell ⟨g, j * 2 + 1, none⟩ (.string x.2.1)) base e (.slice (some ⟨g, 0, none⟩) n c) (xs.set j x) := by
  have hl := (sliceS_len h.is).1
  obtain ⟨css, hrow, hall⟩ := h
  subst hl
  have hlen := Shape.all_len hall
  refine ⟨css.set j [.int .i64 x.1, .string x.2.1], ?_, ?_⟩
  · rw [flat_set2 hlen, List.length_set]
    have h1 := (hrow.stored (j * 2) (.int .i64 x.1)).1
    exact (h1.stored (j * 2 + 1) (.string x.2.1)).1
  · have k1 := Shape.all_set (j := j) (A := frS) hall (fr_rep w _ x)
    refine Shape.all_keep k1 fun b hb _ => ?_
    have hne : b ≠ g := fun e => hb (by rw [e]; rfl)
    exact (Below.heap_setCell _ _ _ b hne).trans (Below.heap_setCell w _ _ b hne)
theorem Own.fr_free {w : World} {base : Nat} {e : TypeId} {g n c : Nat} {xs : List Fr} (h : Own frS w base e (.slice (some ⟨g, 0, none⟩) n c) xs) (i : Nat) : w.frozen? ⟨g, i, none⟩ = false := by
  have hl := (sliceS_len h.is).1
  obtain ⟨css, hrow, hall⟩ := h
  subst hl
  exact hrow.frozenAt i

/-- A function whose results are a struct and two more, the struct in a variable. -/
theorem ret_three {P : Program} {fn : Func} {R : Ending → World → Prop} {a : Act} {u : World} {b : Nat} {t : TypeId} {fs : Array Field} {cs : Array Value} {p q r : Tmp} {v2 v3 : Value} {k : Nat} (hu : P.underlying t = some (.struct fs)) (hi : (P.info? t).map (·.size) = some k)
    (hres : fn.results = #[.cell p t, .tmp q, .tmp r]) (hd : a.defers = []) (hp : a.tmps.getD p undef = .pointer (some ⟨b, 0, none⟩)) (hq : a.tmps.getD q undef = v2) (hr : a.tmps.getD r undef = v3) (hB : Box u b t cs) (hk : cs.size = k) (hR : R (.returned (.tuple #[.agg cs, v2, v3])) u) : bodyPost P fn R .ret a u := by
  have hld := run_loadVar_row (P := P) u b t t cs (0, 0) _ hB hu rfl (by rw [hi, hk])
  refine bodyPost_ret (v := .tuple #[.agg cs, v2, v3]) ?_ hd hR
  have hp' : a.tmps[p]?.getD undef = .pointer (some ⟨b, 0, none⟩) := by simpa using hp
  have hq' : a.tmps[q]?.getD undef = v2 := by simpa using hq
  have hr' : a.tmps[r]?.getD undef = v3 := by simpa using hr
  simp only [results, hres]
  simp [asAddr, hp', hq', hr', hld]

/-! ### Links as lists -/
namespace Lx
/-- The number of frame j. -/
def seq (l : List Fr) (j : Nat) : Int := (l.getD j fr0).1
/-- Frame j stands where it may. -/
def Fine (next : Int) (l : List Fr) (j : Nat) : Prop := 0 ≤ seq l j ∧ seq l j < next ∧ (0 < j → seq l (j - 1) < seq l j)
def Right (next : Int) (l : List Fr) : Prop := 0 ≤ next ∧ next ≤ 2147483647 ∧ l.length ≤ 64 ∧ ∀ j, j < l.length → Fine next l j
/-- What frame k's number is not below. -/
def least (l : List Fr) (k : Nat) : Int := if k = 0 then 0 else seq l (k - 1) + 1
theorem least_zero (l : List Fr) : least l 0 = 0 := rfl
theorem least_succ (l : List Fr) (k : Nat) : least l (k + 1) = seq l k + 1 := rfl
theorem fine_least {next : Int} {l : List Fr} {k : Nat} (h : ∀ j, j < k → Fine next l j) : Fine next l k ↔ least l k ≤ seq l k ∧ seq l k < next := by
  unfold least
  constructor
  · intro hf
    split
    · exact ⟨hf.1, hf.2.1⟩
    · exact ⟨by have := hf.2.2 (by omega); omega, hf.2.1⟩
  · intro hf
    split at hf
    · exact ⟨hf.1, hf.2, fun hp => by omega⟩
    · have := (h (k - 1) (by omega)).1
      exact ⟨by omega, hf.2, fun _ => by omega⟩
theorem least_pos {next : Int} {l : List Fr} {k : Nat} (h : ∀ j, j < k → Fine next l j) : 0 ≤ least l k := by
  unfold least
  split
  · omega
  · have := (h (k - 1) (by omega)).1; omega

theorem right_iff {next : Int} {l : List Fr} : Right next l ↔ 0 ≤ next ∧ next ≤ 2147483647 ∧ l.length ≤ 64 ∧ (∀ f ∈ l, 0 ≤ f.1 ∧ f.1 < next) ∧ l.Pairwise (fun f g => f.1 < g.1) := by
  constructor
  · rintro ⟨h1, h2, h3, h4⟩
    refine ⟨h1, h2, h3, fun f hf => ?_, ?_⟩
    · obtain ⟨j, hj⟩ := List.getElem?_of_mem hf
      have hjl : j < l.length := (List.getElem?_eq_some_iff.1 hj).1
      have := h4 j hjl
      have e : seq l j = f.1 := by unfold seq; rw [List.getD_eq_getElem?_getD, hj]; rfl
      unfold Fine at this
      rw [e] at this
      exact ⟨this.1, this.2.1⟩
    · have key : ∀ j, j < l.length → ∀ i, i < j → seq l i < seq l j := by
        intro j
        induction j with
        | zero => intro _ i hi; omega
        | succ j ih =>
          intro hj i hi
          have h5 := (h4 (j + 1) hj).2.2 (by omega)
          rw [Nat.add_sub_cancel] at h5
          by_cases e : i = j
          · subst e; exact h5
          · have := ih (by omega) i (by omega); omega
      rw [List.pairwise_iff_getElem]
      intro i j hi hj hij
      have := key j hj i hij
      unfold seq at this
      rw [getD_get hi, getD_get hj] at this
      exact this
  · rintro ⟨h1, h2, h3, h4, h5⟩
    refine ⟨h1, h2, h3, fun j hj => ?_⟩
    unfold Fine seq
    rw [getD_get hj]
    have h6 := h4 _ (List.getElem_mem hj)
    refine ⟨h6.1, h6.2, fun hp => ?_⟩
    rw [getD_get (by omega)]
    exact List.pairwise_iff_getElem.1 h5 (j - 1) j (by omega) hj (by omega)

/-- Without the frames of number x. -/
def told (l : List Fr) (x : Int) : List Fr := l.filter fun f => !(f.1 == x)
theorem told_le (l : List Fr) (x : Int) : (told l x).length ≤ l.length := List.length_filter_le _ _
theorem told_none {l : List Fr} {x : Int} (h : ∀ f ∈ l, f.1 ≠ x) : told l x = l := by
  unfold told
  rw [List.filter_eq_self]
  intro f hf
  simp [h f hf]
theorem told_mem {l : List Fr} {x : Int} {f : Fr} (h : f ∈ told l x) : f ∈ l := (List.mem_filter.1 h).1
theorem told_append (l m : List Fr) (x : Int) : told (l ++ m) x = told l x ++ told m x := List.filter_append ..
theorem told_right {next : Int} {l : List Fr} (x : Int) (h : Right next l) : Right next (told l x) := by
  rw [right_iff] at *
  exact ⟨h.1, h.2.1, Nat.le_trans (told_le l x) h.2.2.1, fun f hf => h.2.2.2.1 f (told_mem hf), h.2.2.2.2.filter _⟩

/-- Push: the error E, the link (N, Q) and the number M behind it. -/
def Push (next : Int) (l : List Fr) (t : ByteArray) (E N : Int) (Q : List Fr) (M : Int) : Prop :=
  (¬ (Right next l ∧ next ≠ 2147483647) ∧ E = 1 ∧ N = next ∧ Q = l ∧ M = 0) ∨
  (Right next l ∧ next ≠ 2147483647 ∧ 64 ≤ l.length ∧ E = 8 ∧ N = next ∧ Q = l ∧ M = 0) ∨
  (Right next l ∧ next ≠ 2147483647 ∧ l.length < 64 ∧ E = 0 ∧ N = next + 1 ∧ Q = l ++ [fr next t] ∧ M = next)
theorem push_there (next : Int) (l : List Fr) (t : ByteArray) : ∃ E N Q M, Push next l t E N Q M := by
  by_cases h : Right next l ∧ next ≠ 2147483647
  · by_cases h2 : 64 ≤ l.length
    · exact ⟨8, next, l, 0, .inr (.inl ⟨h.1, h.2, h2, rfl, rfl, rfl, rfl⟩)⟩
    · exact ⟨0, next + 1, l ++ [fr next t], next, .inr (.inr ⟨h.1, h.2, by omega, rfl, rfl, rfl, rfl⟩)⟩
  · exact ⟨1, next, l, 0, .inl ⟨h, rfl, rfl, rfl, rfl⟩⟩
theorem push_ok {next : Int} {l : List Fr} {t : ByteArray} (h : Right next l) (h1 : next ≠ 2147483647) (h2 : l.length < 64) : Push next l t 0 (next + 1) (l ++ [fr next t]) next := .inr (.inr ⟨h, h1, h2, rfl, rfl, rfl, rfl⟩)
theorem push_busy {next : Int} {l : List Fr} {t : ByteArray} (h : Right next l) (h1 : next ≠ 2147483647) (h2 : 64 ≤ l.length) : Push next l t 8 next l 0 := .inr (.inl ⟨h, h1, h2, rfl, rfl, rfl, rfl⟩)
theorem push_arg {next : Int} {l : List Fr} {t : ByteArray} (h : ¬ (Right next l ∧ next ≠ 2147483647)) : Push next l t 1 next l 0 := .inl ⟨h, rfl, rfl, rfl, rfl⟩
theorem push_right {next : Int} {l : List Fr} {t : ByteArray} (h : Right next l) (h1 : next ≠ 2147483647) (h2 : l.length < 64) : Right (next + 1) (l ++ [fr next t]) := by
  rw [right_iff] at *
  obtain ⟨a1, a2, a3, a4, a5⟩ := h
  refine ⟨by omega, by omega, by simp; omega, fun f hf => ?_, ?_⟩
  · rcases List.mem_append.1 hf with hf | hf
    · have := a4 f hf; omega
    · rw [List.mem_singleton.1 hf]
      show 0 ≤ next ∧ next < next + 1
      omega
  · rw [List.pairwise_append]
    refine ⟨a5, List.pairwise_singleton _ _, fun f hf g hg => ?_⟩
    rw [List.mem_singleton.1 hg]
    exact (a4 f hf).2
theorem right_nil (n : Int) (h : 0 ≤ n) (h2 : n ≤ 2147483647) : Right n [] := ⟨h, h2, Nat.zero_le _, fun _ hj => absurd hj (Nat.not_lt_zero _)⟩
end Lx

end Go.Proofs.Ytfdbnongpkiibaa
