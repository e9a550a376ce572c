/- Moves of experts, as lists, continued: what comes of pieces that come one behind the other, in whatever order. -/
import Derived.Test.YtpfhjdlmjehfnaaMvD
namespace Go.Proofs.Ytpfhjdlmjehfnaa.Mq
open Go.Proofs.Ytpfhjdlmjehfnaa

theorem lst_len (s : ByteArray) : (lst s).length = s.size := list_size s
theorem all_pieces {s : ByteArray} {k : Nat} (hk : 0 < k) : all (pieces (lst s) k) = lst s := by
  unfold all pieces
  rw [List.map_map]
  have h : ((fun x : ByteArray => x.data.toList) ∘ fun x : List UInt8 => (⟨x.toArray⟩ : ByteArray)) = id := by
    funext x
    show x.toArray.toList = x
    rw [List.toList_toArray]
  rw [h, List.map_id]
  exact Ck.join_cut hk _
theorem piece_at (s : ByteArray) {k i : Nat} (h : i < Ck.num s.size k) : (pieces (lst s) k).getD i noText = ⟨(Ck.piece (lst s) k i).toArray⟩ := by
  have h1 := Ck.cut_at (s := lst s) (size := k) (i := i) (by rw [lst_len]; exact h)
  have h2 : i < (Ck.cut (lst s) k).length := by rw [Ck.cut_len, lst_len]; exact h
  unfold pieces
  rw [List.getD_eq_getElem?_getD, List.getElem?_map, List.getElem?_eq_getElem h2]
  rw [List.getD_eq_getElem?_getD, List.getElem?_eq_getElem h2] at h1
  show (⟨((Ck.cut (lst s) k)[i]).toArray⟩ : ByteArray) = _
  rw [show (Ck.cut (lst s) k)[i] = Ck.piece (lst s) k i from h1]
theorem piece_size (s : ByteArray) {k i : Nat} (h : i < Ck.num s.size k) : ((pieces (lst s) k).getD i noText).size = min k (s.size - i * k) := by
  rw [piece_at s h, bsize, Ck.piece_len, lst_len]
theorem pieces_sizes (s : ByteArray) (k : Nat) : ∀ x ∈ pieces (lst s) k, x.size ≤ k := by
  intro x hx
  obtain ⟨i, hi, rfl⟩ := List.mem_iff_getElem.1 hx
  have h1 : i < Ck.num s.size k := by rw [← pieces_len]; exact hi
  have h2 := piece_size s h1
  rw [List.getD_eq_getElem?_getD, List.getElem?_eq_getElem hi] at h2
  have h3 : ((pieces (lst s) k)[i]).size = min k (s.size - i * k) := h2
  omega

/-- Pieces L of a text, of which H says which are there: G holds them. q are not there yet. -/
def Got (L : List ByteArray) (s P : Int) (H : List Bool) (G : List ByteArray) (q : Nat) : Prop :=
  H.length = L.length ∧ G.length = L.length ∧ (∀ i, i < L.length → G.getD i noText = if H.getD i false = true then L.getD i noText else noText) ∧ H.count false = q ∧
  ((0 < q ∧ 1 = P) ∨ (q = 0 ∧ (Cx.sum (all L) : Int) = s ∧ 2 = P) ∨ (q = 0 ∧ (Cx.sum (all L) : Int) ≠ s ∧ 4 = P))

theorem count_put {H : List Bool} {j : Nat} (hj : j < H.length) (h : H.getD j false = false) : (H.set j true).count false + 1 = H.count false := by
  induction H generalizing j with
  | nil => exact absurd hj (Nat.not_lt_zero _)
  | cons b l ih =>
    cases j with
    | zero =>
      have hb : b = false := by simpa using h
      subst hb
      simp
    | succ j =>
      have h1 := ih (j := j) (by simpa using hj) (by simpa using h)
      simp only [List.set_cons_succ, List.count_cons]
      omega
theorem all_true {H : List Bool} (h : H.count false = 0) {i : Nat} (hi : i < H.length) : H.getD i false = true := by
  rw [List.count_eq_zero] at h
  rw [List.getD_eq_getElem?_getD, List.getElem?_eq_getElem hi]
  show H[i] = true
  cases e : H[i] with
  | true => rfl
  | false => exact absurd (e ▸ List.getElem_mem hi) h
theorem true_all {H : List Bool} (h : ∀ i, i < H.length → H.getD i false = true) : H.count false = 0 := by
  rw [List.count_eq_zero]
  intro h9
  obtain ⟨i, hi, he⟩ := List.mem_iff_getElem.1 h9
  have h1 := h i hi
  rw [List.getD_eq_getElem?_getD, List.getElem?_eq_getElem hi] at h1
  have h2 : H[i] = true := h1
  rw [he] at h2
  cases h2
theorem getD_set {α : Type} (l : List α) (j i : Nat) (x d : α) (hj : j < l.length) : (l.set j x).getD i d = if i = j then x else l.getD i d := by
  rw [List.getD_eq_getElem?_getD, List.getElem?_set]
  by_cases h : j = i
  · subst h
    rw [if_pos rfl, if_pos rfl, if_pos hj]
    rfl
  · rw [if_neg h, if_neg (fun h9 => h h9.symm), List.getD_eq_getElem?_getD]
theorem ext_getD {α : Type} {l k : List α} (d : α) (hl : l.length = k.length) (h : ∀ i, i < l.length → l.getD i d = k.getD i d) : l = k := by
  refine List.ext_getElem hl fun i h1 h2 => ?_
  have h3 := h i h1
  rw [List.getD_eq_getElem?_getD, List.getElem?_eq_getElem h1, List.getD_eq_getElem?_getD, List.getElem?_eq_getElem h2] at h3
  exact h3

section
variable {L : List ByteArray} {s P : Int} {H : List Bool} {G : List ByteArray} {q : Nat}
theorem Got.none_left (h : Got L s P H G q) (h0 : q = 0) : G = L := by
  subst h0
  refine ext_getD noText h.2.1 fun i hi => ?_
  rw [h.2.1] at hi
  rw [h.2.2.1 i hi, if_pos (all_true h.2.2.2.1 (by rw [h.1]; exact hi))]
theorem Got.full (h : Got L s P H G q) (hh : ∀ i, i < L.length → H.getD i false = true) : q = 0 ∧ G = L := by
  have h1 := true_all (H := H) fun i hi => hh i (by rw [← h.1]; exact hi)
  have h2 : q = 0 := by rw [← h.2.2.2.1]; exact h1
  exact ⟨h2, h.none_left h2⟩
theorem Got.some_left (h : Got L s P H G q) {j : Nat} (hj : j < L.length) (hh : H.getD j false = false) : 0 < q := by
  rcases Nat.eq_zero_or_pos q with h0 | h0
  · have h1 := all_true (H := H) (by rw [h.2.2.2.1]; exact h0) (i := j) (by rw [h.1]; exact hj)
    rw [hh] at h1
    cases h1
  · exact h0
theorem Got.first {L : List ByteArray} {s : Int} (h0 : 0 < L.length) : Got L s 1 (List.replicate L.length false) (List.replicate L.length noText) L.length := by
  refine ⟨by simp, by simp, fun i hi => ?_, by simp, .inl ⟨h0, rfl⟩⟩
  have h1 : (List.replicate L.length false).getD i false = false := by
    rw [List.getD_eq_getElem?_getD, List.getElem?_replicate, if_pos hi]; rfl
  have h2 : (List.replicate L.length noText).getD i noText = noText := by
    rw [List.getD_eq_getElem?_getD, List.getElem?_replicate, if_pos hi]; rfl
  rw [h1, h2]
  rfl
theorem Got.step (h : Got L s P H G q) {j : Nat} (hj : j < L.length) (hq : 0 < q) {P2 : Int} {K : List Bool} {J : List ByteArray} {E : Int} (hp : Piece P s H G (j : Int) (L.getD j noText) P2 K J E) :
    (H.getD j false = true ∧ P = P2 ∧ H = K ∧ G = J ∧ 5 = E) ∨ (H.getD j false = false ∧ H.set j true = K ∧ Got L s P2 K J (q - 1) ∧ ((P2 ≠ 4 ∧ 0 = E) ∨ (P2 = 4 ∧ 9 = E))) := by
  obtain ⟨h1, h2, h3, h4, h5⟩ := h
  have hP : P = 1 := by
    rcases h5 with ⟨_, h⟩ | ⟨h, _⟩ | ⟨h, _⟩
    · exact h.symm
    · omega
    · omega
  have hf : Fit P H G (j : Int) := ⟨hP, by rw [h1, h2], by omega, by rw [h1]; omega⟩
  have hnt : ((j : Int)).toNat = j := rfl
  have hjH : j < H.length := by rw [h1]; exact hj
  have hjG : j < G.length := by rw [h2]; exact hj
  have hput : ∀ K J, H.set j true = K → G.set j (L.getD j noText) = J → H.getD j false = false → K.length = L.length ∧ J.length = L.length ∧ (∀ i, i < L.length → J.getD i noText = if K.getD i false = true then L.getD i noText else noText) ∧ K.count false = q - 1 := by
    rintro K J rfl rfl hh
    refine ⟨by rw [List.length_set]; exact h1, by rw [List.length_set]; exact h2, fun i hi => ?_, by have := count_put hjH hh; omega⟩
    rw [getD_set _ _ _ _ _ hjH, getD_set _ _ _ _ _ hjG]
    by_cases e : i = j
    · subst e; rw [if_pos rfl, if_pos rfl, if_pos rfl]
    · rw [if_neg e, if_neg e]; exact h3 i hi
  rcases hp with ⟨hn, _⟩ | ⟨_, ht, e1, e2, e3, e4⟩ | ⟨_, ht, e1, e2, hc, e3, e4⟩ | ⟨_, ht, e1, e2, hc, hs, e3, e4⟩ | ⟨_, ht, e1, e2, hc, hs, e3, e4⟩
  · exact absurd hf hn
  · rw [hnt] at ht
    exact .inl ⟨ht, e1, e2, e3, e4⟩
  · rw [hnt] at ht e1 e2
    obtain ⟨a1, a2, a3, a4⟩ := hput _ _ e1 e2 ht
    have hpos : 0 < q - 1 := by
      rw [← a4, List.count_pos_iff]
      exact List.contains_iff_mem.1 hc
    exact .inr ⟨ht, e1, ⟨a1, a2, a3, a4, .inl ⟨hpos, e3⟩⟩, .inl ⟨by omega, e4⟩⟩
  · rw [hnt] at ht e1 e2
    obtain ⟨a1, a2, a3, a4⟩ := hput _ _ e1 e2 ht
    have hz : q - 1 = 0 := by
      rw [← a4, List.count_eq_zero]
      intro h9
      rw [List.contains_iff_mem.2 h9] at hc
      cases hc
    have hJ : J = L := by
      refine ext_getD noText a2 fun i hi => ?_
      rw [a2] at hi
      rw [a3 i hi, if_pos (all_true (by rw [a4]; exact hz) (by rw [a1]; exact hi))]
    rw [hJ] at hs
    exact .inr ⟨ht, e1, ⟨a1, a2, a3, a4, .inr (.inr ⟨hz, hs, e3⟩)⟩, .inr ⟨e3.symm, e4⟩⟩
  · rw [hnt] at ht e1 e2
    obtain ⟨a1, a2, a3, a4⟩ := hput _ _ e1 e2 ht
    have hz : q - 1 = 0 := by
      rw [← a4, List.count_eq_zero]
      intro h9
      rw [List.contains_iff_mem.2 h9] at hc
      cases hc
    have hJ : J = L := by
      refine ext_getD noText a2 fun i hi => ?_
      rw [a2] at hi
      rw [a3 i hi, if_pos (all_true (by rw [a4]; exact hz) (by rw [a1]; exact hi))]
    rw [hJ] at hs
    exact .inr ⟨ht, e1, ⟨a1, a2, a3, a4, .inr (.inl ⟨hz, hs, e3⟩)⟩, .inl ⟨by omega, e4⟩⟩
/-- The first k are there, and no other. -/
def Ahead (H : List Bool) (k : Nat) : Prop := ∀ i, i < H.length → H.getD i false = decide (i < k)
theorem Ahead.zero (n : Nat) : Ahead (List.replicate n false) 0 := fun i hi => by
  rw [List.length_replicate] at hi
  rw [List.getD_eq_getElem?_getD, List.getElem?_replicate, if_pos hi]
  simp
theorem Ahead.step {H : List Bool} {k : Nat} (h : Ahead H k) (hk : k < H.length) : Ahead (H.set k true) (k + 1) := fun i hi => by
  rw [List.length_set] at hi
  rw [getD_set _ _ _ _ _ hk]
  by_cases e : i = k
  · subst e; rw [if_pos rfl]; simp
  · rw [if_neg e, h i hi]
    by_cases h1 : i < k
    · rw [decide_eq_true h1, decide_eq_true (by omega)]
    · rw [decide_eq_false h1, decide_eq_false (by omega)]
theorem Ahead.not_yet {H : List Bool} {k : Nat} (h : Ahead H k) (hk : k < H.length) : H.getD k false = false := by rw [h k hk]; simp
theorem Got.short (h : Got L s P H G q) (hn : L.length ≤ 1000) (hl : ∀ x ∈ L, x.size ≤ 100) : Short H G := by
  refine ⟨by rw [h.1]; exact hn, by rw [h.2.1]; exact hn, fun x hx => ?_⟩
  obtain ⟨i, hi, rfl⟩ := List.mem_iff_getElem.1 hx
  have h1 : i < L.length := by rw [← h.2.1]; exact hi
  have h2 := h.2.2.1 i h1
  rw [List.getD_eq_getElem?_getD, List.getElem?_eq_getElem hi] at h2
  have h3 : G[i] = if H.getD i false = true then L.getD i noText else noText := h2
  rw [h3]
  by_cases e : H.getD i false = true
  · rw [if_pos e, List.getD_eq_getElem?_getD, List.getElem?_eq_getElem h1]
    exact hl _ (List.getElem_mem h1)
  · rw [if_neg e]; exact Nat.zero_le _
/-- k of the pieces are there, in their order. -/
def Up (L : List ByteArray) (s : Int) (k : Nat) (P : Int) (H : List Bool) (G : List ByteArray) : Prop := Got L s P H G (L.length - k) ∧ Ahead H k
theorem Up.first {L : List ByteArray} {s : Int} (h0 : 0 < L.length) : Up L s 0 1 (List.replicate L.length false) (List.replicate L.length noText) := ⟨Got.first h0, Ahead.zero _⟩
theorem Up.step {k : Nat} (h : Up L s k P H G) (hk : k < L.length) {P2 : Int} {K : List Bool} {J : List ByteArray} {E : Int} (hp : Piece P s H G (k : Int) (L.getD k noText) P2 K J E) :
    Up L s (k + 1) P2 K J ∧ ((P2 ≠ 4 ∧ 0 = E) ∨ (P2 = 4 ∧ 9 = E)) := by
  have hkH : k < H.length := by rw [h.1.1]; exact hk
  rcases h.1.step hk (by omega) hp with ⟨h1, _⟩ | ⟨_, e1, h3, h4⟩
  · rw [h.2.not_yet hkH] at h1; cases h1
  · refine ⟨⟨?_, e1 ▸ h.2.step hkH⟩, h4⟩
    rw [show L.length - (k + 1) = L.length - k - 1 by omega]
    exact h3
theorem Up.more {k : Nat} (h : Up L s k P H G) (hk : k < L.length) : 1 = P := by
  rcases h.1.2.2.2.2 with ⟨_, h1⟩ | ⟨h1, _⟩ | ⟨h1, _⟩
  · exact h1
  · omega
  · omega
theorem Up.right (h : Up L s L.length P H G) (hs : (Cx.sum (all L) : Int) = s) : 2 = P ∧ G = L := by
  rcases h.1.2.2.2.2 with ⟨h1, _⟩ | ⟨h1, _, h2⟩ | ⟨_, h1, _⟩
  · omega
  · exact ⟨h2, h.1.none_left h1⟩
  · exact absurd hs h1
theorem Up.wrong (h : Up L s L.length P H G) (hs : (Cx.sum (all L) : Int) ≠ s) : 4 = P ∧ G = L := by
  rcases h.1.2.2.2.2 with ⟨h1, _⟩ | ⟨_, h1, _⟩ | ⟨h1, _, h2⟩
  · omega
  · exact absurd h1 hs
  · exact ⟨h2, h.1.none_left h1⟩
end

/-! ### A map of one expert, that node 1 holds -/
theorem plain_right : Pl.Right 0 [[1]] := ⟨by decide, by decide, fun l hl => by rw [List.mem_singleton.1 hl]; exact ⟨by decide, by decide, by decide⟩⟩
theorem plain_holds : Pl.Holds [[1]] 0 1 := ⟨by decide, by decide⟩
theorem plain_not {t : Int} (h : t ≠ 1) : ¬ Pl.Holds [[1]] 0 t := fun h2 => h (List.mem_singleton.1 h2.2)
theorem plain_sized : Ex.Sized [[1]] := ⟨by decide, fun l hl => by rw [List.mem_singleton.1 hl]; decide⟩
theorem plain_begin {t : Int} {s : ByteArray} {k : Int} (ht : 1 ≤ t ∧ t ≤ 4) (hne : t ≠ 1) (hs : s.size ≠ 0) (hk : 1 ≤ k ∧ k ≤ 64) :
    Begin 0 [[1]] 0 1 t s k 0 1 t 1 (Cx.sum (lst s) : Int) (List.replicate (Ck.num s.size k.toNat) false) (List.replicate (Ck.num s.size k.toNat) noText) (pieces (lst s) k.toNat) 0 :=
  .inr (.inr ⟨⟨plain_right, plain_holds, ht, hs, hk⟩, plain_not hne, rfl, rfl, rfl, rfl, rfl, rfl, rfl, rfl, rfl⟩)
theorem plain_add {t : Int} (ht : 1 ≤ t ∧ t ≤ 4) (hne : t ≠ 1) : Pl.Add 0 [[1]] 0 t 1 (Pl.turn [[1]] 0 t true) 0 :=
  .inr (.inr ⟨fun hw => (by
    rcases hw with h | h | h | h
    · exact h plain_right
    · exact h (by decide)
    · exact h ht
    · cases h), plain_not hne, rfl, rfl, rfl⟩)

end Go.Proofs.Ytpfhjdlmjehfnaa.Mq
