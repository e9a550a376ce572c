/- What a node has entered of one ask by tokens and ranks, as lists (no program in sight). -/
import Derived.Test.YtgffeefipeblhaaNd
import Derived.Test.YtgffeefipeblhaaNodD
namespace Go.Proofs.Ytgffeefipeblhaa.Nd
open Go.Proofs.Ytgffeefipeblhaa

/-- The same ask of another token and rank. -/
def trOf (a : Wx.Msg) (t r : Int) : Wx.Msg := { a with token := t, rank := r }
theorem fits_tr {dim : Int} {ms : List Ly} {e : Int} {h : List (List Int)} {node : Int} {a : Wx.Msg} {t r t' r' : Int} (hf : Fits dim ms e h node (trOf a t r)) (ht : 0 ≤ t' ∧ t' ≤ 2147483647) (hr : 0 ≤ r' ∧ r' ≤ 2147483647) : Fits dim ms e h node (trOf a t' r') := by
  obtain ⟨h1, h2, ⟨h3, h4, h5, h6, h7⟩, h8⟩ := hf
  refine ⟨h1, h2, ⟨h3, h4, fun x hx => ?_, h6, h7⟩, h8⟩
  simp only [Wx.ten, trOf, List.mem_cons, List.not_mem_nil, or_false] at hx h5
  rcases hx with rfl | rfl | rfl | rfl | rfl | rfl | rfl | rfl | rfl | rfl
  case inr.inr.inr.inr.inr.inr.inl => exact ht
  case inr.inr.inr.inr.inr.inr.inr.inl => exact hr
  all_goals exact h5 _ (by simp)

theorem bset_get {bs : List Bool} {x i : Nat} (hx : x < bs.length) : (bs.set x true).getD i false = if x = i then true else bs.getD i false := by
  rw [List.getD_eq_getElem?_getD, List.getElem?_set, List.getD_eq_getElem?_getD]
  by_cases h : x = i
  · subst h; rw [if_pos rfl, if_pos hx, if_pos rfl]; rfl
  · rw [if_neg h, if_neg h]
theorem got_snoc {l : List En} {k : Ky} {y : List Int} (k' : Ky) : got (l ++ [en k y]) k' = match got l k' with | some v => some v | none => if k = k' then some y else none := by
  unfold got
  rw [List.find?_append]
  cases hf : l.find? (fun x => decide (x.1 = k')) with
  | some x => rfl
  | none =>
    by_cases hk : k = k'
    · rw [if_pos hk]
      subst hk
      rw [show ([en k y].find? fun x => decide (x.1 = k)) = some (en k y) from List.find?_cons_of_pos (by simp [en])]
      rfl
    · rw [if_neg hk]
      rw [show ([en k y].find? fun x => decide (x.1 = k')) = none from by rw [List.find?_cons_of_neg (by simp [en, hk])]; rfl]
      rfl

/-- What is there of the ask a: rows y alone, and just of the tokens and ranks that bs has. -/
structure Keys (a : Wx.Msg) (y : List Int) (bs : List Bool) (l : List En) : Prop where
  len : bs.length = 32
  row : ∀ e ∈ l, e.2.1 = y
  has : ∀ t r : Nat, t < 16 → r < 2 → (bs.getD (t * 2 + r) false = true ↔ got l (ky a.batch a.layer t r) ≠ none)
theorem keys_nil (a : Wx.Msg) (y : List Int) : Keys a y (List.replicate 32 false) [] := by
  refine ⟨List.length_replicate, fun e he => by simp at he, fun t r ht hr => ?_⟩
  rw [List.getD_eq_getElem?_getD, List.getElem?_replicate, if_pos (by omega)]
  simp [got]
theorem keys_step {a : Wx.Msg} {y : List Int} {bs : List Bool} {l L : List En} {y' : List Int} {t r : Nat} (h : Keys a y bs l) (ht : t < 16) (hr : r < 2) (hw : Works l (ky a.batch a.layer t r) y L y') :
    y' = y ∧ Keys a y (bs.set (t * 2 + r) true) L ∧ L.length = if bs.getD (t * 2 + r) false = true then l.length else l.length + 1 := by
  have hx : t * 2 + r < bs.length := by rw [h.len]; omega
  rcases hw with ⟨hg, rfl⟩ | ⟨hg, rfl, rfl⟩
  · obtain ⟨e, he, _, hy⟩ := got_mem hg
    have hb : bs.getD (t * 2 + r) false = true := (h.has t r ht hr).2 (by rw [hg]; simp)
    refine ⟨by rw [← hy]; exact h.row e he, ⟨by rw [List.length_set]; exact h.len, h.row, fun t' r' ht' hr' => ?_⟩, by rw [if_pos hb]⟩
    rw [bset_get hx]
    by_cases e1 : t * 2 + r = t' * 2 + r'
    · obtain rfl : t = t' := by omega
      obtain rfl : r = r' := by omega
      rw [if_pos rfl, hg]; simp
    · rw [if_neg e1]; exact h.has t' r' ht' hr'
  · have hb : ¬ bs.getD (t * 2 + r) false = true := fun h9 => (h.has t r ht hr).1 h9 hg
    refine ⟨rfl, ⟨by rw [List.length_set]; exact h.len, fun e he => ?_, fun t' r' ht' hr' => ?_⟩, by rw [if_neg hb]; simp⟩
    · rcases List.mem_append.1 he with he | he
      · exact h.row e he
      · rw [List.mem_singleton.1 he]; rfl
    · rw [bset_get hx, got_snoc]
      by_cases e1 : t * 2 + r = t' * 2 + r'
      · obtain rfl : t = t' := by omega
        obtain rfl : r = r' := by omega
        rw [if_pos rfl, hg, if_pos rfl]; simp
      · rw [if_neg e1, h.has t' r' ht' hr']
        have hne : ky a.batch a.layer (t : Int) (r : Int) ≠ ky a.batch a.layer (t' : Int) (r' : Int) := fun h9 => by
          obtain ⟨_, _, h3, h4⟩ := ky_eq.1 h9
          omega
        cases got l (ky a.batch a.layer t' r') with
        | some v => simp
        | none => simp [hne]
/-- What is told of one of them. -/
theorem tells_tr {dim : Int} {ms : List Ly} {e : Int} {h : List (List Int)} {node : Int} {a : Wx.Msg} {t r : Int} {l L : List En} {m : Wx.Msg} {b : Bool} (hf : Fits dim ms e h node (trOf a t r) ∧ Held e h node a) (ht : Tells dim ms e h node l (trOf a t r) L m b) :
    ∃ y, Works l (ky a.batch a.layer t r) (Md.ans (lyOf ms a) a.vec a.expert) L y ∧ m = reply e node (trOf a t r) 2 y ∧ b = true := by
  rcases ht with ⟨hn, _⟩ | ⟨_, hn, _⟩ | ⟨_, _, y, hw, hm, hb⟩
  · exact absurd hf.1 hn
  · exact absurd hf.2 hn
  · exact ⟨y, hw, hm, hb⟩
theorem tells_none {dim : Int} {ms : List Ly} {e : Int} {h : List (List Int)} {node : Int} {a : Wx.Msg} {t r : Int} {l L : List En} {m : Wx.Msg} {b : Bool} (hf : ¬ (Fits dim ms e h node (trOf a t r) ∧ Held e h node a)) (ht : Tells dim ms e h node l (trOf a t r) L m b) : L = l ∧ (b = false ∨ (b = true ∧ m.kind = 3)) := by
  rcases ht with ⟨hn, hl, _, hb⟩ | ⟨_, hn, hl, rfl, hb⟩ | ⟨h1, h2, _⟩
  · exact ⟨hl, .inl hb⟩
  · exact ⟨hl, .inr ⟨hb, rfl⟩⟩
  · exact absurd ⟨h1, h2⟩ hf
end Go.Proofs.Ytgffeefipeblhaa.Nd
