/- For the array of what came: what a step does to it, whether its number is accepted or not. -/
import Derived.Test.YtlfbponacoombaaWinE
namespace Go.Proofs.Ytlfbponacoombaa
open Go.ChangeShapes Go.WideShapes Go.ChangeAt Go.RowKit

/-- What came is behind, or among them. -/
def Got (bs : List Bool) (W : Win) : Prop := bs.length = 256 ∧ Nx.Right W ∧ W.low ≤ 256 ∧ (∀ x ∈ W.seen, x ≤ 255) ∧ ∀ i, i < 256 → bs.getD i false = true → (i : Int) < W.low ∨ (i : Int) ∈ W.seen
theorem got_none : Got (List.replicate 256 false) ⟨0, []⟩ := by
  refine ⟨List.length_replicate, right_nil ⟨by decide, by decide⟩, by decide, fun x hx => absurd hx (by simp), fun i hi h => ?_⟩
  rw [List.getD_eq_getElem?_getD, List.getElem?_replicate, if_pos hi] at h
  cases h
/-- A number is accepted, or not. -/
def Step (W V : Win) (x : Int) (b : Bool) : Prop := (Nx.Fresh W x ∧ Nx.put W x = V ∧ b = true) ∨ (¬ Nx.Fresh W x ∧ W = V ∧ b = false)
theorem step_there (W : Win) (x : Int) : ∃ V b, Step W V x b := by
  by_cases h : Nx.Fresh W x
  · exact ⟨_, true, .inl ⟨h, rfl, rfl⟩⟩
  · exact ⟨W, false, .inr ⟨h, rfl, rfl⟩⟩
theorem set_get {bs : List Bool} {x i : Nat} {v : Bool} (hx : x < bs.length) : (bs.set x v).getD i false = if x = i then v else bs.getD i false := by
  rw [List.getD_eq_getElem?_getD, List.getElem?_set, List.getD_eq_getElem?_getD]
  by_cases h : x = i
  · subst h; rw [if_pos rfl, if_pos hx, if_pos rfl]; rfl
  · rw [if_neg h, if_neg h]
theorem got_step {bs : List Bool} {W V : Win} {x : Nat} {b : Bool} (h : Got bs W) (hx : x < 256) (hs : Step W V x b) : (b = true → bs.getD x false = false) ∧ Got (bs.set x (bs.getD x false || b)) V := by
  obtain ⟨hl, hr, hlow, hsm, hc⟩ := h
  rcases hs with ⟨hf, rfl, rfl⟩ | ⟨hf, rfl, rfl⟩
  · have hno : bs.getD x false = false := by
      cases hb : bs.getD x false with
      | false => rfl
      | true => exact absurd hf (Nx.came (hc x hx hb))
    obtain ⟨p1, p2, p3, p4⟩ := Nx.put_right hf (B := 255) (by omega) (by omega) hsm (by omega)
    refine ⟨fun _ => hno, by rw [List.length_set]; exact hl, p1, by omega, p3, fun i hi hb => ?_⟩
    rw [set_get (by omega)] at hb
    by_cases e : x = i
    · subst e; exact Nx.put_cover hf (.inr (.inr rfl))
    · rw [if_neg e] at hb
      rcases hc i hi hb with h | h
      · exact Nx.put_cover hf (.inl h)
      · exact Nx.put_cover hf (.inr (.inl h))
  · refine ⟨(fun h => Bool.noConfusion h), by rw [List.length_set]; exact hl, hr, hlow, hsm, fun i hi hb => ?_⟩
    rw [set_get (by omega), Bool.or_false] at hb
    by_cases e : x = i
    · subst e; rw [if_pos rfl] at hb; exact hc x hx hb
    · rw [if_neg e] at hb; exact hc i hi hb
theorem step_len {W V : Win} {x : Int} {b : Bool} (hr : Nx.Right W) (hs : Step W V x b) : V.seen.length ≤ 32 := by
  rcases hs with ⟨hf, rfl, rfl⟩ | ⟨hf, rfl, rfl⟩
  · exact put_len (low := W.low) (l := W.seen) hf
  · exact hr.2.2.1

theorem accept_any (low : Int) (a : Option Addr) (n c : Nat) (l : List Int) (x : Int) (w : World) (h : rowS.rep w everywhere [.slice a n c] l) (hn : n ≤ 1000) (low' : Int) (l' : List Int) (b : Bool) (hs : Step ⟨low, l⟩ ⟨low', l'⟩ x b) (n' : Nat) (hn' : l'.length = n') :
    Calls Try.prog 9 #[.agg #[.int .i64 low, .slice a n c], .int .i64 x] w fun e w' => Below w.heap.size w w' ∧ ∃ a' c', e = .returned (.tuple #[.agg #[.int .i64 low', .slice a' n' c'], .bool b]) ∧ rowS.rep w' (w.heap.size ≤ ·) [.slice a' n' c'] l' := by
  rcases hs with ⟨hf, hV, rfl⟩ | ⟨hf, hV, rfl⟩
  · exact accept_in low a n c l x w h hn hf low' l' hV n' hn'
  · have e1 : low = low' := congrArg Win.low hV
    have e2 : l = l' := congrArg Win.seen hV
    subst e1; subst e2
    have e3 : n = n' := by rw [← hn', (sliceS_len h).1]
    subst e3
    exact accept_out low a n c l x w h hn hf

theorem Try.infoArr : (Try.prog.info? 36).map (fun i => (i.zero, i.size, 0)) = some (some (.agg (List.replicate 256 (Value.bool false)).toArray), 256, 0) := by kernel_rfl
theorem zeros256 (u : World) : (zeroValue 36).run Try.prog u = .ok (.agg ((List.replicate 256 false).map Value.bool).toArray) u := by
  obtain ⟨i0, hi, hz⟩ : ∃ i0, Try.prog.info? 36 = some i0 ∧ i0.zero = some (.agg (List.replicate 256 (Value.bool false)).toArray) := by
    have h := Try.infoArr
    cases hi : Try.prog.info? 36 with
    | none => rw [hi] at h; cases h
    | some i0 =>
      rw [hi] at h
      have h2 := Option.some.inj h
      exact ⟨i0, rfl, (Prod.mk.inj h2).1⟩
  rw [List.map_replicate]
  generalize (List.replicate 256 (Value.bool false)).toArray = Z at *
  simp [zeroValue, typeInfo, hi, hz]

end Go.Proofs.Ytlfbponacoombaa
