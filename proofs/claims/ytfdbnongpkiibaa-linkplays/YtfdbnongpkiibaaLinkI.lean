/- What a play of layer 10 holds at the head of each round: the numbers that were not told of, and the link with just those. -/
import Derived.Test.YtfdbnongpkiibaaLinkH
namespace Go.Proofs.Ytfdbnongpkiibaa
open Go.ChangeShapes Go.WideShapes Go.ChangeAt Go.RowKit

def exText : ByteArray := ⟨#[120]⟩
/-- The link's variable lies in block N; v is the slice of the numbers that are left; at most k were pushed. -/
def Plays (w wr : World) (N : Nat) (v : Value) (k : Nat) : Prop :=
  ∃ (nx m : Nat) (ls : List Int) (va : Option Addr) (vc : Nat) (a1 : Option Addr) (c1 : Nat), nx ≤ k ∧ v = .slice va m vc ∧ ls.length = m ∧ m ≤ 64 ∧ Lx.Right (nx : Int) (Lx.same exText ls) ∧
    Own (intS .i64) wr (N + 1) 3 (.slice va m vc) ls ∧ frsS.rep wr (fun b => b ≠ N ∧ some b ≠ Value.ownBlock (.slice va m vc)) [.slice a1 m c1] (Lx.same exText ls) ∧
    Box wr N 24 #[.int .i64 nx, .slice a1 m c1] ∧ Below N w wr
theorem plays_start (w : World) : Plays w (w.alloc (.cells #[.int .i64 0, .slice none 0 0] 24)) w.heap.size (.slice none 0 0) 0 :=
  ⟨0, 0, [], none, 0, none, 0, Nat.le_refl _, rfl, rfl, Nat.zero_le _, Lx.right_nil _ (by omega) (by omega), Own.nil _ _ _ _, rep_none _ _ _, Box.new _ _ _, new_bel _ _⟩
theorem Plays.more {w wr : World} {N k k' : Nat} {v : Value} (h : Plays w wr N v k) (hk : k ≤ k') : Plays w wr N v k' := by
  obtain ⟨nx, m, ls, va, vc, a1, c1, h1, h2⟩ := h
  exact ⟨nx, m, ls, va, vc, a1, c1, Nat.le_trans h1 hk, h2⟩
theorem frs_both {w : World} {F G : Nat → Prop} {a : Option Addr} {n c : Nat} {l : List Fr} (h : frsS.rep w F [.slice a n c] l) (k : frsS.rep w G [.slice a n c] l) : frsS.rep w (fun b => F b ∧ G b) [.slice a n c] l := by
  obtain ⟨hl, hc, hm⟩ := sliceS_len h
  rcases Nat.eq_zero_or_pos n with h0 | h0
  · subst h0
    have e := List.eq_nil_of_length_eq_zero hl
    subst e
    exact ⟨a, c, [], rfl, Nat.zero_le _, hm, Shape.all_nil, .inl rfl⟩
  · obtain ⟨b, off, rfl, hF, _⟩ := fr_at h h0
    obtain ⟨b', off', he, hG, _⟩ := fr_at k h0
    have e := Option.some.inj he
    injection e with e1 e2 e3
    subst e1
    exact frs_in h fun b2 off2 h2 hF2 => by
      have e := Option.some.inj h2
      injection e with e1 e2 e3
      subst e1
      exact ⟨hF2, hG⟩
/-- A row of numbers that the call owns, through a store into another block. -/
theorem Own.num_all2 {w : World} {base : Nat} {e : TypeId} {v : Value} {xs : List Int} (h : Own (intS .i64) w base e v xs) {N : Nat} (hN : N < base) (v0 v1 : Value) : Own (intS .i64) ((w.setCell ⟨N, 0, none⟩ v0).setCell ⟨N, 1, none⟩ v1) base e v xs :=
  Own.other h (grown_then (grown_set w N 0 v0) (grown_set _ N 1 v1)) (fun b hb h2 => by have := (h.lt b hb).1; have := Option.some.inj h2; omega)

end Go.Proofs.Ytfdbnongpkiibaa
