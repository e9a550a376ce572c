/- Moves of experts, as lists (no program in sight): what Begin, Piece, Commit, Abort and Text answer as relations of letters, and what follows. -/
import Derived.Test.YtpfhjdlmjehfnaaBx
import Derived.Test.YtpfhjdlmjehfnaaCx
import Derived.Test.YtpfhjdlmjehfnaaCk
import Derived.Test.YtpfhjdlmjehfnaaPm
namespace Go.Proofs.Ytpfhjdlmjehfnaa.Mq
open Go.Proofs.Ytpfhjdlmjehfnaa

/-- All texts, one behind the other. -/
def all (G : List ByteArray) : List UInt8 := (G.map (·.data.toList)).flatten
/-- A text as a list. -/
def lst (s : ByteArray) : List UInt8 := s.data.toList
/-- The pieces of a text. -/
def pieces (l : List UInt8) (k : Nat) : List ByteArray := (Ck.cut l k).map fun x => ⟨x.toArray⟩

/-! ### Piece -/
def Fit (p : Int) (H : List Bool) (G : List ByteArray) (i : Int) : Prop := p = 1 ∧ H.length = G.length ∧ 0 ≤ i ∧ i < (H.length : Int)
def Piece (p s : Int) (H : List Bool) (G : List ByteArray) (i : Int) (z : ByteArray) (P : Int) (K : List Bool) (J : List ByteArray) (E : Int) : Prop :=
  (¬ Fit p H G i ∧ p = P ∧ H = K ∧ G = J ∧ 1 = E) ∨
  (Fit p H G i ∧ H.getD i.toNat false = true ∧ p = P ∧ H = K ∧ G = J ∧ 5 = E) ∨
  (Fit p H G i ∧ H.getD i.toNat false = false ∧ H.set i.toNat true = K ∧ G.set i.toNat z = J ∧ K.contains false = true ∧ 1 = P ∧ 0 = E) ∨
  (Fit p H G i ∧ H.getD i.toNat false = false ∧ H.set i.toNat true = K ∧ G.set i.toNat z = J ∧ K.contains false = false ∧ (Cx.sum (all J) : Int) ≠ s ∧ 4 = P ∧ 9 = E) ∨
  (Fit p H G i ∧ H.getD i.toNat false = false ∧ H.set i.toNat true = K ∧ G.set i.toNat z = J ∧ K.contains false = false ∧ (Cx.sum (all J) : Int) = s ∧ 2 = P ∧ 0 = E)
theorem piece_there (p s : Int) (H : List Bool) (G : List ByteArray) (i : Int) (z : ByteArray) : ∃ P K J E, Piece p s H G i z P K J E := by
  by_cases h1 : Fit p H G i
  case neg => exact ⟨p, H, G, 1, .inl ⟨h1, rfl, rfl, rfl, rfl⟩⟩
  cases h2 : H.getD i.toNat false with
  | true => exact ⟨p, H, G, 5, .inr (.inl ⟨h1, h2, rfl, rfl, rfl, rfl⟩)⟩
  | false =>
    cases h3 : (H.set i.toNat true).contains false with
    | true => exact ⟨1, _, _, 0, .inr (.inr (.inl ⟨h1, h2, rfl, rfl, h3, rfl, rfl⟩))⟩
    | false =>
      by_cases h4 : (Cx.sum (all (G.set i.toNat z)) : Int) = s
      · exact ⟨2, _, _, 0, .inr (.inr (.inr (.inr ⟨h1, h2, rfl, rfl, h3, h4, rfl, rfl⟩)))⟩
      · exact ⟨4, _, _, 9, .inr (.inr (.inr (.inl ⟨h1, h2, rfl, rfl, h3, h4, rfl, rfl⟩)))⟩
section
variable {p s : Int} {H : List Bool} {G : List ByteArray} {i : Int} {z : ByteArray} {P : Int} {K : List Bool} {J : List ByteArray} {E : Int}
theorem Piece.len (h : Piece p s H G i z P K J E) : K.length = H.length ∧ J.length = G.length := by
  rcases h with ⟨_, _, rfl, rfl, _⟩ | ⟨_, _, _, rfl, rfl, _⟩ | ⟨_, _, rfl, rfl, _⟩ | ⟨_, _, rfl, rfl, _⟩ | ⟨_, _, rfl, rfl, _⟩
  · exact ⟨rfl, rfl⟩
  · exact ⟨rfl, rfl⟩
  · exact ⟨List.length_set, List.length_set⟩
  · exact ⟨List.length_set, List.length_set⟩
  · exact ⟨List.length_set, List.length_set⟩
end

/-- Short enough to be gone through. -/
def Short (H : List Bool) (G : List ByteArray) : Prop := H.length ≤ 1000 ∧ G.length ≤ 1000 ∧ ∀ x ∈ G, x.size ≤ 100
theorem all_len {G : List ByteArray} {k : Nat} (h : ∀ x ∈ G, x.size ≤ k) : (all G).length ≤ G.length * k := by
  unfold all
  induction G with
  | nil => simp
  | cons x l ih =>
    have h1 := ih fun y hy => h y (by simp [hy])
    have h2 := h x (by simp)
    have h3 : x.data.toList.length = x.size := by rw [Array.length_toList]; rfl
    rw [List.map_cons, List.flatten_cons, List.length_append, List.length_cons, Nat.add_mul]
    omega
theorem Short.all {H : List Bool} {G : List ByteArray} (h : Short H G) : (all G).length ≤ 100000 := by
  have h1 := all_len h.2.2
  have h2 := h.2.1
  have h3 : G.length * 100 ≤ 1000 * 100 := Nat.mul_le_mul_right 100 h2
  omega
theorem Short.put {H : List Bool} {G : List ByteArray} (h : Short H G) {z : ByteArray} (hz : z.size ≤ 100) (i : Nat) : Short (H.set i true) (G.set i z) := by
  refine ⟨by rw [List.length_set]; exact h.1, by rw [List.length_set]; exact h.2.1, fun x hx => ?_⟩
  rcases List.mem_or_eq_of_mem_set hx with h1 | h1
  · exact h.2.2 x h1
  · rw [h1]; exact hz
theorem Piece.short {p s : Int} {H : List Bool} {G : List ByteArray} {i : Int} {z : ByteArray} {P : Int} {K : List Bool} {J : List ByteArray} {E : Int} (h : Piece p s H G i z P K J E) (hs : Short H G) (hz : z.size ≤ 100) : Short K J := by
  rcases h with ⟨_, _, rfl, rfl, _⟩ | ⟨_, _, _, rfl, rfl, _⟩ | ⟨_, _, rfl, rfl, _⟩ | ⟨_, _, rfl, rfl, _⟩ | ⟨_, _, rfl, rfl, _⟩
  · exact hs
  · exact hs
  · exact hs.put hz _
  · exact hs.put hz _
  · exact hs.put hz _

/-! ### Begin -/
def Okay (e : Int) (m : List (List Int)) (x f t : Int) (s : ByteArray) (k : Int) : Prop := Pl.Right e m ∧ Pl.Holds m x f ∧ (1 ≤ t ∧ t ≤ 4) ∧ s.size ≠ 0 ∧ (1 ≤ k ∧ k ≤ 64)
def Begin (e : Int) (m : List (List Int)) (x f t : Int) (s : ByteArray) (k : Int) (X F T P S : Int) (H : List Bool) (G L : List ByteArray) (E : Int) : Prop :=
  (¬ Okay e m x f t s k ∧ 0 = X ∧ 0 = F ∧ 0 = T ∧ 0 = P ∧ 0 = S ∧ [] = H ∧ [] = G ∧ [] = L ∧ 1 = E) ∨
  (Okay e m x f t s k ∧ Pl.Holds m x t ∧ 0 = X ∧ 0 = F ∧ 0 = T ∧ 0 = P ∧ 0 = S ∧ [] = H ∧ [] = G ∧ [] = L ∧ 5 = E) ∨
  (Okay e m x f t s k ∧ ¬ Pl.Holds m x t ∧ x = X ∧ f = F ∧ t = T ∧ 1 = P ∧ (Cx.sum (lst s) : Int) = S ∧ List.replicate (Ck.num s.size k.toNat) false = H ∧ List.replicate (Ck.num s.size k.toNat) noText = G ∧ pieces (lst s) k.toNat = L ∧ 0 = E)
theorem begin_there (e : Int) (m : List (List Int)) (x f t : Int) (s : ByteArray) (k : Int) : ∃ X F T P S H G L E, Begin e m x f t s k X F T P S H G L E := by
  by_cases h1 : Okay e m x f t s k
  · by_cases h2 : Pl.Holds m x t
    · exact ⟨0, 0, 0, 0, 0, [], [], [], 5, .inr (.inl ⟨h1, h2, rfl, rfl, rfl, rfl, rfl, rfl, rfl, rfl, rfl⟩)⟩
    · exact ⟨_, _, _, _, _, _, _, _, _, .inr (.inr ⟨h1, h2, rfl, rfl, rfl, rfl, rfl, rfl, rfl, rfl, rfl⟩)⟩
  · exact ⟨0, 0, 0, 0, 0, [], [], [], 1, .inl ⟨h1, rfl, rfl, rfl, rfl, rfl, rfl, rfl, rfl, rfl⟩⟩

/-! ### Commit, Abort, Text -/
/-- What Commit answers: the phase P, the epoch E, the holders M, the error X. -/
def Commit (p e : Int) (m : List (List Int)) (x t P E : Int) (M : List (List Int)) (X : Int) : Prop :=
  (p ≠ 2 ∧ p = P ∧ e = E ∧ m = M ∧ 1 = X) ∨ (p = 2 ∧ Pl.Add e m x t E M X ∧ X ≠ 0 ∧ p = P) ∨ (p = 2 ∧ Pl.Add e m x t E M X ∧ X = 0 ∧ 3 = P)
theorem commit_there (p e : Int) (m : List (List Int)) (x t : Int) : ∃ P E M X, Commit p e m x t P E M X := by
  by_cases h : p = 2
  · obtain ⟨E, M, X, hA⟩ := Pl.add_there e m x t
    by_cases h0 : X = 0
    · exact ⟨3, E, M, X, .inr (.inr ⟨h, hA, h0, rfl⟩)⟩
    · exact ⟨p, E, M, X, .inr (.inl ⟨h, hA, h0, rfl⟩)⟩
  · exact ⟨p, e, m, 1, .inl ⟨h, rfl, rfl, rfl, rfl⟩⟩
def Abort (p P E : Int) : Prop := (p = 3 ∧ 3 = P ∧ 7 = E) ∨ (p ≠ 3 ∧ 4 = P ∧ 0 = E)
theorem abort_there (p : Int) : ∃ P E, Abort p P E := by
  by_cases h : p = 3
  · exact ⟨3, 7, .inl ⟨h, rfl, rfl⟩⟩
  · exact ⟨4, 0, .inr ⟨h, rfl, rfl⟩⟩
/-- What Text answers. -/
def Text (p : Int) (G : List ByteArray) (S : ByteArray) (B : Bool) : Prop := ((p = 2 ∨ p = 3) ∧ (⟨(all G).toArray⟩ : ByteArray) = S ∧ true = B) ∨ (¬ (p = 2 ∨ p = 3) ∧ noText = S ∧ false = B)
theorem text_there (p : Int) (G : List ByteArray) : ∃ S B, Text p G S B := by
  by_cases h : p = 2 ∨ p = 3
  · exact ⟨_, _, .inl ⟨h, rfl, rfl⟩⟩
  · exact ⟨_, _, .inr ⟨h, rfl, rfl⟩⟩

end Go.Proofs.Ytpfhjdlmjehfnaa.Mq
