/- What follows of the answers of Add and Retire, as lists (no program in sight). -/
import Derived.Test.YtpfhjdlmjehfnaaPl
namespace Go.Proofs.Ytpfhjdlmjehfnaa.Pl
open Go.Proofs.Ytpfhjdlmjehfnaa

theorem keep_len (l : List Int) (n : Int) (add : Bool) : (keep l n add).length ≤ 4 := by
  unfold keep
  exact Nat.le_trans (List.length_filter_le _ _) (by simp)
section
variable {e : Int} {m : List (List Int)} {x n E E2 : Int} {M M2 : List (List Int)} {X X2 : Int}
theorem turn_rows_le {K : Nat} (hK : 4 ≤ K) (hm : ∀ l ∈ m, l.length ≤ K) (add : Bool) : ∀ l ∈ turn m x n add, l.length ≤ K := by
  intro l hl
  unfold turn at hl
  rcases List.mem_or_eq_of_mem_set hl with h2 | h2
  · exact hm l h2
  · rw [h2]; exact Nat.le_trans (keep_len _ _ _) hK
theorem Add.rows (h : Add e m x n E M X) {K : Nat} (hK : 4 ≤ K) (hm : ∀ l ∈ m, l.length ≤ K) : ∀ l ∈ M, l.length ≤ K := by
  rcases h with ⟨_, _, rfl, _⟩ | ⟨_, _, _, rfl, _⟩ | ⟨_, _, _, rfl, _⟩
  · exact hm
  · exact hm
  · exact turn_rows_le hK hm true
theorem Ret.rows (h : Ret e m x n E M X) {K : Nat} (hK : 4 ≤ K) (hm : ∀ l ∈ m, l.length ≤ K) : ∀ l ∈ M, l.length ≤ K := by
  rcases h with ⟨_, _, rfl, _⟩ | ⟨_, _, _, rfl, _⟩ | ⟨_, _, _, _, rfl, _⟩ | ⟨_, _, _, _, rfl, _⟩
  · exact hm
  · exact hm
  · exact hm
  · exact turn_rows_le hK hm false
theorem add_two {l : List Int} {n : Int} (h : RowOk l) (h1 : 1 ≤ n) (h2 : n ≤ 4) (hn : n ∉ l) : (keep l n true).length ≠ 1 := by
  have : ∀ l ∈ rows, ∀ n ∈ ([1, 2, 3, 4] : List Int), n ∉ l → (keep l n true).length ≠ 1 := by decide
  exact this l (row_there h) n (node_there h1 h2) hn
theorem back (hw : ¬ Wrong e m x n) (hh : ¬ Holds m x n) (he : e < 2147483646) (h : Ret (e + 1) (turn m x n true) x n E2 M2 X2) : e + 2 = E2 ∧ m = M2 ∧ 0 = X2 := by
  obtain ⟨hR, hx, hn, _⟩ := not_wrong hw
  have hw2 : ¬ Wrong (e + 1) (turn m x n true) x n := by
    rintro (h1 | h1 | h1 | h1)
    · exact h1 (add_right hw)
    · rw [turn_len] at h1; exact h1 hx
    · exact h1 hn
    · omega
  have hh2 : Holds (turn m x n true) x n := (turn_holds hx hn hR true x n).2 (by rw [if_pos ⟨rfl, rfl⟩])
  have h3 : ((turn m x n true).getD x.toNat []).length ≠ 1 := by
    rw [turn_at hx, if_pos rfl]
    exact add_two (hR.row (by omega)) hn.1 hn.2 fun h4 => hh ⟨hx, h4⟩
  rcases h with ⟨h1, _⟩ | ⟨_, h1, _⟩ | ⟨_, _, h1, _⟩ | ⟨_, _, _, h4, h5, h6⟩
  · exact absurd h1 hw2
  · exact absurd hh2 h1
  · exact absurd h1 h3
  · exact ⟨by omega, by rw [← h5]; exact (turn_back hR hx hh).symm, h6⟩
theorem not_both (hA : Add e m x n E M X) (hR : Ret e m x n E2 M2 X2) (h0 : X = 0) : X2 ≠ 0 := by
  rcases hA with ⟨_, _, _, rfl⟩ | ⟨_, _, _, _, rfl⟩ | ⟨hw, hh, _, _, _⟩
  · omega
  · omega
  · rcases hR with ⟨_, _, _, rfl⟩ | ⟨_, _, _, _, rfl⟩ | ⟨_, h1, _⟩ | ⟨_, h1, _⟩
    · omega
    · omega
    · exact absurd h1 hh
    · exact absurd h1 hh
theorem Add.others (h : Add e m x n E M X) {y k : Int} (hne : ¬ (y = x ∧ k = n)) : Holds M y k ↔ Holds m y k := by
  rcases h with ⟨_, _, rfl, _⟩ | ⟨_, _, _, rfl, _⟩ | ⟨hw, _, _, rfl, _⟩
  · exact Iff.rfl
  · exact Iff.rfl
  · obtain ⟨hR, hx, hn, _⟩ := not_wrong hw
    rw [turn_holds hx hn hR true y k, if_neg hne]
theorem Ret.others (h : Ret e m x n E M X) {y k : Int} (hne : ¬ (y = x ∧ k = n)) : Holds M y k ↔ Holds m y k := by
  rcases h with ⟨_, _, rfl, _⟩ | ⟨_, _, _, rfl, _⟩ | ⟨_, _, _, _, rfl, _⟩ | ⟨hw, _, _, _, rfl, _⟩
  · exact Iff.rfl
  · exact Iff.rfl
  · exact Iff.rfl
  · obtain ⟨hR, hx, hn, _⟩ := not_wrong hw
    rw [turn_holds hx hn hR false y k, if_neg hne]
theorem Add.done (h : Add e m x n E M X) (h0 : X = 0) : E = e + 1 ∧ Holds M x n := by
  rcases h with ⟨_, _, _, rfl⟩ | ⟨_, _, _, _, rfl⟩ | ⟨hw, _, rfl, rfl, _⟩
  · omega
  · omega
  · obtain ⟨hR, hx, hn, _⟩ := not_wrong hw
    exact ⟨rfl, (turn_holds hx hn hR true x n).2 (by rw [if_pos ⟨rfl, rfl⟩])⟩
theorem Ret.done (h : Ret e m x n E M X) (h0 : X = 0) : E = e + 1 ∧ ¬ Holds M x n := by
  rcases h with ⟨_, _, _, rfl⟩ | ⟨_, _, _, _, rfl⟩ | ⟨_, _, _, _, _, rfl⟩ | ⟨hw, _, _, rfl, rfl, _⟩
  · omega
  · omega
  · omega
  · obtain ⟨hR, hx, hn, _⟩ := not_wrong hw
    exact ⟨rfl, fun h1 => by have := (turn_holds hx hn hR false x n).1 h1; rw [if_pos ⟨rfl, rfl⟩] at this; cases this⟩
theorem Add.still (h : Add e m x n E M X) (h0 : X ≠ 0) : E = e := by
  rcases h with ⟨_, rfl, _, _⟩ | ⟨_, _, rfl, _, _⟩ | ⟨_, _, _, _, rfl⟩
  · rfl
  · rfl
  · exact absurd rfl h0
theorem Ret.still (h : Ret e m x n E M X) (h0 : X ≠ 0) : E = e := by
  rcases h with ⟨_, rfl, _, _⟩ | ⟨_, _, rfl, _, _⟩ | ⟨_, _, _, rfl, _, _⟩ | ⟨_, _, _, _, _, rfl⟩
  · rfl
  · rfl
  · rfl
  · exact absurd rfl h0
end
end Go.Proofs.Ytpfhjdlmjehfnaa.Pl
