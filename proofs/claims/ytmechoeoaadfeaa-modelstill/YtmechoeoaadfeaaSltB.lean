/- What the document's ahead and Slot do when called, and the fixed answer of the laws of layer 14. -/
import Derived.Test.YtmechoeoaadfeaaSltA
namespace Go.Proofs.Ytmechoeoaadfeaa
open Go.ChangeShapes Go.WideShapes Go.ChangeAt Go.RowKit Go.Maps

theorem Sl.cut_yes {l : List Int} {x : Int} {p P m : Nat} (hm : Sl.cnt l x (min p P) = m) (h : p < P) (hp : p < l.length) (e : l.getD p 0 = x) : Sl.cnt l x (min (p + 1) P) = m + 1 := by
  rw [Nat.min_eq_left (by omega)] at hm ⊢
  rw [Sl.cnt_yes hp e, hm]
theorem Sl.cut_no {l : List Int} {x : Int} {p P m : Nat} (hm : Sl.cnt l x (min p P) = m) (hp : p < l.length) (h : ¬ (p < P ∧ l.getD p 0 = x)) : Sl.cnt l x (min (p + 1) P) = m := by
  by_cases hlt : p < P
  · rw [Nat.min_eq_left (by omega)] at hm ⊢
    rw [Sl.cnt_no hp (fun e => h ⟨hlt, e⟩)]
    exact hm
  · rw [Nat.min_eq_right (by omega)] at hm ⊢
    exact hm

set_option maxHeartbeats 4000000 in
theorem ahead (a : Option Addr) (n c : Nat) (l : List Int) (t k : Nat) (x : Int) (m0 : Nat) (w : World) (h : Flat w a n l) (hn : n ≤ 1000) (ht : t < n) (hk : k < 2) (hm0 : Sl.cnt l x (t * 2 + k) = m0) :
    Calls Try.prog 46 #[.slice a n c, .int .i64 (t : Int), .int .i64 (k : Int), .int .i64 x] w fun e w' => e = .returned (.int .i64 (m0 : Int)) ∧ w' = w := by
  have HL : Hid (l.length = n * 2) := h.len
  have HH : Hid (Flat w a n l) := h
  have HM : Hid (Sl.cnt l x (t * 2 + k) = m0) := hm0
  clear h hm0
  go_enter Try.func46, Try.ntmps46
  go_wp2
  go_loopw [9, 10] (fun v i wr => ∃ j m : Nat, j ≤ t + 1 ∧ v = .int .i64 m ∧ i = .int .i64 j ∧ Hid (Sl.cnt l x (min (j * 2) (t * 2 + k)) = m) ∧ wr = w) (fun _ i _ => t + 1 - (intOf i).toNat)
  case atStart => exact ⟨0, 0, Nat.zero_le _, rfl, rfl, by show _ = _; rw [Nat.zero_mul, Nat.min_eq_left (Nat.zero_le _), Sl.cnt_zero], rfl⟩
  case round =>
    obtain ⟨j, m, hj, rfl, rfl, HC, hww⟩ := hrel
    replace hww := hww.symm
    subst hww
    by_cases hlt : j ≤ t
    · have hli : (j : Int) ≤ (t : Int) := by omega
      have hj0 : (0 : Int) ≤ (j : Int) := by omega
      have hjn : (j : Int) < (n : Int) := by omega
      go_wp2
      go_loopw [9, 11] (fun v i wr => ∃ r m : Nat, r ≤ 2 ∧ v = .int .i64 m ∧ i = .int .i64 r ∧ Hid (Sl.cnt l x (min (j * 2 + r) (t * 2 + k)) = m) ∧ wr = w) (fun _ i _ => 2 - (intOf i).toNat)
      case atStart => exact ⟨0, m, Nat.zero_le _, rfl, rfl, HC, rfl⟩
      case round =>
        clear HC
        obtain ⟨r, m, hr, rfl, rfl, HC, hww⟩ := hrel
        replace hww := hww.symm
        subst hww
        by_cases hr2 : r < 2
        · obtain ⟨b1, o1, rfl, _, hc1⟩ := HH.out.one (j := j) (by omega) hr2
          obtain ⟨X, hX⟩ : ∃ X, l.getD (j * 2 + r) 0 = X := ⟨_, rfl⟩
          rw [hX] at hc1
          have HX : Hid (l.getD (j * 2 + r) 0 = X) := hX
          have hm9 : m ≤ 3000 := by have h7 := Sl.cnt_le l x (min (j * 2 + r) (t * 2 + k)); rw [HC.out] at h7; omega
          have hrc : (r : Int) < 2 := by omega
          have hr0 : (0 : Int) ≤ (r : Int) := by omega
          clear hX
          by_cases hx : X = x
          · have e1 : (X == x) = true := by rw [hx]; simp
            by_cases hjt : j < t
            · have e2 : (j : Int) < (t : Int) := by omega
              have HC2 : Hid (Sl.cnt l x (min (j * 2 + (r + 1)) (t * 2 + k)) = m + 1) := Sl.cut_yes (p := j * 2 + r) HC.out (by omega) (by have := HL.out; omega) (HX.out.trans hx)
              clear hx
              go_wp2
              go_roundw
              case rel => exact ⟨r + 1, m + 1, by omega, by go_num, by go_num, HC2, by trivial⟩
              case measure => simp [intOf]; omega
            · have e2 : ¬ (j : Int) < (t : Int) := by omega
              by_cases hrk : r < k
              · have e3 : (r : Int) < (k : Int) := by omega
                have HC2 : Hid (Sl.cnt l x (min (j * 2 + (r + 1)) (t * 2 + k)) = m + 1) := Sl.cut_yes (p := j * 2 + r) HC.out (by omega) (by have := HL.out; omega) (HX.out.trans hx)
                clear hx
                go_wp2
                go_roundw
                case rel => exact ⟨r + 1, m + 1, by omega, by go_num, by go_num, HC2, by trivial⟩
                case measure => simp [intOf]; omega
              · have e3 : ¬ (r : Int) < (k : Int) := by omega
                have HC2 : Hid (Sl.cnt l x (min (j * 2 + (r + 1)) (t * 2 + k)) = m) := Sl.cut_no (p := j * 2 + r) HC.out (by have := HL.out; omega) (fun h => by omega)
                clear hx
                go_wp2
                go_roundw
                case rel => exact ⟨r + 1, m, by omega, rfl, by go_num, HC2, by trivial⟩
                case measure => simp [intOf]; omega
          · have e1 : (X == x) = false := by simpa using hx
            have HC2 : Hid (Sl.cnt l x (min (j * 2 + (r + 1)) (t * 2 + k)) = m) := Sl.cut_no (p := j * 2 + r) HC.out (by have := HL.out; omega) (fun h => hx (by rw [← HX.out]; exact h.2))
            clear hx
            go_wp2
            go_roundw
            case rel => exact ⟨r + 1, m, by omega, rfl, by go_num, HC2, by trivial⟩
            case measure => simp [intOf]; omega
        · have hrr : r = 2 := by omega
          subst hrr
          have hli2 : ¬ ((2 : Nat) : Int) < 2 := by omega
          have HC2 : Hid (Sl.cnt l x (min ((j + 1) * 2) (t * 2 + k)) = m) := by show _ = _; rw [Nat.add_mul, Nat.one_mul]; exact HC.out
          have hj9 : j ≤ 2000 := by omega
          go_wp2
          go_roundw
          case rel => exact ⟨j + 1, m, by omega, rfl, by go_num, HC2, by trivial⟩
          case measure => simp [intOf]; omega
    · have hjt : j = t + 1 := by omega
      subst hjt
      have hli : ¬ ((t + 1 : Nat) : Int) ≤ (t : Int) := by omega
      have hmm : m = m0 := by have h7 := HC.out; rw [Nat.min_eq_right (by omega), HM.out] at h7; exact h7.symm
      subst hmm
      go_wp2
      go_ret
      exact ⟨rfl, rfl⟩

theorem rslot (a : Option Addr) (n c : Nat) (l : List Int) (E C : Int) (t k : Nat) (s : Int) (w : World) (h : Flat w a n l) (hn : n ≤ 1000) (ht : t < n) (hk : k < 2) (hs : Sl.slot l E C (t * 2 + k) = s) :
    Calls Try.prog 31 #[.slice a n c, .int .i64 E, .int .i64 C, .int .i64 (t : Int), .int .i64 (k : Int)] w fun e w' => e = .returned (.int .i64 s) ∧ w' = w := by
  obtain ⟨b1, o1, rfl, _, hc1⟩ := h.one ht hk
  obtain ⟨X, hX⟩ : ∃ X, l.getD (t * 2 + k) 0 = X := ⟨_, rfl⟩
  obtain ⟨m, hm⟩ : ∃ m, Sl.cnt l X (t * 2 + k) = m := ⟨_, rfl⟩
  rw [hX] at hc1
  have hA := ahead _ n c l t k X m w h hn ht hk hm
  have htn : (t : Int) < (n : Int) := by omega
  have ht0 : (0 : Int) ≤ (t : Int) := by omega
  have hkc : (k : Int) < 2 := by omega
  have hk0 : (0 : Int) ≤ (k : Int) := by omega
  unfold Sl.slot at hs
  rw [hX, hm] at hs
  by_cases hin : 0 ≤ X ∧ X < E ∧ (m : Int) < C
  · rw [if_pos hin] at hs
    obtain ⟨g0, g1, g2⟩ := hin
    subst hs
    clear hX hm h
    go_enter Try.func31, Try.ntmps31
    go_wp2_with (go_at_call 46; refine by_same hA ?_)
    go_ret
    exact ⟨rfl, rfl⟩
  · rw [if_neg hin] at hs
    subst hs
    rcases (by omega : X < 0 ∨ (0 ≤ X ∧ E ≤ X) ∨ (0 ≤ X ∧ X < E ∧ C ≤ (m : Int))) with g0 | ⟨g0, g1⟩ | ⟨g0, g1, g2⟩
    all_goals
      clear hin hX hm h
      go_enter Try.func31, Try.ntmps31
      go_wp2_with (go_at_call 46; refine by_same hA ?_)
      go_ret
      exact ⟨rfl, rfl⟩

theorem fits4 : ∀ x ∈ ([0, 1, 0, 1] : List Int), (Lit.int .i64 x).wf = true := by decide
theorem slots4 : Sl.slots [0, 1, 0, 1] 2 1 = [0, 0, -1, -1] := by decide

end Go.Proofs.Ytmechoeoaadfeaa
