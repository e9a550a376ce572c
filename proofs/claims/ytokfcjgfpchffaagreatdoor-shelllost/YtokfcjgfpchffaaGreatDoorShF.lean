/- What the helpers of layer 20's statements do when called: the fixed answer, small. -/
import Derived.Test.YtokfcjgfpchffaaGreatDoorShE
import Derived.Test.YtokfcjgfpchffaaGreatDoorScE
import Derived.Test.YtokfcjgfpchffaaGreatDoorScW
namespace Go.Proofs.YtokfcjgfpchffaaGreatDoor
open Go.ChangeShapes Go.WideShapes Go.ChangeAt Go.RowKit


set_option maxRecDepth 100000 in
set_option maxHeartbeats 1000000 in
theorem lawake (w : World) (hE : Env w) : Calls Tryz.prog 10 #[] w fun e w' => e = .returned (.bool true) ∧ Below w.heap.size w w' := by
  have HR : Hid (Calls Tryz.prog 14 #[.string ⟨#[98, 97, 103, 10, 100, 111, 110, 101, 10, 100, 114, 111, 112, 32, 57, 10, 119, 104, 97, 116, 10, 114, 101, 116, 105, 114, 101, 32, 48, 32, 49, 10, 114, 101, 116, 105, 114, 101, 32, 48, 32, 50]⟩] w fun e w' => e = .returned (.string ⟨(Sc.report Sc.awT).toArray⟩) ∧ Below w.heap.size w w') := prun ⟨Sc.awT.toArray⟩ (by rw [bsize]; decide) w hE
  rw [Sc.aw_report] at HR
  obtain ⟨D, hD⟩ : ∃ D : ByteArray, (⟨Sc.awA.toArray⟩ : ByteArray) = D := ⟨_, rfl⟩
  have q : (D.toList == ([111, 107, 32, 52, 32, 48, 10, 111, 107, 10, 101, 114, 114, 111, 114, 32, 52, 10, 101, 114, 114, 111, 114, 32, 50, 10, 111, 107, 10, 101, 114, 114, 111, 114, 32, 55, 10] : List UInt8)) = true := by
    rw [← hD]
    exact word_yes rfl
  rw [hD] at HR
  clear hD hE
  go_enter Tryz.func10, Tryz.ntmps10
  go_wp2_with fail
  refine HR.out.mono ?_
  rintro e u1 ⟨rfl, hb1⟩
  go_wp2
  go_ret
  exact ⟨rfl, hb1⟩
/-- A script that is short enough. -/
def SmallT (s : ByteArray) : Prop := s.size ≤ 2000 ∧ (Sh.pieces 10 s.data.toList).length ≤ 200
set_option maxRecDepth 100000 in
set_option maxHeartbeats 1000000 in
theorem lsmall_yes (s : ByteArray) (h : SmallT s) (w : World) : Calls Tryz.prog 9 #[.string s] w fun e w' => e = .returned (.bool true) ∧ Below w.heap.size w w' := by
  obtain ⟨h1, h2⟩ := h
  obtain ⟨n, hn⟩ : ∃ n, (Sh.pieces 10 s.data.toList).length = n := ⟨_, rfl⟩
  have HS : Hid (Calls Tryz.prog 11 #[.string s, .int .u8 10] w _) := rsplit s 10 (by omega) n hn w
  have e1 : (s.size : Int) ≤ 2000 := by omega
  have e2 : (n : Int) ≤ 200 := by omega
  clear h1 h2 hn
  go_enter Tryz.func9, Tryz.ntmps9
  go_wp2_with fail
  refine HS.out.mono ?_
  rintro e u1 ⟨hb1, a, c, rfl, _⟩
  go_wp2
  go_ret
  exact ⟨rfl, hb1⟩
set_option maxRecDepth 100000 in
set_option maxHeartbeats 1000000 in
theorem lsmall_no (s : ByteArray) (h : ¬ SmallT s) (w : World) : Calls Tryz.prog 9 #[.string s] w fun e w' => e = .returned (.bool false) ∧ Below w.heap.size w w' := by
  by_cases h1 : s.size ≤ 2000
  · obtain ⟨n, hn⟩ : ∃ n, (Sh.pieces 10 s.data.toList).length = n := ⟨_, rfl⟩
    have h2 : ¬ n ≤ 200 := fun k => h ⟨h1, by rw [hn]; exact k⟩
    have HS : Hid (Calls Tryz.prog 11 #[.string s, .int .u8 10] w _) := rsplit s 10 (by omega) n hn w
    have e1 : (s.size : Int) ≤ 2000 := by omega
    have HN2 : Hid (¬ (n : Int) ≤ 200) := by show ¬ _; omega
    clear h1 h2 hn h
    go_enter Tryz.func9, Tryz.ntmps9
    go_wp2_with fail
    refine HS.out.mono ?_
    rintro e u1 ⟨hb1, a, c, rfl, _⟩
    go_wp2
    go_ret
    exact ⟨by show Ending.returned (.bool (decide ((n : Int) ≤ 200))) = _; rw [decide_eq_false (Int.not_le.2 HN2.out)], hb1⟩
  · have e1 : ¬ (s.size : Int) ≤ 2000 := by omega
    clear h1 h
    go_enter Tryz.func9, Tryz.ntmps9
    go_wp2
    go_ret
    exact ⟨rfl, Below.refl _ _⟩

/-- A line's words are no longer than it. -/
theorem piece_sizes (d : ByteArray) (hd : d.size ≤ 2900) {w : List UInt8} {r : List (List UInt8)} (hp : Sh.pieces 32 d.data.toList = w :: r) : ∀ x ∈ Sh.texts r, x.size ≤ 100000 := by
  have aux : ∀ (l : List UInt8), ∀ p ∈ Sh.pieces 32 l, p.length ≤ l.length := by
    intro l
    induction l with
    | nil => intro p hp; simp [Sh.pieces] at hp; rw [hp]; exact Nat.le_refl _
    | cons x l ih =>
      intro p hp
      unfold Sh.pieces at hp
      split at hp
      · rcases List.mem_cons.1 hp with h | h
        · rw [h]; exact Nat.zero_le _
        · have := ih p h; simp; omega
      · split at hp
        · have h := List.mem_singleton.1 hp
          rw [h]; simp
        · rename_i q qs hq
          rcases List.mem_cons.1 hp with h | h
          · have := ih q (by rw [hq]; exact List.mem_cons_self)
            rw [h]; simp; exact this
          · have := ih p (by rw [hq]; exact List.mem_cons_of_mem _ h)
            simp; omega
  intro x hx
  unfold Sh.texts at hx
  obtain ⟨y, hy, rfl⟩ := List.mem_map.1 hx
  have h1 := aux d.data.toList y (by rw [hp]; exact List.mem_cons_of_mem _ hy)
  rw [list_size] at h1
  rw [bsize]
  omega

end Go.Proofs.YtokfcjgfpchffaaGreatDoor
