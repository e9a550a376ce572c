/- What certain scripts tell, as lists of bytes (no program in sight but what lies beneath Alive). -/
import Derived.Test.YtokfcjgfpchffaaGreatDoorKn
namespace Go.Proofs.YtokfcjgfpchffaaGreatDoor.Sc
open Go.Proofs.YtokfcjgfpchffaaGreatDoor Go.Proofs.YtokfcjgfpchffaaGreatDoor.Sh

/-! ### The fixed answer -/
def awT : List UInt8 := [98, 97, 103, 10, 100, 111, 110, 101, 10, 100, 114, 111, 112, 32, 57, 10, 119, 104, 97, 116, 10, 114, 101, 116, 105, 114, 101, 32, 48, 32, 49, 10, 114, 101, 116, 105, 114, 101, 32, 48, 32, 50]
def awA : List UInt8 := [111, 107, 32, 52, 32, 48, 10, 111, 107, 10, 101, 114, 114, 111, 114, 32, 52, 10, 101, 114, 114, 111, 114, 32, 50, 10, 111, 107, 10, 101, 114, 114, 111, 114, 32, 55, 10]
theorem ret_turned {e : Int} {h : List (List Int)} {x n : Int} (h1 : ¬ Pl.Wrong e h x n) (h2 : Pl.Holds h x n) (h3 : (h.getD x.toNat []).length ≠ 1) : retS e h x n = (e + 1, Pl.turn h x n false, 0) := by
  unfold retS
  rw [if_neg h1, if_neg (fun k => k h2), if_neg h3]
theorem ret_last {e : Int} {h : List (List Int)} {x n : Int} (h1 : ¬ Pl.Wrong e h x n) (h2 : Pl.Holds h x n) (h3 : (h.getD x.toNat []).length = 1) : retS e h x n = (e, h, 7) := by
  unfold retS
  rw [if_neg h1, if_neg (fun k => k h2), if_pos h3]
theorem tell_alone (s : Ft.St) {line : List UInt8} (hp : pieces 32 line = [line]) : tell s line = ((alone s line).1, textI (alone s line).2.1 (alone s line).2.2) := by
  rw [tell_of s hp (fun x hx => by cases hx)]
  exact act_alone s line
theorem num_one {x : UInt8} (h : isDig x) : Num [x] := ⟨by simp, by simp, .inl rfl, fun y hy => by rw [List.mem_singleton.1 hy]; exact h⟩
theorem aw_bag : begun.bag.length = 4 := by
  show (Ft.start msS 0 hS tS).bag.length = 4
  decide +kernel
theorem aw_worked : Ft.worked begun = 0 := by
  show Ft.worked (Ft.start msS 0 hS tS) = 0
  decide +kernel
theorem aw_lay : begun.lay = 0 := by
  show (Ft.start msS 0 hS tS).lay = 0
  decide +kernel
theorem aw_e : begun.e = 0 := by
  show (Ft.start msS 0 hS tS).e = 0
  decide +kernel
theorem aw_h : begun.h = hS := by
  show (Ft.start msS 0 hS tS).h = hS
  decide +kernel
theorem tell_bag (s : Ft.St) : tell s bagW = (s, okW ++ 32 :: (dig s.bag.length ++ 32 :: dig (Ft.worked s))) := by
  rw [tell_alone s (by decide)]
  unfold alone
  rw [if_neg (by decide), if_pos rfl]
  show (s, okW ++ ([32 :: dig ((s.bag.length : Int)).toNat, 32 :: dig ((Ft.worked s : Int)).toNat]).flatten) = _
  rw [show ((s.bag.length : Int)).toNat = s.bag.length by omega, show ((Ft.worked s : Int)).toNat = Ft.worked s by omega]
  simp
theorem tell_done_is (s : Ft.St) : tell s doneW = (s, okW ++ (if s.lay = msS.length then doneS s.toks else [])) := by
  have h := tell_done s
  have h1 : (tell s doneW).1 = s := by
    rw [tell_alone s (by decide)]
    unfold alone
    rw [if_neg (by decide), if_neg (by decide), if_pos rfl]
  exact Prod.ext h1 h
theorem tell_drop (s : Ft.St) {x : UInt8} (h : isDig x) (hp : pieces 32 (dropW ++ [32, x]) = [dropW, [x]]) : tell s (dropW ++ [32, x]) = (Ft.drop s (val [x]), textI [] (if val [x] < s.bag.length then 0 else 4)) := by
  rw [tell_of s hp (fun y hy => by rw [List.mem_singleton.1 hy]; exact num_one h)]
  show act s dropW [val [x]] = _
  rw [act_frame]
  unfold ofFrame
  rw [if_neg (by decide), if_pos rfl]
theorem tell_retire (s : Ft.St) {x y : UInt8} (hx : isDig x) (hy : isDig y) (hp : pieces 32 (retireW ++ [32, x, 32, y]) = [retireW, [x], [y]]) : tell s (retireW ++ [32, x, 32, y]) = (Ft.turned s (retS s.e s.h (val [x] : Nat) (val [y] : Nat)).1 (retS s.e s.h (val [x] : Nat) (val [y] : Nat)).2.1, textI [] (retS s.e s.h (val [x] : Nat) (val [y] : Nat)).2.2.toNat) := by
  rw [tell_of s hp (fun z hz => by
    simp only [List.mem_cons, List.not_mem_nil, or_false] at hz
    rcases hz with rfl | rfl
    · exact num_one hx
    · exact num_one hy)]
  show act s retireW [val [x], val [y]] = _
  rw [act_holder]
  unfold ofHolder
  rw [if_neg (by decide), if_pos rfl]
/-- A word that is none of the eight. -/
theorem act_none (s : Ft.St) {w : List UInt8} (l : List Nat) (h : w ∉ [askW, deliverW, dropW, twiceW, addW, retireW, bagW, doneW]) : act s w l = (s, told 2) := by
  simp only [List.mem_cons, List.not_mem_nil, or_false, not_or] at h
  obtain ⟨h1, h2, h3, h4, h5, h6, h7, h8⟩ := h
  unfold act
  rw [if_neg (fun k => h1 k.1), if_neg (fun k => h2 k.1), if_neg (fun k => h3 k.1), if_neg (fun k => h4 k.1), if_neg (fun k => h5 k.1), if_neg (fun k => h6 k.1), if_neg (fun k => h7 k.1), if_neg (fun k => h8 k.1)]
theorem not_wrong {e : Int} {h : List (List Int)} {x n : Int} (h1 : Pl.Right e h) (h2 : 0 ≤ x ∧ x < (h.length : Int)) (h3 : 1 ≤ n ∧ n ≤ 4) (h4 : e ≠ 2147483647) : ¬ Pl.Wrong e h x n := by
  rintro (k | k | k | k)
  · exact k h1
  · exact k h2
  · exact k h3
  · exact h4 k
theorem aw_report : report awT = awA := by
  have hl : lines awT = [bagW, doneW, dropW ++ [32, 57], [119, 104, 97, 116], retireW ++ [32, 48, 32, 49], retireW ++ [32, 48, 32, 50]] := by decide +kernel
  unfold report
  rw [hl]
  have e1 := tell_bag begun
  rw [aw_bag, aw_worked] at e1
  have e2 := tell_done_is begun
  rw [if_neg (by rw [aw_lay]; decide)] at e2
  have e3 := tell_drop begun (x := 57) (by decide) (by decide)
  rw [aw_bag] at e3
  obtain ⟨s3, hs3⟩ : ∃ s3, Ft.drop begun (val [57]) = s3 := ⟨_, rfl⟩
  have s3e : s3.e = 0 := by rw [← hs3]; exact aw_e
  have s3h : s3.h = hS := by rw [← hs3]; exact aw_h
  rw [hs3] at e3
  have e4 : tell s3 [119, 104, 97, 116] = (s3, told 2) := by
    rw [tell_of s3 (w := [119, 104, 97, 116]) (r := []) (by decide) (fun x hx => by cases hx)]
    exact act_none s3 _ (by decide)
  have hr : retS 0 hS 0 1 = (0 + 1, Pl.turn hS 0 1 false, 0) := ret_turned (not_wrong mayS.2.2.1 (by decide) (by decide) (by decide)) ⟨by decide, by decide⟩ (by decide)
  have ht : Pl.turn hS 0 1 false = [[2], [1, 2]] := by decide
  have hr2 : retS 1 [[2], [1, 2]] 0 2 = (1, [[2], [1, 2]], 7) := ret_last (not_wrong ⟨by decide, by decide, fun l hl => by
    simp only [List.mem_cons, List.not_mem_nil, or_false] at hl
    rcases hl with rfl | rfl
    · exact ⟨by decide, by decide, by decide⟩
    · exact ⟨by decide, by decide, by decide⟩⟩ (by decide) (by decide) (by decide)) ⟨by decide, by decide⟩ (by decide)
  have e5 := tell_retire s3 (x := 48) (y := 49) (by decide) (by decide) (by decide)
  have v0 : ((val [48] : Nat) : Int) = 0 := rfl
  have v1 : ((val [49] : Nat) : Int) = 1 := rfl
  have v2 : ((val [50] : Nat) : Int) = 2 := rfl
  rw [s3e, s3h, v0, v1, hr, ht] at e5
  obtain ⟨s5, hs5⟩ : ∃ s5, Ft.turned s3 (0 + 1) [[2], [1, 2]] = s5 := ⟨_, rfl⟩
  have s5e : s5.e = 1 := by rw [← hs5]; rfl
  have s5h : s5.h = [[2], [1, 2]] := by rw [← hs5]; rfl
  rw [hs5] at e5
  have e6 := tell_retire s5 (x := 48) (y := 50) (by decide) (by decide) (by decide)
  rw [s5e, s5h, v0, v2, hr2] at e6
  unfold run
  rw [e1]
  unfold run
  rw [e2]
  unfold run
  rw [e3]
  unfold run
  rw [e4]
  unfold run
  rw [e5]
  unfold run
  rw [e6]
  unfold run
  have d4 : dig 4 = [52] := by rw [dig_low (by omega)]; rfl
  have d0 : dig 0 = [48] := by rw [dig_low (by omega)]; rfl
  have d2 : told 2 = [101, 114, 114, 111, 114, 32, 50] := by
    show textI [] 2 = _
    unfold textI
    rw [if_neg (by decide), dig_low (by omega)]
    rfl
  have t4 : textI [] (if val [57] < 4 then 0 else 4) = [101, 114, 114, 111, 114, 32, 52] := by
    rw [if_neg (by decide)]
    unfold textI
    rw [if_neg (by decide), d4]
    rfl
  have t0 : textI [] ((0 : Int)).toNat = [111, 107] := rfl
  have t7 : textI [] ((7 : Int)).toNat = [101, 114, 114, 111, 114, 32, 55] := by
    show textI [] 7 = _
    unfold textI
    rw [if_neg (by decide), dig_low (by omega)]
    rfl
  rw [d4, d0, d2, t4]
  show _ ++ 10 :: (_ ++ 10 :: (_ ++ 10 :: (_ ++ 10 :: (textI [] ((0 : Int)).toNat ++ 10 :: (textI [] ((7 : Int)).toNat ++ 10 :: []))))) = _
  rw [t0, t7]
  rfl

end Go.Proofs.YtokfcjgfpchffaaGreatDoor.Sc
