/- What a line tells, as the statements of layer 20 have it: whatever line it is (written by wip/tools/mk-ltell.py). -/
import Derived.Test.YtokfcjgfpchffaaGreatDoorShGa
import Derived.Test.YtokfcjgfpchffaaGreatDoorShGb
import Derived.Test.YtokfcjgfpchffaaGreatDoorShGc
namespace Go.Proofs.YtokfcjgfpchffaaGreatDoor
open Go.ChangeShapes Go.WideShapes Go.ChangeAt Go.RowKit



section
variable {O V : Nat → Prop} {w : World} {p : Nat} {s : Ft.St}
theorem two_of {α : Type} {r : List α} (h : r.length = 2) : ∃ x y, r = [x, y] := by
  match r, h with
  | [x, y], _ => exact ⟨x, y, rfl⟩
/-- A line, whatever it is. -/
theorem ltell (H : FlAt O V w p 1 Sc.msS s (Ft.qs Sc.msS s)) (hA : Alive 1 Sc.msS Sc.tS s) (d : ByteArray) (hd : d.size ≤ 2900) :
    Calls Tryz.prog 13 #[.pointer (some ⟨p, 0, none⟩), .string d] w fun e w' => e = .returned (.string ⟨(Sc.tell s d.data.toList).2.toArray⟩) ∧ Moved O V w w' p (Sc.tell s d.data.toList).1 := by
  obtain ⟨w0, r, hp⟩ := List.exists_cons_of_ne_nil (Sh.pieces_ne 32 d.data.toList)
  by_cases hall : ∀ x ∈ r, Sh.Num x
  · rw [Sc.tell_of s hp hall]
    by_cases h0 : w0 = Sc.askW
    · by_cases hk : r.length = 0
      · have hr := List.eq_nil_of_length_eq_zero hk
        subst hr
        exact ltell_ask H hA d hd w0 hp hall h0
      · have ha : Sc.act s w0 (r.map Sh.val) = (s, Sc.told 2) := by
          rw [h0]
          unfold Sc.act
          rw [if_neg (fun k => hk (by have h9 := k.2; rw [List.length_map] at h9; exact h9)), if_neg (fun k => absurd k.1 (by decide)), if_neg (fun k => absurd k.1 (by decide)), if_neg (fun k => absurd k.1 (by decide)), if_neg (fun k => absurd k.1 (by decide)), if_neg (fun k => absurd k.1 (by decide)), if_neg (fun k => absurd k.1 (by decide)), if_neg (fun k => absurd k.1 (by decide))]
        rw [ha]
        exact ltell_ask_else H hA d hd w0 r hp hall h0 hk
    by_cases h1 : w0 = Sc.deliverW
    · by_cases hk : r.length = 1
      · obtain ⟨x, hr⟩ := List.length_eq_one_iff.1 hk
        subst hr
        exact ltell_deliver H hA d hd w0 x hp hall h1
      · have ha : Sc.act s w0 (r.map Sh.val) = (s, Sc.told 2) := by
          rw [h1]
          unfold Sc.act
          rw [if_neg (fun k => absurd k.1 (by decide)), if_neg (fun k => hk (by have h9 := k.2; rw [List.length_map] at h9; exact h9)), if_neg (fun k => absurd k.1 (by decide)), if_neg (fun k => absurd k.1 (by decide)), if_neg (fun k => absurd k.1 (by decide)), if_neg (fun k => absurd k.1 (by decide)), if_neg (fun k => absurd k.1 (by decide)), if_neg (fun k => absurd k.1 (by decide))]
        rw [ha]
        exact ltell_deliver_else H hA d hd w0 r hp hall h1 hk
    by_cases h2 : w0 = Sc.dropW
    · by_cases hk : r.length = 1
      · obtain ⟨x, hr⟩ := List.length_eq_one_iff.1 hk
        subst hr
        exact ltell_drop H hA d hd w0 x hp hall h2
      · have ha : Sc.act s w0 (r.map Sh.val) = (s, Sc.told 2) := by
          rw [h2]
          unfold Sc.act
          rw [if_neg (fun k => absurd k.1 (by decide)), if_neg (fun k => absurd k.1 (by decide)), if_neg (fun k => hk (by have h9 := k.2; rw [List.length_map] at h9; exact h9)), if_neg (fun k => absurd k.1 (by decide)), if_neg (fun k => absurd k.1 (by decide)), if_neg (fun k => absurd k.1 (by decide)), if_neg (fun k => absurd k.1 (by decide)), if_neg (fun k => absurd k.1 (by decide))]
        rw [ha]
        exact ltell_drop_else H hA d hd w0 r hp hall h2 hk
    by_cases h3 : w0 = Sc.twiceW
    · by_cases hk : r.length = 1
      · obtain ⟨x, hr⟩ := List.length_eq_one_iff.1 hk
        subst hr
        exact ltell_twice H hA d hd w0 x hp hall h3
      · have ha : Sc.act s w0 (r.map Sh.val) = (s, Sc.told 2) := by
          rw [h3]
          unfold Sc.act
          rw [if_neg (fun k => absurd k.1 (by decide)), if_neg (fun k => absurd k.1 (by decide)), if_neg (fun k => absurd k.1 (by decide)), if_neg (fun k => hk (by have h9 := k.2; rw [List.length_map] at h9; exact h9)), if_neg (fun k => absurd k.1 (by decide)), if_neg (fun k => absurd k.1 (by decide)), if_neg (fun k => absurd k.1 (by decide)), if_neg (fun k => absurd k.1 (by decide))]
        rw [ha]
        exact ltell_twice_else H hA d hd w0 r hp hall h3 hk
    by_cases h4 : w0 = Sc.addW
    · by_cases hk : r.length = 2
      · obtain ⟨x, y, hr⟩ := two_of hk
        subst hr
        exact ltell_add H hA d hd w0 x y hp hall h4
      · have ha : Sc.act s w0 (r.map Sh.val) = (s, Sc.told 2) := by
          rw [h4]
          unfold Sc.act
          rw [if_neg (fun k => absurd k.1 (by decide)), if_neg (fun k => absurd k.1 (by decide)), if_neg (fun k => absurd k.1 (by decide)), if_neg (fun k => absurd k.1 (by decide)), if_neg (fun k => hk (by have h9 := k.2; rw [List.length_map] at h9; exact h9)), if_neg (fun k => absurd k.1 (by decide)), if_neg (fun k => absurd k.1 (by decide)), if_neg (fun k => absurd k.1 (by decide))]
        rw [ha]
        exact ltell_add_else H hA d hd w0 r hp hall h4 hk
    by_cases h5 : w0 = Sc.retireW
    · by_cases hk : r.length = 2
      · obtain ⟨x, y, hr⟩ := two_of hk
        subst hr
        exact ltell_retire H hA d hd w0 x y hp hall h5
      · have ha : Sc.act s w0 (r.map Sh.val) = (s, Sc.told 2) := by
          rw [h5]
          unfold Sc.act
          rw [if_neg (fun k => absurd k.1 (by decide)), if_neg (fun k => absurd k.1 (by decide)), if_neg (fun k => absurd k.1 (by decide)), if_neg (fun k => absurd k.1 (by decide)), if_neg (fun k => absurd k.1 (by decide)), if_neg (fun k => hk (by have h9 := k.2; rw [List.length_map] at h9; exact h9)), if_neg (fun k => absurd k.1 (by decide)), if_neg (fun k => absurd k.1 (by decide))]
        rw [ha]
        exact ltell_retire_else H hA d hd w0 r hp hall h5 hk
    by_cases h6 : w0 = Sc.bagW
    · by_cases hk : r.length = 0
      · have hr := List.eq_nil_of_length_eq_zero hk
        subst hr
        exact ltell_bag H hA d hd w0 hp hall h6
      · have ha : Sc.act s w0 (r.map Sh.val) = (s, Sc.told 2) := by
          rw [h6]
          unfold Sc.act
          rw [if_neg (fun k => absurd k.1 (by decide)), if_neg (fun k => absurd k.1 (by decide)), if_neg (fun k => absurd k.1 (by decide)), if_neg (fun k => absurd k.1 (by decide)), if_neg (fun k => absurd k.1 (by decide)), if_neg (fun k => absurd k.1 (by decide)), if_neg (fun k => hk (by have h9 := k.2; rw [List.length_map] at h9; exact h9)), if_neg (fun k => absurd k.1 (by decide))]
        rw [ha]
        exact ltell_bag_else H hA d hd w0 r hp hall h6 hk
    by_cases h7 : w0 = Sc.doneW
    · by_cases hk : r.length = 0
      · have hr := List.eq_nil_of_length_eq_zero hk
        subst hr
        exact ltell_done H hA d hd w0 hp hall h7
      · have ha : Sc.act s w0 (r.map Sh.val) = (s, Sc.told 2) := by
          rw [h7]
          unfold Sc.act
          rw [if_neg (fun k => absurd k.1 (by decide)), if_neg (fun k => absurd k.1 (by decide)), if_neg (fun k => absurd k.1 (by decide)), if_neg (fun k => absurd k.1 (by decide)), if_neg (fun k => absurd k.1 (by decide)), if_neg (fun k => absurd k.1 (by decide)), if_neg (fun k => absurd k.1 (by decide)), if_neg (fun k => hk (by have h9 := k.2; rw [List.length_map] at h9; exact h9))]
        rw [ha]
        exact ltell_done_else H hA d hd w0 r hp hall h7 hk
    have hno : w0 ∉ [Sc.askW, Sc.deliverW, Sc.dropW, Sc.twiceW, Sc.addW, Sc.retireW, Sc.bagW, Sc.doneW] := by
      simp only [List.mem_cons, List.not_mem_nil, or_false, not_or]
      exact ⟨h0, h1, h2, h3, h4, h5, h6, h7⟩
    rw [Sc.act_none s _ hno]
    exact ltell_none H hA d hd w0 r hp hall hno
  · have ha : Sc.tell s d.data.toList = (s, Sc.told 2) := by
      unfold Sc.tell
      rw [hp, if_neg (show ¬ ∀ x ∈ (w0 :: r).tail, Sh.Num x from hall)]
    rw [ha]
    exact ltell_bad H hA d hd w0 r hp hall
end

end Go.Proofs.YtokfcjgfpchffaaGreatDoor
