/- MoveBegins, with letters. -/
import Derived.Test.YtpfhjdlmjehfnaaMvI
import Derived.Test.YtpfhjdlmjehfnaaMvD
import Derived.Test.YtpfhjdlmjehfnaaMvH
import Derived.Test.YtpfhjdlmjehfnaaSm
namespace Go.Proofs.Ytpfhjdlmjehfnaa
open Go.ChangeShapes Go.WideShapes Go.ChangeAt Go.RowKit



theorem Mq.num_le {n z : Nat} (hz : 1 ≤ z) (h : n ≤ 1000) : Ck.num n z ≤ 1000 := by
  rcases Nat.lt_or_ge 1000 (Ck.num n z) with h9 | h9
  · have h8 := (Ck.num_lt (n := n) (size := z) (by omega)).1 h9
    have := Nat.mul_le_mul_left 1000 hz
    omega
  · exact h9
theorem Mq.Begin.few {e : Int} {m : List (List Int)} {x f t : Int} {s : ByteArray} {k X F T P S : Int} {H : List Bool} {G L : List ByteArray} {E : Int} (h : Mq.Begin e m x f t s k X F T P S H G L E) (hs : s.size ≤ 1000) : H.length ≤ 1000 ∧ G.length ≤ 1000 ∧ L.length ≤ 1000 := by
  rcases h with ⟨_, _, _, _, _, _, rfl, rfl, rfl, _⟩ | ⟨_, _, _, _, _, _, _, rfl, rfl, rfl, _⟩ | ⟨ho, _, _, _, _, _, _, rfl, rfl, rfl, _⟩
  · exact ⟨by simp, by simp, by simp⟩
  · exact ⟨by simp, by simp, by simp⟩
  · have h9 := Mq.num_le (n := s.size) (z := k.toNat) (by have := ho.2.2.2.2.1; omega) hs
    exact ⟨by rw [List.length_replicate]; exact h9, by rw [List.length_replicate]; exact h9, by rw [pieces_len]; exact h9⟩

set_option maxRecDepth 100000 in
set_option maxHeartbeats 4000000 in
theorem lbegins (AW : ∀ u, Calls Try.prog 11 #[] u fun r w' => r = .returned (.bool true) ∧ Below u.heap.size u w') (e : Int) (a : Option Addr) (n c : Nat) (m : List (List Int)) (x f t : Int) (s : ByteArray) (k : Int) (w : World) (h : matS.rep w everywhere [.slice a n c] m) (hsl : s.size ≤ maxLen) :
    Calls Try.prog 3 #[.agg #[.int .i64 e, .slice a n c], .int .i64 x, .int .i64 f, .int .i64 t, .string s, .int .i64 k] w fun r w' => r = .returned (.bool true) ∧ Below w.heap.size w w' := by
  have HAW := hidL AW
  have hm63 : s.size ≤ 9223372036854775807 := hsl
  have hbn := new_bel w (.cells #[.int .i64 e, .slice a n c] 24)
  have kb0 := Box.new w 24 #[.int .i64 e, .slice a n c]
  have HMA : Hid (∀ u, Below w.heap.size w u → matS.rep u everywhere [.slice a n c] m) := fun u hu => Shape.below h hu
  have HSM : Hid (Calls _ _ _ _ _) := small a n c m everywhere _ (Shape.below h hbn)
  have HBN := hidL hbn
  clear h hbn AW
  go_enter Try.func3, Try.ntmps3
  go_upto_region 1 with fail
  generalize w.alloc (.cells #[.int .i64 e, .slice a n c] 24) = W at *
  have c0 := kb0.cell 0 rfl
  have c1 := kb0.cell 1 rfl
  by_cases h3 : 300 < s.size
  · have h3i : (300 : Int) < (s.size : Int) := by omega
    go_wp2_with fail
    refine HSM.out.mono ?_
    rintro r W1 ⟨⟨bb, rfl, hbb⟩, h9⟩
    replace h9 := h9.symm
    subst h9
    clear hbb HSM
    cases bb
    all_goals
      go_wp2_with (go_at_call 11; refine (HAW.out _).mono ?_; rintro r WZ ⟨rfl, hbz⟩)
      go_ret
      exact ⟨rfl, bel_then (HBN.out) hbz⟩
  have h3i : ¬ (300 : Int) < (s.size : Int) := by omega
  go_wp2_with fail
  refine HSM.out.mono ?_
  rintro r W1 ⟨⟨bb, rfl, hbb⟩, h9⟩
  replace h9 := h9.symm
  subst h9
  clear HSM
  cases bb with
  | false =>
    go_wp2_with (go_at_call 11; refine (HAW.out _).mono ?_; rintro r WZ ⟨rfl, hbz⟩)
    go_ret
    exact ⟨rfl, bel_then (HBN.out) hbz⟩
  | true =>
    have HZ := hidL (Ex.small_sized (hbb.1 rfl))
    obtain ⟨X, F9, T9, P, S, H, G, L, E, hI⟩ := Mq.begin_there e m x f t s k
    have hfew := hI.few (by omega)
    have HC1 : Hid (Calls _ _ _ _ _) := mbegin e a n c m x f t s k X F9 T9 P S H G L E W (HMA.out _ HBN.out) HZ.out (by omega) hI
    have HI := hidL hI
    clear hbb hI
    go_wp2_with fail
    refine HC1.out.mono ?_
    rintro r u1 ⟨hb1, ha, nh, hc, ga, gc, la, lc, rfl, hH, hG, hL⟩
    have hbn := new_bel u1 (.cells #[.int .i64 X, .int .i64 F9, .int .i64 T9, .int .i64 P, .int .i64 S, .slice ha nh hc, .slice ga nh gc] 30)
    have kb1 := (kb0.keep hb1).keep hbn
    have km1 := Box.new u1 30 #[.int .i64 X, .int .i64 F9, .int .i64 T9, .int .i64 P, .int .i64 S, .slice ha nh hc, .slice ga nh gc]
    have HB1 := hidL (bel_then (bel_then HBN.out hb1) hbn)
    have hH1 := Shape.any (Shape.below hH hbn)
    have hG1 := Shape.any (Shape.below hG hbn)
    have hL1 := Shape.any (Shape.below hL hbn)
    clear hH hG hL hb1 hbn kb0 c0 c1 HC1
    have c0 := kb1.cell 0 rfl
    have c1 := kb1.cell 1 rfl
    have HC2 : Hid (Calls _ _ _ _ _) := rbegin e a n c m x f t s k X F9 T9 P S H G L E _ (HMA.out _ HB1.out) HZ.out (by omega) HI.out
    go_wp2_with fail
    generalize u1.alloc (.cells #[.int .i64 X, .int .i64 F9, .int .i64 T9, .int .i64 P, .int .i64 S, .slice ha nh hc, .slice ga nh gc] 30) = W1 at *
    generalize u1.heap.size = B1 at *
    refine HC2.out.mono ?_
    rintro r u2 ⟨hb2, ia, nh2, ic, ja, jc, ka, kc, rfl, iH, iG, iL⟩
    obtain rfl : nh = nh2 := by rw [← (sliceS_len hH1).1]; exact (sliceS_len iH).1
    have hbn := new_bel u2 (.cells #[.int .i64 X, .int .i64 F9, .int .i64 T9, .int .i64 P, .int .i64 S, .slice ia nh ic, .slice ja nh jc] 34)
    have km2 := (km1.keep hb2).keep hbn
    have kn2 := Box.new u2 34 #[.int .i64 X, .int .i64 F9, .int .i64 T9, .int .i64 P, .int .i64 S, .slice ia nh ic, .slice ja nh jc]
    have hb3 := bel_then hb2 hbn
    have HB2 := hidL (bel_then HB1.out hb3)
    have hH2 := Shape.below hH1 hb3
    have hG2 := Shape.below hG1 hb3
    have hL2 := Shape.below hL1 hb3
    have iH2 := Shape.below iH hbn
    have iG2 := Shape.below iG hbn
    have iL2 := Shape.below iL hbn
    have hnh : nh ≤ 1000 := by rw [← (sliceS_len hH1).1]; exact hfew.1
    obtain ⟨W2, hW2⟩ : ∃ V, V = u2.alloc (.cells #[.int .i64 X, .int .i64 F9, .int .i64 T9, .int .i64 P, .int .i64 S, .slice ia nh ic, .slice ja nh jc] 34) := ⟨_, rfl⟩
    have HW2 := hidL hW2
    rw [← hW2] at km2 kn2 HB2 hH2 hG2 hL2 iH2 iG2 iL2
    have hne9 : Nonempty (Later W2) := Later.there W2
    have d0 : ∀ x : Later W2, x.u.cell? ⟨B1, 0, none⟩ = _ := fun x => x.cell (km2.cell 0 rfl)
    have d1 : ∀ x : Later W2, x.u.cell? ⟨B1, 1, none⟩ = _ := fun x => x.cell (km2.cell 1 rfl)
    have d2 : ∀ x : Later W2, x.u.cell? ⟨B1, 2, none⟩ = _ := fun x => x.cell (km2.cell 2 rfl)
    have d3 : ∀ x : Later W2, x.u.cell? ⟨B1, 3, none⟩ = _ := fun x => x.cell (km2.cell 3 rfl)
    have d4 : ∀ x : Later W2, x.u.cell? ⟨B1, 4, none⟩ = _ := fun x => x.cell (km2.cell 4 rfl)
    have d5 : ∀ x : Later W2, x.u.cell? ⟨B1, 5, none⟩ = _ := fun x => x.cell (km2.cell 5 rfl)
    have d6 : ∀ x : Later W2, x.u.cell? ⟨B1, 6, none⟩ = _ := fun x => x.cell (km2.cell 6 rfl)
    have e0 : ∀ x : Later W2, x.u.cell? ⟨u2.heap.size, 0, none⟩ = _ := fun x => x.cell (kn2.cell 0 rfl)
    have e1 : ∀ x : Later W2, x.u.cell? ⟨u2.heap.size, 1, none⟩ = _ := fun x => x.cell (kn2.cell 1 rfl)
    have e2 : ∀ x : Later W2, x.u.cell? ⟨u2.heap.size, 2, none⟩ = _ := fun x => x.cell (kn2.cell 2 rfl)
    have e3 : ∀ x : Later W2, x.u.cell? ⟨u2.heap.size, 3, none⟩ = _ := fun x => x.cell (kn2.cell 3 rfl)
    have e4 : ∀ x : Later W2, x.u.cell? ⟨u2.heap.size, 4, none⟩ = _ := fun x => x.cell (kn2.cell 4 rfl)
    have e5 : ∀ x : Later W2, x.u.cell? ⟨u2.heap.size, 5, none⟩ = _ := fun x => x.cell (kn2.cell 5 rfl)
    have e6 : ∀ x : Later W2, x.u.cell? ⟨u2.heap.size, 6, none⟩ = _ := fun x => x.cell (kn2.cell 6 rfl)
    have HRF : Hid (∀ x : Later W2, Calls Try.prog 15 _ x.u _) := fun x => mref X F9 T9 P S ha nh hc ga nh gc x.u
    have HSA : Hid (∀ x : Later W2, Calls Try.prog 14 _ x.u _) := fun x => msame X F9 T9 P S ha nh hc ga nh gc H G ia ic ja jc x.u (Shape.below hH2 x.h) (Shape.below hG2 x.h) (Shape.below iH2 x.h) (Shape.below iG2 x.h) (by omega) (by omega)
    have HSB : Hid (∀ x : Later W2, Calls Try.prog 16 #[.slice la nh lc, .slice ka nh kc] x.u fun r w' => r = .returned (.bool true) ∧ Below x.u.heap.size x.u w') := fun x => (rsame la nh lc L ka nh kc L x.u (Shape.below hL2 x.h) (Shape.below iL2 x.h) (by omega)).mono fun _ _ ⟨h1, h2⟩ => ⟨h1.is rfl, h2⟩
    have HAX : Hid (∀ x : Later W2, Calls Try.prog 11 #[] x.u fun r w' => r = .returned (.bool true) ∧ Below x.u.heap.size x.u w') := fun x => HAW.out x.u
    have qe : (E == E) = true := by simp
    clear km1 km2 kn2 kb1 c0 c1 hH1 hG1 hL1 hH2 hG2 hL2 iH iG iL iH2 iG2 iL2 hb2 hbn hb3 hW2 HC2 hfew
    go_wp2
    rw [← HW2.out]
    refine region_later (by kernel_rfl) (by kernel_rfl) ?_
    repeat (go_big_quiet_step (first
      | (go_at_call 15; with_reducible exact Later.call (HRF.out _))
      | (go_at_call 14; with_reducible exact Later.call (HSA.out _))
      | (go_at_call 16; with_reducible exact Later.call (HSB.out _))
      | (go_at_call 11; with_reducible exact Later.call (HAX.out _))))
    refine wpQuiet_nil ?_
    intro x9
    obtain ⟨W9, hb9⟩ := x9
    go_wp2
    go_ret
    exact ⟨rfl, bel_then HB2.out hb9⟩

end Go.Proofs.Ytpfhjdlmjehfnaa
