/- ModelExact is true for every model and tokens. -/
import Derived.Test.YtmechoeoaadfeaaRows
import Derived.Test.YtmechoeoaadfeaaMdlI
import Derived.WalkKit
import Derived.ProofKit
import Derived.OpenShut
import Derived.ShutString
import Derived.ChangeOld
import Derived.Below
namespace Go.Proofs.Ytmechoeoaadfeaa.modelExact
open Go.ChangeShapes Go.WideShapes Go.ChangeAt Go.RowKit
open Go.ChangeMaps (open_string shut_string)
set_option linter.unusedVariables false

theorem own : ownKnob Try.prog.godebug = none := by kernel_rfl
theorem laidOut : laidOutB Try.prog = true := by kernel_rfl

/- The walk: the call returns true, and nothing that was there is written. -/
set_option maxHeartbeats 4000000 in
set_option maxRecDepth 100000 in
theorem walk (a0_0 : Int) (a0_1 : Option Addr) (len0_1 cap0_1 : Nat) (m0_1 : List ((List (List Int)) × (List ((List (List Int)) × (List (List Int)) × Unit)) × Int × Unit)) (a1 : Option Addr) (len1 cap1 : Nat) (m1 : List (List Int)) (w : World) (w0_0 : (Lit.int .i64 a0_0).wf = true) (w0_1 : (sliceS (consS (sliceS (sliceS (intS .i64))) (consS (sliceS (consS (sliceS (sliceS (intS .i64))) (consS (sliceS (sliceS (intS .i64))) noneS))) (consS (intS .i64) noneS)))).rep w everywhere [.slice a0_1 len0_1 cap0_1] m0_1) (f0_1 : (∀ x0 ∈ m0_1, ((∀ x1 ∈ x0.1, (∀ x2 ∈ x1, (Lit.int .i64 x2).wf = true)) ∧ ((∀ x1 ∈ x0.2.1, ((∀ x2 ∈ x1.1, (∀ x3 ∈ x2, (Lit.int .i64 x3).wf = true)) ∧ ((∀ x2 ∈ x1.2.1, (∀ x3 ∈ x2, (Lit.int .i64 x3).wf = true)) ∧ True))) ∧ ((Lit.int .i64 x0.2.2.1).wf = true ∧ True))))) (w1 : (sliceS (sliceS (intS .i64))).rep w everywhere [.slice a1 len1 cap1] m1) (f1 : (∀ x0 ∈ m1, (∀ x1 ∈ x0, (Lit.int .i64 x1).wf = true))) :
    Calls Try.prog 3 #[.agg #[.int .i64 a0_0, .slice a0_1 len0_1 cap0_1], .slice a1 len1 cap1] w fun e w' => e = .returned (.bool true) ∧ Below w.heap.size w w' := by
  have HX : Hid (lysS.rep w everywhere [.slice a0_1 len0_1 cap0_1] m0_1) := w0_1
  have HT : Hid (matS.rep w everywhere [.slice a1 len1 cap1] m1) := w1
  have HL : Hid (m0_1.length = len0_1) := (sliceS_len w0_1).1
  have HLT : Hid (m1.length = len1) := (sliceS_len w1).1
  have hcap0 : len0_1 ≤ cap0_1 := (sliceS_len w0_1).2.1
  have hcap1 : len1 ≤ cap1 := (sliceS_len w1).2.1
  clear w0_0 w0_1 f0_1 w1 f1
  have hB := new_bel w (.cells #[.int .i64 a0_0, .slice a0_1 len0_1 cap0_1] 24)
  have q := Box.new w 24 #[.int .i64 a0_0, .slice a0_1 len0_1 cap0_1]
  have HC1 : Hid (Calls _ _ _ _ _) := msmall a0_1 len0_1 cap0_1 m0_1 a0_0 _ (Shape.below HX.out hB)
  go_enter Try.func3, Try.ntmps3
  go_wp2_with fail
  refine HC1.out.mono ?_
  rintro e u1 ⟨hs, hb1⟩
  have hB1 := bel_then hB hb1
  have q1 := q.keep hb1
  by_cases hS : Md.Small m0_1
  case neg =>
    rw [hs.not hS]
    clear hs hS HC1 hB q q1 hb1
    go_wp2_with (go_at_call 11; refine (mawake _).mono ?_; rintro e u9 ⟨rfl, hb9⟩)
    go_ret
    exact ⟨rfl, bel_then hB1 hb9⟩
  rw [hs.is hS]
  have HS : Hid (Md.Small m0_1) := hS
  have h1 := Shape.below HT.out hB1
  clear hs hS HC1 hB q hb1
  go_wp2_with fail
  refine by_says (small a1 len1 cap1 m1 everywhere u1 h1) (fun hS => ?_) (fun hS => ?_)
  case refine_2 =>
    clear hS h1 q1
    go_wp2_with (go_at_call 11; refine (mawake _).mono ?_; rintro e u9 ⟨rfl, hb9⟩)
    go_ret
    exact ⟨rfl, bel_then hB1 hb9⟩
  have HST : Hid (Mx.Small m1) := hS
  clear hS h1
  have p0 := q1.cell 0 rfl
  have p1 := q1.cell 1 rfl
  obtain ⟨R, hRt⟩ : ∃ R, tell (Md.Right a0_0 m0_1) = R := ⟨_, rfl⟩
  obtain ⟨T, hTt⟩ : ∃ T, tell (Md.TRight a0_0 m1) = T := ⟨_, rfl⟩
  have HRt : Hid (tell (Md.Right a0_0 m0_1) = R) := hRt
  have HTt : Hid (tell (Md.TRight a0_0 m1) = T) := hTt
  have eR : (R != R) = false := by simp
  have eT : (T != T) = false := by simp
  clear hRt hTt
  by_cases hRT : Md.Right a0_0 m0_1 ∧ Md.TRight a0_0 m1
  case neg =>
    have HNO : Hid (¬ (Md.Right a0_0 m0_1 ∧ Md.TRight a0_0 m1)) := hRT
    clear hRT
    have hbb : R = false ∨ (R = true ∧ T = false) := by
      by_cases h7 : Md.Right a0_0 m0_1
      · right
        exact ⟨by rw [← HRt.out]; exact tell_yes h7, by rw [← HTt.out]; exact tell_no (fun h8 => HNO.out ⟨h7, h8⟩)⟩
      · left
        rw [← HRt.out]
        exact tell_no h7
    have HC2 : Hid (Calls _ _ _ _ _) := mforward_no a0_1 len0_1 cap0_1 m0_1 a0_0 a1 len1 cap1 m1 u1 (Shape.below HX.out hB1) (Shape.below HT.out hB1) (by have := HS.out.1; have := HL.out; omega) (fun l hl => Md.small_lsized (HS.out.2 l hl)) (Ex.small_sized HST.out) HNO.out
    go_wp2_with fail
    refine HC2.out.mono ?_
    rintro e V2 ⟨rfl, hb2⟩
    have hB2 := bel_then hB1 hb2
    have q2 := q1.keep hb2
    clear HC2 hB1 q1 hb2 p0 p1
    have p0 : ∀ x9 : Later V2, x9.u.cell? ⟨w.heap.size, 0, none⟩ = some (.int .i64 a0_0) := fun x9 => x9.cell (q2.cell 0 rfl)
    have p1 : ∀ x9 : Later V2, x9.u.cell? ⟨w.heap.size, 1, none⟩ = some (.slice a0_1 len0_1 cap0_1) := fun x9 => x9.cell (q2.cell 1 rfl)
    have CR : Hid (∀ u, Below V2.heap.size V2 u → Calls Try.prog 13 #[.agg #[.int .i64 a0_0, .slice a0_1 len0_1 cap0_1]] u fun e w' => e = .returned (.bool R) ∧ Below u.heap.size u w') := fun u hu => tells HRt.out (rmright a0_1 len0_1 cap0_1 m0_1 a0_0 u (Shape.below HX.out (bel_then hB2 hu)) (by have := HS.out.1; have := HL.out; omega) (fun l hl => Md.small_lsized (HS.out.2 l hl)))
    have CT : Hid (∀ u, Below V2.heap.size V2 u → Calls Try.prog 14 #[.agg #[.int .i64 a0_0, .slice a0_1 len0_1 cap0_1], .slice a1 len1 cap1] u fun e w' => e = .returned (.bool T) ∧ Below u.heap.size u w') := fun u hu => tells HTt.out (rmtokens a0_1 len0_1 cap0_1 a0_0 a1 len1 cap1 m1 u (Shape.below HT.out (bel_then hB2 hu)) (Ex.small_sized HST.out))
    have hne9 : Nonempty (Later V2) := Later.there V2
    go_upto_region 4 with fail
    refine region_later (by kernel_rfl) (by kernel_rfl) ?_
    repeat (go_big_quiet_step ((first | (go_at_call 13; exact Later.call (CR.out _ (Later.h _))) | (go_at_call 14; exact Later.call (CT.out _ (Later.h _))))))
    refine wpQuiet_nil ?_
    intro x9
    obtain ⟨V3, hb3⟩ := x9
    have hB3 := bel_then hB2 hb3
    have q3 := q2.keep hb3
    clear p0 p1 CR CT hne9 hB2 q2
    have p0 := q3.cell 0 rfl
    have p1 := q3.cell 1 rfl
    have CR : Hid (Calls _ _ _ _ _) := tells HRt.out (mright a0_1 len0_1 cap0_1 m0_1 a0_0 V3 (Shape.below HX.out hB3) (by have := HS.out.1; have := HL.out; omega) (fun l hl => Md.small_lsized (HS.out.2 l hl)))
    go_wp2_with fail
    refine CR.out.mono ?_
    rintro e V4 ⟨rfl, hb4⟩
    have hB4 := bel_then hB3 hb4
    have q4 := q3.keep hb4
    clear p0 p1 CR hB3 q3
    have p0 := q4.cell 0 rfl
    have p1 := q4.cell 1 rfl
    have CT : Hid (Calls _ _ _ _ _) := tells HTt.out (mtokens a0_1 len0_1 cap0_1 a0_0 a1 len1 cap1 m1 V4 (Shape.below HT.out hB4) (Ex.small_sized HST.out))
    go_wp2_with fail
    refine CT.out.mono ?_
    rintro e V5 ⟨rfl, hb5⟩
    have hB5 := bel_then hB4 hb5
    clear p0 p1 CT hB4 q4
    rcases hbb with rfl | ⟨rfl, rfl⟩
    all_goals
      go_wp2_with (go_at_call 11; refine (mawake _).mono ?_; rintro e u9 ⟨rfl, hb9⟩)
      go_ret
      exact ⟨rfl, bel_then hB5 hb9⟩
  have HRR : Hid (Md.Right a0_0 m0_1) := hRT.1
  have HTR : Hid (Md.TRight a0_0 m1) := hRT.2
  obtain rfl : R = true := by rw [← HRt.out]; exact tell_yes hRT.1
  obtain rfl : T = true := by rw [← HTt.out]; exact tell_yes hRT.2
  have HD : Hid (a0_0 ≤ 8) := hRT.1.2.1
  have hn4 : len0_1 ≤ 4 := by have := HRR.out.2.2.2.1; have := HL.out; omega
  have hn1 : 1 ≤ len0_1 := by have := HRR.out.2.2.1; have := HL.out; omega
  have hm16 : len1 ≤ 16 := by have := HTR.out.2.1; have := HLT.out; omega
  clear hRT
  have HC2 : Hid (Calls _ _ _ _ _) := mforward a0_1 len0_1 cap0_1 m0_1 a0_0 a1 len1 cap1 m1 u1 (Shape.below HX.out hB1) (Shape.below HT.out hB1) HRR.out HTR.out
  go_wp2_with fail
  refine HC2.out.mono ?_
  rintro e V2 ⟨hb2, ra, rc, rfl, hr2⟩
  have hB2 := bel_then hB1 hb2
  have q2 := q1.keep hb2
  clear HC2 hB1 q1 hb2 p0 p1
  have p0 : ∀ x9 : Later V2, x9.u.cell? ⟨w.heap.size, 0, none⟩ = some (.int .i64 a0_0) := fun x9 => x9.cell (q2.cell 0 rfl)
  have p1 : ∀ x9 : Later V2, x9.u.cell? ⟨w.heap.size, 1, none⟩ = some (.slice a0_1 len0_1 cap0_1) := fun x9 => x9.cell (q2.cell 1 rfl)
  have CR : Hid (∀ u, Below V2.heap.size V2 u → Calls Try.prog 13 #[.agg #[.int .i64 a0_0, .slice a0_1 len0_1 cap0_1]] u fun e w' => e = .returned (.bool true) ∧ Below u.heap.size u w') := fun u hu => tells HRt.out (rmright a0_1 len0_1 cap0_1 m0_1 a0_0 u (Shape.below HX.out (bel_then hB2 hu)) (by have := HS.out.1; have := HL.out; omega) (fun l hl => Md.small_lsized (HS.out.2 l hl)))
  have CT : Hid (∀ u, Below V2.heap.size V2 u → Calls Try.prog 14 #[.agg #[.int .i64 a0_0, .slice a0_1 len0_1 cap0_1], .slice a1 len1 cap1] u fun e w' => e = .returned (.bool true) ∧ Below u.heap.size u w') := fun u hu => tells HTt.out (rmtokens a0_1 len0_1 cap0_1 a0_0 a1 len1 cap1 m1 u (Shape.below HT.out (bel_then hB2 hu)) (Ex.small_sized HST.out))
  have hne9 : Nonempty (Later V2) := Later.there V2
  go_upto_region 4 with fail
  refine region_later (by kernel_rfl) (by kernel_rfl) ?_
  repeat (go_big_quiet_step ((first | (go_at_call 13; exact Later.call (CR.out _ (Later.h _))) | (go_at_call 14; exact Later.call (CT.out _ (Later.h _))))))
  refine wpQuiet_nil ?_
  intro x9
  obtain ⟨V3, hb3⟩ := x9
  have hB3 := bel_then hB2 hb3
  have q3 := q2.keep hb3
  clear p0 p1 CR CT hne9 hB2 q2
  have p0 := q3.cell 0 rfl
  have p1 := q3.cell 1 rfl
  have CR : Hid (Calls _ _ _ _ _) := tells HRt.out (mright a0_1 len0_1 cap0_1 m0_1 a0_0 V3 (Shape.below HX.out hB3) (by have := HS.out.1; have := HL.out; omega) (fun l hl => Md.small_lsized (HS.out.2 l hl)))
  have hr3 := Shape.below hr2 hb3
  clear hr2
  go_wp2_with fail
  refine CR.out.mono ?_
  rintro e V4 ⟨rfl, hb4⟩
  have hB4 := bel_then hB3 hb4
  have q4 := q3.keep hb4
  clear p0 p1 CR hB3 q3
  have p0 := q4.cell 0 rfl
  have p1 := q4.cell 1 rfl
  have CT : Hid (Calls _ _ _ _ _) := tells HTt.out (mtokens a0_1 len0_1 cap0_1 a0_0 a1 len1 cap1 m1 V4 (Shape.below HT.out hB4) (Ex.small_sized HST.out))
  have hr4 := Shape.below hr3 hb4
  clear hr3
  go_wp2_with fail
  refine CT.out.mono ?_
  rintro e V5 ⟨rfl, hb5⟩
  have hB5 := bel_then hB4 hb5
  have q5 := q4.keep hb5
  have hr5 := Shape.below hr4 hb5
  clear p0 p1 CT hB4 q4 hr4
  obtain ⟨bl, ol, ag, ng, cg, ax, nx, cx, g, xs, cap, rfl, hbl, hEl, hg, hx, c0, c1, c2⟩ := ly_there HX.out (j := 0) (by omega)
  have hLR : Md.LRight (g, xs, cap, ()) a0_0 := by rw [← hEl]; exact HRR.out.2.2.2.2 _ (in_of (by have := HL.out; omega) ly0)
  rw [show ol + 0 * 3 = ol by omega] at c0 c1 c2
  have hl00 : (0 : Int) < (len0_1 : Int) := by omega
  have CP : Hid (∀ u, Below V5.heap.size V5 u → Calls Try.prog 17 #[.agg #[.slice ag ng cg, .slice ax nx cx, .int .i64 cap], .slice a1 len1 cap1] u fun e w' => Below u.heap.size u w' ∧ ∃ a' n' c', e = .returned (.slice a' n' c') ∧ ptsS.rep w' everywhere [.slice a' n' c'] (Md.parts (g, xs, cap, ()) m1)) := fun u hu => mparts ag ng cg ax nx cx g xs cap a0_0 a1 len1 cap1 m1 u (Shape.below hg (bel_then hB5 hu)) (Shape.below hx (bel_then hB5 hu)) (Shape.below HT.out (bel_then hB5 hu)) hLR HD.out HTR.out
  have CQ : Hid (∀ u, Below V5.heap.size V5 u → Calls Try.prog 18 #[.agg #[.slice ag ng cg, .slice ax nx cx, .int .i64 cap], .slice a1 len1 cap1] u fun e w' => Below u.heap.size u w' ∧ ∃ a' n' c', e = .returned (.slice a' n' c') ∧ ptsS.rep w' everywhere [.slice a' n' c'] (Md.parts (g, xs, cap, ()) m1)) := fun u hu => rmparts ag ng cg ax nx cx g xs cap a0_0 a1 len1 cap1 m1 u (Shape.below hg (bel_then hB5 hu)) (Shape.below hx (bel_then hB5 hu)) (Shape.below HT.out (bel_then hB5 hu)) hLR HD.out HTR.out
  have p1 := q5.cell 1 rfl
  have d0 := (hB5.cell (by exact hbl)).trans c0
  have d1 := (hB5.cell (by exact hbl)).trans c1
  have d2 := (hB5.cell (by exact hbl)).trans c2
  have HH : Hid (∀ u, Below V5.heap.size V5 u → u.cell? ⟨w.heap.size, 1, none⟩ = some (.slice (some ⟨bl, ol, none⟩) len0_1 cap0_1) ∧ u.cell? ⟨bl, ol, none⟩ = some (.slice ag ng cg) ∧ u.cell? ⟨bl, ol + 1, none⟩ = some (.slice ax nx cx) ∧ u.cell? ⟨bl, ol + 2, none⟩ = some (.int .i64 cap)) := fun u hb => ⟨(q5.keep hb).cell 1 rfl, (hb.cell (World.block_lt_of_cell? V5 _ d0)).trans d0, (hb.cell (World.block_lt_of_cell? V5 _ d1)).trans d1, (hb.cell (World.block_lt_of_cell? V5 _ d2)).trans d2⟩
  have hD : Below V5.heap.size V5 V5.drew := (Below.refl _ V5).drew
  have HPN : Hid ((Md.parts (g, xs, cap, ()) m1).length ≤ 32) := by show _ ≤ _; have := Md.parts_len (g, xs, cap, ()) m1; have := HLT.out; omega
  generalize Md.parts (g, xs, cap, ()) m1 = P at *
  have hl01 : 0 < len0_1 := by omega
  have hl02 : ¬ len0_1 ≤ 0 := by omega
  have hl03 : ¬ (len0_1 : Int) ≤ 0 := by omega
  have hl04 : len0_1 ≠ 0 := by omega
  clear hEl hg hx c0 c1 c2 hLR
  go_upto_region 9 with fail
  go_region_held3 (fun w' => w'.cell? ⟨w.heap.size, 1, none⟩ = some (.slice (some ⟨bl, ol, none⟩) len0_1 cap0_1) ∧ w'.cell? ⟨bl, ol, none⟩ = some (.slice ag ng cg) ∧ w'.cell? ⟨bl, ol + 1, none⟩ = some (.slice ax nx cx) ∧ w'.cell? ⟨bl, ol + 2, none⟩ = some (.int .i64 cap))
    (first
      | exact HH.out _ hd7
      | exact HH.out _ hd6
      | exact HH.out _ hD
      | exact HH.out _ (Below.refl _ _)
      | go_keep)
    (first
      | (go_at_call 17; refine (CP.out _ hD).mono ?_; rintro e V6 ⟨hb6, pa, pn, pc, rfl, hp6⟩; have hd6 := bel_then hD hb6)
      | (go_at_call 18; refine (CQ.out _ hd6).mono ?_; rintro e V7 ⟨hb7, qa, qn, qc, rfl, hq7⟩; have hd7 := bel_then hd6 hb7))
  have hp7 := Shape.below hp6 hb7
  have hpl := (sliceS_len hp7).1
  have hql := (sliceS_len hq7).1
  obtain rfl : qn = pn := by omega
  have hB7 := bel_then hB5 hd7
  have q7 := q5.keep hd7
  have hr7 := Shape.below hr5 hd7
  have e0 : ((qn : Int) != (qn : Int)) = false := by simp
  have hqm : qn ≤ 32 := by have := HPN.out; omega
  have HP : Hid (ptsS.rep V7 everywhere [.slice pa qn pc] P ∧ ptsS.rep V7 everywhere [.slice qa qn qc] P) := ⟨hp7, hq7⟩
  have HB7 : Hid (Below w.heap.size w V7 ∧ Box V7 w.heap.size 24 #[.int .i64 a0_0, .slice (some ⟨bl, ol, none⟩) len0_1 cap0_1] ∧ matS.rep V7 everywhere [.slice ra len1 rc] (Md.forward m0_1 m1)) := ⟨hB7, q7, hr7⟩
  clear CP CQ HH hD hb6 hb7 hd6 hd7 hp6 hp7 hq7 hpl hql hB5 q5 hr5 hB7 q7 hr7 p1 d0 d1 d2
  go_wp2
  go_loopw [78] (fun i wr => ∃ k : Nat, k ≤ qn ∧ i = .int .i64 k ∧ Below V7.heap.size V7 wr) (fun i _ => qn - (intOf i).toNat)
  case atStart => exact ⟨0, Nat.zero_le _, rfl, Below.refl _ _⟩
  case round =>
    obtain ⟨k, hk, rfl, hbel⟩ := hrel
    by_cases hlt : k < qn
    · obtain ⟨b1, o1, p, q, r, s, rfl, _, hE, c0, c1, c2, c3⟩ := pt_there (Shape.below HP.out.1 hbel) hlt
      obtain ⟨b2, o2, p', q', r', s', rfl, _, hE2, d0, d1, d2, d3⟩ := pt_there (Shape.below HP.out.2 hbel) hlt
      obtain ⟨rfl, rfl, rfl, rfl⟩ := Md.pt_eq (hE2.symm.trans hE)
      have hli : (k : Int) < (qn : Int) := by omega
      have hk0 : (0 : Int) ≤ (k : Int) := by omega
      have hneq := neqPart p' q' r' s'
      have y0 : ∀ x9 : Later wr, x9.u.cell? ⟨b1, o1 + k * 4, none⟩ = some (.int .i64 p') := fun x9 => x9.cell c0
      have y1 : ∀ x9 : Later wr, x9.u.cell? ⟨b1, o1 + k * 4 + 1, none⟩ = some (.int .i64 q') := fun x9 => x9.cell c1
      have y2 : ∀ x9 : Later wr, x9.u.cell? ⟨b1, o1 + k * 4 + 2, none⟩ = some (.int .i64 r') := fun x9 => x9.cell c2
      have y3 : ∀ x9 : Later wr, x9.u.cell? ⟨b1, o1 + k * 4 + 3, none⟩ = some (.int .i64 s') := fun x9 => x9.cell c3
      have z0 : ∀ x9 : Later wr, x9.u.cell? ⟨b2, o2 + k * 4, none⟩ = some (.int .i64 p') := fun x9 => x9.cell d0
      have z1 : ∀ x9 : Later wr, x9.u.cell? ⟨b2, o2 + k * 4 + 1, none⟩ = some (.int .i64 q') := fun x9 => x9.cell d1
      have z2 : ∀ x9 : Later wr, x9.u.cell? ⟨b2, o2 + k * 4 + 2, none⟩ = some (.int .i64 r') := fun x9 => x9.cell d2
      have z3 : ∀ x9 : Later wr, x9.u.cell? ⟨b2, o2 + k * 4 + 3, none⟩ = some (.int .i64 s') := fun x9 => x9.cell d3
      have hne9 : Nonempty (Later wr) := Later.there wr
      clear hE hE2 c0 c1 c2 c3 d0 d1 d2 d3
      go_upto_region 15 with fail
      refine region_later (by kernel_rfl) (by kernel_rfl) ?_
      repeat (go_big_quiet_step (fail))
      refine wpQuiet_nil ?_
      intro x9
      obtain ⟨W9, hb9⟩ := x9
      have hB9 := bel_then hbel hb9
      clear y0 y1 y2 y3 z0 z1 z2 z3 hne9 hneq
      go_wp2
      go_roundw
      case rel => exact ⟨k + 1, by omega, by go_num, hB9⟩
      case measure => simp [intOf]; omega
    · have hli : ¬ (k : Int) < (qn : Int) := by omega
      have hB8 := bel_then HB7.out.1 hbel
      have q8 := HB7.out.2.1.keep hbel
      have hr8 := Shape.below HB7.out.2.2 hbel
      have x0 := q8.cell 0 rfl
      have x1 := q8.cell 1 rfl
      have CF : Hid (Calls _ _ _ _ _) := rmforward (some ⟨bl, ol, none⟩) len0_1 cap0_1 m0_1 a0_0 a1 len1 cap1 m1 wr (Shape.below HX.out hB8) (Shape.below HT.out hB8) HRR.out HTR.out
      clear hbel
      go_wp2_with fail
      refine CF.out.mono ?_
      rintro e X1 ⟨hb10, sa, sc, rfl, hr10⟩
      have HSM : Hid (Calls _ _ _ _ _) := msame ra sa len1 rc sc _ X1 (Shape.below hr8 hb10) hr10 (Md.tright_sized (Md.forward_right HRR.out.2.2.2.2 HTR.out) HD.out)
      have hB10 := bel_then hB8 hb10
      clear CF hr8 hr10 hb10 q8 x0 x1 hB8
      go_wp2_with (first
        | (go_at_call 19; refine HSM.out.mono ?_; rintro e X2 ⟨rfl, hb11⟩)
        | (go_at_call 11; refine (mawake _).mono ?_; rintro e u9 ⟨rfl, hb9⟩))
      go_ret
      exact ⟨rfl, bel_then (bel_then hB10 hb11) hb9⟩

/- From the walk to the row. -/
set_option maxRecDepth 100000 in
theorem lifted (os : Os) (started : os.Started) (H : Type) (enc : TypeId × Value → H) :
    ReturnsInHanded {} Try.checked os 3 .any (Rows.modelExactSpec.pre6 enc Try.prog Try.f3 Rows.modelExactRow.domain false) (Rows.modelExactSpec.post enc Try.prog Try.f3 false true false false) := by
  refine returnsInHanded_of_change (C := Try.checked) own started (by kernel_rfl) Try.func3
    (ChangeSpec.witness6 (enc := enc) (C := Try.checked) false ⟨#[], #[.agg #[.int .i64 0, .slice none 0 0], .slice none 0 0], []⟩ 8 (by kernel_rfl) (by kernel_rfl) (by kernel_rfl) (by kernel_rfl)) ?_
  intro W base args ds gs before hval0 hW hcnd _
  have hval : ∀ (j : Nat) t v, Try.f3.params[j]? = some t → args[j]? = some v → Value.okWide Try.prog W .any base t v := hval0
  have hW' := hW
  obtain ⟨p, q, hA0, hV, rfl, hfz, hnd⟩ := hW
  have hA : DataW.TrodAll enc Try.prog W 0 (fun _ => true) true Try.f3.params.toList args.toList ds p := hA0
  rw [Try.params3] at hA hval
  obtain ⟨v0, vs0, d0, ds0, p0, q0, hargs, rfl, rfl, h0, r0⟩ := trodAll_cons hA
  obtain ⟨v1, vs1, d1, ds1, p1, q1, rfl, rfl, rfl, h1, r1⟩ := trodAll_cons r0
  obtain ⟨rfl, rfl, rfl⟩ := trodAll_nil r1
  obtain rfl : args = #[v0, v1] := by cases args; simp_all
  obtain ⟨rfl, rfl⟩ := trodVars_none hV
  obtain ⟨cs0, rfl⟩ := okWide_agg Try.underlying24 (hval 0 24 v0 rfl rfl)
  have k0 := h0
  have lt0 : ∀ x ∈ p0, x.block < W.heap.size := by obtain ⟨m, hm⟩ := k0; exact DataW.trod_lt m _ _ _ hm
  obtain ⟨y0, hy0, hw0⟩ : ∃ y, (consS (intS .i64) (consS (sliceS (consS (sliceS (sliceS (intS .i64))) (consS (sliceS (consS (sliceS (sliceS (intS .i64))) (consS (sliceS (sliceS (intS .i64))) noneS))) (consS (intS .i64) noneS)))) noneS)).rep W everywhere cs0 y ∧ ((Lit.int .i64 y.1).wf = true ∧ ((∀ x0 ∈ y.2.1, ((∀ x1 ∈ x0.1, (∀ x2 ∈ x1, (Lit.int .i64 x2).wf = true)) ∧ ((∀ x1 ∈ x0.2.1, ((∀ x2 ∈ x1.1, (∀ x3 ∈ x2, (Lit.int .i64 x3).wf = true)) ∧ ((∀ x2 ∈ x1.2.1, (∀ x3 ∈ x2, (Lit.int .i64 x3).wf = true)) ∧ True))) ∧ ((Lit.int .i64 x0.2.2.1).wf = true ∧ True)))) ∧ True)) := by
    obtain ⟨fuel, hf⟩ := h0
    exact (opens_struct Try.underlying24 (show Try.prog.cellsOf 24 = 2 by kernel_rfl) (opensAt_cons (A := (intS .i64)) rfl (show Try.prog.cellsOf 3 = 1 by kernel_rfl) (opens_int Try.underlying3) (opensAt_cons (A := (sliceS (consS (sliceS (sliceS (intS .i64))) (consS (sliceS (consS (sliceS (sliceS (intS .i64))) (consS (sliceS (sliceS (intS .i64))) noneS))) (consS (intS .i64) noneS))))) rfl (show Try.prog.cellsOf 22 = 1 by kernel_rfl) (opens_slice (A := (consS (sliceS (sliceS (intS .i64))) (consS (sliceS (consS (sliceS (sliceS (intS .i64))) (consS (sliceS (sliceS (intS .i64))) noneS))) (consS (intS .i64) noneS)))) Try.underlying22 (show Try.prog.cellsOf 37 = 3 by kernel_rfl) (by exact Nat.succ_pos _) (opens_struct Try.underlying37 (show Try.prog.cellsOf 37 = 3 by kernel_rfl) (opensAt_cons (A := (sliceS (sliceS (intS .i64)))) rfl (show Try.prog.cellsOf 25 = 1 by kernel_rfl) (opens_slice (A := (sliceS (intS .i64))) Try.underlying25 (show Try.prog.cellsOf 47 = 1 by kernel_rfl) (by exact Nat.succ_pos _) (opens_slice (A := (intS .i64)) Try.underlying47 (show Try.prog.cellsOf 3 = 1 by kernel_rfl) (by exact Nat.succ_pos _) (opens_int Try.underlying3))) (opensAt_cons (A := (sliceS (consS (sliceS (sliceS (intS .i64))) (consS (sliceS (sliceS (intS .i64))) noneS)))) rfl (show Try.prog.cellsOf 35 = 1 by kernel_rfl) (opens_slice (A := (consS (sliceS (sliceS (intS .i64))) (consS (sliceS (sliceS (intS .i64))) noneS))) Try.underlying35 (show Try.prog.cellsOf 46 = 2 by kernel_rfl) (by exact Nat.succ_pos _) (opens_struct Try.underlying46 (show Try.prog.cellsOf 46 = 2 by kernel_rfl) (opensAt_cons (A := (sliceS (sliceS (intS .i64)))) rfl (show Try.prog.cellsOf 25 = 1 by kernel_rfl) (opens_slice (A := (sliceS (intS .i64))) Try.underlying25 (show Try.prog.cellsOf 47 = 1 by kernel_rfl) (by exact Nat.succ_pos _) (opens_slice (A := (intS .i64)) Try.underlying47 (show Try.prog.cellsOf 3 = 1 by kernel_rfl) (by exact Nat.succ_pos _) (opens_int Try.underlying3))) (opensAt_cons (A := (sliceS (sliceS (intS .i64)))) rfl (show Try.prog.cellsOf 25 = 1 by kernel_rfl) (opens_slice (A := (sliceS (intS .i64))) Try.underlying25 (show Try.prog.cellsOf 47 = 1 by kernel_rfl) (by exact Nat.succ_pos _) (opens_slice (A := (intS .i64)) Try.underlying47 (show Try.prog.cellsOf 3 = 1 by kernel_rfl) (by exact Nat.succ_pos _) (opens_int Try.underlying3))) opensAt_nil (by rfl)) (by rfl)))) (opensAt_cons (A := (intS .i64)) rfl (show Try.prog.cellsOf 3 = 1 by kernel_rfl) (opens_int Try.underlying3) opensAt_nil (by rfl)) (by rfl)) (by rfl)))) opensAt_nil (by rfl)) (by rfl))) H enc W _ _ _ fuel _ _ (by simpa [Value.cells] using hf)
  obtain ⟨a0_0, m0_1, _⟩ := y0
  obtain ⟨d0_0, rfl, hy0_0⟩ := consS_int hy0
  obtain ⟨a0_1, len0_1, cap0_1, d0_1, rfl, w0_1, hy0_1⟩ := consS_slice hy0_0
  obtain rfl := noneS_nil hy0_1
  obtain ⟨w0_0, f0_1, _⟩ := hw0
  obtain ⟨a1, len1, cap1, rfl⟩ := okWide_slice Try.underlying25 (hval 1 25 v1 rfl rfl)
  have k1 := h1
  have lt1 : ∀ x ∈ p1, x.block < W.heap.size := by obtain ⟨m, hm⟩ := k1; exact DataW.trod_lt m _ _ _ hm
  obtain ⟨m1, w1, f1⟩ : ∃ y, (sliceS (sliceS (intS .i64))).rep W everywhere [.slice a1 len1 cap1] y ∧ (∀ x0 ∈ y, (∀ x1 ∈ x0, (Lit.int .i64 x1).wf = true)) := by
    obtain ⟨fuel, hf⟩ := h1
    exact (opens_slice (A := (sliceS (intS .i64))) Try.underlying25 (show Try.prog.cellsOf 47 = 1 by kernel_rfl) (by exact Nat.succ_pos _) (opens_slice (A := (intS .i64)) Try.underlying47 (show Try.prog.cellsOf 3 = 1 by kernel_rfl) (by exact Nat.succ_pos _) (opens_int Try.underlying3))) H enc W _ _ _ fuel _ _ hf
  clear hA0 hval0
  refine (walk a0_0 a0_1 len0_1 cap0_1 m0_1 a1 len1 cap1 m1 W w0_0 w0_1 f0_1 w1 f1).mono fun e W' ⟨he, bel⟩ => ?_
  subst he
  exact ⟨_, rfl, _, _, _, [], _, [], hW', trodAll_mk1 (shut_bool Try.underlying4 _), (trodAll_cons_mk (Below.trod laidOut (by kernel_rfl) (of_decide_eq_true (by kernel_rfl)) k0 bel lt0) (trodAll_cons_mk (Below.trod laidOut (by kernel_rfl) (of_decide_eq_true (by kernel_rfl)) k1 bel lt1) trodAll_mk0)), rfl, bel.frame _, fun h => by cases h⟩

theorem over : Rows.modelExactRow.holds Try.pinned (OpenSpec.ofChange Rows.modelExactSpec) :=
  OpenClaim.holds_of_wide 3 Try.f3 rfl rfl rfl rfl rfl rfl rfl ⟨rfl, rfl, rfl, rfl, rfl⟩ rfl rfl rfl rfl rfl (by kernel_rfl) Try.func3 (by kernel_rfl)
    (of_decide_eq_true (by kernel_rfl)) (by unfold Func.isWrapper; first | (rw [if_pos (by decide +kernel)]; kernel_rfl) | (rw [if_neg (by decide +kernel)]; exact ⟨rfl, rfl⟩))
    (fun os started H enc _ => lifted os started H enc)

end Go.Proofs.Ytmechoeoaadfeaa.modelExact

namespace Go.Proofs.Ytmechoeoaadfeaa
theorem modelExact_holds : Rows.ModelExactSaid := modelExact.over
end Go.Proofs.Ytmechoeoaadfeaa
