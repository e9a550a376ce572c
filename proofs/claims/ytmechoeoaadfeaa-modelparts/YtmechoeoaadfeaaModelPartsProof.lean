/- ModelParts is true for every model and tokens. -/
import Derived.Test.YtmechoeoaadfeaaRows
import Derived.Test.YtmechoeoaadfeaaMdlY
import Derived.WalkKit
import Derived.ProofKit
import Derived.OpenShut
import Derived.ShutString
import Derived.ChangeOld
import Derived.Below
namespace Go.Proofs.Ytmechoeoaadfeaa.modelParts
open Go.ChangeShapes Go.WideShapes Go.ChangeAt Go.RowKit
open Go.ChangeMaps (open_string shut_string)
set_option linter.unusedVariables false

theorem own : ownKnob Try.prog.godebug = none := by kernel_rfl
theorem laidOut : laidOutB Try.prog = true := by kernel_rfl

/- The walk: the call returns true, and nothing that was there is written. -/
set_option maxHeartbeats 4000000 in
set_option maxRecDepth 100000 in
theorem walk (a0_0 : Int) (a0_1 : Option Addr) (len0_1 cap0_1 : Nat) (m0_1 : List ((List (List Int)) × (List ((List (List Int)) × (List (List Int)) × Unit)) × Int × Unit)) (a1 : Option Addr) (len1 cap1 : Nat) (m1 : List (List Int)) (w : World) (w0_0 : (Lit.int .i64 a0_0).wf = true) (w0_1 : (sliceS (consS (sliceS (sliceS (intS .i64))) (consS (sliceS (consS (sliceS (sliceS (intS .i64))) (consS (sliceS (sliceS (intS .i64))) noneS))) (consS (intS .i64) noneS)))).rep w everywhere [.slice a0_1 len0_1 cap0_1] m0_1) (f0_1 : (∀ x0 ∈ m0_1, ((∀ x1 ∈ x0.1, (∀ x2 ∈ x1, (Lit.int .i64 x2).wf = true)) ∧ ((∀ x1 ∈ x0.2.1, ((∀ x2 ∈ x1.1, (∀ x3 ∈ x2, (Lit.int .i64 x3).wf = true)) ∧ ((∀ x2 ∈ x1.2.1, (∀ x3 ∈ x2, (Lit.int .i64 x3).wf = true)) ∧ True))) ∧ ((Lit.int .i64 x0.2.2.1).wf = true ∧ True))))) (w1 : (sliceS (sliceS (intS .i64))).rep w everywhere [.slice a1 len1 cap1] m1) (f1 : (∀ x0 ∈ m1, (∀ x1 ∈ x0, (Lit.int .i64 x1).wf = true))) :
    Calls Try.prog 6 #[.agg #[.int .i64 a0_0, .slice a0_1 len0_1 cap0_1], .slice a1 len1 cap1] w fun e w' => e = .returned (.bool true) ∧ Below w.heap.size w w' := by
  have HX : Hid (lysS.rep w everywhere [.slice a0_1 len0_1 cap0_1] m0_1) := w0_1
  have HT : Hid (matS.rep w everywhere [.slice a1 len1 cap1] m1) := w1
  have HL : Hid (m0_1.length = len0_1) := (sliceS_len w0_1).1
  have HLT : Hid (m1.length = len1) := (sliceS_len w1).1
  have hcap0 : len0_1 ≤ cap0_1 := (sliceS_len w0_1).2.1
  have hcap1 : len1 ≤ cap1 := (sliceS_len w1).2.1
  clear w0_0 w0_1 f0_1 w1 f1
  have hB := new_bel w (.cells #[.int .i64 a0_0, .slice a0_1 len0_1 cap0_1] 24)
  have q := Box.new w 24 #[.int .i64 a0_0, .slice a0_1 len0_1 cap0_1]
  have HC1 : Hid (Calls _ _ _ _ _) := msmall a0_1 len0_1 cap0_1 m0_1 a0_0 _ (Shape.below HX.out hB)
  go_enter Try.func6, Try.ntmps6
  go_wp2_with fail
  refine HC1.out.mono ?_
  rintro e u1 ⟨hs, hb1⟩
  have hB1 := bel_then hB hb1
  have q1 := q.keep hb1
  by_cases hS : Md.Small m0_1
  case neg =>
    rw [hs.not hS]
    clear hs hS HC1 hB q q1 hb1
    go_wp2_with (go_at_call 11; refine (mawake _).mono ?_; rintro e u9 ⟨rfl, hb9⟩)
    go_ret
    exact ⟨rfl, bel_then hB1 hb9⟩
  rw [hs.is hS]
  have HS : Hid (Md.Small m0_1) := hS
  have h1 := Shape.below HT.out hB1
  clear hs hS HC1 hB q hb1
  go_wp2_with fail
  refine by_says (small a1 len1 cap1 m1 everywhere u1 h1) (fun hS => ?_) (fun hS => ?_)
  case refine_2 =>
    clear hS h1 q1
    go_wp2_with (go_at_call 11; refine (mawake _).mono ?_; rintro e u9 ⟨rfl, hb9⟩)
    go_ret
    exact ⟨rfl, bel_then hB1 hb9⟩
  have HST : Hid (Mx.Small m1) := hS
  clear hS h1
  have p0 := q1.cell 0 rfl
  have p1 := q1.cell 1 rfl
  have HC2 : Hid (Calls _ _ _ _ _) := rmright a0_1 len0_1 cap0_1 m0_1 a0_0 u1 (Shape.below HX.out hB1) (by have := HS.out.1; have := HL.out; omega) (fun l hl => Md.small_lsized (HS.out.2 l hl))
  go_wp2_with fail
  refine HC2.out.mono ?_
  rintro e u2 ⟨hs, hb2⟩
  have hB2 := bel_then hB1 hb2
  have q2 := q1.keep hb2
  clear HC2 hB1 q1 hb2 p0 p1
  by_cases hR : Md.Right a0_0 m0_1
  case neg =>
    rw [hs.not hR]
    clear hs hR q2
    go_wp2_with (go_at_call 11; refine (mawake _).mono ?_; rintro e u9 ⟨rfl, hb9⟩)
    go_ret
    exact ⟨rfl, bel_then hB2 hb9⟩
  rw [hs.is hR]
  have HR : Hid (Md.Right a0_0 m0_1) := hR
  have p0 := q2.cell 0 rfl
  have p1 := q2.cell 1 rfl
  have HC3 : Hid (Calls _ _ _ _ _) := rmtokens a0_1 len0_1 cap0_1 a0_0 a1 len1 cap1 m1 u2 (Shape.below HT.out hB2) (Ex.small_sized HST.out)
  clear hs hR
  go_wp2_with fail
  refine HC3.out.mono ?_
  rintro e u3 ⟨hs, hb3⟩
  have hB3 := bel_then hB2 hb3
  have q3 := q2.keep hb3
  clear HC3 hB2 q2 hb3 p0 p1
  by_cases hR : Md.TRight a0_0 m1
  case neg =>
    rw [hs.not hR]
    clear hs hR q3
    go_wp2_with (go_at_call 11; refine (mawake _).mono ?_; rintro e u9 ⟨rfl, hb9⟩)
    go_ret
    exact ⟨rfl, bel_then hB3 hb9⟩
  rw [hs.is hR]
  have HTR : Hid (Md.TRight a0_0 m1) := hR
  have p0 := q3.cell 0 rfl
  have p1 := q3.cell 1 rfl
  have hn4 : len0_1 ≤ 4 := by have := HR.out.2.2.2.1; have := HL.out; omega
  have hn1 : 1 ≤ len0_1 := by have := HR.out.2.2.1; have := HL.out; omega
  have hm16 : len1 ≤ 16 := by have := HTR.out.2.1; have := HLT.out; omega
  have hm1 : 1 ≤ len1 := by have := HTR.out.1; have := HLT.out; omega
  have HD : Hid (a0_0 ≤ 8) := HR.out.2.1
  clear hs hR
  have HQ3 : Hid (Box u3 w.heap.size 24 #[.int .i64 a0_0, .slice a0_1 len0_1 cap0_1]) := q3
  obtain ⟨bl, ol, ag, ng, cg, ax, nx, cx, g, xs, cap, rfl, hbl, hEl, hg, hx, c0, c1, c2⟩ := ly_there HX.out (j := 0) (by omega)
  have hLR : Md.LRight (g, xs, cap, ()) a0_0 := by rw [← hEl]; exact HR.out.2.2.2.2 _ (in_of (by have := HL.out; omega) ly0)
  rw [show ol + 0 * 3 = ol by omega] at c0 c1 c2
  have HLX : Hid (xs.length = nx) := (sliceS_len hx).1
  have hnx : nx ≤ 8 := by have h7 : xs.length ≤ 8 := hLR.2.1; have := HLX.out; omega
  have hcap : 1 ≤ cap ∧ cap ≤ 32 := ⟨hLR.2.2.2.1, hLR.2.2.2.2.1⟩
  have d0 := (hB3.cell (by exact hbl)).trans c0
  have d1 := (hB3.cell (by exact hbl)).trans c1
  have d2 := (hB3.cell (by exact hbl)).trans c2
  have hl0 : (0 : Int) < (len0_1 : Int) := by omega
  have HC4 : Hid (Calls _ _ _ _ _) := mparts ag ng cg ax nx cx g xs cap a0_0 a1 len1 cap1 m1 u3 (Shape.below hg hB3) (Shape.below hx hB3) (Shape.below HT.out hB3) hLR HD.out HTR.out
  have HLR : Hid (Md.LRight (g, xs, cap, ()) a0_0) := hLR
  obtain ⟨i0, hi0, hi1, hi2, hi3⟩ := info_parts Try.infoInt
  clear hEl hg hx hLR
  go_wp2_with fail
  refine HC4.out.mono ?_
  rintro e V4 ⟨hb4, pa, pn, pc, rfl, hps⟩
  have hB4 := bel_then hB3 hb4
  have q4 := q3.keep hb4
  have HPL : Hid ((Md.parts (g, xs, cap, ()) m1).length = pn) := (sliceS_len hps).1
  have hpn : pn ≤ 32 := by have := Md.parts_len (g, xs, cap, ()) m1; have := HPL.out; have := HLT.out; omega
  have hpn1 : 1 ≤ pn := by have := Md.parts_some HLR.out HTR.out; have := HPL.out; omega
  have HPI : Hid (∀ p ∈ Md.parts (g, xs, cap, ()) m1, 0 ≤ p.1 ∧ p.1 < (m1.length : Int) ∧ 0 ≤ p.2.1 ∧ p.2.1 ≤ 1 ∧ 0 ≤ p.2.2.1 ∧ p.2.2.1 < (xs.length : Int) ∧ 0 ≤ p.2.2.2.1 ∧ p.2.2.2.1 ≤ 65536) := fun p hp => Md.part_is HLR.out HTR.out hp
  have HRI : Hid (∀ i j, i < j → j < pn → Md.at2 ((Md.parts (g, xs, cap, ()) m1).getD i pt0) < Md.at2 ((Md.parts (g, xs, cap, ()) m1).getD j pt0)) := fun i j h hj => Md.parts_rise _ _ h (by rw [HPL.out]; exact hj)
  have HMC : Hid (∀ (x k : Nat), x < nx → (Md.many ((Md.parts (g, xs, cap, ()) m1).take k) (x : Int) : Int) ≤ cap) := fun x k hx => by
    have h7 := Md.many_take (Md.parts (g, xs, cap, ()) m1) (x : Int) k
    have h8 := Md.many_parts (g, xs, cap, ()) m1 (x : Int) (by omega) (by show (x : Int) < (xs.length : Int); have := HLX.out; omega) (by show 0 ≤ cap; omega)
    have h9 : (Md.many (Md.parts (g, xs, cap, ()) m1) (x : Int) : Int) ≤ cap := h8
    omega
  generalize Md.parts (g, xs, cap, ()) m1 = P at *
  have HPS : Hid (ptsS.rep V4 everywhere [.slice pa pn pc] P) := hps
  have HQ4 : Hid (Box V4 w.heap.size 24 #[.int .i64 a0_0, .slice (some ⟨bl, ol, none⟩) len0_1 cap0_1] ∧ w.heap.size < V4.heap.size) := ⟨q4, q4.lt⟩
  have HB4 : Hid (Below w.heap.size w V4) := hB4
  clear p0 p1 d0 d1 d2 HC4 hb4 hB3 q3 HQ3 hps
  have p1 := q4.cell 1 rfl
  have d1 := (hB4.cell (by exact hbl)).trans c1
  have HD2 : Hid (V4.cell? ⟨bl, ol + 2, none⟩ = some (.int .i64 cap)) := (hB4.cell (by exact hbl)).trans c2
  clear q4 hB4 c0 c1 c2
  go_wp2_with (at_make; refine wpList_make_full _ rfl _ _ 47 rfl V4.heap.size 3 i0 (.int .i64 0) 1 Try.underlying47 hi0 hi1 hi2 _ _ _ _ nx rfl rfl (by rfl) (by rfl) ?b2 ?b3 (Nat.le_refl _) ?_)
  case b2 => rw [hi3]; omega
  case b3 => unfold maxLen; omega
  intro V5 hown0 hg0
  have hb5 : Below V4.heap.size V4 V5 := (Below.refl _ _).grown hg0 (Nat.le_refl _) (fun g hg => by cases hg)
  have HO : Hid (Own (intS .i64) V5 V4.heap.size 3 (.slice (some ⟨V4.heap.size, 0, none⟩) nx nx) (Md.counts nx (P.take 0))) := by
    rw [Md.counts_zero]
    exact Own.made (A := intS .i64) (z := [.int .i64 0]) (by show 0 < 1; omega) rfl (by show V5.ownsRow V4.heap.size 3 1 _ nx (madeCells #[.int .i64 0] (nx * 1)).toList; rw [Nat.mul_one]; exact hown0) (fun F => rfl)
  clear hown0 hg0 p1 d1
  go_wp2
  go_loopw [6, 46] (fun v i wr => ∃ (k : Nat) (last : Int), k ≤ pn ∧ v = .int .i64 last ∧ i = .int .i64 k ∧ Hid (∀ j, k ≤ j → j < pn → last < Md.at2 (P.getD j pt0)) ∧ Own (intS .i64) wr V4.heap.size 3 (.slice (some ⟨V4.heap.size, 0, none⟩) nx nx) (Md.counts nx (P.take k)) ∧ Below V4.heap.size V4 wr) (fun _ i _ => pn - (intOf i).toNat)
  case atStart =>
    refine ⟨0, -1, Nat.zero_le _, rfl, rfl, fun j _ hj => ?_, HO.out, hb5⟩
    have h7 := HPI.out _ (in_of (l := P) (by rw [HPL.out]; exact hj) pt0)
    unfold Md.at2
    omega
  case round =>
    clear HO hb5
    obtain ⟨k, last, hk, rfl, rfl, HLA, hown, hbel⟩ := hrel
    by_cases hlt : k < pn
    · obtain ⟨b1, o1, t, r, x, s, rfl, _, hE, c0, c1, c2, c3⟩ := pt_there (Shape.below HPS.out hbel) hlt
      have hli : (k : Int) < (pn : Int) := by omega
      have hk0 : (0 : Int) ≤ (k : Int) := by omega
      have hkl : k < P.length := by have := HPL.out; omega
      have hpi := HPI.out _ (in_of hkl pt0)
      have hla := HLA.out k (Nat.le_refl _) hlt
      rw [hE] at hpi hla
      obtain ⟨j0, j1, j2, j3, j4, j5, j6, j7⟩ := hpi
      obtain ⟨t', rfl⟩ : ∃ t' : Nat, t = t' := ⟨t.toNat, by have : 0 ≤ t := j0; omega⟩
      obtain ⟨x', rfl⟩ : ∃ x' : Nat, x = x' := ⟨x.toNat, by have : 0 ≤ x := j4; omega⟩
      have g0 : t' < len1 := by have h7 : (t' : Int) < (m1.length : Int) := j1; have := HLT.out; omega
      have g1 : 0 ≤ r := j2
      have g2 : r ≤ 1 := j3
      have g3 : x' < nx := by have h7 : (x' : Int) < (xs.length : Int) := j5; have := HLX.out; omega
      have g4 : 0 ≤ s := j6
      have g5 : s ≤ 65536 := j7
      have g6 : last < 2 * (t' : Int) + r := hla
      clear j0 j1 j2 j3 j4 j5 j6 j7 hla
      obtain ⟨y, hy⟩ : ∃ y, (Md.many (P.take k) (x' : Int) : Int) = y := ⟨_, rfl⟩
      have hy0 : 0 ≤ y ∧ y ≤ 32 := by have h7 := Md.many_le (P.take k) (x' : Int); rw [List.length_take] at h7; omega
      have hyc : y + 1 ≤ cap := by
        have h7 := HMC.out x' (k + 1) g3
        rw [Md.many_next hkl, hE] at h7
        have h8 : ((Md.many (P.take k) (x' : Int) + (if (x' : Int) = (x' : Int) then 1 else 0) : Nat) : Int) ≤ cap := h7
        rw [if_pos rfl] at h8
        omega
      have HNX : Hid ((Md.counts nx (P.take k)).set x' (y + 1) = Md.counts nx (P.take (k + 1))) := Md.counts_next hkl hE hy
      have HLN : Hid (∀ j, k + 1 ≤ j → j < pn → 2 * (t' : Int) + r < Md.at2 (P.getD j pt0)) := fun j hj hjn => by
        have h7 := HRI.out k j (by omega) hjn
        rw [hE] at h7
        exact h7
      have hbn := new_bel wr (.cells #[.int .i64 (t' : Int), .int .i64 r, .int .i64 (x' : Int), .int .i64 s] 42)
      have kb := Box.new wr 42 #[.int .i64 (t' : Int), .int .i64 r, .int .i64 (x' : Int), .int .i64 s]
      have hownA := hown.keep hbn
      have hbelA := bel_then hbel hbn
      have hG := (hown.lt V4.heap.size rfl).2
      obtain ⟨b2, o2, he, _, e0⟩ := (Row.of_rep hownA.is).at g3
      injection he with he; injection he with hx1 hx2 _; subst hx1; subst hx2
      rw [Nat.zero_add, Md.counts_at _ g3, hy] at e0
      obtain ⟨_, f0, _⟩ := hownA.store rfl g3 (F := fun _ => False) (x := y + 1) (v := .int .i64 (y + 1)) rfl (fun b hb => hb.elim)
      obtain ⟨_, _, hst0⟩ := hown.store rfl g3 (F := fun _ => False) (x := y + 1) (v := .int .i64 (y + 1)) rfl (fun b hb => hb.elim)
      rw [HNX.out] at hst0
      have hbel0 := bel_put (i := x') hbel (Nat.le_refl V4.heap.size) (.int .i64 (y + 1))
      have hsY : (wr.setCell ⟨V4.heap.size, x', none⟩ (.int .i64 (y + 1))).heap.size = wr.heap.size := by simp
      have hst := hst0.keep (new_bel _ (.cells #[.int .i64 (t' : Int), .int .i64 r, .int .i64 (x' : Int), .int .i64 s] 42))
      have hbelX := bel_alloc hbel0 (.cells #[.int .i64 (t' : Int), .int .i64 r, .int .i64 (x' : Int), .int .i64 s] 42)
      have kbX := Box.new (wr.setCell ⟨V4.heap.size, x', none⟩ (.int .i64 (y + 1))) 42 #[.int .i64 (t' : Int), .int .i64 r, .int .i64 (x' : Int), .int .i64 s]
      rw [hsY] at kbX
      clear hst0 hbel0 hsY
      have z0 := kb.cell 0 rfl
      have z1 := kb.cell 1 rfl
      have z2 := kb.cell 2 rfl
      have z3 := kb.cell 3 rfl
      have i1 : ¬ 2 * (t' : Int) + r ≤ last := by omega
      have i2 : ¬ r < 0 := by omega
      have i3 : ¬ 1 < r := by omega
      have i4 : ¬ (len1 : Int) ≤ (t' : Int) := by omega
      have i5 : ¬ (x' : Int) < 0 := by omega
      have i6 : ¬ (nx : Int) ≤ (x' : Int) := by omega
      have i7 : ¬ s < 0 := by omega
      have i8 : ¬ 65536 < s := by omega
      have i9 : (x' : Int) < (nx : Int) := by omega
      have i10 : (0 : Int) ≤ (x' : Int) := by omega
      have t16 : (t' : Int) < 16 := by omega
      clear hE hy hown hbel hbn
      go_upto_region 13 with fail
      clear c0 c1 c2 c3 z0 z1 z2 z3 e0 f0 hownA hbelA kb
      generalize (wr.setCell ⟨V4.heap.size, x', none⟩ (.int .i64 (y + 1))).alloc (.cells #[.int .i64 (t' : Int), .int .i64 r, .int .i64 (x' : Int), .int .i64 s] 42) = X at *
      obtain ⟨b3, o3, he, _, e1⟩ := (Row.of_rep hst.is).at g3
      injection he with he; injection he with hx1 hx2 _; subst hx1; subst hx2
      rw [Nat.zero_add, ← HNX.out, List.getD_eq_getElem?_getD, List.getElem?_set_self (by rw [Md.counts_len]; exact g3)] at e1
      have y0 : ∀ x9 : Later X, x9.u.cell? ⟨wr.heap.size, 2, none⟩ = some (.int .i64 (x' : Int)) := fun x9 => x9.cell (kbX.cell 2 rfl)
      have y1 : ∀ x9 : Later X, x9.u.cell? ⟨V4.heap.size, x', none⟩ = some (.int .i64 (y + 1)) := fun x9 => x9.cell e1
      have y2 : ∀ x9 : Later X, x9.u.cell? ⟨w.heap.size, 1, none⟩ = some (.slice (some ⟨bl, ol, none⟩) len0_1 cap0_1) := fun x9 => x9.cell ((HQ4.out.1.keep hbelX).cell 1 rfl)
      have y3 : ∀ x9 : Later X, x9.u.cell? ⟨bl, ol + 2, none⟩ = some (.int .i64 cap) := fun x9 => x9.cell ((hbelX.cell (World.block_lt_of_cell? V4 _ HD2.out)).trans HD2.out)
      have hne9 : Nonempty (Later X) := Later.there X
      clear e1
      refine region_later (by kernel_rfl) (by kernel_rfl) ?_
      repeat (go_big_quiet_step (fail))
      refine wpQuiet_nil ?_
      intro x9
      obtain ⟨W9, hb9⟩ := x9
      have HR9 : Hid _ := And.intro (hst.keep hb9) (bel_then hbelX hb9)
      have hnc : ¬ cap < y + 1 := by omega
      clear y0 y1 y2 y3 hne9 hst hbelX kbX
      go_wp2
      go_roundw
      case rel => exact ⟨k + 1, 2 * (t' : Int) + r, by omega, rfl, by go_num, HLN.out, HR9.out.1, HR9.out.2⟩
      case measure => simp [intOf]; omega
    · have hli : ¬ (k : Int) < (pn : Int) := by omega
      have hp1 : (1 : Int) ≤ (pn : Int) := by omega
      have hB9 := bel_then HB4.out hbel
      clear hown hbel
      go_wp2_with (go_at_call 11; refine (mawake _).mono ?_; rintro e u9 ⟨rfl, hb9⟩)
      go_ret
      exact ⟨rfl, bel_then hB9 hb9⟩

/- From the walk to the row. -/
set_option maxRecDepth 100000 in
theorem lifted (os : Os) (started : os.Started) (H : Type) (enc : TypeId × Value → H) :
    ReturnsInHanded {} Try.checked os 6 .any (Rows.modelPartsSpec.pre6 enc Try.prog Try.f6 Rows.modelPartsRow.domain false) (Rows.modelPartsSpec.post enc Try.prog Try.f6 false true false false) := by
  refine returnsInHanded_of_change (C := Try.checked) own started (by kernel_rfl) Try.func6
    (ChangeSpec.witness6 (enc := enc) (C := Try.checked) false ⟨#[], #[.agg #[.int .i64 0, .slice none 0 0], .slice none 0 0], []⟩ 8 (by kernel_rfl) (by kernel_rfl) (by kernel_rfl) (by kernel_rfl)) ?_
  intro W base args ds gs before hval0 hW hcnd _
  have hval : ∀ (j : Nat) t v, Try.f6.params[j]? = some t → args[j]? = some v → Value.okWide Try.prog W .any base t v := hval0
  have hW' := hW
  obtain ⟨p, q, hA0, hV, rfl, hfz, hnd⟩ := hW
  have hA : DataW.TrodAll enc Try.prog W 0 (fun _ => true) true Try.f6.params.toList args.toList ds p := hA0
  rw [Try.params6] at hA hval
  obtain ⟨v0, vs0, d0, ds0, p0, q0, hargs, rfl, rfl, h0, r0⟩ := trodAll_cons hA
  obtain ⟨v1, vs1, d1, ds1, p1, q1, rfl, rfl, rfl, h1, r1⟩ := trodAll_cons r0
  obtain ⟨rfl, rfl, rfl⟩ := trodAll_nil r1
  obtain rfl : args = #[v0, v1] := by cases args; simp_all
  obtain ⟨rfl, rfl⟩ := trodVars_none hV
  obtain ⟨cs0, rfl⟩ := okWide_agg Try.underlying24 (hval 0 24 v0 rfl rfl)
  have k0 := h0
  have lt0 : ∀ x ∈ p0, x.block < W.heap.size := by obtain ⟨m, hm⟩ := k0; exact DataW.trod_lt m _ _ _ hm
  obtain ⟨y0, hy0, hw0⟩ : ∃ y, (consS (intS .i64) (consS (sliceS (consS (sliceS (sliceS (intS .i64))) (consS (sliceS (consS (sliceS (sliceS (intS .i64))) (consS (sliceS (sliceS (intS .i64))) noneS))) (consS (intS .i64) noneS)))) noneS)).rep W everywhere cs0 y ∧ ((Lit.int .i64 y.1).wf = true ∧ ((∀ x0 ∈ y.2.1, ((∀ x1 ∈ x0.1, (∀ x2 ∈ x1, (Lit.int .i64 x2).wf = true)) ∧ ((∀ x1 ∈ x0.2.1, ((∀ x2 ∈ x1.1, (∀ x3 ∈ x2, (Lit.int .i64 x3).wf = true)) ∧ ((∀ x2 ∈ x1.2.1, (∀ x3 ∈ x2, (Lit.int .i64 x3).wf = true)) ∧ True))) ∧ ((Lit.int .i64 x0.2.2.1).wf = true ∧ True)))) ∧ True)) := by
    obtain ⟨fuel, hf⟩ := h0
    exact (opens_struct Try.underlying24 (show Try.prog.cellsOf 24 = 2 by kernel_rfl) (opensAt_cons (A := (intS .i64)) rfl (show Try.prog.cellsOf 3 = 1 by kernel_rfl) (opens_int Try.underlying3) (opensAt_cons (A := (sliceS (consS (sliceS (sliceS (intS .i64))) (consS (sliceS (consS (sliceS (sliceS (intS .i64))) (consS (sliceS (sliceS (intS .i64))) noneS))) (consS (intS .i64) noneS))))) rfl (show Try.prog.cellsOf 22 = 1 by kernel_rfl) (opens_slice (A := (consS (sliceS (sliceS (intS .i64))) (consS (sliceS (consS (sliceS (sliceS (intS .i64))) (consS (sliceS (sliceS (intS .i64))) noneS))) (consS (intS .i64) noneS)))) Try.underlying22 (show Try.prog.cellsOf 37 = 3 by kernel_rfl) (by exact Nat.succ_pos _) (opens_struct Try.underlying37 (show Try.prog.cellsOf 37 = 3 by kernel_rfl) (opensAt_cons (A := (sliceS (sliceS (intS .i64)))) rfl (show Try.prog.cellsOf 25 = 1 by kernel_rfl) (opens_slice (A := (sliceS (intS .i64))) Try.underlying25 (show Try.prog.cellsOf 47 = 1 by kernel_rfl) (by exact Nat.succ_pos _) (opens_slice (A := (intS .i64)) Try.underlying47 (show Try.prog.cellsOf 3 = 1 by kernel_rfl) (by exact Nat.succ_pos _) (opens_int Try.underlying3))) (opensAt_cons (A := (sliceS (consS (sliceS (sliceS (intS .i64))) (consS (sliceS (sliceS (intS .i64))) noneS)))) rfl (show Try.prog.cellsOf 35 = 1 by kernel_rfl) (opens_slice (A := (consS (sliceS (sliceS (intS .i64))) (consS (sliceS (sliceS (intS .i64))) noneS))) Try.underlying35 (show Try.prog.cellsOf 46 = 2 by kernel_rfl) (by exact Nat.succ_pos _) (opens_struct Try.underlying46 (show Try.prog.cellsOf 46 = 2 by kernel_rfl) (opensAt_cons (A := (sliceS (sliceS (intS .i64)))) rfl (show Try.prog.cellsOf 25 = 1 by kernel_rfl) (opens_slice (A := (sliceS (intS .i64))) Try.underlying25 (show Try.prog.cellsOf 47 = 1 by kernel_rfl) (by exact Nat.succ_pos _) (opens_slice (A := (intS .i64)) Try.underlying47 (show Try.prog.cellsOf 3 = 1 by kernel_rfl) (by exact Nat.succ_pos _) (opens_int Try.underlying3))) (opensAt_cons (A := (sliceS (sliceS (intS .i64)))) rfl (show Try.prog.cellsOf 25 = 1 by kernel_rfl) (opens_slice (A := (sliceS (intS .i64))) Try.underlying25 (show Try.prog.cellsOf 47 = 1 by kernel_rfl) (by exact Nat.succ_pos _) (opens_slice (A := (intS .i64)) Try.underlying47 (show Try.prog.cellsOf 3 = 1 by kernel_rfl) (by exact Nat.succ_pos _) (opens_int Try.underlying3))) opensAt_nil (by rfl)) (by rfl)))) (opensAt_cons (A := (intS .i64)) rfl (show Try.prog.cellsOf 3 = 1 by kernel_rfl) (opens_int Try.underlying3) opensAt_nil (by rfl)) (by rfl)) (by rfl)))) opensAt_nil (by rfl)) (by rfl))) H enc W _ _ _ fuel _ _ (by simpa [Value.cells] using hf)
  obtain ⟨a0_0, m0_1, _⟩ := y0
  obtain ⟨d0_0, rfl, hy0_0⟩ := consS_int hy0
  obtain ⟨a0_1, len0_1, cap0_1, d0_1, rfl, w0_1, hy0_1⟩ := consS_slice hy0_0
  obtain rfl := noneS_nil hy0_1
  obtain ⟨w0_0, f0_1, _⟩ := hw0
  obtain ⟨a1, len1, cap1, rfl⟩ := okWide_slice Try.underlying25 (hval 1 25 v1 rfl rfl)
  have k1 := h1
  have lt1 : ∀ x ∈ p1, x.block < W.heap.size := by obtain ⟨m, hm⟩ := k1; exact DataW.trod_lt m _ _ _ hm
  obtain ⟨m1, w1, f1⟩ : ∃ y, (sliceS (sliceS (intS .i64))).rep W everywhere [.slice a1 len1 cap1] y ∧ (∀ x0 ∈ y, (∀ x1 ∈ x0, (Lit.int .i64 x1).wf = true)) := by
    obtain ⟨fuel, hf⟩ := h1
    exact (opens_slice (A := (sliceS (intS .i64))) Try.underlying25 (show Try.prog.cellsOf 47 = 1 by kernel_rfl) (by exact Nat.succ_pos _) (opens_slice (A := (intS .i64)) Try.underlying47 (show Try.prog.cellsOf 3 = 1 by kernel_rfl) (by exact Nat.succ_pos _) (opens_int Try.underlying3))) H enc W _ _ _ fuel _ _ hf
  clear hA0 hval0
  refine (walk a0_0 a0_1 len0_1 cap0_1 m0_1 a1 len1 cap1 m1 W w0_0 w0_1 f0_1 w1 f1).mono fun e W' ⟨he, bel⟩ => ?_
  subst he
  exact ⟨_, rfl, _, _, _, [], _, [], hW', trodAll_mk1 (shut_bool Try.underlying4 _), (trodAll_cons_mk (Below.trod laidOut (by kernel_rfl) (of_decide_eq_true (by kernel_rfl)) k0 bel lt0) (trodAll_cons_mk (Below.trod laidOut (by kernel_rfl) (of_decide_eq_true (by kernel_rfl)) k1 bel lt1) trodAll_mk0)), rfl, bel.frame _, fun h => by cases h⟩

theorem over : Rows.modelPartsRow.holds Try.pinned (OpenSpec.ofChange Rows.modelPartsSpec) :=
  OpenClaim.holds_of_wide 6 Try.f6 rfl rfl rfl rfl rfl rfl rfl ⟨rfl, rfl, rfl, rfl, rfl⟩ rfl rfl rfl rfl rfl (by kernel_rfl) Try.func6 (by kernel_rfl)
    (of_decide_eq_true (by kernel_rfl)) (by unfold Func.isWrapper; first | (rw [if_pos (by decide +kernel)]; kernel_rfl) | (rw [if_neg (by decide +kernel)]; exact ⟨rfl, rfl⟩))
    (fun os started H enc _ => lifted os started H enc)

end Go.Proofs.Ytmechoeoaadfeaa.modelParts

namespace Go.Proofs.Ytmechoeoaadfeaa
theorem modelParts_holds : Rows.ModelPartsSaid := modelParts.over
end Go.Proofs.Ytmechoeoaadfeaa
