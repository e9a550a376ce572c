/- ModelRoom is true for every model and tokens. -/
import Derived.Test.YtmechoeoaadfeaaRows
import Derived.Test.YtmechoeoaadfeaaMdlZ
import Derived.WalkKit
import Derived.ProofKit
import Derived.OpenShut
import Derived.ShutString
import Derived.ChangeOld
import Derived.Below
namespace Go.Proofs.Ytmechoeoaadfeaa.modelRoom
open Go.ChangeShapes Go.WideShapes Go.ChangeAt Go.RowKit
open Go.ChangeMaps (open_string shut_string)
set_option linter.unusedVariables false

theorem own : ownKnob Try.prog.godebug = none := by kernel_rfl
theorem laidOut : laidOutB Try.prog = true := by kernel_rfl

/- The walk: the call returns true, and nothing that was there is written. -/
set_option maxHeartbeats 4000000 in
set_option maxRecDepth 100000 in
theorem walk (a0_0 : Int) (a0_1 : Option Addr) (len0_1 cap0_1 : Nat) (m0_1 : List ((List (List Int)) × (List ((List (List Int)) × (List (List Int)) × Unit)) × Int × Unit)) (a1 : Option Addr) (len1 cap1 : Nat) (m1 : List (List Int)) (w : World) (w0_0 : (Lit.int .i64 a0_0).wf = true) (w0_1 : (sliceS (consS (sliceS (sliceS (intS .i64))) (consS (sliceS (consS (sliceS (sliceS (intS .i64))) (consS (sliceS (sliceS (intS .i64))) noneS))) (consS (intS .i64) noneS)))).rep w everywhere [.slice a0_1 len0_1 cap0_1] m0_1) (f0_1 : (∀ x0 ∈ m0_1, ((∀ x1 ∈ x0.1, (∀ x2 ∈ x1, (Lit.int .i64 x2).wf = true)) ∧ ((∀ x1 ∈ x0.2.1, ((∀ x2 ∈ x1.1, (∀ x3 ∈ x2, (Lit.int .i64 x3).wf = true)) ∧ ((∀ x2 ∈ x1.2.1, (∀ x3 ∈ x2, (Lit.int .i64 x3).wf = true)) ∧ True))) ∧ ((Lit.int .i64 x0.2.2.1).wf = true ∧ True))))) (w1 : (sliceS (sliceS (intS .i64))).rep w everywhere [.slice a1 len1 cap1] m1) (f1 : (∀ x0 ∈ m1, (∀ x1 ∈ x0, (Lit.int .i64 x1).wf = true))) :
    Calls Try.prog 8 #[.agg #[.int .i64 a0_0, .slice a0_1 len0_1 cap0_1], .slice a1 len1 cap1] w fun e w' => e = .returned (.bool true) ∧ Below w.heap.size w w' := by
  have HX : Hid (lysS.rep w everywhere [.slice a0_1 len0_1 cap0_1] m0_1) := w0_1
  have HT : Hid (matS.rep w everywhere [.slice a1 len1 cap1] m1) := w1
  have HL : Hid (m0_1.length = len0_1) := (sliceS_len w0_1).1
  have HLT : Hid (m1.length = len1) := (sliceS_len w1).1
  have hcap0 : len0_1 ≤ cap0_1 := (sliceS_len w0_1).2.1
  have hcap1 : len1 ≤ cap1 := (sliceS_len w1).2.1
  clear w0_0 w0_1 f0_1 w1 f1
  have hB := new_bel w (.cells #[.int .i64 a0_0, .slice a0_1 len0_1 cap0_1] 24)
  have q := Box.new w 24 #[.int .i64 a0_0, .slice a0_1 len0_1 cap0_1]
  have HC1 : Hid (Calls _ _ _ _ _) := msmall a0_1 len0_1 cap0_1 m0_1 a0_0 _ (Shape.below HX.out hB)
  go_enter Try.func8, Try.ntmps8
  go_wp2_with fail
  refine HC1.out.mono ?_
  rintro e u1 ⟨hs, hb1⟩
  have hB1 := bel_then hB hb1
  have q1 := q.keep hb1
  by_cases hS : Md.Small m0_1
  case neg =>
    rw [hs.not hS]
    clear hs hS HC1 hB q q1 hb1
    go_wp2_with (go_at_call 11; refine (mawake _).mono ?_; rintro e u9 ⟨rfl, hb9⟩)
    go_ret
    exact ⟨rfl, bel_then hB1 hb9⟩
  rw [hs.is hS]
  have HS : Hid (Md.Small m0_1) := hS
  have h1 := Shape.below HT.out hB1
  clear hs hS HC1 hB q hb1
  go_wp2_with fail
  refine by_says (small a1 len1 cap1 m1 everywhere u1 h1) (fun hS => ?_) (fun hS => ?_)
  case refine_2 =>
    clear hS h1 q1
    go_wp2_with (go_at_call 11; refine (mawake _).mono ?_; rintro e u9 ⟨rfl, hb9⟩)
    go_ret
    exact ⟨rfl, bel_then hB1 hb9⟩
  have HST : Hid (Mx.Small m1) := hS
  clear hS h1
  have p0 := q1.cell 0 rfl
  have p1 := q1.cell 1 rfl
  have HC2 : Hid (Calls _ _ _ _ _) := rmright a0_1 len0_1 cap0_1 m0_1 a0_0 u1 (Shape.below HX.out hB1) (by have := HS.out.1; have := HL.out; omega) (fun l hl => Md.small_lsized (HS.out.2 l hl))
  go_wp2_with fail
  refine HC2.out.mono ?_
  rintro e u2 ⟨hs, hb2⟩
  have hB2 := bel_then hB1 hb2
  have q2 := q1.keep hb2
  clear HC2 hB1 q1 hb2 p0 p1
  by_cases hR : Md.Right a0_0 m0_1
  case neg =>
    rw [hs.not hR]
    clear hs hR q2
    go_wp2_with (go_at_call 11; refine (mawake _).mono ?_; rintro e u9 ⟨rfl, hb9⟩)
    go_ret
    exact ⟨rfl, bel_then hB2 hb9⟩
  rw [hs.is hR]
  have HR : Hid (Md.Right a0_0 m0_1) := hR
  have p0 := q2.cell 0 rfl
  have p1 := q2.cell 1 rfl
  have HC3 : Hid (Calls _ _ _ _ _) := rmtokens a0_1 len0_1 cap0_1 a0_0 a1 len1 cap1 m1 u2 (Shape.below HT.out hB2) (Ex.small_sized HST.out)
  clear hs hR
  go_wp2_with fail
  refine HC3.out.mono ?_
  rintro e u3 ⟨hs, hb3⟩
  have hB3 := bel_then hB2 hb3
  have q3 := q2.keep hb3
  clear HC3 hB2 q2 hb3 p0 p1
  by_cases hR : Md.TRight a0_0 m1
  case neg =>
    rw [hs.not hR]
    clear hs hR q3
    go_wp2_with (go_at_call 11; refine (mawake _).mono ?_; rintro e u9 ⟨rfl, hb9⟩)
    go_ret
    exact ⟨rfl, bel_then hB3 hb9⟩
  rw [hs.is hR]
  have HTR : Hid (Md.TRight a0_0 m1) := hR
  have p0 := q3.cell 0 rfl
  have p1 := q3.cell 1 rfl
  have hn4 : len0_1 ≤ 4 := by have := HR.out.2.2.2.1; have := HL.out; omega
  have hn1 : 1 ≤ len0_1 := by have := HR.out.2.2.1; have := HL.out; omega
  have hm16 : len1 ≤ 16 := by have := HTR.out.2.1; have := HLT.out; omega
  have hm1 : 1 ≤ len1 := by have := HTR.out.1; have := HLT.out; omega
  have HD : Hid (a0_0 ≤ 8) := HR.out.2.1
  clear hs hR
  have kM := Box.new u3 24 #[.int .i64 a0_0, .slice none 0 0]
  have hbM := new_bel u3 (.cells #[.int .i64 a0_0, .slice none 0 0] 24)
  have HM0 : Hid _ := And.intro kM hbM
  have r1 := (q3.keep hbM).cell 1 rfl
  have hlt3 : w.heap.size < u3.heap.size := q3.lt
  have HB3 : Hid (Below w.heap.size w u3) := hB3
  obtain ⟨i0, hi0, hi1, hi2, hi3⟩ := info_parts Try.infoLayer
  obtain ⟨j0, hj0, hj1, hj2, hj3⟩ := info_parts Try.infoRow
  clear kM hbM q3 hB3
  go_wp2
  go_loopw [40] (fun i wr => ∃ (k : Nat) (va : Option Addr) (vc : Nat), k ≤ len0_1 ∧ i = .int .i64 k ∧ Box wr u3.heap.size 24 #[.int .i64 a0_0, .slice va k vc] ∧ Own (inS lyS (· < w.heap.size)) wr (u3.heap.size + 1) 37 (.slice va k vc) ((m0_1.map Md.wideL).take k) ∧ Below u3.heap.size u3 wr) (fun i _ => len0_1 - (intOf i).toNat)
  case atStart => exact ⟨0, none, 0, Nat.zero_le _, rfl, HM0.out.1, by rw [List.take_zero]; exact Own.nil _ _ _ _, HM0.out.2⟩
  case round =>
    clear HM0 r1 p0 p1
    obtain ⟨k, va, vc, hk, rfl, hM, hown, hbel⟩ := hrel
    obtain ⟨W0, hW0⟩ : ∃ W0, W0 = wr := ⟨_, rfl⟩
    subst hW0
    have hBw := bel_then HB3.out hbel
    have hsz0 := hbel.size
    by_cases hlt : k < len0_1
    · obtain ⟨b1, off, ag, ng, cg, ax, nx, cx, g, xs, cap, rfl, hb, hE, hg, hx, c0, c1, c2⟩ := ly_there HX.out hlt
      have hli : (k : Int) < (len0_1 : Int) := by omega
      have hk0 : (0 : Int) ≤ (k : Int) := by omega
      have hkl : k < m0_1.length := by have := HL.out; omega
      have HT1 : Hid ((m0_1.map Md.wideL).take k ++ [Md.wideL (g, xs, cap, ())] = (m0_1.map Md.wideL).take (k + 1)) := Md.wides_take m0_1 hkl hE
      have HTL : Hid (((m0_1.map Md.wideL).take k).length + 1 = k + 1) := by show _ = _; rw [List.length_take, List.length_map]; omega
      have d0 := (hBw.cell (by exact hb)).trans c0
      have d1 := (hBw.cell (by exact hb)).trans c1
      have d2 := (hBw.cell (by exact hb)).trans c2
      have hbn := new_bel W0 (.cells #[.slice ag ng cg, .slice ax nx cx, .int .i64 cap] 37)
      have kL := Box.new W0 37 #[.slice ag ng cg, .slice ax nx cx, .int .i64 cap]
      have hBW := bel_then hBw hbn
      have hbelW := bel_then hbel hbn
      have kM := hM.keep hbn
      have ho2 := hown.keep hbn
      have hel : (inS lyS (· < w.heap.size)).rep (W0.alloc (.cells #[.slice ag ng cg, .slice ax nx cx, .int .i64 cap] 37)) (· < w.heap.size) [.slice ag ng cg, .slice ax nx cx, .int .i64 32] (Md.wideL (g, xs, cap, ())) := inS_of (ly_rep 32 (Shape.now (Shape.low hg) hBW) (Shape.now (Shape.low hx) hBW)) (fun b hb => hb)
      have hNe : some u3.heap.size ≠ Value.ownBlock (.slice va k vc) := fun h => by have := (hown.lt _ h.symm).1; omega
      clear hE hg hx c0 c1 c2 hM hown hbel hBw hbn
      go_upto_region 7 with fail
      clear d0 d1 d2
      generalize W0.alloc (.cells #[.slice ag ng cg, .slice ax nx cx, .int .i64 cap] 37) = X at *
      have src := ho2.esrc hel (fun b (hb : b < w.heap.size) h => by have := (ho2.lt _ h.symm).1; omega)
      have ho3 := ho2.keep (new_bel X (.cells #[.slice ag ng cg, .slice ax nx cx, .int .i64 32] 37))
      have kM2 := kM.keep (new_bel X (.cells #[.slice ag ng cg, .slice ax nx cx, .int .i64 32] 37))
      have hsm : ((m0_1.map Md.wideL).take k).length + 1 ≤ 100000 := by rw [HTL.out]; omega
      have hbs : ∀ o, u3.heap.size + 1 ≤ (X.alloc o).heap.size := fun o => by have := hbelW.size; simp; omega
      have y0 := kL.cell 0 rfl
      have y1 := kL.cell 1 rfl
      have x1 := kM.cell 1 rfl
      clear ho2 hel
      go_wp2_with (at_builtin; (refine wpList_appK (inS lyS (· < w.heap.size)) (by simp [Region.wanted]) (.tmp 45) (.tmp 51) 22 rfl (u3.heap.size + 1) 37 i0 _ 56 Try.underlying22 hi0 hi1 hi2 hi3 rfl (by show 0 < 3; omega) (by omega) (by rfl) ho3 (by rfl) src.1 src.2 hsm (hbs _) (k + 1) HTL.out _ HT1.out ?_; intro a6 c6 u6 ho6 hg6 hb6 hat6; have kb := kM2.grown hg6 hNe; have z1 := kb.cell 1 rfl; have f1 := kb.free 1))
      have HR6 : Hid _ := And.intro (kb.set1 (.slice a6 (k + 1) c6)) (And.intro (ho6.aside (grown_set u6 u3.heap.size 1 (.slice a6 (k + 1) c6)) (fun b (hb : b < w.heap.size) => by omega) (fun h => by have := (ho6.lt _ h).1; omega)) (bel_put (i := 1) ((bel_alloc hbelW (.cells #[.slice ag ng cg, .slice ax nx cx, .int .i64 32] 37)).trans (hb6.mono (by omega))) (Nat.le_refl u3.heap.size) (.slice a6 (k + 1) c6)))
      clear ho6 hg6 hb6 hat6 kb z1 f1 src ho3 kM2 kM kL y0 y1 x1 hbelW hBW
      go_roundw
      case rel => exact ⟨k + 1, a6, c6, by omega, by go_num, HR6.out.1, HR6.out.2.1, HR6.out.2.2⟩
      case measure => simp [intOf]; omega
    · have hkn : k = len0_1 := by omega
      subst hkn
      have hli : ¬ (k : Int) < (k : Int) := by omega
      rw [List.take_of_length_le (by rw [List.length_map]; have := HL.out; omega)] at hown
      have hlw := hown.plain
      have HRW : Hid (Md.Right a0_0 (m0_1.map Md.wideL)) := Md.wides_right HR.out
      have HC4 : Hid (Calls _ _ _ _ _) := mforward va k vc (m0_1.map Md.wideL) a0_0 a1 len1 cap1 m1 W0 hlw (Shape.below HT.out hBw) HRW.out HTR.out
      have x0 := hM.cell 0 rfl
      have x1 := hM.cell 1 rfl
      clear hown
      go_wp2_with fail
      refine HC4.out.mono ?_
      rintro e V4 ⟨hb4, ra, rc, rfl, hr4⟩
      have kM4 := hM.keep hb4
      have hB4 := bel_then hBw hb4
      have hlw4 := Shape.below hlw hb4
      have hrl := sliceS_len hr4
      have hrc : len1 ≤ rc := hrl.2.1
      have e0 : ((len1 : Int) != (len1 : Int)) = false := by simp
      have HRR : Hid (matS.rep V4 everywhere [.slice ra len1 rc] (Md.forward (m0_1.map Md.wideL) m1)) := hr4
      have HKM : Hid (Box V4 u3.heap.size 24 #[.int .i64 a0_0, .slice va k vc]) := kM4
      have HLW : Hid (lysS.rep V4 everywhere [.slice va k vc] (m0_1.map Md.wideL)) := hlw4
      have HB4 : Hid (Below w.heap.size w V4) := hB4
      clear HC4 hlw hM hb4 x0 x1 hBw hbel hr4 kM4 hB4 hlw4 hrl hsz0
      go_wp2
      go_loopw [72] (fun i wr => ∃ t : Nat, t ≤ len1 ∧ i = .int .i64 t ∧ Below V4.heap.size V4 wr) (fun i _ => len1 - (intOf i).toNat)
      case atStart => exact ⟨0, Nat.zero_le _, rfl, Below.refl _ _⟩
      case round =>
        obtain ⟨t, ht, rfl, hbel⟩ := hrel
        have hBw := bel_then HB4.out hbel
        by_cases htt : t < len1
        · obtain ⟨b1, o1, A, C, rfl, _, c0, hr⟩ := mat_at (Shape.below HT.out hBw) htt
          have hti : (t : Int) < (len1 : Int) := by omega
          have ht0 : (0 : Int) ≤ (t : Int) := by omega
          have htl : t < m1.length := by have := HLT.out; omega
          have HT1 : Hid (Md.TRight a0_0 [m1.getD t []]) := HTR.out.one htl
          have HFA : Hid (Md.forward (m0_1.map Md.wideL) [m1.getD t []] = [(Md.forward (m0_1.map Md.wideL) m1).getD t []]) := Md.forward_alone m0_1 htl (by have := HLT.out; omega)
          have hpc := rep_piece (Shape.below HRR.out hbel) htt
          have hE : ∀ u : World, (Instr.slice 25 (.slice ra len1 rc) (some (.int .i64 (t : Int))) (some (.int .i64 ((t : Int) + 1))) none).run Try.prog u = .ok (.slice (if rc = t then ra else ra.map (·.add (t * 1))) 1 (rc - t)) u := fun u => by
            rw [run_slice_lh u 25 ra len1 rc Try.underlying25 .i64 .i64 (t : Int) ((t : Int) + 1) (by omega) (by omega) (by omega)]
            simp [sizeOf, typeInfo, go_sem, hj0, hj2, sliced, show ((t : Int) + 1).toNat = t + 1 by omega]
          obtain ⟨D, hD⟩ : ∃ D, (if rc = t then ra else ra.map (·.add (t * 1))) = D := ⟨_, rfl⟩
          rw [hD] at hpc
          simp only [hD] at hE
          have hFs : Ex.Sized [(Md.forward (m0_1.map Md.wideL) m1).getD t []] := by
            rw [← HFA.out]
            exact Md.tright_sized (Md.forward_right HRW.out.2.2.2.2 HT1.out) HD.out
          generalize Md.forward (m0_1.map Md.wideL) m1 = Fm at *
          generalize m1.getD t [] = v at *
          have hbn := new_bel wr (.cells #[.slice A v.length C] 47)
          have HC5 : Hid (Calls _ _ _ _ _) := mforward va k vc (m0_1.map Md.wideL) a0_0 (some ⟨wr.heap.size, 0, none⟩) 1 1 [v] _ (Shape.below (Shape.below HLW.out hbel) hbn) (rows_one hr) HRW.out HT1.out
          have x0 := (HKM.out.keep hbel).cell 0 rfl
          have x1 := (HKM.out.keep hbel).cell 1 rfl
          clear hD hr
          go_wp2_with fail
          refine HC5.out.mono ?_
          rintro e V5 ⟨hb5, oa, oc, rfl, hr5⟩
          rw [HFA.out] at hr5
          have hd5 := bel_then hbn hb5
          have hbel5 := bel_then hbel hd5
          have HSM : Hid (Calls _ _ _ _ _) := msame oa D 1 oc (rc - t) _ V5 hr5 (Shape.below hpc hd5) hFs
          clear HC5 hbn hb5 hd5 x0 x1 hpc hr5 hFs c0 hbel hBw
          go_wp2_with (go_at_call 19; refine HSM.out.mono ?_; rintro e V6 ⟨rfl, hb6⟩)
          have hbel6 := bel_then hbel5 hb6
          go_roundw
          case rel => exact ⟨t + 1, by omega, by go_num, hbel6⟩
          case measure => simp [intOf]; omega
        · have hti : ¬ (t : Int) < (len1 : Int) := by omega
          go_wp2_with (go_at_call 11; refine (mawake _).mono ?_; rintro e u9 ⟨rfl, hb9⟩)
          go_ret
          exact ⟨rfl, bel_then hBw hb9⟩

/- From the walk to the row. -/
set_option maxRecDepth 100000 in
theorem lifted (os : Os) (started : os.Started) (H : Type) (enc : TypeId × Value → H) :
    ReturnsInHanded {} Try.checked os 8 .any (Rows.modelRoomSpec.pre6 enc Try.prog Try.f8 Rows.modelRoomRow.domain false) (Rows.modelRoomSpec.post enc Try.prog Try.f8 false true false false) := by
  refine returnsInHanded_of_change (C := Try.checked) own started (by kernel_rfl) Try.func8
    (ChangeSpec.witness6 (enc := enc) (C := Try.checked) false ⟨#[], #[.agg #[.int .i64 0, .slice none 0 0], .slice none 0 0], []⟩ 8 (by kernel_rfl) (by kernel_rfl) (by kernel_rfl) (by kernel_rfl)) ?_
  intro W base args ds gs before hval0 hW hcnd _
  have hval : ∀ (j : Nat) t v, Try.f8.params[j]? = some t → args[j]? = some v → Value.okWide Try.prog W .any base t v := hval0
  have hW' := hW
  obtain ⟨p, q, hA0, hV, rfl, hfz, hnd⟩ := hW
  have hA : DataW.TrodAll enc Try.prog W 0 (fun _ => true) true Try.f8.params.toList args.toList ds p := hA0
  rw [Try.params8] at hA hval
  obtain ⟨v0, vs0, d0, ds0, p0, q0, hargs, rfl, rfl, h0, r0⟩ := trodAll_cons hA
  obtain ⟨v1, vs1, d1, ds1, p1, q1, rfl, rfl, rfl, h1, r1⟩ := trodAll_cons r0
  obtain ⟨rfl, rfl, rfl⟩ := trodAll_nil r1
  obtain rfl : args = #[v0, v1] := by cases args; simp_all
  obtain ⟨rfl, rfl⟩ := trodVars_none hV
  obtain ⟨cs0, rfl⟩ := okWide_agg Try.underlying24 (hval 0 24 v0 rfl rfl)
  have k0 := h0
  have lt0 : ∀ x ∈ p0, x.block < W.heap.size := by obtain ⟨m, hm⟩ := k0; exact DataW.trod_lt m _ _ _ hm
  obtain ⟨y0, hy0, hw0⟩ : ∃ y, (consS (intS .i64) (consS (sliceS (consS (sliceS (sliceS (intS .i64))) (consS (sliceS (consS (sliceS (sliceS (intS .i64))) (consS (sliceS (sliceS (intS .i64))) noneS))) (consS (intS .i64) noneS)))) noneS)).rep W everywhere cs0 y ∧ ((Lit.int .i64 y.1).wf = true ∧ ((∀ x0 ∈ y.2.1, ((∀ x1 ∈ x0.1, (∀ x2 ∈ x1, (Lit.int .i64 x2).wf = true)) ∧ ((∀ x1 ∈ x0.2.1, ((∀ x2 ∈ x1.1, (∀ x3 ∈ x2, (Lit.int .i64 x3).wf = true)) ∧ ((∀ x2 ∈ x1.2.1, (∀ x3 ∈ x2, (Lit.int .i64 x3).wf = true)) ∧ True))) ∧ ((Lit.int .i64 x0.2.2.1).wf = true ∧ True)))) ∧ True)) := by
    obtain ⟨fuel, hf⟩ := h0
    exact (opens_struct Try.underlying24 (show Try.prog.cellsOf 24 = 2 by kernel_rfl) (opensAt_cons (A := (intS .i64)) rfl (show Try.prog.cellsOf 3 = 1 by kernel_rfl) (opens_int Try.underlying3) (opensAt_cons (A := (sliceS (consS (sliceS (sliceS (intS .i64))) (consS (sliceS (consS (sliceS (sliceS (intS .i64))) (consS (sliceS (sliceS (intS .i64))) noneS))) (consS (intS .i64) noneS))))) rfl (show Try.prog.cellsOf 22 = 1 by kernel_rfl) (opens_slice (A := (consS (sliceS (sliceS (intS .i64))) (consS (sliceS (consS (sliceS (sliceS (intS .i64))) (consS (sliceS (sliceS (intS .i64))) noneS))) (consS (intS .i64) noneS)))) Try.underlying22 (show Try.prog.cellsOf 37 = 3 by kernel_rfl) (by exact Nat.succ_pos _) (opens_struct Try.underlying37 (show Try.prog.cellsOf 37 = 3 by kernel_rfl) (opensAt_cons (A := (sliceS (sliceS (intS .i64)))) rfl (show Try.prog.cellsOf 25 = 1 by kernel_rfl) (opens_slice (A := (sliceS (intS .i64))) Try.underlying25 (show Try.prog.cellsOf 47 = 1 by kernel_rfl) (by exact Nat.succ_pos _) (opens_slice (A := (intS .i64)) Try.underlying47 (show Try.prog.cellsOf 3 = 1 by kernel_rfl) (by exact Nat.succ_pos _) (opens_int Try.underlying3))) (opensAt_cons (A := (sliceS (consS (sliceS (sliceS (intS .i64))) (consS (sliceS (sliceS (intS .i64))) noneS)))) rfl (show Try.prog.cellsOf 35 = 1 by kernel_rfl) (opens_slice (A := (consS (sliceS (sliceS (intS .i64))) (consS (sliceS (sliceS (intS .i64))) noneS))) Try.underlying35 (show Try.prog.cellsOf 46 = 2 by kernel_rfl) (by exact Nat.succ_pos _) (opens_struct Try.underlying46 (show Try.prog.cellsOf 46 = 2 by kernel_rfl) (opensAt_cons (A := (sliceS (sliceS (intS .i64)))) rfl (show Try.prog.cellsOf 25 = 1 by kernel_rfl) (opens_slice (A := (sliceS (intS .i64))) Try.underlying25 (show Try.prog.cellsOf 47 = 1 by kernel_rfl) (by exact Nat.succ_pos _) (opens_slice (A := (intS .i64)) Try.underlying47 (show Try.prog.cellsOf 3 = 1 by kernel_rfl) (by exact Nat.succ_pos _) (opens_int Try.underlying3))) (opensAt_cons (A := (sliceS (sliceS (intS .i64)))) rfl (show Try.prog.cellsOf 25 = 1 by kernel_rfl) (opens_slice (A := (sliceS (intS .i64))) Try.underlying25 (show Try.prog.cellsOf 47 = 1 by kernel_rfl) (by exact Nat.succ_pos _) (opens_slice (A := (intS .i64)) Try.underlying47 (show Try.prog.cellsOf 3 = 1 by kernel_rfl) (by exact Nat.succ_pos _) (opens_int Try.underlying3))) opensAt_nil (by rfl)) (by rfl)))) (opensAt_cons (A := (intS .i64)) rfl (show Try.prog.cellsOf 3 = 1 by kernel_rfl) (opens_int Try.underlying3) opensAt_nil (by rfl)) (by rfl)) (by rfl)))) opensAt_nil (by rfl)) (by rfl))) H enc W _ _ _ fuel _ _ (by simpa [Value.cells] using hf)
  obtain ⟨a0_0, m0_1, _⟩ := y0
  obtain ⟨d0_0, rfl, hy0_0⟩ := consS_int hy0
  obtain ⟨a0_1, len0_1, cap0_1, d0_1, rfl, w0_1, hy0_1⟩ := consS_slice hy0_0
  obtain rfl := noneS_nil hy0_1
  obtain ⟨w0_0, f0_1, _⟩ := hw0
  obtain ⟨a1, len1, cap1, rfl⟩ := okWide_slice Try.underlying25 (hval 1 25 v1 rfl rfl)
  have k1 := h1
  have lt1 : ∀ x ∈ p1, x.block < W.heap.size := by obtain ⟨m, hm⟩ := k1; exact DataW.trod_lt m _ _ _ hm
  obtain ⟨m1, w1, f1⟩ : ∃ y, (sliceS (sliceS (intS .i64))).rep W everywhere [.slice a1 len1 cap1] y ∧ (∀ x0 ∈ y, (∀ x1 ∈ x0, (Lit.int .i64 x1).wf = true)) := by
    obtain ⟨fuel, hf⟩ := h1
    exact (opens_slice (A := (sliceS (intS .i64))) Try.underlying25 (show Try.prog.cellsOf 47 = 1 by kernel_rfl) (by exact Nat.succ_pos _) (opens_slice (A := (intS .i64)) Try.underlying47 (show Try.prog.cellsOf 3 = 1 by kernel_rfl) (by exact Nat.succ_pos _) (opens_int Try.underlying3))) H enc W _ _ _ fuel _ _ hf
  clear hA0 hval0
  refine (walk a0_0 a0_1 len0_1 cap0_1 m0_1 a1 len1 cap1 m1 W w0_0 w0_1 f0_1 w1 f1).mono fun e W' ⟨he, bel⟩ => ?_
  subst he
  exact ⟨_, rfl, _, _, _, [], _, [], hW', trodAll_mk1 (shut_bool Try.underlying4 _), (trodAll_cons_mk (Below.trod laidOut (by kernel_rfl) (of_decide_eq_true (by kernel_rfl)) k0 bel lt0) (trodAll_cons_mk (Below.trod laidOut (by kernel_rfl) (of_decide_eq_true (by kernel_rfl)) k1 bel lt1) trodAll_mk0)), rfl, bel.frame _, fun h => by cases h⟩

theorem over : Rows.modelRoomRow.holds Try.pinned (OpenSpec.ofChange Rows.modelRoomSpec) :=
  OpenClaim.holds_of_wide 8 Try.f8 rfl rfl rfl rfl rfl rfl rfl ⟨rfl, rfl, rfl, rfl, rfl⟩ rfl rfl rfl rfl rfl (by kernel_rfl) Try.func8 (by kernel_rfl)
    (of_decide_eq_true (by kernel_rfl)) (by unfold Func.isWrapper; first | (rw [if_pos (by decide +kernel)]; kernel_rfl) | (rw [if_neg (by decide +kernel)]; exact ⟨rfl, rfl⟩))
    (fun os started H enc _ => lifted os started H enc)

end Go.Proofs.Ytmechoeoaadfeaa.modelRoom

namespace Go.Proofs.Ytmechoeoaadfeaa
theorem modelRoom_holds : Rows.ModelRoomSaid := modelRoom.over
end Go.Proofs.Ytmechoeoaadfeaa
