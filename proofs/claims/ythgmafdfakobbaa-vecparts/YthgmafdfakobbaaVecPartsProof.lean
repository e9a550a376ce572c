/- For all rows of int32 a, b, c and d the law VecParts returns true: of little numbers Dot of two rows put together is both, added, and so it is with Add, side by side; no condition. -/
import Derived.Test.YthgmafdfakobbaaRows
import Derived.Test.YthgmafdfakobbaaVp
import Derived.WalkKit
import Derived.ProofKit
import Derived.OpenShut
import Derived.ShutString
import Derived.ChangeOld
import Derived.Below
namespace Go.Proofs.Ythgmafdfakobbaa.vecParts
open Go.ChangeShapes Go.WideShapes Go.ChangeAt Go.RowKit
open Go.ChangeMaps (open_string shut_string)
set_option linter.unusedVariables false

theorem own : ownKnob Try.prog.godebug = none := by kernel_rfl
theorem laidOut : laidOutB Try.prog = true := by kernel_rfl

/- The walk: the call returns true, and nothing that was there is written. -/
theorem walk (a0 : Option Addr) (len0 cap0 : Nat) (z0 : List Int) (a1 : Option Addr) (len1 cap1 : Nat) (z1 : List Int) (a2 : Option Addr) (len2 cap2 : Nat) (z2 : List Int) (a3 : Option Addr) (len3 cap3 : Nat) (z3 : List Int) (w : World) (w0 : IsRow .i32 w a0 len0 cap0 z0) (w1 : IsRow .i32 w a1 len1 cap1 z1) (w2 : IsRow .i32 w a2 len2 cap2 z2) (w3 : IsRow .i32 w a3 len3 cap3 z3) :
    Calls Try.prog 7 #[.slice a0 len0 cap0, .slice a1 len1 cap1, .slice a2 len2 cap2, .slice a3 len3 cap3] w fun e w' => e = .returned (.bool true) ∧ Below w.heap.size w w' := by
  have ha := Row.of_is w0
  have hb := Row.of_is w1
  have hc := Row.of_is w2
  have hd := Row.of_is w3
  have f0 := wf_of_is w0
  have f1 := wf_of_is w1
  have f2 := wf_of_is w2
  have f3 := wf_of_is w3
  generalize z0.take len0 = l0 at *
  generalize z1.take len1 = l1 at *
  generalize z2.take len2 = l2 at *
  generalize z3.take len3 = l3 at *
  clear w0 w1 w2 w3
  by_cases k1 : len0 = len1
  case neg =>
    have g1 : ((len0 : Int) != (len1 : Int)) = true := by rw [bne_iff_ne]; omega
    go_enter Try.func7, Try.ntmps7
    go_wp2_with fail
    refine (vawake _).mono ?_
    rintro e w1 ⟨rfl, hb1⟩
    go_wp2
    go_ret
    exact ⟨rfl, hb1⟩
  subst k1
  have g1 : ((len0 : Int) != (len0 : Int)) = false := by simp
  by_cases k2 : len2 = len3
  case neg =>
    have g2 : ((len2 : Int) != (len3 : Int)) = true := by rw [bne_iff_ne]; omega
    go_enter Try.func7, Try.ntmps7
    go_wp2_with fail
    refine (vawake _).mono ?_
    rintro e w1 ⟨rfl, hb1⟩
    go_wp2
    go_ret
    exact ⟨rfl, hb1⟩
  subst k2
  have g2 : ((len2 : Int) != (len2 : Int)) = false := by simp
  by_cases k3 : 8 < len0
  · skip
    have g3 : (8 : Int) < (len0 : Int) := by omega
    go_enter Try.func7, Try.ntmps7
    go_wp2_with fail
    refine (vawake _).mono ?_
    rintro e w1 ⟨rfl, hb1⟩
    go_wp2
    go_ret
    exact ⟨rfl, hb1⟩
  have g3 : ¬ (8 : Int) < (len0 : Int) := by omega
  by_cases k4 : 8 < len2
  · skip
    have g4 : (8 : Int) < (len2 : Int) := by omega
    go_enter Try.func7, Try.ntmps7
    go_wp2_with fail
    refine (vawake _).mono ?_
    rintro e w1 ⟨rfl, hb1⟩
    go_wp2
    go_ret
    exact ⟨rfl, hb1⟩
  have g4 : ¬ (8 : Int) < (len2 : Int) := by omega
  have hn : len0 ≤ 100000 := by omega
  have hm : len2 ≤ 100000 := by omega
  obtain ⟨i0, hi0, hz0, hz1, hz2⟩ := info_parts Try.infoInt
  go_enter Try.func7, Try.ntmps7
  go_wp2_with fail
  refine (little _ len0 _ l0 _ ha f0 hn).mono ?_
  rintro e w1 ⟨s0, c0, rfl, hw, hb1⟩
  have a_1 := ha.keep hb1
  have b_1 := hb.keep hb1
  have c_1 := hc.keep hb1
  have d_1 := hd.keep hb1
  have hB1 := hb1
  clear ha hb hc hd hb1
  clear a_1
  go_wp2_with fail
  refine (little _ len0 _ l1 _ b_1 f1 hn).mono ?_
  rintro e w2 ⟨s1, c1, rfl, hx, hb2⟩
  have b_2 := b_1.keep hb2
  have c_2 := c_1.keep hb2
  have d_2 := d_1.keep hb2
  have w_2 := hw.keep hb2
  have hB2 := bel_then hB1 hb2
  clear b_1 c_1 d_1 hw hB1 hb2
  clear b_2
  go_wp2_with fail
  refine (little _ len2 _ l2 _ c_2 f2 hm).mono ?_
  rintro e w3 ⟨s2, c2, rfl, hy, hb3⟩
  have c_3 := c_2.keep hb3
  have d_3 := d_2.keep hb3
  have w_3 := w_2.keep hb3
  have x_3 := hx.keep hb3
  have hB3 := bel_then hB2 hb3
  clear c_2 d_2 w_2 hx hB2 hb3
  clear c_3
  go_wp2_with fail
  refine (little _ len2 _ l3 _ d_3 f3 hm).mono ?_
  rintro e w4 ⟨s3, c3, rfl, hz, hb4⟩
  have d_4 := d_3.keep hb4
  have w_4 := w_3.keep hb4
  have x_4 := x_3.keep hb4
  have y_4 := hy.keep hb4
  have hB4 := bel_then hB3 hb4
  clear d_3 w_3 x_3 hy hB3 hb4
  clear d_4
  have t0 := Vx.little_little l0
  generalize Vx.little l0 = L0 at *
  have t1 := Vx.little_little l1
  generalize Vx.little l1 = L1 at *
  have t2 := Vx.little_little l2
  generalize Vx.little l2 = L2 at *
  have t3 := Vx.little_little l3
  generalize Vx.little l3 = L3 at *
  have q0 := w_4.len; have q1 := x_4.len; have q2 := y_4.len; have q3 := hz.len
  obtain ⟨p1, p2, p3, p4, p5⟩ := Vx.dot_parts L0 L1 L2 L3 t0 t1 t2 t3 (by omega) (by omega) (by omega)
  have p6 := Vx.add_append L0 L1 L2 L3 (by omega)
  have P1 : Hid (Vx.dot (L0 ++ L2) (L1 ++ L3) = Vx.dot L0 L1 + Vx.dot L2 L3) := p1
  have P6 : Hid (Vx.add (L0 ++ L2) (L1 ++ L3) = Vx.add L0 L1 ++ Vx.add L2 L3) := p6
  have e9 : (Vx.dot L0 L1 + Vx.dot L2 L3 == Vx.dot L0 L1 + Vx.dot L2 L3) = true := by simp
  clear p1 p6 q0 q1 q2 q3 t0 t1 t2 t3
  go_wp2_with fail
  refine (vdot _ _ len0 _ _ L0 L1 _ w_4 x_4 hn).mono ?_
  rintro e w5 ⟨rfl, hb5⟩
  have w_5 := w_4.keep hb5
  have x_5 := x_4.keep hb5
  have y_5 := y_4.keep hb5
  have z_5 := hz.keep hb5
  have hB5 := bel_then hB4 hb5
  clear w_4 x_4 y_4 hz hB4 hb5
  go_wp2_with fail
  refine (vdot _ _ len2 _ _ L2 L3 _ y_5 z_5 hm).mono ?_
  rintro e w6 ⟨rfl, hb6⟩
  have w_6 := w_5.keep hb6
  have x_6 := x_5.keep hb6
  have y_6 := y_5.keep hb6
  have z_6 := z_5.keep hb6
  have hB6 := bel_then hB5 hb6
  clear w_5 x_5 y_5 z_5 hB5 hb6
  go_wp2_with (first
    | (at_builtin; refine wpList_append_rows (by simp [Region.wanted]) (.tmp 69) (.tmp 70) 22 rfl w6.heap.size 3 i0 Try.underlying22 hi0 hz0 hz1 hz2 _ 0 [] (by rfl) (own_empty w6) _ len0 _ L0 (by rfl) (w_6.keep (new_below w6 _)) (by omega) (by simp) ?_; intro aMa1 cMa1 WMa1 oMa1 rMa1 bMa1; have kMa1 : Below w6.heap.size w6 WMa1 := (new_below w6 _).trans bMa1; clear rMa1 bMa1; simp only [Nat.zero_add, List.nil_append] at oMa1 ⊢)
    | (at_builtin; refine wpList_append_rows (by simp [Region.wanted]) (.tmp 71) (.tmp 72) 22 rfl w6.heap.size 3 i0 Try.underlying22 hi0 hz0 hz1 hz2 _ len0 L0 (by rfl) oMa1 _ len2 _ L2 (by rfl) (y_6.keep kMa1) (by omega) kMa1.size ?_; intro aMa2 cMa2 WMa2 oMa2 rMa2 bMa2; have kMa2 : Below w6.heap.size w6 WMa2 := kMa1.trans bMa2; clear oMa1 oMa2 bMa2 kMa1; have wM := w_6.keep kMa2; have xM := x_6.keep kMa2; have yM := y_6.keep kMa2; have zM := z_6.keep kMa2)
    | (at_builtin; refine wpList_append_rows (by simp [Region.wanted]) (.tmp 74) (.tmp 75) 22 rfl WMa2.heap.size 3 i0 Try.underlying22 hi0 hz0 hz1 hz2 _ 0 [] (by rfl) (own_empty WMa2) _ len0 _ L1 (by rfl) (xM.keep (new_below WMa2 _)) (by omega) (by simp) ?_; intro aMb1 cMb1 WMb1 oMb1 rMb1 bMb1; have kMb1 : Below WMa2.heap.size WMa2 WMb1 := (new_below WMa2 _).trans bMb1; clear rMb1 bMb1; simp only [Nat.zero_add, List.nil_append] at oMb1 ⊢)
    | (at_builtin; refine wpList_append_rows (by simp [Region.wanted]) (.tmp 76) (.tmp 77) 22 rfl WMa2.heap.size 3 i0 Try.underlying22 hi0 hz0 hz1 hz2 _ len0 L1 (by rfl) oMb1 _ len2 _ L3 (by rfl) (zM.keep kMb1) (by omega) kMb1.size ?_; intro aMb2 cMb2 WMb2 oMb2 rMb2 bMb2; have kMb2 : Below WMa2.heap.size WMa2 WMb2 := kMb1.trans bMb2; clear oMb1 oMb2 bMb2 kMb1; have uM := rMa2.keep kMb2)
    | fail)
  clear w_6 x_6 y_6 z_6
  have hBM0 := bel_then hB6 kMa2
  clear hB6 kMa2 rMa2
  have w_M := wM.keep kMb2
  have x_M := xM.keep kMb2
  have y_M := yM.keep kMb2
  have z_M := zM.keep kMb2
  have hBM := bel_then hBM0 kMb2
  clear wM xM yM zM hBM0 kMb2
  refine (vdot _ _ (len0 + len2) _ _ (L0 ++ L2) (L1 ++ L3) _ uM rMb2 (by omega)).mono ?_
  rintro e w7 ⟨rfl, hb7⟩
  have w_7 := w_M.keep hb7
  have x_7 := x_M.keep hb7
  have y_7 := y_M.keep hb7
  have z_7 := z_M.keep hb7
  have p_7 := uM.keep hb7
  have q_7 := rMb2.keep hb7
  have hB7 := bel_then hBM hb7
  clear w_M x_M y_M z_M uM rMb2 hBM hb7
  clear p_7 q_7
  rw [P1.out]
  go_wp2_with fail
  refine (vadd _ _ len0 _ _ L0 L1 _ w_7 x_7 hn).mono ?_
  rintro e w8 ⟨s4, c4, rfl, hs, hb8⟩
  have w_8 := w_7.keep hb8
  have x_8 := x_7.keep hb8
  have y_8 := y_7.keep hb8
  have z_8 := z_7.keep hb8
  have hB8 := bel_then hB7 hb8
  clear w_7 x_7 y_7 z_7 hB7 hb8
  go_wp2_with fail
  refine (vadd _ _ len2 _ _ L2 L3 _ y_8 z_8 hm).mono ?_
  rintro e w9 ⟨s5, c5, rfl, ht, hb9⟩
  have w_9 := w_8.keep hb9
  have x_9 := x_8.keep hb9
  have y_9 := y_8.keep hb9
  have z_9 := z_8.keep hb9
  have s_9 := hs.keep hb9
  have hB9 := bel_then hB8 hb9
  clear w_8 x_8 y_8 z_8 hs hB8 hb9
  go_wp2_with (first
    | (at_builtin; refine wpList_append_rows (by simp [Region.wanted]) (.tmp 95) (.tmp 96) 22 rfl w9.heap.size 3 i0 Try.underlying22 hi0 hz0 hz1 hz2 _ 0 [] (by rfl) (own_empty w9) _ len0 _ L0 (by rfl) (w_9.keep (new_below w9 _)) (by omega) (by simp) ?_; intro aNa1 cNa1 WNa1 oNa1 rNa1 bNa1; have kNa1 : Below w9.heap.size w9 WNa1 := (new_below w9 _).trans bNa1; clear rNa1 bNa1; simp only [Nat.zero_add, List.nil_append] at oNa1 ⊢)
    | (at_builtin; refine wpList_append_rows (by simp [Region.wanted]) (.tmp 97) (.tmp 98) 22 rfl w9.heap.size 3 i0 Try.underlying22 hi0 hz0 hz1 hz2 _ len0 L0 (by rfl) oNa1 _ len2 _ L2 (by rfl) (y_9.keep kNa1) (by omega) kNa1.size ?_; intro aNa2 cNa2 WNa2 oNa2 rNa2 bNa2; have kNa2 : Below w9.heap.size w9 WNa2 := kNa1.trans bNa2; clear oNa1 oNa2 bNa2 kNa1; have wN := w_9.keep kNa2; have xN := x_9.keep kNa2; have yN := y_9.keep kNa2; have zN := z_9.keep kNa2; have sN := s_9.keep kNa2; have tN := ht.keep kNa2)
    | (at_builtin; refine wpList_append_rows (by simp [Region.wanted]) (.tmp 100) (.tmp 101) 22 rfl WNa2.heap.size 3 i0 Try.underlying22 hi0 hz0 hz1 hz2 _ 0 [] (by rfl) (own_empty WNa2) _ len0 _ L1 (by rfl) (xN.keep (new_below WNa2 _)) (by omega) (by simp) ?_; intro aNb1 cNb1 WNb1 oNb1 rNb1 bNb1; have kNb1 : Below WNa2.heap.size WNa2 WNb1 := (new_below WNa2 _).trans bNb1; clear rNb1 bNb1; simp only [Nat.zero_add, List.nil_append] at oNb1 ⊢)
    | (at_builtin; refine wpList_append_rows (by simp [Region.wanted]) (.tmp 102) (.tmp 103) 22 rfl WNa2.heap.size 3 i0 Try.underlying22 hi0 hz0 hz1 hz2 _ len0 L1 (by rfl) oNb1 _ len2 _ L3 (by rfl) (zN.keep kNb1) (by omega) kNb1.size ?_; intro aNb2 cNb2 WNb2 oNb2 rNb2 bNb2; have kNb2 : Below WNa2.heap.size WNa2 WNb2 := kNb1.trans bNb2; clear oNb1 oNb2 bNb2 kNb1; have uN := rNa2.keep kNb2)
    | fail)
  clear w_9 x_9 y_9 z_9 s_9 ht
  have hBN0 := bel_then hB9 kNa2
  clear hB9 kNa2 rNa2
  have w_N := wN.keep kNb2
  have x_N := xN.keep kNb2
  have y_N := yN.keep kNb2
  have z_N := zN.keep kNb2
  have s_N := sN.keep kNb2
  have t_N := tN.keep kNb2
  have hBN := bel_then hBN0 kNb2
  clear wN xN yN zN sN tN hBN0 kNb2
  refine (vadd _ _ (len0 + len2) _ _ (L0 ++ L2) (L1 ++ L3) _ uN rNb2 (by omega)).mono ?_
  rintro e w10 ⟨s6, c6, rfl, hu, hb10⟩
  have w_10 := w_N.keep hb10
  have x_10 := x_N.keep hb10
  have y_10 := y_N.keep hb10
  have z_10 := z_N.keep hb10
  have s_10 := s_N.keep hb10
  have t_10 := t_N.keep hb10
  have p_10 := uN.keep hb10
  have q_10 := rNb2.keep hb10
  have hB10 := bel_then hBN hb10
  clear w_N x_N y_N z_N s_N t_N uN rNb2 hBN hb10
  clear p_10 q_10 w_10 x_10 y_10 z_10
  rw [P6.out] at hu
  go_wp2_with (first
    | (at_builtin; refine wpList_append_rows (by simp [Region.wanted, go_sem]) (.tmp 124) (.tmp 125) 22 rfl w10.heap.size 3 i0 Try.underlying22 hi0 hz0 hz1 hz2 _ 0 [] (by rfl) (own_empty w10) _ len0 _ (Vx.add L0 L1) (by rfl) (s_10.keep (new_below w10 _)) (by omega) (by simp) ?_; intro aO1 cO1 WO1 oO1 rO1 bO1; have kO1 : Below w10.heap.size w10 WO1 := (new_below w10 _).trans bO1; clear rO1 bO1; simp only [Nat.zero_add, List.nil_append] at oO1 ⊢)
    | (at_builtin; refine wpList_append_rows (by simp [Region.wanted, go_sem]) (.tmp 126) (.tmp 127) 22 rfl w10.heap.size 3 i0 Try.underlying22 hi0 hz0 hz1 hz2 _ len0 (Vx.add L0 L1) (by rfl) oO1 _ len2 _ (Vx.add L2 L3) (by rfl) (t_10.keep kO1) (by omega) kO1.size ?_; intro aO2 cO2 WO2 oO2 rO2 bO2; have kO2 : Below w10.heap.size w10 WO2 := kO1.trans bO2; clear oO1 oO2 bO2 kO1; have uO := hu.keep kO2)
    | fail)
  have hBO := bel_then hB10 kO2
  clear hu s_10 t_10 hB10 kO2
  refine (same_true _ _ (len0 + len2) _ _ _ _ uO rO2 (by omega)).mono ?_
  rintro e w11 ⟨rfl, hb11⟩
  have hB11 := bel_then hBO hb11
  clear hBO hb11 uO rO2
  go_wp2_with fail
  refine (vawake _).mono ?_
  rintro e w12 ⟨rfl, hb12⟩
  have hB12 := bel_then hB11 hb12
  clear hB11 hb12
  go_wp2
  go_ret
  exact ⟨rfl, hB12⟩

/- From the walk to the row. -/
set_option maxRecDepth 100000 in
theorem lifted (os : Os) (started : os.Started) (H : Type) (enc : TypeId × Value → H) :
    ReturnsInHanded {} Try.checked os 7 .any (Rows.vecPartsSpec.pre6 enc Try.prog Try.f7 Rows.vecPartsRow.domain false) (Rows.vecPartsSpec.post enc Try.prog Try.f7 false true false false) := by
  refine returnsInHanded_of_change (C := Try.checked) own started (by kernel_rfl) Try.func7
    (ChangeSpec.witness6 (enc := enc) (C := Try.checked) false ⟨#[], #[.slice none 0 0, .slice none 0 0, .slice none 0 0, .slice none 0 0], []⟩ 8 (by kernel_rfl) (by kernel_rfl) (by kernel_rfl) (by kernel_rfl)) ?_
  intro W base args ds gs before hval0 hW hcnd _
  have hval : ∀ (j : Nat) t v, Try.f7.params[j]? = some t → args[j]? = some v → Value.okWide Try.prog W .any base t v := hval0
  have hW' := hW
  obtain ⟨p, q, hA0, hV, rfl, hfz, hnd⟩ := hW
  have hA : DataW.TrodAll enc Try.prog W 0 (fun _ => true) true Try.f7.params.toList args.toList ds p := hA0
  rw [Try.params7] at hA hval
  obtain ⟨v0, vs0, d0, ds0, p0, q0, hargs, rfl, rfl, h0, r0⟩ := trodAll_cons hA
  obtain ⟨v1, vs1, d1, ds1, p1, q1, rfl, rfl, rfl, h1, r1⟩ := trodAll_cons r0
  obtain ⟨v2, vs2, d2, ds2, p2, q2, rfl, rfl, rfl, h2, r2⟩ := trodAll_cons r1
  obtain ⟨v3, vs3, d3, ds3, p3, q3, rfl, rfl, rfl, h3, r3⟩ := trodAll_cons r2
  obtain ⟨rfl, rfl, rfl⟩ := trodAll_nil r3
  obtain rfl : args = #[v0, v1, v2, v3] := by cases args; simp_all
  obtain ⟨rfl, rfl⟩ := trodVars_none hV
  obtain ⟨a0, len0, cap0, rfl⟩ := okWide_slice Try.underlying36 (hval 0 36 v0 rfl rfl)
  have k0 := h0
  have lt0 : ∀ x ∈ p0, x.block < W.heap.size := by obtain ⟨m, hm⟩ := k0; exact DataW.trod_lt m _ _ _ hm
  obtain ⟨z0, w0⟩ : ∃ zs, IsRow .i32 W a0 len0 cap0 zs := by
    obtain ⟨fuel, hf⟩ := h0
    rcases open_ints Try.underlying36 Try.underlying21 (by kernel_rfl) hf with ⟨hcs, _⟩ | ⟨x, l, c, zs, hcs, _, hl, hm, hz, _, hcell, hwz⟩
    · simp [Value.cells] at hcs
      obtain ⟨rfl, rfl, rfl⟩ := hcs
      exact ⟨[], .inl ⟨rfl, rfl, rfl, rfl⟩⟩
    · simp [Value.cells] at hcs
      obtain ⟨rfl, rfl, rfl⟩ := hcs
      exact ⟨zs, .inr ⟨_, rfl, hl, hm, by simpa using hz, hcell, hwz⟩⟩
  obtain ⟨a1, len1, cap1, rfl⟩ := okWide_slice Try.underlying36 (hval 1 36 v1 rfl rfl)
  have k1 := h1
  have lt1 : ∀ x ∈ p1, x.block < W.heap.size := by obtain ⟨m, hm⟩ := k1; exact DataW.trod_lt m _ _ _ hm
  obtain ⟨z1, w1⟩ : ∃ zs, IsRow .i32 W a1 len1 cap1 zs := by
    obtain ⟨fuel, hf⟩ := h1
    rcases open_ints Try.underlying36 Try.underlying21 (by kernel_rfl) hf with ⟨hcs, _⟩ | ⟨x, l, c, zs, hcs, _, hl, hm, hz, _, hcell, hwz⟩
    · simp [Value.cells] at hcs
      obtain ⟨rfl, rfl, rfl⟩ := hcs
      exact ⟨[], .inl ⟨rfl, rfl, rfl, rfl⟩⟩
    · simp [Value.cells] at hcs
      obtain ⟨rfl, rfl, rfl⟩ := hcs
      exact ⟨zs, .inr ⟨_, rfl, hl, hm, by simpa using hz, hcell, hwz⟩⟩
  obtain ⟨a2, len2, cap2, rfl⟩ := okWide_slice Try.underlying36 (hval 2 36 v2 rfl rfl)
  have k2 := h2
  have lt2 : ∀ x ∈ p2, x.block < W.heap.size := by obtain ⟨m, hm⟩ := k2; exact DataW.trod_lt m _ _ _ hm
  obtain ⟨z2, w2⟩ : ∃ zs, IsRow .i32 W a2 len2 cap2 zs := by
    obtain ⟨fuel, hf⟩ := h2
    rcases open_ints Try.underlying36 Try.underlying21 (by kernel_rfl) hf with ⟨hcs, _⟩ | ⟨x, l, c, zs, hcs, _, hl, hm, hz, _, hcell, hwz⟩
    · simp [Value.cells] at hcs
      obtain ⟨rfl, rfl, rfl⟩ := hcs
      exact ⟨[], .inl ⟨rfl, rfl, rfl, rfl⟩⟩
    · simp [Value.cells] at hcs
      obtain ⟨rfl, rfl, rfl⟩ := hcs
      exact ⟨zs, .inr ⟨_, rfl, hl, hm, by simpa using hz, hcell, hwz⟩⟩
  obtain ⟨a3, len3, cap3, rfl⟩ := okWide_slice Try.underlying36 (hval 3 36 v3 rfl rfl)
  have k3 := h3
  have lt3 : ∀ x ∈ p3, x.block < W.heap.size := by obtain ⟨m, hm⟩ := k3; exact DataW.trod_lt m _ _ _ hm
  obtain ⟨z3, w3⟩ : ∃ zs, IsRow .i32 W a3 len3 cap3 zs := by
    obtain ⟨fuel, hf⟩ := h3
    rcases open_ints Try.underlying36 Try.underlying21 (by kernel_rfl) hf with ⟨hcs, _⟩ | ⟨x, l, c, zs, hcs, _, hl, hm, hz, _, hcell, hwz⟩
    · simp [Value.cells] at hcs
      obtain ⟨rfl, rfl, rfl⟩ := hcs
      exact ⟨[], .inl ⟨rfl, rfl, rfl, rfl⟩⟩
    · simp [Value.cells] at hcs
      obtain ⟨rfl, rfl, rfl⟩ := hcs
      exact ⟨zs, .inr ⟨_, rfl, hl, hm, by simpa using hz, hcell, hwz⟩⟩
  clear hA0 hval0
  refine (walk a0 len0 cap0 z0 a1 len1 cap1 z1 a2 len2 cap2 z2 a3 len3 cap3 z3 W w0 w1 w2 w3).mono fun e W' ⟨he, bel⟩ => ?_
  subst he
  exact ⟨_, rfl, _, _, _, [], _, [], hW', trodAll_mk1 (shut_bool Try.underlying4 _), (trodAll_cons_mk (Below.trod laidOut (by kernel_rfl) (of_decide_eq_true (by kernel_rfl)) k0 bel lt0) (trodAll_cons_mk (Below.trod laidOut (by kernel_rfl) (of_decide_eq_true (by kernel_rfl)) k1 bel lt1) (trodAll_cons_mk (Below.trod laidOut (by kernel_rfl) (of_decide_eq_true (by kernel_rfl)) k2 bel lt2) (trodAll_cons_mk (Below.trod laidOut (by kernel_rfl) (of_decide_eq_true (by kernel_rfl)) k3 bel lt3) trodAll_mk0)))), rfl, bel.frame _, fun h => by cases h⟩

theorem over : Rows.vecPartsRow.holds Try.pinned (OpenSpec.ofChange Rows.vecPartsSpec) :=
  OpenClaim.holds_of_wide 7 Try.f7 rfl rfl rfl rfl rfl rfl rfl ⟨rfl, rfl, rfl, rfl, rfl⟩ rfl rfl rfl rfl rfl (by kernel_rfl) Try.func7 (by kernel_rfl)
    (of_decide_eq_true (by kernel_rfl)) (by unfold Func.isWrapper; first | (rw [if_pos (by decide +kernel)]; kernel_rfl) | (rw [if_neg (by decide +kernel)]; exact ⟨rfl, rfl⟩))
    (fun os started H enc _ => lifted os started H enc)

end Go.Proofs.Ythgmafdfakobbaa.vecParts

namespace Go.Proofs.Ythgmafdfakobbaa
theorem vecParts_holds : Rows.VecPartsSaid := vecParts.over
end Go.Proofs.Ythgmafdfakobbaa
