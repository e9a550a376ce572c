/- ShellLost, with letters. -/
import Derived.Test.YtokfcjgfpchffaaGreatDoorShK
import Derived.Test.YtokfcjgfpchffaaGreatDoorKd
namespace Go.Proofs.YtokfcjgfpchffaaGreatDoor
open Go.ChangeShapes Go.WideShapes Go.ChangeAt Go.RowKit



set_option maxRecDepth 100000 in
set_option maxHeartbeats 8000000 in
theorem llost (n : Int) (hn : (Lit.int .u8 n).wf = true) (w : World) (hE : Env w) : Calls Tryz.prog 8 #[.int .u8 n] w fun e w' => e = .returned (.bool true) ∧ Below w.heap.size w w' := by
  have HAW : Hid (∀ u, Below w.heap.size w u → Calls Tryz.prog 10 #[] u _) := fun u hu => lawake u (hE.keep hu)
  have HE := hid hE
  clear hE
  have hn0 : 0 ≤ n ∧ n ≤ 255 := by simpa [Lit.wf, IntKind.min, IntKind.max, IntKind.signed, IntKind.bits] using hn
  clear hn
  go_enter Tryz.func8, Tryz.ntmps8
  go_wp2
  go_loopw [3, 14] (fun v i wr => ∃ (k : Nat) (T : ByteArray) (L : List (List UInt8)), k ≤ 8 ∧ v = .string T ∧ i = .int .i64 k ∧ Hid (T = ⟨(Sc.text L).toArray⟩ ∧ Sc.Loses L ∧ T.size ≤ 32 * k) ∧ wr = w) (fun _ i _ => 8 - (intOf i).toNat)
  case atStart => exact ⟨0, _, [], by omega, rfl, rfl, ⟨(by rfl), Sc.Loses.nil, Nat.le_refl _⟩, rfl⟩
  case round =>
    obtain ⟨k, T, L, hk, rfl, rfl, HT, hww⟩ := hrel
    replace hww := hww.symm
    subst hww
    have zT := HT.out.2.2
    by_cases hlt : k < 8
    · have hli : (k : Int) < 8 := by omega
      have hz0 : (0 : Int) ≤ (k : Int) := by omega
      have s1 : ¬ (9223372036854775807 < T.size + 7) := by omega
      have s2 : ¬ (9223372036854775807 < T.size + 32) := by omega
      have HL := hid HT.out.2.1
      have HZ : Hid (T.size ≤ 32 * k) := zT
      have HTT : Hid (T = ⟨(Sc.text L).toArray⟩) := HT.out.1
      clear zT HT
      by_cases hb : (bits BinOp.and IntKind.u8 (n / 2 ^ k) 1 == 0) = true
      · obtain ⟨R, hR⟩ : ∃ R : ByteArray, T ++ (⟨#[100, 114, 111, 112, 32, 48, 10]⟩ : ByteArray) = R := ⟨_, rfl⟩
        have HR : Hid (R = ⟨(Sc.text (L ++ List.replicate 1 Sc.drop0)).toArray⟩ ∧ Sc.Loses (L ++ List.replicate 1 Sc.drop0) ∧ R.size ≤ 32 * (k + 1)) := by
          refine ⟨?_, HL.out.one, ?_⟩
          · rw [← hR, HTT.out, Sc.text_app]
            exact bcat _ [100, 114, 111, 112, 32, 48, 10]
          · rw [← hR, ByteArray.size_append]
            have h9 := HZ.out
            show T.size + 7 ≤ _
            omega
        go_wp2
        go_roundw
        case rel => exact ⟨k + 1, R, _, by omega, rfl, by go_num, HR, by trivial⟩
        case measure => first | (simp [intOf]; done) | (simp [intOf]; omega)
      · replace hb := Bool.eq_false_iff.2 hb
        obtain ⟨R, hR⟩ : ∃ R : ByteArray, T ++ (⟨#[100, 114, 111, 112, 32, 48, 10, 100, 114, 111, 112, 32, 48, 10, 100, 114, 111, 112, 32, 48, 10, 100, 114, 111, 112, 32, 48, 10, 97, 115, 107, 10]⟩ : ByteArray) = R := ⟨_, rfl⟩
        have HR : Hid (R = ⟨(Sc.text (L ++ (List.replicate 4 Sc.drop0 ++ [Sc.askW]))).toArray⟩ ∧ Sc.Loses (L ++ (List.replicate 4 Sc.drop0 ++ [Sc.askW])) ∧ R.size ≤ 32 * (k + 1)) := by
          refine ⟨?_, HL.out.all, ?_⟩
          · rw [← hR, HTT.out, Sc.text_app]
            exact bcat _ [100, 114, 111, 112, 32, 48, 10, 100, 114, 111, 112, 32, 48, 10, 100, 114, 111, 112, 32, 48, 10, 100, 114, 111, 112, 32, 48, 10, 97, 115, 107, 10]
          · rw [← hR, ByteArray.size_append]
            have h9 := HZ.out
            show T.size + 32 ≤ _
            omega
        go_wp2
        go_roundw
        case rel => exact ⟨k + 1, R, _, by omega, rfl, by go_num, HR, by trivial⟩
        case measure => first | (simp [intOf]; done) | (simp [intOf]; omega)
    · have hk8 : k = 8 := by omega
      subst hk8
      have hli : ¬ (8 : Int) < 8 := by omega
      obtain ⟨X, hX⟩ : ∃ X : ByteArray, T ++ (⟨#[100, 114, 111, 112, 32, 48, 10, 100, 114, 111, 112, 32, 48, 10, 100, 114, 111, 112, 32, 48, 10, 100, 114, 111, 112, 32, 48, 10]⟩ : ByteArray) = X := ⟨_, rfl⟩
      obtain ⟨Y, hY⟩ : ∃ Y : ByteArray, X ++ (⟨#[98, 97, 103, 10, 100, 111, 110, 101]⟩ : ByteArray) = Y := ⟨_, rfl⟩
      have eX : X = ⟨(Sc.text (Sc.lostL L)).toArray⟩ := by
        rw [← hX, HT.out.1]
        unfold Sc.lostL
        rw [Sc.text_app]
        exact bcat _ [100, 114, 111, 112, 32, 48, 10, 100, 114, 111, 112, 32, 48, 10, 100, 114, 111, 112, 32, 48, 10, 100, 114, 111, 112, 32, 48, 10]
      have zX : X.size ≤ 284 := by
        rw [← hX, ByteArray.size_append]
        show T.size + 28 ≤ _
        omega
      have zY : Y.size ≤ 292 := by
        rw [← hY, ByteArray.size_append]
        show X.size + 8 ≤ _
        omega
      have dY : Y.data.toList = Sc.text (Sc.lostL L) ++ (Sc.bagW ++ 10 :: Sc.doneW) := by
        have h9 : Y = ⟨(Sc.text (Sc.lostL L) ++ (Sc.bagW ++ 10 :: Sc.doneW)).toArray⟩ := by
          rw [← hY, eX]
          exact bcat _ [98, 97, 103, 10, 100, 111, 110, 101]
        rw [h9]
      have s1 : ¬ (9223372036854775807 < T.size + 28) := by omega
      have s2 : ¬ (9223372036854775807 < X.size + 8) := by omega
      have HL := hid HT.out.2.1
      have HRV : Hid (Calls _ _ _ _ _) := prun Y (by omega) w HE.out
      have hlen : (Sc.report Y.data.toList).length ≤ 1000000 := report_len _ (by rw [list_size]; omega)
      obtain ⟨y0, hy0⟩ := HL.out.none
      rw [← dY] at hy0
      obtain ⟨V, hV⟩ : ∃ V : ByteArray, (⟨(Sc.report Y.data.toList).toArray⟩ : ByteArray) = V := ⟨_, rfl⟩
      have HV : Hid (V.data.toList = y0 ++ Sc.noneT ∧ V.size ≤ 1000000) := by
        refine ⟨?_, ?_⟩
        · rw [← hV]; exact hy0
        · rw [← hV, bsize]; exact hlen
      rw [hV] at HRV
      have HX : Hid (X = ⟨(Sc.text (Sc.lostL L ++ Sc.rounds 0)).toArray⟩ ∧ X.size ≤ 284 + 304 * 0) := by
        refine ⟨?_, by omega⟩
        rw [eX]
        show _ = (⟨(Sc.text (Sc.lostL L ++ [])).toArray⟩ : ByteArray)
        rw [List.append_nil]
      clear HT zT hk hlt eX zX zY dY hlen hy0 hV hn0
      go_wp2_with fail
      refine HRV.out.mono ?_
      rintro e W1 ⟨rfl, hb1⟩
      have HB1 := hid hb1
      clear hb1 HRV hY s1 s2 hli
      go_wp2
      go_loopw [3, 32] (fun v i wr => ∃ (k : Nat) (T : ByteArray), k ≤ 8 ∧ v = .string T ∧ i = .int .i64 k ∧ Hid (T = ⟨(Sc.text (Sc.lostL L ++ Sc.rounds k)).toArray⟩ ∧ T.size ≤ 284 + 304 * k) ∧ wr = W1) (fun _ i _ => 8 - (intOf i).toNat)
      case atStart => exact ⟨0, X, by omega, rfl, rfl, HX, rfl⟩
      case round =>
        clear hX HX
        obtain ⟨k, T, hk, rfl, rfl, HT, hww⟩ := hrel
        replace hww := hww.symm
        subst hww
        have zT := HT.out.2
        by_cases hlt : k < 8
        · have hli : (k : Int) < 8 := by omega
          have hz0 : (0 : Int) ≤ (k : Int) := by omega
          have s1 : ¬ (9223372036854775807 < T.size + 4) := by omega
          obtain ⟨X, hX⟩ : ∃ X : ByteArray, T ++ (⟨#[97, 115, 107, 10]⟩ : ByteArray) = X := ⟨_, rfl⟩
          have HX : Hid (X = ⟨(Sc.text (Sc.lostL L ++ Sc.rounds k ++ (Sc.askW :: List.replicate 0 Sc.deliver0))).toArray⟩ ∧ X.size ≤ 288 + 304 * k + 10 * 0) := by
            refine ⟨?_, ?_⟩
            · rw [← hX, HT.out.1]
              show _ = (⟨(Sc.text (Sc.lostL L ++ Sc.rounds k ++ [Sc.askW])).toArray⟩ : ByteArray)
              rw [Sc.text_snoc]
              exact bcat _ [97, 115, 107, 10]
            · rw [← hX, ByteArray.size_append]
              show T.size + 4 ≤ _
              omega
          clear HT zT
          go_wp2
          go_loopw [3, 36] (fun v i wq => ∃ (j : Nat) (T : ByteArray), j ≤ 30 ∧ v = .string T ∧ i = .int .i64 j ∧ Hid (T = ⟨(Sc.text (Sc.lostL L ++ Sc.rounds k ++ (Sc.askW :: List.replicate j Sc.deliver0))).toArray⟩ ∧ T.size ≤ 288 + 304 * k + 10 * j) ∧ wq = W1) (fun _ i _ => 30 - (intOf i).toNat)
          case atStart => exact ⟨0, X, by omega, rfl, rfl, HX, rfl⟩
          case round =>
            clear hX HX s1
            obtain ⟨j, T, hj, rfl, rfl, HT, hww⟩ := hrel
            replace hww := hww.symm
            subst hww
            have zT := HT.out.2
            by_cases hlj : j < 30
            · have hlji : (j : Int) < 30 := by omega
              have s1 : ¬ (9223372036854775807 < T.size + 10) := by omega
              obtain ⟨R, hR⟩ : ∃ R : ByteArray, T ++ (⟨#[100, 101, 108, 105, 118, 101, 114, 32, 48, 10]⟩ : ByteArray) = R := ⟨_, rfl⟩
              have HR : Hid (R = ⟨(Sc.text (Sc.lostL L ++ Sc.rounds k ++ (Sc.askW :: List.replicate (j + 1) Sc.deliver0))).toArray⟩ ∧ R.size ≤ 288 + 304 * k + 10 * (j + 1)) := by
                refine ⟨?_, ?_⟩
                · rw [← hR, HT.out.1, List.replicate_succ', ← List.cons_append, ← List.append_assoc, Sc.text_snoc]
                  exact bcat _ [100, 101, 108, 105, 118, 101, 114, 32, 48, 10]
                · rw [← hR, ByteArray.size_append]
                  show T.size + 10 ≤ _
                  omega
              clear HT zT
              go_wp2
              go_roundw
              case rel => exact ⟨j + 1, R, by omega, rfl, by go_num, HR, by trivial⟩
              case measure => first | (simp [intOf]; done) | (simp [intOf]; omega)
            · have hj9 : j = 30 := by omega
              subst hj9
              have hlji : ¬ (30 : Int) < 30 := by omega
              have HR : Hid (T = ⟨(Sc.text (Sc.lostL L ++ Sc.rounds (k + 1))).toArray⟩ ∧ T.size ≤ 284 + 304 * (k + 1)) := by
                refine ⟨?_, by omega⟩
                rw [HT.out.1, Sc.rounds_step, ← List.append_assoc]
                rfl
              clear HT zT hj hlj
              go_wp2
              go_roundw
              case rel => exact ⟨k + 1, T, by omega, rfl, by go_num, HR, by trivial⟩
              case measure => first | (simp [intOf]; done) | (simp [intOf]; omega)
        · have hk8 : k = 8 := by omega
          subst hk8
          have hli : ¬ (8 : Int) < 8 := by omega
          have s1 : ¬ (9223372036854775807 < T.size + 4) := by omega
          obtain ⟨X, hX⟩ : ∃ X : ByteArray, T ++ (⟨#[100, 111, 110, 101]⟩ : ByteArray) = X := ⟨_, rfl⟩
          have dX : X.data.toList = Sc.text (Sc.lostL L ++ Sc.rounds (7 + 1)) ++ Sc.doneW := by
            have h9 : X = ⟨(Sc.text (Sc.lostL L ++ Sc.rounds (7 + 1)) ++ Sc.doneW).toArray⟩ := by
              rw [← hX, HT.out.1]
              exact bcat _ [100, 111, 110, 101]
            rw [h9]
          have zX : X.size ≤ 6000 := by
            rw [← hX, ByteArray.size_append]
            show T.size + 4 ≤ _
            omega
          have HRN : Hid (Calls _ _ _ _ _) := prun X (by omega) W1 (HE.out.keep HB1.out)
          obtain ⟨x0, hx0⟩ := HL.out.ends 7
          have hlen : (Sc.report X.data.toList).length ≤ 1000000 := report_len _ (by rw [list_size]; omega)
          rw [← dX] at hx0
          obtain ⟨U, hU⟩ : ∃ U : ByteArray, (⟨(Sc.report X.data.toList).toArray⟩ : ByteArray) = U := ⟨_, rfl⟩
          have HU : Hid (U.data.toList = x0 ++ (10 :: Sc.toldT) ∧ U.size ≤ 1000000) := by
            refine ⟨?_, ?_⟩
            · rw [← hU]; exact hx0
            · rw [← hU, bsize]; exact hlen
          rw [hU] at HRN
          clear HT zT hk hlt dX zX hx0 hlen hU
          go_upto_region 21 with (go_at_call 14; refine HRN.out.mono ?_; rintro e W2 ⟨rfl, hb2⟩)
          have HB2 := hid (bel_then HB1.out hb2)
          clear hb2 HRN hX s1 hli
          have h1 := mat_one W2 65536
          have hA := bel_two W2 (.cells #[.int .i64 65536] 3) (.cells #[.slice (some ⟨W2.heap.size, 0, none⟩) 1 1] 31)
          obtain ⟨QA, HA⟩ : ∃ QA, Hid (QA = (W2.alloc (.cells #[.int .i64 65536] 3)).alloc (.cells #[.slice (some ⟨W2.heap.size, 0, none⟩) 1 1] 31)) := ⟨_, rfl⟩
          have sA : QA.heap.size = W2.heap.size + 1 + 1 := by rw [HA.out]; simp
          rw [← HA.out] at h1 hA
          have h2 := mat_one QA 131072
          have hB := bel_two QA (.cells #[.int .i64 131072] 3) (.cells #[.slice (some ⟨QA.heap.size, 0, none⟩) 1 1] 31)
          rw [sA] at h2 hB
          obtain ⟨QB, HB⟩ : ∃ QB, Hid (QB = (QA.alloc (.cells #[.int .i64 131072] 3)).alloc (.cells #[.slice (some ⟨W2.heap.size + 1 + 1, 0, none⟩) 1 1] 31)) := ⟨_, rfl⟩
          rw [← HB.out] at h2 hB
          rw [← sA] at hB
          have h1B := Shape.below h1 hB
          have hBw := bel_then hA hB
          have HBE : Hid (QB = (((W2.alloc (.cells #[.int .i64 65536] 3)).alloc (.cells #[.slice (some ⟨W2.heap.size, 0, none⟩) 1 1] 31)).alloc (.cells #[.int .i64 131072] 3)).alloc (.cells #[.slice (some ⟨W2.heap.size + 1 + 1, 0, none⟩) 1 1] 31)) := by show _ = _; rw [HB.out, HA.out]
          clear h1 hA HA sA hB HB
          go_upto_region 22 with fail
          rw [← HBE.out]
          clear HBE
          have hg := mat_two QB 65536 0
          obtain ⟨QC, HC⟩ : ∃ QC, Hid (QC = ((QB.alloc (.cells #[.int .i64 65536] 3)).alloc (.cells #[.int .i64 0] 3)).alloc (.cells #[.slice (some ⟨QB.heap.size, 0, none⟩) 1 1, .slice (some ⟨QB.heap.size + 1, 0, none⟩) 1 1] 31)) := ⟨_, rfl⟩
          have sC : QC.heap.size = QB.heap.size + 1 + 1 + 1 := by rw [HC.out]; simp
          have hCb : Below QB.heap.size QB QC := by rw [HC.out]; exact bel_alloc (bel_two _ _ _) _
          rw [← HC.out] at hg
          have h1C := Shape.below h1B hCb
          have h2C := Shape.below h2 hCb
          have hx := rep_lit [[.slice (some ⟨W2.heap.size + 1, 0, none⟩) 1 1, .slice (some ⟨W2.heap.size + 1, 0, none⟩) 1 1], [.slice (some ⟨W2.heap.size + 1, 0, none⟩) 1 1, .slice (some ⟨W2.heap.size + 1 + 1 + 1, 0, none⟩) 1 1]] [(([[65536]], [[65536]], ()) : Xp), ([[65536]], [[131072]], ())] 34 (Shape.all_append (Shape.all_one (xp_rep h1C h1C)) (Shape.all_one (xp_rep h1C h2C))) (by show 2 ≤ maxLen; decide)
          have hx2 : xpsS.rep (QC.alloc (.cells #[.slice (some ⟨W2.heap.size + 1, 0, none⟩) 1 1, .slice (some ⟨W2.heap.size + 1, 0, none⟩) 1 1, .slice (some ⟨W2.heap.size + 1, 0, none⟩) 1 1, .slice (some ⟨W2.heap.size + 1 + 1 + 1, 0, none⟩) 1 1] 34)) everywhere [.slice (some ⟨QC.heap.size, 0, none⟩) 2 2] [([[65536]], [[65536]], ()), ([[65536]], [[131072]], ())] := hx
          have hgD := Shape.below hg (new_bel QC (.cells #[.slice (some ⟨W2.heap.size + 1, 0, none⟩) 1 1, .slice (some ⟨W2.heap.size + 1, 0, none⟩) 1 1, .slice (some ⟨W2.heap.size + 1, 0, none⟩) 1 1, .slice (some ⟨W2.heap.size + 1 + 1 + 1, 0, none⟩) 1 1] 34))
          rw [sC] at hx2
          obtain ⟨QD, HD⟩ : ∃ QD, Hid (QD = QC.alloc (.cells #[.slice (some ⟨W2.heap.size + 1, 0, none⟩) 1 1, .slice (some ⟨W2.heap.size + 1, 0, none⟩) 1 1, .slice (some ⟨W2.heap.size + 1, 0, none⟩) 1 1, .slice (some ⟨W2.heap.size + 1 + 1 + 1, 0, none⟩) 1 1] 34)) := ⟨_, rfl⟩
          have sD : QD.heap.size = QB.heap.size + 1 + 1 + 1 + 1 := by rw [HD.out, ← sC]; simp
          have hDb : Below QB.heap.size QB QD := by rw [HD.out]; exact bel_alloc hCb _
          rw [← HD.out] at hx2 hgD
          have hE := new_bel QD (.cells #[.slice (some ⟨QB.heap.size + 1 + 1, 0, none⟩) 2 2, .slice (some ⟨QB.heap.size + 1 + 1 + 1, 0, none⟩) 2 2, .int .i64 2] 37)
          have kl := Box.new QD 37 #[.slice (some ⟨QB.heap.size + 1 + 1, 0, none⟩) 2 2, .slice (some ⟨QB.heap.size + 1 + 1 + 1, 0, none⟩) 2 2, .int .i64 2]
          rw [sD] at kl
          have hgE := Shape.below hgD hE
          have hxE := Shape.below hx2 hE
          have hEb := bel_then hBw (bel_then hDb hE)
          have HEE : Hid (QD.alloc (.cells #[.slice (some ⟨QB.heap.size + 1 + 1, 0, none⟩) 2 2, .slice (some ⟨QB.heap.size + 1 + 1 + 1, 0, none⟩) 2 2, .int .i64 2] 37) = ((((QB.alloc (.cells #[.int .i64 65536] 3)).alloc (.cells #[.int .i64 0] 3)).alloc (.cells #[.slice (some ⟨QB.heap.size, 0, none⟩) 1 1, .slice (some ⟨QB.heap.size + 1, 0, none⟩) 1 1] 31)).alloc (.cells #[.slice (some ⟨W2.heap.size + 1, 0, none⟩) 1 1, .slice (some ⟨W2.heap.size + 1, 0, none⟩) 1 1, .slice (some ⟨W2.heap.size + 1, 0, none⟩) 1 1, .slice (some ⟨W2.heap.size + 1 + 1 + 1, 0, none⟩) 1 1] 34)).alloc (.cells #[.slice (some ⟨QB.heap.size + 1 + 1, 0, none⟩) 2 2, .slice (some ⟨QB.heap.size + 1 + 1 + 1, 0, none⟩) 2 2, .int .i64 2] 37)) := by show _ = _; rw [HD.out, HC.out]
          clear hx hg h1C h2C hx2 hgD h1B h2 hCb hDb hE sC hBw
          generalize hEq : QD.alloc (.cells #[.slice (some ⟨QB.heap.size + 1 + 1, 0, none⟩) 2 2, .slice (some ⟨QB.heap.size + 1 + 1 + 1, 0, none⟩) 2 2, .int .i64 2] 37) = QE at *
          clear hEq HC HD sD
          go_upto_region 23 with fail
          rw [← HEE.out]
          clear HEE
          have l0 := kl.cell 0 rfl
          have l1 := kl.cell 1 rfl
          have l2 := kl.cell 2 rfl
          have hl := rep_lit [[.slice (some ⟨QB.heap.size + 1 + 1, 0, none⟩) 2 2, .slice (some ⟨QB.heap.size + 1 + 1 + 1, 0, none⟩) 2 2, .int .i64 2]] Sc.msS 37 (Shape.all_one (ly_rep 2 hgE hxE)) (by show 1 ≤ maxLen; decide)
          obtain ⟨QF, HF⟩ : ∃ QF, Hid (QF = QE.alloc (.cells #[.slice (some ⟨QB.heap.size + 1 + 1, 0, none⟩) 2 2, .slice (some ⟨QB.heap.size + 1 + 1 + 1, 0, none⟩) 2 2, .int .i64 2] 37)) := ⟨_, rfl⟩
          have sF : QF.heap.size = QE.heap.size + 1 := by rw [HF.out]; simp
          have hFb : Below QE.heap.size QE QF := by rw [HF.out]; exact new_bel _ _
          have hlF : lysS.rep QF everywhere [.slice (some ⟨QE.heap.size, 0, none⟩) 1 1] Sc.msS := by rw [HF.out]; exact hl
          have ht := three_rows QF [100] [50] [7] (by decide) (by decide) (by decide)
          rw [sF] at ht
          obtain ⟨QX, HX⟩ : ∃ QX, Hid (QX = (((QF.alloc (.cells #[.int .i64 100] 3)).alloc (.cells #[.int .i64 50] 3)).alloc (.cells #[.int .i64 7] 3)).alloc (.cells #[.slice (some ⟨QE.heap.size + 1, 0, none⟩) 1 1, .slice (some ⟨QE.heap.size + 1 + 1, 0, none⟩) 1 1, .slice (some ⟨QE.heap.size + 1 + 1 + 1, 0, none⟩) 1 1] 31)) := ⟨_, rfl⟩
          have hXb : Below QF.heap.size QF QX := by rw [HX.out]; exact bel_alloc (bel_alloc (bel_two _ _ _) _) _
          have htX : matS.rep QX everywhere [.slice (some ⟨QE.heap.size + 1 + 1 + 1 + 1, 0, none⟩) 3 3] Sc.tS := by rw [HX.out]; exact ht
          have hlX := Shape.below hlF hXb
          have HBX : Hid (Below W2.heap.size W2 QX) := bel_then hEb (bel_then hFb hXb)
          have HN : Hid (Calls _ _ _ _ _) := rmforward _ 1 1 Sc.msS 1 _ 3 3 Sc.tS QX hlX htX Sc.mayS.1 Sc.mayS.2.1
          rw [forwardS] at HN
          have HXE : Hid (QX = ((((QE.alloc (.cells #[.slice (some ⟨QB.heap.size + 1 + 1, 0, none⟩) 2 2, .slice (some ⟨QB.heap.size + 1 + 1 + 1, 0, none⟩) 2 2, .int .i64 2] 37)).alloc (.cells #[.int .i64 100] 3)).alloc (.cells #[.int .i64 50] 3)).alloc (.cells #[.int .i64 7] 3)).alloc (.cells #[.slice (some ⟨QE.heap.size + 1, 0, none⟩) 1 1, .slice (some ⟨QE.heap.size + 1 + 1, 0, none⟩) 1 1, .slice (some ⟨QE.heap.size + 1 + 1 + 1, 0, none⟩) 1 1] 31)) := by show _ = _; rw [HX.out, HF.out]
          clear hl hlF ht htX hlX hXb hFb sF HX HF hEb hgE hxE kl
          go_wp2_with (go_at_call 15; rw [← HXE.out]; refine HN.out.mono ?_; rintro e W3 ⟨hb3, ta, tc, rfl, ht3⟩)
          have HB3 := hid (bel_then HBX.out hb3)
          have HT3 := hid ht3
          clear hb3 ht3 HN HXE HBX l0 l1 l2
          go_loopw [11, 69] (fun v i wr => ∃ (k : Nat) (T : ByteArray), k ≤ 3 ∧ v = .string T ∧ i = .int .i64 k ∧ Hid (T = ⟨(Sc.wantT ([200, 100, 7].take k)).toArray⟩) ∧ Below W3.heap.size W3 wr) (fun _ i _ => 3 - (intOf i).toNat)
          case atStart => exact ⟨0, _, by omega, rfl, rfl, (by show _ = _; rfl), Below.refl _ _⟩
          case round =>
            obtain ⟨k, T, hk, rfl, rfl, HT, hbel⟩ := hrel
            by_cases hlt : k < 3
            · obtain ⟨b1, o1, A, Ca, rfl, hb1, hc1, hrr⟩ := mat_at (Shape.below HT3.out hbel) hlt
              obtain ⟨x, hx, hx0, hx9, hstep⟩ := Sc.rows_three k hlt
              rw [hx] at hc1 hrr
              obtain ⟨m, rfl⟩ : ∃ m : Nat, x = (m : Int) := ⟨x.toNat, by omega⟩
              rw [show ((m : Int)).toNat = m by omega] at hstep
              obtain ⟨b2, o2, rfl, hb2, hc2⟩ := (Row.of_rep hrr).at (j := 0) (by simp)
              have d1 : wr.cell? ⟨b1, o1 + k, none⟩ = some (.slice (some ⟨b2, o2, none⟩) 1 Ca) := hc1
              have d2 : wr.cell? ⟨b2, o2, none⟩ = some (.int .i64 (m : Int)) := hc2
              have hli : (k : Int) < 3 := by omega
              have hz0 : (0 : Int) ≤ (k : Int) := by omega
              have HG : Hid (Calls _ _ _ _ _) := rdigits m (by omega) wr
              obtain ⟨D1, hD1⟩ : ∃ D1 : ByteArray, (⟨(Sh.dig m).toArray⟩ : ByteArray) = D1 := ⟨_, rfl⟩
              obtain ⟨S1, hS1⟩ : ∃ S1 : ByteArray, (⟨#[32]⟩ : ByteArray) ++ D1 = S1 := ⟨_, rfl⟩
              obtain ⟨R1, hR1⟩ : ∃ R1 : ByteArray, T ++ S1 = R1 := ⟨_, rfl⟩
              have hS2 : S1 = ⟨(32 :: Sh.dig m).toArray⟩ := by rw [← hS1, ← hD1]; exact bcat [32] (Sh.dig m)
              have HR : Hid (R1 = ⟨(Sc.wantT ([200, 100, 7].take (k + 1))).toArray⟩) := by
                show _ = _
                rw [← hR1, HT.out, hS2, hstep]
                exact bcat _ _
              have l1 := Sh.dig_short 11 m (by omega)
              have z1 : D1.size ≤ 12 := by rw [← hD1, bsize]; exact l1
              have z2 : S1.size ≤ 13 := by rw [hS2, bsize, List.length_cons]; omega
              have z3 : T.size ≤ 42 := by rw [HT.out, bsize]; exact Sc.want_len k (by omega)
              have s1 : ¬ (9223372036854775807 < 1 + D1.size) := by omega
              have s2 : ¬ (9223372036854775807 < T.size + S1.size) := by omega
              have mm : max (m : Int) 0 = (m : Int) := by omega
              rw [hD1] at HG
              have HBW := hid hbel
              clear hD1 hS2 hstep hx l1 z1 z2 z3 HT hbel hrr hc1 hc2
              go_wp2_with fail
              refine HG.out.mono ?_
              rintro e W5 ⟨rfl, hb5⟩
              have HB5 := hid (bel_then HBW.out hb5)
              clear hb5
              go_wp2
              go_roundw
              case rel => exact ⟨k + 1, R1, by omega, rfl, by go_num, HR, HB5.out⟩
              case measure => simp [intOf]; omega
            · have hkn : k = 3 := by omega
              subst hkn
              obtain ⟨Wn, hWn⟩ : ∃ Wn : ByteArray, T ++ (⟨#[10]⟩ : ByteArray) = Wn := ⟨_, rfl⟩
              have eWn : Wn = ⟨(10 :: Sc.toldT).toArray⟩ := by rw [← hWn, HT.out, ← Sc.want_end]; exact bcat _ [10]
              have zT : T.size ≤ 42 := by rw [HT.out, bsize]; exact Sc.want_len 3 (by omega)
              have s1 : ¬ (9223372036854775807 < T.size + 1) := by omega
              have zWn : Wn.size ≤ 100 := by rw [eWn, bsize, ← Sc.want_end, List.length_append]; have h9 := Sc.want_len 3 (by omega); simp only [List.length_cons, List.length_nil]; omega
              have HBW := hid (bel_then HB3.out hbel)
              have hWl : Wn.data.toList = 10 :: Sc.toldT := by rw [eWn]
              clear eWn hbel HT zT
              obtain ⟨hle, hD⟩ := cut_end U Wn (x := x0) (by rw [hWl]; exact HU.out.1)
              have zU := HU.out.2
              have hgeq : (Wn.size : Int) ≤ (U.size : Int) := by omega
              obtain ⟨Wo, hWo⟩ : ∃ Wo : ByteArray, (⟨#[111, 107, 32, 48, 32, 48, 10, 111, 107, 10]⟩ : ByteArray) = Wo := ⟨_, rfl⟩
              have zWo : Wo.size ≤ 10 := by rw [← hWo]; exact Nat.le_refl 10
              obtain ⟨hle2, hD2⟩ := cut_end V Wo (x := y0) (by rw [← hWo]; exact HV.out.1)
              have zV := HV.out.2
              have hgeq2 : (Wo.size : Int) ≤ (V.size : Int) := by omega
              have qW : (Wn.toList == Wn.toList) = true := beq_self_eq_true _
              have qW2 : (Wo.toList == Wo.toList) = true := beq_self_eq_true _
              have HBF := hid (bel_then HB2.out HBW.out)
              clear hWl hle hle2
              go_wp2_with fail
              refine (HAW.out wr HBF.out).mono ?_
              rintro e uz ⟨rfl, hbz⟩
              go_wp2
              go_ret
              exact ⟨rfl, bel_then (HBF.out) hbz⟩

end Go.Proofs.YtokfcjgfpchffaaGreatDoor
