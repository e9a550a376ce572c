/- ShellGoes and ShellWrong, with letters. -/
import Derived.Test.YtokfcjgfpchffaaGreatDoorShF
namespace Go.Proofs.YtokfcjgfpchffaaGreatDoor
open Go.ChangeShapes Go.WideShapes Go.ChangeAt Go.RowKit


/-- How long a report may be. -/
theorem run_len : ∀ (L : List (List UInt8)) {s : Ft.St}, Alive 1 Sc.msS Sc.tS s → (Sc.run s L).length ≤ 50 * L.length
  | [], _, _ => Nat.le_refl _
  | l :: r, s, hA => by
    have h1 := run_len r (Sc.tell_alive hA l)
    have h2 : (Sc.tell s l).2.length ≤ 49 := by
      rw [Sc.tell_play]
      have h := play_fine hA (Sc.words l)
      exact text_fine h.1 h.2.1 h.2.2
    unfold Sc.run
    rw [List.length_append, List.length_cons, List.length_cons]
    omega
theorem report_len (t : List UInt8) (h : t.length ≤ 10000) : (Sc.report t).length ≤ 1000000 := by
  have h1 := run_len (Sc.lines t) Sc.begun_alive
  have h2 : (Sc.lines t).length ≤ t.length + 1 := by
    have h3 := Sh.pieces_len 10 t
    unfold Sc.lines
    split
    · simp
    · split
      · rw [List.length_dropLast]; omega
      · exact h3
  unfold Sc.report
  omega
set_option maxRecDepth 100000 in
set_option maxHeartbeats 4000000 in
theorem lgoes (a m : ByteArray) (w : World) (hE : Env w) : Calls Tryz.prog 4 #[.string a, .string m] w fun e w' => e = .returned (.bool true) ∧ Below w.heap.size w w' := by
  have HAW : Hid (∀ u, Below w.heap.size w u → Calls Tryz.prog 10 #[] u _) := fun u hu => lawake u (hE.keep hu)
  have HE := hid hE
  clear hE
  by_cases hs : SmallT a
  · have HSM : Hid (Calls _ _ _ _ _) := lsmall_yes a hs w
    by_cases hs2 : SmallT m
    · have HSM2 : Hid (∀ u, Calls _ _ _ u _) := fun u => lsmall_yes m hs2 u
      have ha := hs.1
      have hm := hs2.1
      clear hs hs2
      obtain ⟨X, hX⟩ : ∃ X : ByteArray, a ++ (⟨#[10]⟩ : ByteArray) = X := ⟨_, rfl⟩
      obtain ⟨Y, hY⟩ : ∃ Y : ByteArray, X ++ m = Y := ⟨_, rfl⟩
      have eX : X = ⟨(a.data.toList ++ [10]).toArray⟩ := by rw [← hX]; have h9 := bcat a.data.toList [10]; rw [text_of] at h9; exact h9
      have eY : Y = ⟨(a.data.toList ++ 10 :: m.data.toList).toArray⟩ := by
        rw [← hY, eX]
        have h9 := bcat (a.data.toList ++ [10]) m.data.toList
        rw [text_of] at h9
        rw [h9]
        simp
      have dX : X.data.toList = a.data.toList ++ [10] := by rw [eX]
      have dY : Y.data.toList = a.data.toList ++ 10 :: m.data.toList := by rw [eY]
      have zX : X.size ≤ 2001 := by rw [← list_size X, dX, List.length_append, list_size]; show a.size + 1 ≤ _; omega
      have zY : Y.size ≤ 4001 := by rw [← list_size Y, dY, List.length_append, List.length_cons, list_size, list_size]; omega
      have HRX : Hid (∀ u, Below w.heap.size w u → Calls _ _ _ u _) := fun u hu => prun X (by omega) u (HE.out.keep hu)
      have HRY : Hid (∀ u, Below w.heap.size w u → Calls _ _ _ u _) := fun u hu => prun Y (by omega) u (HE.out.keep hu)
      rw [dX] at HRX
      rw [dY] at HRY
      obtain ⟨r, hr⟩ := Sc.report_goes a.data.toList m.data.toList
      obtain ⟨T, hT⟩ : ∃ T : ByteArray, (⟨(Sc.report (a.data.toList ++ [10])).toArray⟩ : ByteArray) = T := ⟨_, rfl⟩
      obtain ⟨U, hU⟩ : ∃ U : ByteArray, (⟨(Sc.report (a.data.toList ++ 10 :: m.data.toList)).toArray⟩ : ByteArray) = U := ⟨_, rfl⟩
      have dT : T.data.toList = Sc.report (a.data.toList ++ [10]) := by rw [← hT]
      have dU : U.data.toList = T.data.toList ++ r := by rw [← hU, dT]; exact hr
      have hle : T.size ≤ U.size := by rw [← list_size T, ← list_size U, dU, List.length_append]; omega
      obtain ⟨D, hD, hDl, _⟩ := cut_to U hle
      have hDT : D = T := by
        rw [dU, ← list_size T, List.take_left] at hDl
        have h9 := text_is hDl
        rw [text_of] at h9
        exact h9
      rw [hDT] at hD
      rw [hT] at HRX
      rw [hU] at HRY
      have hgeq : (T.size : Int) ≤ (U.size : Int) := by omega
      have qT : (T.toList == T.toList) = true := beq_self_eq_true _
      have qU : (U.toList == U.toList) = true := beq_self_eq_true _
      have s1 : ¬ (9223372036854775807 < a.size + 1) := by omega
      have s2 : ¬ (9223372036854775807 < X.size + m.size) := by omega
      clear eX eY dX dY zY hr hT hU dT dU hDl hDT hle ha hm
      go_enter Tryz.func4, Tryz.ntmps4
      go_wp2_with fail
      refine HSM.out.mono ?_
      rintro e u1 ⟨rfl, hb1⟩
      have HB1 := hid hb1
      clear hb1
      go_wp2_with fail
      refine (HSM2.out u1).mono ?_
      rintro e u2 ⟨rfl, hb2⟩
      have HB2 := hid (bel_then HB1.out hb2)
      clear hb2
      go_wp2_with fail
      refine (HRX.out u2 HB2.out).mono ?_
      rintro e u3 ⟨rfl, hb3⟩
      have HB3 := hid (bel_then HB2.out hb3)
      clear hb3
      go_wp2_with fail
      refine (HRY.out u3 HB3.out).mono ?_
      rintro e u4 ⟨rfl, hb4⟩
      have HB4 := hid (bel_then HB3.out hb4)
      clear hb4
      go_wp2_with fail
      refine (HRY.out u4 HB4.out).mono ?_
      rintro e u5 ⟨rfl, hb5⟩
      have HB5 := hid (bel_then HB4.out hb5)
      clear hb5
      go_wp2_with fail
      refine (HAW.out u5 HB5.out).mono ?_
      rintro e uz ⟨rfl, hbz⟩
      go_wp2
      go_ret
      exact ⟨rfl, bel_then (HB5.out) hbz⟩
    · have HSM2 : Hid (∀ u, Calls _ _ _ u _) := fun u => lsmall_no m hs2 u
      clear hs hs2
      go_enter Tryz.func4, Tryz.ntmps4
      go_wp2_with fail
      refine HSM.out.mono ?_
      rintro e u1 ⟨rfl, hb1⟩
      have HB1 := hid hb1
      clear hb1
      go_wp2_with fail
      refine (HSM2.out u1).mono ?_
      rintro e u2 ⟨rfl, hb2⟩
      have HB2 := hid (bel_then HB1.out hb2)
      clear hb2
      go_wp2_with fail
      refine (HAW.out u2 HB2.out).mono ?_
      rintro e uz ⟨rfl, hbz⟩
      go_wp2
      go_ret
      exact ⟨rfl, bel_then (HB2.out) hbz⟩
  · have HSM : Hid (Calls _ _ _ _ _) := lsmall_no a hs w
    clear hs
    go_enter Tryz.func4, Tryz.ntmps4
    go_wp2_with fail
    refine HSM.out.mono ?_
    rintro e u1 ⟨rfl, hb1⟩
    have HB1 := hid hb1
    clear hb1
    go_wp2_with fail
    refine (HAW.out u1 HB1.out).mono ?_
    rintro e uz ⟨rfl, hbz⟩
    go_wp2
    go_ret
    exact ⟨rfl, bel_then (HB1.out) hbz⟩
/-- A word of letters, x ahead. -/
theorem Sc.wrong_line (s : Ft.St) {W : List UInt8} (h : ∀ x ∈ W, 97 ≤ x.toNat) : Sc.tell s ((120 :: W) ++ [32, 49]) = (s, Sc.told 2) := by
  have h0 : ∀ x ∈ (120 :: W : List UInt8), x ≠ 32 := fun x hx e => by
    rcases List.mem_cons.1 hx with h1 | h1
    · rw [h1] at e; exact absurd e (by decide)
    · have := h x h1; rw [e] at this; exact absurd this (by decide)
  have hp : Sh.pieces 32 ((120 :: W) ++ [32, 49]) = [120 :: W, [49]] := by
    rw [show ((120 :: W) ++ [32, 49] : List UInt8) = (120 :: W) ++ 32 :: [49] from rfl, Sh.pieces_cut h0]
    rfl
  rw [Sc.tell_of s hp (fun x hx => by rw [List.mem_singleton.1 hx]; exact Sc.num_one (by decide))]
  refine Sc.act_none s _ ?_
  have ne : ∀ {y : UInt8} {v : List UInt8}, y ≠ 120 → ¬ (120 :: W : List UInt8) = y :: v := fun h e => h (List.cons.inj e).1.symm
  simp only [List.mem_cons, List.not_mem_nil, or_false, not_or]
  exact ⟨ne (by decide), ne (by decide), ne (by decide), ne (by decide), ne (by decide), ne (by decide), ne (by decide), ne (by decide)⟩
theorem Sc.wrong_report (a : List UInt8) {W : List UInt8} (h : ∀ x ∈ W, 97 ≤ x.toNat) : Sc.report (a ++ 10 :: ((120 :: W) ++ [32, 49])) = Sc.report (a ++ [10]) ++ ([101, 114, 114, 111, 114, 32, 50] ++ [10]) := by
  have h10 : ∀ x ∈ ((120 :: W) ++ [32, 49] : List UInt8), x ≠ 10 := fun x hx e => by
    rw [e] at hx
    rcases List.mem_append.1 hx with h1 | h1
    · rcases List.mem_cons.1 h1 with h2 | h2
      · exact absurd h2 (by decide)
      · have := h _ h2; exact absurd this (by decide)
    · simp at h1
  have hl : Sc.lines (a ++ 10 :: ((120 :: W) ++ [32, 49])) = Sh.pieces 10 a ++ [(120 :: W) ++ [32, 49]] := by
    unfold Sc.lines
    rw [if_neg (by simp), Sc.pieces_app, Sh.pieces_none h10, if_neg (by rw [List.getLast?_append]; simp)]
  unfold Sc.report
  rw [hl, Sc.lines_end, Sc.run_app]
  congr 1
  unfold Sc.run
  rw [Sc.wrong_line _ h]
  have d2 : Sc.told 2 = [101, 114, 114, 111, 114, 32, 50] := by
    show Sc.told ((2 : Nat) : Int) = _
    rw [Sc.told_is]
    unfold Sc.textI
    rw [if_neg (by decide), Sh.dig_low (by omega)]
    rfl
  unfold Sc.run
  rw [d2]
/-- The letters of a word, in their order. -/
def abc (k : Nat) : List UInt8 := (List.range k).map fun i => UInt8.ofNat (97 + i % 26)
theorem abc_step (k : Nat) : abc (k + 1) = abc k ++ [UInt8.ofNat (97 + k % 26)] := by unfold abc; rw [List.range_succ, List.map_append]; rfl
theorem abc_len (k : Nat) : (abc k).length = k := by unfold abc; simp
theorem abc_high (k : Nat) : ∀ x ∈ abc k, 97 ≤ x.toNat := by
  intro x hx
  unfold abc at hx
  obtain ⟨i, _, rfl⟩ := List.mem_map.1 hx
  rw [UInt8.toNat_ofNat']
  omega
theorem letter_back (w : World) (d : Nat) (h : d ≤ 25) : (convert 43 9 (.slice (some ⟨w.heap.size, 0, none⟩) 1 1)).run Tryz.prog (w.alloc (.cells #[.int .u8 (97 + (d : Int))] 5)) = .ok (.string ⟨#[UInt8.ofNat (97 + d)]⟩) (w.alloc (.cells #[.int .u8 (97 + (d : Int))] 5)) := by
  have e : (97 + (d : Int)) = ((UInt8.ofNat (97 + d)).toNat : Nat) := by rw [UInt8.toNat_ofNat']; omega
  rw [e]
  exact Sh.one_back (heap_new w _ _ rfl)
set_option maxRecDepth 100000 in
set_option maxHeartbeats 4000000 in
theorem lwrong (a : ByteArray) (n : Int) (hn : (Lit.int .u8 n).wf = true) (w : World) (hE : Env w) : Calls Tryz.prog 7 #[.string a, .int .u8 n] w fun e w' => e = .returned (.bool true) ∧ Below w.heap.size w w' := by
  have HAW : Hid (∀ u, Below w.heap.size w u → Calls Tryz.prog 10 #[] u _) := fun u hu => lawake u (hE.keep hu)
  have HE := hid hE
  clear hE
  by_cases hs : SmallT a
  · have HSM : Hid (Calls _ _ _ _ _) := lsmall_yes a hs w
    have HA := hid hs.1
    clear hs
    have hn0 : 0 ≤ n ∧ n ≤ 255 := by simpa [Lit.wf, IntKind.min, IntKind.max, IntKind.signed, IntKind.bits] using hn
    obtain ⟨q, hq⟩ : ∃ q : Nat, n.tmod 30 = (q : Int) := ⟨(n.tmod 30).toNat, by rw [Int.tmod_eq_emod_of_nonneg (by omega)]; omega⟩
    have hq9 : q ≤ 29 := by rw [Int.tmod_eq_emod_of_nonneg (by omega)] at hq; omega
    have HQ := hid hq9
    clear hn
    go_enter Tryz.func7, Tryz.ntmps7
    go_wp2_with fail
    refine HSM.out.mono ?_
    rintro e u1 ⟨rfl, hb1⟩
    have HB1 := hid hb1
    clear hb1 HSM
    go_wp2
    clear hn0 hq
    go_loopw [5, 14] (fun v i wr => ∃ (k : Nat) (T : ByteArray), k ≤ q ∧ v = .string T ∧ i = .int .i64 k ∧ Hid (T = ⟨(120 :: abc k).toArray⟩) ∧ Below u1.heap.size u1 wr) (fun _ i _ => q - (intOf i).toNat)
    case atStart => exact ⟨0, _, by omega, rfl, rfl, (by show _ = _; rfl), Below.refl _ _⟩
    case round =>
      obtain ⟨k, T, hk, rfl, rfl, HT, hbel⟩ := hrel
      by_cases hlt : k < q
      · have hli : (k : Int) < (q : Int) := by omega
        have hz0 : (0 : Int) ≤ (k : Int) := by omega
        have hrem : (k : Int).tmod 26 = ((k % 26 : Nat) : Int) := by rw [Int.tmod_eq_emod_of_nonneg (by omega)]; rfl
        have hd9 : k % 26 ≤ 25 := by omega
        have hstep := abc_step k
        have hback := letter_back wr (k % 26) hd9
        have hw8 : IntKind.u8.wrap (97 + ((k % 26 : Nat) : Int)) = 97 + ((k % 26 : Nat) : Int) := by rw [IntKind.wrap_u8]; omega
        generalize k % 26 = d at *
        obtain ⟨D, hD⟩ : ∃ D : ByteArray, (⟨#[UInt8.ofNat (97 + d)]⟩ : ByteArray) = D := ⟨_, rfl⟩
        obtain ⟨R, hR⟩ : ∃ R : ByteArray, T ++ D = R := ⟨_, rfl⟩
        have HR : Hid (R = ⟨(120 :: abc (k + 1)).toArray⟩) := by
          show _ = _
          rw [← hR, HT.out, ← hD, hstep]
          exact bcat (120 :: abc k) [UInt8.ofNat (97 + d)]
        have zT : T.size ≤ 30 := by rw [HT.out, bsize, List.length_cons, abc_len]; have h9 := HQ.out; omega
        have zD : D.size = 1 := by rw [← hD]; rfl
        have s1 : ¬ (9223372036854775807 < T.size + D.size) := by omega
        rw [hD] at hback
        have hB1 := bel_alloc hbel (.cells #[.int .u8 (97 + (d : Int))] 5)
        have HB2 := hid hB1
        clear hD hstep HT zT zD hbel hB1
        go_wp2
        go_roundw
        case rel => exact ⟨k + 1, R, by omega, rfl, by go_num, HR, HB2.out⟩
        case measure => first | (simp [intOf]; done) | (simp [intOf]; omega)
      · have hkq : q = k := by omega
        subst hkq
        have hli : ¬ (q : Int) < (q : Int) := by omega
        have HBW := hid (bel_then HB1.out hbel)
        have ha := HA.out
        have hq9 := HQ.out
        obtain ⟨X, hX⟩ : ∃ X : ByteArray, a ++ (⟨#[10]⟩ : ByteArray) = X := ⟨_, rfl⟩
        obtain ⟨Y, hY⟩ : ∃ Y : ByteArray, X ++ T = Y := ⟨_, rfl⟩
        obtain ⟨Z, hZ⟩ : ∃ Z : ByteArray, Y ++ (⟨#[32, 49]⟩ : ByteArray) = Z := ⟨_, rfl⟩
        have eX : X = ⟨(a.data.toList ++ [10]).toArray⟩ := by rw [← hX]; have h9 := bcat a.data.toList [10]; rw [text_of] at h9; exact h9
        have eY : Y = ⟨(a.data.toList ++ [10] ++ (120 :: abc q)).toArray⟩ := by rw [← hY, eX, HT.out]; exact bcat _ _
        have eZ : Z = ⟨(a.data.toList ++ [10] ++ (120 :: abc q) ++ [32, 49]).toArray⟩ := by rw [← hZ, eY]; exact bcat _ [32, 49]
        have dX : X.data.toList = a.data.toList ++ [10] := by rw [eX]
        have dZ : Z.data.toList = a.data.toList ++ 10 :: ((120 :: abc q) ++ [32, 49]) := by rw [eZ]; simp
        have zX : X.size ≤ 2001 := by rw [← list_size X, dX, List.length_append, list_size]; show a.size + 1 ≤ _; omega
        have zT : T.size ≤ 31 := by rw [HT.out, bsize, List.length_cons, abc_len]; omega
        have zY : Y.size ≤ 2100 := by rw [eY, bsize]; simp only [List.length_append, List.length_cons, List.length_nil, list_size, abc_len]; omega
        have zZ : Z.size ≤ 2200 := by rw [eZ, bsize]; simp only [List.length_append, List.length_cons, List.length_nil, list_size, abc_len]; omega
        have HRX : Hid (∀ u, Below w.heap.size w u → Calls _ _ _ u _) := fun u hu => prun X (by omega) u (HE.out.keep hu)
        have HRZ : Hid (∀ u, Below w.heap.size w u → Calls _ _ _ u _) := fun u hu => prun Z (by omega) u (HE.out.keep hu)
        rw [dX] at HRX
        rw [dZ, Sc.wrong_report a.data.toList (abc_high q)] at HRZ
        have hlen : (Sc.report (a.data.toList ++ [10])).length ≤ 1000000 := report_len _ (by rw [← dX, list_size]; omega)
        obtain ⟨P, hP⟩ : ∃ P : ByteArray, (⟨(Sc.report (a.data.toList ++ [10])).toArray⟩ : ByteArray) = P := ⟨_, rfl⟩
        obtain ⟨G, hG⟩ : ∃ G : ByteArray, P ++ (⟨#[101, 114, 114, 111, 114, 32, 50, 10]⟩ : ByteArray) = G := ⟨_, rfl⟩
        have eG : (⟨(Sc.report (a.data.toList ++ [10]) ++ ([101, 114, 114, 111, 114, 32, 50] ++ [10])).toArray⟩ : ByteArray) = G := by rw [← hG, ← hP]; exact (bcat _ [101, 114, 114, 111, 114, 32, 50, 10]).symm
        have zP : P.size ≤ 1000000 := by rw [← hP, bsize]; exact hlen
        rw [hP] at HRX
        rw [eG] at HRZ
        have qG : (G.toList == G.toList) = true := beq_self_eq_true _
        have s1 : ¬ (9223372036854775807 < a.size + 1) := by omega
        have s2 : ¬ (9223372036854775807 < X.size + T.size) := by omega
        have s3 : ¬ (9223372036854775807 < Y.size + 2) := by omega
        have s4 : ¬ (9223372036854775807 < P.size + 8) := by omega
        clear eX eY eZ dX dZ hlen hP eG HT hbel ha hq9 hk hlt zZ
        go_wp2_with fail
        refine (HRZ.out wr HBW.out).mono ?_
        rintro e u3 ⟨rfl, hb3⟩
        have HB3 := hid (bel_then HBW.out hb3)
        clear hb3
        go_wp2_with fail
        refine (HRX.out u3 HB3.out).mono ?_
        rintro e u4 ⟨rfl, hb4⟩
        have HB4 := hid (bel_then HB3.out hb4)
        clear hb4
        go_wp2_with fail
        refine (HAW.out u4 HB4.out).mono ?_
        rintro e uz ⟨rfl, hbz⟩
        go_wp2
        go_ret
        exact ⟨rfl, bel_then (HB4.out) hbz⟩
  · have HSM : Hid (Calls _ _ _ _ _) := lsmall_no a hs w
    clear hs hn
    go_enter Tryz.func7, Tryz.ntmps7
    go_wp2_with fail
    refine HSM.out.mono ?_
    rintro e u1 ⟨rfl, hb1⟩
    have HB1 := hid hb1
    clear hb1
    go_wp2_with fail
    refine (HAW.out u1 HB1.out).mono ?_
    rintro e uz ⟨rfl, hbz⟩
    go_wp2
    go_ret
    exact ⟨rfl, bel_then (HB1.out) hbz⟩

end Go.Proofs.YtokfcjgfpchffaaGreatDoor
