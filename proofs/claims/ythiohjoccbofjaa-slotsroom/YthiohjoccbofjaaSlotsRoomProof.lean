/- For every list of choices, every number of experts, every capacity and every n no expert has more than capacity parts, no two parts of one expert have one slot, and the slots of a beginning of the choices are a beginning of their slots: SlotsRoom returns true. No condition. -/
import Derived.Test.YthiohjoccbofjaaRows
import Derived.Test.YthiohjoccbofjaaSltB
import Derived.WalkKit
import Derived.ProofKit
import Derived.OpenShut
import Derived.ShutString
import Derived.ChangeOld
import Derived.Below
namespace Go.Proofs.Ythiohjoccbofjaa.slotsRoom
open Go.ChangeShapes Go.WideShapes Go.ChangeAt Go.RowKit
open Go.ChangeMaps (open_string shut_string)
set_option linter.unusedVariables false

theorem own : ownKnob Try.prog.godebug = none := by kernel_rfl
theorem laidOut : laidOutB Try.prog = true := by kernel_rfl

/- The walk: the call returns true, and nothing that was there is written. -/
set_option maxHeartbeats 4000000 in
set_option maxRecDepth 100000 in
theorem walk (a0 : Option Addr) (len0 cap0 : Nat) (m0 : List (Int × Int × Unit)) (a1 : Int) (a2 : Int) (a3 : Int) (w : World) (w0 : (sliceS (consS (intS .i64) (consS (intS .i64) noneS))).rep w everywhere [.slice a0 len0 cap0] m0) (f0 : (∀ x0 ∈ m0, ((Lit.int .i64 x0.1).wf = true ∧ ((Lit.int .i64 x0.2.1).wf = true ∧ True)))) (w1 : (Lit.int .i64 a1).wf = true) (w2 : (Lit.int .i64 a2).wf = true) (w3 : (Lit.int .u8 a3).wf = true) :
    Calls Try.prog 4 #[.slice a0 len0 cap0, .int .i64 a1, .int .i64 a2, .int .u8 a3] w fun e w' => e = .returned (.bool true) ∧ Below w.heap.size w w' := by
  have hF : Flat w a0 len0 (flat m0) := Flat.of_rep w0
  have hW := flat_fit f0
  have h8 := bounds_u8 w3
  obtain ⟨_, hcap1, hcap2⟩ := sliceS_len w0
  clear w0 f0 w1 w2 w3
  generalize flat m0 = l at hF hW
  by_cases h60 : 60 < len0
  · have hi : (60 : Int) < (len0 : Int) := by omega
    go_enter Try.func4, Try.ntmps4
    go_wp2_with (go_at_call 7; refine (sawake _).mono ?_; rintro e u1 ⟨rfl, hb1⟩)
    go_ret
    exact ⟨rfl, hb1⟩
  have hi : ¬ (60 : Int) < (len0 : Int) := by omega
  obtain ⟨N, rfl⟩ : ∃ N : Nat, a3 = N := ⟨a3.toNat, by omega⟩
  have hN0 : (0 : Int) ≤ (N : Int) := by omega
  have hN1 : (N : Int) ≤ 255 := by omega
  obtain ⟨M, hM⟩ : ∃ M, min N len0 = M := ⟨_, rfl⟩
  have HM : Hid (min N len0 = M) := hM
  have hMl : M ≤ len0 := by omega
  obtain ⟨i0, hi0, hi1, hi2, hi3⟩ := info_parts Try.infoPair
  have HC1 : Hid (Calls _ _ _ _ _) := assign a0 len0 cap0 l a1 a2 w hF (by omega) hW
  have HF : Hid (Flat w a0 len0 l ∧ ∀ x ∈ l, (Lit.int .i64 x).wf = true) := ⟨hF, hW⟩
  have HL : Hid (l.length = len0 * 2) := hF.len
  have HK : Hid (len0 ≤ cap0 ∧ cap0 ≤ maxLen) := ⟨hcap1, hcap2⟩
  clear hF hW hM hcap1 hcap2 h8
  go_enter Try.func4, Try.ntmps4
  go_wp2_with fail
  refine HC1.out.mono ?_
  rintro e u1 ⟨hb1, g1, rfl, hr1⟩
  have HR1 : Hid (Flat u1 (some ⟨g1, 0, none⟩) len0 (Sl.slots l a1 a2)) := hr1
  have HC2 : Hid (Calls _ _ _ _ _) := assign a0 M cap0 (l.take (M * 2)) a1 a2 u1 ((HF.out.1.keep hb1).take hMl) (by omega) (fun x hx => HF.out.2 x (List.mem_of_mem_take hx))
  clear hr1 HC1
  go_upto_region 4 with fail
  go_cut [10] from 23 (fun v10 wx => ∃ g, v10 = .slice (some ⟨g, 0, none⟩) M M ∧ Flat wx (some ⟨g, 0, none⟩) M (Sl.slots (l.take (M * 2)) a1 a2) ∧ Below u1.heap.size u1 wx)
  case first =>
    have hE : ∀ w : World, (Instr.slice 22 (.slice a0 len0 cap0) none (some (.int .i64 (M : Int))) none).run Try.prog w = .ok (.slice a0 M cap0) w := fun w => by
      have h7 := HK.out
      rw [run_slice_h w 22 a0 len0 cap0 Try.underlying22 .i64 M (by omega) (by omega)]
      simp [sizeOf, typeInfo, go_sem, hi0, hi2]
    rcases Nat.lt_trichotomy N len0 with h | h | h
    · have h1 : (N : Int) < (len0 : Int) := by omega
      have h2 : ¬ (len0 : Int) < (N : Int) := by omega
      obtain rfl : M = N := by have := HM.out; omega
      clear h HM HK
      go_wp2_with fail
      refine HC2.out.mono ?_
      rintro e u2 ⟨hb2, g2, rfl, hr2⟩
      go_wp2
      go_meet
      exact ⟨g2, rfl, hr2, hb2⟩
    · subst h
      obtain rfl : M = N := by have := HM.out; omega
      have h1 : ¬ (M : Int) < (M : Int) := by omega
      clear HM HK
      go_wp2_with fail
      refine HC2.out.mono ?_
      rintro e u2 ⟨hb2, g2, rfl, hr2⟩
      go_wp2
      go_meet
      exact ⟨g2, rfl, hr2, hb2⟩
    · have h1 : ¬ (N : Int) < (len0 : Int) := by omega
      have h2 : (len0 : Int) < (N : Int) := by omega
      obtain rfl : M = len0 := by have := HM.out; omega
      clear h HM HK
      go_wp2_with fail
      refine HC2.out.mono ?_
      rintro e u2 ⟨hb2, g2, rfl, hr2⟩
      go_wp2
      go_meet
      exact ⟨g2, rfl, hr2, hb2⟩
  case rest =>
    obtain ⟨g2, rfl, hr2, hb2⟩ := hcut
    have HS2 : Hid (Flat wc (some ⟨g2, 0, none⟩) M (Sl.slots (l.take (M * 2)) a1 a2)) := hr2
    have HS1 : Hid (Flat wc (some ⟨g1, 0, none⟩) len0 (Sl.slots l a1 a2)) := HR1.out.keep hb2
    have hB2 := bel_then hb1 hb2
    have HS0 : Hid (Flat wc a0 len0 l) := HF.out.1.keep hB2
    clear hr2 HC2 HR1 HF hb1 hb2 hi0 hi1 hi2 hi3 HK
    obtain ⟨U, hU⟩ : ∃ U, U = wc := ⟨_, rfl⟩
    subst hU
    go_upto_region 5 with fail
    go_cut [33, 34, 35, 36, 37, 38, 39, 40, 41, 42, 43, 44, 45, 46, 47] from 48 to 136 (fun v33 v34 v35 v36 v37 v38 v39 v40 v41 v42 v43 v44 v45 v46 v47 wx => v47 = .bool false ∧ Below U.heap.size U wx)
    case first =>
      rcases Nat.lt_trichotomy N len0 with h | h | h
      · have h1 : (N : Int) < (len0 : Int) := by omega
        have h2 : ¬ (len0 : Int) < (N : Int) := by omega
        obtain rfl : M = N := by have := HM.out; omega
        have e0 : ((len0 : Int) != (len0 : Int)) = false := by simp
        have e1 : ((M : Int) != (M : Int)) = false := by simp
        clear h HM
        go_wp2
        go_meet
        exact ⟨rfl, Below.refl _ _⟩
      · subst h
        obtain rfl : M = N := by have := HM.out; omega
        have h1 : ¬ (M : Int) < (M : Int) := by omega
        have e1 : ((M : Int) != (M : Int)) = false := by simp
        clear HM
        go_wp2
        go_meet
        exact ⟨rfl, Below.refl _ _⟩
      · have h1 : ¬ (N : Int) < (len0 : Int) := by omega
        have h2 : (len0 : Int) < (N : Int) := by omega
        obtain rfl : M = len0 := by have := HM.out; omega
        have e1 : ((M : Int) != (M : Int)) = false := by simp
        clear h HM
        go_wp2
        go_meet
        exact ⟨rfl, Below.refl _ _⟩
    case rest =>
      obtain ⟨rfl, hU⟩ := hcut
      have HU0 : Hid (Below U.heap.size U wc) := hU
      clear hU HM hN0 hN1
      go_wp2
      go_loopw [50] (fun i wr => ∃ j : Nat, j ≤ len0 ∧ i = .int .i64 j ∧ Below U.heap.size U wr) (fun i _ => len0 - (intOf i).toNat)
      case atStart => exact ⟨0, Nat.zero_le _, rfl, HU0.out⟩
      case round =>
        clear HU0
        obtain ⟨j, hj, rfl, hbel⟩ := hrel
        by_cases hlt : j < len0
        · have hli : (j : Int) < (len0 : Int) := by omega
          have hj0 : (0 : Int) ≤ (j : Int) := by omega
          have HB : Hid (Below U.heap.size U wr) := hbel
          clear hbel
          go_upto_region 10 with fail
          go_cut [53, 54, 55, 56, 57, 58, 59, 60, 61, 62, 63, 64, 65, 66, 67] from 68 to 135 (fun v53 v54 v55 v56 v57 v58 v59 v60 v61 v62 v63 v64 v65 v66 v67 wx => v67 = .bool false ∧ Below U.heap.size U wx)
          case first =>
            rename_i Jx Kx hRJ hMK
            obtain ⟨b5, o5, he, _, p0, p1⟩ := (HS1.out.keep HB.out).at hlt
            injection he with he; injection he with hx1 hx2 _; subst hx1; subst hx2
            rw [Sl.slots_at _ _ (by have := HL.out; omega), Nat.zero_add] at p0 p1
            have hne9 : Nonempty (Later wr) := Later.there wr
            by_cases hjm : j < M
            · obtain ⟨b5, o5, he, _, q0, q1⟩ := (HS2.out.keep HB.out).at hjm
              injection he with he; injection he with hx1 hx2 _; subst hx1; subst hx2
              rw [Sl.slots_at _ _ (by rw [List.length_take]; have := HL.out; omega), Sl.slot_take (by omega), Nat.zero_add] at q0 q1
              have d0 : ∀ x9 : Later wr, x9.u.cell? ⟨g1, j * 2, none⟩ = some (.int .i64 (Sl.slot l a1 a2 (j * 2))) := fun x9 => x9.cell p0
              have d1 : ∀ x9 : Later wr, x9.u.cell? ⟨g1, j * 2 + 1, none⟩ = some (.int .i64 (Sl.slot l a1 a2 (j * 2 + 1))) := fun x9 => x9.cell p1
              have d2 : ∀ x9 : Later wr, x9.u.cell? ⟨g2, j * 2, none⟩ = some (.int .i64 (Sl.slot l a1 a2 (j * 2))) := fun x9 => x9.cell q0
              have d3 : ∀ x9 : Later wr, x9.u.cell? ⟨g2, j * 2 + 1, none⟩ = some (.int .i64 (Sl.slot l a1 a2 (j * 2 + 1))) := fun x9 => x9.cell q1
              clear p0 p1 q0 q1
              generalize Sl.slot l a1 a2 (j * 2) = P at *
              generalize Sl.slot l a1 a2 (j * 2 + 1) = Q at *
              have en1 := neqPair P Q
              have tJ : decide (j < M) = true := by simpa using hjm
              have tI : decide ((j : Int) < (M : Int)) = true := by simpa using hjm
              have hjM : (j : Int) < (M : Int) := by omega
              refine region_later (by kernel_rfl) (by kernel_rfl) ?_
              repeat (go_big_quiet_step (fail))
              refine wpQuiet_nil ?_
              intro x9
              obtain ⟨W9, hb9⟩ := x9
              refine hMK _ _ (Met.intro (hRJ _ _ ?_))
              (repeat apply Exists.intro)
              refine ⟨?_, rfl⟩
              exact ⟨rfl, bel_then HB.out hb9⟩
            · have tJ : decide (j < M) = false := by simpa using hjm
              have tI : decide ((j : Int) < (M : Int)) = false := by simpa using hjm
              clear p0 p1
              refine region_later (by kernel_rfl) (by kernel_rfl) ?_
              repeat (go_big_quiet_step (fail))
              refine wpQuiet_nil ?_
              intro x9
              obtain ⟨W9, hb9⟩ := x9
              refine hMK _ _ (Met.intro (hRJ _ _ ?_))
              (repeat apply Exists.intro)
              refine ⟨?_, rfl⟩
              exact ⟨rfl, bel_then HB.out hb9⟩
          case rest =>
            obtain ⟨rfl, hbel⟩ := hcut
            clear HB
            have HB : Hid (Below U.heap.size U wc) := hbel
            clear hbel
            go_wp2
            go_loopw [68] (fun i wr => ∃ k : Nat, k ≤ 2 ∧ i = .int .i64 k ∧ Below U.heap.size U wr) (fun i _ => 2 - (intOf i).toNat)
            case atStart => exact ⟨0, Nat.zero_le _, rfl, HB.out⟩
            case round =>
              clear HB
              obtain ⟨k, hk, rfl, hbel⟩ := hrel
              by_cases hk2 : k < 2
              · have hkc : (k : Int) < 2 := by omega
                have hk0 : (0 : Int) ≤ (k : Int) := by omega
                obtain ⟨A, hA⟩ : ∃ A, Sl.slot l a1 a2 (j * 2 + k) = A := ⟨_, rfl⟩
                have HA : Hid (Sl.slot l a1 a2 (j * 2 + k) = A) := hA
                have hroom : 0 ≤ A → A < a2 := by rw [← hA]; exact Sl.slot_room
                have HB : Hid (Below U.heap.size U wr) := hbel
                clear hbel hA
                go_upto_region 15 with fail
                go_cut [71, 72, 73, 74, 75, 76, 77, 78, 79, 80, 81, 82, 83, 84, 85, 86, 87] from 88 to 134 (fun v71 v72 v73 v74 v75 v76 v77 v78 v79 v80 v81 v82 v83 v84 v85 v86 v87 wx => v87 = .bool false ∧ Below U.heap.size U wx)
                case first =>
                  obtain ⟨b5, o5, he, _, p0⟩ := (HS1.out.keep HB.out).one hlt hk2
                  injection he with he; injection he with hx1 hx2 _; subst hx1; subst hx2
                  rw [Sl.slots_at _ _ (by have := HL.out; omega), HA.out, Nat.zero_add] at p0
                  by_cases hC : a2 ≤ A
                  · have hneg : ¬ 0 ≤ A := fun h => by have := hroom h; omega
                    clear hroom
                    go_wp2
                    go_meet
                    exact ⟨rfl, HB.out⟩
                  · clear hroom
                    go_wp2
                    go_meet
                    exact ⟨rfl, HB.out⟩
                case rest =>
                  obtain ⟨rfl, hbel⟩ := hcut
                  clear HB hroom
                  have HB : Hid (Below U.heap.size U wc) := hbel
                  clear hbel
                  go_wp2
                  go_loopw [89] (fun i wr => ∃ u : Nat, u ≤ j ∧ i = .int .i64 u ∧ Below U.heap.size U wr) (fun i _ => j - (intOf i).toNat)
                  case atStart => exact ⟨0, Nat.zero_le _, rfl, HB.out⟩
                  case round =>
                    clear HB
                    obtain ⟨u, hu, rfl, hbel⟩ := hrel
                    by_cases huj : u < j
                    · have huc : (u : Int) < (j : Int) := by omega
                      have hu0 : (0 : Int) ≤ (u : Int) := by omega
                      have hul : (u : Int) < (len0 : Int) := by omega
                      have HB : Hid (Below U.heap.size U wr) := hbel
                      clear hbel
                      go_wp2
                      go_loopw [92] (fun i wr => ∃ r : Nat, r ≤ 2 ∧ i = .int .i64 r ∧ Below U.heap.size U wr) (fun i _ => 2 - (intOf i).toNat)
                      case atStart => exact ⟨0, Nat.zero_le _, rfl, HB.out⟩
                      case round =>
                        clear HB
                        obtain ⟨r, hr, rfl, hbel⟩ := hrel
                        by_cases hr2 : r < 2
                        · have hrc : (r : Int) < 2 := by omega
                          have hr0 : (0 : Int) ≤ (r : Int) := by omega
                          obtain ⟨b5, o5, he, _, p0⟩ := (HS1.out.keep hbel).one hlt hk2
                          injection he with he; injection he with hx1 hx2 _; subst hx1; subst hx2
                          obtain ⟨b5, o5, he, _, q0⟩ := (HS1.out.keep hbel).one (j := u) (by omega) hr2
                          injection he with he; injection he with hx1 hx2 _; subst hx1; subst hx2
                          obtain ⟨b0, o0, rfl, _, s0⟩ := (HS0.out.keep hbel).one hlt hk2
                          obtain ⟨b5, o5, he, _, s1⟩ := (HS0.out.keep hbel).one (j := u) (by omega) hr2
                          injection he with he; injection he with hx1 hx2 _; subst hx1; subst hx2
                          rw [Sl.slots_at _ _ (by have := HL.out; omega), Nat.zero_add] at p0 q0
                          rw [HA.out] at p0
                          have hun : 0 ≤ A → A = Sl.slot l a1 a2 (u * 2 + r) → l.getD (j * 2 + k) 0 ≠ l.getD (u * 2 + r) 0 := by
                            have h7 := Sl.slot_unlike (l := l) (E := a1) (C := a2) (i := j * 2 + k) (j := u * 2 + r) (by omega) (by have := HL.out; omega)
                            rw [HA.out] at h7
                            exact h7
                          have HB : Hid (Below U.heap.size U wr) := hbel
                          have hne9 : Nonempty (Later wr) := Later.there wr
                          generalize Sl.slot l a1 a2 (u * 2 + r) = B at *
                          generalize l.getD (j * 2 + k) 0 = X at *
                          generalize l.getD (u * 2 + r) 0 = Y at *
                          have d0 : ∀ x9 : Later wr, x9.u.cell? ⟨g1, j * 2 + k, none⟩ = some (.int .i64 A) := fun x9 => x9.cell p0
                          have d1 : ∀ x9 : Later wr, x9.u.cell? ⟨g1, u * 2 + r, none⟩ = some (.int .i64 B) := fun x9 => x9.cell q0
                          have d2 : ∀ x9 : Later wr, x9.u.cell? ⟨b0, o0 + j * 2 + k, none⟩ = some (.int .i64 X) := fun x9 => x9.cell s0
                          have d3 : ∀ x9 : Later wr, x9.u.cell? ⟨b0, o0 + u * 2 + r, none⟩ = some (.int .i64 Y) := fun x9 => x9.cell s1
                          clear hbel p0 q0 s0 s1
                          by_cases hA : 0 ≤ A
                          · by_cases hAB : A = B
                            · subst hAB
                              have hXY := hun hA rfl
                              clear hun
                              go_wp2
                              have tA : decide (0 ≤ A) = true := by simpa using hA
                              have eA : (A == A) = true := by simp
                              have eX : (X == Y) = false := by simpa using hXY
                              refine region_later (by kernel_rfl) (by kernel_rfl) ?_
                              repeat (go_big_quiet_step (fail))
                              refine wpQuiet_nil ?_
                              intro x9
                              obtain ⟨W9, hb9⟩ := x9
                              have HB9 : Hid (Below U.heap.size U W9) := bel_then HB.out hb9
                              clear d0 d1 d2 d3 hne9 HB
                              go_wp2
                              go_roundw
                              case rel => exact ⟨r + 1, by omega, by go_num, HB9.out⟩
                              case measure => simp [intOf]; omega
                            · clear hun
                              go_wp2
                              have tA : decide (0 ≤ A) = true := by simpa using hA
                              have eA : (A == B) = false := by simpa using hAB
                              refine region_later (by kernel_rfl) (by kernel_rfl) ?_
                              repeat (go_big_quiet_step (fail))
                              refine wpQuiet_nil ?_
                              intro x9
                              obtain ⟨W9, hb9⟩ := x9
                              have HB9 : Hid (Below U.heap.size U W9) := bel_then HB.out hb9
                              clear d0 d1 d2 d3 hne9 HB
                              go_wp2
                              go_roundw
                              case rel => exact ⟨r + 1, by omega, by go_num, HB9.out⟩
                              case measure => simp [intOf]; omega
                          · clear hun
                            go_wp2
                            have tA : decide (0 ≤ A) = false := by simpa using hA
                            refine region_later (by kernel_rfl) (by kernel_rfl) ?_
                            repeat (go_big_quiet_step (fail))
                            refine wpQuiet_nil ?_
                            intro x9
                            obtain ⟨W9, hb9⟩ := x9
                            have HB9 : Hid (Below U.heap.size U W9) := bel_then HB.out hb9
                            clear d0 d1 d2 d3 hne9 HB
                            go_wp2
                            go_roundw
                            case rel => exact ⟨r + 1, by omega, by go_num, HB9.out⟩
                            case measure => simp [intOf]; omega
                        · have hrr : r = 2 := by omega
                          subst hrr
                          have hli2 : ¬ ((2 : Nat) : Int) < 2 := by omega
                          go_wp2
                          go_roundw
                          case rel => exact ⟨u + 1, by omega, by go_num, hbel⟩
                          case measure => simp [intOf]; omega
                    · have huu : u = j := by omega
                      subst huu
                      have hli2 : ¬ (u : Int) < (u : Int) := by omega
                      go_wp2
                      go_roundw
                      case rel => exact ⟨k + 1, by omega, by go_num, hbel⟩
                      case measure => simp [intOf]; omega
              · have hkk : k = 2 := by omega
                subst hkk
                have hli2 : ¬ ((2 : Nat) : Int) < 2 := by omega
                go_wp2
                go_roundw
                case rel => exact ⟨j + 1, by omega, by go_num, hbel⟩
                case measure => simp [intOf]; omega
        · have hjn : j = len0 := by omega
          subst hjn
          have hli : ¬ (j : Int) < (j : Int) := by omega
          go_wp2_with (go_at_call 7; refine (sawake _).mono ?_; rintro e u5 ⟨rfl, hb5⟩)
          go_ret
          exact ⟨rfl, bel_then (bel_then hB2 hbel) hb5⟩

/- From the walk to the row. -/
set_option maxRecDepth 100000 in
theorem lifted (os : Os) (started : os.Started) (H : Type) (enc : TypeId × Value → H) :
    ReturnsInHanded {} Try.checked os 4 .any (Rows.slotsRoomSpec.pre6 enc Try.prog Try.f4 Rows.slotsRoomRow.domain false) (Rows.slotsRoomSpec.post enc Try.prog Try.f4 false true false false) := by
  refine returnsInHanded_of_change (C := Try.checked) own started (by kernel_rfl) Try.func4
    (ChangeSpec.witness6 (enc := enc) (C := Try.checked) false ⟨#[], #[.slice none 0 0, .int .i64 0, .int .i64 0, .int .u8 0], []⟩ 8 (by kernel_rfl) (by kernel_rfl) (by kernel_rfl) (by kernel_rfl)) ?_
  intro W base args ds gs before hval0 hW hcnd _
  have hval : ∀ (j : Nat) t v, Try.f4.params[j]? = some t → args[j]? = some v → Value.okWide Try.prog W .any base t v := hval0
  have hW' := hW
  obtain ⟨p, q, hA0, hV, rfl, hfz, hnd⟩ := hW
  have hA : DataW.TrodAll enc Try.prog W 0 (fun _ => true) true Try.f4.params.toList args.toList ds p := hA0
  rw [Try.params4] at hA hval
  obtain ⟨v0, vs0, d0, ds0, p0, q0, hargs, rfl, rfl, h0, r0⟩ := trodAll_cons hA
  obtain ⟨v1, vs1, d1, ds1, p1, q1, rfl, rfl, rfl, h1, r1⟩ := trodAll_cons r0
  obtain ⟨v2, vs2, d2, ds2, p2, q2, rfl, rfl, rfl, h2, r2⟩ := trodAll_cons r1
  obtain ⟨v3, vs3, d3, ds3, p3, q3, rfl, rfl, rfl, h3, r3⟩ := trodAll_cons r2
  obtain ⟨rfl, rfl, rfl⟩ := trodAll_nil r3
  obtain rfl : args = #[v0, v1, v2, v3] := by cases args; simp_all
  obtain ⟨rfl, rfl⟩ := trodVars_none hV
  obtain ⟨a0, len0, cap0, rfl⟩ := okWide_slice Try.underlying22 (hval 0 22 v0 rfl rfl)
  have k0 := h0
  have lt0 : ∀ x ∈ p0, x.block < W.heap.size := by obtain ⟨m, hm⟩ := k0; exact DataW.trod_lt m _ _ _ hm
  obtain ⟨m0, w0, f0⟩ : ∃ y, (sliceS (consS (intS .i64) (consS (intS .i64) noneS))).rep W everywhere [.slice a0 len0 cap0] y ∧ (∀ x0 ∈ y, ((Lit.int .i64 x0.1).wf = true ∧ ((Lit.int .i64 x0.2.1).wf = true ∧ True))) := by
    obtain ⟨fuel, hf⟩ := h0
    exact (opens_slice (A := (consS (intS .i64) (consS (intS .i64) noneS))) Try.underlying22 (show Try.prog.cellsOf 25 = 2 by kernel_rfl) (by exact Nat.succ_pos _) (opens_array (A := (consS (intS .i64) (consS (intS .i64) noneS))) Try.underlying25 (show Try.prog.cellsOf 25 = 2 by kernel_rfl) (show Try.prog.cellsOf 3 = 1 by kernel_rfl) (fs := [elem 3 0, elem 3 1]) (by rfl) (opensAt_cons (f := elem 3 0) (A := (intS .i64)) rfl (show Try.prog.cellsOf 3 = 1 by kernel_rfl) (opens_int Try.underlying3) (opensAt_cons (f := elem 3 1) (A := (intS .i64)) rfl (show Try.prog.cellsOf 3 = 1 by kernel_rfl) (opens_int Try.underlying3) opensAt_nil (by rfl)) (by rfl)))) H enc W _ _ _ fuel _ _ hf
  obtain ⟨a1, rfl, rfl, rfl, w1⟩ := open_int Try.underlying3 (hval 1 3 v1 rfl rfl) h1
  obtain ⟨a2, rfl, rfl, rfl, w2⟩ := open_int Try.underlying3 (hval 2 3 v2 rfl rfl) h2
  obtain ⟨a3, rfl, rfl, rfl, w3⟩ := open_int Try.underlying5 (hval 3 5 v3 rfl rfl) h3
  clear hA0 hval0
  refine (walk a0 len0 cap0 m0 a1 a2 a3 W w0 f0 w1 w2 w3).mono fun e W' ⟨he, bel⟩ => ?_
  subst he
  exact ⟨_, rfl, _, _, _, [], _, [], hW', trodAll_mk1 (shut_bool Try.underlying4 _), (trodAll_cons_mk (Below.trod laidOut (by kernel_rfl) (of_decide_eq_true (by kernel_rfl)) k0 bel lt0) (trodAll_cons_mk (shut_int Try.underlying3 w1) (trodAll_cons_mk (shut_int Try.underlying3 w2) (trodAll_cons_mk (shut_int Try.underlying5 w3) trodAll_mk0)))), rfl, bel.frame _, fun h => by cases h⟩

theorem over : Rows.slotsRoomRow.holds Try.pinned (OpenSpec.ofChange Rows.slotsRoomSpec) :=
  OpenClaim.holds_of_wide 4 Try.f4 rfl rfl rfl rfl rfl rfl rfl ⟨rfl, rfl, rfl, rfl, rfl⟩ rfl rfl rfl rfl rfl (by kernel_rfl) Try.func4 (by kernel_rfl)
    (of_decide_eq_true (by kernel_rfl)) (by unfold Func.isWrapper; first | (rw [if_pos (by decide +kernel)]; kernel_rfl) | (rw [if_neg (by decide +kernel)]; exact ⟨rfl, rfl⟩))
    (fun os started H enc _ => lifted os started H enc)

end Go.Proofs.Ythiohjoccbofjaa.slotsRoom

namespace Go.Proofs.Ythiohjoccbofjaa
theorem slotsRoom_holds : Rows.SlotsRoomSaid := slotsRoom.over
end Go.Proofs.Ythiohjoccbofjaa
