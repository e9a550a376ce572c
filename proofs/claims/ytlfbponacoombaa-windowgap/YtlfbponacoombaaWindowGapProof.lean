/- Numbers that leave one out are all accepted; up to 32 of them Low stays there, and the one left out is accepted behind, once; above that it is given up: for every gap and count. -/
import Derived.Test.YtlfbponacoombaaRows
import Derived.Test.YtlfbponacoombaaWinE
import Derived.WalkKit
import Derived.ProofKit
import Derived.OpenShut
import Derived.ShutString
import Derived.ChangeOld
import Derived.Below
namespace Go.Proofs.Ytlfbponacoombaa.windowGap
open Go.ChangeShapes Go.WideShapes Go.ChangeAt Go.RowKit
open Go.ChangeMaps (open_string shut_string)
set_option linter.unusedVariables false

theorem own : ownKnob Try.prog.godebug = none := by kernel_rfl
theorem laidOut : laidOutB Try.prog = true := by kernel_rfl

/- The walk: the call returns true, and nothing that was there is written. -/
set_option maxHeartbeats 4000000 in
theorem walk (a0 : Int) (a1 : Int) (w : World) (w0 : (Lit.int .u8 a0).wf = true) (w1 : (Lit.int .u8 a1).wf = true) :
    Calls Try.prog 7 #[.int .u8 a0, .int .u8 a1] w fun e w' => e = .returned (.bool true) ∧ Below w.heap.size w w' := by
  have hb0 := bounds_u8 w0
  have hb1 := bounds_u8 w1
  clear w0 w1
  obtain ⟨g, hg⟩ : ∃ g : Nat, a0 % 40 = (g : Int) := ⟨(a0 % 40).toNat, by omega⟩
  obtain ⟨n, hn⟩ : ∃ n : Nat, a1 % 60 = (n : Int) := ⟨(a1 % 60).toNat, by omega⟩
  have hg40 : g < 40 := by omega
  have hn60 : n < 60 := by omega
  go_enter Try.func7, Try.ntmps7
  go_wp2
  clear hg hn
  go_loopw [23] (fun v23 wr => ∃ (k : Nat) (a1 : Option Addr) (c1 : Nat), k ≤ g ∧ v23 = .int .i64 k ∧ rowS.rep wr (· ≠ w.heap.size) [.slice a1 0 c1] [] ∧ Box wr w.heap.size 24 #[.int .i64 k, .slice a1 0 c1] ∧ Below w.heap.size w wr) (fun i _ => g - (intOf i).toNat)
  case atStart => exact ⟨0, none, 0, Nat.zero_le _, rfl, rep_none _ _ _, Box.new _ _ _, new_bel _ _⟩
  case round =>
    obtain ⟨k, a2, c2, hk, rfl, hrep, hbox, hbel⟩ := hrel
    have p0 := hbox.cell 0 rfl
    have p1 := hbox.cell 1 rfl
    have f0 := hbox.free 0
    have f1 := hbox.free 1
    by_cases hlt : k < g
    · have hli : (k : Int) < (g : Int) := by omega
      have HI : Hid (Nx.Fresh ⟨(k : Int), []⟩ k ∧ Nx.put ⟨(k : Int), []⟩ k = ⟨(k : Int) + 1, []⟩) := Nx.in_order ⟨by omega, by omega⟩
      clear f0 f1
      go_wp2_with fail
      refine (accept_in k a2 0 c2 [] k wr (Shape.any hrep) (by omega) HI.out.1 _ _ HI.out.2 0 rfl).mono ?_
      rintro e u1 ⟨hb1, a3, c3, rfl, hr3⟩
      have hlt0 := hbox.lt
      have k1 := hbox.keep hb1
      have hr4 : rowS.rep u1 (· ≠ w.heap.size) [.slice a3 0 c3] [] := rowS.mono hr3 fun b hb _ => by omega
      have hB4 := bel_then hbel hb1
      clear hbox hrep hbel p0 p1 hr3
      have p0 := k1.cell 0 rfl
      have p1 := k1.cell 1 rfl
      have f0 := k1.free 0
      have f1 := k1.free 1
      go_wp2
      go_roundw
      case rel => exact ⟨k + 1, a3, c3, by omega, by go_num, Shape.all2 hr4 (fun k hk _ => hk) _ _, k1.all2 _ _, bel_all2 hB4 (Nat.le_refl _) _ _⟩
      case measure => simp [intOf]; omega
    · have hkg : k = g := by omega
      subst hkg
      have hli : ¬ (k : Int) < (k : Int) := by omega
      have HZ : Hid (Nx.gap (k : Int) 0 = ⟨(k : Int), []⟩) := rfl
      go_wp2
      go_loopw [34] (fun v34 wr => ∃ (j : Nat) (L : Int) (l : List Int) (a1 : Option Addr) (n1 c1 : Nat), j ≤ n ∧ v34 = .int .i64 j ∧ Nx.gap (k : Int) j = ⟨L, l⟩ ∧ rowS.rep wr (· ≠ w.heap.size) [.slice a1 n1 c1] l ∧ Box wr w.heap.size 24 #[.int .i64 L, .slice a1 n1 c1] ∧ Below w.heap.size w wr) (fun i _ => n - (intOf i).toNat)
      case atStart => exact ⟨0, k, [], a2, 0, c2, Nat.zero_le _, rfl, HZ.out, hrep, hbox, hbel⟩
      case round =>
        clear hrep hbox hbel p0 p1 f0 f1
        obtain ⟨j, L, l, a2, n2, c2, hj, rfl, hgap, hrep, hbox, hbel⟩ := hrel
        have hl := (sliceS_len hrep).1
        have hn2 : n2 ≤ 1000 := by
          have := (Nx.gap_right (g := (k : Int)) (k := j) ⟨by omega, by omega⟩ (by omega)).2.2.1
          rw [hgap] at this
          have h3 : l.length ≤ 32 := this
          omega
        have p0 := hbox.cell 0 rfl
        have p1 := hbox.cell 1 rfl
        by_cases hlt2 : j < n
        · have hlj : (j : Int) < (n : Int) := by omega
          obtain ⟨L3, l3, hV⟩ : ∃ L3 l3, Nx.gap (k : Int) (j + 1) = ⟨L3, l3⟩ := ⟨_, _, rfl⟩
          obtain ⟨n3, hn3⟩ : ∃ n3, l3.length = n3 := ⟨_, rfl⟩
          have HF : Hid (Nx.Fresh ⟨L, l⟩ ((k : Int) + 1 + (j : Int))) := by
            show Nx.Fresh _ _
            rw [← hgap]
            exact Nx.gap_fresh ⟨by omega, by omega⟩ (by omega)
          have HV : Hid (Nx.put ⟨L, l⟩ ((k : Int) + 1 + (j : Int)) = ⟨L3, l3⟩) := by
            show _ = _
            rw [← hgap, Nx.gap_put, hV]
          have HG : Hid (Nx.gap (k : Int) (j + 1) = ⟨L3, l3⟩) := hV
          have HN : Hid (l3.length = n3) := hn3
          clear hV hn3 hgap
          go_wp2_with fail
          refine (accept_in L a2 n2 c2 l ((k : Int) + 1 + (j : Int)) wr (Shape.any hrep) hn2 HF.out L3 l3 HV.out n3 HN.out).mono ?_
          rintro e u1 ⟨hb1, a3, c3, rfl, hr3⟩
          have hlt0 := hbox.lt
          have k1 := (hbox.keep hb1).keep (new_bel u1 (.cells #[.int .i64 L3, .slice a3 n3 c3] 24))
          have hr4 : rowS.rep (u1.alloc (.cells #[.int .i64 L3, .slice a3 n3 c3] 24)) (· ≠ w.heap.size) [.slice a3 n3 c3] l3 := rowS.mono (Shape.below hr3 (new_bel u1 _)) fun b hb _ => by omega
          have hB4 := bel_alloc (bel_then hbel hb1) (.cells #[.int .i64 L3, .slice a3 n3 c3] 24)
          clear hbox hrep hbel p0 p1 hr3
          have p0 := k1.cell 0 rfl
          have p1 := k1.cell 1 rfl
          have f0 := k1.free 0
          have f1 := k1.free 1
          go_wp2
          go_roundw
          case rel => exact ⟨j + 1, L3, l3, a3, n3, c3, by omega, by go_num, HG.out, Shape.all2 hr4 (fun k hk _ => hk) _ _, k1.all2 _ _, bel_all2 hB4 (Nat.le_refl _) _ _⟩
          case measure => simp [intOf]; omega
        · have hjn : j = n := by omega
          subst hjn
          have hlj : ¬ (j : Int) < (j : Int) := by omega
          by_cases h32 : j ≤ 32
          · have h32i : (j : Int) ≤ 32 := by omega
            have d1 : decide ((j : Int) ≤ 32) = true := decide_eq_true h32i
            have h32g : ¬ (32 : Int) < (j : Int) := by omega
            have HF : Hid (Nx.Fresh ⟨L, l⟩ (k : Int)) := by
              show Nx.Fresh _ _
              rw [← hgap]
              exact Nx.gap_own ⟨by omega, by omega⟩ h32
            have HV : Hid (Nx.put ⟨L, l⟩ (k : Int) = ⟨(k : Int) + (j : Int) + 1, []⟩) := by
              show _ = _
              rw [← hgap]
              exact Nx.gap_fill' h32
            have hLk : L = (k : Int) := by
              have : (Nx.gap (k : Int) j).low = (k : Int) := by unfold Nx.gap; rw [if_pos h32]
              rw [hgap] at this
              exact this
            subst hLk
            have HG : Hid (¬ Nx.Fresh ⟨(k : Int) + (j : Int) + 1, []⟩ (k : Int)) := fun hf => by have : (k : Int) + (j : Int) + 1 ≤ (k : Int) := hf.2.1; omega
            clear hgap
            go_wp2_with fail
            refine (accept_in k a2 n2 c2 l k wr (Shape.any hrep) hn2 HF.out _ [] HV.out 0 rfl).mono ?_
            rintro e u1 ⟨hb1, a3, c3, rfl, hr3⟩
            have k1 := (hbox.keep hb1).keep (new_bel u1 (.cells #[.int .i64 ((k : Int) + (j : Int) + 1), .slice a3 0 c3] 24))
            have k2 := Box.new u1 24 #[.int .i64 ((k : Int) + (j : Int) + 1), .slice a3 0 c3]
            have hr4 := Shape.any (Shape.below hr3 (new_bel u1 (.cells #[.int .i64 ((k : Int) + (j : Int) + 1), .slice a3 0 c3] 24)))
            have hB4 := bel_alloc (bel_then hbel hb1) (.cells #[.int .i64 ((k : Int) + (j : Int) + 1), .slice a3 0 c3] 24)
            clear hbox hrep hbel p0 p1 hr3
            go_wp2_with fail
            refine (accept_out _ a3 0 c3 [] k _ hr4 (by omega) HG.out).mono ?_
            rintro e u5 ⟨hb5, a6, c6, rfl, hr6⟩
            have k3 := (k1.keep hb5).keep (new_bel u5 (.cells #[.int .i64 ((k : Int) + (j : Int) + 1), .slice a6 0 c6] 24))
            have k4 := (k2.keep hb5).keep (new_bel u5 (.cells #[.int .i64 ((k : Int) + (j : Int) + 1), .slice a6 0 c6] 24))
            have hB6 := bel_alloc (bel_then hB4 hb5) (.cells #[.int .i64 ((k : Int) + (j : Int) + 1), .slice a6 0 c6] 24)
            clear k1 k2 hr4 hB4 hr6
            have p0 := k3.cell 0 rfl
            have g0 := k4.cell 0 rfl
            go_wp2_with (go_at_call 8; refine (wawake _).mono ?_; rintro e u7 ⟨rfl, hb7⟩)
            go_ret
            exact ⟨rfl, bel_then hB6 hb7⟩
          · have h32i : ¬ (j : Int) ≤ 32 := by omega
            have d1 : decide ((j : Int) ≤ 32) = false := decide_eq_false h32i
            have h32g : (32 : Int) < (j : Int) := by omega
            have hLk : L = (k : Int) + 1 + (j : Int) := by
              have : (Nx.gap (k : Int) j).low = (k : Int) + 1 + (j : Int) := by unfold Nx.gap; rw [if_neg h32]
              rw [hgap] at this
              exact this
            have HG : Hid (¬ Nx.Fresh ⟨L, l⟩ (k : Int)) := fun hf => by have : L ≤ (k : Int) := hf.2.1; omega
            clear hgap hLk
            go_wp2_with fail
            refine (accept_out L a2 n2 c2 l k wr (Shape.any hrep) hn2 HG.out).mono ?_
            rintro e u1 ⟨hb1, a3, c3, rfl, hr3⟩
            have k2 := Box.new u1 24 #[.int .i64 L, .slice a3 n2 c3]
            have hr4 := Shape.any (Shape.below hr3 (new_bel u1 (.cells #[.int .i64 L, .slice a3 n2 c3] 24)))
            have hB4 := bel_alloc (bel_then hbel hb1) (.cells #[.int .i64 L, .slice a3 n2 c3] 24)
            clear hbox hrep hbel p0 p1 hr3
            go_wp2_with fail
            refine (accept_out L a3 n2 c3 l k _ hr4 hn2 HG.out).mono ?_
            rintro e u5 ⟨hb5, a6, c6, rfl, hr6⟩
            have hB6 := bel_alloc (bel_then hB4 hb5) (.cells #[.int .i64 L, .slice a6 n2 c6] 24)
            clear k2 hr4 hB4 hr6
            go_wp2_with (go_at_call 8; refine (wawake _).mono ?_; rintro e u7 ⟨rfl, hb7⟩)
            go_ret
            exact ⟨rfl, bel_then hB6 hb7⟩

/- From the walk to the row. -/
set_option maxRecDepth 100000 in
theorem lifted (os : Os) (started : os.Started) (H : Type) (enc : TypeId × Value → H) :
    ReturnsInHanded {} Try.checked os 7 .any (Rows.windowGapSpec.pre6 enc Try.prog Try.f7 Rows.windowGapRow.domain false) (Rows.windowGapSpec.post enc Try.prog Try.f7 false true false false) := by
  refine returnsInHanded_of_change (C := Try.checked) own started (by kernel_rfl) Try.func7
    (ChangeSpec.witness6 (enc := enc) (C := Try.checked) false ⟨#[], #[.int .u8 0, .int .u8 0], []⟩ 8 (by kernel_rfl) (by kernel_rfl) (by kernel_rfl) (by kernel_rfl)) ?_
  intro W base args ds gs before hval0 hW hcnd _
  have hval : ∀ (j : Nat) t v, Try.f7.params[j]? = some t → args[j]? = some v → Value.okWide Try.prog W .any base t v := hval0
  have hW' := hW
  obtain ⟨p, q, hA0, hV, rfl, hfz, hnd⟩ := hW
  have hA : DataW.TrodAll enc Try.prog W 0 (fun _ => true) true Try.f7.params.toList args.toList ds p := hA0
  rw [Try.params7] at hA hval
  obtain ⟨v0, vs0, d0, ds0, p0, q0, hargs, rfl, rfl, h0, r0⟩ := trodAll_cons hA
  obtain ⟨v1, vs1, d1, ds1, p1, q1, rfl, rfl, rfl, h1, r1⟩ := trodAll_cons r0
  obtain ⟨rfl, rfl, rfl⟩ := trodAll_nil r1
  obtain rfl : args = #[v0, v1] := by cases args; simp_all
  obtain ⟨rfl, rfl⟩ := trodVars_none hV
  obtain ⟨a0, rfl, rfl, rfl, w0⟩ := open_int Try.underlying5 (hval 0 5 v0 rfl rfl) h0
  obtain ⟨a1, rfl, rfl, rfl, w1⟩ := open_int Try.underlying5 (hval 1 5 v1 rfl rfl) h1
  clear hA0 hval0
  refine (walk a0 a1 W w0 w1).mono fun e W' ⟨he, bel⟩ => ?_
  subst he
  exact ⟨_, rfl, _, _, _, [], _, [], hW', trodAll_mk1 (shut_bool Try.underlying4 _), (trodAll_cons_mk (shut_int Try.underlying5 w0) (trodAll_cons_mk (shut_int Try.underlying5 w1) trodAll_mk0)), rfl, bel.frame _, fun h => by cases h⟩

theorem over : Rows.windowGapRow.holds Try.pinned (OpenSpec.ofChange Rows.windowGapSpec) :=
  OpenClaim.holds_of_wide 7 Try.f7 rfl rfl rfl rfl rfl rfl rfl ⟨rfl, rfl, rfl, rfl, rfl⟩ rfl rfl rfl rfl rfl (by kernel_rfl) Try.func7 (by kernel_rfl)
    (of_decide_eq_true (by kernel_rfl)) (by unfold Func.isWrapper; first | (rw [if_pos (by decide +kernel)]; kernel_rfl) | (rw [if_neg (by decide +kernel)]; exact ⟨rfl, rfl⟩))
    (fun os started H enc _ => lifted os started H enc)

end Go.Proofs.Ytlfbponacoombaa.windowGap

namespace Go.Proofs.Ytlfbponacoombaa
theorem windowGap_holds : Rows.WindowGapSaid := windowGap.over
end Go.Proofs.Ytlfbponacoombaa
