/- For every row v the law MatUnits returns true: rows of one One each, at their own places, leave a row as it is, held, and of noughts come noughts; no condition. -/
import Derived.Test.YtkbflhllojpgkaaRows
import Derived.Test.YtkbflhllojpgkaaMatD
import Derived.WalkKit
import Derived.ProofKit
import Derived.OpenShut
import Derived.ShutString
import Derived.ChangeOld
import Derived.Below
namespace Go.Proofs.Ytkbflhllojpgkaa.matUnits
open Go.ChangeShapes Go.WideShapes Go.ChangeAt Go.RowKit
open Go.ChangeMaps (open_string shut_string)
set_option linter.unusedVariables false

theorem own : ownKnob Try.prog.godebug = none := by kernel_rfl
theorem laidOut : laidOutB Try.prog = true := by kernel_rfl

/-- The rows of one One each. -/
def units (n k : Nat) : List (List Int) := (List.range k).map fun i => (List.replicate n 0).set i 65536
theorem units_succ (n k : Nat) : units n (k + 1) = units n k ++ [(List.replicate n 0).set k 65536] := by simp [units, List.range_succ]
theorem units_length (n k : Nat) : (units n k).length = k := by simp [units]
theorem units_mem {n k : Nat} {l : List Int} (h : l ∈ units n k) : ∃ i, i < k ∧ l = (List.replicate n 0).set i 65536 := by
  obtain ⟨i, hi, rfl⟩ := List.mem_map.1 h
  exact ⟨i, List.mem_range.1 hi, rfl⟩
theorem units_fits (n k : Nat) : Mx.Fits (units n k) n := by
  intro l hl
  obtain ⟨i, _, rfl⟩ := units_mem hl
  simp
theorem units_right (n k : Nat) : Mx.Right (units n k) k n := by
  refine ⟨by rw [units_length], fun l hl => ?_⟩
  obtain ⟨i, _, rfl⟩ := units_mem hl
  refine ⟨by simp, fun x hx => ?_⟩
  rcases List.mem_or_eq_of_mem_set hx with h | rfl
  · rw [(List.mem_replicate.1 h).2]; rfl
  · rfl
theorem app_at (m : List (List Int)) (v : List Int) (j : Nat) (hj : j < m.length) : (Mx.app m v).getD j 0 = Vx.dot (m.getD j []) v := by
  rw [List.getD_eq_getElem?_getD, List.getD_eq_getElem?_getD]
  simp [Mx.app, List.getElem?_eq_getElem hj]
theorem units_at (n k j : Nat) (hj : j < k) : (units n k).getD j [] = (List.replicate n 0).set j 65536 := by
  rw [List.getD_eq_getElem?_getD]; simp [units, hj]
theorem units_app (n : Nat) (v : List Int) (hv : v.length = n) (j : Nat) (hj : j < n) : (Mx.app (units n n) v).getD j 0 = Fx.hold (v.getD j 0) := by
  rw [app_at _ _ _ (by rw [units_length]; exact hj), units_at _ _ _ hj, Vx.dot_comm]
  subst hv
  exact Vx.dot_unit v j hj
theorem units_zero (n : Nat) (j : Nat) (hj : j < n) : (Mx.app (units n n) (List.replicate n 0)).getD j 0 = 0 := by
  rw [app_at _ _ _ (by rw [units_length]; exact hj), units_at _ _ _ hj]
  have h := Vx.dot_zeros ((List.replicate n 0).set j 65536)
  simpa using h

/- The walk: the call returns true, and nothing that was there is written. -/
theorem walk (a0 : Option Addr) (len0 cap0 : Nat) (m0 : List Int) (w : World) (w0 : (sliceS (intS .i64)).rep w everywhere [.slice a0 len0 cap0] m0) (f0 : ∀ x0 ∈ m0, (Lit.int .i64 x0).wf = true) :
    Calls Try.prog 5 #[.slice a0 len0 cap0] w fun e w' => e = .returned (.bool true) ∧ Below w.heap.size w w' := by
  have ha := Row.of_rep w0
  obtain ⟨hl0, _, _⟩ := sliceS_len w0
  clear w0 f0
  by_cases hl : 30 < len0
  · have hi : (30 : Int) < (len0 : Int) := by omega
    go_enter Try.func5, Try.ntmps5
    go_wp2_with fail
    refine (mawake _).mono ?_
    rintro e u1 ⟨rfl, hb1⟩
    go_wp2
    go_ret
    exact ⟨rfl, hb1⟩
  have hi : ¬ (30 : Int) < (len0 : Int) := by omega
  have HL : Hid (m0.length = len0) := hl0
  clear hl0
  obtain ⟨i0, hi0, hz0, hz1, hz2⟩ := info_parts Try.infoInt
  obtain ⟨j0, hj0, hy0, hy1, hy2⟩ := info_parts Try.infoRow
  go_enter Try.func5, Try.ntmps5
  go_wp2
  go_loopw [3, 18] (fun v i wr => ∃ k : Nat, k ≤ len0 ∧ i = .int .i64 k ∧ Own rowS wr w.heap.size 23 v (units len0 k) ∧ Below w.heap.size w wr) (fun _ i _ => len0 - (intOf i).toNat)
  case atStart => exact ⟨0, Nat.zero_le _, rfl, Own.nil _ _ _ _, Below.refl _ _⟩
  case round =>
    obtain ⟨k, hk, rfl, hown, hbel⟩ := hrel
    by_cases hlt : k < len0
    · have hli : (k : Int) < (len0 : Int) := by omega
      go_wp2_with (at_make; refine wpList_make_full _ rfl _ _ 23 rfl wr.heap.size 3 i0 (.int .i64 0) 1 Try.underlying23 hi0 hz0 hz1 _ _ _ _ len0 rfl rfl (by rfl) (by rfl) ?b2 ?b3 (Nat.le_refl _) ?_)
      case b2 => rw [hz2]; omega
      case b3 => unfold maxLen; omega
      intro u1 hrow hgrow
      have hB1 : Below wr.heap.size wr u1 := (Below.refl _ _).grown hgrow (Nat.le_refl _) (fun _ h => by cases h)
      have hrow1 : u1.ownsRow wr.heap.size 3 1 (.slice (some ⟨wr.heap.size, 0, none⟩) len0 len0) len0 ((fill [] len0).map (Value.int .i64)) := by
        have h := hrow
        rw [fill_zero] at h
        exact h
      obtain ⟨z, hz⟩ := fill_get [] len0 k hlt (by simp)
      have hce : u1.cell? ⟨wr.heap.size, k, none⟩ = some (.int .i64 z) := (hrow1.cellAt _ (by omega)).trans hz
      have hfe : u1.frozen? ⟨wr.heap.size, k, none⟩ = false := hrow1.frozenAt _
      have hlt1 : wr.heap.size < u1.heap.size := World.block_lt_of_cell? u1 _ hce
      have hst := (hrow1.stored k (.int .i64 65536)).1
      have hse : (((fill [] len0).map (Value.int .i64)).set k (.int .i64 65536)) = ((List.replicate len0 0).set k 65536).map (Value.int .i64) := by
        rw [← List.map_set]; simp [fill]
      rw [hse] at hst
      have hB2 : Below wr.heap.size wr (u1.setCell ⟨wr.heap.size, k, none⟩ (.int .i64 65536)) := hB1.setCell (Nat.le_refl _) _
      have hown2 := hown.keep hB2
      obtain ⟨_, _, hv, _, hr⟩ := Row.of_owns hst
      cases hv
      have hrep : rowS.rep (u1.setCell ⟨wr.heap.size, k, none⟩ (.int .i64 65536)) (fun b => b = wr.heap.size) [.slice (some ⟨wr.heap.size, 0, none⟩) len0 len0] ((List.replicate len0 0).set k 65536) :=
        hr.rep (Nat.le_refl _) (by unfold maxLen; omega) (fun b off h => by injection h with h; injection h with h; exact h.symm)
      have hsrc := rep_one (e := 23) hrep
      have hsz : (u1.setCell ⟨wr.heap.size, k, none⟩ (.int .i64 65536)).heap.size = u1.heap.size := by simp
      rw [hsz] at hsrc
      have hown3 := hown2.keep (new_bel _ (.cells #[.slice (some ⟨wr.heap.size, 0, none⟩) len0 len0] 23))
      have hB3 := bel_alloc (bel_then hbel hB2) (.cells #[.slice (some ⟨wr.heap.size, 0, none⟩) len0 len0] 23)
      have hne : ∀ b, ((b = wr.heap.size ∧ b < u1.heap.size) ∨ b = u1.heap.size) → some b ≠ u3.ownBlock := by
        intro b hb h
        have := (hown.lt b h.symm).2
        omega
      have HU : Hid (units len0 (k + 1) = units len0 k ++ [(List.replicate len0 0).set k 65536]) := units_succ _ _
      have HUL : Hid ((units len0 k).length = k) := units_length _ _
      clear hrow hgrow hrow1 hst hse hr hrep hz hsz hown hown2 hB1 hB2
      go_wp2_with (first
        | (at_builtin; refine wpList_app rowS (by simp [Region.wanted]) (.tmp 27) (.tmp 29) 22 rfl w.heap.size 23 j0 (.slice none 0 0) 24 Try.underlying22 hj0 hy0 hy1 hy2 rfl Nat.one_pos (by omega) (by rfl) hown3 (by rfl) hsrc hne (by have := HUL.out; omega) hB3.size ?_; intro a4 c4 u4 ho4 hg4 hb4 hat4)
        | fail)
      rw [← HU.out] at ho4
      have hB4 : Below w.heap.size w u4 := hB3.trans hb4
      clear hg4 hb4 hat4 hown3 hsrc hne hB3
      go_wp2
      go_roundw
      case rel => exact ⟨k + 1, by omega, by go_num, ho4, hB4⟩
      case measure => simp [intOf]; omega
    · have hkn : k = len0 := by omega
      subst hkn
      have hli : ¬ (k : Int) < (k : Int) := by omega
      obtain ⟨au, cu, rfl, hm⟩ := hown.rep
      rw [units_length] at hm ⊢
      have hv := ha.keep hbel
      clear hown ha hlt hk
      go_wp2_with fail
      refine (mapply au a0 k cu k cap0 (units k k) m0 everywhere wr hm hv (by omega) (by omega)).mono ?_
      rintro e u1 ⟨hg, hb1⟩
      obtain ⟨x1, c1, rfl, hr1⟩ := hg.yes (units_fits k k)
      have hm1 := Shape.below hm hb1
      have hv1 := hv.keep hb1
      have hB1 := bel_then hbel hb1
      clear hg hm hv hbel hb1
      go_wp2_with (at_make; refine wpList_make_full _ rfl _ _ 23 rfl u1.heap.size 3 i0 (.int .i64 0) 1 Try.underlying23 hi0 hz0 hz1 _ _ _ _ k rfl rfl (by rfl) (by rfl) ?b4 ?b5 (Nat.le_refl _) ?_)
      case b4 => rw [hz2]; omega
      case b5 => unfold maxLen; omega
      intro u2 hrow hgrow
      have hB2 : Below u1.heap.size u1 u2 := (Below.refl _ _).grown hgrow (Nat.le_refl _) (fun _ h => by cases h)
      rw [fill_zero] at hrow
      obtain ⟨_, _, hve, _, hzr⟩ := Row.of_owns hrow
      cases hve
      have hzr' : Row .i64 u2 (some ⟨u1.heap.size, 0, none⟩) k (List.replicate k 0) := by simpa [fill] using hzr
      have hm2 := Shape.below hm1 hB2
      have hv2 := hv1.keep hB2
      have hr2 := Shape.below hr1 hB2
      have hBB := bel_then hB1 hB2
      clear hrow hgrow hzr hm1 hv1 hr1 hB1 hB2
      go_wp2_with fail
      refine (mapply au (some ⟨u1.heap.size, 0, none⟩) k cu k k (units k k) (List.replicate k 0) everywhere u2 hm2 hzr' (by omega) (by omega)).mono ?_
      rintro e u3 ⟨hg, hb3⟩
      obtain ⟨x2, c2, rfl, hr3⟩ := hg.yes (units_fits k k)
      have hm3 := Shape.below hm2 hb3
      have hv3 := hv2.keep hb3
      have hx3 := Row.of_rep (Shape.below hr2 hb3)
      have hz3 := Row.of_rep hr3
      have hB3 := bel_then hBB hb3
      clear hg hm2 hv2 hr2 hr3 hzr' hBB hb3
      have e1 : ((k : Int) != (k : Int)) = false := by simp
      go_wp2_with fail
      refine by_says (right au k cu (units k k) everywhere k k u3 hm3 (by omega) (fun l hl => by rw [units_fits k k l hl]; omega)) (fun _ => ?_) (fun h => absurd (units_right k k) h)
      clear hm3
      go_wp2
      go_loop [77] (fun i => ∃ j : Nat, j ≤ k ∧ i = .int .i64 j) (fun i => k - (intOf i).toNat)
      case atStart => exact ⟨0, Nat.zero_le _, rfl⟩
      case round =>
        obtain ⟨j, hj, rfl⟩ := hrel
        by_cases hkl : j < k
        · have hki : (j : Int) < (k : Int) := by omega
          obtain ⟨bx, ox, rfl, _, hcx⟩ := hx3.at hkl
          obtain ⟨by1, oy, rfl, _, hcy⟩ := hz3.at hkl
          obtain ⟨ba, oa, rfl, _, hca⟩ := hv3.at hkl
          rw [units_app k m0 HL.out j hkl] at hcx
          rw [units_zero k j hkl] at hcy
          generalize m0.getD j 0 = v at *
          have h5 : 2147483647 < v ∨ v = 2147483647 ∨ (-2147483647 < v ∧ v < 2147483647) ∨ v = -2147483647 ∨ v < -2147483647 := by omega
          rcases h5 with h5 | rfl | ⟨h5, h6⟩ | rfl | h5
          · rw [Fx.hold_big h5] at hcx
            go_wp2
            all_goals
              go_round
              case rel => exact ⟨j + 1, by omega, by go_num⟩
              case measure => simp [intOf]; omega
          · rw [show Fx.hold 2147483647 = 2147483647 from rfl] at hcx
            go_wp2
            all_goals
              go_round
              case rel => exact ⟨j + 1, by omega, by go_num⟩
              case measure => simp [intOf]; omega
          · rw [Fx.hold_id (by omega) (by omega)] at hcx
            have e3 : (v != v) = false := by simp
            go_wp2
            all_goals
              go_round
              case rel => exact ⟨j + 1, by omega, by go_num⟩
              case measure => simp [intOf]; omega
          · rw [show Fx.hold (-2147483647) = -2147483647 from rfl] at hcx
            go_wp2
            all_goals
              go_round
              case rel => exact ⟨j + 1, by omega, by go_num⟩
              case measure => simp [intOf]; omega
          · rw [Fx.hold_small h5] at hcx
            go_wp2
            all_goals
              go_round
              case rel => exact ⟨j + 1, by omega, by go_num⟩
              case measure => simp [intOf]; omega
        · go_wp2_with fail
          refine (mawake _).mono ?_
          rintro e u5 ⟨rfl, hb5⟩
          have hB6 := bel_then hB3 hb5
          clear hb5 hB3
          go_wp2
          go_ret
          exact ⟨rfl, hB6⟩

/- From the walk to the row. -/
set_option maxRecDepth 100000 in
theorem lifted (os : Os) (started : os.Started) (H : Type) (enc : TypeId × Value → H) :
    ReturnsInHanded {} Try.checked os 5 .any (Rows.matUnitsSpec.pre6 enc Try.prog Try.f5 Rows.matUnitsRow.domain false) (Rows.matUnitsSpec.post enc Try.prog Try.f5 false true false false) := by
  refine returnsInHanded_of_change (C := Try.checked) own started (by kernel_rfl) Try.func5
    (ChangeSpec.witness6 (enc := enc) (C := Try.checked) false ⟨#[], #[.slice none 0 0], []⟩ 8 (by kernel_rfl) (by kernel_rfl) (by kernel_rfl) (by kernel_rfl)) ?_
  intro W base args ds gs before hval0 hW hcnd _
  have hval : ∀ (j : Nat) t v, Try.f5.params[j]? = some t → args[j]? = some v → Value.okWide Try.prog W .any base t v := hval0
  have hW' := hW
  obtain ⟨p, q, hA0, hV, rfl, hfz, hnd⟩ := hW
  have hA : DataW.TrodAll enc Try.prog W 0 (fun _ => true) true Try.f5.params.toList args.toList ds p := hA0
  rw [Try.params5] at hA hval
  obtain ⟨v0, vs0, d0, ds0, p0, q0, hargs, rfl, rfl, h0, r0⟩ := trodAll_cons hA
  obtain ⟨rfl, rfl, rfl⟩ := trodAll_nil r0
  obtain rfl : args = #[v0] := by cases args; simp_all
  obtain ⟨rfl, rfl⟩ := trodVars_none hV
  obtain ⟨a0, len0, cap0, rfl⟩ := okWide_slice Try.underlying23 (hval 0 23 v0 rfl rfl)
  have k0 := h0
  have lt0 : ∀ x ∈ p0, x.block < W.heap.size := by obtain ⟨m, hm⟩ := k0; exact DataW.trod_lt m _ _ _ hm
  obtain ⟨m0, w0, f0⟩ : ∃ y, (sliceS (intS .i64)).rep W everywhere [.slice a0 len0 cap0] y ∧ ∀ x0 ∈ y, (Lit.int .i64 x0).wf = true := by
    obtain ⟨fuel, hf⟩ := h0
    exact (opens_slice (A := (intS .i64)) Try.underlying23 (show Try.prog.cellsOf 3 = 1 by kernel_rfl) (by exact Nat.one_pos) (opens_int Try.underlying3)) H enc W _ _ _ fuel _ _ hf
  clear hA0 hval0
  refine (walk a0 len0 cap0 m0 W w0 f0).mono fun e W' ⟨he, bel⟩ => ?_
  subst he
  exact ⟨_, rfl, _, _, _, [], _, [], hW', trodAll_mk1 (shut_bool Try.underlying4 _), (trodAll_cons_mk (Below.trod laidOut (by kernel_rfl) (of_decide_eq_true (by kernel_rfl)) k0 bel lt0) trodAll_mk0), rfl, bel.frame _, fun h => by cases h⟩

theorem over : Rows.matUnitsRow.holds Try.pinned (OpenSpec.ofChange Rows.matUnitsSpec) :=
  OpenClaim.holds_of_wide 5 Try.f5 rfl rfl rfl rfl rfl rfl rfl ⟨rfl, rfl, rfl, rfl, rfl⟩ rfl rfl rfl rfl rfl (by kernel_rfl) Try.func5 (by kernel_rfl)
    (of_decide_eq_true (by kernel_rfl)) (by unfold Func.isWrapper; first | (rw [if_pos (by decide +kernel)]; kernel_rfl) | (rw [if_neg (by decide +kernel)]; exact ⟨rfl, rfl⟩))
    (fun os started H enc _ => lifted os started H enc)

end Go.Proofs.Ytkbflhllojpgkaa.matUnits

namespace Go.Proofs.Ytkbflhllojpgkaa
theorem matUnits_holds : Rows.MatUnitsSaid := matUnits.over
end Go.Proofs.Ytkbflhllojpgkaa
