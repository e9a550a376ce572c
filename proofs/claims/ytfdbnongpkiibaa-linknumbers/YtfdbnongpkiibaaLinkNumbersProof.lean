/- For every row of bools switchboardlaw10.LinkNumbers returns true: numbers that pushes tell of rise by one, whatever was told of between. -/
import Derived.Test.YtfdbnongpkiibaaRows
import Derived.Test.YtfdbnongpkiibaaLinkH
import Derived.WalkKit
import Derived.ProofKit
import Derived.OpenShut
import Derived.ShutString
import Derived.ChangeOld
import Derived.Below
namespace Go.Proofs.Ytfdbnongpkiibaa.linkNumbers
open Go.ChangeShapes Go.WideShapes Go.ChangeAt Go.RowKit
open Go.ChangeMaps (open_string shut_string)
set_option linter.unusedVariables false

theorem own : ownKnob Try.prog.godebug = none := by kernel_rfl
theorem laidOut : laidOutB Try.prog = true := by kernel_rfl

/- The walk: the call returns true, and nothing that was there is written. -/
set_option maxHeartbeats 4000000 in
theorem walk (a0 : Option Addr) (len0 cap0 : Nat) (m0 : List Bool) (w : World) (w0 : (sliceS boolS).rep w everywhere [.slice a0 len0 cap0] m0) (f0 : (∀ x0 ∈ m0, True)) :
    Calls Try.prog 6 #[.slice a0 len0 cap0] w fun e w' => e = .returned (.bool true) ∧ Below w.heap.size w w' := by
  have hA := Shape.low w0
  clear w0 f0
  go_enter Try.func6, Try.ntmps6
  go_wp2
  go_loopw [4, 5] (fun v4 v5 wr => ∃ (k m : Nat) (l : List Fr) (a1 : Option Addr) (c1 : Nat), k ≤ len0 ∧ k ≤ 200 ∧ m ≤ k ∧ m ≤ 60 ∧ v4 = .int .i64 m ∧ v5 = .int .i64 k ∧ Lx.Right (k : Int) l ∧ l.length = m ∧ frsS.rep wr (· ≠ w.heap.size) [.slice a1 m c1] l ∧ Box wr w.heap.size 24 #[.int .i64 k, .slice a1 m c1] ∧ Below w.heap.size w wr) (fun _ i _ => 200 - (intOf i).toNat)
  case atStart => exact ⟨0, 0, [], none, 0, Nat.zero_le _, Nat.zero_le _, Nat.le_refl _, Nat.zero_le _, rfl, rfl, Lx.right_nil _ (by omega) (by omega), rfl, rep_none _ _ _, Box.new _ _ _, new_bel _ _⟩
  case round =>
    obtain ⟨k, m, l, a1, c1, hk, hk2, hmk, hm60, rfl, rfl, hR, hlen, hrep, hbox, hbel⟩ := hrel
    have p0 := hbox.cell 0 rfl
    have p1 := hbox.cell 1 rfl
    by_cases hlt : k < len0 ∧ k < 200
    · obtain ⟨hlt1, hlt2⟩ := hlt
      have hli : (k : Int) < (len0 : Int) := by omega
      have hli2 : (k : Int) < 200 := by omega
      obtain ⟨b1, o1, rfl, hbF, hbw, hcell⟩ := bool_at (Shape.now hA hbel) hlt1
      have HP : Hid (Lx.Push (k : Int) l ⟨#[120]⟩ 0 ((k : Int) + 1) (l ++ [fr k ⟨#[120]⟩]) k) := Lx.push_ok hR (by omega) (by omega)
      have HQ : Hid ((l ++ [fr (k : Int) ⟨#[120]⟩]).length = m + 1) := by show _ = _; rw [List.length_append, hlen]; rfl
      have HR2 : Hid (Lx.Right (((k + 1 : Nat)) : Int) (l ++ [fr (k : Int) ⟨#[120]⟩])) := by
        have := Lx.push_right (t := ⟨#[120]⟩) hR (by omega) (by omega)
        exact this
      have HR3 : Hid (Lx.Right (((k + 1 : Nat)) : Int) l) := by
        have h5 := Lx.told_right (k : Int) HR2.out
        rwa [Lx.told_pushed hR] at h5
      have HT : Hid (Lx.told (l ++ [fr (k : Int) ⟨#[120]⟩]) k = l) := Lx.told_pushed hR
      have HL : Hid (l.length = m) := hlen
      clear hR hlen
      have en : ((k : Int) != (k : Int)) = false := by simp
      have en1 : ((k : Int) + 1 != (k : Int) + 1) = false := by simp
      go_wp2_with fail
      refine (lpush k a1 m c1 l ⟨#[120]⟩ wr (Shape.any hrep) (by omega) 0 _ _ _ HP.out (m + 1) HQ.out).mono ?_
      rintro e u1 ⟨hb1, a2, c2, rfl, hr2⟩
      have hbn := bel_then hb1 (new_bel u1 (.cells #[.int .i64 ((k : Int) + 1), .slice a2 (m + 1) c2] 24))
      have k2 := hbox.keep hbn
      have hr3 := Shape.below hr2 (new_bel u1 (.cells #[.int .i64 ((k : Int) + 1), .slice a2 (m + 1) c2] 24))
      have hltN := hbox.lt
      have hr4 := Shape.all2 (b := w.heap.size) hr3 (fun j hj _ => by have h7 : wr.heap.size ≤ j := hj; omega) (.int .i64 ((k : Int) + 1)) (.slice a2 (m + 1) c2)
      have hr5 := frsS.mono hr4 (F' := (· ≠ w.heap.size)) (fun j hj _ => by have h7 : wr.heap.size ≤ j := hj; omega)
      have k3 := k2.all2 (.int .i64 ((k : Int) + 1)) (.slice a2 (m + 1) c2)
      have hB3 := bel_all2 (bel_then hbel hbn) (b := w.heap.size) (Nat.le_refl _) (.int .i64 ((k : Int) + 1)) (.slice a2 (m + 1) c2)
      clear p0 p1
      have z0 : ∀ o, (u1.alloc o).cell? ⟨w.heap.size, 0, none⟩ = some (.int .i64 k) := fun o => ((hbox.keep hb1).keep (new_bel u1 o)).cell 0 rfl
      have z1 : ∀ o, (u1.alloc o).cell? ⟨w.heap.size, 1, none⟩ = some (.slice a1 m c1) := fun o => ((hbox.keep hb1).keep (new_bel u1 o)).cell 1 rfl
      have f0 : ∀ o, (u1.alloc o).frozen? ⟨w.heap.size, 0, none⟩ = false := fun o => ((hbox.keep hb1).keep (new_bel u1 o)).free 0
      have f1 : ∀ o, (u1.alloc o).frozen? ⟨w.heap.size, 1, none⟩ = false := fun o => ((hbox.keep hb1).keep (new_bel u1 o)).free 1
      go_upto_region 10 with fail
      clear z0 z1 f0 f1 hbox hrep hbel hb1 hr2 hbn k2 hr3 hr4 hcell
      generalize (((u1.alloc (.cells #[.int .i64 ((k : Int) + 1), .slice a2 (m + 1) c2] 24)).setCell ⟨w.heap.size, 0, none⟩ (.int .i64 ((k : Int) + 1))).setCell ⟨w.heap.size, 1, none⟩ (.slice a2 (m + 1) c2)) = W at *
      generalize u1.heap.size = g at *
      obtain ⟨b2, o2, he, _, hbw2, hcell⟩ := bool_at (Shape.now hA hB3) hlt1
      have e := Option.some.inj he
      injection e with e1 e2 e3
      subst e1
      subst e2
      clear he
      have z0 := k3.cell 0 rfl
      have z1 := k3.cell 1 rfl
      have f0 := k3.free 0
      have f1 := k3.free 1
      have hltW := k3.lt
      have HTold : Hid (Calls _ _ _ _ _) := ltold_len ((k : Int) + 1) a2 (m + 1) c2 _ k W (Shape.any hr5) (by omega) l HT.out m HL.out
      have em : ((m : Int) != (m : Int)) = false := by simp
      have em1 : (((m + 1 : Nat) : Int) != (m : Int) + 1) = false := by simp
      have em2 : ((m : Int) + 1 != (m : Int) + 1) = false := by simp
      by_cases hq : k < 60 ∧ m0.getD k false = true
      · rw [hq.2] at hcell
        have hk60 : (k : Int) < 60 := by omega
        go_wp2
        go_roundw
        case rel => exact ⟨k + 1, m + 1, _, a2, c2, by omega, by omega, by omega, by omega, by go_num, by go_num, HR2.out, HQ.out, hr5, by simpa using k3, hB3⟩
        case measure => simp [intOf]; omega
      · have HRel : Hid (∀ u a5 c5, Below W.heap.size W u → frsS.rep u (W.heap.size ≤ ·) [.slice a5 m c5] l → (frsS.rep ((u.setCell ⟨w.heap.size, 0, none⟩ (.int .i64 ((k : Int) + 1))).setCell ⟨w.heap.size, 1, none⟩ (.slice a5 m c5)) (· ≠ w.heap.size) [.slice a5 m c5] l ∧ Box ((u.setCell ⟨w.heap.size, 0, none⟩ (.int .i64 ((k : Int) + 1))).setCell ⟨w.heap.size, 1, none⟩ (.slice a5 m c5)) w.heap.size 24 #[.int .i64 ((k : Int) + 1), .slice a5 m c5] ∧ Below w.heap.size w ((u.setCell ⟨w.heap.size, 0, none⟩ (.int .i64 ((k : Int) + 1))).setCell ⟨w.heap.size, 1, none⟩ (.slice a5 m c5)))) := fun u a5 c5 hb hr =>
          ⟨frsS.mono (Shape.all2 (b := w.heap.size) hr (fun j hj _ => by have h7 : W.heap.size ≤ j := hj; omega) _ _) (fun j hj _ => by have h7 : W.heap.size ≤ j := hj; omega), (k3.keep hb).all2 _ _, bel_all2 (bel_then hB3 hb) (Nat.le_refl _) _ _⟩
        by_cases hk60 : k < 60
        · have hf : m0.getD k false = false := by
            cases h : m0.getD k false
            · rfl
            · exact absurd ⟨hk60, h⟩ hq
          rw [hf] at hcell
          have hk60i : (k : Int) < 60 := by omega
          clear hf hq
          go_wp2_with fail
          refine HTold.out.mono ?_
          rintro e u2 ⟨hb6, a5, c5, rfl, hr6⟩
          have k6 := k3.keep hb6
          have R6 := HRel.out u2 a5 c5 hb6 hr6
          clear z0 z1 f0 f1
          have z0 := k6.cell 0 rfl
          have z1 := k6.cell 1 rfl
          have f0 := k6.free 0
          have f1 := k6.free 1
          have HR6 : Hid _ := R6
          clear R6
          go_wp2
          go_roundw
          case rel => exact ⟨k + 1, m, l, a5, c5, by omega, by omega, by omega, by omega, rfl, by go_num, HR3.out, HL.out, HR6.out.1, by simpa using HR6.out.2.1, HR6.out.2.2⟩
          case measure => simp [intOf]; omega
        · have hk60i : ¬ (k : Int) < 60 := by omega
          clear hq
          go_wp2_with fail
          refine HTold.out.mono ?_
          rintro e u2 ⟨hb6, a5, c5, rfl, hr6⟩
          have k6 := k3.keep hb6
          have R6 := HRel.out u2 a5 c5 hb6 hr6
          clear z0 z1 f0 f1
          have z0 := k6.cell 0 rfl
          have z1 := k6.cell 1 rfl
          have f0 := k6.free 0
          have f1 := k6.free 1
          have HR6 : Hid _ := R6
          clear R6
          go_wp2
          go_roundw
          case rel => exact ⟨k + 1, m, l, a5, c5, by omega, by omega, by omega, by omega, rfl, by go_num, HR3.out, HL.out, HR6.out.1, by simpa using HR6.out.2.1, HR6.out.2.2⟩
          case measure => simp [intOf]; omega
    · clear hR hlen hrep hbox p0 p1
      by_cases hlt1 : k < len0
      · have hli : (k : Int) < (len0 : Int) := by omega
        have hli2 : ¬ (k : Int) < 200 := by omega
        go_wp2_with (go_at_call 9; refine (lawake _).mono ?_; rintro e u6 ⟨rfl, hb6⟩)
        go_ret
        exact ⟨rfl, bel_then hbel hb6⟩
      · have hli : ¬ (k : Int) < (len0 : Int) := by omega
        go_wp2_with (go_at_call 9; refine (lawake _).mono ?_; rintro e u6 ⟨rfl, hb6⟩)
        go_ret
        exact ⟨rfl, bel_then hbel hb6⟩

/- From the walk to the row. -/
set_option maxRecDepth 100000 in
theorem lifted (os : Os) (started : os.Started) (H : Type) (enc : TypeId × Value → H) :
    ReturnsInHanded {} Try.checked os 6 .any (Rows.linkNumbersSpec.pre6 enc Try.prog Try.f6 Rows.linkNumbersRow.domain false) (Rows.linkNumbersSpec.post enc Try.prog Try.f6 false true false false) := by
  refine returnsInHanded_of_change (C := Try.checked) own started (by kernel_rfl) Try.func6
    (ChangeSpec.witness6 (enc := enc) (C := Try.checked) false ⟨#[], #[.slice none 0 0], []⟩ 8 (by kernel_rfl) (by kernel_rfl) (by kernel_rfl) (by kernel_rfl)) ?_
  intro W base args ds gs before hval0 hW hcnd _
  have hval : ∀ (j : Nat) t v, Try.f6.params[j]? = some t → args[j]? = some v → Value.okWide Try.prog W .any base t v := hval0
  have hW' := hW
  obtain ⟨p, q, hA0, hV, rfl, hfz, hnd⟩ := hW
  have hA : DataW.TrodAll enc Try.prog W 0 (fun _ => true) true Try.f6.params.toList args.toList ds p := hA0
  rw [Try.params6] at hA hval
  obtain ⟨v0, vs0, d0, ds0, p0, q0, hargs, rfl, rfl, h0, r0⟩ := trodAll_cons hA
  obtain ⟨rfl, rfl, rfl⟩ := trodAll_nil r0
  obtain rfl : args = #[v0] := by cases args; simp_all
  obtain ⟨rfl, rfl⟩ := trodVars_none hV
  obtain ⟨a0, len0, cap0, rfl⟩ := okWide_slice Try.underlying48 (hval 0 48 v0 rfl rfl)
  have k0 := h0
  have lt0 : ∀ x ∈ p0, x.block < W.heap.size := by obtain ⟨m, hm⟩ := k0; exact DataW.trod_lt m _ _ _ hm
  obtain ⟨m0, w0, f0⟩ : ∃ y, (sliceS boolS).rep W everywhere [.slice a0 len0 cap0] y ∧ (∀ x0 ∈ y, True) := by
    obtain ⟨fuel, hf⟩ := h0
    exact (opens_slice (A := boolS) Try.underlying48 (show Try.prog.cellsOf 4 = 1 by kernel_rfl) (by exact Nat.succ_pos _) (opens_bool Try.underlying4)) H enc W _ _ _ fuel _ _ hf
  clear hA0 hval0
  refine (walk a0 len0 cap0 m0 W w0 f0).mono fun e W' ⟨he, bel⟩ => ?_
  subst he
  exact ⟨_, rfl, _, _, _, [], _, [], hW', trodAll_mk1 (shut_bool Try.underlying4 _), (trodAll_cons_mk (Below.trod laidOut (by kernel_rfl) (of_decide_eq_true (by kernel_rfl)) k0 bel lt0) trodAll_mk0), rfl, bel.frame _, fun h => by cases h⟩

theorem over : Rows.linkNumbersRow.holds Try.pinned (OpenSpec.ofChange Rows.linkNumbersSpec) :=
  OpenClaim.holds_of_wide 6 Try.f6 rfl rfl rfl rfl rfl rfl rfl ⟨rfl, rfl, rfl, rfl, rfl⟩ rfl rfl rfl rfl rfl (by kernel_rfl) Try.func6 (by kernel_rfl)
    (of_decide_eq_true (by kernel_rfl)) (by unfold Func.isWrapper; first | (rw [if_pos (by decide +kernel)]; kernel_rfl) | (rw [if_neg (by decide +kernel)]; exact ⟨rfl, rfl⟩))
    (fun os started H enc _ => lifted os started H enc)

end Go.Proofs.Ytfdbnongpkiibaa.linkNumbers

namespace Go.Proofs.Ytfdbnongpkiibaa
theorem linkNumbers_holds : Rows.LinkNumbersSaid := linkNumbers.over
end Go.Proofs.Ytfdbnongpkiibaa
