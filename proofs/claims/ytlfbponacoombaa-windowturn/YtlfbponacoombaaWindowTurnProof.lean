/- The numbers below 32, taken by an odd step from any one on, are accepted once each, and behind all of them Low is 32 and Seen is empty: for every step and beginning. -/
import Derived.Test.YtlfbponacoombaaRows
import Derived.Test.YtlfbponacoombaaWinE
import Derived.WalkKit
import Derived.ProofKit
import Derived.OpenShut
import Derived.ShutString
import Derived.ChangeOld
import Derived.Below
namespace Go.Proofs.Ytlfbponacoombaa.windowTurn
open Go.ChangeShapes Go.WideShapes Go.ChangeAt Go.RowKit
open Go.ChangeMaps (open_string shut_string)
set_option linter.unusedVariables false

theorem own : ownKnob Try.prog.godebug = none := by kernel_rfl
theorem laidOut : laidOutB Try.prog = true := by kernel_rfl

/- The walk: the call returns true, and nothing that was there is written. -/
set_option maxHeartbeats 4000000 in
theorem walk (a0 : Int) (a1 : Int) (w : World) (w0 : (Lit.int .u8 a0).wf = true) (w1 : (Lit.int .u8 a1).wf = true) :
    Calls Try.prog 5 #[.int .u8 a0, .int .u8 a1] w fun e w' => e = .returned (.bool true) ∧ Below w.heap.size w w' := by
  have hb0 := bounds_u8 w0
  have hb1 := bounds_u8 w1
  clear w0 w1
  obtain ⟨s, rfl⟩ : ∃ s : Nat, a0 = (s : Int) := ⟨a0.toNat, by omega⟩
  obtain ⟨f, rfl⟩ : ∃ f : Nat, a1 = (f : Int) := ⟨a1.toNat, by omega⟩
  have hs : s ≤ 255 := by omega
  have hf : f ≤ 255 := by omega
  have HT0 : Hid (∀ i, Nx.turn f s i < 32) := fun i => Nx.turn_lt f s i
  have HTn : Hid (∀ i, (Nx.turn f s i + 2 * s + 1) % 32 = Nx.turn f s (i + 1)) := fun i => Nx.turn_next f s i
  have HTz : Hid (f % 32 = Nx.turn f s 0) := by show _ = _; unfold Nx.turn; rw [Nat.zero_mul, Nat.add_zero]
  go_enter Try.func5, Try.ntmps5
  go_wp2
  go_loopw [6, 14] (fun v6 v14 wr => ∃ (k : Nat) (L : Int) (l : List Int) (a1 : Option Addr) (n1 c1 : Nat), k ≤ 32 ∧ v14 = .int .i64 k ∧ v6 = .int .i64 ((Nx.turn f s k : Nat) : Int) ∧ Nx.Came (fun m => ∃ i, i < k ∧ Nx.turn f s i = m) ⟨L, l⟩ ∧ rowS.rep wr (· ≠ w.heap.size) [.slice a1 n1 c1] l ∧ Box wr w.heap.size 24 #[.int .i64 L, .slice a1 n1 c1] ∧ Below w.heap.size w wr) (fun _ i _ => 32 - (intOf i).toNat)
  case atStart =>
    refine ⟨0, 0, [], none, 0, 0, Nat.zero_le _, rfl, ?_, ?_, rep_none _ _ _, Box.new _ _ _, new_bel _ _⟩
    · rw [← HTz.out]
      congr 1
    · have := Nx.came_none
      have e : (fun m => ∃ i, i < 0 ∧ Nx.turn f s i = m) = fun _ => False := by
        funext m
        apply propext
        constructor
        · rintro ⟨i, hi, _⟩; omega
        · exact fun h => h.elim
      rw [e]
      exact this
  case round =>
    obtain ⟨k, L, l, a1, n1, c1, hk, rfl, rfl, hcame, hrep, hbox, hbel⟩ := hrel
    have hl := (sliceS_len hrep).1
    have hn1 : n1 ≤ 1000 := by have := hcame.1.2.2.1; simp only at this; omega
    have p0 := hbox.cell 0 rfl
    have p1 := hbox.cell 1 rfl
    by_cases hlt : k < 32
    · have hli : (k : Int) < 32 := by omega
      obtain ⟨hfr, hcame2, hag⟩ := Nx.came_one hcame (HT0.out k) (fun ⟨i, hi, e⟩ => Nx.turn_once hi hlt e)
      obtain ⟨L2, l2, hV⟩ : ∃ L2 l2, Nx.put ⟨L, l⟩ ((Nx.turn f s k : Nat) : Int) = ⟨L2, l2⟩ := ⟨_, _, rfl⟩
      obtain ⟨n2, hn2⟩ : ∃ n2, l2.length = n2 := ⟨_, rfl⟩
      rw [hV] at hcame2 hag
      have hb2 : n2 ≤ 1000 := by have := hcame2.1.2.2.1; simp only at this; omega
      have HC : Hid (Nx.Came (fun m => ∃ i, i < k + 1 ∧ Nx.turn f s i = m) ⟨L2, l2⟩) := by
        have e : (fun m => ∃ i, i < k + 1 ∧ Nx.turn f s i = m) = fun m => (∃ i, i < k ∧ Nx.turn f s i = m) ∨ m = Nx.turn f s k := by
          funext m
          apply propext
          constructor
          · rintro ⟨i, hi, e⟩
            by_cases hik : i = k
            · exact .inr (by rw [← e, hik])
            · exact .inl ⟨i, by omega, e⟩
          · rintro (⟨i, hi, e⟩ | e)
            · exact ⟨i, by omega, e⟩
            · exact ⟨k, by omega, e.symm⟩
        show Nx.Came _ _
        rw [e]
        exact hcame2
      have HV : Hid (Nx.put ⟨L, l⟩ ((Nx.turn f s k : Nat) : Int) = ⟨L2, l2⟩) := hV
      have HN : Hid (l2.length = n2) := hn2
      have HF : Hid (Nx.Fresh ⟨L, l⟩ ((Nx.turn f s k : Nat) : Int)) := hfr
      have HG : Hid (¬ Nx.Fresh ⟨L2, l2⟩ ((Nx.turn f s k : Nat) : Int)) := hag
      have HE : Hid ((Nx.turn f s k + 2 * s + 1) % 32 = Nx.turn f s (k + 1)) := HTn.out k
      have ht := HT0.out k
      clear hcame hcame2 hag hfr hV hn2
      generalize Nx.turn f s k = t at *
      go_wp2_with fail
      refine (accept_in L a1 n1 c1 l t wr (Shape.any hrep) hn1 HF.out L2 l2 HV.out n2 HN.out).mono ?_
      rintro e u1 ⟨hb1, a2, c2, rfl, hr2⟩
      have hlt0 := hbox.lt
      have k1 := (hbox.keep hb1).keep (new_bel u1 (.cells #[.int .i64 L2, .slice a2 n2 c2] 24))
      have k2 := Box.new u1 24 #[.int .i64 L2, .slice a2 n2 c2]
      have hr3 : rowS.rep (u1.alloc (.cells #[.int .i64 L2, .slice a2 n2 c2] 24)) (· ≠ w.heap.size) [.slice a2 n2 c2] l2 := rowS.mono (Shape.below hr2 (new_bel u1 _)) fun b hb _ => by omega
      have hB3 := bel_alloc (bel_then hbel hb1) (.cells #[.int .i64 L2, .slice a2 n2 c2] 24)
      clear hbox hrep hbel p0 p1 hr2
      go_wp2_with fail
      refine (accept_out L2 a2 n2 c2 l2 t _ (Shape.any hr3) hb2 HG.out).mono ?_
      rintro e u4 ⟨hb4, a5, c5, rfl, hr5⟩
      have k3 := (k1.keep hb4).keep (new_bel u4 (.cells #[.int .i64 L2, .slice a5 n2 c5] 24))
      have k4 := (k2.keep hb4).keep (new_bel u4 (.cells #[.int .i64 L2, .slice a5 n2 c5] 24))
      have hr4 := Shape.below (Shape.below hr3 hb4) (new_bel u4 (.cells #[.int .i64 L2, .slice a5 n2 c5] 24))
      have hB5 := bel_alloc (bel_then hB3 hb4) (.cells #[.int .i64 L2, .slice a5 n2 c5] 24)
      clear k1 k2 hr3 hB3 hr5
      have p0 := k3.cell 0 rfl
      have p1 := k3.cell 1 rfl
      have f0 := k3.free 0
      have f1 := k3.free 1
      have g0 := k4.cell 0 rfl
      have g1 := k4.cell 1 rfl
      go_wp2
      go_roundw
      case rel =>
        refine ⟨k + 1, L2, l2, a2, n2, c2, by omega, by go_num, ?_, HC.out, Shape.all2 hr4 (fun k hk _ => hk) _ _, k3.all2 _ _, bel_all2 hB5 (Nat.le_refl _) _ _⟩
        rw [← HE.out]
        congr 1
      case measure => simp [intOf]; omega
    · have hk32 : k = 32 := by omega
      subst hk32
      have hli : ¬ ((32 : Nat) : Int) < 32 := by omega
      obtain ⟨e1, e2⟩ := Nx.came_all hcame (fun m hm => Nx.turn_all f s m hm)
      have e1' : L = 32 := e1
      have e2' : l = [] := e2
      subst e1'
      subst e2'
      have e3 : n1 = 0 := by rw [← hl]; rfl
      subst e3
      clear hcame e1 e2
      go_wp2_with (go_at_call 8; refine (wawake _).mono ?_; rintro e u6 ⟨rfl, hb6⟩)
      go_ret
      exact ⟨rfl, bel_then hbel hb6⟩

/- From the walk to the row. -/
set_option maxRecDepth 100000 in
theorem lifted (os : Os) (started : os.Started) (H : Type) (enc : TypeId × Value → H) :
    ReturnsInHanded {} Try.checked os 5 .any (Rows.windowTurnSpec.pre6 enc Try.prog Try.f5 Rows.windowTurnRow.domain false) (Rows.windowTurnSpec.post enc Try.prog Try.f5 false true false false) := by
  refine returnsInHanded_of_change (C := Try.checked) own started (by kernel_rfl) Try.func5
    (ChangeSpec.witness6 (enc := enc) (C := Try.checked) false ⟨#[], #[.int .u8 0, .int .u8 0], []⟩ 8 (by kernel_rfl) (by kernel_rfl) (by kernel_rfl) (by kernel_rfl)) ?_
  intro W base args ds gs before hval0 hW hcnd _
  have hval : ∀ (j : Nat) t v, Try.f5.params[j]? = some t → args[j]? = some v → Value.okWide Try.prog W .any base t v := hval0
  have hW' := hW
  obtain ⟨p, q, hA0, hV, rfl, hfz, hnd⟩ := hW
  have hA : DataW.TrodAll enc Try.prog W 0 (fun _ => true) true Try.f5.params.toList args.toList ds p := hA0
  rw [Try.params5] at hA hval
  obtain ⟨v0, vs0, d0, ds0, p0, q0, hargs, rfl, rfl, h0, r0⟩ := trodAll_cons hA
  obtain ⟨v1, vs1, d1, ds1, p1, q1, rfl, rfl, rfl, h1, r1⟩ := trodAll_cons r0
  obtain ⟨rfl, rfl, rfl⟩ := trodAll_nil r1
  obtain rfl : args = #[v0, v1] := by cases args; simp_all
  obtain ⟨rfl, rfl⟩ := trodVars_none hV
  obtain ⟨a0, rfl, rfl, rfl, w0⟩ := open_int Try.underlying5 (hval 0 5 v0 rfl rfl) h0
  obtain ⟨a1, rfl, rfl, rfl, w1⟩ := open_int Try.underlying5 (hval 1 5 v1 rfl rfl) h1
  clear hA0 hval0
  refine (walk a0 a1 W w0 w1).mono fun e W' ⟨he, bel⟩ => ?_
  subst he
  exact ⟨_, rfl, _, _, _, [], _, [], hW', trodAll_mk1 (shut_bool Try.underlying4 _), (trodAll_cons_mk (shut_int Try.underlying5 w0) (trodAll_cons_mk (shut_int Try.underlying5 w1) trodAll_mk0)), rfl, bel.frame _, fun h => by cases h⟩

theorem over : Rows.windowTurnRow.holds Try.pinned (OpenSpec.ofChange Rows.windowTurnSpec) :=
  OpenClaim.holds_of_wide 5 Try.f5 rfl rfl rfl rfl rfl rfl rfl ⟨rfl, rfl, rfl, rfl, rfl⟩ rfl rfl rfl rfl rfl (by kernel_rfl) Try.func5 (by kernel_rfl)
    (of_decide_eq_true (by kernel_rfl)) (by unfold Func.isWrapper; first | (rw [if_pos (by decide +kernel)]; kernel_rfl) | (rw [if_neg (by decide +kernel)]; exact ⟨rfl, rfl⟩))
    (fun os started H enc _ => lifted os started H enc)

end Go.Proofs.Ytlfbponacoombaa.windowTurn

namespace Go.Proofs.Ytlfbponacoombaa
theorem windowTurn_holds : Rows.WindowTurnSaid := windowTurn.over
end Go.Proofs.Ytlfbponacoombaa
