/- What gate's Choose and the document's do when called: the choice that Gx tells, and nothing that was there is written. -/
import Derived.Test.YtokkhkhipgopbaaMatB
import Derived.Test.YtokkhkhipgopbaaTopB
import Derived.Test.YtokkhkhipgopbaaShareA
import Derived.Test.YtokkhkhipgopbaaJa
import Derived.Test.YtokkhkhipgopbaaJb
import Derived.Laws.StructEq
namespace Go.Proofs.Ytokkhkhipgopbaa
open Go.ChangeShapes Go.WideShapes Go.ChangeAt Go.RowKit

theorem Try.infoChoice : (Try.prog.info? 84).map (·.size) = some 4 := by kernel_rfl

/-! ### Variables of four cells -/
theorem Box.all4 {u : World} {b : Nat} {t : TypeId} {p0 p1 p2 p3 : Value} (h : Box u b t #[p0, p1, p2, p3]) (v0 v1 v2 v3 : Value) : Box ((((u.setCell ⟨b, 0, none⟩ v0).setCell ⟨b, 1, none⟩ v1).setCell ⟨b, 2, none⟩ v2).setCell ⟨b, 3, none⟩ v3) b t #[v0, v1, v2, v3] := by
  have := (((h.set 0 v0).set 1 v1).set 2 v2).set 3 v3
  simp only [List.setIfInBounds_toArray, List.set_cons_zero, List.set_cons_succ] at this
  exact this
theorem bel_all4 {B : Nat} {a u : World} (h : Below B a u) {b : Nat} (hb : B ≤ b) (v0 v1 v2 v3 : Value) : Below B a ((((u.setCell ⟨b, 0, none⟩ v0).setCell ⟨b, 1, none⟩ v1).setCell ⟨b, 2, none⟩ v2).setCell ⟨b, 3, none⟩ v3) := bel_put (bel_put (bel_put (bel_put h hb v0) hb v1) hb v2) hb v3

/-! ### '==' of a choice and itself -/
theorem eqChoiceIn (p q r s : Int) (w : World) : (Op.equalIn 10000 84 (.agg #[.int .i64 p, .int .i64 q, .int .i64 r, .int .i64 s]) (.agg #[.int .i64 p, .int .i64 q, .int .i64 r, .int .i64 s])).run Try.prog w = .ok true w := by
  have u3 := Try.underlying3
  have a3 := Try.isAgg3
  have z3 := Try.sizeOf3
  have hS : Try.prog.underlying 84 = some (.struct (Try.prog.fieldsOf 84)) := by kernel_rfl
  have hp : Try.prog.stoodInHeld 84 = false := by kernel_rfl
  rw [show (10000 : Nat) = 9999 + 1 from rfl, run_equalIn_agg w 9999 84 _ _ hS hp]
  simp only [Program.fieldsOf, Try.underlying84]
  go_simp
theorem eqChoice (p q r s : Int) (w : World) : (binOp .eql 84 (.agg #[.int .i64 p, .int .i64 q, .int .i64 r, .int .i64 s]) (.agg #[.int .i64 p, .int .i64 q, .int .i64 r, .int .i64 s])).run Try.prog w = .ok (.bool true) w := by
  rw [run_eql_struct, eqChoiceIn p q r s]
  rfl

/-! ### Choose -/
set_option maxRecDepth 100000 in
set_option maxHeartbeats 1000000 in
theorem choose (a b : Option Addr) (n c nv cb : Nat) (m : List (List Int)) (v : List Int) (F : Nat → Prop) (p q r t : Int) (ok : Bool) (w : World) (hm : matS.rep w F [.slice a n c] m) (hv : Row .i64 w b nv v) (hn : n ≤ 1000) (hnv : nv ≤ 1000) (h : Gx.Is m v p q r t ok) :
    Calls Try.prog 48 #[.slice a n c, .slice b nv cb] w fun e w' => e = .returned (.tuple #[.agg #[.int .i64 p, .int .i64 q, .int .i64 r, .int .i64 t], .bool ok]) ∧ Below w.heap.size w w' := by
  have hl := (sliceS_len hm).1
  have hvl := hv.len
  subst hvl
  have hB := new_bel w (.cells #[.int .i64 0, .int .i64 0, .int .i64 0, .int .i64 0] 84)
  have k0 := Box.new w 84 #[.int .i64 0, .int .i64 0, .int .i64 0, .int .i64 0]
  have hm1 := Shape.below hm hB
  have hv1 := hv.keep hB
  clear hm hv
  by_cases hf : Mx.Fits m v.length
  case neg =>
    obtain ⟨rfl, hno, rfl, rfl, rfl, rfl⟩ : ok = false ∧ ¬ (Mx.Fits m v.length ∧ m ≠ []) ∧ p = 0 ∧ q = 0 ∧ r = 0 ∧ t = 0 := by
      rcases h with h | h
      · exact h
      · exact absurd h.2.1 hf
    have HF : Hid (¬ Mx.Fits m v.length) := hf
    clear hf h hno
    go_enter Try.func48, Try.ntmps48
    go_wp2_with fail
    refine (mapply a b n c v.length cb m v F _ hm1 hv1 (by omega) (by omega)).mono ?_
    rintro e u1 ⟨hg, hb1⟩
    obtain rfl := hg.no HF.out
    have k1 := k0.keep hb1
    have hB1 := bel_then hB hb1
    have c0 := k1.cell 0 rfl; have c1 := k1.cell 1 rfl; have c2 := k1.cell 2 rfl; have c3 := k1.cell 3 rfl
    have f0 := k1.free 0; have f1 := k1.free 1; have f2 := k1.free 2; have f3 := k1.free 3
    clear hg hm1 hv1 k0 hB hb1
    go_wp2
    refine ret_var Try.underlying84 Try.infoChoice rfl rfl rfl rfl (k1.all4 _ _ _ _) rfl ?_
    exact ⟨rfl, bel_all4 hB1 (Nat.le_refl _) _ _ _ _⟩
  have HF : Hid (Mx.Fits m v.length) := hf
  by_cases hz : n = 0
  · have hm0 : m = [] := List.eq_nil_of_length_eq_zero (by omega)
    obtain ⟨rfl, hno, rfl, rfl, rfl, rfl⟩ : ok = false ∧ ¬ (Mx.Fits m v.length ∧ m ≠ []) ∧ p = 0 ∧ q = 0 ∧ r = 0 ∧ t = 0 := by
      rcases h with h | h
      · exact h
      · exact absurd hm0 h.2.2.1
    have ez : ((n : Int) == 0) = true := by rw [hz]; rfl
    clear hf h hno hm0 hz hl
    go_enter Try.func48, Try.ntmps48
    go_wp2_with fail
    refine (mapply a b n c v.length cb m v F _ hm1 hv1 (by omega) (by omega)).mono ?_
    rintro e u1 ⟨hg, hb1⟩
    obtain ⟨a1, c1, rfl, _⟩ := hg.yes HF.out
    have k1 := k0.keep hb1
    have hB1 := bel_then hB hb1
    have c0 := k1.cell 0 rfl; have c1 := k1.cell 1 rfl; have c2 := k1.cell 2 rfl; have c3 := k1.cell 3 rfl
    have f0 := k1.free 0; have f1 := k1.free 1; have f2 := k1.free 2; have f3 := k1.free 3
    clear hg hm1 hv1 k0 hB hb1
    go_wp2
    refine ret_var Try.underlying84 Try.infoChoice rfl rfl rfl rfl (k1.all4 _ _ _ _) rfl ?_
    exact ⟨rfl, bel_all4 hB1 (Nat.le_refl _) _ _ _ _⟩
  have hne : m ≠ [] := fun h0 => hz (by rw [← hl, h0]; rfl)
  obtain rfl : ok = true := by
    rcases h with h | h
    · exact absurd ⟨hf, hne⟩ h.2.1
    · exact h.1
  have ez : ((n : Int) == 0) = false := by rw [beq_eq_false_iff_ne]; omega
  have hform := h.form
  have HP : Hid (Tx.best (Mx.app m v) = p) := h.yes.2.2.1.symm
  have HQ : Hid (Tx.second (Mx.app m v) = q) := h.yes.2.2.2.1.symm
  clear h hf hne
  have HT : Hid (∀ (u : World) (a1 : Option Addr) (c1 : Nat), Row .i64 u a1 n (Mx.app m v) → Calls Try.prog 60 #[.slice a1 n c1] u fun e w' => e = .returned (.tuple #[.int .i64 p, .int .i64 q]) ∧ w' = u) := fun u a1 c1 hr => by
    have := two a1 n c1 (Mx.app m v) u hr (by omega)
    rw [HP.out, HQ.out] at this
    exact this
  rcases hform with ⟨h1, rfl, rfl, rfl, rfl⟩ | ⟨h2, i, j, hi, hj, hne, rfl, rfl, _, _, _, hr, ht⟩
  · clear hl hz
    go_enter Try.func48, Try.ntmps48
    go_wp2_with fail
    refine (mapply a b n c v.length cb m v F _ hm1 hv1 (by omega) (by omega)).mono ?_
    rintro e u1 ⟨hg, hb1⟩
    obtain ⟨a1, c1, rfl, hr1⟩ := hg.yes HF.out
    have hr1 := Row.of_rep hr1
    have k1 := k0.keep hb1
    have hB1 := bel_then hB hb1
    have c0 := k1.cell 0 rfl; have c1' := k1.cell 1 rfl; have c2 := k1.cell 2 rfl; have c3 := k1.cell 3 rfl
    have f0 := k1.free 0; have f1 := k1.free 1; have f2 := k1.free 2; have f3 := k1.free 3
    clear hg hm1 hv1 k0 hB hb1
    go_wp2_with (go_at_call 60; refine by_same (HT.out _ _ _ hr1) ?_)
    refine ret_var Try.underlying84 Try.infoChoice rfl rfl rfl rfl (k1.all4 _ _ _ _) rfl ?_
    exact ⟨rfl, bel_all4 hB1 (Nat.le_refl _) _ _ _ _⟩
  · have hi' : i < n := by omega
    have hj' : j < n := by omega
    subst hr
    subst ht
    clear hl hz h2 hi hj hne HP HQ
    obtain ⟨x, hx⟩ : ∃ x, (Mx.app m v).getD i 0 = x := ⟨_, rfl⟩
    obtain ⟨y, hy⟩ : ∃ y, (Mx.app m v).getD j 0 = y := ⟨_, rfl⟩
    rw [hx, hy]
    have HX : Hid ((Mx.app m v).getD i 0 = x) := hx
    have HY : Hid ((Mx.app m v).getD j 0 = y) := hy
    clear hx hy
    go_enter Try.func48, Try.ntmps48
    go_wp2_with fail
    refine (mapply a b n c v.length cb m v F _ hm1 hv1 (by omega) (by omega)).mono ?_
    rintro e u1 ⟨hg, hb1⟩
    obtain ⟨a1, c1, rfl, hr1⟩ := hg.yes HF.out
    have hr1 := Row.of_rep hr1
    have k1 := k0.keep hb1
    have hB1 := bel_then hB hb1
    clear hg hm1 hv1 k0 hB hb1
    have e0 : ¬ ((j : Int) < 0) := by omega
    have ei : (i : Int) < (n : Int) := by omega
    have ej : (j : Int) < (n : Int) := by omega
    have ei0 : (0 : Int) ≤ (i : Int) := by omega
    have ej0 : (0 : Int) ≤ (j : Int) := by omega
    have HC : Hid (Calls _ _ _ _ _) := HT.out u1 a1 c1 hr1
    obtain ⟨b1, o1, rfl, hb1, hc1⟩ := hr1.at hi'
    obtain ⟨b2, o2, he, hb2, hc2⟩ := hr1.at hj'
    cases he
    rw [HX.out] at hc1
    rw [HY.out] at hc2
    have hd1 : ∀ x9 : Later u1, x9.u.cell? ⟨b1, o1 + i, none⟩ = some (.int .i64 x) := fun x9 => x9.cell hc1
    have hd2 : ∀ x9 : Later u1, x9.u.cell? ⟨b1, o1 + j, none⟩ = some (.int .i64 y) := fun x9 => x9.cell hc2
    have hne9 : Nonempty (Later u1) := Later.there u1
    clear hc1 hc2 hr1 HT hb1 hb2
    go_wp2_with (go_at_call 60; refine by_same HC.out ?_)
    refine region_later (by kernel_rfl) (by kernel_rfl) ?_
    repeat (go_big_quiet_step ((go_at_call 61; exact Later.same (shares _ _ _))))
    refine wpQuiet_nil ?_
    intro x9
    obtain ⟨W9, hb9⟩ := x9
    have k9 := k1.keep hb9
    have hB9 := bel_then hB1 hb9
    have c0 := k9.cell 0 rfl; have c1' := k9.cell 1 rfl; have c2 := k9.cell 2 rfl; have c3 := k9.cell 3 rfl
    have f0 := k9.free 0; have f1 := k9.free 1; have f2 := k9.free 2; have f3 := k9.free 3
    go_wp2
    refine ret_var Try.underlying84 Try.infoChoice rfl rfl rfl rfl (k9.all4 _ _ _ _) rfl ?_
    exact ⟨rfl, bel_all4 hB9 (Nat.le_refl _) _ _ _ _⟩


end Go.Proofs.Ytokkhkhipgopbaa
