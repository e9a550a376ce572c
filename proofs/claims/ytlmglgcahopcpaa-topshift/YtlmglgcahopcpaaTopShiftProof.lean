/- TopShift of layer 4, proved. -/
import Derived.Test.YtlmglgcahopcpaaRows
import Derived.Test.YtlmglgcahopcpaaTopB
import Derived.WalkKit
import Derived.ProofKit
import Derived.OpenShut
import Derived.ShutString
import Derived.ChangeOld
import Derived.Below
namespace Go.Proofs.Ytlmglgcahopcpaa.topShift
open Go.ChangeShapes Go.WideShapes Go.ChangeAt Go.RowKit
open Go.ChangeMaps (open_string shut_string)
set_option linter.unusedVariables false

theorem own : ownKnob Try.prog.godebug = none := by kernel_rfl
theorem laidOut : laidOutB Try.prog = true := by kernel_rfl

theorem own_other {w w' : World} {base : Nat} {e : TypeId} {v : Value} {xs : List Int} {u : Option Nat} (h : Own (intS .i64) w base e v xs) (hg : w.grownBy w' u) (hne : ∀ b, v.ownBlock = some b → u ≠ some b) : Own (intS .i64) w' base e v xs := by
  obtain ⟨css, h1, h2⟩ := h
  refine ⟨css, h1.kept hg ?_, h2.1, fun j c x hc hx => h2.2 j c x hc hx⟩
  cases hv : v.ownBlock with
  | none => exact .inl rfl
  | some b => exact .inr (fun c => hne b hv c.symm)
theorem src_new {w : World} {base : Nat} {v : Value} {xs : List Int} (x : Int) (h : Own (intS .i64) w base 3 v xs) :
    (sliceS (intS .i64)).rep (w.alloc (.cells #[.int .i64 x] 3)) (fun b => (False ∧ b < w.heap.size) ∨ b = w.heap.size) [.slice (some ⟨w.heap.size, 0, none⟩) 1 1] [x] ∧ ∀ b, ((False ∧ b < w.heap.size) ∨ b = w.heap.size) → some b ≠ v.ownBlock := by
  refine ⟨rep_one (cs := [.int .i64 x]) (F := fun _ => False) rfl, fun b hb hv => ?_⟩
  have := (h.lt b hv.symm).2
  rcases hb with ⟨hf, _⟩ | rfl
  · exact hf
  · omega
theorem shift_succ (l : List Int) (k : Int) (j : Nat) (h : j < l.length) : (l.take (j + 1)).map (· + k) = (l.take j).map (· + k) ++ [l.getD j 0 + k] := by
  rw [take_snoc l j h, List.map_append]; rfl

/- The walk: the call returns true, and nothing that was there is written. -/
theorem walk (a0 : Option Addr) (len0 cap0 : Nat) (m0 : List Int) (a1 : Int) (w : World) (w0 : (sliceS (intS .i32)).rep w everywhere [.slice a0 len0 cap0] m0) (f0 : ∀ x0 ∈ m0, (Lit.int .i32 x0).wf = true) (w1 : (Lit.int .i32 a1).wf = true) :
    Calls Try.prog 6 #[.slice a0 len0 cap0, .int .i32 a1] w fun e w' => e = .returned (.bool true) ∧ Below w.heap.size w w' := by
  have hv := Row.of_rep w0
  obtain ⟨hl0, _, _⟩ := sliceS_len w0
  have HL : Hid (m0.length = len0) := hl0
  have HF : Hid (∀ x ∈ m0, -2147483648 ≤ x ∧ x ≤ 2147483647) := fun x hx => bounds_i32 (f0 x hx)
  obtain ⟨hk1, hk2⟩ := bounds_i32 w1
  clear w0 f0 w1 hl0
  obtain ⟨i0, hi0, hz0, hz1, hz2⟩ := info_parts Try.infoInt
  by_cases h1 : 60 < len0
  · have q1 : (60 : Int) < (len0 : Int) := by omega
    go_enter Try.func6, Try.ntmps6
    go_wp2_with fail
    refine (tawake _).mono ?_
    rintro e u1 ⟨rfl, hb1⟩
    go_wp2
    go_ret
    exact ⟨rfl, hb1⟩
  have q1 : ¬ (60 : Int) < (len0 : Int) := by omega
  go_enter Try.func6, Try.ntmps6
  go_wp2
  go_loopw [5, 6, 19] (fun v u i wr => ∃ j : Nat, j ≤ len0 ∧ i = .int .i64 j ∧ Own (intS .i64) wr w.heap.size 3 v (m0.take j) ∧ Own (intS .i64) wr w.heap.size 3 u ((m0.take j).map (· + a1)) ∧ Hid (∀ b, v.ownBlock = some b → u.ownBlock ≠ some b) ∧ Below w.heap.size w wr) (fun _ _ i _ => len0 - (intOf i).toNat)
  case atStart => exact ⟨0, Nat.zero_le _, rfl, Own.nil _ _ _ _, Own.nil _ _ _ _, fun b hb => by simp [Value.ownBlock] at hb, Below.refl _ _⟩
  case round =>
    rename_i v5 u6 _ _
    obtain ⟨j, hj, rfl, hown, hown2, HA, hbel⟩ := hrel
    by_cases hlt : j < len0
    · obtain ⟨b1, o1, rfl, hb1, hc1⟩ := hv.at hlt
      have hd1 : wr.cell? ⟨b1, o1 + j, none⟩ = some (.int .i32 (m0.getD j 0)) := (hbel.cell (by exact hb1)).trans hc1
      have hli : (j : Int) < (len0 : Int) := by omega
      have hjl : j < m0.length := by have := HL.out; omega
      have HS : Hid (m0.take (j + 1) = m0.take j ++ [m0.getD j 0]) := take_snoc m0 j hjl
      have HS2 : Hid ((m0.take (j + 1)).map (· + a1) = (m0.take j).map (· + a1) ++ [m0.getD j 0 + a1]) := shift_succ m0 a1 j hjl
      have HT : Hid ((m0.take j).length = j) := by show _ = _; simp; omega
      have HT2 : Hid (((m0.take j).map (· + a1)).length = j) := by show _ = _; simp; omega
      obtain ⟨hx1, hx2⟩ := HF.out (m0.getD j 0) (by rw [List.getD_eq_getElem?_getD, List.getElem?_eq_getElem hjl]; exact List.getElem_mem hjl)
      clear hc1 hjl
      generalize m0.getD j 0 = x at *
      have s1 := src_new x hown
      go_wp2_with (first
        | (at_builtin; refine wpList_app (intS .i64) (by simp [Region.wanted]) (.tmp 23) (.tmp 26) 22 rfl w.heap.size 3 i0 (.int .i64 0) 8 Try.underlying22 hi0 hz0 hz1 hz2 rfl Nat.one_pos (by omega) (by rfl) (hown.keep (new_bel wr _)) (by rfl) s1.1 s1.2 (by have := HT.out; omega) (bel_alloc hbel _).size ?_; intro a4 c4 u4 ho4 hg4 hb4 hat4; rw [HT.out] at ho4 hat4 ⊢; have ho5 := own_other (hown2.keep (new_bel wr _)) hg4 (fun b hb c => HA.out b c hb); have s2 := src_new (x + a1) ho5; have hB4 := (bel_alloc hbel _).trans hb4)
        | (at_builtin; refine wpList_app (intS .i64) (by simp [Region.wanted]) (.tmp 28) (.tmp 34) 22 rfl w.heap.size 3 i0 (.int .i64 0) 8 Try.underlying22 hi0 hz0 hz1 hz2 rfl Nat.one_pos (by omega) (by rfl) (ho5.keep (new_bel u4 _)) (by rfl) s2.1 s2.2 (by have := HT2.out; omega) (bel_alloc hB4 _).size ?_; intro a7 c7 u7 ho7 hg7 hb7 hat7; rw [HT2.out] at ho7 hat7 ⊢)
        | fail)
      have hA4 : ∀ b, u6.ownBlock = some b → Value.ownBlock (.slice a4 (j + 1) c4) ≠ some b := by
        intro b hb h
        rcases hat4 with e | e
        · exact HA.out b (e.symm.trans h) hb
        · have := (hown2.lt b hb).2
          rw [e] at h
          have := Option.some.inj h
          simp at this
          omega
      have ho8 := own_other (ho4.keep (new_bel u4 _)) hg7 (fun b hb c => hA4 b c hb)
      have HA8 : Hid (∀ b, Value.ownBlock (.slice a4 (j + 1) c4) = some b → Value.ownBlock (.slice a7 (j + 1) c7) ≠ some b) := by
        intro b hb h
        rcases hat7 with e | e
        · exact hA4 b (e.symm.trans h) hb
        · have := (ho4.lt b hb).2
          rw [e] at h
          have := Option.some.inj h
          simp at this
          omega
      have hB8 := (bel_alloc hB4 _).trans hb7
      rw [← HS.out] at ho8
      rw [← HS2.out] at ho7
      have HO7 : Hid _ := ho7
      have HO8 : Hid _ := ho8
      clear hA4 hat4 hat7 hg4 hg7 hb4 hb7 ho4 ho5 ho7 ho8 s1 s2 hown hown2 hB4
      go_wp2
      go_roundw
      case rel => exact ⟨j + 1, by omega, by go_num, HO8.out, HO7.out, HA8, hB8⟩
      case measure => simp [intOf]; omega
    · have hkn : j = len0 := by omega
      subst hkn
      have hli : ¬ (j : Int) < (j : Int) := by omega
      have e1 : m0.take j = m0 := List.take_of_length_le (by have := HL.out; omega)
      rw [e1] at hown hown2
      clear e1
      obtain ⟨a5, c5, rfl, hr5⟩ := hown.rep
      obtain ⟨a6, c6, rfl, hr6⟩ := hown2.rep
      rw [HL.out] at hr5 ⊢
      rw [List.length_map, HL.out] at hr6 ⊢
      have r5 := Row.of_rep hr5
      have r6 := Row.of_rep hr6
      have t1 := two a5 j c5 m0 wr r5 (by omega)
      have t2 := two a6 j c6 (m0.map (· + a1)) wr r6 (by omega)
      rw [Tx.shift_best, Tx.shift_second] at t2
      have T1 : Hid _ := t1
      have T2 : Hid _ := t2
      clear t1 t2 r5 r6 hr5 hr6 hown hown2 HA
      have e2 : (Tx.best m0 == Tx.best m0) = true := by simp
      have e3 : (Tx.second m0 == Tx.second m0) = true := by simp
      generalize Tx.best m0 = p at *
      generalize Tx.second m0 = q at *
      go_wp2_with fail
      refine by_same T1.out ?_
      go_wp2_with fail
      refine by_same T2.out ?_
      go_wp2_with fail
      refine (tawake _).mono ?_
      rintro e u9 ⟨rfl, hb9⟩
      have hB9 := bel_then hbel hb9
      go_wp2
      go_ret
      exact ⟨rfl, hB9⟩

/- From the walk to the row. -/
set_option maxRecDepth 100000 in
theorem lifted (os : Os) (started : os.Started) (H : Type) (enc : TypeId × Value → H) :
    ReturnsInHanded {} Try.checked os 6 .any (Rows.topShiftSpec.pre6 enc Try.prog Try.f6 Rows.topShiftRow.domain false) (Rows.topShiftSpec.post enc Try.prog Try.f6 false true false false) := by
  refine returnsInHanded_of_change (C := Try.checked) own started (by kernel_rfl) Try.func6
    (ChangeSpec.witness6 (enc := enc) (C := Try.checked) false ⟨#[], #[.slice none 0 0, .int .i32 0], []⟩ 8 (by kernel_rfl) (by kernel_rfl) (by kernel_rfl) (by kernel_rfl)) ?_
  intro W base args ds gs before hval0 hW hcnd _
  have hval : ∀ (j : Nat) t v, Try.f6.params[j]? = some t → args[j]? = some v → Value.okWide Try.prog W .any base t v := hval0
  have hW' := hW
  obtain ⟨p, q, hA0, hV, rfl, hfz, hnd⟩ := hW
  have hA : DataW.TrodAll enc Try.prog W 0 (fun _ => true) true Try.f6.params.toList args.toList ds p := hA0
  rw [Try.params6] at hA hval
  obtain ⟨v0, vs0, d0, ds0, p0, q0, hargs, rfl, rfl, h0, r0⟩ := trodAll_cons hA
  obtain ⟨v1, vs1, d1, ds1, p1, q1, rfl, rfl, rfl, h1, r1⟩ := trodAll_cons r0
  obtain ⟨rfl, rfl, rfl⟩ := trodAll_nil r1
  obtain rfl : args = #[v0, v1] := by cases args; simp_all
  obtain ⟨rfl, rfl⟩ := trodVars_none hV
  obtain ⟨a0, len0, cap0, rfl⟩ := okWide_slice Try.underlying29 (hval 0 29 v0 rfl rfl)
  have k0 := h0
  have lt0 : ∀ x ∈ p0, x.block < W.heap.size := by obtain ⟨m, hm⟩ := k0; exact DataW.trod_lt m _ _ _ hm
  obtain ⟨m0, w0, f0⟩ : ∃ y, (sliceS (intS .i32)).rep W everywhere [.slice a0 len0 cap0] y ∧ ∀ x0 ∈ y, (Lit.int .i32 x0).wf = true := by
    obtain ⟨fuel, hf⟩ := h0
    exact (opens_slice (A := (intS .i32)) Try.underlying29 (show Try.prog.cellsOf 21 = 1 by kernel_rfl) (by exact Nat.one_pos) (opens_int Try.underlying21)) H enc W _ _ _ fuel _ _ hf
  obtain ⟨a1, rfl, rfl, rfl, w1⟩ := open_int Try.underlying21 (hval 1 21 v1 rfl rfl) h1
  clear hA0 hval0
  refine (walk a0 len0 cap0 m0 a1 W w0 f0 w1).mono fun e W' ⟨he, bel⟩ => ?_
  subst he
  exact ⟨_, rfl, _, _, _, [], _, [], hW', trodAll_mk1 (shut_bool Try.underlying4 _), (trodAll_cons_mk (Below.trod laidOut (by kernel_rfl) (of_decide_eq_true (by kernel_rfl)) k0 bel lt0) (trodAll_cons_mk (shut_int Try.underlying21 w1) trodAll_mk0)), rfl, bel.frame _, fun h => by cases h⟩

theorem over : Rows.topShiftRow.holds Try.pinned (OpenSpec.ofChange Rows.topShiftSpec) :=
  OpenClaim.holds_of_wide 6 Try.f6 rfl rfl rfl rfl rfl rfl rfl ⟨rfl, rfl, rfl, rfl, rfl⟩ rfl rfl rfl rfl rfl (by kernel_rfl) Try.func6 (by kernel_rfl)
    (of_decide_eq_true (by kernel_rfl)) (by unfold Func.isWrapper; first | (rw [if_pos (by decide +kernel)]; kernel_rfl) | (rw [if_neg (by decide +kernel)]; exact ⟨rfl, rfl⟩))
    (fun os started H enc _ => lifted os started H enc)

end Go.Proofs.Ytlmglgcahopcpaa.topShift

namespace Go.Proofs.Ytlmglgcahopcpaa
theorem topShift_holds : Rows.TopShiftSaid := topShift.over
end Go.Proofs.Ytlmglgcahopcpaa
