/- ChunkBit: a right expert's bytes with one bit turned are refused. -/
import Derived.Test.YtgbcneiciefkkaaRows
import Derived.Test.YtgbcneiciefkkaaChkL
import Derived.WalkKit
import Derived.ProofKit
import Derived.OpenShut
import Derived.ShutString
import Derived.ChangeOld
import Derived.Below
namespace Go.Proofs.Ytgbcneiciefkkaa.chunkBit
open Go.ChangeShapes Go.WideShapes Go.ChangeAt Go.RowKit
open Go.ChangeMaps (open_string shut_string)
set_option linter.unusedVariables false

theorem own : ownKnob Try.prog.godebug = none := by kernel_rfl
theorem laidOut : laidOutB Try.prog = true := by kernel_rfl

/- The walk: the call returns true, and nothing that was there is written. -/
set_option maxHeartbeats 4000000 in
theorem walk (a0_0 : Option Addr) (len0_0 cap0_0 : Nat) (m0_0 : List (List Int)) (a0_1 : Option Addr) (len0_1 cap0_1 : Nat) (m0_1 : List (List Int)) (a1 : Int) (a2 : Int) (a3 : Int) (w : World) (w0_0 : (sliceS (sliceS (intS .i64))).rep w everywhere [.slice a0_0 len0_0 cap0_0] m0_0) (f0_0 : (∀ x0 ∈ m0_0, (∀ x1 ∈ x0, (Lit.int .i64 x1).wf = true))) (w0_1 : (sliceS (sliceS (intS .i64))).rep w everywhere [.slice a0_1 len0_1 cap0_1] m0_1) (f0_1 : (∀ x0 ∈ m0_1, (∀ x1 ∈ x0, (Lit.int .i64 x1).wf = true))) (w1 : (Lit.int .i64 a1).wf = true) (w2 : (Lit.int .u16 a2).wf = true) (w3 : (Lit.int .u8 a3).wf = true) :
    Calls Try.prog 6 #[.agg #[.slice a0_0 len0_0 cap0_0, .slice a0_1 len0_1 cap0_1], .int .i64 a1, .int .u16 a2, .int .u8 a3] w fun e w' => e = .returned (.bool true) ∧ Below w.heap.size w w' := by
  have b2 := bounds_u16 w2
  have b3 := bounds_u8 w3
  clear w1 w2 w3
  have hX : Exp w a0_0 len0_0 cap0_0 a0_1 len0_1 cap0_1 m0_0 m0_1 := ⟨w0_0, w0_1⟩
  clear w0_0 w0_1 f0_0 f0_1
  have hB := new_bel w (.cells #[.slice a0_0 len0_0 cap0_0, .slice a0_1 len0_1 cap0_1] 24)
  have q := Box.new w 24 #[.slice a0_0 len0_0 cap0_0, .slice a0_1 len0_1 cap0_1]
  have hX0 := hX.below hB
  clear hX
  by_cases hs0 : Mx.Small m0_0
  case neg =>
    have HSN : Hid (¬ Mx.Small m0_0) := hs0
    clear hs0
    go_enter Try.func6, Try.ntmps6
    go_wp2_with fail
    refine by_says (small _ _ _ m0_0 everywhere _ hX0.i) (fun h => absurd h HSN.out) (fun _ => ?_)
    go_wp2_with fail
    refine (kawake _).mono ?_
    rintro e u6 ⟨rfl, hb6⟩
    go_wp2
    go_ret
    exact ⟨rfl, bel_then hB hb6⟩
  have HS0 : Hid (Mx.Small m0_0) := hs0
  clear hs0
  by_cases hs1 : Mx.Small m0_1
  case neg =>
    have HSN : Hid (¬ Mx.Small m0_1) := hs1
    clear hs1
    go_enter Try.func6, Try.ntmps6
    go_wp2_with fail
    refine by_says (small _ _ _ m0_0 everywhere _ hX0.i) (fun _ => ?_) (fun h => absurd HS0.out h)
    go_wp2_with fail
    refine by_says (small _ _ _ m0_1 everywhere _ hX0.o) (fun h => absurd h HSN.out) (fun _ => ?_)
    go_wp2_with fail
    refine (kawake _).mono ?_
    rintro e u6 ⟨rfl, hb6⟩
    go_wp2
    go_ret
    exact ⟨rfl, bel_then hB hb6⟩
  have HS1 : Hid (Mx.Small m0_1) := hs1
  clear hs1
  have HI : Hid (Ex.Sized m0_0) := Ex.small_sized HS0.out
  have HO : Hid (Ex.Sized m0_1) := Ex.small_sized HS1.out
  by_cases hp : Ex.Right m0_0 m0_1 a1
  · have HE : Hid (Calls _ _ _ _ _) := kexport _ _ _ _ _ _ _ _ a1 _ hX0 hp
    have hsz := exp_short hp
    have HSL : Hid _ := exp_list m0_0 m0_1 a1
    have HTU : Hid (∀ j v, (hj : j < (Ck.exp m0_0 m0_1 a1).length) → (Ck.exp m0_0 m0_1 a1)[j] ≠ v → Ck.imp ((Ck.exp m0_0 m0_1 a1).set j v) = (xp0, 0, 9)) := fun j v hj hv => Ck.imp_turned (Ck.exp_formed hp) (Ck.exp_summed _ _ _) hj hv
    generalize (⟨(Ck.exp m0_0 m0_1 a1).toArray⟩ : ByteArray) = S at *
    rw [← HSL.out] at HTU
    obtain ⟨hz1, hz2⟩ := hsz
    have hlen : S.data.toList.length = S.size := list_size S
    obtain ⟨j, hj, ej⟩ : ∃ j : Nat, j < S.size ∧ a2.tmod (S.size : Int) = (j : Int) := by
      refine ⟨(a2.tmod (S.size : Int)).toNat, ?_, ?_⟩
      · have := Int.tmod_lt_of_pos a2 (b := (S.size : Int)) (by omega)
        omega
      · have := Int.tmod_nonneg (a := a2) (S.size : Int) (by omega)
        omega
    obtain ⟨t, htt, et⟩ : ∃ t : Nat, t < 8 ∧ a3 % 8 = (t : Int) := ⟨(a3 % 8).toNat, by omega, by omega⟩
    have hnz : ((S.size : Int) == 0) = false := by rw [beq_eq_false_iff_ne]; omega
    have hse := str_some (S := S) (by omega)
    have hji : (j : Int) < (S.size : Int) := by omega
    have hjl : j < S.data.toList.length := by rw [hlen]; exact hj
    obtain ⟨M, em, hM⟩ := pow_mask htt
    have ex := u8_laid S.data.toList[j] M
    have HT : Hid (Ck.imp (⟨(S.data.toList.set j (S.data.toList[j] ^^^ M)).toArray⟩ : ByteArray).data.toList = (([], [], ()), 0, 9)) := by
      have h9 := HTU.out j (S.data.toList[j] ^^^ M) hjl (xor_other hM)
      show Ck.imp ((S.data.toList.set j (S.data.toList[j] ^^^ M)).toArray.toList) = _
      rw [List.toList_toArray]
      exact h9
    have HTS : Hid ((⟨(S.data.toList.set j (S.data.toList[j] ^^^ M)).toArray⟩ : ByteArray).size ≤ 600) := by show (S.data.toList.set j _).toArray.size ≤ _; rw [List.size_toArray, List.length_set, hlen]; exact hz2
    have HMK : Hid (∀ w0 : World, ∃ cap u, (convert 9 45 (.string S)).run Try.prog w0 = .ok (.slice (some ⟨w0.heap.size, 0, none⟩) S.size cap) u ∧ Below w0.heap.size w0 u ∧ u.cell? ⟨w0.heap.size, j, none⟩ = some (.int .u8 (S.data.toList[j].toNat : Nat)) ∧ u.frozen? ⟨w0.heap.size, j, none⟩ = false ∧
        (convert 45 9 (.slice (some ⟨w0.heap.size, 0, none⟩) S.size cap)).run Try.prog (u.setCell ⟨w0.heap.size, j, none⟩ (.int .u8 ((S.data.toList[j] ^^^ M).toNat : Nat))) = .ok (.string ⟨(S.data.toList.set j (S.data.toList[j] ^^^ M)).toArray⟩) (u.setCell ⟨w0.heap.size, j, none⟩ (.int .u8 ((S.data.toList[j] ^^^ M).toNat : Nat)))) := by
      intro w0
      obtain ⟨cap, u, hconv, hb, hbytes⟩ := bytes_made w0 S
      have hback := (hbytes.store hjl (S.data.toList[j] ^^^ M)).back cap
      rw [List.length_set, hlen] at hback
      exact ⟨cap, u, hconv, hb, (hbytes j hjl).1, (hbytes j hjl).2, hback⟩
    clear HTU hp hlen HSL q
    generalize (⟨(S.data.toList.set j (S.data.toList[j] ^^^ M)).toArray⟩ : ByteArray) = D at *
    generalize (S.data.toList[j] ^^^ M).toNat = v at *
    generalize (S.data.toList[j]).toNat = v0 at *
    go_enter Try.func6, Try.ntmps6
    go_wp2_with fail
    refine by_says (small _ _ _ m0_0 everywhere _ hX0.i) (fun _ => ?_) (fun h => absurd HS0.out h)
    go_wp2_with fail
    refine by_says (small _ _ _ m0_1 everywhere _ hX0.o) (fun _ => ?_) (fun h => absurd HS1.out h)
    go_wp2_with fail
    refine HE.out.mono ?_
    rintro e u1 ⟨rfl, hb1⟩
    have hB1 := bel_then hB hb1
    obtain ⟨cap, u, hconv, hb, hc, hf, hback⟩ := HMK.out u1
    have hB2 : Below w.heap.size w (u.setCell ⟨u1.heap.size, j, none⟩ (.int .u8 (v : Int))) := bel_put (bel_then hB1 hb) hB1.size _
    clear HMK HE hX0
    go_wp2_with fail
    refine (kimport D (by have := HTS.out; omega) _ [] [] 0 9 HT.out).mono ?_
    rintro e u4 ⟨hb4, bi, ni, ci, bo, no, co, rfl, hX4⟩
    have hB4 := bel_alloc (bel_then hB2 hb4) (.cells #[.slice bi ni ci, .slice bo no co] 24)
    clear hX4 hback hconv hc hf
    go_wp2_with fail
    refine (kawake _).mono ?_
    rintro e u6 ⟨rfl, hb6⟩
    go_wp2
    go_ret
    exact ⟨rfl, bel_then hB4 hb6⟩

  · have HE : Hid (Calls _ _ _ _ _) := kexport_no _ _ _ _ _ _ _ _ a1 _ hX0 HI.out HO.out hp
    have hse : (noText.toList == ([] : List UInt8)) = true := text_none
    clear hp q
    go_enter Try.func6, Try.ntmps6
    go_wp2_with fail
    refine by_says (small _ _ _ m0_0 everywhere _ hX0.i) (fun _ => ?_) (fun h => absurd HS0.out h)
    go_wp2_with fail
    refine by_says (small _ _ _ m0_1 everywhere _ hX0.o) (fun _ => ?_) (fun h => absurd HS1.out h)
    go_wp2_with fail
    refine HE.out.mono ?_
    rintro e u1 ⟨rfl, hb1⟩
    have hB1 := bel_then hB hb1
    clear HE hX0
    go_wp2_with fail
    refine (kawake _).mono ?_
    rintro e u6 ⟨rfl, hb6⟩
    go_wp2
    go_ret
    exact ⟨rfl, bel_then hB1 hb6⟩

/- From the walk to the row. -/
set_option maxRecDepth 100000 in
theorem lifted (os : Os) (started : os.Started) (H : Type) (enc : TypeId × Value → H) :
    ReturnsInHanded {} Try.checked os 6 .any (Rows.chunkBitSpec.pre6 enc Try.prog Try.f6 Rows.chunkBitRow.domain false) (Rows.chunkBitSpec.post enc Try.prog Try.f6 false true false false) := by
  refine returnsInHanded_of_change (C := Try.checked) own started (by kernel_rfl) Try.func6
    (ChangeSpec.witness6 (enc := enc) (C := Try.checked) false ⟨#[], #[.agg #[.slice none 0 0, .slice none 0 0], .int .i64 0, .int .u16 0, .int .u8 0], []⟩ 8 (by kernel_rfl) (by kernel_rfl) (by kernel_rfl) (by kernel_rfl)) ?_
  intro W base args ds gs before hval0 hW hcnd _
  have hval : ∀ (j : Nat) t v, Try.f6.params[j]? = some t → args[j]? = some v → Value.okWide Try.prog W .any base t v := hval0
  have hW' := hW
  obtain ⟨p, q, hA0, hV, rfl, hfz, hnd⟩ := hW
  have hA : DataW.TrodAll enc Try.prog W 0 (fun _ => true) true Try.f6.params.toList args.toList ds p := hA0
  rw [Try.params6] at hA hval
  obtain ⟨v0, vs0, d0, ds0, p0, q0, hargs, rfl, rfl, h0, r0⟩ := trodAll_cons hA
  obtain ⟨v1, vs1, d1, ds1, p1, q1, rfl, rfl, rfl, h1, r1⟩ := trodAll_cons r0
  obtain ⟨v2, vs2, d2, ds2, p2, q2, rfl, rfl, rfl, h2, r2⟩ := trodAll_cons r1
  obtain ⟨v3, vs3, d3, ds3, p3, q3, rfl, rfl, rfl, h3, r3⟩ := trodAll_cons r2
  obtain ⟨rfl, rfl, rfl⟩ := trodAll_nil r3
  obtain rfl : args = #[v0, v1, v2, v3] := by cases args; simp_all
  obtain ⟨rfl, rfl⟩ := trodVars_none hV
  obtain ⟨cs0, rfl⟩ := okWide_agg Try.underlying24 (hval 0 24 v0 rfl rfl)
  have k0 := h0
  have lt0 : ∀ x ∈ p0, x.block < W.heap.size := by obtain ⟨m, hm⟩ := k0; exact DataW.trod_lt m _ _ _ hm
  obtain ⟨y0, hy0, hw0⟩ : ∃ y, (consS (sliceS (sliceS (intS .i64))) (consS (sliceS (sliceS (intS .i64))) noneS)).rep W everywhere cs0 y ∧ ((∀ x0 ∈ y.1, (∀ x1 ∈ x0, (Lit.int .i64 x1).wf = true)) ∧ ((∀ x0 ∈ y.2.1, (∀ x1 ∈ x0, (Lit.int .i64 x1).wf = true)) ∧ True)) := by
    obtain ⟨fuel, hf⟩ := h0
    exact (opens_struct Try.underlying24 (show Try.prog.cellsOf 24 = 2 by kernel_rfl) (opensAt_cons (A := (sliceS (sliceS (intS .i64)))) rfl (show Try.prog.cellsOf 22 = 1 by kernel_rfl) (opens_slice (A := (sliceS (intS .i64))) Try.underlying22 (show Try.prog.cellsOf 49 = 1 by kernel_rfl) (by exact Nat.succ_pos _) (opens_slice (A := (intS .i64)) Try.underlying49 (show Try.prog.cellsOf 3 = 1 by kernel_rfl) (by exact Nat.succ_pos _) (opens_int Try.underlying3))) (opensAt_cons (A := (sliceS (sliceS (intS .i64)))) rfl (show Try.prog.cellsOf 22 = 1 by kernel_rfl) (opens_slice (A := (sliceS (intS .i64))) Try.underlying22 (show Try.prog.cellsOf 49 = 1 by kernel_rfl) (by exact Nat.succ_pos _) (opens_slice (A := (intS .i64)) Try.underlying49 (show Try.prog.cellsOf 3 = 1 by kernel_rfl) (by exact Nat.succ_pos _) (opens_int Try.underlying3))) opensAt_nil (by rfl)) (by rfl))) H enc W _ _ _ fuel _ _ (by simpa [Value.cells] using hf)
  obtain ⟨m0_0, m0_1, _⟩ := y0
  obtain ⟨a0_0, len0_0, cap0_0, d0_0, rfl, w0_0, hy0_0⟩ := consS_slice hy0
  obtain ⟨a0_1, len0_1, cap0_1, d0_1, rfl, w0_1, hy0_1⟩ := consS_slice hy0_0
  obtain rfl := noneS_nil hy0_1
  obtain ⟨f0_0, f0_1, _⟩ := hw0
  obtain ⟨a1, rfl, rfl, rfl, w1⟩ := open_int Try.underlying3 (hval 1 3 v1 rfl rfl) h1
  obtain ⟨a2, rfl, rfl, rfl, w2⟩ := open_int Try.underlying44 (hval 2 44 v2 rfl rfl) h2
  obtain ⟨a3, rfl, rfl, rfl, w3⟩ := open_int Try.underlying5 (hval 3 5 v3 rfl rfl) h3
  clear hA0 hval0
  refine (walk a0_0 len0_0 cap0_0 m0_0 a0_1 len0_1 cap0_1 m0_1 a1 a2 a3 W w0_0 f0_0 w0_1 f0_1 w1 w2 w3).mono fun e W' ⟨he, bel⟩ => ?_
  subst he
  exact ⟨_, rfl, _, _, _, [], _, [], hW', trodAll_mk1 (shut_bool Try.underlying4 _), (trodAll_cons_mk (Below.trod laidOut (by kernel_rfl) (of_decide_eq_true (by kernel_rfl)) k0 bel lt0) (trodAll_cons_mk (shut_int Try.underlying3 w1) (trodAll_cons_mk (shut_int Try.underlying44 w2) (trodAll_cons_mk (shut_int Try.underlying5 w3) trodAll_mk0)))), rfl, bel.frame _, fun h => by cases h⟩

theorem over : Rows.chunkBitRow.holds Try.pinned (OpenSpec.ofChange Rows.chunkBitSpec) :=
  OpenClaim.holds_of_wide 6 Try.f6 rfl rfl rfl rfl rfl rfl rfl ⟨rfl, rfl, rfl, rfl, rfl⟩ rfl rfl rfl rfl rfl (by kernel_rfl) Try.func6 (by kernel_rfl)
    (of_decide_eq_true (by kernel_rfl)) (by unfold Func.isWrapper; first | (rw [if_pos (by decide +kernel)]; kernel_rfl) | (rw [if_neg (by decide +kernel)]; exact ⟨rfl, rfl⟩))
    (fun os started H enc _ => lifted os started H enc)

end Go.Proofs.Ytgbcneiciefkkaa.chunkBit

namespace Go.Proofs.Ytgbcneiciefkkaa
theorem chunkBit_holds : Rows.ChunkBitSaid := chunkBit.over
end Go.Proofs.Ytgbcneiciefkkaa
