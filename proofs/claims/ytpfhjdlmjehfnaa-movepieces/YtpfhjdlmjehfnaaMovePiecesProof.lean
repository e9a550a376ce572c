/- Whatever move, number and text of a piece are handed in: Piece answers the move and the error that the document's own Piece answers, and Text the text of all pieces where the move is copied or committed, else none. Conditions: none (moves of at most 60 pieces of 100 bytes are tried; else the fixed answer is asked). -/
import Derived.Test.YtpfhjdlmjehfnaaRows
import Derived.Test.YtpfhjdlmjehfnaaMk
import Derived.Test.YtpfhjdlmjehfnaaMvL
import Derived.WalkKit
import Derived.ProofKit
import Derived.OpenShut
import Derived.ShutString
import Derived.ChangeOld
import Derived.Below
namespace Go.Proofs.Ytpfhjdlmjehfnaa.movePieces
open Go.ChangeShapes Go.WideShapes Go.ChangeAt Go.RowKit
open Go.ChangeMaps (open_string shut_string)
set_option linter.unusedVariables false

theorem own : ownKnob Try.prog.godebug = none := by kernel_rfl
theorem laidOut : laidOutB Try.prog = true := by kernel_rfl

/- The walk: the call returns true, and nothing that was there is written. -/
theorem walk (a0_0 : Int) (a0_1 : Int) (a0_2 : Int) (a0_3 : Int) (a0_4 : Int) (a0_5 : Option Addr) (len0_5 cap0_5 : Nat) (m0_5 : List Bool) (a0_6 : Option Addr) (len0_6 cap0_6 : Nat) (m0_6 : List ByteArray) (a1 : Int) (a2 : ByteArray) (w : World) (w0_0 : (Lit.int .i64 a0_0).wf = true) (w0_1 : (Lit.int .i64 a0_1).wf = true) (w0_2 : (Lit.int .i64 a0_2).wf = true) (w0_3 : (Lit.int .i64 a0_3).wf = true) (w0_4 : (Lit.int .i64 a0_4).wf = true) (w0_5 : (sliceS boolS).rep w everywhere [.slice a0_5 len0_5 cap0_5] m0_5) (f0_5 : (∀ x0 ∈ m0_5, True)) (w0_6 : (sliceS strS).rep w everywhere [.slice a0_6 len0_6 cap0_6] m0_6) (f0_6 : (∀ x0 ∈ m0_6, ByteArray.size x0 ≤ maxLen)) (w1 : (Lit.int .i64 a1).wf = true) (w2 : a2.size ≤ maxLen) :
    Calls Try.prog 4 #[.agg #[.int .i64 a0_0, .int .i64 a0_1, .int .i64 a0_2, .int .i64 a0_3, .int .i64 a0_4, .slice a0_5 len0_5 cap0_5, .slice a0_6 len0_6 cap0_6], .int .i64 a1, .string a2] w fun e w' => e = .returned (.bool true) ∧ Below w.heap.size w w' := by
  exact lpieces mawake a0_0 a0_1 a0_2 a0_3 a0_4 a0_5 len0_5 cap0_5 a0_6 len0_6 cap0_6 m0_5 m0_6 a1 a2 w w0_5 w0_6 w2

/- From the walk to the row. -/
set_option maxRecDepth 100000 in
theorem lifted (os : Os) (started : os.Started) (H : Type) (enc : TypeId × Value → H) :
    ReturnsInHanded {} Try.checked os 4 .any (Rows.movePiecesSpec.pre6 enc Try.prog Try.f4 Rows.movePiecesRow.domain false) (Rows.movePiecesSpec.post enc Try.prog Try.f4 false true false false) := by
  refine returnsInHanded_of_change (C := Try.checked) own started (by kernel_rfl) Try.func4
    (ChangeSpec.witness6 (enc := enc) (C := Try.checked) false ⟨#[], #[.agg #[.int .i64 0, .int .i64 0, .int .i64 0, .int .i64 0, .int .i64 0, .slice none 0 0, .slice none 0 0], .int .i64 0, .string ByteArray.empty], []⟩ 8 (by kernel_rfl) (by kernel_rfl) (by kernel_rfl) (by kernel_rfl)) ?_
  intro W base args ds gs before hval0 hW hcnd _
  have hval : ∀ (j : Nat) t v, Try.f4.params[j]? = some t → args[j]? = some v → Value.okWide Try.prog W .any base t v := hval0
  have hW' := hW
  obtain ⟨p, q, hA0, hV, rfl, hfz, hnd⟩ := hW
  have hA : DataW.TrodAll enc Try.prog W 0 (fun _ => true) true Try.f4.params.toList args.toList ds p := hA0
  rw [Try.params4] at hA hval
  obtain ⟨v0, vs0, d0, ds0, p0, q0, hargs, rfl, rfl, h0, r0⟩ := trodAll_cons hA
  obtain ⟨v1, vs1, d1, ds1, p1, q1, rfl, rfl, rfl, h1, r1⟩ := trodAll_cons r0
  obtain ⟨v2, vs2, d2, ds2, p2, q2, rfl, rfl, rfl, h2, r2⟩ := trodAll_cons r1
  obtain ⟨rfl, rfl, rfl⟩ := trodAll_nil r2
  obtain rfl : args = #[v0, v1, v2] := by cases args; simp_all
  obtain ⟨rfl, rfl⟩ := trodVars_none hV
  obtain ⟨cs0, rfl⟩ := okWide_agg Try.underlying30 (hval 0 30 v0 rfl rfl)
  have k0 := h0
  have lt0 : ∀ x ∈ p0, x.block < W.heap.size := by obtain ⟨m, hm⟩ := k0; exact DataW.trod_lt m _ _ _ hm
  obtain ⟨y0, hy0, hw0⟩ : ∃ y, (consS (intS .i64) (consS (intS .i64) (consS (intS .i64) (consS (intS .i64) (consS (intS .i64) (consS (sliceS boolS) (consS (sliceS strS) noneS))))))).rep W everywhere cs0 y ∧ ((Lit.int .i64 y.1).wf = true ∧ ((Lit.int .i64 y.2.1).wf = true ∧ ((Lit.int .i64 y.2.2.1).wf = true ∧ ((Lit.int .i64 y.2.2.2.1).wf = true ∧ ((Lit.int .i64 y.2.2.2.2.1).wf = true ∧ ((∀ x0 ∈ y.2.2.2.2.2.1, True) ∧ ((∀ x0 ∈ y.2.2.2.2.2.2.1, ByteArray.size x0 ≤ maxLen) ∧ True))))))) := by
    obtain ⟨fuel, hf⟩ := h0
    exact (opens_struct Try.underlying30 (show Try.prog.cellsOf 30 = 7 by kernel_rfl) (opensAt_cons (A := (intS .i64)) rfl (show Try.prog.cellsOf 3 = 1 by kernel_rfl) (opens_int Try.underlying3) (opensAt_cons (A := (intS .i64)) rfl (show Try.prog.cellsOf 3 = 1 by kernel_rfl) (opens_int Try.underlying3) (opensAt_cons (A := (intS .i64)) rfl (show Try.prog.cellsOf 3 = 1 by kernel_rfl) (opens_int Try.underlying3) (opensAt_cons (A := (intS .i64)) rfl (show Try.prog.cellsOf 3 = 1 by kernel_rfl) (opens_int Try.underlying3) (opensAt_cons (A := (intS .i64)) rfl (show Try.prog.cellsOf 3 = 1 by kernel_rfl) (opens_int Try.underlying3) (opensAt_cons (A := (sliceS boolS)) rfl (show Try.prog.cellsOf 27 = 1 by kernel_rfl) (opens_slice (A := boolS) Try.underlying27 (show Try.prog.cellsOf 4 = 1 by kernel_rfl) (by exact Nat.succ_pos _) (opens_bool Try.underlying4)) (opensAt_cons (A := (sliceS strS)) rfl (show Try.prog.cellsOf 28 = 1 by kernel_rfl) (opens_slice (A := strS) Try.underlying28 (show Try.prog.cellsOf 9 = 1 by kernel_rfl) (by exact Nat.succ_pos _) (opens_string Try.underlying9)) opensAt_nil (by rfl)) (by rfl)) (by rfl)) (by rfl)) (by rfl)) (by rfl)) (by rfl))) H enc W _ _ _ fuel _ _ (by simpa [Value.cells] using hf)
  obtain ⟨a0_0, a0_1, a0_2, a0_3, a0_4, m0_5, m0_6, _⟩ := y0
  obtain ⟨d0_0, rfl, hy0_0⟩ := consS_int hy0
  obtain ⟨d0_1, rfl, hy0_1⟩ := consS_int hy0_0
  obtain ⟨d0_2, rfl, hy0_2⟩ := consS_int hy0_1
  obtain ⟨d0_3, rfl, hy0_3⟩ := consS_int hy0_2
  obtain ⟨d0_4, rfl, hy0_4⟩ := consS_int hy0_3
  obtain ⟨a0_5, len0_5, cap0_5, d0_5, rfl, w0_5, hy0_5⟩ := consS_slice hy0_4
  obtain ⟨a0_6, len0_6, cap0_6, d0_6, rfl, w0_6, hy0_6⟩ := consS_slice hy0_5
  obtain rfl := noneS_nil hy0_6
  obtain ⟨w0_0, w0_1, w0_2, w0_3, w0_4, f0_5, f0_6, _⟩ := hw0
  obtain ⟨a1, rfl, rfl, rfl, w1⟩ := open_int Try.underlying3 (hval 1 3 v1 rfl rfl) h1
  obtain ⟨a2, rfl, rfl, rfl, w2⟩ := open_string Try.underlying9 (hval 2 9 v2 rfl rfl) h2
  clear hA0 hval0
  refine (walk a0_0 a0_1 a0_2 a0_3 a0_4 a0_5 len0_5 cap0_5 m0_5 a0_6 len0_6 cap0_6 m0_6 a1 a2 W w0_0 w0_1 w0_2 w0_3 w0_4 w0_5 f0_5 w0_6 f0_6 w1 w2).mono fun e W' ⟨he, bel⟩ => ?_
  subst he
  exact ⟨_, rfl, _, _, _, [], _, [], hW', trodAll_mk1 (shut_bool Try.underlying4 _), (trodAll_cons_mk (Below.trod laidOut (by kernel_rfl) (of_decide_eq_true (by kernel_rfl)) k0 bel lt0) (trodAll_cons_mk (shut_int Try.underlying3 w1) (trodAll_cons_mk (shut_string Try.underlying9 w2) trodAll_mk0))), rfl, bel.frame _, fun h => by cases h⟩

theorem over : Rows.movePiecesRow.holds Try.pinned (OpenSpec.ofChange Rows.movePiecesSpec) :=
  OpenClaim.holds_of_wide 4 Try.f4 rfl rfl rfl rfl rfl rfl rfl ⟨rfl, rfl, rfl, rfl, rfl⟩ rfl rfl rfl rfl rfl (by kernel_rfl) Try.func4 (by kernel_rfl)
    (of_decide_eq_true (by kernel_rfl)) (by unfold Func.isWrapper; first | (rw [if_pos (by decide +kernel)]; kernel_rfl) | (rw [if_neg (by decide +kernel)]; exact ⟨rfl, rfl⟩))
    (fun os started H enc _ => lifted os started H enc)

end Go.Proofs.Ytpfhjdlmjehfnaa.movePieces

namespace Go.Proofs.Ytpfhjdlmjehfnaa
theorem movePieces_holds : Rows.MovePiecesSaid := movePieces.over
end Go.Proofs.Ytpfhjdlmjehfnaa
