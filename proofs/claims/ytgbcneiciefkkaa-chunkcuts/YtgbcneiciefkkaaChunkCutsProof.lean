/- ChunkCuts: pieces are of the size, but the last one, and joined the text. -/
import Derived.Test.YtgbcneiciefkkaaRows
import Derived.Test.YtgbcneiciefkkaaChkL
import Derived.WalkKit
import Derived.ProofKit
import Derived.OpenShut
import Derived.ShutString
import Derived.ChangeOld
import Derived.Below
namespace Go.Proofs.Ytgbcneiciefkkaa.chunkCuts
open Go.ChangeShapes Go.WideShapes Go.ChangeAt Go.RowKit
open Go.ChangeMaps (open_string shut_string)
set_option linter.unusedVariables false

theorem own : ownKnob Try.prog.godebug = none := by kernel_rfl
theorem laidOut : laidOutB Try.prog = true := by kernel_rfl

/- The walk: the call returns true, and nothing that was there is written. -/
set_option maxHeartbeats 4000000 in
theorem walk (a0 : ByteArray) (a1 : Int) (w : World) (w0 : a0.size ≤ maxLen) (w1 : (Lit.int .u8 a1).wf = true) :
    Calls Try.prog 5 #[.string a0, .int .u8 a1] w fun e w' => e = .returned (.bool true) ∧ Below w.heap.size w w' := by
  have b1 := bounds_u8 w1
  clear w1
  by_cases hl : 600 < a0.size
  · have hi : (600 : Int) < (a0.size : Int) := by omega
    go_enter Try.func5, Try.ntmps5
    go_wp2_with (go_at_call 10; refine (kawake _).mono ?_; rintro e u6 ⟨rfl, hb6⟩)
    go_ret
    exact ⟨rfl, hb6⟩
  have hi : ¬ (600 : Int) < (a0.size : Int) := by omega
  obtain ⟨z, hz, ez⟩ : ∃ z : Nat, (1 ≤ z ∧ z ≤ 64) ∧ 1 + a1 % 64 = (z : Int) := ⟨(1 + a1 % 64).toNat, by omega, by omega⟩
  have hb64 : 0 ≤ a1 % 64 := by omega
  have hb65 : a1 % 64 < 64 := by omega
  obtain ⟨n, hn⟩ : ∃ n, Ck.num a0.size z = n := ⟨_, rfl⟩
  have hn6 : n ≤ 600 := by have := num_le_size (n := a0.size) hz.1; omega
  have HC : Hid (Calls _ _ _ _ _) := kcut a0 z hz.1 hz.2 (by omega) n hn w
  have HG : Hid (∀ k, k < n → (texts (Ck.cut a0.data.toList z)).getD k noText = ⟨(Ck.piece a0.data.toList z k).toArray⟩) := fun k hk => cut_get a0 hn hk
  have HP : Hid (∀ k, k < n → (⟨(Ck.piece a0.data.toList z k).toArray⟩ : ByteArray).size ≤ z ∧ (⟨(Ck.piece a0.data.toList z k).toArray⟩ : ByteArray).size ≠ 0 ∧ (k + 1 < n → (⟨(Ck.piece a0.data.toList z k).toArray⟩ : ByteArray).size = z)) := fun k hk => by
    have e : Ck.num a0.data.toList.length z = n := by rw [list_size]; exact hn
    rw [bsize]
    refine ⟨by rw [Ck.piece_len]; omega, fun h0 => ?_, fun h1 => Ck.piece_ahead hz.1 (by rw [e]; exact h1)⟩
    exact Ck.piece_some hz.1 (by rw [e]; exact hk) (List.eq_nil_of_length_eq_zero h0)
  have HJ : Hid _ := joined a0 (z := z) (by omega)
  have HJL : Hid _ := joined_len a0 (z := z) (by omega)
  have HS : Hid (a0.size ≤ 600) := by show _ ≤ _; omega
  obtain ⟨hz1, hz2⟩ := hz
  clear hn hl w0
  go_enter Try.func5, Try.ntmps5
  go_wp2_with fail
  refine HC.out.mono ?_
  rintro e u1 ⟨hb1, a3, c3, rfl, ho3⟩
  have hr := ho3.is
  have hT := Texts.of_rep hr
  have HT : Hid (Texts u1 a3 n (texts (Ck.cut a0.data.toList z))) := hT
  have HR : Hid _ := hr
  clear HC ho3 hr hT b1
  go_wp2
  go_loopw [26] (fun i wr => ∃ k : Nat, k ≤ n ∧ i = .int .i64 k ∧ wr = u1) (fun i _ => n - (intOf i).toNat)
  case atStart => exact ⟨0, Nat.zero_le _, rfl, rfl⟩
  case round =>
    obtain ⟨k, hk, rfl, hww⟩ := hrel
    replace hww := hww.symm
    subst hww
    by_cases hlt : k < n
    · have hli : (k : Int) < (n : Int) := by omega
      obtain ⟨b4, o4, rfl, _, hc4⟩ := Texts.at HT.out hlt
      rw [HG.out k hlt] at hc4
      obtain ⟨p1, p2, p3⟩ := HP.out k hlt
      generalize (⟨(Ck.piece a0.data.toList z k).toArray⟩ : ByteArray) = t at *
      have q1 : ¬ (z : Int) < (t.size : Int) := by omega
      have q2 : (t.toList == ([] : List UInt8)) = false := str_some p2
      by_cases hl1 : k + 1 < n
      · have q3 : (k : Int) < (n : Int) - 1 := by omega
        have hpz := p3 hl1
        have q4 : ((t.size : Int) != (z : Int)) = false := by rw [hpz]; simp
        have HPZ : Hid (t.size = z) := hpz
        clear p1 p2 p3 hpz
        go_wp2
        go_roundw
        case rel => exact ⟨k + 1, by omega, by go_num, by trivial⟩
        case measure => simp [intOf]; omega
      · have q3 : ¬ (k : Int) < (n : Int) - 1 := by omega
        clear p1 p2 p3
        go_wp2
        go_roundw
        case rel => exact ⟨k + 1, by omega, by go_num, by trivial⟩
        case measure => simp [intOf]; omega
    · have hli : ¬ (k : Int) < (n : Int) := by omega
      have e5 : (a0.toList == a0.toList) = true := by simp
      have HJ2 : Hid (Calls _ _ _ _ _) := kjoin a3 n c3 _ everywhere u1 HR.out (by omega) (by rw [HJL.out]; have := HS.out; omega)
      rw [HJ.out] at HJ2
      go_wp2_with fail
      refine HJ2.out.mono ?_
      rintro e u2 ⟨rfl, hb2⟩
      have hB2 := bel_then hb1 hb2
      go_wp2_with (go_at_call 10; refine (kawake _).mono ?_; rintro e u6 ⟨rfl, hb6⟩)
      go_ret
      exact ⟨rfl, bel_then hB2 hb6⟩

/- From the walk to the row. -/
set_option maxRecDepth 100000 in
theorem lifted (os : Os) (started : os.Started) (H : Type) (enc : TypeId × Value → H) :
    ReturnsInHanded {} Try.checked os 5 .any (Rows.chunkCutsSpec.pre6 enc Try.prog Try.f5 Rows.chunkCutsRow.domain false) (Rows.chunkCutsSpec.post enc Try.prog Try.f5 false true false false) := by
  refine returnsInHanded_of_change (C := Try.checked) own started (by kernel_rfl) Try.func5
    (ChangeSpec.witness6 (enc := enc) (C := Try.checked) false ⟨#[], #[.string ByteArray.empty, .int .u8 0], []⟩ 8 (by kernel_rfl) (by kernel_rfl) (by kernel_rfl) (by kernel_rfl)) ?_
  intro W base args ds gs before hval0 hW hcnd _
  have hval : ∀ (j : Nat) t v, Try.f5.params[j]? = some t → args[j]? = some v → Value.okWide Try.prog W .any base t v := hval0
  have hW' := hW
  obtain ⟨p, q, hA0, hV, rfl, hfz, hnd⟩ := hW
  have hA : DataW.TrodAll enc Try.prog W 0 (fun _ => true) true Try.f5.params.toList args.toList ds p := hA0
  rw [Try.params5] at hA hval
  obtain ⟨v0, vs0, d0, ds0, p0, q0, hargs, rfl, rfl, h0, r0⟩ := trodAll_cons hA
  obtain ⟨v1, vs1, d1, ds1, p1, q1, rfl, rfl, rfl, h1, r1⟩ := trodAll_cons r0
  obtain ⟨rfl, rfl, rfl⟩ := trodAll_nil r1
  obtain rfl : args = #[v0, v1] := by cases args; simp_all
  obtain ⟨rfl, rfl⟩ := trodVars_none hV
  obtain ⟨a0, rfl, rfl, rfl, w0⟩ := open_string Try.underlying9 (hval 0 9 v0 rfl rfl) h0
  obtain ⟨a1, rfl, rfl, rfl, w1⟩ := open_int Try.underlying5 (hval 1 5 v1 rfl rfl) h1
  clear hA0 hval0
  refine (walk a0 a1 W w0 w1).mono fun e W' ⟨he, bel⟩ => ?_
  subst he
  exact ⟨_, rfl, _, _, _, [], _, [], hW', trodAll_mk1 (shut_bool Try.underlying4 _), (trodAll_cons_mk (shut_string Try.underlying9 w0) (trodAll_cons_mk (shut_int Try.underlying5 w1) trodAll_mk0)), rfl, bel.frame _, fun h => by cases h⟩

theorem over : Rows.chunkCutsRow.holds Try.pinned (OpenSpec.ofChange Rows.chunkCutsSpec) :=
  OpenClaim.holds_of_wide 5 Try.f5 rfl rfl rfl rfl rfl rfl rfl ⟨rfl, rfl, rfl, rfl, rfl⟩ rfl rfl rfl rfl rfl (by kernel_rfl) Try.func5 (by kernel_rfl)
    (of_decide_eq_true (by kernel_rfl)) (by unfold Func.isWrapper; first | (rw [if_pos (by decide +kernel)]; kernel_rfl) | (rw [if_neg (by decide +kernel)]; exact ⟨rfl, rfl⟩))
    (fun os started H enc _ => lifted os started H enc)

end Go.Proofs.Ytgbcneiciefkkaa.chunkCuts

namespace Go.Proofs.Ytgbcneiciefkkaa
theorem chunkCuts_holds : Rows.ChunkCutsSaid := chunkCuts.over
end Go.Proofs.Ytgbcneiciefkkaa
