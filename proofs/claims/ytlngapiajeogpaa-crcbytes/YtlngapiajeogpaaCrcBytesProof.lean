/- CrcBytes holds: of a string of at most 200 bytes and a byte behind it crc.Sum is not below 0, below 2^32, and for two bytes behind it the same if they are the same, and only then. -/
import Derived.Test.YtlngapiajeogpaaRows
import Derived.Test.YtlngapiajeogpaaCrcB
import Derived.WalkKit
import Derived.ProofKit
import Derived.OpenShut
import Derived.ShutString
import Derived.ChangeOld
import Derived.Below
namespace Go.Proofs.Ytlngapiajeogpaa.crcBytes
open Go.ChangeShapes Go.WideShapes Go.ChangeAt Go.RowKit
open Go.ChangeMaps (open_string shut_string)
set_option linter.unusedVariables false

theorem own : ownKnob Try.prog.godebug = none := by kernel_rfl
theorem laidOut : laidOutB Try.prog = true := by kernel_rfl

/- The walk: the call returns true, and nothing that was there is written. -/
set_option maxHeartbeats 4000000 in
theorem walk (a0 : ByteArray) (a1 : Int) (a2 : Int) (w : World) (w0 : a0.size ≤ maxLen) (w1 : (Lit.int .u8 a1).wf = true) (w2 : (Lit.int .u8 a2).wf = true) :
    Calls Try.prog 6 #[.string a0, .int .u8 a1, .int .u8 a2] w fun e w' => e = .returned (.bool true) ∧ Below w.heap.size w w' := by
  have b1 := bounds_u8 w1
  have b2 := bounds_u8 w2
  clear w1 w2
  by_cases hl : 200 < a0.size
  · have hi : (200 : Int) < (a0.size : Int) := by omega
    go_enter Try.func6, Try.ntmps6
    go_wp2_with (go_at_call 7; refine by_same (cawake _) ?_)
    go_ret
    exact ⟨rfl, Below.refl _ _⟩
  have hi : ¬ (200 : Int) < (a0.size : Int) := by omega
  obtain ⟨x, rfl⟩ := u8_of b1.1 (by omega)
  obtain ⟨y, rfl⟩ := u8_of b2.1 (by omega)
  have hA : ∀ v : UInt8, Fits (a0 ++ ⟨#[v]⟩) := fun v => ⟨by rw [ByteArray.size_append]; show a0.size + 1 ≤ maxLen; unfold maxLen; omega⟩
  have hf1 := hA x
  have hf2 := hA y
  have hz : ∀ v : UInt8, ¬ (9223372036854775807 < a0.size + ByteArray.size ⟨#[v]⟩) := fun v => by show ¬ (9223372036854775807 < a0.size + 1); omega
  have hz1 := hz x
  have hz2 := hz y
  have ca := one_back (W := (w.alloc (.cells #[.int .u8 (x.toNat : Nat)] 5)).drew) (b := w.heap.size) (x := x) (heap_new w _ _ rfl)
  have cb := one_back (W := (w.alloc (.cells #[.int .u8 (y.toNat : Nat)] 5)).drew) (b := w.heap.size) (x := y) (heap_new w _ _ rfl)
  have cab1 := one_back (W := ((w.alloc (.cells #[.int .u8 (x.toNat : Nat)] 5)).alloc (.cells #[.int .u8 (y.toNat : Nat)] 5)).drew) (b := w.heap.size) (x := x) (heap_old (w.alloc (.cells #[.int .u8 (x.toNat : Nat)] 5)) _ _ _ (by simp) (heap_new w _ _ rfl))
  have cab2 := one_back (W := ((w.alloc (.cells #[.int .u8 (x.toNat : Nat)] 5)).alloc (.cells #[.int .u8 (y.toNat : Nat)] 5)).drew) (b := w.heap.size + 1) (x := y) (heap_new (w.alloc (.cells #[.int .u8 (x.toNat : Nat)] 5)) _ _ (by simp))
  have cba1 := one_back (W := ((w.alloc (.cells #[.int .u8 (y.toNat : Nat)] 5)).alloc (.cells #[.int .u8 (x.toNat : Nat)] 5)).drew) (b := w.heap.size) (x := y) (heap_old (w.alloc (.cells #[.int .u8 (y.toNat : Nat)] 5)) _ _ _ (by simp) (heap_new w _ _ rfl))
  have cba2 := one_back (W := ((w.alloc (.cells #[.int .u8 (y.toNat : Nat)] 5)).alloc (.cells #[.int .u8 (x.toNat : Nat)] 5)).drew) (b := w.heap.size + 1) (x := x) (heap_new (w.alloc (.cells #[.int .u8 (y.toNat : Nat)] 5)) _ _ (by simp))
  have HL : Hid (crc (a0 ++ ⟨#[x]⟩) = crc (a0 ++ ⟨#[y]⟩) ↔ x = y) := crc_last a0 x y
  have HI : Hid (x.toNat = y.toNat ↔ x = y) := UInt8.toNat_inj
  have hc1 := crc_lt (a0 ++ ⟨#[x]⟩)
  have HF : Hid (∀ s, Fits s → ∀ w, Calls Try.prog 8 #[.string s] w fun e w' => e = .returned (.int .i64 (crc s : Nat)) ∧ w' = w) := fsum
  have HB1 : Hid (Below w.heap.size w ((w.alloc (.cells #[.int .u8 (x.toNat : Nat)] 5)).alloc (.cells #[.int .u8 (y.toNat : Nat)] 5)).drew) := (bel_alloc (new_bel _ _) _).drew
  have HB2 : Hid (Below w.heap.size w ((w.alloc (.cells #[.int .u8 (y.toNat : Nat)] 5)).alloc (.cells #[.int .u8 (x.toNat : Nat)] 5)).drew) := (bel_alloc (new_bel _ _) _).drew
  clear hA hz w0
  generalize crc = f at *
  generalize (⟨#[x]⟩ : ByteArray) = t1 at *
  generalize (⟨#[y]⟩ : ByteArray) = t2 at *
  have hc3 : ((f (a0 ++ t1) : Nat) : Int) < 4294967296 := by omega
  go_enter Try.func6, Try.ntmps6
  go_upto_region 3 with fail
  go_cut [7, 8] from 9 (fun v8 v9 wx => v8 = .int .i64 (f (a0 ++ t1) : Nat) ∧ v9 = .int .i64 (f (a0 ++ t2) : Nat) ∧ Below w.heap.size w wx)
  case first =>
    rename_i Jx Kx hRJ hMK
    set_option maxRecDepth 100000 in
    go_region_with
      (first
        | (go_at_call 8; refine by_same (HF.out _ (by assumption) _) ?_)
        | fail)
    all_goals
      refine hMK _ _ (Met.intro (hRJ _ _ ?_))
      (repeat apply Exists.intro)
      refine ⟨?_, rfl⟩
      first
        | exact ⟨rfl, rfl, HB1.out⟩
        | exact ⟨rfl, rfl, HB2.out⟩
  case rest =>
    obtain ⟨rfl, rfl, hB5⟩ := hcut
    clear ca cb cab1 cab2 cba1 cba2 hf1 hf2 hz1 hz2
    by_cases hxy : x = y
    · have e1 : (((f (a0 ++ t1) : Nat) : Int) == ((f (a0 ++ t2) : Nat) : Int)) = true := by rw [HL.out.2 hxy]; simp
      have e2 : (((x.toNat : Nat) : Int) == ((y.toNat : Nat) : Int)) = true := by rw [HI.out.2 hxy]; simp
      clear hxy
      go_wp2_with (go_at_call 7; refine by_same (cawake _) ?_)
      go_ret
      exact ⟨rfl, hB5⟩
    · have e1 : (((f (a0 ++ t1) : Nat) : Int) == ((f (a0 ++ t2) : Nat) : Int)) = false := by
        rw [beq_eq_false_iff_ne]
        intro h
        exact hxy (HL.out.1 (by exact_mod_cast h))
      have e2 : (((x.toNat : Nat) : Int) == ((y.toNat : Nat) : Int)) = false := by
        rw [beq_eq_false_iff_ne]
        intro h
        exact hxy (HI.out.1 (by exact_mod_cast h))
      clear hxy
      go_wp2_with (go_at_call 7; refine by_same (cawake _) ?_)
      go_ret
      exact ⟨rfl, hB5⟩

/- From the walk to the row. -/
set_option maxRecDepth 100000 in
theorem lifted (os : Os) (started : os.Started) (H : Type) (enc : TypeId × Value → H) :
    ReturnsInHanded {} Try.checked os 6 .any (Rows.crcBytesSpec.pre6 enc Try.prog Try.f6 Rows.crcBytesRow.domain false) (Rows.crcBytesSpec.post enc Try.prog Try.f6 false true false false) := by
  refine returnsInHanded_of_change (C := Try.checked) own started (by kernel_rfl) Try.func6
    (ChangeSpec.witness6 (enc := enc) (C := Try.checked) false ⟨#[], #[.string ByteArray.empty, .int .u8 0, .int .u8 0], []⟩ 8 (by kernel_rfl) (by kernel_rfl) (by kernel_rfl) (by kernel_rfl)) ?_
  intro W base args ds gs before hval0 hW hcnd _
  have hval : ∀ (j : Nat) t v, Try.f6.params[j]? = some t → args[j]? = some v → Value.okWide Try.prog W .any base t v := hval0
  have hW' := hW
  obtain ⟨p, q, hA0, hV, rfl, hfz, hnd⟩ := hW
  have hA : DataW.TrodAll enc Try.prog W 0 (fun _ => true) true Try.f6.params.toList args.toList ds p := hA0
  rw [Try.params6] at hA hval
  obtain ⟨v0, vs0, d0, ds0, p0, q0, hargs, rfl, rfl, h0, r0⟩ := trodAll_cons hA
  obtain ⟨v1, vs1, d1, ds1, p1, q1, rfl, rfl, rfl, h1, r1⟩ := trodAll_cons r0
  obtain ⟨v2, vs2, d2, ds2, p2, q2, rfl, rfl, rfl, h2, r2⟩ := trodAll_cons r1
  obtain ⟨rfl, rfl, rfl⟩ := trodAll_nil r2
  obtain rfl : args = #[v0, v1, v2] := by cases args; simp_all
  obtain ⟨rfl, rfl⟩ := trodVars_none hV
  obtain ⟨a0, rfl, rfl, rfl, w0⟩ := open_string Try.underlying9 (hval 0 9 v0 rfl rfl) h0
  obtain ⟨a1, rfl, rfl, rfl, w1⟩ := open_int Try.underlying5 (hval 1 5 v1 rfl rfl) h1
  obtain ⟨a2, rfl, rfl, rfl, w2⟩ := open_int Try.underlying5 (hval 2 5 v2 rfl rfl) h2
  clear hA0 hval0
  refine (walk a0 a1 a2 W w0 w1 w2).mono fun e W' ⟨he, bel⟩ => ?_
  subst he
  exact ⟨_, rfl, _, _, _, [], _, [], hW', trodAll_mk1 (shut_bool Try.underlying4 _), (trodAll_cons_mk (shut_string Try.underlying9 w0) (trodAll_cons_mk (shut_int Try.underlying5 w1) (trodAll_cons_mk (shut_int Try.underlying5 w2) trodAll_mk0))), rfl, bel.frame _, fun h => by cases h⟩

theorem over : Rows.crcBytesRow.holds Try.pinned (OpenSpec.ofChange Rows.crcBytesSpec) :=
  OpenClaim.holds_of_wide 6 Try.f6 rfl rfl rfl rfl rfl rfl rfl ⟨rfl, rfl, rfl, rfl, rfl⟩ rfl rfl rfl rfl rfl (by kernel_rfl) Try.func6 (by kernel_rfl)
    (of_decide_eq_true (by kernel_rfl)) (by unfold Func.isWrapper; first | (rw [if_pos (by decide +kernel)]; kernel_rfl) | (rw [if_neg (by decide +kernel)]; exact ⟨rfl, rfl⟩))
    (fun os started H enc _ => lifted os started H enc)

end Go.Proofs.Ytlngapiajeogpaa.crcBytes

namespace Go.Proofs.Ytlngapiajeogpaa
theorem crcBytes_holds : Rows.CrcBytesSaid := crcBytes.over
end Go.Proofs.Ytlngapiajeogpaa
