/- ChunkSizes: how many bytes an expert has; unlike experts have unlike bytes. -/
import Derived.Test.YtgbcneiciefkkaaRows
import Derived.Test.YtgbcneiciefkkaaChkL
import Derived.WalkKit
import Derived.ProofKit
import Derived.OpenShut
import Derived.ShutString
import Derived.ChangeOld
import Derived.Below
namespace Go.Proofs.Ytgbcneiciefkkaa.chunkSizes
open Go.ChangeShapes Go.WideShapes Go.ChangeAt Go.RowKit
open Go.ChangeMaps (open_string shut_string)
set_option linter.unusedVariables false

theorem own : ownKnob Try.prog.godebug = none := by kernel_rfl
theorem laidOut : laidOutB Try.prog = true := by kernel_rfl

/- The walk: the call returns true, and nothing that was there is written. -/
set_option maxHeartbeats 4000000 in
set_option maxRecDepth 100000 in
theorem walk (a0_0 : Option Addr) (len0_0 cap0_0 : Nat) (m0_0 : List (List Int)) (a0_1 : Option Addr) (len0_1 cap0_1 : Nat) (m0_1 : List (List Int)) (a1_0 : Option Addr) (len1_0 cap1_0 : Nat) (m1_0 : List (List Int)) (a1_1 : Option Addr) (len1_1 cap1_1 : Nat) (m1_1 : List (List Int)) (a2 : Int) (w : World) (w0_0 : (sliceS (sliceS (intS .i64))).rep w everywhere [.slice a0_0 len0_0 cap0_0] m0_0) (f0_0 : (∀ x0 ∈ m0_0, (∀ x1 ∈ x0, (Lit.int .i64 x1).wf = true))) (w0_1 : (sliceS (sliceS (intS .i64))).rep w everywhere [.slice a0_1 len0_1 cap0_1] m0_1) (f0_1 : (∀ x0 ∈ m0_1, (∀ x1 ∈ x0, (Lit.int .i64 x1).wf = true))) (w1_0 : (sliceS (sliceS (intS .i64))).rep w everywhere [.slice a1_0 len1_0 cap1_0] m1_0) (f1_0 : (∀ x0 ∈ m1_0, (∀ x1 ∈ x0, (Lit.int .i64 x1).wf = true))) (w1_1 : (sliceS (sliceS (intS .i64))).rep w everywhere [.slice a1_1 len1_1 cap1_1] m1_1) (f1_1 : (∀ x0 ∈ m1_1, (∀ x1 ∈ x0, (Lit.int .i64 x1).wf = true))) (w2 : (Lit.int .i64 a2).wf = true) :
    Calls Try.prog 7 #[.agg #[.slice a0_0 len0_0 cap0_0, .slice a0_1 len0_1 cap0_1], .agg #[.slice a1_0 len1_0 cap1_0, .slice a1_1 len1_1 cap1_1], .int .i64 a2] w fun e w' => e = .returned (.bool true) ∧ Below w.heap.size w w' := by
  have hX : Exp w a0_0 len0_0 cap0_0 a0_1 len0_1 cap0_1 m0_0 m0_1 := ⟨w0_0, w0_1⟩
  have hY : Exp w a1_0 len1_0 cap1_0 a1_1 len1_1 cap1_1 m1_0 m1_1 := ⟨w1_0, w1_1⟩
  clear w0_0 w0_1 f0_0 f0_1 w1_0 w1_1 f1_0 f1_1 w2
  have hB : Below w.heap.size w ((w.alloc (.cells #[.slice a0_0 len0_0 cap0_0, .slice a0_1 len0_1 cap0_1] 24)).alloc (.cells #[.slice a1_0 len1_0 cap1_0, .slice a1_1 len1_1 cap1_1] 24)) := bel_two _ _ _
  have q := (Box.new w 24 #[.slice a0_0 len0_0 cap0_0, .slice a0_1 len0_1 cap0_1]).keep (new_bel _ (.cells #[.slice a1_0 len1_0 cap1_0, .slice a1_1 len1_1 cap1_1] 24))
  have r := Box.new (w.alloc (.cells #[.slice a0_0 len0_0 cap0_0, .slice a0_1 len0_1 cap0_1] 24)) 24 #[.slice a1_0 len1_0 cap1_0, .slice a1_1 len1_1 cap1_1]
  have hX0 := hX.below hB
  have hY0 := hY.below hB
  have eW : (w.alloc (.cells #[.slice a0_0 len0_0 cap0_0, .slice a0_1 len0_1 cap0_1] 24)).heap.size = w.heap.size + 1 := by simp
  rw [eW] at r
  clear hX hY eW
  by_cases hs0 : Mx.Small m0_0
  case neg =>
    have HSN : Hid (¬ Mx.Small m0_0) := hs0
    clear hs0
    go_enter Try.func7, Try.ntmps7
    go_wp2_with fail
    refine by_says (small _ _ _ m0_0 everywhere _ hX0.i) (fun h => absurd h HSN.out) (fun _ => ?_)
    go_wp2_with fail
    refine (kawake _).mono ?_
    rintro e u6 ⟨rfl, hb6⟩
    go_wp2
    go_ret
    exact ⟨rfl, bel_then hB hb6⟩
  have HS0 : Hid (Mx.Small m0_0) := hs0
  clear hs0
  by_cases hs1 : Mx.Small m0_1
  case neg =>
    have HSN : Hid (¬ Mx.Small m0_1) := hs1
    clear hs1
    go_enter Try.func7, Try.ntmps7
    go_wp2_with fail
    refine by_says (small _ _ _ m0_0 everywhere _ hX0.i) (fun _ => ?_) (fun h => absurd HS0.out h)
    go_wp2_with fail
    refine by_says (small _ _ _ m0_1 everywhere _ hX0.o) (fun h => absurd h HSN.out) (fun _ => ?_)
    go_wp2_with fail
    refine (kawake _).mono ?_
    rintro e u6 ⟨rfl, hb6⟩
    go_wp2
    go_ret
    exact ⟨rfl, bel_then hB hb6⟩
  have HS1 : Hid (Mx.Small m0_1) := hs1
  clear hs1
  by_cases hs2 : Mx.Small m1_0
  case neg =>
    have HSN : Hid (¬ Mx.Small m1_0) := hs2
    clear hs2
    go_enter Try.func7, Try.ntmps7
    go_wp2_with fail
    refine by_says (small _ _ _ m0_0 everywhere _ hX0.i) (fun _ => ?_) (fun h => absurd HS0.out h)
    go_wp2_with fail
    refine by_says (small _ _ _ m0_1 everywhere _ hX0.o) (fun _ => ?_) (fun h => absurd HS1.out h)
    go_wp2_with fail
    refine by_says (small _ _ _ m1_0 everywhere _ hY0.i) (fun h => absurd h HSN.out) (fun _ => ?_)
    go_wp2_with fail
    refine (kawake _).mono ?_
    rintro e u6 ⟨rfl, hb6⟩
    go_wp2
    go_ret
    exact ⟨rfl, bel_then hB hb6⟩
  have HS2 : Hid (Mx.Small m1_0) := hs2
  clear hs2
  by_cases hs3 : Mx.Small m1_1
  case neg =>
    have HSN : Hid (¬ Mx.Small m1_1) := hs3
    clear hs3
    go_enter Try.func7, Try.ntmps7
    go_wp2_with fail
    refine by_says (small _ _ _ m0_0 everywhere _ hX0.i) (fun _ => ?_) (fun h => absurd HS0.out h)
    go_wp2_with fail
    refine by_says (small _ _ _ m0_1 everywhere _ hX0.o) (fun _ => ?_) (fun h => absurd HS1.out h)
    go_wp2_with fail
    refine by_says (small _ _ _ m1_0 everywhere _ hY0.i) (fun _ => ?_) (fun h => absurd HS2.out h)
    go_wp2_with fail
    refine by_says (small _ _ _ m1_1 everywhere _ hY0.o) (fun h => absurd h HSN.out) (fun _ => ?_)
    go_wp2_with fail
    refine (kawake _).mono ?_
    rintro e u6 ⟨rfl, hb6⟩
    go_wp2
    go_ret
    exact ⟨rfl, bel_then hB hb6⟩
  have HS3 : Hid (Mx.Small m1_1) := hs3
  clear hs3
  have HI : Hid (Ex.Sized m0_0) := Ex.small_sized HS0.out
  have HO : Hid (Ex.Sized m0_1) := Ex.small_sized HS1.out
  have HI2 : Hid (Ex.Sized m1_0) := Ex.small_sized HS2.out
  have HO2 : Hid (Ex.Sized m1_1) := Ex.small_sized HS3.out
  have hse : (noText.toList == ([] : List UInt8)) = true := text_none
  by_cases hp0 : Ex.Right m0_0 m0_1 a2
  · by_cases hp1 : Ex.Right m1_0 m1_1 a2
    · have HE0 : Hid (∀ w, Exp w a0_0 len0_0 cap0_0 a0_1 len0_1 cap0_1 m0_0 m0_1 → Calls _ _ _ _ _) := fun w h => kexport a0_0 len0_0 cap0_0 a0_1 len0_1 cap0_1 m0_0 m0_1 a2 w h hp0
      have HE1 : Hid (∀ w, Exp w a1_0 len1_0 cap1_0 a1_1 len1_1 cap1_1 m1_0 m1_1 → Calls _ _ _ _ _) := fun w h => kexport a1_0 len1_0 cap1_0 a1_1 len1_1 cap1_1 m1_0 m1_1 a2 w h hp1
      have hz1 := exp_short hp0
      have hsize := exp_size hp0
      obtain ⟨d, hd⟩ : ∃ d : Nat, a2 = (d : Int) := ⟨a2.toNat, by have := hp0.1; omega⟩
      have hli : m0_0.length = len0_0 := (sliceS_len hX0.i).1
      have ed : 8 * (len0_0 : Int) * a2 = 8 * ((len0_0 * d : Nat) : Int) := by rw [hd, Int.mul_assoc, ← Int.natCast_mul]
      have hdt : a2.toNat = d := by omega
      rw [hli, hdt] at hsize
      have hA : len0_0 * d ≤ 64 := by
        have h1 := hp0.2.1
        have h2 := hp0.1
        exact Nat.mul_le_mul (show len0_0 ≤ 8 by omega) (show d ≤ 8 by omega)
      have hl8 : len0_0 ≤ 8 := by have := hp0.2.1; omega
      have HEQ : Hid ((⟨(Ck.exp m0_0 m0_1 a2).toArray⟩ : ByteArray) = ⟨(Ck.exp m1_0 m1_1 a2).toArray⟩ ↔ m0_0 = m1_0 ∧ m0_1 = m1_1) := by
        constructor
        · intro h
          have h9 : Ck.exp m0_0 m0_1 a2 = Ck.exp m1_0 m1_1 a2 := by rw [← exp_list m0_0 m0_1 a2, ← exp_list m1_0 m1_1 a2, h]
          obtain ⟨k1, k2, _⟩ := Ck.exp_inj hp0 hp1 h9
          exact ⟨k1, k2⟩
        · rintro ⟨rfl, rfl⟩
          rfl
      generalize (⟨(Ck.exp m0_0 m0_1 a2).toArray⟩ : ByteArray) = S1 at *
      generalize (⟨(Ck.exp m1_0 m1_1 a2).toArray⟩ : ByteArray) = S2 at *
      generalize len0_0 * d = A at *
      have es : ((S1.size : Int) == 12 + 8 * (A : Int)) = true := by rw [beq_iff_eq]; omega
      clear hp0 hp1 hsize hz1 hli hdt hd
      obtain ⟨b, hb, hbb⟩ : ∃ b : Bool, (S1.toList == S2.toList) = b ∧ (b = true ↔ m0_0 = m1_0 ∧ m0_1 = m1_1) := by
        by_cases h : S1 = S2
        · exact ⟨true, text_eq h, by simp; exact HEQ.out.1 h⟩
        · exact ⟨false, text_ne h, by simp; exact fun h1 h2 => h (HEQ.out.2 ⟨h1, h2⟩)⟩
      have HBB : Hid (b = true ↔ m0_0 = m1_0 ∧ m0_1 = m1_1) := hbb
      have eb : (b == b) = true := by simp
      clear hbb HEQ
      go_enter Try.func7, Try.ntmps7
      go_wp2_with fail
      refine by_says (small _ _ _ m0_0 everywhere _ hX0.i) (fun _ => ?_) (fun h => absurd HS0.out h)
      go_wp2_with fail
      refine by_says (small _ _ _ m0_1 everywhere _ hX0.o) (fun _ => ?_) (fun h => absurd HS1.out h)
      go_wp2_with fail
      refine by_says (small _ _ _ m1_0 everywhere _ hY0.i) (fun _ => ?_) (fun h => absurd HS2.out h)
      go_wp2_with fail
      refine by_says (small _ _ _ m1_1 everywhere _ hY0.o) (fun _ => ?_) (fun h => absurd HS3.out h)
      go_wp2_with fail
      refine (HE0.out _ hX0).mono ?_
      rintro e u1 ⟨rfl, hb1⟩
      have hB1 := bel_then hB hb1
      have hX1 := hX0.below hb1
      have hY1 := hY0.below hb1
      have q1 := q.keep hb1
      have r1 := r.keep hb1
      clear HE0 hX0 hY0 q r hB
      have p0 := r1.cell 0 rfl
      have p1 := r1.cell 1 rfl
      go_wp2_with fail
      refine (HE1.out _ hY1).mono ?_
      rintro e u2 ⟨rfl, hb2⟩
      have hB2 := bel_then hB1 hb2
      have hX2 := hX1.below hb2
      have hY2 := hY1.below hb2
      have q2 := q1.keep hb2
      have r2 := r1.keep hb2
      clear HE1 hX1 hY1 q1 r1 hB1 p0 p1
      have HS : Hid (Calls _ _ _ _ _) := ksame a0_0 len0_0 cap0_0 a0_1 len0_1 cap0_1 m0_0 m0_1 a1_0 len1_0 cap1_0 a1_1 len1_1 cap1_1 m1_0 m1_1 u2 hX2 hY2 HI.out HO.out HI2.out HO2.out b HBB.out
      have p0 := q2.cell 0 rfl
      have p1 := q2.cell 1 rfl
      have p2 := r2.cell 0 rfl
      have p3 := r2.cell 1 rfl
      clear hX2 hY2 HBB
      go_wp2_with fail
      refine HS.out.mono ?_
      rintro e u3 ⟨rfl, hb3⟩
      have hB3 := bel_then hB2 hb3
      clear HS p0 p1 p2 p3 q2 r2 hB2
      go_wp2_with fail
      refine (kawake _).mono ?_
      rintro e u6 ⟨rfl, hb6⟩
      go_wp2
      go_ret
      exact ⟨rfl, bel_then hB3 hb6⟩

    · have HE0 : Hid (∀ w, Exp w a0_0 len0_0 cap0_0 a0_1 len0_1 cap0_1 m0_0 m0_1 → Calls _ _ _ _ _) := fun w h => kexport a0_0 len0_0 cap0_0 a0_1 len0_1 cap0_1 m0_0 m0_1 a2 w h hp0
      have HE1 : Hid (∀ w, Exp w a1_0 len1_0 cap1_0 a1_1 len1_1 cap1_1 m1_0 m1_1 → Calls _ _ _ _ _) := fun w h => kexport_no a1_0 len1_0 cap1_0 a1_1 len1_1 cap1_1 m1_0 m1_1 a2 w h HI2.out HO2.out hp1
      generalize (⟨(Ck.exp m0_0 m0_1 a2).toArray⟩ : ByteArray) = S1 at *
      clear hp0 hp1
      go_enter Try.func7, Try.ntmps7
      go_wp2_with fail
      refine by_says (small _ _ _ m0_0 everywhere _ hX0.i) (fun _ => ?_) (fun h => absurd HS0.out h)
      go_wp2_with fail
      refine by_says (small _ _ _ m0_1 everywhere _ hX0.o) (fun _ => ?_) (fun h => absurd HS1.out h)
      go_wp2_with fail
      refine by_says (small _ _ _ m1_0 everywhere _ hY0.i) (fun _ => ?_) (fun h => absurd HS2.out h)
      go_wp2_with fail
      refine by_says (small _ _ _ m1_1 everywhere _ hY0.o) (fun _ => ?_) (fun h => absurd HS3.out h)
      go_wp2_with fail
      refine (HE0.out _ hX0).mono ?_
      rintro e u1 ⟨rfl, hb1⟩
      have hB1 := bel_then hB hb1
      have hX1 := hX0.below hb1
      have hY1 := hY0.below hb1
      have q1 := q.keep hb1
      have r1 := r.keep hb1
      clear HE0 hX0 hY0 q r hB
      have p0 := r1.cell 0 rfl
      have p1 := r1.cell 1 rfl
      go_wp2_with fail
      refine (HE1.out _ hY1).mono ?_
      rintro e u2 ⟨rfl, hb2⟩
      have hB2 := bel_then hB1 hb2
      have hX2 := hX1.below hb2
      have hY2 := hY1.below hb2
      have q2 := q1.keep hb2
      have r2 := r1.keep hb2
      clear HE1 hX1 hY1 q1 r1 hB1 p0 p1
      clear hX2 hY2 q2 r2
      go_wp2_with fail
      refine (kawake _).mono ?_
      rintro e u6 ⟨rfl, hb6⟩
      go_wp2
      go_ret
      exact ⟨rfl, bel_then hB2 hb6⟩

  · by_cases hp1 : Ex.Right m1_0 m1_1 a2
    · have HE0 : Hid (∀ w, Exp w a0_0 len0_0 cap0_0 a0_1 len0_1 cap0_1 m0_0 m0_1 → Calls _ _ _ _ _) := fun w h => kexport_no a0_0 len0_0 cap0_0 a0_1 len0_1 cap0_1 m0_0 m0_1 a2 w h HI.out HO.out hp0
      have HE1 : Hid (∀ w, Exp w a1_0 len1_0 cap1_0 a1_1 len1_1 cap1_1 m1_0 m1_1 → Calls _ _ _ _ _) := fun w h => kexport a1_0 len1_0 cap1_0 a1_1 len1_1 cap1_1 m1_0 m1_1 a2 w h hp1
      generalize (⟨(Ck.exp m1_0 m1_1 a2).toArray⟩ : ByteArray) = S2 at *
      clear hp0 hp1
      go_enter Try.func7, Try.ntmps7
      go_wp2_with fail
      refine by_says (small _ _ _ m0_0 everywhere _ hX0.i) (fun _ => ?_) (fun h => absurd HS0.out h)
      go_wp2_with fail
      refine by_says (small _ _ _ m0_1 everywhere _ hX0.o) (fun _ => ?_) (fun h => absurd HS1.out h)
      go_wp2_with fail
      refine by_says (small _ _ _ m1_0 everywhere _ hY0.i) (fun _ => ?_) (fun h => absurd HS2.out h)
      go_wp2_with fail
      refine by_says (small _ _ _ m1_1 everywhere _ hY0.o) (fun _ => ?_) (fun h => absurd HS3.out h)
      go_wp2_with fail
      refine (HE0.out _ hX0).mono ?_
      rintro e u1 ⟨rfl, hb1⟩
      have hB1 := bel_then hB hb1
      have hX1 := hX0.below hb1
      have hY1 := hY0.below hb1
      have q1 := q.keep hb1
      have r1 := r.keep hb1
      clear HE0 hX0 hY0 q r hB
      have p0 := r1.cell 0 rfl
      have p1 := r1.cell 1 rfl
      go_wp2_with fail
      refine (HE1.out _ hY1).mono ?_
      rintro e u2 ⟨rfl, hb2⟩
      have hB2 := bel_then hB1 hb2
      have hX2 := hX1.below hb2
      have hY2 := hY1.below hb2
      have q2 := q1.keep hb2
      have r2 := r1.keep hb2
      clear HE1 hX1 hY1 q1 r1 hB1 p0 p1
      clear hX2 hY2 q2 r2
      go_wp2_with fail
      refine (kawake _).mono ?_
      rintro e u6 ⟨rfl, hb6⟩
      go_wp2
      go_ret
      exact ⟨rfl, bel_then hB2 hb6⟩

    · have HE0 : Hid (∀ w, Exp w a0_0 len0_0 cap0_0 a0_1 len0_1 cap0_1 m0_0 m0_1 → Calls _ _ _ _ _) := fun w h => kexport_no a0_0 len0_0 cap0_0 a0_1 len0_1 cap0_1 m0_0 m0_1 a2 w h HI.out HO.out hp0
      have HE1 : Hid (∀ w, Exp w a1_0 len1_0 cap1_0 a1_1 len1_1 cap1_1 m1_0 m1_1 → Calls _ _ _ _ _) := fun w h => kexport_no a1_0 len1_0 cap1_0 a1_1 len1_1 cap1_1 m1_0 m1_1 a2 w h HI2.out HO2.out hp1
      clear hp0 hp1
      go_enter Try.func7, Try.ntmps7
      go_wp2_with fail
      refine by_says (small _ _ _ m0_0 everywhere _ hX0.i) (fun _ => ?_) (fun h => absurd HS0.out h)
      go_wp2_with fail
      refine by_says (small _ _ _ m0_1 everywhere _ hX0.o) (fun _ => ?_) (fun h => absurd HS1.out h)
      go_wp2_with fail
      refine by_says (small _ _ _ m1_0 everywhere _ hY0.i) (fun _ => ?_) (fun h => absurd HS2.out h)
      go_wp2_with fail
      refine by_says (small _ _ _ m1_1 everywhere _ hY0.o) (fun _ => ?_) (fun h => absurd HS3.out h)
      go_wp2_with fail
      refine (HE0.out _ hX0).mono ?_
      rintro e u1 ⟨rfl, hb1⟩
      have hB1 := bel_then hB hb1
      have hX1 := hX0.below hb1
      have hY1 := hY0.below hb1
      have q1 := q.keep hb1
      have r1 := r.keep hb1
      clear HE0 hX0 hY0 q r hB
      have p0 := r1.cell 0 rfl
      have p1 := r1.cell 1 rfl
      go_wp2_with fail
      refine (HE1.out _ hY1).mono ?_
      rintro e u2 ⟨rfl, hb2⟩
      have hB2 := bel_then hB1 hb2
      have hX2 := hX1.below hb2
      have hY2 := hY1.below hb2
      have q2 := q1.keep hb2
      have r2 := r1.keep hb2
      clear HE1 hX1 hY1 q1 r1 hB1 p0 p1
      clear hX2 hY2 q2 r2
      go_wp2_with fail
      refine (kawake _).mono ?_
      rintro e u6 ⟨rfl, hb6⟩
      go_wp2
      go_ret
      exact ⟨rfl, bel_then hB2 hb6⟩

/- From the walk to the row. -/
set_option maxRecDepth 100000 in
theorem lifted (os : Os) (started : os.Started) (H : Type) (enc : TypeId × Value → H) :
    ReturnsInHanded {} Try.checked os 7 .any (Rows.chunkSizesSpec.pre6 enc Try.prog Try.f7 Rows.chunkSizesRow.domain false) (Rows.chunkSizesSpec.post enc Try.prog Try.f7 false true false false) := by
  refine returnsInHanded_of_change (C := Try.checked) own started (by kernel_rfl) Try.func7
    (ChangeSpec.witness6 (enc := enc) (C := Try.checked) false ⟨#[], #[.agg #[.slice none 0 0, .slice none 0 0], .agg #[.slice none 0 0, .slice none 0 0], .int .i64 0], []⟩ 8 (by kernel_rfl) (by kernel_rfl) (by kernel_rfl) (by kernel_rfl)) ?_
  intro W base args ds gs before hval0 hW hcnd _
  have hval : ∀ (j : Nat) t v, Try.f7.params[j]? = some t → args[j]? = some v → Value.okWide Try.prog W .any base t v := hval0
  have hW' := hW
  obtain ⟨p, q, hA0, hV, rfl, hfz, hnd⟩ := hW
  have hA : DataW.TrodAll enc Try.prog W 0 (fun _ => true) true Try.f7.params.toList args.toList ds p := hA0
  rw [Try.params7] at hA hval
  obtain ⟨v0, vs0, d0, ds0, p0, q0, hargs, rfl, rfl, h0, r0⟩ := trodAll_cons hA
  obtain ⟨v1, vs1, d1, ds1, p1, q1, rfl, rfl, rfl, h1, r1⟩ := trodAll_cons r0
  obtain ⟨v2, vs2, d2, ds2, p2, q2, rfl, rfl, rfl, h2, r2⟩ := trodAll_cons r1
  obtain ⟨rfl, rfl, rfl⟩ := trodAll_nil r2
  obtain rfl : args = #[v0, v1, v2] := by cases args; simp_all
  obtain ⟨rfl, rfl⟩ := trodVars_none hV
  obtain ⟨cs0, rfl⟩ := okWide_agg Try.underlying24 (hval 0 24 v0 rfl rfl)
  have k0 := h0
  have lt0 : ∀ x ∈ p0, x.block < W.heap.size := by obtain ⟨m, hm⟩ := k0; exact DataW.trod_lt m _ _ _ hm
  obtain ⟨y0, hy0, hw0⟩ : ∃ y, (consS (sliceS (sliceS (intS .i64))) (consS (sliceS (sliceS (intS .i64))) noneS)).rep W everywhere cs0 y ∧ ((∀ x0 ∈ y.1, (∀ x1 ∈ x0, (Lit.int .i64 x1).wf = true)) ∧ ((∀ x0 ∈ y.2.1, (∀ x1 ∈ x0, (Lit.int .i64 x1).wf = true)) ∧ True)) := by
    obtain ⟨fuel, hf⟩ := h0
    exact (opens_struct Try.underlying24 (show Try.prog.cellsOf 24 = 2 by kernel_rfl) (opensAt_cons (A := (sliceS (sliceS (intS .i64)))) rfl (show Try.prog.cellsOf 22 = 1 by kernel_rfl) (opens_slice (A := (sliceS (intS .i64))) Try.underlying22 (show Try.prog.cellsOf 49 = 1 by kernel_rfl) (by exact Nat.succ_pos _) (opens_slice (A := (intS .i64)) Try.underlying49 (show Try.prog.cellsOf 3 = 1 by kernel_rfl) (by exact Nat.succ_pos _) (opens_int Try.underlying3))) (opensAt_cons (A := (sliceS (sliceS (intS .i64)))) rfl (show Try.prog.cellsOf 22 = 1 by kernel_rfl) (opens_slice (A := (sliceS (intS .i64))) Try.underlying22 (show Try.prog.cellsOf 49 = 1 by kernel_rfl) (by exact Nat.succ_pos _) (opens_slice (A := (intS .i64)) Try.underlying49 (show Try.prog.cellsOf 3 = 1 by kernel_rfl) (by exact Nat.succ_pos _) (opens_int Try.underlying3))) opensAt_nil (by rfl)) (by rfl))) H enc W _ _ _ fuel _ _ (by simpa [Value.cells] using hf)
  obtain ⟨m0_0, m0_1, _⟩ := y0
  obtain ⟨a0_0, len0_0, cap0_0, d0_0, rfl, w0_0, hy0_0⟩ := consS_slice hy0
  obtain ⟨a0_1, len0_1, cap0_1, d0_1, rfl, w0_1, hy0_1⟩ := consS_slice hy0_0
  obtain rfl := noneS_nil hy0_1
  obtain ⟨f0_0, f0_1, _⟩ := hw0
  obtain ⟨cs1, rfl⟩ := okWide_agg Try.underlying24 (hval 1 24 v1 rfl rfl)
  have k1 := h1
  have lt1 : ∀ x ∈ p1, x.block < W.heap.size := by obtain ⟨m, hm⟩ := k1; exact DataW.trod_lt m _ _ _ hm
  obtain ⟨y1, hy1, hw1⟩ : ∃ y, (consS (sliceS (sliceS (intS .i64))) (consS (sliceS (sliceS (intS .i64))) noneS)).rep W everywhere cs1 y ∧ ((∀ x0 ∈ y.1, (∀ x1 ∈ x0, (Lit.int .i64 x1).wf = true)) ∧ ((∀ x0 ∈ y.2.1, (∀ x1 ∈ x0, (Lit.int .i64 x1).wf = true)) ∧ True)) := by
    obtain ⟨fuel, hf⟩ := h1
    exact (opens_struct Try.underlying24 (show Try.prog.cellsOf 24 = 2 by kernel_rfl) (opensAt_cons (A := (sliceS (sliceS (intS .i64)))) rfl (show Try.prog.cellsOf 22 = 1 by kernel_rfl) (opens_slice (A := (sliceS (intS .i64))) Try.underlying22 (show Try.prog.cellsOf 49 = 1 by kernel_rfl) (by exact Nat.succ_pos _) (opens_slice (A := (intS .i64)) Try.underlying49 (show Try.prog.cellsOf 3 = 1 by kernel_rfl) (by exact Nat.succ_pos _) (opens_int Try.underlying3))) (opensAt_cons (A := (sliceS (sliceS (intS .i64)))) rfl (show Try.prog.cellsOf 22 = 1 by kernel_rfl) (opens_slice (A := (sliceS (intS .i64))) Try.underlying22 (show Try.prog.cellsOf 49 = 1 by kernel_rfl) (by exact Nat.succ_pos _) (opens_slice (A := (intS .i64)) Try.underlying49 (show Try.prog.cellsOf 3 = 1 by kernel_rfl) (by exact Nat.succ_pos _) (opens_int Try.underlying3))) opensAt_nil (by rfl)) (by rfl))) H enc W _ _ _ fuel _ _ (by simpa [Value.cells] using hf)
  obtain ⟨m1_0, m1_1, _⟩ := y1
  obtain ⟨a1_0, len1_0, cap1_0, d1_0, rfl, w1_0, hy1_0⟩ := consS_slice hy1
  obtain ⟨a1_1, len1_1, cap1_1, d1_1, rfl, w1_1, hy1_1⟩ := consS_slice hy1_0
  obtain rfl := noneS_nil hy1_1
  obtain ⟨f1_0, f1_1, _⟩ := hw1
  obtain ⟨a2, rfl, rfl, rfl, w2⟩ := open_int Try.underlying3 (hval 2 3 v2 rfl rfl) h2
  clear hA0 hval0
  refine (walk a0_0 len0_0 cap0_0 m0_0 a0_1 len0_1 cap0_1 m0_1 a1_0 len1_0 cap1_0 m1_0 a1_1 len1_1 cap1_1 m1_1 a2 W w0_0 f0_0 w0_1 f0_1 w1_0 f1_0 w1_1 f1_1 w2).mono fun e W' ⟨he, bel⟩ => ?_
  subst he
  exact ⟨_, rfl, _, _, _, [], _, [], hW', trodAll_mk1 (shut_bool Try.underlying4 _), (trodAll_cons_mk (Below.trod laidOut (by kernel_rfl) (of_decide_eq_true (by kernel_rfl)) k0 bel lt0) (trodAll_cons_mk (Below.trod laidOut (by kernel_rfl) (of_decide_eq_true (by kernel_rfl)) k1 bel lt1) (trodAll_cons_mk (shut_int Try.underlying3 w2) trodAll_mk0))), rfl, bel.frame _, fun h => by cases h⟩

theorem over : Rows.chunkSizesRow.holds Try.pinned (OpenSpec.ofChange Rows.chunkSizesSpec) :=
  OpenClaim.holds_of_wide 7 Try.f7 rfl rfl rfl rfl rfl rfl rfl ⟨rfl, rfl, rfl, rfl, rfl⟩ rfl rfl rfl rfl rfl (by kernel_rfl) Try.func7 (by kernel_rfl)
    (of_decide_eq_true (by kernel_rfl)) (by unfold Func.isWrapper; first | (rw [if_pos (by decide +kernel)]; kernel_rfl) | (rw [if_neg (by decide +kernel)]; exact ⟨rfl, rfl⟩))
    (fun os started H enc _ => lifted os started H enc)

end Go.Proofs.Ytgbcneiciefkkaa.chunkSizes

namespace Go.Proofs.Ytgbcneiciefkkaa
theorem chunkSizes_holds : Rows.ChunkSizesSaid := chunkSizes.over
end Go.Proofs.Ytgbcneiciefkkaa
