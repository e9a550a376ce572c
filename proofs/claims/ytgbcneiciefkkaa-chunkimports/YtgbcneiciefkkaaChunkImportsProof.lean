/- ChunkImports: any bytes are the expert that the document says, or none; and it is exported as they are. -/
import Derived.Test.YtgbcneiciefkkaaRows
import Derived.Test.YtgbcneiciefkkaaChkM
import Derived.WalkKit
import Derived.ProofKit
import Derived.OpenShut
import Derived.ShutString
import Derived.ChangeOld
import Derived.Below
namespace Go.Proofs.Ytgbcneiciefkkaa.chunkImports
open Go.ChangeShapes Go.WideShapes Go.ChangeAt Go.RowKit
open Go.ChangeMaps (open_string shut_string)
set_option linter.unusedVariables false

theorem own : ownKnob Try.prog.godebug = none := by kernel_rfl
theorem laidOut : laidOutB Try.prog = true := by kernel_rfl

theorem right_sized2 {mi mo : List (List Int)} {dim : Int} (h : Ex.Right mi mo dim) : Ex.Sized mi ∧ Ex.Sized mo :=
  ⟨⟨by have := h.2.1; omega, fun r hr => by have := Ck.right_in h r hr; have := h.1; omega⟩, ⟨by have := Ck.right_outs h; have := h.1; omega, fun r hr => by have := Ck.right_out h r hr; have := h.2.1; omega⟩⟩
/- The walk: the call returns true, and nothing that was there is written. -/
set_option maxHeartbeats 4000000 in
theorem walk (a0 : ByteArray) (w : World) (w0 : a0.size ≤ maxLen) :
    Calls Try.prog 4 #[.string a0] w fun e w' => e = .returned (.bool true) ∧ Below w.heap.size w w' := by
  by_cases hl : 600 < a0.size
  · have hi : (600 : Int) < (a0.size : Int) := by omega
    go_enter Try.func4, Try.ntmps4
    go_wp2_with (go_at_call 10; refine (kawake _).mono ?_; rintro e u6 ⟨rfl, hb6⟩)
    go_ret
    exact ⟨rfl, hb6⟩
  have hi : ¬ (600 : Int) < (a0.size : Int) := by omega
  have hs : a0.size ≤ 100000 := by omega
  by_cases ht : Ck.formed a0.data.toList ∧ Ck.summed a0.data.toList ∧ Ck.told a0.data.toList
  · obtain ⟨h1, h2, h3⟩ := ht
    have hR := h3.2
    have hexp := Ck.exp_imp h1 h2 h3
    have hm := Ck.imp_ok h1 h2 h3
    generalize Ck.ins a0.data.toList = MI at *
    generalize Ck.outs a0.data.toList = MO at *
    generalize Ck.dOf a0.data.toList = dim at *
    have HZ : Hid (Ex.Sized MI ∧ Ex.Sized MO) := right_sized2 hR
    have HP : Hid (∀ w, Calls _ _ _ _ _) := fun w => kimport a0 hs w MI MO dim 0 hm
    have HD : Hid (∀ w, Calls _ _ _ _ _) := fun w => krimport a0 hs w MI MO dim 0 hm
    have et : (⟨(Ck.exp MI MO dim).toArray⟩ : ByteArray) = a0 := by rw [hexp, text_of]
    have HE : Hid (∀ ai ni ci ao no co w, Exp w ai ni ci ao no co MI MO → Calls Try.prog 11 #[.agg #[.slice ai ni ci, .slice ao no co], .int .i64 dim] w fun e w' => e = .returned (.tuple #[.string a0, .int .i64 0]) ∧ Below w.heap.size w w') := fun ai ni ci ao no co w h => by
      have h9 := kexport ai ni ci ao no co MI MO dim w h hR
      rw [et] at h9
      exact h9
    have e5 : (a0.toList == a0.toList) = true := by simp
    have e1 : (dim != dim) = false := by simp
    clear h1 h2 h3 hm hexp et hR hl w0 hs
    go_enter Try.func4, Try.ntmps4
    go_wp2_with fail
    refine (HP.out w).mono ?_
    rintro e u1 ⟨hb1, ai, ni, ci, ao, no, co, rfl, hX1⟩
    have hnb1 := new_bel u1 (.cells #[.slice ai ni ci, .slice ao no co] 24)
    have hB1 := bel_then hb1 hnb1
    have hX2 := hX1.below hnb1
    have q1 := Box.new u1 24 #[.slice ai ni ci, .slice ao no co]
    clear hX1 hnb1 HP hb1
    go_upto_region 4 with fail
    obtain ⟨V, hV⟩ : ∃ V, u1.heap.size = V := ⟨_, rfl⟩
    generalize u1.alloc (.cells #[.slice ai ni ci, .slice ao no co] 24) = U1 at *
    rw [hV] at q1 ⊢
    clear hV
    go_wp2_with fail
    refine (HD.out U1).mono ?_
    rintro e u2 ⟨hb2, bi, mi', di, bo, mo', d_o, rfl, hY2⟩
    have hnb2 := new_bel u2 (.cells #[.slice bi mi' di, .slice bo mo' d_o] 24)
    have hB2 := bel_then (bel_then hB1 hb2) hnb2
    have hX3 := (hX2.below hb2).below hnb2
    have hY3 := hY2.below hnb2
    have q2 := (q1.keep hb2).keep hnb2
    have r2 := Box.new u2 24 #[.slice bi mi' di, .slice bo mo' d_o]
    clear hX2 hY2 q1 hB1 hb2 hnb2 HD
    go_upto_region 5 with fail
    obtain ⟨V2, hV2⟩ : ∃ V2, u2.heap.size = V2 := ⟨_, rfl⟩
    generalize u2.alloc (.cells #[.slice bi mi' di, .slice bo mo' d_o] 24) = U2 at *
    rw [hV2] at r2 ⊢
    clear hV2
    have p0 := q2.cell 0 rfl
    have p1 := q2.cell 1 rfl
    have p2 := r2.cell 0 rfl
    have p3 := r2.cell 1 rfl
    have hS : Hid (Calls _ _ _ _ _) := ksame ai ni ci ao no co MI MO bi mi' di bo mo' d_o MI MO U2 hX3 hY3 HZ.out.1 HZ.out.2 HZ.out.1 HZ.out.2 true (by simp)
    go_wp2_with fail
    refine hS.out.mono ?_
    rintro e u3 ⟨rfl, hb3⟩
    have hB3 := bel_then hB2 hb3
    have hX4 := hX3.below hb3
    have q3 := q2.keep hb3
    clear p0 p1 p2 p3 hS hX3 hY3 r2 q2 hB2
    have p0 := q3.cell 0 rfl
    have p1 := q3.cell 1 rfl
    go_wp2_with fail
    refine (HE.out ai ni ci ao no co _ hX4).mono ?_
    rintro e u4 ⟨rfl, hb4⟩
    have hB4 := bel_then hB3 hb4
    clear hX4 q3 p0 p1 HE hB3
    go_wp2_with fail
    refine (kawake _).mono ?_
    rintro e u6 ⟨rfl, hb6⟩
    go_wp2
    go_ret
    exact ⟨rfl, bel_then hB4 hb6⟩
  · obtain ⟨er, hm, her⟩ : ∃ er, Ck.imp a0.data.toList = (([], [], ()), 0, er) ∧ er ≠ 0 := by
      by_cases h1 : Ck.formed a0.data.toList
      · by_cases h2 : Ck.summed a0.data.toList
        · exact ⟨2, Ck.imp_untold h1 h2 fun h3 => ht ⟨h1, h2, h3⟩, by decide⟩
        · exact ⟨9, Ck.imp_unsummed h1 h2, by decide⟩
      · exact ⟨2, Ck.imp_unformed h1, by decide⟩
    obtain ⟨MI, hMI⟩ : ∃ MI : List (List Int), MI = [] := ⟨_, rfl⟩
    obtain ⟨MO, hMO⟩ : ∃ MO : List (List Int), MO = [] := ⟨_, rfl⟩
    have HZ : Hid (Ex.Sized MI ∧ Ex.Sized MO) := by
      rw [hMI, hMO]
      exact ⟨⟨by simp, fun l hl => by cases hl⟩, ⟨by simp, fun l hl => by cases hl⟩⟩
    have hm2 : Ck.imp a0.data.toList = ((MI, MO, ()), 0, er) := by rw [hMI, hMO]; exact hm
    have hR : ¬ Ex.Right MI MO 0 := fun h => by have := h.1; omega
    have HP : Hid (∀ w, Calls _ _ _ _ _) := fun w => kimport a0 hs w MI MO 0 er hm2
    have HD : Hid (∀ w, Calls _ _ _ _ _) := fun w => krimport a0 hs w MI MO 0 er hm2
    have HE : Hid (∀ ai ni ci ao no co w, Exp w ai ni ci ao no co MI MO → Calls Try.prog 11 #[.agg #[.slice ai ni ci, .slice ao no co], .int .i64 0] w fun e w' => e = .returned (.tuple #[.string ⟨#[]⟩, .int .i64 1]) ∧ Below w.heap.size w w') := fun ai ni ci ao no co w h => kexport_no ai ni ci ao no co MI MO 0 w h HZ.out.1 HZ.out.2 hR
    have e6 : (er != 0) = true := by rw [bne_iff_ne]; exact her
    have e2 : (er != er) = false := by simp
    clear hm hm2 her hMI hMO ht hR hl w0 hs
    go_enter Try.func4, Try.ntmps4
    go_wp2_with fail
    refine (HP.out w).mono ?_
    rintro e u1 ⟨hb1, ai, ni, ci, ao, no, co, rfl, hX1⟩
    have hnb1 := new_bel u1 (.cells #[.slice ai ni ci, .slice ao no co] 24)
    have hB1 := bel_then hb1 hnb1
    have hX2 := hX1.below hnb1
    have q1 := Box.new u1 24 #[.slice ai ni ci, .slice ao no co]
    clear hX1 hnb1 HP hb1
    go_upto_region 4 with fail
    obtain ⟨V, hV⟩ : ∃ V, u1.heap.size = V := ⟨_, rfl⟩
    generalize u1.alloc (.cells #[.slice ai ni ci, .slice ao no co] 24) = U1 at *
    rw [hV] at q1 ⊢
    clear hV
    go_wp2_with fail
    refine (HD.out U1).mono ?_
    rintro e u2 ⟨hb2, bi, mi', di, bo, mo', d_o, rfl, hY2⟩
    have hnb2 := new_bel u2 (.cells #[.slice bi mi' di, .slice bo mo' d_o] 24)
    have hB2 := bel_then (bel_then hB1 hb2) hnb2
    have hX3 := (hX2.below hb2).below hnb2
    have hY3 := hY2.below hnb2
    have q2 := (q1.keep hb2).keep hnb2
    have r2 := Box.new u2 24 #[.slice bi mi' di, .slice bo mo' d_o]
    clear hX2 hY2 q1 hB1 hb2 hnb2 HD
    go_upto_region 5 with fail
    obtain ⟨V2, hV2⟩ : ∃ V2, u2.heap.size = V2 := ⟨_, rfl⟩
    generalize u2.alloc (.cells #[.slice bi mi' di, .slice bo mo' d_o] 24) = U2 at *
    rw [hV2] at r2 ⊢
    clear hV2
    have p0 := q2.cell 0 rfl
    have p1 := q2.cell 1 rfl
    have p2 := r2.cell 0 rfl
    have p3 := r2.cell 1 rfl
    have hS : Hid (Calls _ _ _ _ _) := ksame ai ni ci ao no co MI MO bi mi' di bo mo' d_o MI MO U2 hX3 hY3 HZ.out.1 HZ.out.2 HZ.out.1 HZ.out.2 true (by simp)
    go_wp2_with fail
    refine hS.out.mono ?_
    rintro e u3 ⟨rfl, hb3⟩
    have hB3 := bel_then hB2 hb3
    have hX4 := hX3.below hb3
    have q3 := q2.keep hb3
    clear p0 p1 p2 p3 hS hX3 hY3 r2 q2 hB2
    have p0 := q3.cell 0 rfl
    have p1 := q3.cell 1 rfl
    go_wp2_with fail
    refine (HE.out ai ni ci ao no co _ hX4).mono ?_
    rintro e u4 ⟨rfl, hb4⟩
    have hB4 := bel_then hB3 hb4
    clear hX4 q3 p0 p1 HE hB3
    go_wp2_with fail
    refine (kawake _).mono ?_
    rintro e u6 ⟨rfl, hb6⟩
    go_wp2
    go_ret
    exact ⟨rfl, bel_then hB4 hb6⟩

/- From the walk to the row. -/
set_option maxRecDepth 100000 in
theorem lifted (os : Os) (started : os.Started) (H : Type) (enc : TypeId × Value → H) :
    ReturnsInHanded {} Try.checked os 4 .any (Rows.chunkImportsSpec.pre6 enc Try.prog Try.f4 Rows.chunkImportsRow.domain false) (Rows.chunkImportsSpec.post enc Try.prog Try.f4 false true false false) := by
  refine returnsInHanded_of_change (C := Try.checked) own started (by kernel_rfl) Try.func4
    (ChangeSpec.witness6 (enc := enc) (C := Try.checked) false ⟨#[], #[.string ByteArray.empty], []⟩ 8 (by kernel_rfl) (by kernel_rfl) (by kernel_rfl) (by kernel_rfl)) ?_
  intro W base args ds gs before hval0 hW hcnd _
  have hval : ∀ (j : Nat) t v, Try.f4.params[j]? = some t → args[j]? = some v → Value.okWide Try.prog W .any base t v := hval0
  have hW' := hW
  obtain ⟨p, q, hA0, hV, rfl, hfz, hnd⟩ := hW
  have hA : DataW.TrodAll enc Try.prog W 0 (fun _ => true) true Try.f4.params.toList args.toList ds p := hA0
  rw [Try.params4] at hA hval
  obtain ⟨v0, vs0, d0, ds0, p0, q0, hargs, rfl, rfl, h0, r0⟩ := trodAll_cons hA
  obtain ⟨rfl, rfl, rfl⟩ := trodAll_nil r0
  obtain rfl : args = #[v0] := by cases args; simp_all
  obtain ⟨rfl, rfl⟩ := trodVars_none hV
  obtain ⟨a0, rfl, rfl, rfl, w0⟩ := open_string Try.underlying9 (hval 0 9 v0 rfl rfl) h0
  clear hA0 hval0
  refine (walk a0 W w0).mono fun e W' ⟨he, bel⟩ => ?_
  subst he
  exact ⟨_, rfl, _, _, _, [], _, [], hW', trodAll_mk1 (shut_bool Try.underlying4 _), (trodAll_cons_mk (shut_string Try.underlying9 w0) trodAll_mk0), rfl, bel.frame _, fun h => by cases h⟩

theorem over : Rows.chunkImportsRow.holds Try.pinned (OpenSpec.ofChange Rows.chunkImportsSpec) :=
  OpenClaim.holds_of_wide 4 Try.f4 rfl rfl rfl rfl rfl rfl rfl ⟨rfl, rfl, rfl, rfl, rfl⟩ rfl rfl rfl rfl rfl (by kernel_rfl) Try.func4 (by kernel_rfl)
    (of_decide_eq_true (by kernel_rfl)) (by unfold Func.isWrapper; first | (rw [if_pos (by decide +kernel)]; kernel_rfl) | (rw [if_neg (by decide +kernel)]; exact ⟨rfl, rfl⟩))
    (fun os started H enc _ => lifted os started H enc)

end Go.Proofs.Ytgbcneiciefkkaa.chunkImports

namespace Go.Proofs.Ytgbcneiciefkkaa
theorem chunkImports_holds : Rows.ChunkImportsSaid := chunkImports.over
end Go.Proofs.Ytgbcneiciefkkaa
