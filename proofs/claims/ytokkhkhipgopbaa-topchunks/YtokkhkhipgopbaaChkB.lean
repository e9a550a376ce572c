/- What Export of package chunk does when called: an expert's bytes. -/
import Derived.Test.YtokkhkhipgopbaaChkA
namespace Go.Proofs.Ytokkhkhipgopbaa
open Go.ChangeShapes Go.WideShapes Go.ChangeAt Go.RowKit

theorem body_is (mi mo : List (List Int)) (dim : Int) : Ck.body mi mo dim = Wx.four (Wx.un (mi.length : Int)) ++ Wx.four (Wx.un dim) ++ Wx.F (mi.flatten.map Wx.un) ++ Wx.F (mo.flatten.map Wx.un) := by
  unfold Ck.body Ck.wds
  rw [Wx.F_cons, Wx.F_cons, List.map_append, Wx.F_append]
  simp only [List.append_assoc]
theorem exp_is (mi mo : List (List Int)) (dim : Int) : Ck.exp mi mo dim = Ck.body mi mo dim ++ Wx.four (Wx.un (Cx.sum (Ck.body mi mo dim) : Nat)) := by rw [Wx.un_nat (Cx.sum_lt _)]; rfl

section
variable (ai : Option Addr) (ni ci : Nat) (ao : Option Addr) (no co : Nat) (mi mo : List (List Int)) (dim : Int) (w : World)
set_option maxRecDepth 100000 in
theorem kexport_no (h : Exp w ai ni ci ao no co mi mo) (hi : Ex.Sized mi) (ho : Ex.Sized mo) (hp : ¬ Ex.Right mi mo dim) :
    Calls Try.prog 8 #[.agg #[.slice ai ni ci, .slice ao no co], .int .i64 dim] w fun e w' => e = .returned (.tuple #[.string ⟨#[]⟩, .int .i64 1]) ∧ Below w.heap.size w w' := by
  have hB := new_bel w (.cells #[.slice ai ni ci, .slice ao no co] 33)
  have HC : Hid (Calls _ _ _ _ _) := xright_tell ai ni ci ao no co mi mo dim _ (h.below hB) hi ho false (tell_no hp)
  clear h hi ho hp
  go_enter Try.func8, Try.ntmps8
  go_wp2_with fail
  refine HC.out.mono ?_
  rintro e u ⟨rfl, hb⟩
  have hend := hB.trans (hb.mono hB.size)
  go_wp2
  go_ret2
  exact ⟨rfl, hend⟩

set_option maxRecDepth 100000 in
theorem kexport (h : Exp w ai ni ci ao no co mi mo) (hp : Ex.Right mi mo dim) :
    Calls Try.prog 8 #[.agg #[.slice ai ni ci, .slice ao no co], .int .i64 dim] w fun e w' => e = .returned (.tuple #[.string ⟨(Ck.exp mi mo dim).toArray⟩, .int .i64 0]) ∧ Below w.heap.size w w' := by
  have hli := (sliceS_len h.i).1
  have hlo := (sliceS_len h.o).1
  have hB := new_bel w (.cells #[.slice ai ni ci, .slice ao no co] 33)
  obtain ⟨B, eB⟩ : ∃ B, B = (w.alloc (.cells #[.slice ai ni ci, .slice ao no co] 33)).heap.size := ⟨_, rfl⟩
  have HB : Hid (B = (w.alloc (.cells #[.slice ai ni ci, .slice ao no co] 33)).heap.size) := eB
  have HBW : Hid (w.heap.size ≤ B) := by show _ ≤ _; rw [eB]; simp
  have r8 : ∀ r ∈ mi, r.length ≤ 8 := fun r hr => by have := Ck.right_in hp r hr; have := hp.1; omega
  have s8 : ∀ r ∈ mo, r.length ≤ 8 := fun r hr => by have := Ck.right_out hp r hr; have := hp.2.1; omega
  have hni : ni ≤ 8 := by have := hp.2.1; omega
  have hno : no ≤ 8 := by have := hp.1; have := Ck.right_outs hp; omega
  have HC : Hid (Calls _ _ _ _ _) := xright_tell ai ni ci ao no co mi mo dim _ (h.below hB) ⟨by omega, fun r hr => by have := r8 r hr; omega⟩ ⟨by omega, fun r hr => by have := s8 r hr; omega⟩ true (tell_yes hp)
  have HI : Hid (matS.rep (w.alloc (.cells #[.slice ai ni ci, .slice ao no co] 33)) (· < B) [.slice ai ni ci] mi) := by rw [eB]; exact Shape.low (h.below hB).i
  have HO : Hid (matS.rep (w.alloc (.cells #[.slice ai ni ci, .slice ao no co] 33)) (· < B) [.slice ao no co] mo) := by rw [eB]; exact Shape.low (h.below hB).o
  have HF1 : Hid ((Wx.F (mi.flatten.map Wx.un)).length ≤ 256) := by show _ ≤ _; rw [Wx.F_len, List.length_map]; have := flat_le r8; omega
  have HF2 : Hid ((Wx.F (mo.flatten.map Wx.un)).length ≤ 256) := by show _ ≤ _; rw [Wx.F_len, List.length_map]; have := flat_le s8; omega
  have HR1 : Hid (∀ r ∈ mi, r.length ≤ 8) := r8
  have HR2 : Hid (∀ r ∈ mo, r.length ≤ 8) := s8
  have HBody : Hid _ := body_is mi mo dim
  have HExp : Hid _ := exp_is mi mo dim
  rw [hli] at HBody
  clear h hp r8 s8 eB hli hlo
  go_enter Try.func8, Try.ntmps8
  go_wp2_with fail
  refine HC.out.mono ?_
  rintro e u ⟨rfl, hb⟩
  have hc0 := box_cell hb 0 (v := .slice ai ni ci) rfl
  rw [← HB.out] at hb
  have HU : Hid (B ≤ u.heap.size) := by show _ ≤ _; rw [HB.out, ← HB.out]; exact Nat.le_trans (Nat.le_of_eq HB.out) hb.size
  go_wp2_with fail
  refine (kaddNumber _ _ [] B _ (OwnB.nil _ _) HU.out (by simp)).mono ?_
  rintro e u2 ⟨v2, rfl, ho2, hb2⟩
  have hB2 := hb.trans hb2
  have HU2 : Hid (B ≤ u2.heap.size) := Nat.le_trans HU.out hb2.size
  clear hc0
  go_wp2_with fail
  refine (kaddNumber _ _ _ B _ ho2 HU2.out (by simp [Wx.four_len])).mono ?_
  rintro e u3 ⟨v3, rfl, ho3, hb3⟩
  have hB3 := hB2.trans hb3
  have HU3 : Hid (B ≤ u3.heap.size) := Nat.le_trans HU2.out hb3.size
  have hc0 := box_cell (HB.out ▸ hB3) 0 (v := .slice ai ni ci) rfl
  rw [List.nil_append] at ho3
  clear ho2 hb2 hb3
  go_wp2_with fail
  refine (kaddRows _ _ B ai ni ci mi _ ho3 HU3.out (rep_base HI.out hB3) hni HR1.out (by rw [List.length_append, Wx.four_len, Wx.four_len]; omega)).mono ?_
  rintro e u4 ⟨v4, rfl, ho4, hb4⟩
  have hB4 := hB3.trans hb4
  have HU4 : Hid (B ≤ u4.heap.size) := Nat.le_trans HU3.out hb4.size
  have hc1 := box_cell (HB.out ▸ hB4) 1 (v := .slice ao no co) rfl
  clear ho3 hb4 hc0
  go_wp2_with fail
  refine (kaddRows _ _ B ao no co mo _ ho4 HU4.out (rep_base HO.out hB4) hno HR2.out (by have := HF1.out; rw [List.length_append, List.length_append, Wx.four_len, Wx.four_len]; omega)).mono ?_
  rintro e u5 ⟨v5, rfl, ho5, hb5⟩
  have hB5 := hB4.trans hb5
  have HU5 : Hid (B ≤ u5.heap.size) := Nat.le_trans HU4.out hb5.size
  have HN5 : Hid ((Ck.body mi mo dim).length ≤ 600 ∧ 0 < (Ck.body mi mo dim).length) := by
    have h1 := HF1.out
    have h2 := HF2.out
    show _ ∧ _
    rw [HBody.out, List.length_append, List.length_append, List.length_append, Wx.four_len, Wx.four_len]
    omega
  rw [← HBody.out] at ho5
  clear ho4 hb5 hc1 HBody HF1 HF2
  have HX : Hid (crc ⟨(Ck.body mi mo dim).toArray⟩ = Cx.sum (Ck.body mi mo dim)) := rfl
  generalize Ck.body mi mo dim = S at *
  have hback := ho5.back HN5.out.2
  have hz : (⟨S.toArray⟩ : ByteArray).size ≤ 600 := by show S.toArray.size ≤ _; rw [List.size_toArray]; exact HN5.out.1
  have hcs := csum ⟨S.toArray⟩ (by unfold maxLen; omega)
  generalize (⟨S.toArray⟩ : ByteArray) = D at *
  go_wp2_with fail
  refine by_same (hcs _) ?_
  go_wp2_with fail
  refine (kaddNumber _ _ _ B _ ho5 HU5.out (by have := HN5.out.1; omega)).mono ?_
  rintro e u6 ⟨v6, rfl, ho6, hb6⟩
  rw [HX.out, ← HExp.out] at ho6
  have hback6 := ho6.back (by rw [HExp.out, List.length_append, Wx.four_len]; omega)
  have hend := hB.trans ((hB5.trans hb6).mono HBW.out)
  clear hback
  go_wp2
  go_ret2
  exact ⟨rfl, hend⟩
end

end Go.Proofs.Ytokkhkhipgopbaa
