/- The walk of WireBit. -/
import Derived.Test.YtehelcbbcneihaaWireZ
namespace Go.Proofs.Ytehelcbbcneihaa
open Go.ChangeShapes Go.WideShapes Go.ChangeAt Go.RowKit

theorem mask8 (t : Nat) (ht : t < 8) : ∃ M : UInt8, ((2 : Int) ^ t % 256) = (M.toNat : Nat) ∧ M ≠ 0 := by
  refine ⟨UInt8.ofNat (2 ^ t), ?_⟩
  match t, ht with
  | 0, _ => decide
  | 1, _ => decide
  | 2, _ => decide
  | 3, _ => decide
  | 4, _ => decide
  | 5, _ => decide
  | 6, _ => decide
  | 7, _ => decide
theorem xor_ne (b : UInt8) {M : UInt8} (hM : M ≠ 0) : b ≠ b ^^^ M := by
  intro e
  apply hM
  have := congrArg UInt8.toNat e
  rw [UInt8.toNat_xor] at this
  apply UInt8.toNat_inj.1
  exact (Cx.xor_inj_left (c := b.toNat) (show _ ^^^ 0 = _ ^^^ _ by rw [Nat.xor_zero]; exact this)).symm
theorem str_some {S : ByteArray} (h : S.size ≠ 0) : (S.toList == ([] : List UInt8)) = false := by
  have : S.toList.length ≠ 0 := by rw [ByteArray.toList_eq, Array.length_toList]; exact h
  cases hq : S.toList with
  | nil => rw [hq] at this; exact absurd rfl this
  | cons x l => rfl

theorem law_bit (x0 x1 x2 x3 x4 x5 x6 x7 x8 x9 : Int) (xa : Option Addr) (xn xc : Nat) (l : List Int) (a1 a2 : Int) (w : World) (hr : rowS.rep w everywhere [.slice xa xn xc] l) (b1 : 0 ≤ a1 ∧ a1 ≤ 65535) (b2 : 0 ≤ a2 ∧ a2 ≤ 255) :
    Calls Try.prog 5 #[.agg #[.int .i64 x0, .int .i64 x1, .int .i64 x2, .int .i64 x3, .int .i64 x4, .int .i64 x5, .int .i64 x6, .int .i64 x7, .int .i64 x8, .int .i64 x9, .slice xa xn xc], .int .u16 a1, .int .u8 a2] w fun e w' => e = .returned (.bool true) ∧ Below w.heap.size w w' := by
  have HL : Hid (l.length = xn) := (sliceS_len hr).1
  by_cases hp : Wx.right ⟨x0, x1, x2, x3, x4, x5, x6, x7, x8, x9, l⟩
  · have HP : Hid (Wx.right ⟨x0, x1, x2, x3, x4, x5, x6, x7, x8, x9, l⟩) := hp
    have hn8 : xn ≤ 8 := by have h8 : l.length ≤ 8 := hp.2.2.2.1; have := HL.out; omega
    have HPU : Hid _ := wput_yes x0 x1 x2 x3 x4 x5 x6 x7 x8 x9 xa xn xc l hp
    have hz : (⟨(Wx.put ⟨x0, x1, x2, x3, x4, x5, x6, x7, x8, x9, l⟩).toArray⟩ : ByteArray).size = 52 + 4 * xn := by rw [put_size, ← HL.out]
    have HSL : Hid ((⟨(Wx.put ⟨x0, x1, x2, x3, x4, x5, x6, x7, x8, x9, l⟩).toArray⟩ : ByteArray).data.toList = Wx.put ⟨x0, x1, x2, x3, x4, x5, x6, x7, x8, x9, l⟩) := put_list
    have HTU : Hid (∀ j v, (hj : j < (Wx.put ⟨x0, x1, x2, x3, x4, x5, x6, x7, x8, x9, l⟩).length) → (Wx.put ⟨x0, x1, x2, x3, x4, x5, x6, x7, x8, x9, l⟩)[j] ≠ v → (Wx.take ((Wx.put ⟨x0, x1, x2, x3, x4, x5, x6, x7, x8, x9, l⟩).set j v)).2 ≠ 0 ∧ (Wx.take ((Wx.put ⟨x0, x1, x2, x3, x4, x5, x6, x7, x8, x9, l⟩).set j v)).1 = Wx.zero) := fun j v hj hv => Wx.put_turned hp hj hv
    generalize (⟨(Wx.put ⟨x0, x1, x2, x3, x4, x5, x6, x7, x8, x9, l⟩).toArray⟩ : ByteArray) = S at *
    rw [← HSL.out] at HTU
    have HZ : Hid (S.size = 52 + 4 * xn) := hz
    have hz1 : 52 ≤ S.size := by omega
    have hz2 : S.size ≤ 84 := by omega
    clear hz
    have hlen : S.data.toList.length = S.size := by rw [Array.length_toList]; rfl
    obtain ⟨j, hj, ej⟩ : ∃ j : Nat, j < S.size ∧ a1.tmod (S.size : Int) = (j : Int) := by
      refine ⟨(a1.tmod (S.size : Int)).toNat, ?_, ?_⟩
      · have := Int.tmod_lt_of_pos a1 (b := (S.size : Int)) (by omega)
        omega
      · have := Int.tmod_nonneg (a := a1) (S.size : Int) (by omega)
        omega
    obtain ⟨t, htt, et⟩ : ∃ t : Nat, t < 8 ∧ a2 % 8 = (t : Int) := ⟨(a2 % 8).toNat, by omega, by omega⟩
    have hnz : ((S.size : Int) == 0) = false := by rw [beq_eq_false_iff_ne]; omega
    have hse := str_some (S := S) (by omega)
    have hji : (j : Int) < (S.size : Int) := by omega
    have hjl : j < S.data.toList.length := by rw [hlen]; exact hj
    obtain ⟨M, em, hM⟩ := mask8 t htt
    have ex := u8_laid S.data.toList[j] M
    obtain ⟨ht2, ht1⟩ := HTU.out j (S.data.toList[j] ^^^ M) hjl (xor_ne _ hM)
    obtain ⟨y0, y1, y2, y3, y4, y5, y6, y7, y8, y9, r, er, ht⟩ := take_letters (S.data.toList.set j (S.data.toList[j] ^^^ M))
    rw [ht] at ht1 ht2
    cases ht1
    have q1 : (er != 0) = true := by rw [bne_iff_ne]; exact ht2
    have HT : Hid (Wx.take (⟨(S.data.toList.set j (S.data.toList[j] ^^^ M)).toArray⟩ : ByteArray).data.toList = (⟨0, 0, 0, 0, 0, 0, 0, 0, 0, 0, []⟩, er)) := by show Wx.take ((S.data.toList.set j (S.data.toList[j] ^^^ M)).toArray.toList) = _; rw [List.toList_toArray]; exact ht
    have HTS : Hid ((⟨(S.data.toList.set j (S.data.toList[j] ^^^ M)).toArray⟩ : ByteArray).size = 52 + 4 * xn) := by show (S.data.toList.set j _).toArray.size = _; rw [List.size_toArray, List.length_set, hlen, HZ.out]
    have HMK : Hid (∀ w0 : World, ∃ cap u, (convert 9 38 (.string S)).run Try.prog w0 = .ok (.slice (some ⟨w0.heap.size, 0, none⟩) S.size cap) u ∧ Below w0.heap.size w0 u ∧ u.cell? ⟨w0.heap.size, j, none⟩ = some (.int .u8 (S.data.toList[j].toNat : Nat)) ∧ u.frozen? ⟨w0.heap.size, j, none⟩ = false ∧
        (convert 38 9 (.slice (some ⟨w0.heap.size, 0, none⟩) S.size cap)).run Try.prog (u.setCell ⟨w0.heap.size, j, none⟩ (.int .u8 ((S.data.toList[j] ^^^ M).toNat : Nat))) = .ok (.string ⟨(S.data.toList.set j (S.data.toList[j] ^^^ M)).toArray⟩) (u.setCell ⟨w0.heap.size, j, none⟩ (.int .u8 ((S.data.toList[j] ^^^ M).toNat : Nat)))) := by
      intro w0
      obtain ⟨cap, u, hconv, hb, hbytes⟩ := bytes_made w0 S
      have hback := (hbytes.store hjl (S.data.toList[j] ^^^ M)).back cap
      rw [List.length_set, hlen] at hback
      exact ⟨cap, u, hconv, hb, (hbytes j hjl).1, (hbytes j hjl).2, hback⟩
    clear ht HTU hp hlen
    generalize (⟨(S.data.toList.set j (S.data.toList[j] ^^^ M)).toArray⟩ : ByteArray) = D at *
    generalize (S.data.toList[j] ^^^ M).toNat = v at *
    generalize (S.data.toList[j]).toNat = v0 at *
    go_enter Try.func5, Try.ntmps5
    go_wp2_with fail
    refine (HPU.out _ (Row.of_rep (Shape.below hr (new_bel w _)))).mono ?_
    rintro e u1 ⟨rfl, hb1⟩
    have hB1 := bel_then (new_bel w _) hb1
    obtain ⟨cap, u, hconv, hb, hc, hf, hback⟩ := HMK.out u1
    have hB2 : Below w.heap.size w (u.setCell ⟨u1.heap.size, j, none⟩ (.int .u8 (v : Int))) := bel_put (bel_then hB1 hb) hB1.size _
    clear HMK
    go_wp2_with fail
    refine (wtake D (by rw [HTS.out]; unfold maxLen; omega) 0 0 0 0 0 0 0 0 0 0 [] er HT.out _).mono ?_
    rintro e u4 ⟨hb4, ya, yn, yc, rfl, hr4⟩
    have hyn : yn = 0 := ((sliceS_len hr4).1).symm
    subst hyn
    have hB4 := bel_then hB2 hb4
    go_wp2_with fail
    refine (wawake _).mono ?_
    rintro e u5 ⟨rfl, hb5⟩
    go_wp2
    go_ret
    exact ⟨rfl, bel_then (bel_alloc hB4 _) hb5⟩
  · have HPU : Hid _ := wput_no x0 x1 x2 x3 x4 x5 x6 x7 x8 x9 xa xn xc l hp
    go_enter Try.func5, Try.ntmps5
    go_wp2_with fail
    refine (HPU.out _ (Row.of_rep (Shape.below hr (new_bel w _)))).mono ?_
    rintro e u1 ⟨rfl, hb1⟩
    have hB1 := bel_then (new_bel w _) hb1
    go_wp2_with fail
    refine (wawake _).mono ?_
    rintro e u5 ⟨rfl, hb5⟩
    go_wp2
    go_ret
    exact ⟨rfl, bel_then hB1 hb5⟩

end Go.Proofs.Ytehelcbbcneihaa
