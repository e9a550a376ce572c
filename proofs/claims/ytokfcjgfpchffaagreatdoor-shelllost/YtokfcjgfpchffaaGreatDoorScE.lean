/- What a line tells, as the statements of layer 20 have it. -/
import Derived.Test.YtokfcjgfpchffaaGreatDoorScD
import Derived.Test.YtokfcjgfpchffaaGreatDoorKx
namespace Go.Proofs.YtokfcjgfpchffaaGreatDoor
open Go.ChangeShapes Go.WideShapes Go.ChangeAt Go.RowKit


theorem Sh.dig_few {n : Nat} (h : n ≤ 1000) : (Sh.dig n).length ≤ 1001 := Nat.le_trans (Sh.dig_len n) (by omega)
set_option maxRecDepth 100000 in
set_option maxHeartbeats 2000000 in
theorem stold (e : Nat) (he : e ≤ 100) (w : World) : Calls Tryz.prog 19 #[.int .i64 (e : Int)] w fun r w' => r = .returned (.string ⟨(Sc.told (e : Int)).toArray⟩) ∧ Below w.heap.size w w' := by
  by_cases h0 : e = 0
  · subst h0
    go_enter Tryz.func19, Tryz.ntmps19
    go_wp2
    go_ret
    exact ⟨rfl, Below.refl _ _⟩
  · have e0 : ((e : Int) == 0) = false := by rw [beq_eq_false_iff_ne]; omega
    have HD : Hid (Calls _ _ _ _ _) := rdigits e (by omega) w
    have HT : Hid (Sc.told (e : Int) = Sc.errW ++ Sh.dig e) := by
      show _ = _
      unfold Sc.told
      rw [if_neg (by omega)]
      rfl
    have hmax : max (e : Int) 0 = (e : Int) := by omega
    have hmax2 : ¬ (e : Int) < 0 := by omega
    have HL : Hid ((Sh.dig e).length ≤ 1001) := Sh.dig_few (by omega)
    obtain ⟨D, hD⟩ : ∃ D : ByteArray, (⟨(Sh.dig e).toArray⟩ : ByteArray) = D := ⟨_, rfl⟩
    obtain ⟨E, hE⟩ : ∃ E : ByteArray, (⟨Sc.errW.toArray⟩ : ByteArray) = E := ⟨_, rfl⟩
    obtain ⟨R, hR⟩ : ∃ R : ByteArray, (⟨#[101, 114, 114, 111, 114, 32]⟩ : ByteArray) ++ D = R := ⟨_, rfl⟩
    have HR : Hid (R = ⟨(Sc.told (e : Int)).toArray⟩) := by
      show _ = _
      rw [HT.out, ← hR, ← hD]
      exact bcat Sc.errW (Sh.dig e)
    have hsz : ¬ (9223372036854775807 < 6 + D.size) := by
      have h2 : D.size = (Sh.dig e).length := by rw [← hD]; exact (list_size _).symm.trans (by simp)
      have := HL.out
      omega
    rw [hD] at HD
    clear hD hE HT HL
    go_enter Tryz.func19, Tryz.ntmps19
    go_wp2_with fail
    refine HD.out.mono ?_
    rintro r u1 ⟨rfl, hb1⟩
    go_wp2
    go_ret
    exact ⟨by rw [← HR.out]; rfl, hb1⟩

end Go.Proofs.YtokfcjgfpchffaaGreatDoor
