/- What the functions of package mat and the document's answers for layer 3 do when called (second part: the document's Right, and Apply of both). -/
import Derived.Test.YtgbcneiciefkkaaMatA
namespace Go.Proofs.Ytgbcneiciefkkaa
open Go.ChangeShapes Go.WideShapes Go.ChangeAt Go.RowKit

theorem rright (a : Option Addr) (n c : Nat) (m : List (List Int)) (F : Nat → Prop) (rows columns : Int) (w : World) (hm : matS.rep w F [.slice a n c] m) (hn : n ≤ 100000) (hs : ∀ l ∈ m, l.length ≤ 100000) :
    Calls Try.prog 23 #[.slice a n c, .int .i64 rows, .int .i64 columns] w fun e w' => Says e (Mx.Right m rows columns) ∧ w' = w := by
  obtain ⟨hl, hc1, hc2⟩ := sliceS_len hm
  have HL : Hid (m.length = n) := hl
  have HSZ : Hid (∀ l ∈ m, l.length ≤ 100000) := hs
  clear hl hs
  by_cases hrw : (n : Int) = rows
  case neg =>
    have e0 : ((n : Int) != rows) = true := by simp [hrw]
    have HR : Hid (¬ (n : Int) = rows) := hrw
    clear hrw
    go_enter Try.func23, Try.ntmps23
    go_wp2
    go_ret
    exact ⟨Says.no (fun h => by have := HR.out; have := h.1; have := HL.out; omega), rfl⟩
  case pos =>
  have e0 : ((n : Int) != rows) = false := by simp [hrw]
  have HR : Hid ((n : Int) = rows) := hrw
  clear hrw
  go_enter Try.func23, Try.ntmps23
  go_wp2
  go_loopw [7] (fun i wr => ∃ k : Nat, k ≤ n ∧ i = .int .i64 k ∧ wr = w ∧ Hid (∀ l ∈ m.take k, (l.length : Int) = columns ∧ Mx.In l)) (fun i _ => n - (intOf i).toNat)
  case atStart => exact ⟨0, Nat.zero_le _, rfl, rfl, Mx.all_zero⟩
  case round =>
    obtain ⟨k, hk, rfl, hww, HI⟩ := hrel
    replace hww := hww.symm
    subst hww
    by_cases hlt : k < n
    · obtain ⟨b1, o1, A, C, rfl, hb1, hcell, hr⟩ := mat_at hm hlt
      have hrow := Row.of_rep hr
      have hli : (k : Int) < (n : Int) := by omega
      have HM : Hid (m.getD k [] ∈ m) := Mx.getD_mem m k (by have := HL.out; omega)
      have HS : Hid ((((m.getD k []).length : Int) = columns ∧ Mx.In (m.getD k [])) → ∀ l ∈ m.take (k + 1), (l.length : Int) = columns ∧ Mx.In l) := fun h => Mx.all_succ (by have := HL.out; omega) HI.out h
      have hsz := HSZ.out _ HM.out
      clear hr
      generalize m.getD k [] = r at *
      by_cases hr : (r.length : Int) = columns
      · have e1 : ((r.length : Int) != columns) = false := by simp [hr]
        have HX : Hid ((r.length : Int) = columns) := hr
        clear hr
        go_wp2
        go_loopw [8] (fun i wr => ∃ j : Nat, j ≤ r.length ∧ i = .int .i64 j ∧ wr = w ∧ Hid (∀ x ∈ r.take j, Fx.hold x = x)) (fun i _ => r.length - (intOf i).toNat)
        case atStart => exact ⟨0, Nat.zero_le _, rfl, rfl, Mx.all_zero⟩
        case round =>
          obtain ⟨j, hj, rfl, hww, HJ⟩ := hrel
          replace hww := hww.symm
          subst hww
          by_cases hjt : j < r.length
          · obtain ⟨b2, o2, rfl, hb2, hc2'⟩ := hrow.at hjt
            have hji : (j : Int) < (r.length : Int) := by omega
            have HMx : Hid (r.getD j 0 ∈ r) := Mx.num_mem r j hjt
            have HSx : Hid (Fx.hold (r.getD j 0) = r.getD j 0 → ∀ x ∈ r.take (j + 1), Fx.hold x = x) := fun h => Mx.all_succ hjt HJ.out h
            generalize r.getD j 0 = x at *
            by_cases hx1 : 2147483647 < x
            · go_wp2
              go_ret
              exact ⟨Says.no (fun h => (Mx.hold_iff x).1 ((h.2 r HM.out).2 x HMx.out) (by omega)), rfl⟩
            · by_cases hx2 : x < -2147483647
              · go_wp2
                go_ret
                exact ⟨Says.no (fun h => (Mx.hold_iff x).1 ((h.2 r HM.out).2 x HMx.out) (by omega)), rfl⟩
              · go_wp2
                go_roundw
                case rel => exact ⟨j + 1, by omega, by go_num, by trivial, HSx.out ((Mx.hold_iff x).2 (by omega))⟩
                case measure => simp [intOf]; omega
          · have HB : Hid (Mx.In r) := Mx.all_full (by omega) HJ.out
            go_wp2
            go_roundw
            case rel => exact ⟨k + 1, by omega, by go_num, by trivial, HS.out ⟨HX.out, HB.out⟩⟩
            case measure => simp [intOf]; omega
      · have e1 : ((r.length : Int) != columns) = true := by simp [hr]
        have HX : Hid (¬ (r.length : Int) = columns) := hr
        clear hr
        go_wp2
        go_ret
        exact ⟨Says.no (fun h => HX.out (h.2 r HM.out).1), rfl⟩
    · go_wp2
      go_ret
      exact ⟨Says.yes ⟨by have := HL.out; have := HR.out; omega, Mx.all_full (by have := HL.out; omega) HI.out⟩, rfl⟩

end Go.Proofs.Ytgbcneiciefkkaa
