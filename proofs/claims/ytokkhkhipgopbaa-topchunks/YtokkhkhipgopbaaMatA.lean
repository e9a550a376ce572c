/- What the functions of package mat and the document's answers for layer 3 do when called (first part: those that only read). -/
import Derived.Test.YtokkhkhipgopbaaVecF
import Derived.Test.YtokkhkhipgopbaaJb
import Derived.Test.YtokkhkhipgopbaaSm
namespace Go.Proofs.Ytokkhkhipgopbaa
open Go.ChangeShapes Go.WideShapes Go.ChangeAt Go.RowKit


set_option maxRecDepth 100000 in
theorem within (a : Option Addr) (n ca : Nat) (l : List Int) (w : World) (ha : Row .i64 w a n l) (hn : n ≤ 100000) :
    Calls Try.prog 44 #[.slice a n ca] w fun e w' => Says e (Mx.In l) ∧ w' = w := by
  have HL : Hid (l.length = n) := ha.len
  go_enter Try.func44, Try.ntmps44
  go_wp2
  go_loopw [7] (fun i wr => ∃ k : Nat, k ≤ n ∧ i = .int .i64 k ∧ wr = w ∧ Hid (∀ x ∈ l.take k, Fx.hold x = x)) (fun i _ => n - (intOf i).toNat)
  case atStart => exact ⟨0, Nat.zero_le _, rfl, rfl, Mx.all_zero⟩
  case round =>
    obtain ⟨k, hk, rfl, rfl, HI⟩ := hrel
    by_cases hlt : k < n
    · obtain ⟨b1, o1, rfl, hb1, hc1⟩ := ha.at hlt
      have hli : (k : Int) < (n : Int) := by omega
      have HM : Hid (l.getD k 0 ∈ l) := Mx.num_mem l k (by have := HL.out; omega)
      have HS : Hid (Fx.hold (l.getD k 0) = l.getD k 0 → ∀ x ∈ l.take (k + 1), Fx.hold x = x) := fun h => Mx.all_succ (by have := HL.out; omega) HI.out h
      generalize l.getD k 0 = x at *
      by_cases hx : Fx.hold x = x
      · have hne : (Fx.hold x != x) = false := by simp [hx]
        have HX : Hid (Fx.hold x = x) := hx
        clear hx
        go_wp2_with (go_at_call 57; refine by_same (hold _ _) ?_)
        go_roundw
        case rel => exact ⟨k + 1, by omega, by go_num, by trivial, HS.out HX.out⟩
        case measure => simp [intOf]; omega
      · have hne : (Fx.hold x != x) = true := by simp [hx]
        have HX : Hid (¬ Fx.hold x = x) := hx
        clear hx
        go_wp2_with (go_at_call 57; refine by_same (hold _ _) ?_)
        go_ret
        exact ⟨Says.no (fun h => HX.out (h x HM.out)), rfl⟩
    · go_wp2
      go_ret
      exact ⟨Says.yes (Mx.all_full (by have := HL.out; omega) HI.out), rfl⟩

set_option maxRecDepth 100000 in
theorem right (a : Option Addr) (n c : Nat) (m : List (List Int)) (F : Nat → Prop) (rows columns : Int) (w : World) (hm : matS.rep w F [.slice a n c] m) (hn : n ≤ 100000) (hs : ∀ l ∈ m, l.length ≤ 100000) :
    Calls Try.prog 30 #[.slice a n c, .int .i64 rows, .int .i64 columns] w fun e w' => Says e (Mx.Right m rows columns) ∧ w' = w := by
  obtain ⟨hl, hc1, hc2⟩ := sliceS_len hm
  have HL : Hid (m.length = n) := hl
  have HSZ : Hid (∀ l ∈ m, l.length ≤ 100000) := hs
  clear hl hs
  by_cases hrw : (n : Int) = rows
  case neg =>
    have e0 : ((n : Int) != rows) = true := by simp [hrw]
    have HR : Hid (¬ (n : Int) = rows) := hrw
    clear hrw
    go_enter Try.func30, Try.ntmps30
    go_wp2
    go_ret
    exact ⟨Says.no (fun h => by have := HR.out; have := h.1; have := HL.out; omega), rfl⟩
  case pos =>
  have e0 : ((n : Int) != rows) = false := by simp [hrw]
  have HR : Hid ((n : Int) = rows) := hrw
  clear hrw
  go_enter Try.func30, Try.ntmps30
  go_wp2
  go_loopw [15] (fun i wr => ∃ k : Nat, k ≤ n ∧ i = .int .i64 k ∧ wr = w ∧ Hid (∀ l ∈ m.take k, (l.length : Int) = columns ∧ Mx.In l)) (fun i _ => n - (intOf i).toNat)
  case atStart => exact ⟨0, Nat.zero_le _, rfl, rfl, Mx.all_zero⟩
  case round =>
    obtain ⟨k, hk, rfl, rfl, HI⟩ := hrel
    by_cases hlt : k < n
    · obtain ⟨b1, o1, A, C, rfl, hb1, hcell, hr⟩ := mat_at hm hlt
      have hrow := Row.of_rep hr
      have hli : (k : Int) < (n : Int) := by omega
      have HM : Hid (m.getD k [] ∈ m) := Mx.getD_mem m k (by have := HL.out; omega)
      have HS : Hid ((((m.getD k []).length : Int) = columns ∧ Mx.In (m.getD k [])) → ∀ l ∈ m.take (k + 1), (l.length : Int) = columns ∧ Mx.In l) := fun h => Mx.all_succ (by have := HL.out; omega) HI.out h
      have hsz := HSZ.out _ HM.out
      clear hr
      generalize m.getD k [] = r at *
      by_cases hr : (r.length : Int) = columns
      · have e1 : ((r.length : Int) != columns) = false := by simp [hr]
        have HX : Hid ((r.length : Int) = columns) := hr
        clear hr
        go_wp2_with fail
        refine (within A r.length C r _ hrow hsz).mono ?_
        rintro e w' ⟨⟨b, rfl, hb⟩, rfl⟩
        cases b with
        | true =>
          have HB : Hid (Mx.In r) := hb.1 rfl
          clear hb
          go_wp2
          go_roundw
          case rel => exact ⟨k + 1, by omega, by go_num, by trivial, HS.out ⟨HX.out, HB.out⟩⟩
          case measure => simp [intOf]; omega
        | false =>
          have HB : Hid (¬ Mx.In r) := fun h => by have := hb.2 h; cases this
          clear hb
          go_wp2
          go_ret
          exact ⟨Says.no (fun h => HB.out (h.2 r HM.out).2), rfl⟩
      · have e1 : ((r.length : Int) != columns) = true := by simp [hr]
        have HX : Hid (¬ (r.length : Int) = columns) := hr
        clear hr
        go_wp2
        go_ret
        exact ⟨Says.no (fun h => HX.out (h.2 r HM.out).1), rfl⟩
    · go_wp2
      go_ret
      exact ⟨Says.yes (⟨by have := HL.out; have := HR.out; omega, Mx.all_full (by have := HL.out; omega) HI.out⟩), rfl⟩

end Go.Proofs.Ytokkhkhipgopbaa
