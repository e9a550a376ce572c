/- 'Same' of rows and of rows of rows, told both ways. -/
import Derived.Test.YtpldfalnoaamkaaBase
import Derived.Test.YtpldfalnoaamkaaEx
namespace Go.Proofs.Ytpldfalnoaamkaa
open Go.ChangeShapes Go.WideShapes Go.ChangeAt Go.RowKit
theorem getD_ext {l k : List Int} (hn : l.length = k.length) (h : ∀ i, i < l.length → l.getD i 0 = k.getD i 0) : l = k := by
  apply List.ext_getElem hn
  intro i h1 h2
  have := h i h1
  rwa [List.getD_eq_getElem?_getD, List.getD_eq_getElem?_getD, List.getElem?_eq_getElem h1, List.getElem?_eq_getElem h2] at this
set_option maxRecDepth 100000 in
theorem vsays (a b : Option Addr) (n m ca cb : Nat) (l k : List Int) (w : World) (ha : Row .i64 w a n l) (hb : Row .i64 w b m k) (hn : n ≤ 100000) (hm : m ≤ 100000) :
    Calls Try.prog 14 #[.slice a n ca, .slice b m cb] w fun e w' => Says e (l = k) ∧ Below w.heap.size w w' := by
  have HL : Hid (l.length = n) := ha.len
  have HK : Hid (k.length = m) := hb.len
  by_cases h0 : n = m
  · subst h0
    have e0 : ((n : Int) != (n : Int)) = false := by simp
    go_enter Try.func14, Try.ntmps14
    go_wp2
    go_loopw [5] (fun i wr => ∃ j : Nat, j ≤ n ∧ i = .int .i64 j ∧ Hid (∀ q, q < j → l.getD q 0 = k.getD q 0) ∧ Below w.heap.size w wr) (fun i _ => n - (intOf i).toNat)
    case atStart => exact ⟨0, Nat.zero_le _, rfl, fun q hq => absurd hq (Nat.not_lt_zero _), Below.refl _ _⟩
    case round =>
      obtain ⟨j, hj, rfl, HQ, hbel⟩ := hrel
      by_cases hlt : j < n
      · obtain ⟨b1, o1, rfl, hb1, hc1⟩ := ha.at hlt
        obtain ⟨b2, o2, rfl, hb2, hc2⟩ := hb.at hlt
        have hd1 : wr.cell? ⟨b1, o1 + j, none⟩ = some (.int .i64 (l.getD j 0)) := (hbel.cell (by exact hb1)).trans hc1
        have hd2 : wr.cell? ⟨b2, o2 + j, none⟩ = some (.int .i64 (k.getD j 0)) := (hbel.cell (by exact hb2)).trans hc2
        have hli : (j : Int) < (n : Int) := by omega
        have HN : Hid (l.getD j 0 = k.getD j 0 → ∀ q, q < j + 1 → l.getD q 0 = k.getD q 0) := fun h q hq => by
          rcases Nat.lt_succ_iff_lt_or_eq.1 hq with h1 | rfl
          · exact HQ.out q h1
          · exact h
        have HD : Hid (l.getD j 0 ≠ k.getD j 0 → l ≠ k) := fun h e => h (by rw [e])
        clear hc1 hc2
        generalize l.getD j 0 = x at *
        generalize k.getD j 0 = y at *
        by_cases hxy : x = y
        · have hne : (x != y) = false := by simp [hxy]
          have HXY : Hid (x = y) := hxy
          clear hxy
          go_wp2
          go_quiet (fail)
          go_wp2
          go_roundw
          case rel => exact ⟨j + 1, by omega, by go_num, HN.out HXY.out, bel_drewN hbel _⟩
          case measure => simp [intOf]; omega
        · have hne : (x != y) = true := by simp [hxy]
          have HXY : Hid (x ≠ y) := hxy
          clear hxy
          go_wp2
          go_quiet (fail)
          go_wp2
          go_ret
          exact ⟨Says.no (HD.out HXY.out), bel_drewN hbel _⟩
      · have hli : ¬ (j : Int) < (n : Int) := by omega
        go_wp2
        go_ret
        exact ⟨Says.yes (getD_ext (by rw [HL.out, HK.out]) fun i hi => HQ.out i (by have := HL.out; omega)), hbel⟩
  · have e0 : ((n : Int) != (m : Int)) = true := by simp; omega
    go_enter Try.func14, Try.ntmps14
    go_wp2
    go_ret
    exact ⟨Says.no fun h => h0 (by rw [← HL.out, ← HK.out, h]), Below.refl _ _⟩
theorem rows_ext {l k : List (List Int)} (hn : l.length = k.length) (h : ∀ i, i < l.length → l.getD i [] = k.getD i []) : l = k := by
  apply List.ext_getElem hn
  intro i h1 h2
  have := h i h1
  rwa [List.getD_eq_getElem?_getD, List.getD_eq_getElem?_getD, List.getElem?_eq_getElem h1, List.getElem?_eq_getElem h2] at this
end Go.Proofs.Ytpldfalnoaamkaa
