/- What bag.Twice, the document's answers for layer 8 and the fixed answer of its laws do when called. -/
import Derived.Test.YtpfhjdlmjehfnaaBagB
namespace Go.Proofs.Ytpfhjdlmjehfnaa
open Go.ChangeShapes Go.WideShapes Go.ChangeAt Go.RowKit

set_option maxRecDepth 100000 in
theorem rsame (a : Option Addr) (n c : Nat) (l : List ByteArray) (b : Option Addr) (m d : Nat) (r : List ByteArray) (w : World) (ha : bagS.rep w everywhere [.slice a n c] l) (hb : bagS.rep w everywhere [.slice b m d] r) (hn : n ≤ 50000) :
    Calls Try.prog 16 #[.slice a n c, .slice b m d] w fun e w' => Says e (l = r) ∧ Below w.heap.size w w' := by
  have HL : Hid (l.length = n) := (sliceS_len ha).1
  have HR : Hid (r.length = m) := (sliceS_len hb).1
  have hTa := Texts.of_rep ha
  have hTb := Texts.of_rep hb
  clear ha hb
  by_cases hnm : n = m
  · subst hnm
    have q : ((n : Int) != (n : Int)) = false := by simp
    go_enter Try.func16, Try.ntmps16
    go_wp2
    go_loopw [5] (fun i wr => ∃ k : Nat, k ≤ n ∧ i = .int .i64 k ∧ Below w.heap.size w wr ∧ Hid (∀ j, j < k → l.getD j noText = r.getD j noText)) (fun i _ => n - (intOf i).toNat)
    case atStart => exact ⟨0, Nat.zero_le _, rfl, Below.refl _ _, fun j h => by omega⟩
    case round =>
      obtain ⟨k, hk, rfl, hbel, HJ⟩ := hrel
      by_cases hlt : k < n
      · have hli : (k : Int) < (n : Int) := by omega
        obtain ⟨b1, o1, rfl, hb1, hc1⟩ := (hTa.keep hbel).at hlt
        obtain ⟨b2, o2, rfl, hb2, hc2⟩ := (hTb.keep hbel).at hlt
        have HS : Hid (l.getD k noText = r.getD k noText → ∀ j, j < k + 1 → l.getD j noText = r.getD j noText) := by
          intro h j hj
          rcases Nat.lt_or_ge j k with h1 | h1
          · exact HJ.out j h1
          · have e : j = k := by omega
            subst e; exact h
        have HN : Hid (l = r → l.getD k noText = r.getD k noText) := fun h => by rw [h]
        generalize l.getD k noText = x at *
        generalize r.getD k noText = y at *
        have hd1 : ∀ x : Later wr, x.u.cell? ⟨b1, o1 + k, none⟩ = _ := fun x => x.cell hc1
        have hd2 : ∀ x : Later wr, x.u.cell? ⟨b2, o2 + k, none⟩ = _ := fun x => x.cell hc2
        have hne9 : Nonempty (Later wr) := Later.there wr
        clear hc1 hc2
        by_cases hxy : x = y
        · have q2 : (x.toList == y.toList) = true := text_eq hxy
          have HXY : Hid (x = y) := hxy
          clear hxy
          go_wp2
          refine region_later (by kernel_rfl) (by kernel_rfl) ?_
          repeat (go_big_quiet_step (fail))
          refine wpQuiet_nil ?_
          intro x9
          obtain ⟨W9, hb9⟩ := x9
          have hbel9 := bel_then hbel hb9
          go_wp2
          go_roundw
          case rel => exact ⟨k + 1, by omega, by go_num, hbel9, HS.out HXY.out⟩
          case measure => simp [intOf]; omega
        · have q2 : (x.toList == y.toList) = false := text_ne hxy
          have HXY : Hid (¬ x = y) := hxy
          clear hxy
          go_wp2
          refine region_later (by kernel_rfl) (by kernel_rfl) ?_
          repeat (go_big_quiet_step (fail))
          refine wpQuiet_nil ?_
          intro x9
          obtain ⟨W9, hb9⟩ := x9
          have hbel9 := bel_then hbel hb9
          go_wp2
          go_ret
          exact ⟨Says.no fun h => HXY.out (HN.out h), hbel9⟩
      · have hkn : k = n := by omega
        subst hkn
        have hli : ¬ (k : Int) < (k : Int) := by omega
        go_wp2
        go_ret
        exact ⟨Says.yes (Bx.like (by rw [HL.out, HR.out]) (by rw [HL.out]; exact HJ.out)), hbel⟩
  · have q : ((n : Int) != (m : Int)) = true := by rw [bne_iff_ne]; omega
    go_enter Try.func16, Try.ntmps16
    go_wp2
    go_ret
    exact ⟨Says.no fun h => hnm (by rw [← HL.out, ← HR.out, h]), Below.refl _ _⟩

end Go.Proofs.Ytpfhjdlmjehfnaa
