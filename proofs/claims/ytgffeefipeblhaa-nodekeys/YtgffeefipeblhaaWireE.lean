/- What the document's Right and Put of layer 7 do when called. -/
import Derived.Test.YtgffeefipeblhaaWireD
import Derived.Test.YtgffeefipeblhaaTk
namespace Go.Proofs.Ytgffeefipeblhaa
open Go.ChangeShapes Go.WideShapes Go.ChangeAt Go.RowKit

/-- The first k numbers of a list are as they may be in a message. -/
def RG (l : List Int) (k : Nat) : Prop := ∀ j, j < k → l.getD j 0 ≤ 2147483647 ∧ -2147483648 ≤ l.getD j 0 ∧ (j < 11 → 0 ≤ l.getD j 0)
theorem RG.zero (l : List Int) : RG l 0 := fun j h => by omega
theorem RG.succ {l : List Int} {k : Nat} (h : RG l k) (hk : l.getD k 0 ≤ 2147483647 ∧ -2147483648 ≤ l.getD k 0 ∧ (k < 11 → 0 ≤ l.getD k 0)) : RG l (k + 1) := by
  intro j hj
  rcases Nat.lt_or_ge j k with h1 | h1
  · exact h j h1
  · have e : j = k := by omega
    subst e; exact hk
theorem list_ten (m : Wx.Msg) {j : Nat} (h : j < 10) : (Wx.listOf m).getD j 0 = (Wx.ten m).getD j 0 := by
  unfold Wx.listOf
  rw [List.getD_eq_getElem?_getD, List.getD_eq_getElem?_getD, List.getElem?_append_left (by exact h)]
theorem list_len (m : Wx.Msg) : (Wx.listOf m).getD 10 0 = (m.vec.length : Int) := rfl
theorem list_vec (m : Wx.Msg) (j : Nat) : (Wx.listOf m).getD (11 + j) 0 = m.vec.getD j 0 := by
  unfold Wx.listOf
  rw [List.getD_eq_getElem?_getD, List.getD_eq_getElem?_getD, List.getElem?_append_right (by show 10 ≤ 11 + j; omega)]
  show (List.cons (m.vec.length : Int) m.vec)[11 + j - 10]?.getD 0 = _
  rw [show 11 + j - 10 = j + 1 by omega, List.getElem?_cons_succ]
theorem mem_get {l : List Int} {x : Int} (h : x ∈ l) : ∃ j, j < l.length ∧ l.getD j 0 = x := by
  obtain ⟨j, hj, rfl⟩ := List.getElem_of_mem h
  exact ⟨j, hj, by rw [List.getD_eq_getElem?_getD, List.getElem?_eq_getElem hj]; rfl⟩
theorem listOf_len (m : Wx.Msg) : (Wx.listOf m).length = 11 + m.vec.length := by unfold Wx.listOf; rw [List.length_append]; show 10 + (m.vec.length + 1) = _; omega
theorem right_list (m : Wx.Msg) : Wx.right m ↔ RG (Wx.listOf m) (11 + m.vec.length) ∧ 1 ≤ m.kind ∧ m.kind ≤ 4 ∧ m.vec.length ≤ 8 := by
  constructor
  · rintro ⟨h1, h2, h3, h4, h5⟩
    refine ⟨fun j hj => ?_, h1, h2, h4⟩
    rcases Nat.lt_or_ge j 10 with hlt | hge
    · rw [list_ten m hlt]
      have := h3 _ (num_mem (Wx.ten m) j hlt)
      exact ⟨this.2, by omega, fun _ => this.1⟩
    · rcases Nat.eq_or_lt_of_le hge with rfl | hgt
      · rw [list_len]; exact ⟨by omega, by omega, fun _ => by omega⟩
      · obtain ⟨i, rfl⟩ : ∃ i, j = 11 + i := ⟨j - 11, by omega⟩
        rw [list_vec]
        have := h5 _ (num_mem m.vec i (by omega))
        exact ⟨this.2, this.1, fun h => by omega⟩
  · rintro ⟨h1, h2, h3, h4⟩
    refine ⟨h2, h3, fun x hx => ?_, h4, fun x hx => ?_⟩
    · obtain ⟨j, hj, rfl⟩ := mem_get hx
      have hj10 : j < 10 := hj
      have := h1 j (by omega)
      rw [list_ten m hj10] at this
      exact ⟨this.2.2 (by omega), this.1⟩
    · obtain ⟨j, hj, rfl⟩ := mem_get hx
      have := h1 (11 + j) (by omega)
      rw [list_vec] at this
      exact ⟨this.2.1, this.1⟩

set_option maxRecDepth 100000 in
theorem rwiright (x0 x1 x2 x3 x4 x5 x6 x7 x8 x9 : Int) (xa : Option Addr) (xn xc : Nat) (l : List Int) (w : World) (hr : rowS.rep w everywhere [.slice xa xn xc] l) (hn : xn ≤ 50000) :
    Calls Try.prog 25 #[.agg #[.int .i64 x0, .int .i64 x1, .int .i64 x2, .int .i64 x3, .int .i64 x4, .int .i64 x5, .int .i64 x6, .int .i64 x7, .int .i64 x8, .int .i64 x9, .slice xa xn xc]] w fun e w' => Says e (Wx.right ⟨x0, x1, x2, x3, x4, x5, x6, x7, x8, x9, l⟩) ∧ Below w.heap.size w w' := by
  have HL : Hid (l.length = xn) := (sliceS_len hr).1
  go_enter Try.func25, Try.ntmps25
  go_wp2_with fail
  refine (rlist x0 x1 x2 x3 x4 x5 x6 x7 x8 x9 xa xn xc l _ (Shape.below hr (new_bel w _)) hn).mono ?_
  rintro e u ⟨hb, a, c, rfl, hrep⟩
  have hc0 := box_cell hb 0 (v := .int .i64 x0) rfl
  have hc10 := box_cell hb 10 (v := .slice xa xn xc) rfl
  have hB := bel_then (new_bel w _) hb
  have hR := Row.of_rep hrep
  have HRT : Hid (Wx.right ⟨x0, x1, x2, x3, x4, x5, x6, x7, x8, x9, l⟩ ↔ RG (Wx.listOf ⟨x0, x1, x2, x3, x4, x5, x6, x7, x8, x9, l⟩) (11 + xn) ∧ 1 ≤ x0 ∧ x0 ≤ 4 ∧ xn ≤ 8) := by
    show _ ↔ _
    rw [right_list, ← HL.out]
  clear hb hr hrep
  generalize Wx.listOf ⟨x0, x1, x2, x3, x4, x5, x6, x7, x8, x9, l⟩ = t at *
  generalize hL : 11 + xn = L at *
  have hL2 : L ≤ 60000 := by omega
  go_wp2
  go_loopw [4] (fun i wr => ∃ k : Nat, k ≤ L ∧ i = .int .i64 k ∧ wr = u ∧ Hid (RG t k)) (fun i _ => L - (intOf i).toNat)
  case atStart => exact ⟨0, Nat.zero_le _, rfl, rfl, RG.zero t⟩
  case round =>
    obtain ⟨k, hk, rfl, hww, HJ⟩ := hrel
    replace hww := hww.symm
    subst hww
    by_cases hlt : k < L
    · have hli : (k : Int) < (L : Int) := by omega
      obtain ⟨b1, o1, rfl, hb1, hc1⟩ := hR.at hlt
      have HK : Hid (t.getD k 0 ≤ 2147483647 ∧ -2147483648 ≤ t.getD k 0 ∧ (k < 11 → 0 ≤ t.getD k 0) → RG t (k + 1)) := fun h => RG.succ HJ.out h
      have HN : Hid (RG t L → t.getD k 0 ≤ 2147483647 ∧ -2147483648 ≤ t.getD k 0 ∧ (k < 11 → 0 ≤ t.getD k 0)) := fun h => h k hlt
      generalize t.getD k 0 = x at *
      by_cases hx1 : 2147483647 < x
      · go_wp2
        go_ret
        exact ⟨Says.no fun h => by have := HN.out (HRT.out.1 h).1; omega, hB⟩
      by_cases hx2 : x < -2147483648
      · go_wp2
        go_ret
        exact ⟨Says.no fun h => by have := HN.out (HRT.out.1 h).1; omega, hB⟩
      by_cases hk11 : k < 11
      · have hki : (k : Int) < 11 := by omega
        by_cases hx3 : x < 0
        · go_wp2
          go_ret
          exact ⟨Says.no fun h => by have := (HN.out (HRT.out.1 h).1).2.2 hk11; omega, hB⟩
        · go_wp2
          go_roundw
          case rel => exact ⟨k + 1, by omega, by go_num, by trivial, HK.out ⟨by omega, by omega, fun _ => by omega⟩⟩
          case measure => simp [intOf]; omega
      · have hki : ¬ (k : Int) < 11 := by omega
        go_wp2
        go_roundw
        case rel => exact ⟨k + 1, by omega, by go_num, by trivial, HK.out ⟨by omega, by omega, fun _ => by omega⟩⟩
        case measure => simp [intOf]; omega
    · have hkn : k = L := by omega
      subst hkn
      have hli : ¬ (k : Int) < (k : Int) := by omega
      by_cases h1 : 0 < x0
      · by_cases h2 : x0 < 5
        · by_cases h3 : xn < 9
          · have q3 : (xn : Int) < 9 := by omega
            go_wp2
            go_ret
            exact ⟨Says.yes (HRT.out.2 ⟨HJ.out, by omega, by omega, by omega⟩), hB⟩
          · have q3 : ¬ (xn : Int) < 9 := by omega
            go_wp2
            go_ret
            exact ⟨Says.no fun h => by have := (HRT.out.1 h).2.2.2; omega, hB⟩
        · go_wp2
          go_ret
          exact ⟨Says.no fun h => by have := (HRT.out.1 h).2.2.1; omega, hB⟩
      · go_wp2
        go_ret
        exact ⟨Says.no fun h => by have := (HRT.out.1 h).2.1; omega, hB⟩

end Go.Proofs.Ytgffeefipeblhaa
