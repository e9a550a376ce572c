/- What the document's List, Right, four and Put of layer 7 do when called. -/
import Derived.Test.YtehelcbbcneihaaWireB
namespace Go.Proofs.Ytehelcbbcneihaa
open Go.ChangeShapes Go.WideShapes Go.ChangeAt Go.RowKit

/-- A slice that a literal has just laid. -/
theorem Own.lit {k : IntKind} (w : World) (e : TypeId) (l : List Int) {base : Nat} (hb : base ≤ w.heap.size) (hm : l.length ≤ maxLen) : Own (intS k) (w.alloc (.cells (l.map (Value.int k)).toArray e)) base e (.slice (some ⟨w.heap.size, 0, none⟩) l.length l.length) l := by
  refine Own.of_row ⟨by simp, .inr ⟨w.heap.size, l.length, (l.map (Value.int k)).toArray, rfl, hb, heap_alloc_new w _, Nat.le_refl _, hm, by simp, ?_⟩⟩
  rw [Nat.mul_one]
  exact List.take_of_length_le (by simp)

theorem rlist (x0 x1 x2 x3 x4 x5 x6 x7 x8 x9 : Int) (xa : Option Addr) (xn xc : Nat) (l : List Int) (w : World) (hr : rowS.rep w everywhere [.slice xa xn xc] l) (hn : xn ≤ 50000) :
    Calls Try.prog 17 #[.agg #[.int .i64 x0, .int .i64 x1, .int .i64 x2, .int .i64 x3, .int .i64 x4, .int .i64 x5, .int .i64 x6, .int .i64 x7, .int .i64 x8, .int .i64 x9, .slice xa xn xc]] w fun e w' => Below w.heap.size w w' ∧ ∃ a c, e = .returned (.slice a (11 + xn) c) ∧ rowS.rep w' everywhere [.slice a (11 + xn) c] (Wx.listOf ⟨x0, x1, x2, x3, x4, x5, x6, x7, x8, x9, l⟩) := by
  obtain ⟨i0, hi0, hi1, hi2, hi3⟩ := info_parts Try.infoInt
  have HL : Hid (l.length = xn) := (sliceS_len hr).1
  have hA := Shape.low hr
  have HW : Hid (Wx.listOf ⟨x0, x1, x2, x3, x4, x5, x6, x7, x8, x9, l⟩ = [x0, x1, x2, x3, x4, x5, x6, x7, x8, x9, (xn : Int)] ++ l) := by show _ = _; rw [← HL.out]; rfl
  have hB1 : Below w.heap.size w ((w.alloc (.cells #[.int .i64 x0, .int .i64 x1, .int .i64 x2, .int .i64 x3, .int .i64 x4, .int .i64 x5, .int .i64 x6, .int .i64 x7, .int .i64 x8, .int .i64 x9, .slice xa xn xc] 24)).alloc (.cells #[.int .i64 x0, .int .i64 x1, .int .i64 x2, .int .i64 x3, .int .i64 x4, .int .i64 x5, .int .i64 x6, .int .i64 x7, .int .i64 x8, .int .i64 x9, .int .i64 (xn : Int)] 3)) := bel_alloc (new_bel w _) _
  have ho : Own (intS .i64) ((w.alloc (.cells #[.int .i64 x0, .int .i64 x1, .int .i64 x2, .int .i64 x3, .int .i64 x4, .int .i64 x5, .int .i64 x6, .int .i64 x7, .int .i64 x8, .int .i64 x9, .slice xa xn xc] 24)).alloc (.cells #[.int .i64 x0, .int .i64 x1, .int .i64 x2, .int .i64 x3, .int .i64 x4, .int .i64 x5, .int .i64 x6, .int .i64 x7, .int .i64 x8, .int .i64 x9, .int .i64 (xn : Int)] 3)) (w.heap.size + 1) 3 (.slice (some ⟨w.heap.size + 1, 0, none⟩) 11 11) [x0, x1, x2, x3, x4, x5, x6, x7, x8, x9, (xn : Int)] := by
    have := Own.lit (k := .i64) (w.alloc (.cells #[.int .i64 x0, .int .i64 x1, .int .i64 x2, .int .i64 x3, .int .i64 x4, .int .i64 x5, .int .i64 x6, .int .i64 x7, .int .i64 x8, .int .i64 x9, .slice xa xn xc] 24)) 3 [x0, x1, x2, x3, x4, x5, x6, x7, x8, x9, (xn : Int)] (base := w.heap.size + 1) (by simp) (by simp [maxLen])
    rw [show (w.alloc (.cells #[.int .i64 x0, .int .i64 x1, .int .i64 x2, .int .i64 x3, .int .i64 x4, .int .i64 x5, .int .i64 x6, .int .i64 x7, .int .i64 x8, .int .i64 x9, .slice xa xn xc] 24)).heap.size = w.heap.size + 1 by simp] at this
    exact this
  have hA1 := Shape.now hA hB1
  go_enter Try.func17, Try.ntmps17
  go_wp2_with (at_builtin; refine wpList_app (intS .i64) (by simp [Region.wanted]) (.tmp 28) (.tmp 30) 22 rfl (w.heap.size + 1) 3 i0 (.int .i64 0) 8 Try.underlying22 hi0 hi1 hi2 hi3 rfl Nat.one_pos (by omega) (by rfl) ho (by rfl) hA1 (Own.apart ho (Nat.le_succ _)) (by simp; omega) (by simp) ?_; intro a4 c4 u4 ho4 hg4 hb4 hat4)
  go_ret
  refine ⟨hB1.trans (hb4.mono (Nat.le_succ _)), a4, c4, rfl, ?_⟩
  rw [HW.out]
  exact ho4.is

theorem four_back (w : World) (m : Nat) : (convert 38 9 (.slice (some ⟨w.heap.size, 0, none⟩) 4 4)).run Try.prog (w.alloc (.cells #[.int .u8 ((m % 256 : Nat) : Int), .int .u8 ((m / 256 % 256 : Nat) : Int), .int .u8 ((m / 65536 % 256 : Nat) : Int), .int .u8 ((m / 16777216 % 256 : Nat) : Int)] 5)) =
    .ok (.string ⟨(Wx.four m).toArray⟩) (w.alloc (.cells #[.int .u8 ((m % 256 : Nat) : Int), .int .u8 ((m / 256 % 256 : Nat) : Int), .int .u8 ((m / 65536 % 256 : Nat) : Int), .int .u8 ((m / 16777216 % 256 : Nat) : Int)] 5)) := by
  refine run_convert_bytes_back (P := Try.prog) _ 38 9 5 ⟨w.heap.size, 0, none⟩ 4 (Wx.four m) Try.underlying38 Try.underlying5 Try.underlying9 fun j hj => ?_
  rw [show (⟨w.heap.size, 0, none⟩ : Addr).add j = ⟨w.heap.size, j, none⟩ by unfold Addr.add; split <;> simp_all, cell_of_row _ w.heap.size j _ 5 (0, 0) (heap_alloc_new w _)]
  have h4 : j < 4 := hj
  rcases (by omega : j = 0 ∨ j = 1 ∨ j = 2 ∨ j = 3) with rfl | rfl | rfl | rfl
  · show some (Value.int .u8 ((m % 256 : Nat) : Int)) = some (.int .u8 (((UInt8.ofNat (m % 256)).toNat : Nat) : Int)); rw [toNat_mod]
  · show some (Value.int .u8 ((m / 256 % 256 : Nat) : Int)) = some (.int .u8 (((UInt8.ofNat (m / 256 % 256)).toNat : Nat) : Int)); rw [toNat_mod]
  · show some (Value.int .u8 ((m / 65536 % 256 : Nat) : Int)) = some (.int .u8 (((UInt8.ofNat (m / 65536 % 256)).toNat : Nat) : Int)); rw [toNat_mod]
  · show some (Value.int .u8 ((m / 16777216 % 256 : Nat) : Int)) = some (.int .u8 (((UInt8.ofNat (m / 16777216 % 256)).toNat : Nat) : Int)); rw [toNat_mod]

theorem rfour (n : Int) (h0 : -2147483648 ≤ n) (h1 : n < 4294967296) (w : World) : Calls Try.prog 26 #[.int .i64 n] w fun e w' => e = .returned (.string ⟨(Wx.four (Wx.un n)).toArray⟩) ∧ Below w.heap.size w w' := by
  have hm := Wx.un_lt n
  have hback := four_back w (Wx.un n)
  obtain ⟨m, em⟩ : ∃ m, m = Wx.un n := ⟨_, rfl⟩
  rw [← em] at hm hback
  have t0 : (m : Int).tmod 256 = ((m % 256 : Nat) : Int) := by rw [Int.tmod_eq_emod_of_nonneg (by omega)]; rfl
  have d1 : (m : Int).tdiv 256 = ((m / 256 : Nat) : Int) := by rw [Int.tdiv_eq_ediv_of_nonneg (by omega)]; rfl
  have d2 : (m : Int).tdiv 65536 = ((m / 65536 : Nat) : Int) := by rw [Int.tdiv_eq_ediv_of_nonneg (by omega)]; rfl
  have d3 : (m : Int).tdiv 16777216 = ((m / 16777216 : Nat) : Int) := by rw [Int.tdiv_eq_ediv_of_nonneg (by omega)]; rfl
  have t1 : ((m / 256 : Nat) : Int).tmod 256 = ((m / 256 % 256 : Nat) : Int) := by rw [Int.tmod_eq_emod_of_nonneg (by omega)]; rfl
  have t2 : ((m / 65536 : Nat) : Int).tmod 256 = ((m / 65536 % 256 : Nat) : Int) := by rw [Int.tmod_eq_emod_of_nonneg (by omega)]; rfl
  have t3 : ((m / 16777216 : Nat) : Int).tmod 256 = ((m / 16777216 % 256 : Nat) : Int) := by rw [Int.tmod_eq_emod_of_nonneg (by omega)]; rfl
  have c0 : m % 256 < 256 := by omega
  have c1 : m / 256 % 256 < 256 := by omega
  have c2 : m / 65536 % 256 < 256 := by omega
  have c3 : m / 16777216 % 256 < 256 := by omega
  have b1 : m / 256 < 4294967296 := by omega
  have b2 : m / 65536 < 4294967296 := by omega
  have b3 : m / 16777216 < 4294967296 := by omega
  rw [← em]
  by_cases hn : n < 0
  · have e : n + 4294967296 = (m : Int) := by rw [em]; unfold Wx.un; omega
    clear em
    generalize m % 256 = y0 at *
    generalize m / 256 % 256 = y1 at *
    generalize m / 65536 % 256 = y2 at *
    generalize m / 16777216 % 256 = y3 at *
    generalize m / 256 = z1 at *
    generalize m / 65536 = z2 at *
    generalize m / 16777216 = z3 at *
    go_enter Try.func26, Try.ntmps26
    go_wp2
    go_ret
    exact ⟨rfl, new_bel _ _⟩
  · have e : n = (m : Int) := by rw [em]; unfold Wx.un; omega
    clear em
    subst e
    generalize m % 256 = y0 at *
    generalize m / 256 % 256 = y1 at *
    generalize m / 65536 % 256 = y2 at *
    generalize m / 16777216 % 256 = y3 at *
    generalize m / 256 = z1 at *
    generalize m / 65536 = z2 at *
    generalize m / 16777216 = z3 at *
    go_enter Try.func26, Try.ntmps26
    go_wp2
    go_ret
    exact ⟨rfl, new_bel _ _⟩

end Go.Proofs.Ytehelcbbcneihaa
