/- The walk of WireFields. -/
import Derived.Test.YtehelcbbcneihaaWireZ
namespace Go.Proofs.Ytehelcbbcneihaa
open Go.ChangeShapes Go.WideShapes Go.ChangeAt Go.RowKit

/-- The document's List, and that its answer is new memory. -/
theorem rlist_new (x0 x1 x2 x3 x4 x5 x6 x7 x8 x9 : Int) (xa : Option Addr) (xn xc : Nat) (l : List Int) (w : World) (hr : rowS.rep w everywhere [.slice xa xn xc] l) (hn : xn ≤ 50000) :
    Calls Try.prog 17 #[.agg #[.int .i64 x0, .int .i64 x1, .int .i64 x2, .int .i64 x3, .int .i64 x4, .int .i64 x5, .int .i64 x6, .int .i64 x7, .int .i64 x8, .int .i64 x9, .slice xa xn xc]] w fun e w' => Below w.heap.size w w' ∧ ∃ a c, e = .returned (.slice a (11 + xn) c) ∧ rowS.rep w' (w.heap.size ≤ ·) [.slice a (11 + xn) c] (Wx.listOf ⟨x0, x1, x2, x3, x4, x5, x6, x7, x8, x9, l⟩) := by
  obtain ⟨i0, hi0, hi1, hi2, hi3⟩ := info_parts Try.infoInt
  have HL : Hid (l.length = xn) := (sliceS_len hr).1
  have hA := Shape.low hr
  have HW : Hid (Wx.listOf ⟨x0, x1, x2, x3, x4, x5, x6, x7, x8, x9, l⟩ = [x0, x1, x2, x3, x4, x5, x6, x7, x8, x9, (xn : Int)] ++ l) := by show _ = _; rw [← HL.out]; rfl
  have hB1 : Below w.heap.size w ((w.alloc (.cells #[.int .i64 x0, .int .i64 x1, .int .i64 x2, .int .i64 x3, .int .i64 x4, .int .i64 x5, .int .i64 x6, .int .i64 x7, .int .i64 x8, .int .i64 x9, .slice xa xn xc] 24)).alloc (.cells #[.int .i64 x0, .int .i64 x1, .int .i64 x2, .int .i64 x3, .int .i64 x4, .int .i64 x5, .int .i64 x6, .int .i64 x7, .int .i64 x8, .int .i64 x9, .int .i64 (xn : Int)] 3)) := bel_alloc (new_bel w _) _
  have ho : Own (intS .i64) ((w.alloc (.cells #[.int .i64 x0, .int .i64 x1, .int .i64 x2, .int .i64 x3, .int .i64 x4, .int .i64 x5, .int .i64 x6, .int .i64 x7, .int .i64 x8, .int .i64 x9, .slice xa xn xc] 24)).alloc (.cells #[.int .i64 x0, .int .i64 x1, .int .i64 x2, .int .i64 x3, .int .i64 x4, .int .i64 x5, .int .i64 x6, .int .i64 x7, .int .i64 x8, .int .i64 x9, .int .i64 (xn : Int)] 3)) (w.heap.size + 1) 3 (.slice (some ⟨w.heap.size + 1, 0, none⟩) 11 11) [x0, x1, x2, x3, x4, x5, x6, x7, x8, x9, (xn : Int)] := by
    have := Own.lit (k := .i64) (w.alloc (.cells #[.int .i64 x0, .int .i64 x1, .int .i64 x2, .int .i64 x3, .int .i64 x4, .int .i64 x5, .int .i64 x6, .int .i64 x7, .int .i64 x8, .int .i64 x9, .slice xa xn xc] 24)) 3 [x0, x1, x2, x3, x4, x5, x6, x7, x8, x9, (xn : Int)] (base := w.heap.size + 1) (by simp) (by simp [maxLen])
    rw [show (w.alloc (.cells #[.int .i64 x0, .int .i64 x1, .int .i64 x2, .int .i64 x3, .int .i64 x4, .int .i64 x5, .int .i64 x6, .int .i64 x7, .int .i64 x8, .int .i64 x9, .slice xa xn xc] 24)).heap.size = w.heap.size + 1 by simp] at this
    exact this
  have hA1 := Shape.now hA hB1
  go_enter Try.func17, Try.ntmps17
  go_wp2_with (at_builtin; refine wpList_app (intS .i64) (by simp [Region.wanted]) (.tmp 28) (.tmp 30) 22 rfl (w.heap.size + 1) 3 i0 (.int .i64 0) 8 Try.underlying22 hi0 hi1 hi2 hi3 rfl Nat.one_pos (by omega) (by rfl) ho (by rfl) hA1 (Own.apart ho (Nat.le_succ _)) (by simp; omega) (by simp) ?_; intro a4 c4 u4 ho4 hg4 hb4 hat4)
  go_ret
  refine ⟨hB1.trans (hb4.mono (Nat.le_succ _)), a4, c4, rfl, ?_⟩
  rw [HW.out]
  exact Shape.mono _ ho4.high (fun b hb _ => Nat.le_trans (Nat.le_succ _) hb)

/-- Each number, the first and those of the list, stands at its place. -/
theorem fields_at {m : Wx.Msg} (h : m.vec.length ≤ 8) {n : Nat} (hn : m.vec.length = n) {i : Nat} (hi : i < 12 + n) : Wx.at4 (Wx.put m) (4 * i) = Wx.un (((((48 + 4 * n : Nat) : Int)) :: Wx.listOf m).getD i 0) := by
  cases i with
  | zero =>
    have e0 := Wx.row_first (Wx.put_small m h)
    rw [← Wx.put_row, Wx.body_len] at e0
    rw [Nat.mul_zero, e0, List.getD_cons_zero, Wx.un_nat (by omega)]
    omega
  | succ i =>
    rw [show 4 * (i + 1) = 4 + 4 * i by omega, Wx.put_at h (by omega), List.getD_cons_succ]
theorem un_tmod (x : Int) : (x - (Wx.un x : Nat)).tmod 4294967296 = 0 := by
  apply Int.tmod_eq_zero_of_dvd
  unfold Wx.un
  exact ⟨x / 4294967296, by omega⟩

set_option maxHeartbeats 2000000 in
theorem law_fields (x0 x1 x2 x3 x4 x5 x6 x7 x8 x9 : Int) (xa : Option Addr) (xn xc : Nat) (l : List Int) (w : World) (hr : rowS.rep w everywhere [.slice xa xn xc] l) :
    Calls Try.prog 8 #[.agg #[.int .i64 x0, .int .i64 x1, .int .i64 x2, .int .i64 x3, .int .i64 x4, .int .i64 x5, .int .i64 x6, .int .i64 x7, .int .i64 x8, .int .i64 x9, .slice xa xn xc]] w fun e w' => e = .returned (.bool true) ∧ Below w.heap.size w w' := by
  have HL : Hid (l.length = xn) := (sliceS_len hr).1
  by_cases hp : Wx.right ⟨x0, x1, x2, x3, x4, x5, x6, x7, x8, x9, l⟩
  · have hn8 : xn ≤ 8 := by have h8 : l.length ≤ 8 := hp.2.2.2.1; have := HL.out; omega
    have HPU : Hid _ := wput_yes x0 x1 x2 x3 x4 x5 x6 x7 x8 x9 xa xn xc l hp
    obtain ⟨i0, hi0, hi1, hi2, hi3⟩ := info_parts Try.infoInt
    have hz : (⟨(Wx.put ⟨x0, x1, x2, x3, x4, x5, x6, x7, x8, x9, l⟩).toArray⟩ : ByteArray).size = 52 + 4 * xn := by rw [put_size, ← HL.out]
    have HSL : Hid ((⟨(Wx.put ⟨x0, x1, x2, x3, x4, x5, x6, x7, x8, x9, l⟩).toArray⟩ : ByteArray).data.toList = Wx.put ⟨x0, x1, x2, x3, x4, x5, x6, x7, x8, x9, l⟩) := put_list
    have HFA : Hid (∀ i, i < 12 + xn → Wx.at4 (Wx.put ⟨x0, x1, x2, x3, x4, x5, x6, x7, x8, x9, l⟩) (4 * i) = Wx.un (((((48 + 4 * xn : Nat) : Int)) :: Wx.listOf ⟨x0, x1, x2, x3, x4, x5, x6, x7, x8, x9, l⟩).getD i 0)) := fun i hi => fields_at hp.2.2.2.1 HL.out hi
    have HBD : Hid (∀ i, i < 12 + xn → -2147483648 ≤ ((((48 + 4 * xn : Nat) : Int)) :: Wx.listOf ⟨x0, x1, x2, x3, x4, x5, x6, x7, x8, x9, l⟩).getD i 0 ∧ ((((48 + 4 * xn : Nat) : Int)) :: Wx.listOf ⟨x0, x1, x2, x3, x4, x5, x6, x7, x8, x9, l⟩).getD i 0 ≤ 2147483647) := by
      intro i hi
      cases i with
      | zero => rw [List.getD_cons_zero]; omega
      | succ i =>
        rw [List.getD_cons_succ]
        have h := ((right_list _).1 hp).1 i (by show i < 11 + l.length; have := HL.out; omega)
        exact ⟨h.2.1, h.1⟩
    have HLL : Hid ((Wx.listOf ⟨x0, x1, x2, x3, x4, x5, x6, x7, x8, x9, l⟩).length = 11 + xn) := by show _ = _; rw [listOf_len, ← HL.out]
    generalize (⟨(Wx.put ⟨x0, x1, x2, x3, x4, x5, x6, x7, x8, x9, l⟩).toArray⟩ : ByteArray) = S at *
    rw [← HSL.out] at HFA
    have HLI : Hid _ := fun W h => rlist_new x0 x1 x2 x3 x4 x5 x6 x7 x8 x9 xa xn xc l W h (by omega)
    generalize Wx.listOf ⟨x0, x1, x2, x3, x4, x5, x6, x7, x8, x9, l⟩ = t at *
    have HZ : Hid (S.size = 52 + 4 * xn) := hz
    have hz1 : 52 ≤ S.size := by omega
    have hz2 : S.size ≤ 84 := by omega
    clear hz hp
    go_enter Try.func8, Try.ntmps8
    go_wp2_with fail
    refine (HPU.out _ (Row.of_rep (Shape.below hr (new_bel w _)))).mono ?_
    rintro e u1 ⟨rfl, hb1⟩
    have hB1 := bel_then (new_bel w _) hb1
    have hbox1 := ((Box.new w 24 #[.int .i64 x0, .int .i64 x1, .int .i64 x2, .int .i64 x3, .int .i64 x4, .int .i64 x5, .int .i64 x6, .int .i64 x7, .int .i64 x8, .int .i64 x9, .slice xa xn xc]).keep hb1).keep (new_bel u1 (.cells #[.int .i64 ((S.size : Int) - 4)] 3))
    have hr1 := Shape.below (Shape.below hr hB1) (new_bel u1 (.cells #[.int .i64 ((S.size : Int) - 4)] 3))
    have ho1 : Own (intS .i64) (u1.alloc (.cells #[.int .i64 ((S.size : Int) - 4)] 3)) u1.heap.size 3 (.slice (some ⟨u1.heap.size, 0, none⟩) 1 1) [(S.size : Int) - 4] := Own.lit (k := .i64) u1 3 [(S.size : Int) - 4] (Nat.le_refl _) (by simp [maxLen])
    have hB1a := bel_alloc hB1 (.cells #[.int .i64 ((S.size : Int) - 4)] 3)
    have c0 := hbox1.cell 0 rfl
    have c1 := hbox1.cell 1 rfl
    have c2 := hbox1.cell 2 rfl
    have c3 := hbox1.cell 3 rfl
    have c4 := hbox1.cell 4 rfl
    have c5 := hbox1.cell 5 rfl
    have c6 := hbox1.cell 6 rfl
    have c7 := hbox1.cell 7 rfl
    have c8 := hbox1.cell 8 rfl
    have c9 := hbox1.cell 9 rfl
    have c10 := hbox1.cell 10 rfl
    have HW1 : Hid (w.heap.size ≤ u1.heap.size) := hB1.size
    clear hbox1 hb1 hr hB1
    go_wp2_with fail
    refine (HLI.out _ hr1).mono ?_
    rintro e u2 ⟨hb2, aa, cc, rfl, hrep2⟩
    have hB2 := bel_then hB1a hb2
    have ho2 := ho1.keep hb2
    have hsz2 : u1.heap.size ≤ u2.heap.size := by have := hb2.size; simp at this; omega
    have hap : ∀ b, (u1.alloc (.cells #[.int .i64 ((S.size : Int) - 4)] 3)).heap.size ≤ b → some b ≠ Value.ownBlock (.slice (some ⟨u1.heap.size, 0, none⟩) 1 1) := by
      intro b hb h
      have h2 : b = u1.heap.size := Option.some.inj h
      simp at hb
      omega
    have HU1 : Hid (w.heap.size ≤ u1.heap.size) := HW1.out
    clear ho1 hb2 hB1a hr1 c0 c1 c2 c3 c4 c5 c6 c7 c8 c9 c10
    obtain ⟨K, hK⟩ : ∃ K, K = 12 + xn := ⟨_, rfl⟩
    have HKL : Hid ([(S.size : Int) - 4].length + (11 + xn) = K) := by show 1 + (11 + xn) = K; omega
    have HTT : Hid ([(S.size : Int) - 4] ++ t = ((48 + 4 * xn : Nat) : Int) :: t) := by show ((S.size : Int) - 4) :: t = _; rw [show (S.size : Int) - 4 = ((48 + 4 * xn : Nat) : Int) by have := HZ.out; omega]
    have qk : (((S.size : Nat) : Int) != 4 * (K : Int) + 4) = false := by rw [bne_eq_false_iff_eq]; have := HZ.out; omega
    rw [← hK] at HFA HBD
    have HKX : Hid (K = 12 + xn) := hK
    have hK2 : K ≤ 100 := by omega
    clear hK
    go_wp2_with (at_builtin; refine wpList_app (intS .i64) (by simp [Region.wanted]) (.tmp 24) (.tmp 26) 22 rfl u1.heap.size 3 i0 (.int .i64 0) 8 Try.underlying22 hi0 hi1 hi2 hi3 rfl Nat.one_pos (by omega) (by rfl) ho2 (by rfl) hrep2 hap (by show 1 + _ ≤ _; omega) hsz2 ?_; intro a4 c4 u4 ho4 hg4 hb4 hat4; rw [HKL.out] at ho4 ⊢; rw [HTT.out] at ho4)
    have hB4 : Below w.heap.size w u4 := hB2.trans (hb4.mono HU1.out)
    have hR := Row.of_rep ho4.is
    have HKS : Hid (4 * K + 4 = S.size) := by show _ = _; have := HZ.out; have := HKX.out; omega
    clear ho2 hrep2 hap hg4 hb4 hat4 ho4 hB2 hsz2
    generalize ((48 + 4 * xn : Nat) : Int) :: t = T at *
    go_loopw [37] (fun i wr => ∃ k : Nat, k ≤ K ∧ i = .int .i64 k ∧ Below u4.heap.size u4 wr) (fun i _ => K - (intOf i).toNat)
    case atStart => exact ⟨0, Nat.zero_le _, rfl, Below.refl _ _⟩
    case round =>
      obtain ⟨k, hk, rfl, hbel⟩ := hrel
      by_cases hlt : k < K
      · have hli : (k : Int) < (K : Int) := by omega
        obtain ⟨b1, o1, rfl, hb1, hc1⟩ := (hR.keep hbel).at hlt
        obtain ⟨hx1, hx2⟩ := HBD.out k hlt
        have hy := HFA.out k hlt
        have hun := un_tmod (T.getD k 0)
        have hul := Wx.un_lt (T.getD k 0)
        rw [← hy] at hun hul
        have g3 : 4 * (k : Int) + 3 < (S.size : Int) := by have := HKS.out; omega
        have g0 : 4 * (k : Int) < (S.size : Int) := by omega
        have g1 : 4 * (k : Int) + 1 < (S.size : Int) := by omega
        have g2 : 4 * (k : Int) + 2 < (S.size : Int) := by omega
        have n0 : 0 ≤ 4 * (k : Int) := by omega
        have n1 : 0 ≤ 4 * (k : Int) + 1 := by omega
        have n2 : 0 ≤ 4 * (k : Int) + 2 := by omega
        have n3 : 0 ≤ 4 * (k : Int) + 3 := by omega
        have e0 : (4 * (k : Int)).toNat = 4 * k := by omega
        have e1 : (4 * (k : Int) + 1).toNat = 4 * k + 1 := by omega
        have e2 : (4 * (k : Int) + 2).toNat = 4 * k + 2 := by omega
        have e3 : (4 * (k : Int) + 3).toNat = 4 * k + 3 := by omega
        have b0 := (S[4 * k]'(by omega)).toNat_lt
        have b1' := (S[4 * k + 1]'(by omega)).toNat_lt
        have b2 := (S[4 * k + 2]'(by omega)).toNat_lt
        have b3 := (S[4 * k + 3]'(by omega)).toNat_lt
        have hE : (((S[4 * k]'(by omega)).toNat : Nat) : Int) + (((S[4 * k + 1]'(by omega)).toNat : Nat) : Int) * 256 + (((S[4 * k + 2]'(by omega)).toNat : Nat) : Int) * 65536 + (((S[4 * k + 3]'(by omega)).toNat : Nat) : Int) * 16777216 = (Wx.at4 S.data.toList (4 * k) : Nat) := by rw [at4_is S (by omega)]; omega
        generalize Wx.at4 S.data.toList (4 * k) = y at *
        generalize T.getD k 0 = x at *
        have q9 : ((x - (y : Int)).tmod 4294967296 != 0) = false := by rw [hun]; rfl
        have hne9 : Nonempty (Later wr) := Later.there wr
        clear hy
        go_wp2
        refine region_later (by kernel_rfl) (by kernel_rfl) ?_
        repeat (go_big_quiet_step (fail))
        refine wpQuiet_nil ?_
        intro x9
        obtain ⟨W9, hb9⟩ := x9
        have hbel9 := bel_then hbel hb9
        go_wp2
        go_roundw
        case rel => exact ⟨k + 1, by omega, by go_num, hbel9⟩
        case measure => simp [intOf]; omega
      · have hli : ¬ (k : Int) < (K : Int) := by omega
        go_wp2_with fail
        refine (wawake _).mono ?_
        rintro e u5 ⟨rfl, hb5⟩
        go_wp2
        go_ret
        exact ⟨rfl, bel_then (bel_then hB4 hbel) hb5⟩
  · have HPU : Hid _ := wput_no x0 x1 x2 x3 x4 x5 x6 x7 x8 x9 xa xn xc l hp
    go_enter Try.func8, Try.ntmps8
    go_wp2_with fail
    refine (HPU.out _ (Row.of_rep (Shape.below hr (new_bel w _)))).mono ?_
    rintro e u1 ⟨rfl, hb1⟩
    have hB1 := bel_then (new_bel w _) hb1
    go_wp2_with fail
    refine (wawake _).mono ?_
    rintro e u5 ⟨rfl, hb5⟩
    go_wp2
    go_ret
    exact ⟨rfl, bel_then hB1 hb5⟩

end Go.Proofs.Ytehelcbbcneihaa
