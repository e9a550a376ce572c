/- What rightHolders, Right, hasExpert, Holds, Pick and canTurn of package place do when called. -/
import Derived.Test.YtpfhjdlmjehfnaaSlB
import Derived.Test.YtpfhjdlmjehfnaaPl
import Derived.Test.YtpfhjdlmjehfnaaEx
namespace Go.Proofs.Ytpfhjdlmjehfnaa
open Go.ChangeShapes Go.WideShapes Go.ChangeAt Go.RowKit

/-- Maps that can be copied. -/
def Pl.Short (m : List (List Int)) : Prop := m.length ≤ 1000 ∧ ∀ l ∈ m, l.length ≤ 1000
theorem Pl.Short.sized {m : List (List Int)} (h : Pl.Short m) : Ex.Sized m := ⟨by have := h.1; omega, fun l hl => by have := h.2 l hl; omega⟩

set_option maxRecDepth 100000 in
theorem prow (a : Option Addr) (n c : Nat) (l : List Int) (w : World) (h : Row .i64 w a n l) (hn : n ≤ 100000) :
    Calls Try.prog 60 #[.slice a n c] w fun e w' => Says e (Pl.RowOk l) ∧ w' = w := by
  have HL : Hid (l.length = n) := h.len
  go_enter Try.func60, Try.ntmps60
  go_wp2
  go_loopw [3, 8] (fun s i wr => ∃ k : Nat, ∃ L : Int, k ≤ n ∧ i = .int .i64 k ∧ s = .int .i64 L ∧ wr = w ∧ Hid (Pl.Upto l k ∧ (k = 0 → L = 1) ∧ (0 < k → L = l.getD (k - 1) 0 + 1))) (fun _ i _ => n - (intOf i).toNat)
  case atStart => exact ⟨0, 1, Nat.zero_le _, rfl, rfl, rfl, Pl.upto_zero l, fun _ => rfl, fun h => absurd h (Nat.lt_irrefl _)⟩
  case round =>
    obtain ⟨k, L, hk, rfl, rfl, hww, HU⟩ := hrel
    replace hww := hww.symm
    subst hww
    by_cases hlt : k < n
    · obtain ⟨b, off, rfl, hb, hc⟩ := h.at hlt
      have hli : (k : Int) < (n : Int) := by omega
      have HX : Hid (∀ y, l.getD k 0 = y → (¬ y < L ∧ ¬ 4 < y ↔ Pl.Next l k)) := fun y hy => by
        subst hy
        have h1 := HU.out.2
        have h2 := HU.out.1.last (by have := HL.out; omega)
        unfold Pl.Next
        rcases Nat.eq_zero_or_pos k with h0 | h0
        · have := h1.1 h0
          constructor
          · intro h3; exact ⟨by omega, fun h4 => by omega⟩
          · intro h3; omega
        · have := h1.2 h0
          have := h2 h0
          constructor
          · intro h3; exact ⟨by omega, fun _ => by omega⟩
          · intro h3; have := h3.2 h0; omega
      have hLb : 1 ≤ L ∧ L ≤ 5 := by
        have h1 := HU.out.2
        rcases Nat.eq_zero_or_pos k with h0 | h0
        · have := h1.1 h0; omega
        · have := h1.2 h0
          have := HU.out.1.last (by have := HL.out; omega) h0
          omega
      obtain ⟨y, hy⟩ : ∃ y, l.getD k 0 = y := ⟨_, rfl⟩
      have HY : Hid (l.getD k 0 = y) := hy
      rw [hy] at hc
      clear hy
      by_cases h1 : y < L
      · go_wp2
        go_ret
        exact ⟨Says.no (Pl.not_next (l := l) (k := k) (by have := HL.out; omega) fun h5 => by have := (HX.out y HY.out).2 h5; omega), rfl⟩
      by_cases h2 : 4 < y
      · go_wp2
        go_ret
        exact ⟨Says.no (Pl.not_next (l := l) (k := k) (by have := HL.out; omega) fun h5 => by have := (HX.out y HY.out).2 h5; omega), rfl⟩
      have hy1 : 1 ≤ y := by omega
      have hy2 : y ≤ 4 := by omega
      go_wp2
      go_roundw
      case rel =>
        refine ⟨k + 1, y + 1, by omega, by go_num, rfl, by trivial, HU.out.1.next (by have := HL.out; omega) ((HX.out y HY.out).1 ⟨h1, h2⟩), fun h5 => by omega, fun _ => ?_⟩
        rw [show k + 1 - 1 = k by omega, HY.out]
      case measure => simp [intOf]; omega
    · have hkn : k = n := by omega
      subst hkn
      by_cases h0 : k = 0
      · subst h0
        have hnil : l = [] := List.eq_nil_of_length_eq_zero HL.out
        subst hnil
        go_wp2
        go_ret
        exact ⟨Says.no Pl.not_nil, rfl⟩
      · have h1 : 0 < k := by omega
        have H0 : Hid (k ≠ 0) := h0
        clear h0
        go_wp2
        go_ret
        exact ⟨Says.yes (Pl.Upto.all (by rw [HL.out]; exact HU.out.1) (by rw [HL.out]; exact H0.out)), rfl⟩

set_option maxRecDepth 100000 in
theorem pright (e : Int) (a : Option Addr) (n c : Nat) (m : List (List Int)) (w : World) (h : matS.rep w everywhere [.slice a n c] m) (hz : Ex.Sized m) :
    Calls Try.prog 46 #[.agg #[.int .i64 e, .slice a n c]] w fun r w' => Says r (Pl.Right e m) ∧ Below w.heap.size w w' := by
  have hl := (sliceS_len h).1
  have hB := new_bel w (.cells #[.int .i64 e, .slice a n c] 24)
  have kb := Box.new w 24 #[.int .i64 e, .slice a n c]
  have h2 := Shape.below h hB
  have HL : Hid (m.length = n) := hl
  have HZ : Hid (Ex.Sized m) := hz
  have hn : n ≤ 100000 := by have := hz.1; omega
  have c0 := kb.cell 0 rfl
  have c1 := kb.cell 1 rfl
  clear h hz
  by_cases d1 : e < 0
  · go_enter Try.func46, Try.ntmps46
    go_wp2
    go_ret
    exact ⟨Says.no fun h => by have := h.1; omega, hB⟩
  by_cases d2 : 2147483647 < e
  · go_enter Try.func46, Try.ntmps46
    go_wp2
    go_ret
    exact ⟨Says.no fun h => by have := h.1; omega, hB⟩
  by_cases d3 : (8 : Int) < (n : Int)
  · go_enter Try.func46, Try.ntmps46
    go_wp2
    go_ret
    exact ⟨Says.no fun h => by have := h.2.1; omega, hB⟩
  clear hl
  go_enter Try.func46, Try.ntmps46
  go_wp2
  generalize (w.alloc (.cells #[.int .i64 e, .slice a n c] 24)) = W at *
  go_loopw [22] (fun i wr => ∃ k : Nat, k ≤ n ∧ i = .int .i64 k ∧ wr = W ∧ Hid (∀ j, j < k → Pl.RowOk (m.getD j []))) (fun i _ => n - (intOf i).toNat)
  case atStart => exact ⟨0, Nat.zero_le _, rfl, rfl, fun j hj => absurd hj (Nat.not_lt_zero _)⟩
  case round =>
    obtain ⟨k, hk, rfl, hww, HU⟩ := hrel
    replace hww := hww.symm
    subst hww
    by_cases hlt : k < n
    · obtain ⟨b, off, A, C, rfl, hb, hc, hr⟩ := mat_at h2 hlt
      have hli : (k : Int) < (n : Int) := by omega
      have hR := Row.of_rep hr
      have hq : (m.getD k []).length ≤ 100000 := HZ.out.2 _ (Mx.getD_mem m k (by have := HL.out; omega))
      have HC : Hid (∀ u, u = W → Calls Try.prog 60 #[.slice A (m.getD k []).length C] u fun r w' => Says r (Pl.RowOk (m.getD k [])) ∧ w' = u) := fun u hu => by subst hu; exact prow A _ C _ _ hR hq
      clear hr hR hq
      by_cases ho : Pl.RowOk (m.getD k [])
      · have HO : Hid (Pl.RowOk (m.getD k [])) := ho
        clear ho
        generalize (m.getD k []).length = q at *
        go_wp2_with fail
        refine by_says (HC.out _ rfl) (fun _ => ?_) (fun h5 => absurd HO.out h5)
        go_wp2
        go_roundw
        case rel =>
          refine ⟨k + 1, by omega, by go_num, by trivial, fun j hj => ?_⟩
          rcases Nat.lt_succ_iff_lt_or_eq.1 hj with h5 | rfl
          · exact HU.out j h5
          · exact HO.out
        case measure => simp [intOf]; omega
      · have HO : Hid (¬ Pl.RowOk (m.getD k [])) := ho
        clear ho
        generalize (m.getD k []).length = q at *
        go_wp2_with fail
        refine by_says (HC.out _ rfl) (fun h5 => absurd h5 HO.out) (fun _ => ?_)
        go_wp2
        go_ret
        exact ⟨Says.no fun h => HO.out (h.row (by have := HL.out; omega)), hB⟩
    · have hkn : k = n := by omega
      subst hkn
      go_wp2
      go_ret
      exact ⟨Says.yes (Pl.right_all ⟨by omega, by omega⟩ (by have := HL.out; omega) (by rw [HL.out]; exact HU.out)), hB⟩
theorem pright_tell (e : Int) (a : Option Addr) (n c : Nat) (m : List (List Int)) (w : World) (h : matS.rep w everywhere [.slice a n c] m) (hz : Ex.Sized m) (b : Bool) (hb : tell (Pl.Right e m) = b) :
    Calls Try.prog 46 #[.agg #[.int .i64 e, .slice a n c]] w fun r w' => r = .returned (.bool b) ∧ Below w.heap.size w w' :=
  (pright e a n c m w h hz).mono fun _ _ ⟨hs, hb'⟩ => ⟨by rw [← hb]; exact hs.form, hb'⟩

set_option maxRecDepth 100000 in
theorem phas (e : Int) (a : Option Addr) (n c : Nat) (x : Int) (b : Bool) (hb : b = true ↔ 0 ≤ x ∧ x < (n : Int)) (w : World) :
    Calls Try.prog 44 #[.agg #[.int .i64 e, .slice a n c], .int .i64 x] w fun r w' => r = .returned (.bool b) ∧ Below w.heap.size w w' := by
  have hB := new_bel w (.cells #[.int .i64 e, .slice a n c] 24)
  have kb := Box.new w 24 #[.int .i64 e, .slice a n c]
  have c1 := kb.cell 1 rfl
  by_cases d1 : x < 0
  · obtain rfl : b = false := by cases b with
      | false => rfl
      | true => have := hb.1 rfl; omega
    have d2 : ¬ (0 ≤ x) := by omega
    clear hb
    go_enter Try.func44, Try.ntmps44
    go_wp2
    go_ret
    exact ⟨rfl, hB⟩
  by_cases d2 : x < (n : Int)
  · obtain rfl : b = true := hb.2 ⟨by omega, d2⟩
    have d3 : 0 ≤ x := by omega
    clear hb
    go_enter Try.func44, Try.ntmps44
    go_wp2
    go_ret
    exact ⟨rfl, hB⟩
  · obtain rfl : b = false := by cases b with
      | false => rfl
      | true => have := hb.1 rfl; omega
    have d3 : 0 ≤ x := by omega
    clear hb
    go_enter Try.func44, Try.ntmps44
    go_wp2
    go_ret
    exact ⟨rfl, hB⟩

set_option maxRecDepth 100000 in
theorem pholds (e : Int) (a : Option Addr) (n c : Nat) (m : List (List Int)) (x y : Int) (b : Bool) (w : World) (h : matS.rep w everywhere [.slice a n c] m) (hz : Ex.Sized m) (hb : tell (Pl.Holds m x y) = b) :
    Calls Try.prog 27 #[.agg #[.int .i64 e, .slice a n c], .int .i64 x, .int .i64 y] w fun r w' => r = .returned (.bool b) ∧ Below w.heap.size w w' := by
  have hl := (sliceS_len h).1
  have hB := new_bel w (.cells #[.int .i64 e, .slice a n c] 24)
  have kb := Box.new w 24 #[.int .i64 e, .slice a n c]
  have c0 := kb.cell 0 rfl
  have c1 := kb.cell 1 rfl
  by_cases d1 : 0 ≤ x ∧ x < (n : Int)
  · obtain ⟨k, rfl⟩ : ∃ k : Nat, x = (k : Int) := ⟨x.toNat, by omega⟩
    have hkn : k < n := by omega
    have hk2 : (k : Int) < (n : Int) := by omega
    have hk0 : (0 : Int) ≤ (k : Int) := by omega
    have HC : Hid (Calls _ _ _ _ _) := phas e a n c k true ⟨fun _ => d1, fun _ => rfl⟩ (w.alloc (.cells #[.int .i64 e, .slice a n c] 24))
    have hbv : b = (m.getD k []).contains y := by
      rw [← hb]
      by_cases hy : y ∈ m.getD k []
      · rw [tell_yes ⟨⟨by omega, by omega⟩, by rw [Int.toNat_natCast]; exact hy⟩]
        exact (List.contains_iff_mem.2 hy).symm
      · rw [tell_no fun h5 => hy (by have := h5.2; rwa [Int.toNat_natCast] at this)]
        exact (Bool.eq_false_iff.2 fun h5 => hy (List.contains_iff_mem.1 h5)).symm
    have HBV : Hid (b = (m.getD k []).contains y) := hbv
    clear hbv
    have hA := Shape.low h
    have hq : (m.getD k []).length ≤ 100000 := hz.2 _ (Mx.getD_mem m k (by omega))
    clear h hz hb d1 hl
    go_enter Try.func27, Try.ntmps27
    go_wp2_with fail
    refine HC.out.mono ?_
    rintro r u1 ⟨rfl, hb1⟩
    have hB1 := bel_then hB hb1
    have k1 := kb.keep hb1
    have c2 := k1.cell 1 rfl
    obtain ⟨b0, off, A, C, rfl, _, hc, hr⟩ := mat_at (Shape.now hA hB1) hkn
    have hR := Row.of_rep hr
    have HD0 := contains A _ C _ y u1 hR hq
    rw [← HBV.out] at HD0
    have HD : Hid (Calls _ _ _ _ _) := HD0
    clear HD0 HBV
    clear HC hr hR kb c0 c1 hA hq
    generalize (m.getD k []).length = q at *
    go_wp2_with (go_at_call 45; refine HD.out.mono ?_; rintro r u2 ⟨rfl, rfl⟩)
    go_ret
    exact ⟨rfl, hB1⟩
  · obtain rfl : b = false := by rw [← hb]; exact tell_no fun h5 => d1 (by have := h5.1; omega)
    have HC : Hid (Calls _ _ _ _ _) := phas e a n c x false ⟨fun h5 => (Bool.false_ne_true h5).elim, fun h5 => absurd h5 d1⟩ (w.alloc (.cells #[.int .i64 e, .slice a n c] 24))
    clear h hz hb d1 hl
    go_enter Try.func27, Try.ntmps27
    go_wp2_with fail
    refine HC.out.mono ?_
    rintro r u1 ⟨rfl, hb1⟩
    go_wp2
    go_ret
    exact ⟨rfl, bel_then hB hb1⟩

/-! ### Pick -/
set_option maxRecDepth 100000 in
theorem pcan (e : Int) (a : Option Addr) (n c : Nat) (m : List (List Int)) (x y : Int) (w : World) (h : matS.rep w everywhere [.slice a n c] m) (hz : Ex.Sized m) :
    Calls Try.prog 40 #[.agg #[.int .i64 e, .slice a n c], .int .i64 x, .int .i64 y] w fun r w' => Says r (¬ Pl.Wrong e m x y) ∧ Below w.heap.size w w' := by
  have hl := (sliceS_len h).1
  have hB := new_bel w (.cells #[.int .i64 e, .slice a n c] 24)
  have kb := Box.new w 24 #[.int .i64 e, .slice a n c]
  have c0 := kb.cell 0 rfl
  have c1 := kb.cell 1 rfl
  have HC : Hid (∀ b, tell (Pl.Right e m) = b → Calls Try.prog 46 #[.agg #[.int .i64 e, .slice a n c]] (w.alloc (.cells #[.int .i64 e, .slice a n c] 24)) fun r w' => r = .returned (.bool b) ∧ Below (w.alloc (.cells #[.int .i64 e, .slice a n c] 24)).heap.size (w.alloc (.cells #[.int .i64 e, .slice a n c] 24)) w') := fun b hb => pright_tell e a n c m _ (Shape.below h hB) hz b hb
  have HL : Hid (m.length = n) := hl
  clear h hz hl
  obtain ⟨g, hg⟩ : ∃ g : Bool, g = decide (1 ≤ y ∧ y ≤ 4) := ⟨_, rfl⟩
  have HG : Hid (g = decide (1 ≤ y ∧ y ≤ 4)) := hg
  clear hg
  have HN : Hid (∀ r w', r = .returned (.bool g) → Below w.heap.size w w' → Pl.Right e m → (0 ≤ x ∧ x < (n : Int)) → e < 2147483647 → Says r (¬ Pl.Wrong e m x y) ∧ Below w.heap.size w w') := fun r w' hr hb h1 h2 h3 => by
    refine ⟨⟨g, hr, ?_⟩, hb⟩
    rw [HG.out, decide_eq_true_iff]
    constructor
    · rintro h4 (h5 | h5 | h5 | h5)
      · exact h5 h1
      · exact h5 (by rw [HL.out]; exact h2)
      · exact h5 h4
      · omega
    · exact fun h4 => (Pl.not_wrong h4).2.2.1
  have HW : Hid (∀ w', Below w.heap.size w w' → Pl.Wrong e m x y → Says (.returned (.bool false)) (¬ Pl.Wrong e m x y) ∧ Below w.heap.size w w') := fun w' hb h1 => ⟨Says.no (fun h2 => h2 h1), hb⟩
  by_cases dy1 : 1 ≤ y <;> by_cases dy2 : y ≤ 4
  rotate_left 3
  · omega
  all_goals
    have hgg : g = (decide (1 ≤ y) && decide (y ≤ 4)) := by rw [HG.out]; simp
    by_cases d1 : Pl.Right e m
    case neg =>
      have HD := HC.out _ (tell_no d1)
      have HX : Hid (Pl.Wrong e m x y) := Or.inl d1
      clear HC d1 HN HG hgg
      go_enter Try.func40, Try.ntmps40
      go_wp2_with fail
      refine HD.mono ?_
      rintro r u1 ⟨rfl, hb1⟩
      go_wp2
      go_ret
      exact HW.out _ (bel_then hB hb1) HX.out
    have HD : Hid (Calls _ _ _ _ _) := HC.out _ (tell_yes d1)
    have H1 : Hid (Pl.Right e m) := d1
    clear HC d1
    by_cases d4 : e < 2147483647
    case neg =>
      have HX : Hid (Pl.Wrong e m x y) := Or.inr (Or.inr (Or.inr (by have := H1.out.1; omega)))
      clear HN HG hgg
      go_enter Try.func40, Try.ntmps40
      go_wp2_with fail
      refine HD.out.mono ?_
      rintro r u1 ⟨rfl, hb1⟩
      have k1 := kb.keep hb1
      have c2 := k1.cell 0 rfl
      have c3 := k1.cell 1 rfl
      clear HD kb c0 c1
      go_wp2
      go_ret
      exact HW.out _ (bel_then hB hb1) HX.out
    obtain ⟨b2, hb2⟩ : ∃ b2 : Bool, b2 = true ↔ 0 ≤ x ∧ x < (n : Int) := ⟨decide (0 ≤ x ∧ x < (n : Int)), by simp⟩
    have HE : Hid (∀ u, Calls Try.prog 44 #[.agg #[.int .i64 e, .slice a n c], .int .i64 x] u fun r w' => r = .returned (.bool b2) ∧ Below u.heap.size u w') := fun u => phas e a n c x b2 hb2 u
    have HB2 : Hid (b2 = true ↔ 0 ≤ x ∧ x < (n : Int)) := hb2
    clear hb2
    cases b2 with
    | false =>
      have HX : Hid (Pl.Wrong e m x y) := Or.inr (Or.inl fun h5 => absurd (HB2.out.2 (by have := HL.out; omega)) Bool.false_ne_true)
      clear HN HG hgg HB2
      go_enter Try.func40, Try.ntmps40
      go_wp2_with fail
      refine HD.out.mono ?_
      rintro r u1 ⟨rfl, hb1⟩
      have k1 := kb.keep hb1
      have c2 := k1.cell 0 rfl
      have c3 := k1.cell 1 rfl
      clear HD kb c0 c1
      go_wp2_with fail
      refine (HE.out _).mono ?_
      rintro r u2 ⟨rfl, hb2⟩
      go_wp2
      go_ret
      exact HW.out _ (bel_then (bel_then hB hb1) hb2) HX.out
    | true =>
      have HX : Hid (0 ≤ x ∧ x < (n : Int)) := HB2.out.1 rfl
      have d5 : e < 2147483647 := d4
      clear HW HB2
      simp [dy1, dy2] at hgg
      subst hgg
      go_enter Try.func40, Try.ntmps40
      go_wp2_with fail
      refine HD.out.mono ?_
      rintro r u1 ⟨rfl, hb1⟩
      have k1 := kb.keep hb1
      have c2 := k1.cell 0 rfl
      have c3 := k1.cell 1 rfl
      clear HD kb c0 c1
      go_wp2_with fail
      refine (HE.out _).mono ?_
      rintro r u2 ⟨rfl, hb2⟩
      go_wp2
      go_ret
      exact HN.out _ _ rfl (bel_then (bel_then hB hb1) hb2) H1.out HX.out d5

end Go.Proofs.Ytpfhjdlmjehfnaa
