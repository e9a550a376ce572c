/- What the document's hot and cold of layer 21 do when called. -/
import Derived.Test.YtpldfalnoaamkaaLdA
namespace Go.Proofs.Ytpldfalnoaamkaa
open Go.ChangeShapes Go.WideShapes Go.ChangeAt Go.RowKit

/-- A bound times a row's length. -/
theorem Ld.prod {b : Int} {q : Int} (hb : 1 ≤ b ∧ b ≤ 2147483647) (hq : 0 ≤ q ∧ q ≤ 100000) : IntKind.i64.wrap (b * q) = b * q := by
  have h1 : 0 ≤ b * q := Int.mul_nonneg (by omega) hq.1
  have h2 : b * q ≤ 2147483647 * 100000 := Int.mul_le_mul hb.2 hq.2 hq.1 (by omega)
  rw [IntKind.wrap_i64]
  omega
set_option maxRecDepth 100000 in
set_option maxHeartbeats 4000000 in
theorem rhot (b0 : Option Addr) (n0 c0 : Nat) (l : List Int) (e : Int) (a : Option Addr) (n c : Nat) (m : List (List Int)) (high : Int) (k : Nat) (B : Bool) (w : World) (hr : Row .i64 w b0 n0 l) (hn0 : n0 ≤ 100000) (h : matS.rep w everywhere [.slice a n c] m) (hz : Ex.Sized m) (h8 : m.length ≤ 8) (hh : 1 ≤ high ∧ high ≤ 2147483647) (hk : k < n) (hB : B = true ↔ Ld.HotAt l m high k) :
    Calls Try.prog 31 #[.slice b0 n0 c0, .agg #[.int .i64 e, .slice a n c], .int .i64 high, .int .i64 k] w fun r w' => r = .returned (.bool B) ∧ Below w.heap.size w w' := by
  have HL : Hid (m.length = n) := (sliceS_len h).1
  have hbn := new_bel w (.cells #[.int .i64 e, .slice a n c] 33)
  have kb := Box.new w 33 #[.int .i64 e, .slice a n c]
  obtain ⟨N, hN⟩ := Ld.node_there m (m.getD k [])
  have HBN : Hid _ := hbn
  have HR : Hid _ := hr
  have HM : Hid _ := h
  obtain ⟨u0, hu0⟩ : ∃ u0, u0 = w.alloc (.cells #[.int .i64 e, .slice a n c] 33) := ⟨_, rfl⟩
  rw [← hu0] at hbn kb
  have HU0 : Hid _ := hu0
  have hne9 : Nonempty (Later u0) := Later.there u0
  have HC : Hid (∀ x : Later u0, Calls Try.prog 13 #[.slice b0 n0 c0, .int .i64 k] x.u fun r w' => r = .returned (.int .i64 (Ld.count l k)) ∧ w' = x.u) := fun x => rcount b0 n0 c0 l k x.u ((hr.keep hbn).keep x.h) hn0
  have HNO : Hid (∀ x : Later u0, Calls Try.prog 32 #[.agg #[.int .i64 e, .slice a n c], .int .i64 k] x.u fun r w' => r = .returned (.int .i64 N) ∧ Below x.u.heap.size x.u w') := fun x => rnode e a n c m k N x.u (Shape.below (Shape.below h hbn) x.h) hz h8 hk hN
  have d0 : ∀ x : Later u0, x.u.cell? ⟨w.heap.size, 0, none⟩ = _ := fun x => x.cell (kb.cell 0 rfl)
  have d1 : ∀ x : Later u0, x.u.cell? ⟨w.heap.size, 1, none⟩ = _ := fun x => x.cell (kb.cell 1 rfl)
  obtain ⟨b, off, A, C, rfl, hb, hc, hrow⟩ := mat_at (Shape.below h hbn) hk
  have hqz : (m.getD k []).length ≤ 100000 := hz.2 _ (Mx.getD_mem m k (by have := HL.out; omega))
  obtain ⟨v, hv⟩ : ∃ v, Ld.count l (k : Int) = v := ⟨_, rfl⟩
  obtain ⟨q, hq⟩ : ∃ q, (m.getD k []).length = q := ⟨_, rfl⟩
  have hat : Ld.HotAt l m high k ↔ high * (q : Int) < v ∧ 0 < N := by
    unfold Ld.HotAt
    rw [hv, hq, hN.pos]
    exact ⟨fun h => h.2, fun h => ⟨by have := HL.out; omega, h⟩⟩
  rw [hat] at hB
  rw [hv] at HC
  rw [hq] at hc hqz
  have hp0 := Ld.prod (b := high) (q := (q : Int)) hh ⟨by omega, by omega⟩
  obtain ⟨p, hpp⟩ : ∃ p, high * (q : Int) = p := ⟨_, rfl⟩
  have hp : IntKind.i64.wrap (high * (q : Int)) = p := hp0.trans hpp
  rw [hpp] at hB
  clear hp0 hpp
  have f1 : ∀ x : Later u0, x.u.cell? ⟨b, off + k, none⟩ = _ := fun x => x.cell hc
  have hki : (k : Int) < (n : Int) := by omega
  have hk0 : (0 : Int) ≤ (k : Int) := by omega
  clear hr h hz h8 hN hat hrow hc hb kb hu0 hq hv HM HR hh hn0
  by_cases g : p < v
  · have g1 : decide (p < v) = true := decide_eq_true g
    by_cases t : 0 < N
    · have t1 : decide (0 < N) = true := decide_eq_true t
      obtain rfl : B = true := hB.2 ⟨g, t⟩
      clear hB
      go_enter Try.func31, Try.ntmps31
      go_wp2
      rw [← HU0.out]
      refine region_later (by kernel_rfl) (by kernel_rfl) ?_
      go_big_quiet_step (first
        | (go_at_call 13; exact Later.same (HC.out _))
        | (go_at_call 32; exact Later.call (HNO.out _)))
      repeat (go_big_quiet_step (first
        | (go_at_call 13; exact Later.same (HC.out _))
        | (go_at_call 32; exact Later.call (HNO.out _))))
      refine wpQuiet_nil ?_
      intro x9
      obtain ⟨W9, hb9⟩ := x9
      go_wp2
      go_ret
      exact ⟨rfl, bel_then hbn hb9⟩
    · have t1 : decide (0 < N) = false := decide_eq_false t
      obtain rfl : B = false := Bool.eq_false_iff.2 fun h9 => t (hB.1 h9).2
      clear hB
      go_enter Try.func31, Try.ntmps31
      go_wp2
      rw [← HU0.out]
      refine region_later (by kernel_rfl) (by kernel_rfl) ?_
      repeat (go_big_quiet_step (first
        | (go_at_call 13; exact Later.same (HC.out _))
        | (go_at_call 32; exact Later.call (HNO.out _))))
      refine wpQuiet_nil ?_
      intro x9
      obtain ⟨W9, hb9⟩ := x9
      go_wp2
      go_ret
      exact ⟨rfl, bel_then hbn hb9⟩
  · have g1 : decide (p < v) = false := decide_eq_false g
    obtain rfl : B = false := Bool.eq_false_iff.2 fun h9 => g (hB.1 h9).1
    clear hB
    go_enter Try.func31, Try.ntmps31
    go_wp2
    rw [← HU0.out]
    refine region_later (by kernel_rfl) (by kernel_rfl) ?_
    repeat (go_big_quiet_step (first
      | (go_at_call 13; exact Later.same (HC.out _))
      | (go_at_call 32; exact Later.call (HNO.out _))))
    refine wpQuiet_nil ?_
    intro x9
    obtain ⟨W9, hb9⟩ := x9
    go_wp2
    go_ret
    exact ⟨rfl, bel_then hbn hb9⟩

set_option maxRecDepth 100000 in
set_option maxHeartbeats 4000000 in
theorem rcold (b0 : Option Addr) (n0 c0 : Nat) (l : List Int) (e : Int) (a : Option Addr) (n c : Nat) (m : List (List Int)) (low : Int) (k : Nat) (B : Bool) (w : World) (hr : Row .i64 w b0 n0 l) (hn0 : n0 ≤ 100000) (h : matS.rep w everywhere [.slice a n c] m) (hz : Ex.Sized m) (hh : 1 ≤ low ∧ low ≤ 2147483647) (hk : k < n) (hB : B = true ↔ Ld.ColdAt l m low k) :
    Calls Try.prog 33 #[.slice b0 n0 c0, .agg #[.int .i64 e, .slice a n c], .int .i64 low, .int .i64 k] w fun r w' => r = .returned (.bool B) ∧ Below w.heap.size w w' := by
  have HL : Hid (m.length = n) := (sliceS_len h).1
  have hbn := new_bel w (.cells #[.int .i64 e, .slice a n c] 33)
  have kb := Box.new w 33 #[.int .i64 e, .slice a n c]
  have HC : Hid (∀ u, Below w.heap.size w u → Calls Try.prog 13 #[.slice b0 n0 c0, .int .i64 k] u fun r w' => r = .returned (.int .i64 (Ld.count l k)) ∧ w' = u) := fun u hu => rcount b0 n0 c0 l k u (hr.keep hu) hn0
  have d0 := kb.cell 0 rfl
  have d1 := kb.cell 1 rfl
  obtain ⟨b, off, A, C, rfl, hb, hc, hrow⟩ := mat_at (Shape.below h hbn) hk
  have hqz : (m.getD k []).length ≤ 100000 := hz.2 _ (Mx.getD_mem m k (by have := HL.out; omega))
  obtain ⟨v, hv⟩ : ∃ v, Ld.count l (k : Int) = v := ⟨_, rfl⟩
  obtain ⟨q, hq⟩ : ∃ q, (m.getD k []).length = q := ⟨_, rfl⟩
  have hat : Ld.ColdAt l m low k ↔ 1 < q ∧ v < low * ((q : Int) - 1) := by
    unfold Ld.ColdAt
    rw [hv, hq]
    exact ⟨fun h => h.2, fun h => ⟨by have := HL.out; omega, h⟩⟩
  rw [hat] at hB
  rw [hv] at HC
  rw [hq] at hc hqz
  have hki : (k : Int) < (n : Int) := by omega
  have hk0 : (0 : Int) ≤ (k : Int) := by omega
  clear hr h hz hat hrow hb kb hq hv hn0
  by_cases g : 1 < q
  · have g1 : (1 : Int) < (q : Int) := by omega
    have hs : IntKind.i64.wrap ((q : Int) - 1) = ((q - 1 : Nat) : Int) := by rw [IntKind.wrap_i64]; omega
    have hp0 := Ld.prod (b := low) (q := ((q - 1 : Nat) : Int)) hh ⟨by omega, by omega⟩
    obtain ⟨p, hpp⟩ : ∃ p, low * ((q - 1 : Nat) : Int) = p := ⟨_, rfl⟩
    have hp : IntKind.i64.wrap (low * ((q - 1 : Nat) : Int)) = p := hp0.trans hpp
    have hpe : low * ((q : Int) - 1) = p := by rw [← hpp, show ((q - 1 : Nat) : Int) = (q : Int) - 1 by omega]
    rw [hpe] at hB
    clear hpe hp0 hpp
    by_cases t : v < p
    · obtain rfl : B = true := hB.2 ⟨g, t⟩
      clear hB
      go_enter Try.func33, Try.ntmps33
      go_wp2_with fail
      refine (HC.out _ hbn).mono ?_
      rintro r u1 ⟨rfl, hu1⟩
      subst hu1
      go_wp2
      go_ret
      exact ⟨rfl, hbn⟩
    · obtain rfl : B = false := Bool.eq_false_iff.2 fun h9 => t (hB.1 h9).2
      clear hB
      go_enter Try.func33, Try.ntmps33
      go_wp2_with fail
      refine (HC.out _ hbn).mono ?_
      rintro r u1 ⟨rfl, hu1⟩
      subst hu1
      go_wp2
      go_ret
      exact ⟨by show Ending.returned (.bool (decide (v < p))) = _; rw [decide_eq_false (by omega : ¬ v < p)], hbn⟩
  · have g1 : ¬ (1 : Int) < (q : Int) := by omega
    obtain rfl : B = false := Bool.eq_false_iff.2 fun h9 => g (hB.1 h9).1
    clear hB
    go_enter Try.func33, Try.ntmps33
    go_wp2
    go_ret
    exact ⟨rfl, hbn⟩

end Go.Proofs.Ytpldfalnoaamkaa
