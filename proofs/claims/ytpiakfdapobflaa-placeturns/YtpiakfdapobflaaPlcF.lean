/- What the document's Turn of layer 17 does when called. -/
import Derived.Test.YtpiakfdapobflaaPlcE
import Derived.Test.YtpiakfdapobflaaLo
import Derived.Test.YtpiakfdapobflaaLits
namespace Go.Proofs.Ytpiakfdapobflaa
open Go.ChangeShapes Go.WideShapes Go.ChangeAt Go.RowKit

theorem Try.infoRMap : (Try.prog.info? 27).map (·.size) = some 2 := by kernel_rfl

theorem Box.setB1 {u : World} {b : Nat} {t : TypeId} {p0 p1 : Value} (h : Box u b t #[p0, p1]) (v : Value) : Box (u.setCell ⟨b, 1, none⟩ v) b t #[p0, v] := by
  have := h.set 1 v
  simpa using this

set_option maxHeartbeats 2000000 in
theorem qturn_wrong (e : Int) (a : Option Addr) (n c : Nat) (m : List (List Int)) (x y : Int) (add : Bool) (w : World) (h : matS.rep w everywhere [.slice a n c] m) (hs : Pl.Short m) (hW : Pl.Wrong e m x y) :
    Calls Try.prog 13 #[.agg #[.int .i64 e, .slice a n c], .int .i64 x, .int .i64 y, .bool add] w fun r w' => Below w.heap.size w w' ∧ r = .returned (.tuple #[.agg #[.int .i64 e, .slice a n c], .int .i64 1]) := by
  have hl := (sliceS_len h).1
  have HL : Hid (m.length = n) := hl
  have HS : Hid (Pl.Short m) := hs
  have HM : Hid (matS.rep w everywhere [.slice a n c] m) := h
  have hB := bel_two w (.cells #[.int .i64 e, .slice a n c] 27) (.cells #[.int .i64 0, .slice none 0 0] 27)
  have kp := (Box.new w 27 #[.int .i64 e, .slice a n c]).keep (new_bel _ (.cells #[.int .i64 0, .slice none 0 0] 27))
  have kr := Box.new (w.alloc (.cells #[.int .i64 e, .slice a n c] 27)) 27 #[.int .i64 0, .slice none 0 0]
  have e1 : (w.alloc (.cells #[.int .i64 e, .slice a n c] 27)).heap.size = w.heap.size + 1 := by simp
  rw [e1] at kr
  have HC : Hid (Calls _ _ _ _ _) := qright e a n c m _ (Shape.below h hB) hs.sized
  have c0 := kp.cell 0 rfl
  have c1 := kp.cell 1 rfl
  have HW : Hid (Pl.Wrong e m x y) := hW
  clear h hs hl e1 hW
  go_enter Try.func13, Try.ntmps13
  go_wp2_with fail
  generalize (w.alloc (.cells #[.int .i64 e, .slice a n c] 27)).alloc (.cells #[.int .i64 0, .slice none 0 0] 27) = W at *
  refine HC.out.mono ?_
  rintro r u1 ⟨hs1, hb1⟩
  have kp1 := kp.keep hb1
  have kr1 := kr.keep hb1
  have hB1 := bel_then hB hb1
  clear HC c0 c1 kp kr hB hb1
  have c0 := kp1.cell 0 rfl
  have c1 := kp1.cell 1 rfl
  have z0 := kr1.cell 0 rfl
  have z1 := kr1.cell 1 rfl
  have f0 := kr1.free 0
  have f1 := kr1.free 1
  by_cases d1 : Pl.Right e m
  case neg =>
    rw [hs1.not d1]
    clear d1 hs1
    go_wp2
    refine ret_var Try.underlying27 Try.infoRMap rfl rfl rfl rfl (kr1.all2 _ _) rfl ?_
    exact ⟨bel_all2 hB1 (by omega) _ _, rfl⟩
  rw [hs1.is d1]
  by_cases d2 : x < 0
  · clear d1 hs1
    go_wp2
    refine ret_var Try.underlying27 Try.infoRMap rfl rfl rfl rfl (kr1.all2 _ _) rfl ?_
    exact ⟨bel_all2 hB1 (by omega) _ _, rfl⟩
  by_cases d3 : (n : Int) ≤ x
  · clear d1 hs1
    go_wp2
    refine ret_var Try.underlying27 Try.infoRMap rfl rfl rfl rfl (kr1.all2 _ _) rfl ?_
    exact ⟨bel_all2 hB1 (by omega) _ _, rfl⟩
  by_cases d4 : y < 1
  · clear d1 hs1
    go_wp2
    refine ret_var Try.underlying27 Try.infoRMap rfl rfl rfl rfl (kr1.all2 _ _) rfl ?_
    exact ⟨bel_all2 hB1 (by omega) _ _, rfl⟩
  by_cases d5 : 4 < y
  · clear d1 hs1
    go_wp2
    refine ret_var Try.underlying27 Try.infoRMap rfl rfl rfl rfl (kr1.all2 _ _) rfl ?_
    exact ⟨bel_all2 hB1 (by omega) _ _, rfl⟩
  have d6 : e = 2147483647 := by
    rcases HW.out with h5 | h5 | h5 | h5
    · exact absurd d1 h5
    · exact absurd ⟨by omega, by have := HL.out; omega⟩ h5
    · exact absurd ⟨by omega, by omega⟩ h5
    · exact h5
  have d7 : (e == 2147483647) = true := by simpa using d6
  clear d1 hs1 d6
  go_wp2
  refine ret_var Try.underlying27 Try.infoRMap rfl rfl rfl rfl (kr1.all2 _ _) rfl ?_
  exact ⟨bel_all2 hB1 (by omega) _ _, rfl⟩

set_option maxHeartbeats 2000000 in
theorem qturn_there (e : Int) (a : Option Addr) (n c : Nat) (m : List (List Int)) (x y : Int) (add : Bool) (w : World) (h : matS.rep w everywhere [.slice a n c] m) (hs : Pl.Short m) (hW : ¬ Pl.Wrong e m x y) (ha : add = true) (hH : Pl.Holds m x y) :
    Calls Try.prog 13 #[.agg #[.int .i64 e, .slice a n c], .int .i64 x, .int .i64 y, .bool add] w fun r w' => Below w.heap.size w w' ∧ r = .returned (.tuple #[.agg #[.int .i64 e, .slice a n c], .int .i64 5]) := by
  subst ha
  have hl := (sliceS_len h).1
  have HL : Hid (m.length = n) := hl
  have HS : Hid (Pl.Short m) := hs
  have HM : Hid (matS.rep w everywhere [.slice a n c] m) := h
  have hB := bel_two w (.cells #[.int .i64 e, .slice a n c] 27) (.cells #[.int .i64 0, .slice none 0 0] 27)
  have kp := (Box.new w 27 #[.int .i64 e, .slice a n c]).keep (new_bel _ (.cells #[.int .i64 0, .slice none 0 0] 27))
  have kr := Box.new (w.alloc (.cells #[.int .i64 e, .slice a n c] 27)) 27 #[.int .i64 0, .slice none 0 0]
  have e1 : (w.alloc (.cells #[.int .i64 e, .slice a n c] 27)).heap.size = w.heap.size + 1 := by simp
  rw [e1] at kr
  have HC : Hid (Calls _ _ _ _ _) := qright e a n c m _ (Shape.below h hB) hs.sized
  have c0 := kp.cell 0 rfl
  have c1 := kp.cell 1 rfl
  obtain ⟨hR, hx, hy, he⟩ := Pl.not_wrong hW
  obtain ⟨k, rfl⟩ : ∃ k : Nat, x = (k : Int) := ⟨x.toNat, by omega⟩
  have hkn : k < n := by omega
  have d2 : ¬ (k : Int) < 0 := by omega
  have d3 : ¬ (n : Int) ≤ (k : Int) := by omega
  have d4 : ¬ y < 1 := by omega
  have d5 : ¬ 4 < y := by omega
  have d7 : (e == 2147483647) = false := by simpa using he
  have hk0 : (0 : Int) ≤ (k : Int) := by omega
  have hk1 : (k : Int) < (n : Int) := by omega
  have HR : Hid (Pl.Right e m) := hR
  have HY : Hid (1 ≤ y ∧ y ≤ 4) := hy
  have HI : Hid ((m.getD k []).contains y = true) := by have := hH.2; rw [Int.toNat_natCast] at this; exact List.contains_iff_mem.2 this
  clear hH h hs hl e1 hW hx hR hy he
  go_enter Try.func13, Try.ntmps13
  go_wp2_with fail
  generalize (w.alloc (.cells #[.int .i64 e, .slice a n c] 27)).alloc (.cells #[.int .i64 0, .slice none 0 0] 27) = W at *
  refine HC.out.mono ?_
  rintro r u1 ⟨hs1, hb1⟩
  have kp1 := kp.keep hb1
  have kr1 := kr.keep hb1
  have hB1 := bel_then hB hb1
  clear HC c0 c1 kp kr hB hb1
  have c0 := kp1.cell 0 rfl
  have c1 := kp1.cell 1 rfl
  have z0 := kr1.cell 0 rfl
  have z1 := kr1.cell 1 rfl
  have f0 := kr1.free 0
  have f1 := kr1.free 1
  rw [hs1.is HR.out]
  obtain ⟨b0, off, A, C, rfl, hbl, hc, hr⟩ := mat_at (Shape.below HM.out hB1) hkn
  have HH : Hid (Calls _ _ _ _ _) := qhas A _ C (m.getD k []) y u1 (Row.of_rep hr) (HS.out.sized.2 _ (Mx.getD_mem m k (by have := HL.out; omega)))
  obtain ⟨q, hqq⟩ : ∃ q, (m.getD k []).length = q := ⟨_, rfl⟩
  have HQQ : Hid ((m.getD k []).length = q) := hqq
  rw [hqq] at hc HH
  clear hqq hr hs1
  rw [HI.out] at HH
  go_wp2_with fail
  refine HH.out.mono ?_
  rintro r u2 ⟨rfl, rfl⟩
  go_wp2
  refine ret_var Try.underlying27 Try.infoRMap rfl rfl rfl rfl (kr1.all2 _ _) rfl ?_
  exact ⟨bel_all2 hB1 (by omega) _ _, rfl⟩

set_option maxHeartbeats 2000000 in
theorem qturn_none (e : Int) (a : Option Addr) (n c : Nat) (m : List (List Int)) (x y : Int) (add : Bool) (w : World) (h : matS.rep w everywhere [.slice a n c] m) (hs : Pl.Short m) (hW : ¬ Pl.Wrong e m x y) (ha : add = false) (hH : ¬ Pl.Holds m x y) :
    Calls Try.prog 13 #[.agg #[.int .i64 e, .slice a n c], .int .i64 x, .int .i64 y, .bool add] w fun r w' => Below w.heap.size w w' ∧ r = .returned (.tuple #[.agg #[.int .i64 e, .slice a n c], .int .i64 4]) := by
  subst ha
  have hl := (sliceS_len h).1
  have HL : Hid (m.length = n) := hl
  have HS : Hid (Pl.Short m) := hs
  have HM : Hid (matS.rep w everywhere [.slice a n c] m) := h
  have hB := bel_two w (.cells #[.int .i64 e, .slice a n c] 27) (.cells #[.int .i64 0, .slice none 0 0] 27)
  have kp := (Box.new w 27 #[.int .i64 e, .slice a n c]).keep (new_bel _ (.cells #[.int .i64 0, .slice none 0 0] 27))
  have kr := Box.new (w.alloc (.cells #[.int .i64 e, .slice a n c] 27)) 27 #[.int .i64 0, .slice none 0 0]
  have e1 : (w.alloc (.cells #[.int .i64 e, .slice a n c] 27)).heap.size = w.heap.size + 1 := by simp
  rw [e1] at kr
  have HC : Hid (Calls _ _ _ _ _) := qright e a n c m _ (Shape.below h hB) hs.sized
  have c0 := kp.cell 0 rfl
  have c1 := kp.cell 1 rfl
  obtain ⟨hR, hx, hy, he⟩ := Pl.not_wrong hW
  obtain ⟨k, rfl⟩ : ∃ k : Nat, x = (k : Int) := ⟨x.toNat, by omega⟩
  have hkn : k < n := by omega
  have d2 : ¬ (k : Int) < 0 := by omega
  have d3 : ¬ (n : Int) ≤ (k : Int) := by omega
  have d4 : ¬ y < 1 := by omega
  have d5 : ¬ 4 < y := by omega
  have d7 : (e == 2147483647) = false := by simpa using he
  have hk0 : (0 : Int) ≤ (k : Int) := by omega
  have hk1 : (k : Int) < (n : Int) := by omega
  have HR : Hid (Pl.Right e m) := hR
  have HY : Hid (1 ≤ y ∧ y ≤ 4) := hy
  have HI : Hid ((m.getD k []).contains y = false) := Bool.eq_false_iff.2 fun h9 => hH ⟨hx, by rw [Int.toNat_natCast]; exact List.contains_iff_mem.1 h9⟩
  clear hH h hs hl e1 hW hx hR hy he
  go_enter Try.func13, Try.ntmps13
  go_wp2_with fail
  generalize (w.alloc (.cells #[.int .i64 e, .slice a n c] 27)).alloc (.cells #[.int .i64 0, .slice none 0 0] 27) = W at *
  refine HC.out.mono ?_
  rintro r u1 ⟨hs1, hb1⟩
  have kp1 := kp.keep hb1
  have kr1 := kr.keep hb1
  have hB1 := bel_then hB hb1
  clear HC c0 c1 kp kr hB hb1
  have c0 := kp1.cell 0 rfl
  have c1 := kp1.cell 1 rfl
  have z0 := kr1.cell 0 rfl
  have z1 := kr1.cell 1 rfl
  have f0 := kr1.free 0
  have f1 := kr1.free 1
  rw [hs1.is HR.out]
  obtain ⟨b0, off, A, C, rfl, hbl, hc, hr⟩ := mat_at (Shape.below HM.out hB1) hkn
  have HH : Hid (Calls _ _ _ _ _) := qhas A _ C (m.getD k []) y u1 (Row.of_rep hr) (HS.out.sized.2 _ (Mx.getD_mem m k (by have := HL.out; omega)))
  obtain ⟨q, hqq⟩ : ∃ q, (m.getD k []).length = q := ⟨_, rfl⟩
  have HQQ : Hid ((m.getD k []).length = q) := hqq
  rw [hqq] at hc HH
  clear hqq hr hs1
  rw [HI.out] at HH
  go_wp2_with fail
  refine HH.out.mono ?_
  rintro r u2 ⟨rfl, rfl⟩
  go_wp2
  refine ret_var Try.underlying27 Try.infoRMap rfl rfl rfl rfl (kr1.all2 _ _) rfl ?_
  exact ⟨bel_all2 hB1 (by omega) _ _, rfl⟩

set_option maxHeartbeats 2000000 in
theorem qturn_last (e : Int) (a : Option Addr) (n c : Nat) (m : List (List Int)) (x y : Int) (add : Bool) (w : World) (h : matS.rep w everywhere [.slice a n c] m) (hs : Pl.Short m) (hW : ¬ Pl.Wrong e m x y) (ha : add = false) (hH : Pl.Holds m x y) (h1 : (m.getD x.toNat []).length = 1) :
    Calls Try.prog 13 #[.agg #[.int .i64 e, .slice a n c], .int .i64 x, .int .i64 y, .bool add] w fun r w' => Below w.heap.size w w' ∧ r = .returned (.tuple #[.agg #[.int .i64 e, .slice a n c], .int .i64 7]) := by
  subst ha
  have hl := (sliceS_len h).1
  have HL : Hid (m.length = n) := hl
  have HS : Hid (Pl.Short m) := hs
  have HM : Hid (matS.rep w everywhere [.slice a n c] m) := h
  have hB := bel_two w (.cells #[.int .i64 e, .slice a n c] 27) (.cells #[.int .i64 0, .slice none 0 0] 27)
  have kp := (Box.new w 27 #[.int .i64 e, .slice a n c]).keep (new_bel _ (.cells #[.int .i64 0, .slice none 0 0] 27))
  have kr := Box.new (w.alloc (.cells #[.int .i64 e, .slice a n c] 27)) 27 #[.int .i64 0, .slice none 0 0]
  have e1 : (w.alloc (.cells #[.int .i64 e, .slice a n c] 27)).heap.size = w.heap.size + 1 := by simp
  rw [e1] at kr
  have HC : Hid (Calls _ _ _ _ _) := qright e a n c m _ (Shape.below h hB) hs.sized
  have c0 := kp.cell 0 rfl
  have c1 := kp.cell 1 rfl
  obtain ⟨hR, hx, hy, he⟩ := Pl.not_wrong hW
  obtain ⟨k, rfl⟩ : ∃ k : Nat, x = (k : Int) := ⟨x.toNat, by omega⟩
  have hkn : k < n := by omega
  have d2 : ¬ (k : Int) < 0 := by omega
  have d3 : ¬ (n : Int) ≤ (k : Int) := by omega
  have d4 : ¬ y < 1 := by omega
  have d5 : ¬ 4 < y := by omega
  have d7 : (e == 2147483647) = false := by simpa using he
  have hk0 : (0 : Int) ≤ (k : Int) := by omega
  have hk1 : (k : Int) < (n : Int) := by omega
  have HR : Hid (Pl.Right e m) := hR
  have HY : Hid (1 ≤ y ∧ y ≤ 4) := hy
  have HI : Hid ((m.getD k []).contains y = true) := by have := hH.2; rw [Int.toNat_natCast] at this; exact List.contains_iff_mem.2 this
  have HO : Hid ((m.getD k []).length = 1) := by rw [Int.toNat_natCast] at h1; exact h1
  clear hH h1 h hs hl e1 hW hx hR hy he
  go_enter Try.func13, Try.ntmps13
  go_wp2_with fail
  generalize (w.alloc (.cells #[.int .i64 e, .slice a n c] 27)).alloc (.cells #[.int .i64 0, .slice none 0 0] 27) = W at *
  refine HC.out.mono ?_
  rintro r u1 ⟨hs1, hb1⟩
  have kp1 := kp.keep hb1
  have kr1 := kr.keep hb1
  have hB1 := bel_then hB hb1
  clear HC c0 c1 kp kr hB hb1
  have c0 := kp1.cell 0 rfl
  have c1 := kp1.cell 1 rfl
  have z0 := kr1.cell 0 rfl
  have z1 := kr1.cell 1 rfl
  have f0 := kr1.free 0
  have f1 := kr1.free 1
  rw [hs1.is HR.out]
  obtain ⟨b0, off, A, C, rfl, hbl, hc, hr⟩ := mat_at (Shape.below HM.out hB1) hkn
  have HH : Hid (Calls _ _ _ _ _) := qhas A _ C (m.getD k []) y u1 (Row.of_rep hr) (HS.out.sized.2 _ (Mx.getD_mem m k (by have := HL.out; omega)))
  obtain ⟨q, hqq⟩ : ∃ q, (m.getD k []).length = q := ⟨_, rfl⟩
  have HQQ : Hid ((m.getD k []).length = q) := hqq
  rw [hqq] at hc HH
  clear hqq hr hs1
  rw [HI.out] at HH
  have eb : ((q : Int) == 1) = true := by have := HO.out; have := HQQ.out; simp; omega
  go_wp2_with fail
  refine HH.out.mono ?_
  rintro r u2 ⟨rfl, rfl⟩
  go_wp2
  refine ret_var Try.underlying27 Try.infoRMap rfl rfl rfl rfl (kr1.all2 _ _) rfl ?_
  exact ⟨bel_all2 hB1 (by omega) _ _, rfl⟩

set_option maxHeartbeats 4000000 in
set_option maxRecDepth 100000 in
theorem qturn_ok (e : Int) (a : Option Addr) (n c : Nat) (m : List (List Int)) (x y : Int) (add : Bool) (w : World) (h : matS.rep w everywhere [.slice a n c] m) (hs : Pl.Short m) (hW : ¬ Pl.Wrong e m x y) (hS : (add = true ∧ ¬ Pl.Holds m x y) ∨ (add = false ∧ Pl.Holds m x y ∧ (m.getD x.toNat []).length ≠ 1)) :
    Calls Try.prog 13 #[.agg #[.int .i64 e, .slice a n c], .int .i64 x, .int .i64 y, .bool add] w fun r w' => Below w.heap.size w w' ∧ ∃ a' c', r = .returned (.tuple #[.agg #[.int .i64 (e + 1), .slice a' n c'], .int .i64 0]) ∧ matS.rep w' everywhere [.slice a' n c'] (Pl.turn m x y add) := by
  have hl := (sliceS_len h).1
  have HL : Hid (m.length = n) := hl
  have HS : Hid (Pl.Short m) := hs
  have HM : Hid (matS.rep w everywhere [.slice a n c] m) := h
  have hB := bel_two w (.cells #[.int .i64 e, .slice a n c] 27) (.cells #[.int .i64 0, .slice none 0 0] 27)
  have kp := (Box.new w 27 #[.int .i64 e, .slice a n c]).keep (new_bel _ (.cells #[.int .i64 0, .slice none 0 0] 27))
  have kr := Box.new (w.alloc (.cells #[.int .i64 e, .slice a n c] 27)) 27 #[.int .i64 0, .slice none 0 0]
  have e1 : (w.alloc (.cells #[.int .i64 e, .slice a n c] 27)).heap.size = w.heap.size + 1 := by simp
  rw [e1] at kr
  have HC : Hid (Calls _ _ _ _ _) := qright e a n c m _ (Shape.below h hB) hs.sized
  have c0 := kp.cell 0 rfl
  have c1 := kp.cell 1 rfl
  obtain ⟨hR, hx, hy, he⟩ := Pl.not_wrong hW
  obtain ⟨k, rfl⟩ : ∃ k : Nat, x = (k : Int) := ⟨x.toNat, by omega⟩
  have hkn : k < n := by omega
  have d2 : ¬ (k : Int) < 0 := by omega
  have d3 : ¬ (n : Int) ≤ (k : Int) := by omega
  have d4 : ¬ y < 1 := by omega
  have d5 : ¬ 4 < y := by omega
  have d7 : (e == 2147483647) = false := by simpa using he
  have hk0 : (0 : Int) ≤ (k : Int) := by omega
  have hk1 : (k : Int) < (n : Int) := by omega
  have HR : Hid (Pl.Right e m) := hR
  have HY : Hid (1 ≤ y ∧ y ≤ 4) := hy
  have he0 : 0 ≤ e := hR.1.1
  have he1 : e < 2147483647 := by have := hR.1; omega
  obtain ⟨M, hM⟩ : ∃ M, Pl.turn m (k : Int) y add = M := ⟨_, rfl⟩
  have HT : Hid (∀ i, i < n → Pl.some4 i (k : Int) y add (m.getD i []) 4 = M.getD i []) := fun i hi => by rw [← hM]; exact Pl.some4_all hR (by omega) (by omega) add
  have HLM : Hid (M.length = n) := by show _ = _; rw [← hM, Pl.turn_len]; exact hl
  rw [hM]
  have hn8 : n ≤ 8 := by have := hR.2.1; omega
  obtain ⟨i0, hi0, hi1, hi2, hi3⟩ := info_parts Try.infoRow
  obtain ⟨j0, hj0, hj1, hj2, hj3⟩ := info_parts Try.infoInt
  have HI : Hid ((m.getD k []).contains y = !add) := by
    rcases hS with ⟨rfl, h9⟩ | ⟨rfl, h9, _⟩
    · exact Bool.eq_false_iff.2 fun h8 => h9 ⟨hx, by rw [Int.toNat_natCast]; exact List.contains_iff_mem.1 h8⟩
    · have := h9.2; rw [Int.toNat_natCast] at this; exact List.contains_iff_mem.2 this
  have HO : Hid (add = false → (m.getD k []).length ≠ 1) := fun h9 => by
    rcases hS with ⟨h8, _⟩ | ⟨_, _, h8⟩
    · rw [h9] at h8; cases h8
    · rw [Int.toNat_natCast] at h8; exact h8
  clear hM hS hx
  clear h hs hl e1 hW hR hy he
  cases add with
  | false =>
    go_enter Try.func13, Try.ntmps13
    go_wp2_with fail
    generalize (w.alloc (.cells #[.int .i64 e, .slice a n c] 27)).alloc (.cells #[.int .i64 0, .slice none 0 0] 27) = W at *
    refine HC.out.mono ?_
    rintro r u1 ⟨hs1, hb1⟩
    have kp1 := kp.keep hb1
    have kr1 := kr.keep hb1
    have hB1 := bel_then hB hb1
    clear HC c0 c1 kp kr hB hb1
    have c0 := kp1.cell 0 rfl
    have c1 := kp1.cell 1 rfl
    have z0 := kr1.cell 0 rfl
    have z1 := kr1.cell 1 rfl
    have f0 := kr1.free 0
    have f1 := kr1.free 1
    rw [hs1.is HR.out]
    obtain ⟨b0, off, A, C, rfl, hbl, hc, hr⟩ := mat_at (Shape.below HM.out hB1) hkn
    have HH : Hid (Calls _ _ _ _ _) := qhas A _ C (m.getD k []) y u1 (Row.of_rep hr) (HS.out.sized.2 _ (Mx.getD_mem m k (by have := HL.out; omega)))
    obtain ⟨q, hqq⟩ : ∃ q, (m.getD k []).length = q := ⟨_, rfl⟩
    have HQQ : Hid ((m.getD k []).length = q) := hqq
    rw [hqq] at hc HH
    clear hqq hr hs1
    have h9 := HI.out
    simp only [Bool.not_false] at h9
    rw [h9] at HH
    clear h9
    try (have eb : ((q : Int) == 1) = false := (by have := HO.out (by trivial); have := HQQ.out; simp; omega))
    go_wp2_with fail
    refine HH.out.mono ?_
    rintro r u2 ⟨rfl, hV9⟩
    replace hV9 := hV9.symm
    subst hV9
    clear HH hc
    have hOr := kr1.lt
    have kO := Box.new u1 27 #[.int .i64 (e + 1), .slice none 0 0]
    have hbO : Below u1.heap.size u1 (u1.alloc (.cells #[.int .i64 (e + 1), .slice none 0 0] 27)) := new_bel u1 _
    go_wp2
    clear z0 z1 f0 f1 c0 c1
    go_loopw [13] (fun iv wr => ∃ (i : Nat) (ao : Option Addr) (co : Nat), i ≤ n ∧ iv = .int .i64 i ∧ Box wr u1.heap.size 27 #[.int .i64 (e + 1), .slice ao i co] ∧ Own (inS rowS (u1.heap.size + 1 ≤ ·)) wr (u1.heap.size + 1) 40 (.slice ao i co) (M.take i) ∧ Below u1.heap.size u1 wr) (fun iv _ => n - (intOf iv).toNat)
    case atStart => exact ⟨0, none, 0, Nat.zero_le _, rfl, kO, Own.nil _ _ _ _, hbO⟩
    case round =>
      clear kO hbO
      obtain ⟨i, ao, co, hi, rfl, kO, hown, hbel⟩ := hrel
      have kp2 := kp1.keep hbel
      have c0 := kp2.cell 0 rfl
      have c1 := kp2.cell 1 rfl
      by_cases hlt : i < n
      · have hli : (i : Int) < (n : Int) := by omega
        have hi0' : (0 : Int) ≤ (i : Int) := by omega
        have HML : Hid ((M.take i).length = i) := by show _ = _; rw [List.length_take, HLM.out]; omega
        have HST : Hid (M.take i ++ [M.getD i []] = M.take (i + 1)) := (Mx.take_row M i (by have := HLM.out; omega)).symm
        obtain ⟨b1, o1, A1, C1, he, _, hc1, hr1⟩ := mat_at (Shape.below HM.out (bel_then hB1 hbel)) hlt
        have e9 := Option.some.inj he
        injection e9 with e2 e3 e4
        subst e2; subst e3
        have hqz := HS.out.sized.2 _ (Mx.getD_mem m i (by have := HL.out; omega))
        have HROW : Hid (Row .i64 wr A1 (m.getD i []).length (m.getD i [])) := Row.of_rep hr1
        have HTI : Hid (Pl.some4 i (k : Int) y _ (m.getD i []) 4 = M.getD i []) := HT.out i hlt
        have hXlt := kO.lt
        clear he hr1 e4
        generalize m.getD i [] = l at *
        obtain ⟨ql, hql⟩ : ∃ ql, l.length = ql := ⟨_, rfl⟩
        rw [hql] at hc1 HROW hqz
        clear hql
        obtain ⟨W0, hW0⟩ : ∃ W0, W0 = wr := ⟨_, rfl⟩
        subst hW0
        go_wp2
        go_loopw [14, 15] (fun kv nv wr => ∃ (p t : Nat) (al : Option Addr) (cl : Nat), (1 ≤ p ∧ p ≤ 5) ∧ nv = .int .i64 p ∧ kv = .slice al t cl ∧ Hid ((Pl.some4 i (k : Int) y false l (p - 1)).length = t) ∧ Own (intS .i64) wr W0.heap.size 3 (.slice al t cl) (Pl.some4 i (k : Int) y false l (p - 1)) ∧ Below W0.heap.size W0 wr) (fun _ nv _ => 5 - (intOf nv).toNat)
        case atStart => exact ⟨1, 0, none, 0, ⟨Nat.le_refl _, by omega⟩, rfl, rfl, rfl, Own.nil _ _ _ _, Below.refl _ _⟩
        case round =>
          clear c0 c1
          obtain ⟨p, t, al, cl, hp, rfl, rfl, HLT, hown2, hbel2⟩ := hrel
          have kp3 := kp2.keep hbel2
          have c0 := kp3.cell 0 rfl
          have c1 := kp3.cell 1 rfl
          have hc2 := (hbel2.cell (World.block_lt_of_cell? _ _ hc1)).trans hc1
          by_cases hp5 : p < 5
          · have hpi : (p : Int) < 5 := by omega
            obtain ⟨v, hv⟩ : ∃ v, l.contains (p : Int) = v := ⟨_, rfl⟩
            have HV0 := qhas A1 ql C1 l (p : Int) wr (HROW.out.keep hbel2) hqz
            rw [hv] at HV0
            have HV : Hid (Calls _ _ _ _ _) := HV0
            obtain ⟨B, hcd, hw⟩ := Pl.cand_ways i k p y false v l hv
            have HCD : Hid (Pl.cand i (k : Int) y false l (p : Int) = B) := hcd
            have ht4 : t ≤ 4 := by rw [← HLT.out]; exact Pl.some4_len
            clear hv HV0 hcd
            cases B with
            | false =>
              have HN := Pl.some4_skip hp.1 (by omega) HCD.out
              rw [HN] at HLT hown2
              clear HN HCD
              rcases hw with ⟨e1, e2, e3⟩ | ⟨e1, e2, e3⟩ | ⟨e1, e3⟩
              all_goals cases e3
              all_goals
                go_wp2_with fail
                refine HV.out.mono ?_
                rintro r u4 ⟨rfl, rfl⟩
                go_wp2
                go_roundw
                case rel => exact ⟨p + 1, t, al, cl, ⟨by omega, by omega⟩, by go_num, rfl, HLT.out, hown2, hbel2⟩
                case measure => simp [intOf]; omega
            | true =>
              have hcat := Pl.some4_next hp.1 (by omega) HCD.out
              obtain ⟨hsrc, hoff⟩ := Own.esrc (F := fun _ => False) (cs := [.int .i64 (p : Int)]) (x := (p : Int)) hown2 rfl (fun _ h => h.elim)
              have hown5 := hown2.keep (new_bel wr (.cells #[.int .i64 (p : Int)] 3))
              have hB5 := bel_then hbel2 (new_bel wr (.cells #[.int .i64 (p : Int)] 3))
              have hs5 : W0.heap.size ≤ (wr.alloc (.cells #[.int .i64 (p : Int)] 3)).heap.size := hB5.size
              have hk5 : (Pl.some4 i (k : Int) y false l (p - 1)).length + 1 = t + 1 := by rw [HLT.out]
              have hk6 : (Pl.some4 i (k : Int) y false l (p - 1)).length + 1 ≤ 100000 := by rw [HLT.out]; omega
              have HLN : Hid ((Pl.some4 i (k : Int) y false l (p + 1 - 1)).length = t + 1) := by show _ = _; rw [← hcat, List.length_append, HLT.out]; rfl
              clear hown2 HCD
              generalize Pl.some4 i (k : Int) y false l (p - 1) = L at *
              obtain ⟨L2, HL2⟩ : ∃ L2, Hid (Pl.some4 i (k : Int) y false l (p + 1 - 1) = L2) := ⟨_, rfl⟩
              rw [HL2.out] at hcat HLN
              rcases hw with ⟨e1, e2, e3⟩ | ⟨e1, e2, e3⟩ | ⟨e1, e3⟩
              all_goals cases e3
              all_goals
                go_wp2_with fail
                refine HV.out.mono ?_
                rintro r u4 ⟨rfl, rfl⟩
                go_wp2_with (at_builtin; refine wpList_appK (intS .i64) (by simp [Region.wanted]) (.tmp 105) (.tmp 107) 40 rfl W0.heap.size 3 j0 (.int .i64 0) 8 Try.underlying40 hj0 hj1 hj2 hj3 rfl Nat.one_pos (by omega) (by rfl) hown5 (by rfl) hsrc hoff hk6 hs5 (t + 1) hk5 L2 hcat ?_; intro a7 c7 u7 ho7 hg7 hb7 hat7)
                go_roundw
                case rel => exact ⟨p + 1, t + 1, a7, c7, ⟨by omega, by omega⟩, by go_num, rfl, by show _ = _; rw [HL2.out]; exact HLN.out, by rw [HL2.out]; exact ho7, hB5.trans hb7⟩
                case measure => simp [intOf]; omega
          · have hp9 : p = 5 := by omega
            subst hp9
            rw [show 5 - 1 = 4 by omega, HTI.out] at hown2 HLT
            have kO2 := kO.keep hbel2
            have hownA := hown.keep hbel2
            have hrow := Own.high hown2
            obtain ⟨hsrc, hoff⟩ := Own.esrc (A := inS rowS (u1.heap.size + 1 ≤ ·)) (F := (W0.heap.size ≤ ·)) (cs := [.slice al t cl]) hownA (inS_of hrow fun b (hb : W0.heap.size ≤ b) => show u1.heap.size + 1 ≤ b by omega) (fun b (hb : W0.heap.size ≤ b) h' => by have := (hown.lt b h'.symm).2; omega)
            have hnb := new_bel wr (.cells #[.slice al t cl] 40)
            have hown5 := hownA.keep hnb
            have kO5 := kO2.keep hnb
            have x1 := kO5.cell 1 rfl
            have y1 := kO2.cell 1 rfl
            have hB5 := bel_then hbel2 hnb
            have hB6 : Below u1.heap.size u1 (wr.alloc (.cells #[.slice al t cl] 40)) := hbel.trans (hB5.mono (by omega))
            have hs5 : (u1.heap.size + 1) ≤ (wr.alloc (.cells #[.slice al t cl] 40)).heap.size := by have := hB5.size; omega
            have hk5 : (M.take i).length + 1 = i + 1 := by rw [HML.out]
            have hk6 : (M.take i).length + 1 ≤ 100000 := by rw [HML.out]; omega
            have hcat := HST.out
            have hmx : ∀ a7 c7, Value.ownBlock (.slice a7 (i + 1) c7) = Value.ownBlock (.slice ao i co) ∨ Value.ownBlock (.slice a7 (i + 1) c7) = some (wr.alloc (.cells #[.slice al t cl] 40)).heap.size → Value.ownBlock (.slice a7 (i + 1) c7) ≠ some u1.heap.size := fun a7 c7 h9 e9 => by
              rcases h9 with h9 | h9
              · have := (hown.lt u1.heap.size (h9.symm.trans e9)).1
                omega
              · have h8 := Option.some.inj (h9.symm.trans e9)
                have := hB5.size
                omega
            have HMX : Hid _ := hmx
            clear hrow hown2 hownA kO2 hmx
            generalize M.getD i [] = ME at *
            generalize M.take i = MA at *
            obtain ⟨MB, HMB⟩ : ∃ MB, Hid (M.take (i + 1) = MB) := ⟨_, rfl⟩
            rw [HMB.out] at hcat
            go_wp2_with (at_builtin; refine wpList_appK (inS rowS (u1.heap.size + 1 ≤ ·)) (by simp [Region.wanted]) (.tmp 110) (.tmp 112) 22 rfl (u1.heap.size + 1) 40 i0 (.slice none 0 0) 24 Try.underlying22 hi0 hi1 hi2 hi3 rfl Nat.one_pos (by omega) (by rfl) hown5 (by rfl) hsrc hoff hk6 hs5 (i + 1) hk5 MB hcat ?_; intro a7 c7 u7 ho7 hg7 hb7 hat7; have kx7 := kO5.grown hg7 (fun e9 => absurd ((hown5.lt _ e9.symm).1) (by omega)); have w1 := kx7.cell 1 rfl; have g1 := kx7.free 1)
            go_roundw
            case rel => exact ⟨i + 1, a7, c7, by omega, by go_num, (Box.setB1 kx7 _), by rw [HMB.out]; exact ho7.aside (grown_set _ _ _ _) (fun b (hb9 : u1.heap.size + 1 ≤ b) => by omega) (HMX.out a7 c7 hat7), bel_put (hB6.trans (hb7.mono (by omega))) (Nat.le_refl _) _⟩
            case measure => simp [intOf]; omega
      · have hin : i = n := by omega
        subst hin
        have hli : ¬ (i : Int) < (i : Int) := by omega
        have HA1 : M.take i = M := List.take_of_length_le (by rw [HLM.out]; omega)
        rw [HA1] at hown
        have kr2 := kr1.keep hbel
        have n0 := kO.cell 0 rfl
        have n1 := kO.cell 1 rfl
        have z0 := kr2.cell 0 rfl
        have z1 := kr2.cell 1 rfl
        have f0 := kr2.free 0
        have f1 := kr2.free 1
        have HB9 : Hid (Below w.heap.size w wr) := bel_then hB1 hbel
        have HRP : Hid (matS.rep ((wr.setCell ⟨w.heap.size + 1, 0, none⟩ (.int .i64 (e + 1))).setCell ⟨w.heap.size + 1, 1, none⟩ (.slice ao i co)) (u1.heap.size + 1 ≤ ·) [.slice ao i co] M) := Shape.all2 (hown.among (Q := (u1.heap.size + 1 ≤ ·)) (fun b hb => hb) (fun b hb _ _ => hb)) (fun b (hb9 : u1.heap.size + 1 ≤ b) _ => by omega) _ _
        clear hown HA1
        go_wp2
        refine ret_var Try.underlying27 Try.infoRMap rfl rfl rfl rfl (kr2.all2 _ _) rfl ?_
        exact ⟨bel_all2 HB9.out (by omega) _ _, ao, co, rfl, Shape.any HRP.out⟩

  | true =>
    go_enter Try.func13, Try.ntmps13
    go_wp2_with fail
    generalize (w.alloc (.cells #[.int .i64 e, .slice a n c] 27)).alloc (.cells #[.int .i64 0, .slice none 0 0] 27) = W at *
    refine HC.out.mono ?_
    rintro r u1 ⟨hs1, hb1⟩
    have kp1 := kp.keep hb1
    have kr1 := kr.keep hb1
    have hB1 := bel_then hB hb1
    clear HC c0 c1 kp kr hB hb1
    have c0 := kp1.cell 0 rfl
    have c1 := kp1.cell 1 rfl
    have z0 := kr1.cell 0 rfl
    have z1 := kr1.cell 1 rfl
    have f0 := kr1.free 0
    have f1 := kr1.free 1
    rw [hs1.is HR.out]
    obtain ⟨b0, off, A, C, rfl, hbl, hc, hr⟩ := mat_at (Shape.below HM.out hB1) hkn
    have HH : Hid (Calls _ _ _ _ _) := qhas A _ C (m.getD k []) y u1 (Row.of_rep hr) (HS.out.sized.2 _ (Mx.getD_mem m k (by have := HL.out; omega)))
    obtain ⟨q, hqq⟩ : ∃ q, (m.getD k []).length = q := ⟨_, rfl⟩
    have HQQ : Hid ((m.getD k []).length = q) := hqq
    rw [hqq] at hc HH
    clear hqq hr hs1
    have h9 := HI.out
    simp only [Bool.not_true] at h9
    rw [h9] at HH
    clear h9
    try (have eb : ((q : Int) == 1) = false := (by have := HO.out (by trivial); have := HQQ.out; simp; omega))
    go_wp2_with fail
    refine HH.out.mono ?_
    rintro r u2 ⟨rfl, hV9⟩
    replace hV9 := hV9.symm
    subst hV9
    clear HH hc
    have hOr := kr1.lt
    have kO := Box.new u1 27 #[.int .i64 (e + 1), .slice none 0 0]
    have hbO : Below u1.heap.size u1 (u1.alloc (.cells #[.int .i64 (e + 1), .slice none 0 0] 27)) := new_bel u1 _
    go_wp2
    clear z0 z1 f0 f1 c0 c1
    go_loopw [13] (fun iv wr => ∃ (i : Nat) (ao : Option Addr) (co : Nat), i ≤ n ∧ iv = .int .i64 i ∧ Box wr u1.heap.size 27 #[.int .i64 (e + 1), .slice ao i co] ∧ Own (inS rowS (u1.heap.size + 1 ≤ ·)) wr (u1.heap.size + 1) 40 (.slice ao i co) (M.take i) ∧ Below u1.heap.size u1 wr) (fun iv _ => n - (intOf iv).toNat)
    case atStart => exact ⟨0, none, 0, Nat.zero_le _, rfl, kO, Own.nil _ _ _ _, hbO⟩
    case round =>
      clear kO hbO
      obtain ⟨i, ao, co, hi, rfl, kO, hown, hbel⟩ := hrel
      have kp2 := kp1.keep hbel
      have c0 := kp2.cell 0 rfl
      have c1 := kp2.cell 1 rfl
      by_cases hlt : i < n
      · have hli : (i : Int) < (n : Int) := by omega
        have hi0' : (0 : Int) ≤ (i : Int) := by omega
        have HML : Hid ((M.take i).length = i) := by show _ = _; rw [List.length_take, HLM.out]; omega
        have HST : Hid (M.take i ++ [M.getD i []] = M.take (i + 1)) := (Mx.take_row M i (by have := HLM.out; omega)).symm
        obtain ⟨b1, o1, A1, C1, he, _, hc1, hr1⟩ := mat_at (Shape.below HM.out (bel_then hB1 hbel)) hlt
        have e9 := Option.some.inj he
        injection e9 with e2 e3 e4
        subst e2; subst e3
        have hqz := HS.out.sized.2 _ (Mx.getD_mem m i (by have := HL.out; omega))
        have HROW : Hid (Row .i64 wr A1 (m.getD i []).length (m.getD i [])) := Row.of_rep hr1
        have HTI : Hid (Pl.some4 i (k : Int) y _ (m.getD i []) 4 = M.getD i []) := HT.out i hlt
        have hXlt := kO.lt
        clear he hr1 e4
        generalize m.getD i [] = l at *
        obtain ⟨ql, hql⟩ : ∃ ql, l.length = ql := ⟨_, rfl⟩
        rw [hql] at hc1 HROW hqz
        clear hql
        obtain ⟨W0, hW0⟩ : ∃ W0, W0 = wr := ⟨_, rfl⟩
        subst hW0
        go_wp2
        go_loopw [14, 15] (fun kv nv wr => ∃ (p t : Nat) (al : Option Addr) (cl : Nat), (1 ≤ p ∧ p ≤ 5) ∧ nv = .int .i64 p ∧ kv = .slice al t cl ∧ Hid ((Pl.some4 i (k : Int) y true l (p - 1)).length = t) ∧ Own (intS .i64) wr W0.heap.size 3 (.slice al t cl) (Pl.some4 i (k : Int) y true l (p - 1)) ∧ Below W0.heap.size W0 wr) (fun _ nv _ => 5 - (intOf nv).toNat)
        case atStart => exact ⟨1, 0, none, 0, ⟨Nat.le_refl _, by omega⟩, rfl, rfl, rfl, Own.nil _ _ _ _, Below.refl _ _⟩
        case round =>
          clear c0 c1
          obtain ⟨p, t, al, cl, hp, rfl, rfl, HLT, hown2, hbel2⟩ := hrel
          have kp3 := kp2.keep hbel2
          have c0 := kp3.cell 0 rfl
          have c1 := kp3.cell 1 rfl
          have hc2 := (hbel2.cell (World.block_lt_of_cell? _ _ hc1)).trans hc1
          by_cases hp5 : p < 5
          · have hpi : (p : Int) < 5 := by omega
            obtain ⟨v, hv⟩ : ∃ v, l.contains (p : Int) = v := ⟨_, rfl⟩
            have HV0 := qhas A1 ql C1 l (p : Int) wr (HROW.out.keep hbel2) hqz
            rw [hv] at HV0
            have HV : Hid (Calls _ _ _ _ _) := HV0
            obtain ⟨B, hcd, hw⟩ := Pl.cand_ways i k p y true v l hv
            have HCD : Hid (Pl.cand i (k : Int) y true l (p : Int) = B) := hcd
            have ht4 : t ≤ 4 := by rw [← HLT.out]; exact Pl.some4_len
            clear hv HV0 hcd
            cases B with
            | false =>
              have HN := Pl.some4_skip hp.1 (by omega) HCD.out
              rw [HN] at HLT hown2
              clear HN HCD
              rcases hw with ⟨e1, e2, e3⟩ | ⟨e1, e2, e3⟩ | ⟨e1, e3⟩
              all_goals cases e3
              all_goals
                go_wp2_with fail
                refine HV.out.mono ?_
                rintro r u4 ⟨rfl, rfl⟩
                go_wp2
                go_roundw
                case rel => exact ⟨p + 1, t, al, cl, ⟨by omega, by omega⟩, by go_num, rfl, HLT.out, hown2, hbel2⟩
                case measure => simp [intOf]; omega
            | true =>
              have hcat := Pl.some4_next hp.1 (by omega) HCD.out
              obtain ⟨hsrc, hoff⟩ := Own.esrc (F := fun _ => False) (cs := [.int .i64 (p : Int)]) (x := (p : Int)) hown2 rfl (fun _ h => h.elim)
              have hown5 := hown2.keep (new_bel wr (.cells #[.int .i64 (p : Int)] 3))
              have hB5 := bel_then hbel2 (new_bel wr (.cells #[.int .i64 (p : Int)] 3))
              have hs5 : W0.heap.size ≤ (wr.alloc (.cells #[.int .i64 (p : Int)] 3)).heap.size := hB5.size
              have hk5 : (Pl.some4 i (k : Int) y true l (p - 1)).length + 1 = t + 1 := by rw [HLT.out]
              have hk6 : (Pl.some4 i (k : Int) y true l (p - 1)).length + 1 ≤ 100000 := by rw [HLT.out]; omega
              have HLN : Hid ((Pl.some4 i (k : Int) y true l (p + 1 - 1)).length = t + 1) := by show _ = _; rw [← hcat, List.length_append, HLT.out]; rfl
              clear hown2 HCD
              generalize Pl.some4 i (k : Int) y true l (p - 1) = L at *
              obtain ⟨L2, HL2⟩ : ∃ L2, Hid (Pl.some4 i (k : Int) y true l (p + 1 - 1) = L2) := ⟨_, rfl⟩
              rw [HL2.out] at hcat HLN
              rcases hw with ⟨e1, e2, e3⟩ | ⟨e1, e2, e3⟩ | ⟨e1, e3⟩
              all_goals cases e3
              all_goals
                go_wp2_with fail
                refine HV.out.mono ?_
                rintro r u4 ⟨rfl, rfl⟩
                go_wp2_with (at_builtin; refine wpList_appK (intS .i64) (by simp [Region.wanted]) (.tmp 105) (.tmp 107) 40 rfl W0.heap.size 3 j0 (.int .i64 0) 8 Try.underlying40 hj0 hj1 hj2 hj3 rfl Nat.one_pos (by omega) (by rfl) hown5 (by rfl) hsrc hoff hk6 hs5 (t + 1) hk5 L2 hcat ?_; intro a7 c7 u7 ho7 hg7 hb7 hat7)
                go_roundw
                case rel => exact ⟨p + 1, t + 1, a7, c7, ⟨by omega, by omega⟩, by go_num, rfl, by show _ = _; rw [HL2.out]; exact HLN.out, by rw [HL2.out]; exact ho7, hB5.trans hb7⟩
                case measure => simp [intOf]; omega
          · have hp9 : p = 5 := by omega
            subst hp9
            rw [show 5 - 1 = 4 by omega, HTI.out] at hown2 HLT
            have kO2 := kO.keep hbel2
            have hownA := hown.keep hbel2
            have hrow := Own.high hown2
            obtain ⟨hsrc, hoff⟩ := Own.esrc (A := inS rowS (u1.heap.size + 1 ≤ ·)) (F := (W0.heap.size ≤ ·)) (cs := [.slice al t cl]) hownA (inS_of hrow fun b (hb : W0.heap.size ≤ b) => show u1.heap.size + 1 ≤ b by omega) (fun b (hb : W0.heap.size ≤ b) h' => by have := (hown.lt b h'.symm).2; omega)
            have hnb := new_bel wr (.cells #[.slice al t cl] 40)
            have hown5 := hownA.keep hnb
            have kO5 := kO2.keep hnb
            have x1 := kO5.cell 1 rfl
            have y1 := kO2.cell 1 rfl
            have hB5 := bel_then hbel2 hnb
            have hB6 : Below u1.heap.size u1 (wr.alloc (.cells #[.slice al t cl] 40)) := hbel.trans (hB5.mono (by omega))
            have hs5 : (u1.heap.size + 1) ≤ (wr.alloc (.cells #[.slice al t cl] 40)).heap.size := by have := hB5.size; omega
            have hk5 : (M.take i).length + 1 = i + 1 := by rw [HML.out]
            have hk6 : (M.take i).length + 1 ≤ 100000 := by rw [HML.out]; omega
            have hcat := HST.out
            have hmx : ∀ a7 c7, Value.ownBlock (.slice a7 (i + 1) c7) = Value.ownBlock (.slice ao i co) ∨ Value.ownBlock (.slice a7 (i + 1) c7) = some (wr.alloc (.cells #[.slice al t cl] 40)).heap.size → Value.ownBlock (.slice a7 (i + 1) c7) ≠ some u1.heap.size := fun a7 c7 h9 e9 => by
              rcases h9 with h9 | h9
              · have := (hown.lt u1.heap.size (h9.symm.trans e9)).1
                omega
              · have h8 := Option.some.inj (h9.symm.trans e9)
                have := hB5.size
                omega
            have HMX : Hid _ := hmx
            clear hrow hown2 hownA kO2 hmx
            generalize M.getD i [] = ME at *
            generalize M.take i = MA at *
            obtain ⟨MB, HMB⟩ : ∃ MB, Hid (M.take (i + 1) = MB) := ⟨_, rfl⟩
            rw [HMB.out] at hcat
            go_wp2_with (at_builtin; refine wpList_appK (inS rowS (u1.heap.size + 1 ≤ ·)) (by simp [Region.wanted]) (.tmp 110) (.tmp 112) 22 rfl (u1.heap.size + 1) 40 i0 (.slice none 0 0) 24 Try.underlying22 hi0 hi1 hi2 hi3 rfl Nat.one_pos (by omega) (by rfl) hown5 (by rfl) hsrc hoff hk6 hs5 (i + 1) hk5 MB hcat ?_; intro a7 c7 u7 ho7 hg7 hb7 hat7; have kx7 := kO5.grown hg7 (fun e9 => absurd ((hown5.lt _ e9.symm).1) (by omega)); have w1 := kx7.cell 1 rfl; have g1 := kx7.free 1)
            go_roundw
            case rel => exact ⟨i + 1, a7, c7, by omega, by go_num, (Box.setB1 kx7 _), by rw [HMB.out]; exact ho7.aside (grown_set _ _ _ _) (fun b (hb9 : u1.heap.size + 1 ≤ b) => by omega) (HMX.out a7 c7 hat7), bel_put (hB6.trans (hb7.mono (by omega))) (Nat.le_refl _) _⟩
            case measure => simp [intOf]; omega
      · have hin : i = n := by omega
        subst hin
        have hli : ¬ (i : Int) < (i : Int) := by omega
        have HA1 : M.take i = M := List.take_of_length_le (by rw [HLM.out]; omega)
        rw [HA1] at hown
        have kr2 := kr1.keep hbel
        have n0 := kO.cell 0 rfl
        have n1 := kO.cell 1 rfl
        have z0 := kr2.cell 0 rfl
        have z1 := kr2.cell 1 rfl
        have f0 := kr2.free 0
        have f1 := kr2.free 1
        have HB9 : Hid (Below w.heap.size w wr) := bel_then hB1 hbel
        have HRP : Hid (matS.rep ((wr.setCell ⟨w.heap.size + 1, 0, none⟩ (.int .i64 (e + 1))).setCell ⟨w.heap.size + 1, 1, none⟩ (.slice ao i co)) (u1.heap.size + 1 ≤ ·) [.slice ao i co] M) := Shape.all2 (hown.among (Q := (u1.heap.size + 1 ≤ ·)) (fun b hb => hb) (fun b hb _ _ => hb)) (fun b (hb9 : u1.heap.size + 1 ≤ b) _ => by omega) _ _
        clear hown HA1
        go_wp2
        refine ret_var Try.underlying27 Try.infoRMap rfl rfl rfl rfl (kr2.all2 _ _) rfl ?_
        exact ⟨bel_all2 HB9.out (by omega) _ _, ao, co, rfl, Shape.any HRP.out⟩

end Go.Proofs.Ytpiakfdapobflaa
