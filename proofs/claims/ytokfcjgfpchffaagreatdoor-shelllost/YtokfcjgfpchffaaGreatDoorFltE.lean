/- What send, take, Drop, Twice, Bag, Done, Worked, Add and Retire of package fleet do when called. -/
import Derived.Test.YtokfcjgfpchffaaGreatDoorFltB
import Derived.Test.YtokfcjgfpchffaaGreatDoorFltC
import Derived.Test.YtokfcjgfpchffaaGreatDoorKf
import Derived.Test.YtokfcjgfpchffaaGreatDoorJk
import Derived.Test.YtokfcjgfpchffaaGreatDoorJg
import Derived.Test.YtokfcjgfpchffaaGreatDoorKi
import Derived.Test.YtokfcjgfpchffaaGreatDoorPlcC
import Derived.Test.YtokfcjgfpchffaaGreatDoorPlcD
namespace Go.Proofs.YtokfcjgfpchffaaGreatDoor
open Go.ChangeShapes Go.WideShapes Go.ChangeAt Go.RowKit


/-! ### The bag's functions over messages -/
theorem fbput (a : Option Addr) (n c : Nat) (b : List Wx.Msg) (m : Wx.Msg) (w : World) (ha : bagS.rep w everywhere [.slice a n c] (b.map enc)) (hb : b.length ≤ 200) :
    Calls Tryz.prog 100 #[.slice a n c, .string (enc m)] w fun e w' => Below w.heap.size w w' ∧ ∃ a' n' c', e = .returned (.slice a' n' c') ∧ bagS.rep w' (w.heap.size ≤ ·) [.slice a' n' c'] ((Ft.put b m).map enc) := by
  have hl := (sliceS_len ha).1
  rw [List.length_map] at hl
  refine (bputH a n c (b.map enc) (enc m) w ha (by omega)).mono fun _ _ ⟨h1, a', c', h2, h3⟩ => ⟨h1, a', _, c', h2, ?_⟩
  rw [put_enc] at h3
  rw [put_enc]
  exact h3
theorem fbtake (a : Option Addr) (n c : Nat) (b : List Wx.Msg) (k : Nat) (m : Wx.Msg) (w : World) (ha : bagS.rep w everywhere [.slice a n c] (b.map enc)) (hb : b.length ≤ 200) (hk : k < b.length) (hm : b.getD k Wx.zero = m) :
    Calls Tryz.prog 55 #[.slice a n c, .int .i64 k] w fun e w' => Below w.heap.size w w' ∧ ∃ a' n' c', e = .returned (.tuple #[.string (enc m), .slice a' n' c', .bool true]) ∧ bagS.rep w' (w.heap.size ≤ ·) [.slice a' n' c'] ((b.eraseIdx k).map enc) := by
  have hl := (sliceS_len ha).1
  rw [List.length_map] at hl
  refine (btake_inH a n c (b.map enc) k w ha (by omega) (by omega)).mono fun _ _ ⟨h1, a', c', h2, h3⟩ => ⟨h1, a', n - 1, c', ?_, ?_⟩
  · rw [h2, get_enc b hk Wx.zero, hm]
  · rw [without_enc] at h3
    exact h3
theorem fbtwice (a : Option Addr) (n c : Nat) (b : List Wx.Msg) (k : Nat) (w : World) (ha : bagS.rep w everywhere [.slice a n c] (b.map enc)) (hb : b.length ≤ 200) (hk : k < b.length) :
    Calls Tryz.prog 56 #[.slice a n c, .int .i64 k] w fun e w' => Below w.heap.size w w' ∧ ∃ a' n' c', e = .returned (.slice a' n' c') ∧ bagS.rep w' (w.heap.size ≤ ·) [.slice a' n' c'] ((Ft.put b (b.getD k Wx.zero)).map enc) := by
  have hl := (sliceS_len ha).1
  rw [List.length_map] at hl
  refine (btwice_inH a n c (b.map enc) k w ha (by omega) (by omega)).mono fun _ _ ⟨h1, a', c', h2, h3⟩ => ⟨h1, a', _, c', h2, ?_⟩
  rw [get_enc b hk Wx.zero, put_enc] at h3
  rw [get_enc b hk Wx.zero, put_enc]
  exact h3
set_option maxRecDepth 100000 in
set_option maxHeartbeats 1000000 in
theorem fcloneT {P : Nat → Prop} (a : Option Addr) (n c : Nat) (l : List ByteArray) (w : World) (h : (sliceS strS).rep w P [.slice a n c] l) (hP : ∀ b, P b → b < w.heap.size) (hn : n ≤ 1000) :
    Calls Tryz.prog 59 #[.slice a n c] w fun e w' => Below w.heap.size w w' ∧ ∃ a' c', e = .returned (.slice a' n c') ∧ Own (inS strS P) w' w.heap.size 9 (.slice a' n c') l := by
  obtain ⟨i0, hi0, hi1, hi2, hi3⟩ := info_parts Tryz.infoText
  have q22 : ∀ (w : World) (a : Option Addr) (n c n' c' : Nat), (binOp .eql 24 (.slice a n c) (.slice none n' c')).run Tryz.prog w = .ok (.bool a.isNone) w := fun w a n c n' c' => Lib.run_eql_slice_nil w _ _ a n c n' c' Tryz.underlying24
  cases a with
  | none =>
    obtain ⟨rfl, rfl⟩ := slice_nil h (Nat.succ_pos _)
    clear h
    go_enter Tryz.func59, Tryz.ntmps59
    go_wp2
    go_ret
    exact ⟨Below.refl _ _, none, 0, rfl, Own.nil _ _ _ _⟩
  | some ad =>
    have hr0 : (sliceS (inS strS P)).rep w P [.slice (some ad) n c] l := by
      obtain ⟨a1, c1, css, h1, h2, h3, h4, h5⟩ := h
      exact ⟨a1, c1, css, h1, h2, h3, ⟨h4.1, fun j cs x hc hx => h4.2 j cs x hc hx⟩, h5⟩
    have hr := Shape.below hr0 (new_bel w (.cells #[] 9))
    have HZ : Hid (([] : List ByteArray).length + n = n) := Nat.zero_add n
    have ho : Own (inS strS P) (w.alloc (.cells #[] 9)) w.heap.size 9 (.slice (some ⟨w.heap.size, 0, none⟩) 0 0) [] := Own.empty _ w _
    have hap : ∀ b, P b → some b ≠ Value.ownBlock (.slice (some ⟨w.heap.size, 0, none⟩) 0 0) := fun b hb => Own.apart ho (Nat.le_refl _) b (hP b hb)
    have hsm : ([] : List ByteArray).length + n ≤ 100000 := by rw [HZ.out]; omega
    have hsz : w.heap.size ≤ (w.alloc (.cells #[] 9)).heap.size := by simp
    clear h hr0
    go_enter Tryz.func59, Tryz.ntmps59
    go_wp2_with (at_builtin; (refine wpList_app (inS strS P) (by simp [Region.wanted]) (.tmp 5) (.tmp 6) 24 rfl w.heap.size 9 i0 (.string noText) 16 Tryz.underlying24 hi0 hi1 hi2 hi3 rfl (Nat.succ_pos _) (by omega) (by rfl) ho (by rfl) hr hap hsm hsz ?_; intro a4 c4 u4 ho4 hg4 hb4 hat4; rw [HZ.out] at ho4 ⊢))
    go_ret
    exact ⟨(new_bel w _).trans hb4, a4, c4, rfl, ho4⟩

section
variable {O V : Nat → Prop} {w : World} {p : Nat} {dim : Int} {ms : List Ly} {s : Ft.St} {q : List Pt}
/-! ### send -/
set_option maxRecDepth 100000 in
theorem fsendR (H : FlAt O V w p dim ms s q) (x0 x1 x2 x3 x4 x5 x6 x7 x8 x9 : Int) (xa : Option Addr) (xn xc : Nat) (l : List Int) (hr : rowS.rep w everywhere [.slice xa xn xc] l) (m : Wx.Msg) (hm : m = ⟨x0, x1, x2, x3, x4, x5, x6, x7, x8, x9, l⟩) (hR : Wx.right m) (hf : s.bag.length ≤ 200) :
    Calls Tryz.prog 89 #[.pointer (some ⟨p, 0, none⟩), .agg #[.int .i64 x0, .int .i64 x1, .int .i64 x2, .int .i64 x3, .int .i64 x4, .int .i64 x5, .int .i64 x6, .int .i64 x7, .int .i64 x8, .int .i64 x9, .slice xa xn xc]] w fun e w' => e = .returned (.tuple #[]) ∧ ∃ u f' n' c', w' = u.setCell ⟨p, 8, none⟩ (.slice f' n' c') ∧ Below w.heap.size w u ∧ bagS.rep u (Out O V) [.slice f' n' c'] ((Ft.put s.bag m).map enc) := by
  obtain ⟨la, ln, lc, ha, hn, hc, a0, n0, c0, a1, n1, c1, a2, n2, c2, a3, n3, c3, fa, fn, fc, ta, tn, tc, qa, qn, qc, aa, an, ac, hO⟩ := H.on
  have hB := new_bel w (.cells #[.int .i64 x0, .int .i64 x1, .int .i64 x2, .int .i64 x3, .int .i64 x4, .int .i64 x5, .int .i64 x6, .int .i64 x7, .int .i64 x8, .int .i64 x9, .slice xa xn xc] 100)
  have kx := Box.new w 100 #[.int .i64 x0, .int .i64 x1, .int .i64 x2, .int .i64 x3, .int .i64 x4, .int .i64 x5, .int .i64 x6, .int .i64 x7, .int .i64 x8, .int .i64 x9, .slice xa xn xc]
  have hw0 := wput x0 x1 x2 x3 x4 x5 x6 x7 x8 x9 xa xn xc l (w.alloc (.cells #[.int .i64 x0, .int .i64 x1, .int .i64 x2, .int .i64 x3, .int .i64 x4, .int .i64 x5, .int .i64 x6, .int .i64 x7, .int .i64 x8, .int .i64 x9, .slice xa xn xc] 100)) (Row.of_rep (Shape.below hr hB))
  rw [← hm, show putS m = enc m from putS_yes hR] at hw0
  have HW : Hid (Calls _ _ _ _ _) := hw0
  have HF : Hid (s.bag.length ≤ 200) := hf
  have hO1 := hO.keep hB
  clear hw0 hr hm hR hf H hO
  go_enter Tryz.func89, Tryz.ntmps89
  go_upto_region 1 with fail
  generalize w.alloc (.cells #[.int .i64 x0, .int .i64 x1, .int .i64 x2, .int .i64 x3, .int .i64 x4, .int .i64 x5, .int .i64 x6, .int .i64 x7, .int .i64 x8, .int .i64 x9, .slice xa xn xc] 100) = W at *
  have d0 := kx.cell 0 rfl
  have d1 := kx.cell 1 rfl
  have d2 := kx.cell 2 rfl
  have d3 := kx.cell 3 rfl
  have d4 := kx.cell 4 rfl
  have d5 := kx.cell 5 rfl
  have d6 := kx.cell 6 rfl
  have d7 := kx.cell 7 rfl
  have d8 := kx.cell 8 rfl
  have d9 := kx.cell 9 rfl
  have d10 := kx.cell 10 rfl
  go_wp2_with fail
  refine HW.out.mono ?_
  rintro e u1 ⟨rfl, hb1⟩
  have hO2 := hO1.keep hb1
  have hB1 := bel_then hB hb1
  have HP : Hid (Calls _ _ _ _ _) := fbput fa fn fc s.bag m u1 (Shape.any hO2.r.f) HF.out
  have x8 := hO2.box.cell 8 rfl
  clear d0 d1 d2 d3 d4 d5 d6 d7 d8 d9 d10 kx hB hb1 hO1 HW
  go_wp2_with (go_at_call 100; refine HP.out.mono ?_; rintro e u2 ⟨hb2, f', n', c', rfl, hr2⟩; have hO3 := hO2.keep hb2; have y8 := hO3.box.cell 8 rfl; have f8 := hO3.box.free 8)
  go_end0
  exact ⟨rfl, u2, f', n', c', rfl, bel_then hB1 hb2, out_new hO2.r hr2⟩

theorem fsend (H : FlAt O V w p dim ms s q) (x0 x1 x2 x3 x4 x5 x6 x7 x8 x9 : Int) (xa : Option Addr) (xn xc : Nat) (l : List Int) (hr : rowS.rep w everywhere [.slice xa xn xc] l) (m : Wx.Msg) (hm : m = ⟨x0, x1, x2, x3, x4, x5, x6, x7, x8, x9, l⟩) (hR : Wx.right m) (hf : s.bag.length ≤ 200) :
    Calls Tryz.prog 89 #[.pointer (some ⟨p, 0, none⟩), .agg #[.int .i64 x0, .int .i64 x1, .int .i64 x2, .int .i64 x3, .int .i64 x4, .int .i64 x5, .int .i64 x6, .int .i64 x7, .int .i64 x8, .int .i64 x9, .slice xa xn xc]] w fun e w' => e = .returned (.tuple #[]) ∧ Mv V V w w' ∧ FlAt O V w' p dim ms { s with bag := Ft.put s.bag m } q := by
  obtain ⟨la, ln, lc, ha, hn, hc, a0, n0, c0, a1, n1, c1, a2, n2, c2, a3, n3, c3, fa, fn, fc, ta, tn, tc, qa, qn, qc, aa, an, ac, hO⟩ := H.on
  refine (fsendR H x0 x1 x2 x3 x4 x5 x6 x7 x8 x9 xa xn xc l hr m hm hR hf).mono ?_
  rintro e w' ⟨he, u, f', n', c', rfl, hb, h2⟩
  exact ⟨he, (Mv.of_bel hb).set (hO.keep hb).r.vp _, (hO.keep hb).bag h2⟩

/-! ### take, Drop, Twice -/
set_option maxRecDepth 100000 in
theorem ftake_in (H : FlAt O V w p dim ms s q) (hf : s.bag.length ≤ 200) (k : Nat) (hk : k < s.bag.length) (m : Wx.Msg) (hm : s.bag.getD k Wx.zero = m) :
    Calls Tryz.prog 51 #[.pointer (some ⟨p, 0, none⟩), .int .i64 (k : Int)] w fun e w' => e = .returned (.tuple #[.string (enc m), .int .i64 0]) ∧ Mv V V w w' ∧ FlAt O V w' p dim ms (Ft.drop s k) q := by
  obtain ⟨la, ln, lc, ha, hn, hc, a0, n0, c0, a1, n1, c1, a2, n2, c2, a3, n3, c3, fa, fn, fc, ta, tn, tc, qa, qn, qc, aa, an, ac, hO⟩ := H.on
  have HT : Hid (Calls _ _ _ _ _) := fbtake fa fn fc s.bag k m w (Shape.any hO.r.f) hf hk hm
  have x8 := hO.box.cell 8 rfl
  clear hf hk hm H
  go_enter Tryz.func51, Tryz.ntmps51
  go_wp2_with fail
  refine HT.out.mono ?_
  rintro e u1 ⟨hb1, f', n', c', rfl, hr1⟩
  have hO1 := hO.keep hb1
  have y8 := hO1.box.cell 8 rfl
  have f8 := hO1.box.free 8
  go_wp2
  go_ret2
  exact ⟨rfl, (Mv.of_bel hb1).set hO1.r.vp _, hO1.bag (out_new hO.r hr1)⟩
set_option maxRecDepth 100000 in
theorem ftake_out (H : FlAt O V w p dim ms s q) (hf : s.bag.length ≤ 200) (i : Int) (hi : ¬ (0 ≤ i ∧ i < (s.bag.length : Int))) :
    Calls Tryz.prog 51 #[.pointer (some ⟨p, 0, none⟩), .int .i64 i] w fun e w' => e = .returned (.tuple #[.string noText, .int .i64 4]) ∧ Below w.heap.size w w' := by
  obtain ⟨la, ln, lc, ha, hn, hc, a0, n0, c0, a1, n1, c1, a2, n2, c2, a3, n3, c3, fa, fn, fc, ta, tn, tc, qa, qn, qc, aa, an, ac, hO⟩ := H.on
  have hl := (sliceS_len hO.r.f).1
  rw [List.length_map] at hl
  have HT : Hid (Calls _ _ _ _ _) := btake_out fa fn fc (s.bag.map enc) i w (Shape.any hO.r.f) (by omega) (by rw [← hl]; exact hi)
  have x8 := hO.box.cell 8 rfl
  clear hf hi hl H
  go_enter Tryz.func51, Tryz.ntmps51
  go_wp2_with fail
  refine HT.out.mono ?_
  rintro e u1 ⟨hb1, f', c', rfl, hr1⟩
  go_wp2
  go_ret2
  exact ⟨rfl, hb1⟩
set_option maxRecDepth 100000 in
theorem fdrop_in (H : FlAt O V w p dim ms s q) (hf : s.bag.length ≤ 200) (k : Nat) (hk : k < s.bag.length) :
    Calls Tryz.prog 22 #[.pointer (some ⟨p, 0, none⟩), .int .i64 (k : Int)] w fun e w' => e = .returned (.int .i64 0) ∧ Mv V V w w' ∧ FlAt O V w' p dim ms (Ft.drop s k) q := by
  have HT : Hid (Calls _ _ _ _ _) := ftake_in H hf k hk _ rfl
  clear hf hk H
  go_enter Tryz.func22, Tryz.ntmps22
  go_wp2_with fail
  refine HT.out.mono ?_
  rintro e u1 ⟨rfl, hm1, hO1⟩
  go_wp2
  go_ret
  exact ⟨rfl, hm1, hO1⟩
set_option maxRecDepth 100000 in
theorem fdrop_out (H : FlAt O V w p dim ms s q) (hf : s.bag.length ≤ 200) (i : Int) (hi : ¬ (0 ≤ i ∧ i < (s.bag.length : Int))) :
    Calls Tryz.prog 22 #[.pointer (some ⟨p, 0, none⟩), .int .i64 i] w fun e w' => e = .returned (.int .i64 4) ∧ Below w.heap.size w w' := by
  have HT : Hid (Calls _ _ _ _ _) := ftake_out H hf i hi
  clear hf hi H
  go_enter Tryz.func22, Tryz.ntmps22
  go_wp2_with fail
  refine HT.out.mono ?_
  rintro e u1 ⟨rfl, hb1⟩
  go_wp2
  go_ret
  exact ⟨rfl, hb1⟩
set_option maxRecDepth 100000 in
theorem ftwice_in (H : FlAt O V w p dim ms s q) (hf : s.bag.length ≤ 200) (k : Nat) (hk : k < s.bag.length) :
    Calls Tryz.prog 23 #[.pointer (some ⟨p, 0, none⟩), .int .i64 (k : Int)] w fun e w' => e = .returned (.int .i64 0) ∧ Mv V V w w' ∧ FlAt O V w' p dim ms (Ft.twice s k) q := by
  obtain ⟨la, ln, lc, ha, hn, hc, a0, n0, c0, a1, n1, c1, a2, n2, c2, a3, n3, c3, fa, fn, fc, ta, tn, tc, qa, qn, qc, aa, an, ac, hO⟩ := H.on
  have HT : Hid (Calls _ _ _ _ _) := fbtake fa fn fc s.bag k _ w (Shape.any hO.r.f) hf hk rfl
  have HK : Hid (s.bag.length ≤ 200 ∧ k < s.bag.length) := ⟨hf, hk⟩
  have x8 := hO.box.cell 8 rfl
  clear hf hk H
  go_enter Tryz.func23, Tryz.ntmps23
  go_wp2_with fail
  refine HT.out.mono ?_
  rintro e u1 ⟨hb1, f', n', c', rfl, _⟩
  have hO1 := hO.keep hb1
  have HW : Hid (Calls _ _ _ _ _) := fbtwice fa fn fc s.bag k u1 (Shape.any hO1.r.f) HK.out.1 HK.out.2
  have y8 := hO1.box.cell 8 rfl
  clear x8 HT hO
  go_wp2_with (go_at_call 56; refine HW.out.mono ?_; rintro e u2 ⟨hb2, f'', n'', c'', rfl, hr2⟩; have hO2 := hO1.keep hb2; have z8 := hO2.box.cell 8 rfl; have f8 := hO2.box.free 8)
  go_ret
  refine ⟨rfl, (Mv.of_bel (bel_then hb1 hb2)).set hO2.r.vp _, ?_⟩
  have h9 := hO2.bag (out_new hO1.r hr2)
  unfold Ft.twice
  rw [if_pos HK.out.2]
  exact h9
set_option maxRecDepth 100000 in
theorem ftwice_out (H : FlAt O V w p dim ms s q) (hf : s.bag.length ≤ 200) (i : Int) (hi : ¬ (0 ≤ i ∧ i < (s.bag.length : Int))) :
    Calls Tryz.prog 23 #[.pointer (some ⟨p, 0, none⟩), .int .i64 i] w fun e w' => e = .returned (.int .i64 4) ∧ Below w.heap.size w w' := by
  obtain ⟨la, ln, lc, ha, hn, hc, a0, n0, c0, a1, n1, c1, a2, n2, c2, a3, n3, c3, fa, fn, fc, ta, tn, tc, qa, qn, qc, aa, an, ac, hO⟩ := H.on
  have hl := (sliceS_len hO.r.f).1
  rw [List.length_map] at hl
  have HT : Hid (Calls _ _ _ _ _) := btake_out fa fn fc (s.bag.map enc) i w (Shape.any hO.r.f) (by omega) (by rw [← hl]; exact hi)
  have x8 := hO.box.cell 8 rfl
  clear hf hi hl H
  go_enter Tryz.func23, Tryz.ntmps23
  go_wp2_with fail
  refine HT.out.mono ?_
  rintro e u1 ⟨hb1, f', c', rfl, hr1⟩
  go_wp2
  go_ret
  exact ⟨rfl, hb1⟩

/-! ### Bag, Done, Worked -/
set_option maxRecDepth 100000 in
theorem fbag (H : FlAt O V w p dim ms s q) (hf : s.bag.length ≤ 200) (k : Nat) (hk : s.bag.length = k) :
    Calls Tryz.prog 26 #[.pointer (some ⟨p, 0, none⟩)] w fun e w' => Below w.heap.size w w' ∧ ∃ a' c', e = .returned (.slice a' k c') ∧ bagS.rep w' (w.heap.size ≤ ·) [.slice a' k c'] (s.bag.map enc) := by
  obtain ⟨la, ln, lc, ha, hn, hc, a0, n0, c0, a1, n1, c1, a2, n2, c2, a3, n3, c3, fa, fn, fc, ta, tn, tc, qa, qn, qc, aa, an, ac, hO⟩ := H.on
  have hl := (sliceS_len hO.r.f).1
  rw [List.length_map] at hl
  obtain rfl : fn = k := by omega
  have HT : Hid (Calls _ _ _ _ _) := fcloneT fa fn fc (s.bag.map enc) w (Shape.low hO.r.f) (fun _ hb => hb) (by omega)
  have x8 := hO.box.cell 8 rfl
  clear hf hk hl H
  go_enter Tryz.func26, Tryz.ntmps26
  go_wp2_with fail
  refine HT.out.mono ?_
  rintro e u1 ⟨hb1, f', c', rfl, ho1⟩
  have hr : bagS.rep u1 (w.heap.size ≤ ·) [.slice f' fn c'] (s.bag.map enc) := by
    obtain ⟨css, h1, h2⟩ := ho1
    exact Own.texts_high ⟨css, h1, h2.1, fun j d x hd hx => h2.2 j d x hd hx⟩
  go_wp2
  go_ret
  exact ⟨hb1, f', c', rfl, hr⟩
set_option maxRecDepth 100000 in
theorem fdone_no (H : FlAt O V w p dim ms s q) (hl : s.lay ≠ ms.length) :
    Calls Tryz.prog 28 #[.pointer (some ⟨p, 0, none⟩)] w fun e w' => e = .returned (.tuple #[.slice none 0 0, .bool false]) ∧ Below w.heap.size w w' := by
  have HT : Hid (Calls _ _ _ _ _) := fisdone H false ⟨fun h => (by cases h), fun h => absurd h hl⟩
  clear hl H
  go_enter Tryz.func28, Tryz.ntmps28
  go_wp2_with fail
  refine HT.out.mono ?_
  rintro e u1 ⟨rfl, hb1⟩
  go_wp2
  go_ret2
  exact ⟨rfl, hb1⟩
set_option maxRecDepth 100000 in
theorem fdone_yes (H : FlAt O V w p dim ms s q) (hl : s.lay = ms.length) (hs : Pl.Short s.toks) (k : Nat) (hk : s.toks.length = k) :
    Calls Tryz.prog 28 #[.pointer (some ⟨p, 0, none⟩)] w fun e w' => Below w.heap.size w w' ∧ ∃ a' c', e = .returned (.tuple #[.slice a' k c', .bool true]) ∧ matS.rep w' everywhere [.slice a' k c'] s.toks := by
  have HT : Hid (Calls _ _ _ _ _) := fisdone H true ⟨fun _ => hl, fun _ => rfl⟩
  have HS : Hid (Pl.Short s.toks) := hs
  obtain ⟨la, ln, lc, ha, hn, hc, a0, n0, c0, a1, n1, c1, a2, n2, c2, a3, n3, c3, fa, fn, fc, ta, tn, tc, qa, qn, qc, aa, an, ac, hO⟩ := H.on
  have hlt := (sliceS_len hO.r.t).1
  obtain rfl : tn = k := by omega
  clear hl hs hk hlt H
  go_enter Tryz.func28, Tryz.ntmps28
  go_wp2_with fail
  refine HT.out.mono ?_
  rintro e u1 ⟨rfl, hb1⟩
  have hO1 := hO.keep hb1
  have HR : Hid (Calls _ _ _ _ _) := frows ta tn tc s.toks u1 (Shape.low hO1.r.t) (fun _ hb => hb) HS.out
  have x10 := hO1.box.cell 10 rfl
  clear HT hO
  go_wp2_with (go_at_call 46; refine HR.out.mono ?_; rintro e u2 ⟨hb2, t', c', rfl, hr2⟩; have hr3 := Shape.any hr2)
  go_ret2
  exact ⟨bel_then hb1 hb2, t', c', rfl, hr3⟩
theorem index4 (a0 : Option Addr) (n0 c0 : Nat) (a1 : Option Addr) (n1 c1 : Nat) (a2 : Option Addr) (n2 c2 : Nat) (a3 : Option Addr) (n3 c3 : Nat) (k : Nat) (hk : k < 4) (w : World) : ∃ a n c, (Instr.index 89 (.agg #[.slice a0 n0 c0, .slice a1 n1 c1, .slice a2 n2 c2, .slice a3 n3 c3]) (.int .i64 (k : Int))).run Tryz.prog w = .ok (.slice a n c) w ∧ n = [n0, n1, n2, n3].getD k 0 := by
  have i0 : ∀ w : World, (Instr.index 89 (.agg #[.slice a0 n0 c0, .slice a1 n1 c1, .slice a2 n2 c2, .slice a3 n3 c3]) (.int .i64 0)).run Tryz.prog w = .ok (.slice a0 n0 c0) w := fun _ => by kernel_rfl
  have i1 : ∀ w : World, (Instr.index 89 (.agg #[.slice a0 n0 c0, .slice a1 n1 c1, .slice a2 n2 c2, .slice a3 n3 c3]) (.int .i64 1)).run Tryz.prog w = .ok (.slice a1 n1 c1) w := fun _ => by kernel_rfl
  have i2 : ∀ w : World, (Instr.index 89 (.agg #[.slice a0 n0 c0, .slice a1 n1 c1, .slice a2 n2 c2, .slice a3 n3 c3]) (.int .i64 2)).run Tryz.prog w = .ok (.slice a2 n2 c2) w := fun _ => by kernel_rfl
  have i3 : ∀ w : World, (Instr.index 89 (.agg #[.slice a0 n0 c0, .slice a1 n1 c1, .slice a2 n2 c2, .slice a3 n3 c3]) (.int .i64 3)).run Tryz.prog w = .ok (.slice a3 n3 c3) w := fun _ => by kernel_rfl
  rcases (by omega : k = 0 ∨ k = 1 ∨ k = 2 ∨ k = 3) with rfl | rfl | rfl | rfl
  · exact ⟨_, _, _, i0 w, rfl⟩
  · exact ⟨_, _, _, i1 w, rfl⟩
  · exact ⟨_, _, _, i2 w, rfl⟩
  · exact ⟨_, _, _, i3 w, rfl⟩
set_option maxRecDepth 100000 in
theorem fworked (H : FlAt O V w p dim ms s q) (h4 : s.ls.length = 4) (hs : Ft.worked s ≤ 100000) :
    Calls Tryz.prog 27 #[.pointer (some ⟨p, 0, none⟩)] w fun e w' => e = .returned (.int .i64 (Ft.worked s : Nat)) ∧ Below w.heap.size w w' := by
  obtain ⟨la, ln, lc, ha, hn, hc, a0, n0, c0, a1, n1, c1, a2, n2, c2, a3, n3, c3, fa, fn, fc, ta, tn, tc, qa, qn, qc, aa, an, ac, hO⟩ := H.on
  have l0 := (sliceS_len hO.r.g0).1
  have l1 := (sliceS_len hO.r.g1).1
  have l2 := (sliceS_len hO.r.g2).1
  have l3 := (sliceS_len hO.r.g3).1
  have hw : Ft.worked s = ([n0, n1, n2, n3].take 4).sum := by
    unfold Ft.worked
    match hls : s.ls, h4 with
    | [k0, k1, k2, k3], _ =>
      rw [hls] at l0 l1 l2 l3
      have l0' : k0.length = n0 := l0
      have l1' : k1.length = n1 := l1
      have l2' : k2.length = n2 := l2
      have l3' : k3.length = n3 := l3
      simp [l0', l1', l2', l3']
  rw [hw] at hs ⊢
  have HS : Hid (∀ k, k ≤ 4 → ([n0, n1, n2, n3].take k).sum ≤ 100000) := by
    intro k hk
    have hs' : n0 + (n1 + (n2 + n3)) ≤ 100000 := by simpa using hs
    rcases (by omega : k = 0 ∨ k = 1 ∨ k = 2 ∨ k = 3 ∨ k = 4) with rfl | rfl | rfl | rfl | rfl <;> simp <;> omega
  have HT : Hid (∀ k, k < 4 → ([n0, n1, n2, n3].take (k + 1)).sum = ([n0, n1, n2, n3].take k).sum + [n0, n1, n2, n3].getD k 0) := by
    intro k hk
    rcases (by omega : k = 0 ∨ k = 1 ∨ k = 2 ∨ k = 3) with rfl | rfl | rfl | rfl <;> simp <;> omega
  have x4 := hO.box.cell 4 rfl
  have x5 := hO.box.cell 5 rfl
  have x6 := hO.box.cell 6 rfl
  have x7 := hO.box.cell 7 rfl
  clear hO l0 l1 l2 l3 hw hs H h4
  go_enter Tryz.func27, Tryz.ntmps27
  go_wp2
  go_loopw [3, 10] (fun m i wr => ∃ k : Nat, k ≤ 4 ∧ i = .int .i64 k ∧ m = .int .i64 (([n0, n1, n2, n3].take k).sum : Nat) ∧ wr = w) (fun _ i _ => 4 - (intOf i).toNat)
  case atStart => exact ⟨0, Nat.zero_le _, rfl, rfl, rfl⟩
  case round =>
    obtain ⟨k, hk, rfl, rfl, hww⟩ := hrel
    replace hww := hww.symm
    subst hww
    by_cases hlt : k < 4
    · obtain ⟨a, n, c, hix, hnn⟩ := index4 a0 n0 c0 a1 n1 c1 a2 n2 c2 a3 n3 c3 k hlt w
      have hli : (k : Int) < 4 := by omega
      have hk0 : (0 : Int) ≤ (k : Int) := by omega
      have HN : Hid (n = [n0, n1, n2, n3].getD k 0) := hnn
      have hle : ([n0, n1, n2, n3].take k).sum + n ≤ 100000 := by rw [hnn, ← HT.out k hlt]; exact HS.out _ (by omega)
      have HZ : Hid (([n0, n1, n2, n3].take (k + 1)).sum = ([n0, n1, n2, n3].take k).sum + n) := by show _ = _; rw [hnn]; exact HT.out k hlt
      clear hnn
      generalize ([n0, n1, n2, n3].take k).sum = z at *
      go_wp2
      go_roundw
      case rel => exact ⟨k + 1, by omega, by go_num, by rw [HZ.out]; simp, by trivial⟩
      case measure => simp [intOf]; omega
    · have hkn : k = 4 := by omega
      subst hkn
      have hli : ¬ ((4 : Nat) : Int) < 4 := by omega
      go_wp2
      go_ret
      exact ⟨rfl, Below.refl _ _⟩

/-! ### Add, Retire -/
set_option maxRecDepth 100000 in
theorem fladd (H : FlAt O V w p dim ms s q) (hs : Pl.Short s.h) (x y : Int) (E X : Int) (M : List (List Int)) (hA : Pl.Add s.e s.h x y E M X) :
    Calls Tryz.prog 24 #[.pointer (some ⟨p, 0, none⟩), .int .i64 x, .int .i64 y] w fun e w' => e = .returned (.int .i64 X) ∧ Mv V V w w' ∧ FlAt O V w' p dim ms { s with e := E, h := M } q := by
  obtain ⟨la, ln, lc, ha, hn, hc, a0, n0, c0, a1, n1, c1, a2, n2, c2, a3, n3, c3, fa, fn, fc, ta, tn, tc, qa, qn, qc, aa, an, ac, hO⟩ := H.on
  have HM : Hid (matS.rep w (fun b => Out O V b ∧ b < w.heap.size) [.slice ha hn hc] s.h) := matS.mono hO.r.h fun b hb hlt => ⟨hb, hlt⟩
  have HT : Hid (Calls _ _ _ _ _) := padd (fun b => Out O V b ∧ b < w.heap.size) s.e ha hn hc s.h x y w HM.out (fun b hb => hb.2) hs E X M hA
  have x2 := hO.box.cell 2 rfl
  have x3 := hO.box.cell 3 rfl
  have HR : Hid (FlReps O V w p ms s q la ln lc ha hn hc a0 n0 c0 a1 n1 c1 a2 n2 c2 a3 n3 c3 fa fn fc ta tn tc qa qn qc aa an ac) := hO.r
  clear hs hA H HM
  go_enter Tryz.func24, Tryz.ntmps24
  go_wp2_with fail
  refine HT.out.mono ?_
  rintro e u1 ⟨hb1, h', c', rfl, hr1⟩
  have hbn := new_bel u1 (.cells #[.int .i64 E, .slice h' hn c'] 50)
  have kn := Box.new u1 50 #[.int .i64 E, .slice h' hn c']
  have hO2 := (hO.keep hb1).keep hbn
  have hb2 := bel_then hb1 hbn
  have hr2 : matS.rep _ (Out O V) [.slice h' hn c'] M := Shape.below (matS.mono hr1 fun b hb _ => (hb.elim (fun h => h.1) (fun h => ⟨fun hv => by have := HR.out.lt b hv; have h7 : w.heap.size + 2 ≤ b := h; omega, fun ho => by have := HR.out.olt b ho; have h7 : w.heap.size + 2 ≤ b := h; omega⟩) : Out O V b)) hbn
  have y2 := hO2.box.cell 2 rfl
  have y3 := hO2.box.cell 3 rfl
  have f2 := hO2.box.free 2
  have f3 := hO2.box.free 3
  have z0 := kn.cell 0 rfl
  have z1 := kn.cell 1 rfl
  have HE : Hid _ := And.intro ((Mv.of_bel (V := V) hb2).set hO2.r.vp (i := 2) (.int .i64 E)) (hO2.map (e := E) hr2)
  have HV : Hid (V p) := hO2.r.vp
  clear hO HT hb1 hbn hr1 hr2 hO2 hb2 kn x2 x3
  go_wp2
  go_ret
  exact ⟨rfl, HE.out.1.set HV.out _, HE.out.2⟩
set_option maxRecDepth 100000 in
theorem flretire (H : FlAt O V w p dim ms s q) (hs : Pl.Short s.h) (x y : Int) (E X : Int) (M : List (List Int)) (hA : Pl.Ret s.e s.h x y E M X) :
    Calls Tryz.prog 25 #[.pointer (some ⟨p, 0, none⟩), .int .i64 x, .int .i64 y] w fun e w' => e = .returned (.int .i64 X) ∧ Mv V V w w' ∧ FlAt O V w' p dim ms { s with e := E, h := M } q := by
  obtain ⟨la, ln, lc, ha, hn, hc, a0, n0, c0, a1, n1, c1, a2, n2, c2, a3, n3, c3, fa, fn, fc, ta, tn, tc, qa, qn, qc, aa, an, ac, hO⟩ := H.on
  have HM : Hid (matS.rep w (fun b => Out O V b ∧ b < w.heap.size) [.slice ha hn hc] s.h) := matS.mono hO.r.h fun b hb hlt => ⟨hb, hlt⟩
  have HT : Hid (Calls _ _ _ _ _) := pretire (fun b => Out O V b ∧ b < w.heap.size) s.e ha hn hc s.h x y w HM.out (fun b hb => hb.2) hs E X M hA
  have x2 := hO.box.cell 2 rfl
  have x3 := hO.box.cell 3 rfl
  have HR : Hid (FlReps O V w p ms s q la ln lc ha hn hc a0 n0 c0 a1 n1 c1 a2 n2 c2 a3 n3 c3 fa fn fc ta tn tc qa qn qc aa an ac) := hO.r
  clear hs hA H HM
  go_enter Tryz.func25, Tryz.ntmps25
  go_wp2_with fail
  refine HT.out.mono ?_
  rintro e u1 ⟨hb1, h', c', rfl, hr1⟩
  have hbn := new_bel u1 (.cells #[.int .i64 E, .slice h' hn c'] 50)
  have kn := Box.new u1 50 #[.int .i64 E, .slice h' hn c']
  have hO2 := (hO.keep hb1).keep hbn
  have hb2 := bel_then hb1 hbn
  have hr2 : matS.rep _ (Out O V) [.slice h' hn c'] M := Shape.below (matS.mono hr1 fun b hb _ => (hb.elim (fun h => h.1) (fun h => ⟨fun hv => by have := HR.out.lt b hv; have h7 : w.heap.size + 2 ≤ b := h; omega, fun ho => by have := HR.out.olt b ho; have h7 : w.heap.size + 2 ≤ b := h; omega⟩) : Out O V b)) hbn
  have y2 := hO2.box.cell 2 rfl
  have y3 := hO2.box.cell 3 rfl
  have f2 := hO2.box.free 2
  have f3 := hO2.box.free 3
  have z0 := kn.cell 0 rfl
  have z1 := kn.cell 1 rfl
  have HE : Hid _ := And.intro ((Mv.of_bel (V := V) hb2).set hO2.r.vp (i := 2) (.int .i64 E)) (hO2.map (e := E) hr2)
  have HV : Hid (V p) := hO2.r.vp
  clear hO HT hb1 hbn hr1 hr2 hO2 hb2 kn x2 x3
  go_wp2
  go_ret
  exact ⟨rfl, HE.out.1.set HV.out _, HE.out.2⟩
end

end Go.Proofs.YtokfcjgfpchffaaGreatDoor
