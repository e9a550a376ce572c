/- 3 texts as one, in their order: LedA, LedB, LedC. -/
import Derived.Test.YtokfcjgfpchffaaGreatDoorKa
import Derived.Test.YtokfcjgfpchffaaGreatDoorKe
import Derived.Test.YtokfcjgfpchffaaGreatDoorKv
import Derived.Laws.StructEq

/- What ledger's place, the library's IndexFunc beneath it and the document's Find do when called. -/
namespace Go.Proofs.YtokfcjgfpchffaaGreatDoor
open Go.ChangeShapes Go.WideShapes Go.ChangeAt Go.RowKit

theorem Tryz.infoEntry : (Tryz.prog.info? 201).map (fun i => (i.zero, i.size, i.bytes)) = some (some (.agg #[.int .i64 0, .int .i64 0, .int .i64 0, .int .i64 0, .slice none 0 0]), 5, 56) := by kernel_rfl
theorem key_bool {b : Bool} {p q r s p' q' r' s' : Int} (hb : b = true ↔ ky p q r s = ky p' q' r' s') : b = (p == p' && (q == q' && (r == r' && s == s'))) := by
  rw [ky_eq] at hb
  rw [Bool.eq_iff_iff, hb]
  simp
theorem eqKeyIn {b : Bool} {p q r s p' q' r' s' : Int} (hb : b = true ↔ ky p q r s = ky p' q' r' s') (w : World) : (Op.equalIn 10000 199 (.agg #[.int .i64 p, .int .i64 q, .int .i64 r, .int .i64 s]) (.agg #[.int .i64 p', .int .i64 q', .int .i64 r', .int .i64 s'])).run Tryz.prog w = .ok b w := by
  rw [key_bool hb]
  have u3 := Tryz.underlying3
  have a3 := Tryz.isAgg3
  have z3 := Tryz.sizeOf3
  have hS : Tryz.prog.underlying 199 = some (.struct (Tryz.prog.fieldsOf 199)) := by kernel_rfl
  have hp : Tryz.prog.stoodInHeld 199 = false := by kernel_rfl
  rw [show (10000 : Nat) = 9999 + 1 from rfl, run_equalIn_agg w 9999 199 _ _ hS hp]
  simp only [Program.fieldsOf, Tryz.underlying199]
  go_simp
  by_cases h1 : p = p' <;> by_cases h2 : q = q' <;> by_cases h3 : r = r' <;> by_cases h4 : s = s' <;> simp [h1, h2, h3, h4]
theorem eqKey {b : Bool} {p q r s p' q' r' s' : Int} (hb : b = true ↔ ky p q r s = ky p' q' r' s') (w : World) : (binOp .eql 199 (.agg #[.int .i64 p, .int .i64 q, .int .i64 r, .int .i64 s]) (.agg #[.int .i64 p', .int .i64 q', .int .i64 r', .int .i64 s'])).run Tryz.prog w = .ok (.bool b) w := by
  rw [run_eql_struct, eqKeyIn hb]
  rfl
set_option maxRecDepth 100000 in
set_option maxHeartbeats 1000000 in
theorem isplace (p q r s p' q' r' s' : Int) (A : Option Addr) (nv C B : Nat) (b : Bool) (hb : b = true ↔ ky p q r s = ky p' q' r' s') (w : World) (hB : Box w B 199 #[.int .i64 p', .int .i64 q', .int .i64 r', .int .i64 s']) :
    Calls Tryz.prog 200 #[.agg #[.int .i64 p, .int .i64 q, .int .i64 r, .int .i64 s, .slice A nv C], .pointer (some ⟨B, 0, none⟩)] w fun e w' => e = .returned (.bool b) ∧ Below w.heap.size w w' := by
  have c0 : ∀ o, (w.alloc o).cell? ⟨B, 0, none⟩ = some (.int .i64 p') := fun o => (hB.keep (new_bel w o)).cell 0 rfl
  have c1 : ∀ o, (w.alloc o).cell? ⟨B, 1, none⟩ = some (.int .i64 q') := fun o => (hB.keep (new_bel w o)).cell 1 rfl
  have c2 : ∀ o, (w.alloc o).cell? ⟨B, 2, none⟩ = some (.int .i64 r') := fun o => (hB.keep (new_bel w o)).cell 2 rfl
  have c3 : ∀ o, (w.alloc o).cell? ⟨B, 3, none⟩ = some (.int .i64 s') := fun o => (hB.keep (new_bel w o)).cell 3 rfl
  have e1 := eqKey hb
  have e2 := eqKeyIn hb
  clear hb hB
  go_enter Tryz.func200, Tryz.ntmps200
  go_wp2
  go_ret
  exact ⟨rfl, new_bel _ _⟩

set_option maxRecDepth 100000 in
set_option maxHeartbeats 1000000 in
theorem lindex (a : Option Addr) (n c : Nat) (l : List En) (p' q' r' s' : Int) (B : Nat) (x : Int) (w : World) (h : ensS.rep w everywhere [.slice a n c] l) (hn : n ≤ 1000) (hB : Box w B 199 #[.int .i64 p', .int .i64 q', .int .i64 r', .int .i64 s']) (hx : Dx.At l (ky p' q' r' s') x) :
    Calls Tryz.prog 199 #[.slice a n c, .func (.func 200) #[] #[.pointer (some ⟨B, 0, none⟩)]] w fun e w' => e = .returned (.int .i64 x) ∧ Below w.heap.size w w' := by
  have hA := Shape.low h
  have hlB : B < w.heap.size := hB.lt
  have HL : Hid (l.length = n) := (sliceS_len h).1
  have HX : Hid (Dx.At l (ky p' q' r' s') x) := hx
  have HB : Hid (Box w B 199 #[.int .i64 p', .int .i64 q', .int .i64 r', .int .i64 s']) := hB
  clear h hx hB
  go_enter Tryz.func199, Tryz.ntmps199
  go_wp2
  go_loopw [8] (fun i wr => ∃ k : Nat, k ≤ n ∧ i = .int .i64 k ∧ (∀ j, j < k → (l.getD j en0).1 ≠ ky p' q' r' s') ∧ Below w.heap.size w wr) (fun i _ => n - (intOf i).toNat)
  case atStart => exact ⟨0, Nat.zero_le _, rfl, fun j hj => by omega, Below.refl _ _⟩
  case round =>
    obtain ⟨k, hk, rfl, hno, hbel⟩ := hrel
    have HN : Hid (∀ j, j < k → (l.getD j en0).1 ≠ ky p' q' r' s') := hno
    clear hno
    by_cases hlt : k < n
    · obtain ⟨b1, o1, p, q, r, s, v, nv, A, C, rfl, hb1, hb2, hE, hnv, hrow, c0, c1, c2, c3, c4⟩ := en_at (Shape.now hA hbel) hlt
      have hli : (k : Int) < (n : Int) := by omega
      have HE : Hid (l.getD k en0 = en (ky p q r s) v) := hE
      obtain ⟨b, hb⟩ : ∃ b : Bool, b = true ↔ ky p q r s = ky p' q' r' s' := ⟨decide (ky p q r s = ky p' q' r' s'), by simp⟩
      have hcall := isplace p q r s p' q' r' s' A nv C B b hb wr (HB.out.below hbel hlB)
      have HQ : Hid (b = true ↔ ky p q r s = ky p' q' r' s') := hb
      clear hE hb hnv hrow
      cases b
      · go_wp2_with (go_at_call 200; refine hcall.mono ?_; rintro e u1 ⟨rfl, hb3⟩)
        go_roundw
        case rel =>
          refine ⟨k + 1, by omega, by go_num, fun j hj => ?_, bel_then hbel hb3⟩
          by_cases e : j = k
          · subst e
            rw [HE.out]
            intro h7
            have h8 := HQ.out.2 h7
            cases h8
          · exact HN.out j (by omega)
        case measure => simp [intOf]; omega
      · go_wp2_with (go_at_call 200; refine hcall.mono ?_; rintro e u1 ⟨rfl, hb3⟩)
        go_ret
        refine ⟨ret_int ?_, bel_then hbel hb3⟩
        have hf : Dx.First l (ky p' q' r' s') k := ⟨by rw [HL.out]; exact hlt, by rw [HE.out]; exact HQ.out.1 (by trivial), HN.out⟩
        rcases HX.out with ⟨_, h7⟩ | ⟨i, rfl, h7⟩
        · exact absurd h7 hf.not_no
        · rw [Dx.first_one hf h7]
    · have hkn : k = n := by omega
      subst hkn
      have hli : ¬ (k : Int) < (k : Int) := by omega
      go_wp2
      go_ret
      refine ⟨ret_int ?_, hbel⟩
      rcases HX.out with ⟨h7, _⟩ | ⟨i, _, h7⟩
      · exact h7.symm
      · exact absurd h7.2.1 (HN.out i (by rw [← HL.out]; exact h7.1))

set_option maxRecDepth 100000 in
theorem lplace (a : Option Addr) (n c : Nat) (l : List En) (p q r s : Int) (x : Int) (w : World) (h : ensS.rep w everywhere [.slice a n c] l) (hn : n ≤ 1000) (hx : Dx.At l (ky p q r s) x) :
    Calls Tryz.prog 185 #[.slice a n c, .agg #[.int .i64 p, .int .i64 q, .int .i64 r, .int .i64 s]] w fun e w' => e = .returned (.int .i64 x) ∧ Below w.heap.size w w' := by
  have hb := new_bel w (.cells #[.int .i64 p, .int .i64 q, .int .i64 r, .int .i64 s] 199)
  have hc : Hid (Calls _ _ _ _ _) := lindex a n c l p q r s w.heap.size x _ (Shape.below h hb) hn (Box.new w 199 #[.int .i64 p, .int .i64 q, .int .i64 r, .int .i64 s]) hx
  clear h hx
  go_enter Tryz.func185, Tryz.ntmps185
  go_wp2_with (go_at_call 199; refine hc.out.mono ?_; rintro e u1 ⟨rfl, hb1⟩)
  go_ret
  exact ⟨rfl, bel_then hb hb1⟩

/-! ### The document's Find -/
end Go.Proofs.YtokfcjgfpchffaaGreatDoor

/- What ledger's copied, Find and Enter do when called. -/
namespace Go.Proofs.YtokfcjgfpchffaaGreatDoor
open Go.ChangeShapes Go.WideShapes Go.ChangeAt Go.RowKit

set_option maxRecDepth 100000 in
set_option maxHeartbeats 4000000 in
theorem lcopied (a : Option Addr) (n c : Nat) (l : List En) (w : World) (h : ensS.rep w everywhere [.slice a n c] l) (hs : Dx.Short l) :
    Calls Tryz.prog 187 #[.slice a n c] w fun e w' => Below w.heap.size w w' ∧ ∃ a' c', e = .returned (.slice a' n c') ∧ Own (inS enS (w.heap.size ≤ ·)) w' w.heap.size 201 (.slice a' n c') l := by
  have hl := (sliceS_len h).1
  have hn : n ≤ 1000 := by have := hs.1; omega
  have hA := Shape.low h
  obtain ⟨i0, hi0, hi1, hi2, hi3⟩ := info_parts Tryz.infoEntry
  have HL : Hid (l.length = n) := hl
  have HS : Hid (Dx.Short l) := hs
  clear h hs hl
  go_enter Tryz.func187, Tryz.ntmps187
  go_wp2_with (at_make; refine wpList_make_full _ rfl _ _ 88 rfl w.heap.size 201 i0 (.agg #[.int .i64 0, .int .i64 0, .int .i64 0, .int .i64 0, .slice none 0 0]) 5 Tryz.underlying88 hi0 hi1 hi2 _ _ _ _ n rfl rfl (by rfl) (by rfl) ?b2 ?b3 (Nat.le_refl _) ?_)
  case b2 => rw [hi3]; omega
  case b3 => unfold maxLen; omega
  intro u0 hown0 hg0
  have hb0 : Below w.heap.size w u0 := (Below.refl _ _).grown hg0 (Nat.le_refl _) (fun g hg => by cases hg)
  have ho0 : Own (inS enS (w.heap.size ≤ ·)) u0 w.heap.size 201 (.slice (some ⟨w.heap.size, 0, none⟩) n n) (List.replicate n en0) :=
    Own.made (z := [.int .i64 0, .int .i64 0, .int .i64 0, .int .i64 0, .slice none 0 0]) (by show 0 < 5; omega) rfl hown0 (fun F => en0_rep _ _)
  have HO : Hid (Own (inS enS (w.heap.size ≤ ·)) u0 w.heap.size 201 (.slice (some ⟨w.heap.size, 0, none⟩) n n) (List.replicate n en0)) := ho0
  clear hown0 hg0 ho0
  go_wp2
  go_loopw [11] (fun i wr => ∃ k : Nat, k ≤ n ∧ i = .int .i64 k ∧ Own (inS enS (w.heap.size ≤ ·)) wr w.heap.size 201 (.slice (some ⟨w.heap.size, 0, none⟩) n n) (Dx.fills l k) ∧ Below w.heap.size w wr) (fun i _ => n - (intOf i).toNat)
  case atStart => exact ⟨0, Nat.zero_le _, rfl, by rw [Dx.fills_zero, HL.out]; exact HO.out, hb0⟩
  case round =>
    clear HO hb0
    obtain ⟨k, hk, rfl, hown, hbel⟩ := hrel
    by_cases hlt : k < n
    · obtain ⟨b1, o1, p, q, r, s, v, nv, A, C, rfl, hb1, hb2, hE, hnv, hrow, c0, c1, c2, c3, c4⟩ := en_at (Shape.now hA hbel) hlt
      have hli : (k : Int) < (n : Int) := by omega
      have hk0 : (0 : Int) ≤ (k : Int) := by omega
      have hnv9 : nv ≤ 1000 := by have h7 := HS.out.row (j := k) (by rw [HL.out]; exact hlt); rw [hE] at h7; have h8 : v.length ≤ 1000 := h7; omega
      have HE : Hid (l.getD k en0 = en (ky p q r s) v) := hE
      have hgl : w.heap.size < wr.heap.size := (hown.lt w.heap.size rfl).2
      have hbn := new_bel wr (.cells #[.int .i64 p, .int .i64 q, .int .i64 r, .int .i64 s, .slice A nv C] 201)
      have kb := Box.new wr 201 #[.int .i64 p, .int .i64 q, .int .i64 r, .int .i64 s, .slice A nv C]
      have hown1 := hown.keep hbn
      have hrow1 := Shape.any (Shape.below hrow hbn)
      have hB1 := bel_then hbel hbn
      have hsz : (wr.alloc (.cells #[.int .i64 p, .int .i64 q, .int .i64 r, .int .i64 s, .slice A nv C] 201)).heap.size = wr.heap.size + 1 := by simp
      clear hE hnv hrow hown hbel hbn
      go_upto_region 5 with fail
      clear c0 c1 c2 c3 c4
      generalize wr.alloc (.cells #[.int .i64 p, .int .i64 q, .int .i64 r, .int .i64 s, .slice A nv C] 201) = W at *
      have c0 := kb.cell 0 rfl
      have c1 := kb.cell 1 rfl
      have c2 := kb.cell 2 rfl
      have c3 := kb.cell 3 rfl
      have c4 := kb.cell 4 rfl
      have hD : Below W.heap.size W W.drew := (Below.refl _ W).drew
      have HC : Hid (Calls _ _ _ _ _) := clone A nv C v W.drew (Shape.below hrow1 hD) hnv9
      have HWs : Hid (W.heap.size = wr.heap.size + 1) := hsz
      clear hsz hrow1
      go_region_with
        (go_at_call 84; refine HC.out.mono ?_; rintro e u1 ⟨hb3, a3, c9, rfl, ho3⟩; have hd3 := bel_then hD hb3; have kb3 := kb.keep hd3; have d0 := kb3.cell 0 rfl; have d1 := kb3.cell 1 rfl; have d2 := kb3.cell 2 rfl; have d3 := kb3.cell 3 rfl; have hown3 := hown1.keep hd3; obtain ⟨z0, y0⟩ := hown3.cellK hlt (i := 0) (by show 0 < 5; omega); obtain ⟨z1, y1⟩ := hown3.cellK hlt (i := 1) (by show 1 < 5; omega); obtain ⟨z2, y2⟩ := hown3.cellK hlt (i := 2) (by show 2 < 5; omega); obtain ⟨z3, y3⟩ := hown3.cellK hlt (i := 3) (by show 3 < 5; omega); obtain ⟨z4, y4⟩ := hown3.cellK hlt (i := 4) (by show 4 < 5; omega); have x0 : u1.cell? ⟨w.heap.size, k * 5, none⟩ = some z0 := y0; have x1 : u1.cell? ⟨w.heap.size, k * 5 + 1, none⟩ = some z1 := y1; have x2 : u1.cell? ⟨w.heap.size, k * 5 + 2, none⟩ = some z2 := y2; have x3 : u1.cell? ⟨w.heap.size, k * 5 + 3, none⟩ = some z3 := y3; have x4 : u1.cell? ⟨w.heap.size, k * 5 + 4, none⟩ = some z4 := y4; clear y0 y1 y2 y3 y4; have f0 := hown3.freeK (k * 5); have f1 := hown3.freeK (k * 5 + 1); have f2 := hown3.freeK (k * 5 + 2); have f3 := hown3.freeK (k * 5 + 3); have f4 := hown3.freeK (k * 5 + 4))
      all_goals
        have hr3 : rowS.rep u1 (W.heap.size ≤ ·) [.slice a3 nv c9] v := ho3.high
        have hin : (inS enS (w.heap.size ≤ ·)).rep u1 (W.heap.size ≤ ·) [.int .i64 p, .int .i64 q, .int .i64 r, .int .i64 s, .slice a3 nv c9] (en (ky p q r s) v) := inS_of (en_rep p q r s hr3) (fun b hb => by have := HWs.out; have h7 : W.heap.size ≤ b := hb; omega)
        have hst := hown3.storeK hlt hin (fun b hb => by have := HWs.out; have h7 : W.heap.size ≤ b := hb; omega)
        rw [← HE.out, Dx.fills_set (by rw [HL.out]; exact hlt)] at hst
        have hB5 := bel_run (vs := [.int .i64 p, .int .i64 q, .int .i64 r, .int .i64 s, .slice a3 nv c9]) (i := k * 5) (bel_then hB1 hd3) (Nat.le_refl w.heap.size)
        have HST : Hid _ := And.intro hst hB5
        clear hst hB5 hin hr3 ho3 hown3 hown1 hB1 HC x0 x1 x2 x3 x4 f0 f1 f2 f3 f4 d0 d1 d2 d3
        go_wp2
        go_roundw
        case rel => exact ⟨k + 1, by omega, by go_num, HST.out.1, HST.out.2⟩
        case measure => simp [intOf]; omega
    · have hkn : k = n := by omega
      subst hkn
      have hli : ¬ (k : Int) < (k : Int) := by omega
      have e9 : Dx.fills l k = l := by rw [← HL.out]; exact Dx.fills_all l
      rw [e9] at hown
      clear e9
      go_wp2
      go_ret
      exact ⟨hbel, _, _, rfl, hown⟩

/-! ### Find -/
set_option maxRecDepth 100000 in
theorem lfind_no (a : Option Addr) (n c : Nat) (l : List En) (p q r s : Int) (w : World) (h : ensS.rep w everywhere [.slice a n c] l) (hn : n ≤ 1000) (hx : Dx.No l (ky p q r s)) :
    Calls Tryz.prog 167 #[.slice a n c, .agg #[.int .i64 p, .int .i64 q, .int .i64 r, .int .i64 s]] w fun e w' => e = .returned (.tuple #[.slice none 0 0, .bool false]) ∧ Below w.heap.size w w' := by
  have hb := new_bel w (.cells #[.int .i64 p, .int .i64 q, .int .i64 r, .int .i64 s] 199)
  have hc : Hid (Calls _ _ _ _ _) := lplace a n c l p q r s (-1) _ (Shape.below h hb) hn (.inl ⟨rfl, hx⟩)
  clear h hx
  go_enter Tryz.func167, Tryz.ntmps167
  go_wp2_with (go_at_call 185; refine hc.out.mono ?_; rintro e u1 ⟨rfl, hb1⟩)
  go_ret2
  exact ⟨rfl, bel_then hb hb1⟩
set_option maxRecDepth 100000 in
theorem lfind_at (a : Option Addr) (n c : Nat) (l : List En) (p q r s : Int) (w : World) (h : ensS.rep w everywhere [.slice a n c] l) (hs : Dx.Short l) (i : Nat) (hx : Dx.First l (ky p q r s) i) (v : List Int) (hv : (l.getD i en0).2.1 = v) (nv : Nat) (hnv : v.length = nv) :
    Calls Tryz.prog 167 #[.slice a n c, .agg #[.int .i64 p, .int .i64 q, .int .i64 r, .int .i64 s]] w fun e w' => Below w.heap.size w w' ∧ ∃ a' c', e = .returned (.tuple #[.slice a' nv c', .bool true]) ∧ rowS.rep w' (w.heap.size ≤ ·) [.slice a' nv c'] v := by
  have hl := (sliceS_len h).1
  have hn : n ≤ 1000 := by have := hs.1; omega
  have hlt : i < n := by have := hx.1; omega
  have hnv9 : nv ≤ 1000 := by have h7 := hs.row hx.1; rw [hv] at h7; omega
  have hb := new_bel w (.cells #[.int .i64 p, .int .i64 q, .int .i64 r, .int .i64 s] 199)
  have hc : Hid (Calls _ _ _ _ _) := lplace a n c l p q r s (i : Int) _ (Shape.below h hb) hn (.inr ⟨i, rfl, hx⟩)
  have hA := Shape.low h
  have HV : Hid ((l.getD i en0).2.1 = v ∧ v.length = nv) := ⟨hv, hnv⟩
  have hi : ¬ (i : Int) < 0 := by omega
  have hi2 : (i : Int) < (n : Int) := by omega
  have hi0 : (0 : Int) ≤ (i : Int) := by omega
  clear h hx hv hnv hs hl
  go_enter Tryz.func167, Tryz.ntmps167
  go_wp2_with fail
  refine hc.out.mono ?_
  rintro e u1 ⟨rfl, hb1⟩
  have hB1 := bel_then hb hb1
  obtain ⟨b1, o1, p2, q2, r2, s2, v2, nv2, A, C, rfl, _, _, hE, hnv2, hrow, c0, c1, c2, c3, c4⟩ := en_at (Shape.now hA hB1) hlt
  have hv2 : v2 = v := by have h7 := HV.out.1; rw [hE] at h7; exact h7
  subst hv2
  have hnn : nv2 = nv := by rw [← hnv2, HV.out.2]
  subst hnn
  have hcl : Hid (Calls _ _ _ _ _) := clone A nv2 C v2 u1 (Shape.any hrow) hnv9
  have hsz := hB1.size
  clear hE hnv2 hrow HV hc
  go_wp2_with (go_at_call 84; refine hcl.out.mono ?_; rintro e u2 ⟨hb2, a2, c9, rfl, ho2⟩)
  go_ret2
  exact ⟨bel_then hB1 hb2, a2, c9, rfl, rowS.mono ho2.high fun b hb _ => by have h7 : u1.heap.size ≤ b := hb; omega⟩

/-! ### Enter -/
set_option maxRecDepth 100000 in
set_option maxHeartbeats 4000000 in
theorem lenter_new (a : Option Addr) (n c : Nat) (l : List En) (p q r s : Int) (va : Option Addr) (vn vc : Nat) (v : List Int) (w : World) (h : ensS.rep w everywhere [.slice a n c] l) (hs : Dx.Short l) (hv : rowS.rep w everywhere [.slice va vn vc] v) (hvn : vn ≤ 1000) (hx : Dx.No l (ky p q r s)) :
    Calls Tryz.prog 169 #[.slice a n c, .agg #[.int .i64 p, .int .i64 q, .int .i64 r, .int .i64 s], .slice va vn vc] w fun e w' => Below w.heap.size w w' ∧ ∃ a' c', e = .returned (.tuple #[.slice a' (n + 1) c', .bool true]) ∧ ensS.rep w' (w.heap.size ≤ ·) [.slice a' (n + 1) c'] (l ++ [en (ky p q r s) v]) := by
  have hl := (sliceS_len h).1
  have hn : n ≤ 1000 := by have := hs.1; omega
  obtain ⟨i0, hi0, hi1, hi2, hi3⟩ := info_parts Tryz.infoEntry
  have hb := new_bel w (.cells #[.int .i64 p, .int .i64 q, .int .i64 r, .int .i64 s] 199)
  have kb := Box.new w 199 #[.int .i64 p, .int .i64 q, .int .i64 r, .int .i64 s]
  have hc : Hid (Calls _ _ _ _ _) := lcopied a n c l _ (Shape.below h hb) hs
  have hA := Shape.low h
  have hV := Shape.low hv
  have HX : Hid (Dx.No l (ky p q r s)) := hx
  have HL : Hid (l.length = n) := hl
  have HZ : Hid ((w.alloc (.cells #[.int .i64 p, .int .i64 q, .int .i64 r, .int .i64 s] 199)).heap.size = w.heap.size + 1) := by show _ = _; simp
  clear h hx hs hl hv
  go_enter Tryz.func169, Tryz.ntmps169
  go_wp2_with fail
  refine hc.out.mono ?_
  rintro e u1 ⟨hb1, a1, c1, rfl, ho1⟩
  have kb1 := kb.keep hb1
  have hB1 := bel_then hb hb1
  have d0 := kb1.cell 0 rfl
  have d1 := kb1.cell 1 rfl
  have d2 := kb1.cell 2 rfl
  have d3 := kb1.cell 3 rfl
  rw [HZ.out] at ho1
  have hcp : Hid (Calls _ _ _ _ _) := lplace a n c l p q r s (-1) u1 (Shape.any (Shape.now hA hB1)) hn (.inl ⟨rfl, HX.out⟩)
  clear hc kb
  go_wp2_with fail
  refine hcp.out.mono ?_
  rintro e u2 ⟨rfl, hb2⟩
  clear d0 d1 d2 d3
  have kb2 := kb1.keep hb2
  have hB2 := bel_then hB1 hb2
  have ho2 := ho1.keep hb2
  clear kb1 hB1 ho1 hcp
  have hD : Below u2.heap.size u2 u2.drew := (Below.refl _ u2).drew
  have HC : Hid (Calls _ _ _ _ _) := clone va vn vc v u2.drew (Shape.any (Shape.now hV (bel_then hB2 hD))) hvn
  have HH : Hid (∀ u, Below u2.heap.size u2 u → u.cell? ⟨w.heap.size, 0, none⟩ = some (.int .i64 p) ∧ u.cell? ⟨w.heap.size, 1, none⟩ = some (.int .i64 q) ∧ u.cell? ⟨w.heap.size, 2, none⟩ = some (.int .i64 r) ∧ u.cell? ⟨w.heap.size, 3, none⟩ = some (.int .i64 s)) := fun u hu => ⟨(kb2.keep hu).cell 0 rfl, (kb2.keep hu).cell 1 rfl, (kb2.keep hu).cell 2 rfl, (kb2.keep hu).cell 3 rfl⟩
  have hNe : some w.heap.size ≠ Value.ownBlock (.slice a1 n c1) := fun h => by have := (ho2.lt _ h.symm).1; omega
  have hsm : l.length + 1 ≤ 100000 := by rw [HL.out]; omega
  have hln : l.length + 1 = n + 1 := by rw [HL.out]
  have d0 := kb2.cell 0 rfl
  have d1 := kb2.cell 1 rfl
  have d2 := kb2.cell 2 rfl
  have d3 := kb2.cell 3 rfl
  go_wp2
  go_region_held3 (fun w' => w'.cell? ⟨w.heap.size, 0, none⟩ = some (.int .i64 p) ∧ w'.cell? ⟨w.heap.size, 1, none⟩ = some (.int .i64 q) ∧ w'.cell? ⟨w.heap.size, 2, none⟩ = some (.int .i64 r) ∧ w'.cell? ⟨w.heap.size, 3, none⟩ = some (.int .i64 s))
    (first
      | exact HH.out _ hd4
      | exact HH.out _ hd3
      | exact HH.out _ hD
      | exact HH.out _ (Below.refl _ _)
      | exact hq6
      | go_keep)
    (first
      | (refine step_app (inS enS (w.heap.size + 1 ≤ ·)) (by simp [Region.wanted]) (.tmp 16) (.tmp 21) 88 (by rfl) (w.heap.size + 1) 201 i0 (.agg #[.int .i64 0, .int .i64 0, .int .i64 0, .int .i64 0, .slice none 0 0]) 56 Tryz.underlying88 hi0 hi1 hi2 hi3 rfl (Nat.succ_pos 4) (by omega) (by rfl) ho4 (by rfl) hsrc1 hsrc2 hsm hbs (n + 1) hln _ rfl ?_; intro a6 c6 u6 ho6 hg6 hb6 hat6; have kb6 := kb4.grown hg6 hNe; have hq6 := And.intro (kb6.cell 0 rfl) (And.intro (kb6.cell 1 rfl) (And.intro (kb6.cell 2 rfl) (kb6.cell 3 rfl))))
      | (go_at_call 84; refine HC.out.mono ?_; rintro e u3 ⟨hb3, a3, c3, rfl, ho3⟩; have hd3 := bel_then hD hb3; have hd4 := bel_alloc hd3 (.cells #[.int .i64 p, .int .i64 q, .int .i64 r, .int .i64 s, .slice a3 vn c3] 201); have ho4 := ho2.keep hd4; have kb4 := kb2.keep hd4; have hsrc1 := rep_one (e := 201) (inS_of (P := (w.heap.size + 1 ≤ ·)) (F := (u2.heap.size ≤ ·)) (en_rep p q r s (Own.high ho3)) (fun b hb => by have h7 : u2.heap.size ≤ b := hb; have h8 := kb2.lt; show w.heap.size + 1 ≤ b; omega)); have hsrc2 : ∀ b, ((u2.heap.size ≤ b ∧ b < u3.heap.size) ∨ b = u3.heap.size) → some b ≠ Value.ownBlock (.slice a1 n c1) := (fun b hb h => by have h7 := (ho2.lt b h.symm).2; have h8 := hd3.size; omega); have hbs : w.heap.size + 1 ≤ (u3.alloc (.cells #[.int .i64 p, .int .i64 q, .int .i64 r, .int .i64 s, .slice a3 vn c3] 201)).heap.size := by (have h7 := hd4.size; have h8 := kb2.lt; omega)))
  all_goals
    go_wp2
    go_ret2
    exact ⟨(bel_then hB2 hd4).trans (hb6.mono (by omega)), a6, c6, rfl, ensS.mono ho6.within fun b hb _ => by have h7 : w.heap.size + 1 ≤ b := hb; omega⟩

end Go.Proofs.YtokfcjgfpchffaaGreatDoor

/- Enter with letters for what it makes, and the fixed answer of the laws of layer 12. -/
namespace Go.Proofs.YtokfcjgfpchffaaGreatDoor
open Go.ChangeShapes Go.WideShapes Go.ChangeAt Go.RowKit

theorem Dx.Short.add {l : List En} (h : Dx.Short l) (hl : l.length < 1000) {k : Ky} {v : List Int} (hv : v.length ≤ 1000) : Dx.Short (l ++ [en k v]) := by
  refine ⟨by rw [List.length_append]; exact hl, fun e he => ?_⟩
  rcases List.mem_append.1 he with he | he
  · exact h.2 e he
  · rw [List.mem_singleton.1 he]; exact hv

/-- Enter of a key that is not there: the new length and the new ledger under names of one's own. -/
theorem lenter_to (a : Option Addr) (n c : Nat) (l : List En) (p q r s : Int) (va : Option Addr) (vn vc : Nat) (v : List Int) (w : World) (h : ensS.rep w everywhere [.slice a n c] l) (hs : Dx.Short l) (hv : rowS.rep w everywhere [.slice va vn vc] v) (hvn : vn ≤ 1000) (hx : Dx.No l (ky p q r s)) (m : Nat) (hm : n + 1 = m) (L : List En) (hL : l ++ [en (ky p q r s) v] = L) :
    Calls Tryz.prog 169 #[.slice a n c, .agg #[.int .i64 p, .int .i64 q, .int .i64 r, .int .i64 s], .slice va vn vc] w fun e w' => Below w.heap.size w w' ∧ ∃ a' c', e = .returned (.tuple #[.slice a' m c', .bool true]) ∧ ensS.rep w' (w.heap.size ≤ ·) [.slice a' m c'] L := by
  subst hm
  subst hL
  exact lenter_new a n c l p q r s va vn vc v w h hs hv hvn hx


end Go.Proofs.YtokfcjgfpchffaaGreatDoor
