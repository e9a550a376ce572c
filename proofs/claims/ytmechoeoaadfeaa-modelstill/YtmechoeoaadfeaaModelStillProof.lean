/- ModelStill is true for every model and tokens. -/
import Derived.Test.YtmechoeoaadfeaaRows
import Derived.Test.YtmechoeoaadfeaaMdlZ
import Derived.WalkKit
import Derived.ProofKit
import Derived.OpenShut
import Derived.ShutString
import Derived.ChangeOld
import Derived.Below
namespace Go.Proofs.Ytmechoeoaadfeaa.modelStill
open Go.ChangeShapes Go.WideShapes Go.ChangeAt Go.RowKit
open Go.ChangeMaps (open_string shut_string)
set_option linter.unusedVariables false

theorem own : ownKnob Try.prog.godebug = none := by kernel_rfl
theorem laidOut : laidOutB Try.prog = true := by kernel_rfl

/- The walk: the call returns true, and nothing that was there is written. -/
set_option maxHeartbeats 4000000 in
set_option maxRecDepth 100000 in
theorem walk (a0_0 : Int) (a0_1 : Option Addr) (len0_1 cap0_1 : Nat) (m0_1 : List ((List (List Int)) × (List ((List (List Int)) × (List (List Int)) × Unit)) × Int × Unit)) (a1 : Option Addr) (len1 cap1 : Nat) (m1 : List (List Int)) (w : World) (w0_0 : (Lit.int .i64 a0_0).wf = true) (w0_1 : (sliceS (consS (sliceS (sliceS (intS .i64))) (consS (sliceS (consS (sliceS (sliceS (intS .i64))) (consS (sliceS (sliceS (intS .i64))) noneS))) (consS (intS .i64) noneS)))).rep w everywhere [.slice a0_1 len0_1 cap0_1] m0_1) (f0_1 : (∀ x0 ∈ m0_1, ((∀ x1 ∈ x0.1, (∀ x2 ∈ x1, (Lit.int .i64 x2).wf = true)) ∧ ((∀ x1 ∈ x0.2.1, ((∀ x2 ∈ x1.1, (∀ x3 ∈ x2, (Lit.int .i64 x3).wf = true)) ∧ ((∀ x2 ∈ x1.2.1, (∀ x3 ∈ x2, (Lit.int .i64 x3).wf = true)) ∧ True))) ∧ ((Lit.int .i64 x0.2.2.1).wf = true ∧ True))))) (w1 : (sliceS (sliceS (intS .i64))).rep w everywhere [.slice a1 len1 cap1] m1) (f1 : (∀ x0 ∈ m1, (∀ x1 ∈ x0, (Lit.int .i64 x1).wf = true))) :
    Calls Try.prog 4 #[.agg #[.int .i64 a0_0, .slice a0_1 len0_1 cap0_1], .slice a1 len1 cap1] w fun e w' => e = .returned (.bool true) ∧ Below w.heap.size w w' := by
  have HX : Hid (lysS.rep w everywhere [.slice a0_1 len0_1 cap0_1] m0_1) := w0_1
  have HT : Hid (matS.rep w everywhere [.slice a1 len1 cap1] m1) := w1
  have HL : Hid (m0_1.length = len0_1) := (sliceS_len w0_1).1
  have HLT : Hid (m1.length = len1) := (sliceS_len w1).1
  have hcap0 : len0_1 ≤ cap0_1 := (sliceS_len w0_1).2.1
  have hcap1 : len1 ≤ cap1 := (sliceS_len w1).2.1
  clear w0_0 w0_1 f0_1 w1 f1
  have hB := new_bel w (.cells #[.int .i64 a0_0, .slice a0_1 len0_1 cap0_1] 24)
  have q := Box.new w 24 #[.int .i64 a0_0, .slice a0_1 len0_1 cap0_1]
  have HC1 : Hid (Calls _ _ _ _ _) := msmall a0_1 len0_1 cap0_1 m0_1 a0_0 _ (Shape.below HX.out hB)
  go_enter Try.func4, Try.ntmps4
  go_wp2_with fail
  refine HC1.out.mono ?_
  rintro e u1 ⟨hs, hb1⟩
  have hB1 := bel_then hB hb1
  have q1 := q.keep hb1
  by_cases hS : Md.Small m0_1
  case neg =>
    rw [hs.not hS]
    clear hs hS HC1 hB q q1 hb1
    go_wp2_with (go_at_call 11; refine (mawake _).mono ?_; rintro e u9 ⟨rfl, hb9⟩)
    go_ret
    exact ⟨rfl, bel_then hB1 hb9⟩
  rw [hs.is hS]
  have HS : Hid (Md.Small m0_1) := hS
  have h1 := Shape.below HT.out hB1
  clear hs hS HC1 hB q hb1
  go_wp2_with fail
  refine by_says (small a1 len1 cap1 m1 everywhere u1 h1) (fun hS => ?_) (fun hS => ?_)
  case refine_2 =>
    clear hS h1 q1
    go_wp2_with (go_at_call 11; refine (mawake _).mono ?_; rintro e u9 ⟨rfl, hb9⟩)
    go_ret
    exact ⟨rfl, bel_then hB1 hb9⟩
  have HST : Hid (Mx.Small m1) := hS
  clear hS h1
  have p0 := q1.cell 0 rfl
  have p1 := q1.cell 1 rfl
  have HC2 : Hid (Calls _ _ _ _ _) := rmright a0_1 len0_1 cap0_1 m0_1 a0_0 u1 (Shape.below HX.out hB1) (by have := HS.out.1; have := HL.out; omega) (fun l hl => Md.small_lsized (HS.out.2 l hl))
  go_wp2_with fail
  refine HC2.out.mono ?_
  rintro e u2 ⟨hs, hb2⟩
  have hB2 := bel_then hB1 hb2
  have q2 := q1.keep hb2
  clear HC2 hB1 q1 hb2 p0 p1
  by_cases hR : Md.Right a0_0 m0_1
  case neg =>
    rw [hs.not hR]
    clear hs hR q2
    go_wp2_with (go_at_call 11; refine (mawake _).mono ?_; rintro e u9 ⟨rfl, hb9⟩)
    go_ret
    exact ⟨rfl, bel_then hB2 hb9⟩
  rw [hs.is hR]
  have HR : Hid (Md.Right a0_0 m0_1) := hR
  have p0 := q2.cell 0 rfl
  have p1 := q2.cell 1 rfl
  have HC3 : Hid (Calls _ _ _ _ _) := rmtokens a0_1 len0_1 cap0_1 a0_0 a1 len1 cap1 m1 u2 (Shape.below HT.out hB2) (Ex.small_sized HST.out)
  clear hs hR
  go_wp2_with fail
  refine HC3.out.mono ?_
  rintro e u3 ⟨hs, hb3⟩
  have hB3 := bel_then hB2 hb3
  have q3 := q2.keep hb3
  clear HC3 hB2 q2 hb3 p0 p1
  by_cases hR : Md.TRight a0_0 m1
  case neg =>
    rw [hs.not hR]
    clear hs hR q3
    go_wp2_with (go_at_call 11; refine (mawake _).mono ?_; rintro e u9 ⟨rfl, hb9⟩)
    go_ret
    exact ⟨rfl, bel_then hB3 hb9⟩
  rw [hs.is hR]
  have HTR : Hid (Md.TRight a0_0 m1) := hR
  have p0 := q3.cell 0 rfl
  have p1 := q3.cell 1 rfl
  have hn4 : len0_1 ≤ 4 := by have := HR.out.2.2.2.1; have := HL.out; omega
  have hn1 : 1 ≤ len0_1 := by have := HR.out.2.2.1; have := HL.out; omega
  have hm16 : len1 ≤ 16 := by have := HTR.out.2.1; have := HLT.out; omega
  have hm1 : 1 ≤ len1 := by have := HTR.out.1; have := HLT.out; omega
  have HD : Hid (a0_0 ≤ 8) := HR.out.2.1
  clear hs hR
  have kM := Box.new u3 24 #[.int .i64 a0_0, .slice none 0 0]
  have hbM := new_bel u3 (.cells #[.int .i64 a0_0, .slice none 0 0] 24)
  have HM0 : Hid _ := And.intro kM hbM
  have r1 := (q3.keep hbM).cell 1 rfl
  have hlt3 : w.heap.size < u3.heap.size := q3.lt
  have HB3 : Hid (Below w.heap.size w u3 ∧ Box u3 w.heap.size 24 #[.int .i64 a0_0, .slice a0_1 len0_1 cap0_1]) := ⟨hB3, q3⟩
  obtain ⟨i0, hi0, hi1, hi2, hi3⟩ := info_parts Try.infoLayer
  obtain ⟨j0, hj0, hj1, hj2, hj3⟩ := info_parts Try.infoRow
  obtain ⟨l0, hl0, hl1, hl2, hl3⟩ := info_parts Try.infoExpert
  clear kM hbM q3 hB3
  go_wp2
  go_loopw [41] (fun i wr => ∃ (k : Nat) (va : Option Addr) (vc : Nat), k ≤ len0_1 ∧ i = .int .i64 k ∧ Box wr u3.heap.size 24 #[.int .i64 a0_0, .slice va k vc] ∧ Own (inS lyS (fun b => b < w.heap.size ∨ u3.heap.size + 1 ≤ b)) wr (u3.heap.size + 1) 37 (.slice va k vc) ((m0_1.map Md.stillL).take k) ∧ Below u3.heap.size u3 wr) (fun i _ => len0_1 - (intOf i).toNat)
  case atStart => exact ⟨0, none, 0, Nat.zero_le _, rfl, HM0.out.1, by rw [List.take_zero]; exact Own.nil _ _ _ _, HM0.out.2⟩
  case round =>
    clear HM0 r1 p0 p1
    obtain ⟨k, va, vc, hk, rfl, hM, hown, hbel⟩ := hrel
    obtain ⟨W0, hW0⟩ : ∃ W0, W0 = wr := ⟨_, rfl⟩
    subst hW0
    have hBw := bel_then HB3.out.1 hbel
    have hsz0 := hM.lt
    by_cases hlt : k < len0_1
    · obtain ⟨b1, off, ag, ng, cg, ax, nx, cx, g, xs, cap, rfl, hb, hE, hg, hx, c0, c1, c2⟩ := ly_there HX.out hlt
      have hli : (k : Int) < (len0_1 : Int) := by omega
      have hk0 : (0 : Int) ≤ (k : Int) := by omega
      have hkl : k < m0_1.length := by have := HL.out; omega
      have hLR : Md.LRight (g, xs, cap, ()) a0_0 := by rw [← hE]; exact HR.out.2.2.2.2 _ (in_of hkl ly0)
      have HLR : Hid (Md.LRight (g, xs, cap, ()) a0_0) := hLR
      have HLX : Hid (xs.length = nx) := (sliceS_len hx).1
      have hnx : nx ≤ 8 := by have h7 : xs.length ≤ 8 := hLR.2.1; have := HLX.out; omega
      have HT1 : Hid ((m0_1.map Md.stillL).take k ++ [Md.stillL (g, xs, cap, ())] = (m0_1.map Md.stillL).take (k + 1)) := Md.stills_take m0_1 hkl hE
      have HTL : Hid (((m0_1.map Md.stillL).take k).length + 1 = k + 1) := by show _ = _; rw [List.length_take, List.length_map]; omega
      have d0 := (hBw.cell (by exact hb)).trans c0
      have d1 := (hBw.cell (by exact hb)).trans c1
      have d2 := (hBw.cell (by exact hb)).trans c2
      have hbn := bel_two W0 (.cells #[.slice ag ng cg, .slice ax nx cx, .int .i64 cap] 37) (.cells #[.slice ag ng cg, .slice none 0 0, .int .i64 cap] 37)
      have kL : Box ((W0.alloc (.cells #[.slice ag ng cg, .slice ax nx cx, .int .i64 cap] 37)).alloc (.cells #[.slice ag ng cg, .slice none 0 0, .int .i64 cap] 37)) W0.heap.size 37 #[.slice ag ng cg, .slice ax nx cx, .int .i64 cap] := (Box.new W0 _ _).keep (new_bel _ _)
      have kK := Box.new (W0.alloc (.cells #[.slice ag ng cg, .slice ax nx cx, .int .i64 cap] 37)) 37 #[.slice ag ng cg, .slice none 0 0, .int .i64 cap]
      rw [show (W0.alloc (.cells #[.slice ag ng cg, .slice ax nx cx, .int .i64 cap] 37)).heap.size = W0.heap.size + 1 by simp] at kK
      have HKO : Hid (Box W0 u3.heap.size 24 #[.int .i64 a0_0, .slice va k vc] ∧ Own (inS lyS (fun b => b < w.heap.size ∨ u3.heap.size + 1 ≤ b)) W0 (u3.heap.size + 1) 37 (.slice va k vc) ((m0_1.map Md.stillL).take k) ∧ Below u3.heap.size u3 W0) := ⟨hM, hown, hbel⟩
      have HG : Hid (matS.rep w everywhere [.slice ag ng cg] g) := hg
      have HXX : Hid (xpsS.rep w everywhere [.slice ax nx cx] xs) := hx
      have HBw : Hid (Below w.heap.size w W0) := hBw
      clear hE hg hx c0 c1 c2 hM hown hbel hBw hLR
      go_upto_region 8 with fail
      clear d0 d1 d2
      generalize ((W0.alloc (.cells #[.slice ag ng cg, .slice ax nx cx, .int .i64 cap] 37)).alloc (.cells #[.slice ag ng cg, .slice none 0 0, .int .i64 cap] 37)) = W1 at *
      have y1 := kL.cell 1 rfl
      have HK0 : Hid (Box W1 (W0.heap.size + 1) 37 #[.slice ag ng cg, .slice none 0 0, .int .i64 cap] ∧ Below W0.heap.size W0 W1) := ⟨kK, hbn⟩
      clear kK hbn kL
      go_wp2
      go_loopw [53] (fun i wr => ∃ (j : Nat) (xa : Option Addr) (xc : Nat), j ≤ nx ∧ i = .int .i64 j ∧ Box wr (W0.heap.size + 1) 37 #[.slice ag ng cg, .slice xa j xc, .int .i64 cap] ∧ Own (inS xpS (fun b => b < w.heap.size ∨ W0.heap.size + 2 ≤ b)) wr (W0.heap.size + 2) 46 (.slice xa j xc) ((xs.map Md.stillX).take j) ∧ Below W0.heap.size W0 wr) (fun i _ => nx - (intOf i).toNat)
      case atStart => exact ⟨0, none, 0, Nat.zero_le _, rfl, HK0.out.1, by rw [List.take_zero]; exact Own.nil _ _ _ _, HK0.out.2⟩
      case round =>
        clear HK0 y1
        obtain ⟨j, xa, xc, hj, rfl, hK, hown, hbel⟩ := hrel
        obtain ⟨W2, hW2⟩ : ∃ W2, W2 = wr := ⟨_, rfl⟩
        subst hW2
        have hBw := bel_then HBw.out hbel
        have hsz2 := hK.lt
        by_cases hjt : j < nx
        · obtain ⟨b2, off2, ai, ni, ci, ao, no, co, mi, mo, rfl, hb2, hE, hi, ho, c0, c1⟩ := xp_there HXX.out hjt
          have hji : (j : Int) < (nx : Int) := by omega
          have hj00 : (0 : Int) ≤ (j : Int) := by omega
          have hjl : j < xs.length := by have := HLX.out; omega
          have hXR : Ex.Right mi mo a0_0 := by have h7 := HLR.out.2.2.2.2.2 _ (in_of hjl xp0); rw [hE] at h7; exact h7
          have HLI : Hid (mi.length = ni) := (sliceS_len hi).1
          have HLO : Hid (mo.length = no) := (sliceS_len ho).1
          have hni : ni ≤ 8 := by have := hXR.2.1; have := HLI.out; omega
          have hno : no ≤ 8 := by have h7 := hXR.2.2.2.1; have := HD.out; have := HLO.out; omega
          have HT2 : Hid ((xs.map Md.stillX).take j ++ [Md.stillX (mi, mo, ())] = (xs.map Md.stillX).take (j + 1)) := Md.stillX_take xs hjl hE
          have HTL2 : Hid (((xs.map Md.stillX).take j).length + 1 = j + 1) := by show _ = _; rw [List.length_take, List.length_map]; omega
          have d0 := (hBw.cell (by exact hb2)).trans c0
          have d1 := (hBw.cell (by exact hb2)).trans c1
          have hbn := bel_two W2 (.cells #[.slice ai ni ci, .slice ao no co] 46) (.cells #[.slice ai ni ci, .slice none 0 0] 46)
          have kX : Box ((W2.alloc (.cells #[.slice ai ni ci, .slice ao no co] 46)).alloc (.cells #[.slice ai ni ci, .slice none 0 0] 46)) W2.heap.size 46 #[.slice ai ni ci, .slice ao no co] := (Box.new W2 _ _).keep (new_bel _ _)
          have kY := Box.new (W2.alloc (.cells #[.slice ai ni ci, .slice ao no co] 46)) 46 #[.slice ai ni ci, .slice none 0 0]
          rw [show (W2.alloc (.cells #[.slice ai ni ci, .slice ao no co] 46)).heap.size = W2.heap.size + 1 by simp] at kY
          have HKX : Hid (Box W2 (W0.heap.size + 1) 37 #[.slice ag ng cg, .slice xa j xc, .int .i64 cap] ∧ Own (inS xpS (fun b => b < w.heap.size ∨ W0.heap.size + 2 ≤ b)) W2 (W0.heap.size + 2) 46 (.slice xa j xc) ((xs.map Md.stillX).take j) ∧ Below W0.heap.size W0 W2) := ⟨hK, hown, hbel⟩
          have HI : Hid (matS.rep w everywhere [.slice ai ni ci] mi) := hi
          have HB2 : Hid (Below w.heap.size w W2) := hBw
          clear hE hi ho c0 c1 hK hown hbel hBw hXR
          go_upto_region 12 with fail
          clear d0 d1
          generalize ((W2.alloc (.cells #[.slice ai ni ci, .slice ao no co] 46)).alloc (.cells #[.slice ai ni ci, .slice none 0 0] 46)) = W3 at *
          have y1 := kX.cell 1 rfl
          have HY0 : Hid (Box W3 W2.heap.size 46 #[.slice ai ni ci, .slice ao no co] ∧ Box W3 (W2.heap.size + 1) 46 #[.slice ai ni ci, .slice none 0 0] ∧ Below W2.heap.size W2 W3) := ⟨kX, kY, hbn⟩
          clear kX kY hbn
          go_wp2
          go_loopw [63] (fun i wr => ∃ (n : Nat) (ya : Option Addr) (yc : Nat), n ≤ no ∧ i = .int .i64 n ∧ Box wr W2.heap.size 46 #[.slice ai ni ci, .slice ao no co] ∧ Box wr (W2.heap.size + 1) 46 #[.slice ai ni ci, .slice ya n yc] ∧ Own (inS rowS (W2.heap.size + 2 ≤ ·)) wr (W2.heap.size + 2) 47 (.slice ya n yc) (List.replicate n (List.replicate ni 0)) ∧ Below W2.heap.size W2 wr) (fun i _ => no - (intOf i).toNat)
          case atStart => exact ⟨0, none, 0, Nat.zero_le _, rfl, HY0.out.1, HY0.out.2.1, Own.nil _ _ _ _, HY0.out.2.2⟩
          case round =>
            clear HY0 y1
            obtain ⟨n, ya, yc, hn, rfl, hX, hY, hown, hbel⟩ := hrel
            have hsz3 := hY.lt
            by_cases hnt : n < no
            · have hni2 : (n : Int) < (no : Int) := by omega
              have hn00 : (0 : Int) ≤ (n : Int) := by omega
              have hmk := run_make_row' (P := Try.prog) 47 3 (.int .i64 0) 8 Try.underlying47 Try.infoInt rfl .i64 .i64 ni (by omega) (by omega)
              have hbA := new_bel wr (.cells (madeCells #[.int .i64 0] ni) 3)
              have hszA : (wr.alloc (.cells (madeCells #[.int .i64 0] ni) 3)).heap.size = wr.heap.size + 1 := by simp
              have src := (hown.keep hbA).esrc (inS_of (row_made wr ni (by omega)) (fun b (hb : wr.heap.size ≤ b) => (by omega : W2.heap.size + 2 ≤ b))) (fun b (hb : wr.heap.size ≤ b) h => by have := (hown.lt _ h.symm).2; omega)
              rw [hszA] at src
              have hbB : Below wr.heap.size wr ((wr.alloc (.cells (madeCells #[.int .i64 0] ni) 3)).alloc (.cells #[.slice (some ⟨wr.heap.size, 0, none⟩) ni ni] 47)).drew := (bel_two _ _ _).drew
              have srcD := Shape.below src.1 ((Below.refl _ _).drew)
              have src2 := src.2
              have hownD := hown.keep hbB
              have kXD := hX.keep hbB
              have kYD := hY.keep hbB
              have hbD := bel_then hbel hbB
              have hNeY : some (W2.heap.size + 1) ≠ Value.ownBlock (.slice ya n yc) := fun h => by have := (hown.lt _ h.symm).1; omega
              have hNeX : some W2.heap.size ≠ Value.ownBlock (.slice ya n yc) := fun h => by have := (hown.lt _ h.symm).1; omega
              have hsm : (List.replicate n (List.replicate ni (0 : Int))).length + 1 ≤ 100000 := by rw [List.length_replicate]; omega
              have hnl : (List.replicate n (List.replicate ni (0 : Int))).length + 1 = n + 1 := by rw [List.length_replicate]
              have HCAT : Hid (List.replicate n (List.replicate ni (0 : Int)) ++ [List.replicate ni 0] = List.replicate (n + 1) (List.replicate ni 0)) := by show _ = _; rw [List.replicate_succ']
              have hbs : W2.heap.size + 2 ≤ ((wr.alloc (.cells (madeCells #[.int .i64 0] ni) 3)).alloc (.cells #[.slice (some ⟨wr.heap.size, 0, none⟩) ni ni] 47)).drew.heap.size := by have := hbB.size; omega
              have x0 := hX.cell 0 rfl
              have z1 := hY.cell 1 rfl
              have ra1 : ∀ o, (wr.alloc o).cell? ⟨W2.heap.size + 1, 1, none⟩ = some (.slice ya n yc) := fun o => (hY.keep (new_bel wr o)).cell 1 rfl
              have rb1 : ∀ o o2, ((wr.alloc o).alloc o2).cell? ⟨W2.heap.size + 1, 1, none⟩ = some (.slice ya n yc) := fun o o2 => (hY.keep (bel_two wr o o2)).cell 1 rfl
              clear src hszA hX hY hown hbel hbA
              go_upto_region 14 with fail
              go_region_law
                (first
                  | (refine step_app (inS rowS (W2.heap.size + 2 ≤ ·)) (by simp [Region.wanted]) (.tmp 66) (.tmp 71) 25 (by rfl) (W2.heap.size + 2) 47 j0 _ 24 Try.underlying25 hj0 hj1 hj2 hj3 rfl Nat.one_pos (by omega) (by rfl) hownD (by rfl) srcD src2 hsm hbs (n + 1) hnl _ HCAT.out ?_; intro a6 c6 u6 ho6 hg6 hb6 hat6; have kY6 := kYD.grown hg6 hNeY; have z6 := kY6.cell 1 rfl; have f6 := kY6.free 1)
                  | (go_simp; go_wp2))
              all_goals
                have HR6 : Hid _ := And.intro ((kXD.grown hg6 hNeX).other (b2 := W2.heap.size + 1) (i := 1) (.slice a6 (n + 1) c6) (by omega)) (And.intro (kY6.set1 (.slice a6 (n + 1) c6)) (And.intro (ho6.aside (grown_set u6 (W2.heap.size + 1) 1 (.slice a6 (n + 1) c6)) (fun b (hb : W2.heap.size + 2 ≤ b) => by omega) (fun h => by have := (ho6.lt _ h).1; omega)) (bel_put (i := 1) (hbD.trans (hb6.mono (by omega))) (show W2.heap.size ≤ W2.heap.size + 1 by omega) (.slice a6 (n + 1) c6))))
                clear ho6 hg6 hb6 hat6 kY6 z6 f6 hownD srcD src2 kXD kYD hbD hbB x0 z1 ra1 rb1 hmk
                go_wp2
                go_roundw
                case rel => exact ⟨n + 1, a6, c6, by omega, by go_num, HR6.out.1, HR6.out.2.1, HR6.out.2.2.1, HR6.out.2.2.2⟩
                case measure => simp [intOf]; omega
            · have hnn : n = no := by omega
              subst hnn
              have hni2 : ¬ (n : Int) < (n : Int) := by omega
              have hbW := HB2.out
              have hBr := bel_then hbW hbel
              have kK := HKX.out.1.keep hbel
              have hoK := HKX.out.2.1.keep hbel
              have hbK := bel_then HKX.out.2.2 hbel
              have hNeK : some (W0.heap.size + 1) ≠ Value.ownBlock (.slice xa j xc) := fun h => by have := (HKX.out.2.1.lt _ h.symm).1; omega
              have hgK : ∀ b, Value.ownBlock (.slice xa j xc) = some b → W0.heap.size + 2 ≤ b ∧ b < W2.heap.size := fun b hb => HKX.out.2.1.lt b hb
              have hsz9 := HBw.out.size
              have hsz8 := HKO.out.2.2.size
              have hel : (inS xpS (fun b => b < w.heap.size ∨ W0.heap.size + 2 ≤ b)).rep wr (fun b => b < w.heap.size ∨ W2.heap.size + 2 ≤ b) [.slice ai ni ci, .slice ya n yc] (Md.stillX (mi, mo, ())) := by
                refine inS_of ?_ (fun b hb => by omega)
                have h7 := xp_rep (matS.mono (Shape.now (Shape.low HI.out) hBr) (fun b hb _ => (.inl hb : b < w.heap.size ∨ W2.heap.size + 2 ≤ b))) (hown.among (Q := fun b => b < w.heap.size ∨ W2.heap.size + 2 ≤ b) (fun b hb => .inr hb) (fun b hb _ _ => .inr hb))
                have e : Md.stillX (mi, mo, ()) = (mi, List.replicate n (List.replicate ni 0), ()) := by show (mi, List.replicate mo.length (List.replicate mi.length (0 : Int)), ()) = _; rw [HLI.out, HLO.out]
                rw [e]
                exact h7
              have src := hoK.esrc hel (fun b (hb : b < w.heap.size ∨ W2.heap.size + 2 ≤ b) h => by have := hgK b h.symm; omega)
              have ho3 := hoK.keep (new_bel wr (.cells #[.slice ai ni ci, .slice ya n yc] 46))
              have kK2 := kK.keep (new_bel wr (.cells #[.slice ai ni ci, .slice ya n yc] 46))
              have hsm : ((xs.map Md.stillX).take j).length + 1 ≤ 100000 := by rw [HTL2.out]; omega
              have hbs : ∀ o, W0.heap.size + 2 ≤ (wr.alloc o).heap.size := fun o => by have := hbK.size; simp; omega
              have y0 := hY.cell 0 rfl
              have y1 := hY.cell 1 rfl
              have x1 := kK.cell 1 rfl
              clear hoK hel hown
              go_wp2_with (at_builtin; (refine wpList_appK (inS xpS (fun b => b < w.heap.size ∨ W0.heap.size + 2 ≤ b)) (by simp [Region.wanted]) (.tmp 76) (.tmp 78) 35 rfl (W0.heap.size + 2) 46 l0 _ 48 Try.underlying35 hl0 hl1 hl2 hl3 rfl (by show 0 < 2; omega) (by omega) (by rfl) ho3 (by rfl) src.1 src.2 hsm (hbs _) (j + 1) HTL2.out _ HT2.out ?_; intro a6 c6 u6 ho6 hg6 hb6 hat6; have kb := kK2.grown hg6 hNeK; have z1 := kb.cell 1 rfl; have f1 := kb.free 1))
              have HR6 : Hid _ := And.intro (kb.set1of3 (.slice a6 (j + 1) c6)) (And.intro (ho6.aside (grown_set u6 (W0.heap.size + 1) 1 (.slice a6 (j + 1) c6)) (fun b hb => by omega) (fun h => by have := (ho6.lt _ h).1; omega)) (bel_put (i := 1) ((bel_alloc hbK (.cells #[.slice ai ni ci, .slice ya n yc] 46)).trans (hb6.mono (by omega))) (show W0.heap.size ≤ W0.heap.size + 1 by omega) (.slice a6 (j + 1) c6)))
              clear ho6 hg6 hb6 hat6 kb z1 f1 src ho3 kK2 kK y0 y1 x1 hbK hBr hX hY hbel
              go_roundw
              case rel => exact ⟨j + 1, a6, c6, by omega, by go_num, HR6.out.1, HR6.out.2.1, HR6.out.2.2⟩
              case measure => simp [intOf]; omega
        · have hjn : j = nx := by omega
          subst hjn
          have hji : ¬ (j : Int) < (j : Int) := by omega
          rw [List.take_of_length_le (by rw [List.length_map]; have := HLX.out; omega)] at hown
          have kS := HKO.out.1.keep hbel
          have hoS := HKO.out.2.1.keep hbel
          have hbS := bel_then HKO.out.2.2 hbel
          have hNeS : some u3.heap.size ≠ Value.ownBlock (.slice va k vc) := fun h => by have := (HKO.out.2.1.lt _ h.symm).1; omega
          have hgS : ∀ b, Value.ownBlock (.slice va k vc) = some b → u3.heap.size + 1 ≤ b ∧ b < W0.heap.size := fun b hb => HKO.out.2.1.lt b hb
          have hel : (inS lyS (fun b => b < w.heap.size ∨ u3.heap.size + 1 ≤ b)).rep W2 (fun b => b < w.heap.size ∨ W0.heap.size + 2 ≤ b) [.slice ag ng cg, .slice xa j xc, .int .i64 cap] (Md.stillL (g, xs, cap, ())) := by
            refine inS_of ?_ (fun b hb => by omega)
            exact ly_rep cap (matS.mono (Shape.now (Shape.low HG.out) hBw) (fun b hb _ => (.inl hb : b < w.heap.size ∨ W0.heap.size + 2 ≤ b))) (hown.among (Q := fun b => b < w.heap.size ∨ W0.heap.size + 2 ≤ b) (fun b hb => hb) (fun b hb _ _ => .inr hb))
          have src := hoS.esrc hel (fun b (hb : b < w.heap.size ∨ W0.heap.size + 2 ≤ b) h => by have := hgS b h.symm; omega)
          have ho3 := hoS.keep (new_bel W2 (.cells #[.slice ag ng cg, .slice xa j xc, .int .i64 cap] 37))
          have kS2 := kS.keep (new_bel W2 (.cells #[.slice ag ng cg, .slice xa j xc, .int .i64 cap] 37))
          have hsm : ((m0_1.map Md.stillL).take k).length + 1 ≤ 100000 := by rw [HTL.out]; omega
          have hbs : ∀ o, u3.heap.size + 1 ≤ (W2.alloc o).heap.size := fun o => by have := hbS.size; simp; omega
          have y0 := hK.cell 0 rfl
          have y1 := hK.cell 1 rfl
          have y2 := hK.cell 2 rfl
          have x1 := kS.cell 1 rfl
          clear hoS hel hown
          go_wp2_with (at_builtin; (refine wpList_appK (inS lyS (fun b => b < w.heap.size ∨ u3.heap.size + 1 ≤ b)) (by simp [Region.wanted]) (.tmp 83) (.tmp 85) 22 rfl (u3.heap.size + 1) 37 i0 _ 56 Try.underlying22 hi0 hi1 hi2 hi3 rfl (by show 0 < 3; omega) (by omega) (by rfl) ho3 (by rfl) src.1 src.2 hsm (hbs _) (k + 1) HTL.out _ HT1.out ?_; intro a6 c6 u6 ho6 hg6 hb6 hat6; have kb := kS2.grown hg6 hNeS; have z1 := kb.cell 1 rfl; have f1 := kb.free 1))
          have HR6 : Hid _ := And.intro (kb.set1 (.slice a6 (k + 1) c6)) (And.intro (ho6.aside (grown_set u6 u3.heap.size 1 (.slice a6 (k + 1) c6)) (fun b hb => by omega) (fun h => by have := (ho6.lt _ h).1; omega)) (bel_put (i := 1) ((bel_alloc hbS (.cells #[.slice ag ng cg, .slice xa j xc, .int .i64 cap] 37)).trans (hb6.mono (by omega))) (Nat.le_refl u3.heap.size) (.slice a6 (k + 1) c6)))
          clear ho6 hg6 hb6 hat6 kb z1 f1 src ho3 kS2 kS y0 y1 y2 x1 hbS hBw hK hbel
          go_roundw
          case rel => exact ⟨k + 1, a6, c6, by omega, by go_num, HR6.out.1, HR6.out.2.1, HR6.out.2.2⟩
          case measure => simp [intOf]; omega
    · have hkn : k = len0_1 := by omega
      subst hkn
      have hli : ¬ (k : Int) < (k : Int) := by omega
      rw [List.take_of_length_le (by rw [List.length_map]; have := HL.out; omega)] at hown
      have hlw := hown.plain
      have HSA := hid (Md.still_all HR.out HTR.out)
      have HC4 : Hid (Calls _ _ _ _ _) := mforward va k vc (m0_1.map Md.stillL) a0_0 a1 len1 cap1 m1 W0 hlw (Shape.below HT.out hBw) HSA.out.1 HTR.out
      have x0 := hM.cell 0 rfl
      have x1 := hM.cell 1 rfl
      have qW := HB3.out.2.keep hbel
      clear hown
      go_wp2_with fail
      refine HC4.out.mono ?_
      rintro e V4 ⟨hb4, ra, rc, rfl, hr4⟩
      rw [HSA.out.2] at hr4
      have hB4 := bel_then hBw hb4
      have q4 := qW.keep hb4
      obtain ⟨bl, ol, ag, ng, cg, ax, nx, cx, g, xs, cap, rfl, hbl, hEl, hg, hx, c0, c1, c2⟩ := ly_there HX.out (j := 0) (by omega)
      have hLR : Md.LRight (g, xs, cap, ()) a0_0 := by rw [← hEl]; exact HR.out.2.2.2.2 _ (in_of (by have := HL.out; omega) ly0)
      rw [show ol + 0 * 3 = ol by omega] at c0 c1 c2
      have d0 := (hB4.cell (by exact hbl)).trans c0
      have d1 := (hB4.cell (by exact hbl)).trans c1
      have d2 := (hB4.cell (by exact hbl)).trans c2
      have p1 := q4.cell 1 rfl
      have hl00 : (0 : Int) < (k : Int) := by omega
      have HC5 : Hid (Calls _ _ _ _ _) := mparts ag ng cg ax nx cx g xs cap a0_0 a1 len1 cap1 m1 V4 (Shape.below hg hB4) (Shape.below hx hB4) (Shape.below HT.out hB4) hLR HD.out HTR.out
      clear HC4 hlw hM x0 x1 hbel hEl hg hx c0 c1 c2 hLR hBw hb4 qW
      go_wp2_with fail
      refine HC5.out.mono ?_
      rintro e V5 ⟨hb5, pa, pn, pc, rfl, hps⟩
      have hB5 := bel_then hB4 hb5
      have hpl := (sliceS_len hps).1
      have hpn : pn ≤ 32 := by have := Md.parts_len (g, xs, cap, ()) m1; have := HLT.out; omega
      have HC6 : Hid (Calls _ _ _ _ _) := mcombine a1 len1 cap1 m1 pa pn pc _ none 0 0 [] V5 (Shape.below HT.out hB5) hps (rep_none _ _ _) (by omega) (by omega) (fun v hv => by have := HST.out.2 v hv; omega) (fun v hv => by simp at hv)
      have hr5 := Shape.below hr4 hb5
      clear HC5 hB4 hb5 hps hpl d0 d1 d2 p1 q4 hr4
      go_wp2_with fail
      refine HC6.out.mono ?_
      rintro e V6 ⟨hb6, sa, sc, rfl, hr6⟩
      rw [Md.combine_none] at hr6
      have hB6 := bel_then hB5 hb6
      have hSZ := Ex.small_sized HST.out
      have HS1 : Hid (Calls _ _ _ _ _) := msame ra a1 len1 rc cap1 m1 V6 (Shape.below hr5 hb6) (Shape.below HT.out hB6) hSZ
      have HS2 : Hid (∀ u, Below V6.heap.size V6 u → Calls Try.prog 19 #[.slice sa len1 sc, .slice a1 len1 cap1] u fun e w' => e = .returned (.bool true) ∧ Below u.heap.size u w') := fun u hu => msame sa a1 len1 sc cap1 m1 u (Shape.below hr6 hu) (Shape.below (Shape.below HT.out hB6) hu) hSZ
      clear HC6 hr5 hr6 hb6 hB5
      go_wp2_with fail
      refine HS1.out.mono ?_
      rintro e V7 ⟨rfl, hb7⟩
      go_wp2_with fail
      refine (HS2.out V7 hb7).mono ?_
      rintro e V8 ⟨rfl, hb8⟩
      go_wp2_with (go_at_call 11; refine (mawake _).mono ?_; rintro e u9 ⟨rfl, hb9⟩)
      go_ret
      exact ⟨rfl, bel_then (bel_then (bel_then hB6 hb7) hb8) hb9⟩

/- From the walk to the row. -/
set_option maxRecDepth 100000 in
theorem lifted (os : Os) (started : os.Started) (H : Type) (enc : TypeId × Value → H) :
    ReturnsInHanded {} Try.checked os 4 .any (Rows.modelStillSpec.pre6 enc Try.prog Try.f4 Rows.modelStillRow.domain false) (Rows.modelStillSpec.post enc Try.prog Try.f4 false true false false) := by
  refine returnsInHanded_of_change (C := Try.checked) own started (by kernel_rfl) Try.func4
    (ChangeSpec.witness6 (enc := enc) (C := Try.checked) false ⟨#[], #[.agg #[.int .i64 0, .slice none 0 0], .slice none 0 0], []⟩ 8 (by kernel_rfl) (by kernel_rfl) (by kernel_rfl) (by kernel_rfl)) ?_
  intro W base args ds gs before hval0 hW hcnd _
  have hval : ∀ (j : Nat) t v, Try.f4.params[j]? = some t → args[j]? = some v → Value.okWide Try.prog W .any base t v := hval0
  have hW' := hW
  obtain ⟨p, q, hA0, hV, rfl, hfz, hnd⟩ := hW
  have hA : DataW.TrodAll enc Try.prog W 0 (fun _ => true) true Try.f4.params.toList args.toList ds p := hA0
  rw [Try.params4] at hA hval
  obtain ⟨v0, vs0, d0, ds0, p0, q0, hargs, rfl, rfl, h0, r0⟩ := trodAll_cons hA
  obtain ⟨v1, vs1, d1, ds1, p1, q1, rfl, rfl, rfl, h1, r1⟩ := trodAll_cons r0
  obtain ⟨rfl, rfl, rfl⟩ := trodAll_nil r1
  obtain rfl : args = #[v0, v1] := by cases args; simp_all
  obtain ⟨rfl, rfl⟩ := trodVars_none hV
  obtain ⟨cs0, rfl⟩ := okWide_agg Try.underlying24 (hval 0 24 v0 rfl rfl)
  have k0 := h0
  have lt0 : ∀ x ∈ p0, x.block < W.heap.size := by obtain ⟨m, hm⟩ := k0; exact DataW.trod_lt m _ _ _ hm
  obtain ⟨y0, hy0, hw0⟩ : ∃ y, (consS (intS .i64) (consS (sliceS (consS (sliceS (sliceS (intS .i64))) (consS (sliceS (consS (sliceS (sliceS (intS .i64))) (consS (sliceS (sliceS (intS .i64))) noneS))) (consS (intS .i64) noneS)))) noneS)).rep W everywhere cs0 y ∧ ((Lit.int .i64 y.1).wf = true ∧ ((∀ x0 ∈ y.2.1, ((∀ x1 ∈ x0.1, (∀ x2 ∈ x1, (Lit.int .i64 x2).wf = true)) ∧ ((∀ x1 ∈ x0.2.1, ((∀ x2 ∈ x1.1, (∀ x3 ∈ x2, (Lit.int .i64 x3).wf = true)) ∧ ((∀ x2 ∈ x1.2.1, (∀ x3 ∈ x2, (Lit.int .i64 x3).wf = true)) ∧ True))) ∧ ((Lit.int .i64 x0.2.2.1).wf = true ∧ True)))) ∧ True)) := by
    obtain ⟨fuel, hf⟩ := h0
    exact (opens_struct Try.underlying24 (show Try.prog.cellsOf 24 = 2 by kernel_rfl) (opensAt_cons (A := (intS .i64)) rfl (show Try.prog.cellsOf 3 = 1 by kernel_rfl) (opens_int Try.underlying3) (opensAt_cons (A := (sliceS (consS (sliceS (sliceS (intS .i64))) (consS (sliceS (consS (sliceS (sliceS (intS .i64))) (consS (sliceS (sliceS (intS .i64))) noneS))) (consS (intS .i64) noneS))))) rfl (show Try.prog.cellsOf 22 = 1 by kernel_rfl) (opens_slice (A := (consS (sliceS (sliceS (intS .i64))) (consS (sliceS (consS (sliceS (sliceS (intS .i64))) (consS (sliceS (sliceS (intS .i64))) noneS))) (consS (intS .i64) noneS)))) Try.underlying22 (show Try.prog.cellsOf 37 = 3 by kernel_rfl) (by exact Nat.succ_pos _) (opens_struct Try.underlying37 (show Try.prog.cellsOf 37 = 3 by kernel_rfl) (opensAt_cons (A := (sliceS (sliceS (intS .i64)))) rfl (show Try.prog.cellsOf 25 = 1 by kernel_rfl) (opens_slice (A := (sliceS (intS .i64))) Try.underlying25 (show Try.prog.cellsOf 47 = 1 by kernel_rfl) (by exact Nat.succ_pos _) (opens_slice (A := (intS .i64)) Try.underlying47 (show Try.prog.cellsOf 3 = 1 by kernel_rfl) (by exact Nat.succ_pos _) (opens_int Try.underlying3))) (opensAt_cons (A := (sliceS (consS (sliceS (sliceS (intS .i64))) (consS (sliceS (sliceS (intS .i64))) noneS)))) rfl (show Try.prog.cellsOf 35 = 1 by kernel_rfl) (opens_slice (A := (consS (sliceS (sliceS (intS .i64))) (consS (sliceS (sliceS (intS .i64))) noneS))) Try.underlying35 (show Try.prog.cellsOf 46 = 2 by kernel_rfl) (by exact Nat.succ_pos _) (opens_struct Try.underlying46 (show Try.prog.cellsOf 46 = 2 by kernel_rfl) (opensAt_cons (A := (sliceS (sliceS (intS .i64)))) rfl (show Try.prog.cellsOf 25 = 1 by kernel_rfl) (opens_slice (A := (sliceS (intS .i64))) Try.underlying25 (show Try.prog.cellsOf 47 = 1 by kernel_rfl) (by exact Nat.succ_pos _) (opens_slice (A := (intS .i64)) Try.underlying47 (show Try.prog.cellsOf 3 = 1 by kernel_rfl) (by exact Nat.succ_pos _) (opens_int Try.underlying3))) (opensAt_cons (A := (sliceS (sliceS (intS .i64)))) rfl (show Try.prog.cellsOf 25 = 1 by kernel_rfl) (opens_slice (A := (sliceS (intS .i64))) Try.underlying25 (show Try.prog.cellsOf 47 = 1 by kernel_rfl) (by exact Nat.succ_pos _) (opens_slice (A := (intS .i64)) Try.underlying47 (show Try.prog.cellsOf 3 = 1 by kernel_rfl) (by exact Nat.succ_pos _) (opens_int Try.underlying3))) opensAt_nil (by rfl)) (by rfl)))) (opensAt_cons (A := (intS .i64)) rfl (show Try.prog.cellsOf 3 = 1 by kernel_rfl) (opens_int Try.underlying3) opensAt_nil (by rfl)) (by rfl)) (by rfl)))) opensAt_nil (by rfl)) (by rfl))) H enc W _ _ _ fuel _ _ (by simpa [Value.cells] using hf)
  obtain ⟨a0_0, m0_1, _⟩ := y0
  obtain ⟨d0_0, rfl, hy0_0⟩ := consS_int hy0
  obtain ⟨a0_1, len0_1, cap0_1, d0_1, rfl, w0_1, hy0_1⟩ := consS_slice hy0_0
  obtain rfl := noneS_nil hy0_1
  obtain ⟨w0_0, f0_1, _⟩ := hw0
  obtain ⟨a1, len1, cap1, rfl⟩ := okWide_slice Try.underlying25 (hval 1 25 v1 rfl rfl)
  have k1 := h1
  have lt1 : ∀ x ∈ p1, x.block < W.heap.size := by obtain ⟨m, hm⟩ := k1; exact DataW.trod_lt m _ _ _ hm
  obtain ⟨m1, w1, f1⟩ : ∃ y, (sliceS (sliceS (intS .i64))).rep W everywhere [.slice a1 len1 cap1] y ∧ (∀ x0 ∈ y, (∀ x1 ∈ x0, (Lit.int .i64 x1).wf = true)) := by
    obtain ⟨fuel, hf⟩ := h1
    exact (opens_slice (A := (sliceS (intS .i64))) Try.underlying25 (show Try.prog.cellsOf 47 = 1 by kernel_rfl) (by exact Nat.succ_pos _) (opens_slice (A := (intS .i64)) Try.underlying47 (show Try.prog.cellsOf 3 = 1 by kernel_rfl) (by exact Nat.succ_pos _) (opens_int Try.underlying3))) H enc W _ _ _ fuel _ _ hf
  clear hA0 hval0
  refine (walk a0_0 a0_1 len0_1 cap0_1 m0_1 a1 len1 cap1 m1 W w0_0 w0_1 f0_1 w1 f1).mono fun e W' ⟨he, bel⟩ => ?_
  subst he
  exact ⟨_, rfl, _, _, _, [], _, [], hW', trodAll_mk1 (shut_bool Try.underlying4 _), (trodAll_cons_mk (Below.trod laidOut (by kernel_rfl) (of_decide_eq_true (by kernel_rfl)) k0 bel lt0) (trodAll_cons_mk (Below.trod laidOut (by kernel_rfl) (of_decide_eq_true (by kernel_rfl)) k1 bel lt1) trodAll_mk0)), rfl, bel.frame _, fun h => by cases h⟩

theorem over : Rows.modelStillRow.holds Try.pinned (OpenSpec.ofChange Rows.modelStillSpec) :=
  OpenClaim.holds_of_wide 4 Try.f4 rfl rfl rfl rfl rfl rfl rfl ⟨rfl, rfl, rfl, rfl, rfl⟩ rfl rfl rfl rfl rfl (by kernel_rfl) Try.func4 (by kernel_rfl)
    (of_decide_eq_true (by kernel_rfl)) (by unfold Func.isWrapper; first | (rw [if_pos (by decide +kernel)]; kernel_rfl) | (rw [if_neg (by decide +kernel)]; exact ⟨rfl, rfl⟩))
    (fun os started H enc _ => lifted os started H enc)

end Go.Proofs.Ytmechoeoaadfeaa.modelStill

namespace Go.Proofs.Ytmechoeoaadfeaa
theorem modelStill_holds : Rows.ModelStillSaid := modelStill.over
end Go.Proofs.Ytmechoeoaadfeaa
