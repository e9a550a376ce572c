/- What the document's Forward of layer 15 does when called. -/
import Derived.Test.YtfidgcanolegfaaGreatMdlG
namespace Go.Proofs.YtfidgcanolegfaaGreat
open Go.ChangeShapes Go.WideShapes Go.ChangeAt Go.RowKit

set_option maxHeartbeats 4000000 in
set_option maxRecDepth 100000 in
theorem rmforwardP {P : Nat → Prop} (a : Option Addr) (n c : Nat) (ls : List Ly) (dim : Int) (b : Option Addr) (m d : Nat) (ts : List (List Int)) (w : World) (h : lysS.rep w everywhere [.slice a n c] ls) (ht : matS.rep w P [.slice b m d] ts) (hR : Md.Right dim ls) (hT : Md.TRight dim ts) :
    Calls Tryz.prog 21 #[.agg #[.int .i64 dim, .slice a n c], .slice b m d] w fun e w' => Below w.heap.size w w' ∧ ∃ a' c', e = .returned (.slice a' m c') ∧ matS.rep w' (fun b => P b ∨ w.heap.size ≤ b) [.slice a' m c'] (Md.forward ls ts) := by
  have hl := (sliceS_len h).1
  have hlt0 := (sliceS_len ht).1
  have hB := new_bel w (.cells #[.int .i64 dim, .slice a n c] 24)
  have hn : n ≤ 4 := by have := hR.2.2.2.1; omega
  have HZ : Hid (∀ l ∈ ls, Md.LRight l dim) := hR.2.2.2.2
  have HL : Hid (ls.length = n) := hl
  have HLT : Hid (ts.length = m) := hlt0
  have hm : m ≤ 16 := by have := hT.2.1; omega
  have HX : Hid (lysS.rep w everywhere [.slice a n c] ls) := h
  have HT : Hid (matS.rep w P [.slice b m d] ts) := ht
  have HTR : Hid (Md.TRight dim ts) := hT
  have HD : Hid (dim ≤ 8) := hR.2.1
  obtain ⟨j0, hj0, hj1, hj2, hj3⟩ := info_parts Tryz.infoRow
  clear h ht hl hlt0 hR hT
  go_enter Tryz.func21, Tryz.ntmps21
  go_wp2
  go_loopw [1, 16] (fun v i wr => ∃ (k : Nat) (a' : Option Addr) (c' : Nat), k ≤ n ∧ v = .slice a' m c' ∧ i = .int .i64 k ∧ matS.rep wr (fun b => P b ∨ w.heap.size ≤ b) [.slice a' m c'] (Md.forward (ls.take k) ts) ∧ Below w.heap.size w wr) (fun _ i _ => n - (intOf i).toNat)
  case atStart => exact ⟨0, b, d, Nat.zero_le _, rfl, rfl, by rw [List.take_zero]; exact matS.mono (Shape.below HT.out hB) (fun _ hb _ => .inl hb), hB⟩
  case round =>
    clear hB
    obtain ⟨k, a', c', hk, rfl, rfl, htk, hbel⟩ := hrel
    obtain ⟨W0, hW0⟩ : ∃ W0, W0 = wr := ⟨_, rfl⟩
    subst hW0
    by_cases hlt : k < n
    · obtain ⟨b1, off, ag, ng, cg, ax, nx, cx, g, xs, cap, rfl, hb, hE, hg, hx, c0, c1, c2⟩ := ly_there HX.out hlt
      have hli : (k : Int) < (n : Int) := by omega
      have hk0 : (0 : Int) ≤ (k : Int) := by omega
      have hkl : k < ls.length := by have := HL.out; omega
      have hLR : Md.LRight (g, xs, cap, ()) dim := by rw [← hE]; exact HZ.out _ (in_of hkl ly0)
      have hTR : Md.TRight dim (Md.forward (ls.take k) ts) := Md.forward_right (fun l hl => HZ.out l (List.mem_of_mem_take hl)) HTR.out
      have HN : Hid (Md.forward (ls.take (k + 1)) ts = Md.step (g, xs, cap, ()) (Md.forward (ls.take k) ts)) := by show _ = _; rw [Md.forward_next hkl, hE]
      have d0 := (hbel.cell (by exact hb)).trans c0
      have d1 := (hbel.cell (by exact hb)).trans c1
      have d2 := (hbel.cell (by exact hb)).trans c2
      have hbn := new_bel W0 (.cells #[.slice ag ng cg, .slice ax nx cx, .int .i64 cap] 65)
      have kb := Box.new W0 65 #[.slice ag ng cg, .slice ax nx cx, .int .i64 cap]
      have hbelA := bel_then hbel hbn
      have htA := Shape.below htk hbn
      generalize Md.forward (ls.take k) ts = T at *
      have hTl : T.length = m := (sliceS_len htk).1
      have HC : Hid (Calls _ _ _ _ _) := rmparts ag ng cg ax nx cx g xs cap dim a' m c' T _ (Shape.below hg hbelA) (Shape.below hx hbelA) (Shape.any htA) hLR HD.out hTR
      have HLR : Hid (Md.LRight (g, xs, cap, ()) dim ∧ Md.TRight dim T) := ⟨hLR, hTR⟩
      have HXX : Hid (xpsS.rep w everywhere [.slice ax nx cx] xs) := hx
      have HLX : Hid (xs.length = nx) := (sliceS_len hx).1
      have HTl : Hid (T.length = m) := hTl
      clear hE hg hx c0 c1 c2 hLR hTR htk hbel hbn hTl
      go_wp2_with fail
      refine HC.out.mono ?_
      rintro e V ⟨hb3, pa, pn, pc, rfl, hps⟩
      obtain ⟨L, hL⟩ : ∃ L, L = W0.heap.size := ⟨_, rfl⟩
      have HKB : Hid (Box V L 65 #[.slice ag ng cg, .slice ax nx cx, .int .i64 cap]) := by rw [hL]; exact kb.keep hb3
      have HLE : Hid (L = W0.heap.size) := hL
      have HB3 : Hid (Below w.heap.size w V) := bel_then hbelA hb3
      have HT3 : Hid (matS.rep V (fun b => P b ∨ w.heap.size ≤ b) [.slice a' m c'] T) := Shape.below htA hb3
      have HPS : Hid (ptsS.rep V everywhere [.slice pa pn pc] (Md.parts (g, xs, cap, ()) T)) := hps
      have HPL : Hid ((Md.parts (g, xs, cap, ()) T).length = pn) := (sliceS_len hps).1
      have hpn : pn ≤ 32 := by have := Md.parts_len (g, xs, cap, ()) T; have := HTl.out; have := HPL.out; omega
      clear HC hbelA htA kb hb3 d0 d1 d2 hps
      go_upto_region 5 with fail
      rw [← hL]
      clear hL
      go_wp2
      go_loopw [8, 9] (fun v i wr => ∃ (t : Nat) (na : Option Addr) (nc : Nat), t ≤ m ∧ v = .slice na t nc ∧ i = .int .i64 t ∧ Own (inS rowS (fun b => P b ∨ w.heap.size ≤ b)) wr V.heap.size 42 (.slice na t nc) (Md.stepTo (g, xs, cap, ()) T t) ∧ Below V.heap.size V wr) (fun _ i _ => m - (intOf i).toNat)
      case atStart => exact ⟨0, none, 0, Nat.zero_le _, rfl, rfl, Own.nil _ _ _ _, Below.refl _ _⟩
      case round =>
        obtain ⟨t, na, nc, htm, rfl, rfl, hown, hbel⟩ := hrel
        obtain ⟨Wt, hWt⟩ : ∃ Wt, Wt = wr := ⟨_, rfl⟩
        subst hWt
        by_cases htt : t < m
        · obtain ⟨b1, o1, A, C, rfl, hb1, e0, hr⟩ := mat_at HT3.out htt
          have hti : (t : Int) < (m : Int) := by omega
          have ht0 : (0 : Int) ≤ (t : Int) := by omega
          have htl : t < T.length := by have := HTl.out; omega
          have HVL : Hid (((T.getD t []).length : Int) = dim) := (HLR.out.2.row htl).1
          obtain ⟨nv, hnv⟩ : ∃ nv, (T.getD t []).length = nv := ⟨_, rfl⟩
          rw [hnv] at e0 hr
          have HNV : Hid ((T.getD t []).length = nv) := hnv
          have hnv8 : nv ≤ 8 := by have := HVL.out; have := HD.out; omega
          have hdv : (nv : Int) = dim := by have := HVL.out; rw [hnv] at this; exact this
          have HDV : Hid ((nv : Int) = dim) := hdv
          have HST : Hid (Md.stepTo (g, xs, cap, ()) T (t + 1) = Md.stepTo (g, xs, cap, ()) T t ++ [Md.along (g, xs, cap, ()) T t (Md.parts (g, xs, cap, ()) T)]) := by show _ = _; rw [Md.stepTo_succ, Md.along_all _ htl]
          have HSL : Hid ((Md.stepTo (g, xs, cap, ()) T t).length + 1 = t + 1) := by show _ = _; rw [Md.stepTo_len]
          have HR0 : Hid (rowS.rep V (fun b => (P b ∨ w.heap.size ≤ b) ∧ b < V.heap.size) [.slice A nv C] (T.getD t [])) := rowS.mono hr (fun b hb hlt => ⟨hb, hlt⟩)
          have HE0 : Hid (V.cell? ⟨b1, o1 + t, none⟩ = some (.slice A nv C) ∧ b1 < V.heap.size) := ⟨e0, hb1⟩
          have HOW : Hid (Own (inS rowS (fun b => P b ∨ w.heap.size ≤ b)) Wt V.heap.size 42 (.slice na t nc) (Md.stepTo (g, xs, cap, ()) T t) ∧ Below V.heap.size V Wt) := ⟨hown, hbel⟩
          have c0 := (hbel.cell (by exact hb1)).trans e0
          clear hown hbel e0 hr hnv hdv
          go_wp2
          go_loopw [10, 35] (fun v i wr => ∃ (j : Nat) (va : Option Addr) (vc : Nat), j ≤ pn ∧ v = .slice va nv vc ∧ i = .int .i64 j ∧ rowS.rep wr (fun b => ((P b ∨ w.heap.size ≤ b) ∧ b < V.heap.size) ∨ Wt.heap.size ≤ b) [.slice va nv vc] (Md.along (g, xs, cap, ()) T t ((Md.parts (g, xs, cap, ()) T).take j)) ∧ Below Wt.heap.size Wt wr) (fun _ i _ => pn - (intOf i).toNat)
          case atStart =>
            refine ⟨0, A, C, Nat.zero_le _, rfl, rfl, ?_, Below.refl _ _⟩
            rw [List.take_zero, Md.along_nil]
            exact rowS.mono (Shape.below HR0.out HOW.out.2) (fun b hb _ => .inl hb)
          case round =>
            clear c0
            obtain ⟨j, va, vc, hj, rfl, rfl, hv, hbel⟩ := hrel
            have hbV := bel_then HOW.out.2 hbel
            by_cases hjt : j < pn
            · obtain ⟨b2, o2, tok, r, x, s, rfl, _, hE, c0, c1, c2, c3⟩ := pt_there (Shape.below HPS.out hbV) hjt
              have hji : (j : Int) < (pn : Int) := by omega
              have hj00 : (0 : Int) ≤ (j : Int) := by omega
              have hjl : j < (Md.parts (g, xs, cap, ()) T).length := by have := HPL.out; omega
              by_cases htk : tok = (t : Int)
              · subst htk
                have e1 : ((t : Int) == (t : Int)) = true := by simp
                have hfit := Md.part_fits (in_of hjl pt0)
                rw [hE] at hfit
                obtain ⟨x', rfl⟩ : ∃ x' : Nat, x = x' := ⟨x.toNat, by have : 0 ≤ x := hfit.2.2.1; omega⟩
                have hxl : x' < xs.length := by have : (x' : Int) < (xs.length : Int) := hfit.2.2.2; omega
                have hxm : x' < nx := by have := HLX.out; omega
                obtain ⟨b5, o5, ai, ni, ci, ao, no, co, mi, mo, rfl, hb5, hEx, hi, ho, x1, x2⟩ := xp_there HXX.out hxm
                have hbw := bel_then HB3.out hbV
                have hRx : Ex.Right mi mo dim := by have h7 := HLR.out.1.2.2.2.2.2 _ (in_of hxl xp0); rw [hEx] at h7; exact h7
                rw [← HDV.out] at hRx
                have HRx : Hid (Ex.Right mi mo nv) := hRx
                have hSi : Ex.Sized mi := Md.right_sized hRx.2.2.1 (by have := hRx.2.1; omega) (by omega)
                have hSo : Ex.Sized mo := Md.right_sized hRx.2.2.2 (by omega) (by have := hRx.2.1; omega)
                have HAL : Hid (Md.along (g, xs, cap, ()) T t ((Md.parts (g, xs, cap, ()) T).take (j + 1)) = Vx.add (Md.along (g, xs, cap, ()) T t ((Md.parts (g, xs, cap, ()) T).take j)) (Vx.scale (Ex.run mi mo (T.getD t [])) s)) := by
                  show _ = _
                  rw [Md.along_yes hjl (by rw [hE]; rfl), hE]
                  show Vx.add _ (Vx.scale (Ex.run (xs.getD x' xp0).1 (xs.getD x' xp0).2.1 (T.getD t [])) s) = _
                  rw [hEx]
                generalize Md.along (g, xs, cap, ()) T t ((Md.parts (g, xs, cap, ()) T).take j) = Al at *
                have hbn := new_bel wr (.cells #[.int .i64 (t : Int), .int .i64 r, .int .i64 (x' : Int), .int .i64 s] 84)
                have kp := Box.new wr 84 #[.int .i64 (t : Int), .int .i64 r, .int .i64 (x' : Int), .int .i64 s]
                have hbelX := bel_then hbel hbn
                have hbVX := bel_then hbV hbn
                have hbwX := bel_then hbw hbn
                have hvX := Shape.below hv hbn
                have kl := HKB.out.keep hbVX
                have f1 := (hbwX.cell (by exact hb5)).trans x1
                have f2 := (hbwX.cell (by exact hb5)).trans x2
                have f3 := (hbVX.cell (by exact HE0.out.2)).trans HE0.out.1
                have hXA : Exp (wr.alloc (.cells #[.int .i64 (t : Int), .int .i64 r, .int .i64 (x' : Int), .int .i64 s] 84)) ai ni ci ao no co mi mo := ⟨Shape.below hi hbwX, Shape.below ho hbwX⟩
                have hvr := (Row.of_rep HR0.out).keep hbVX
                have hxi : (x' : Int) < (nx : Int) := by omega
                have hx0 : (0 : Int) ≤ (x' : Int) := by omega
                have hszW : Wt.heap.size ≤ wr.heap.size := hbel.size
                clear hE hfit hEx hi ho x1 x2 hRx hv hbel hbV hbw hbn
                go_upto_region 14 with fail
                clear c0 c1 c2 c3
                generalize wr.alloc (.cells #[.int .i64 (t : Int), .int .i64 r, .int .i64 (x' : Int), .int .i64 s] 84) = X at *
                have HSZ : Hid (wr.heap.size < X.heap.size) := kp.lt
                have hD : Below X.heap.size X X.drew := (Below.refl _ X).drew
                have HC : Hid (Calls _ _ _ _ _) := rxrun ai ni ci ao no co mi mo A nv C (T.getD t []) X.drew (hXA.below hD) hSi hSo (hvr.keep hD) (by omega) HRx.out
                have HH : Hid (∀ u, Below X.heap.size X u → u.cell? ⟨L, 1, none⟩ = some (.slice (some ⟨b5, o5, none⟩) nx cx) ∧ u.cell? ⟨wr.heap.size, 2, none⟩ = some (.int .i64 (x' : Int)) ∧ u.cell? ⟨wr.heap.size, 3, none⟩ = some (.int .i64 s) ∧ u.cell? ⟨b5, o5 + x' * 2, none⟩ = some (.slice ai ni ci) ∧ u.cell? ⟨b5, o5 + x' * 2 + 1, none⟩ = some (.slice ao no co) ∧ u.cell? ⟨b1, o1 + t, none⟩ = some (.slice A nv C)) := fun u hb => ⟨(kl.keep hb).cell 1 rfl, (kp.keep hb).cell 2 rfl, (kp.keep hb).cell 3 rfl, (hb.cell (World.block_lt_of_cell? X _ f1)).trans f1, (hb.cell (World.block_lt_of_cell? X _ f2)).trans f2, (hb.cell (World.block_lt_of_cell? X _ f3)).trans f3⟩
                have g1 := kl.cell 1 rfl
                have g2 := kp.cell 2 rfl
                have g3 := kp.cell 3 rfl
                have hAr := Row.of_rep hvX
                clear hvr hXA hSi hSo
                go_region_held3 (fun w' => w'.cell? ⟨L, 1, none⟩ = some (.slice (some ⟨b5, o5, none⟩) nx cx) ∧ w'.cell? ⟨wr.heap.size, 2, none⟩ = some (.int .i64 (x' : Int)) ∧ w'.cell? ⟨wr.heap.size, 3, none⟩ = some (.int .i64 s) ∧ w'.cell? ⟨b5, o5 + x' * 2, none⟩ = some (.slice ai ni ci) ∧ w'.cell? ⟨b5, o5 + x' * 2 + 1, none⟩ = some (.slice ao no co) ∧ w'.cell? ⟨b1, o1 + t, none⟩ = some (.slice A nv C))
                  (first
                    | exact HH.out _ hd7
                    | exact HH.out _ hd6
                    | exact HH.out _ hd5
                    | exact HH.out _ hD
                    | exact HH.out _ (Below.refl _ _)
                    | go_keep)
                  (first
                    | (go_at_call 53; refine HC.out.mono ?_; rintro e u5 ⟨a5, c5, rfl, hr5, hb5'⟩; have hd5 := bel_then hD hb5')
                    | (go_at_call 52; refine (rscale a5 nv c5 s _ u5 (Row.of_rep hr5) (by omega)).mono ?_; rintro e u6 ⟨a6, c6, rfl, hr6, hb6'⟩; have hd6 := bel_then hd5 hb6')
                    | (go_at_call 51; refine (raddH va a6 nv vc c6 _ _ u6 (hAr.keep hd6) hr6 (by omega)).mono ?_; rintro e u7 ⟨a7, c7, rfl, hr7, hb7'⟩; have hd7 := bel_then hd6 hb7'))
                rw [← HAL.out] at hr7
                have hs6 : X.heap.size ≤ u6.heap.size := hd6.size
                have HR7 : Hid _ := And.intro (rowS.mono hr7 (fun b (hb : u6.heap.size ≤ b) _ => (.inr (by have := HSZ.out; omega) : ((P b ∨ w.heap.size ≤ b) ∧ b < V.heap.size) ∨ Wt.heap.size ≤ b))) (bel_then hbelX hd7)
                clear hr7 hr6 hr5 hd7 hd6 hd5 hD hb5' hb6' hb7' HH HC hAr hvX kl kp f1 f2 f3 g1 g2 g3 hbelX hbVX hbwX hs6
                go_wp2
                go_roundw
                case rel => exact ⟨j + 1, a7, c7, by omega, rfl, by go_num, HR7.out.1, HR7.out.2⟩
                case measure => simp [intOf]; omega
              · have e1 : (tok == (t : Int)) = false := by simpa using htk
                have HAL : Hid (Md.along (g, xs, cap, ()) T t ((Md.parts (g, xs, cap, ()) T).take (j + 1)) = Md.along (g, xs, cap, ()) T t ((Md.parts (g, xs, cap, ()) T).take j)) := Md.along_no hjl (by rw [hE]; exact htk)
                rw [← HAL.out] at hv
                have hbn := new_bel wr (.cells #[.int .i64 tok, .int .i64 r, .int .i64 x, .int .i64 s] 84)
                have HR7 : Hid _ := And.intro (Shape.below hv hbn) (bel_then hbel hbn)
                clear hv hbel hbn hE htk hbV
                go_wp2
                go_roundw
                case rel => exact ⟨j + 1, va, vc, by omega, rfl, by go_num, HR7.out.1, HR7.out.2⟩
                case measure => simp [intOf]; omega
            · have hjn : j = pn := by omega
              subst hjn
              have hji : ¬ (j : Int) < (j : Int) := by omega
              rw [List.take_of_length_le (by have := HPL.out; omega)] at hv
              have hown := HOW.out.1.keep hbel
              have hgO : ∀ b, Value.ownBlock (.slice na t nc) = some b → V.heap.size ≤ b ∧ b < Wt.heap.size := fun b hb => HOW.out.1.lt b hb
              have hwWt := (bel_then HB3.out HOW.out.2).size
              have src := hown.esrc (inS_of hv (fun b hb => hb.elim (fun h => h.1) (fun h => .inr (by omega)))) (fun b (hb : ((P b ∨ w.heap.size ≤ b) ∧ b < V.heap.size) ∨ Wt.heap.size ≤ b) h => by have := hgO b h.symm; rcases hb with hb | hb <;> omega)
              have ho3 := hown.keep (new_bel wr (.cells #[.slice va nv vc] 42))
              have hsm : (Md.stepTo (g, xs, cap, ()) T t).length + 1 ≤ 100000 := by rw [HSL.out]; omega
              have hbs : ∀ o, V.heap.size ≤ (wr.alloc o).heap.size := fun o => by have := hbV.size; simp; omega
              clear hown hv
              go_wp2_with (at_builtin; (refine wpList_appK (inS rowS (fun b => P b ∨ w.heap.size ≤ b)) (by simp [Region.wanted]) (.tmp 60) (.tmp 62) 25 rfl V.heap.size 42 j0 _ 24 Tryz.underlying25 hj0 hj1 hj2 hj3 rfl Nat.one_pos (by omega) (by rfl) ho3 (by rfl) src.1 src.2 hsm (hbs _) (t + 1) HSL.out _ HST.out.symm ?_; intro a6 c6 u6 ho6 hg6 hb6 hat6))
              have HR6 : Hid _ := And.intro ho6 ((bel_alloc hbV (.cells #[.slice va nv vc] 42)).trans hb6)
              clear ho6 hg6 hb6 hat6 src ho3 hbV hbel
              go_roundw
              case rel => exact ⟨t + 1, a6, c6, by omega, rfl, by go_num, HR6.out.1, HR6.out.2⟩
              case measure => simp [intOf]; omega
        · have htn : t = m := by omega
          subst htn
          have hti : ¬ (t : Int) < (t : Int) := by omega
          have hR := hown.among (Q := (fun b => P b ∨ w.heap.size ≤ b)) (fun _ hb => hb) (fun b hb _ _ => .inr (Nat.le_trans HB3.out.size hb))
          have e9 : Md.stepTo (g, xs, cap, ()) T t = Md.step (g, xs, cap, ()) T := by unfold Md.step; rw [HTl.out]
          rw [e9, ← HN.out] at hR
          have HR6 : Hid _ := And.intro hR (bel_then HB3.out hbel)
          clear hown hR hbel e9
          go_wp2
          go_roundw
          case rel => exact ⟨k + 1, na, nc, by omega, rfl, by go_num, HR6.out.1, HR6.out.2⟩
          case measure => simp [intOf]; omega
    · have hkn : k = n := by omega
      subst hkn
      have hli : ¬ (k : Int) < (k : Int) := by omega
      rw [List.take_of_length_le (by have := HL.out; omega)] at htk
      have HR5 : Hid _ := And.intro hbel htk
      clear htk hbel
      go_wp2
      go_ret
      exact ⟨HR5.out.1, _, _, rfl, HR5.out.2⟩
theorem rmforward (a : Option Addr) (n c : Nat) (ls : List Ly) (dim : Int) (b : Option Addr) (m d : Nat) (ts : List (List Int)) (w : World) (h : lysS.rep w everywhere [.slice a n c] ls) (ht : matS.rep w everywhere [.slice b m d] ts) (hR : Md.Right dim ls) (hT : Md.TRight dim ts) :
    Calls Tryz.prog 21 #[.agg #[.int .i64 dim, .slice a n c], .slice b m d] w fun e w' => Below w.heap.size w w' ∧ ∃ a' c', e = .returned (.slice a' m c') ∧ matS.rep w' everywhere [.slice a' m c'] (Md.forward ls ts) :=
  (rmforwardP a n c ls dim b m d ts w h ht hR hT).mono fun _ _ ⟨h1, a', c', h2, h3⟩ => ⟨h1, a', c', h2, Shape.any h3⟩

end Go.Proofs.YtfidgcanolegfaaGreat
