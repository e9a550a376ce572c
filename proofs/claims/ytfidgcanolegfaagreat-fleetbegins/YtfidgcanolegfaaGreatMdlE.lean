/- What model.Combine does when called. -/
import Derived.Test.YtfidgcanolegfaaGreatMdlD
namespace Go.Proofs.YtfidgcanolegfaaGreat
open Go.ChangeShapes Go.WideShapes Go.ChangeAt Go.RowKit

/-- What 'make([][]int, n)' lays, among certain blocks. -/
theorem Own.rows_madeP {P : Nat → Prop} {w : World} {base g n c : Nat} {e : TypeId} (h : w.ownsRow base e 1 (.slice (some ⟨g, 0, none⟩) n c) n (madeCells #[.slice none 0 0] n).toList) : Own (inS rowS P) w base e (.slice (some ⟨g, 0, none⟩) n c) (List.replicate n []) :=
  Own.made (A := inS rowS P) (z := [.slice none 0 0]) (by show 0 < 1; omega) rfl (by show w.ownsRow base e 1 _ n (madeCells #[.slice none 0 0] (n * 1)).toList; rw [Nat.mul_one]; exact h) (fun F => rep_none _ _ _)

set_option maxHeartbeats 4000000 in
set_option maxRecDepth 100000 in
theorem mcombineH (a : Option Addr) (n c : Nat) (ts : List (List Int)) (pa : Option Addr) (pn pc : Nat) (ps : List Pt) (ya : Option Addr) (yn yc : Nat) (ys : List (List Int)) (w : World) (ht : matS.rep w everywhere [.slice a n c] ts) (hp : ptsS.rep w everywhere [.slice pa pn pc] ps) (hy : matS.rep w everywhere [.slice ya yn yc] ys)
    (hn : n ≤ 1000) (hpn : pn ≤ 1000) (hts : ∀ v ∈ ts, v.length ≤ 1000) (hys : ∀ v ∈ ys, v.length ≤ 1000) :
    Calls Tryz.prog 81 #[.slice a n c, .slice pa pn pc, .slice ya yn yc] w fun e w' => Below w.heap.size w w' ∧ ∃ a' c', e = .returned (.slice a' n c') ∧ matS.rep w' (w.heap.size ≤ ·) [.slice a' n c'] (Md.combine ts ps ys) := by
  have hlt0 := (sliceS_len ht).1
  have hlp := (sliceS_len hp).1
  have hly := (sliceS_len hy).1
  obtain ⟨i0, hi0, hi1, hi2, hi3⟩ := info_parts Tryz.infoRow
  have HL : Hid (ts.length = n) := hlt0
  have HLP : Hid (ps.length = pn) := hlp
  have HLY : Hid (ys.length = yn) := hly
  have HT : Hid (matS.rep w everywhere [.slice a n c] ts) := ht
  have HP : Hid (ptsS.rep w everywhere [.slice pa pn pc] ps) := hp
  have HY : Hid (matS.rep w everywhere [.slice ya yn yc] ys) := hy
  have HTS : Hid (∀ v ∈ ts, v.length ≤ 1000) := hts
  have HYS : Hid (∀ v ∈ ys, v.length ≤ 1000) := hys
  clear hlt0 hlp hly ht hp hy hts hys
  go_enter Tryz.func81, Tryz.ntmps81
  go_wp2_with (at_make; refine wpList_make_full _ rfl _ _ 25 rfl w.heap.size 42 i0 (.slice none 0 0) 1 Tryz.underlying25 hi0 hi1 hi2 _ _ _ _ n rfl rfl (by rfl) (by rfl) ?b2 ?b3 (Nat.le_refl _) ?_)
  case b2 => rw [hi3]; omega
  case b3 => unfold maxLen; omega
  intro u0 hown0 hg0
  have hb0 : Below w.heap.size w u0 := (Below.refl _ _).grown hg0 (Nat.le_refl _) (fun g hg => by cases hg)
  have HO : Hid (Own (inS rowS (w.heap.size ≤ ·)) u0 w.heap.size 42 (.slice (some ⟨w.heap.size, 0, none⟩) n n) (List.replicate n [])) := Own.rows_madeP hown0
  clear hown0 hg0
  go_wp2
  go_loopw [19] (fun i wr => ∃ k : Nat, k ≤ n ∧ i = .int .i64 k ∧ Own (inS rowS (w.heap.size ≤ ·)) wr w.heap.size 42 (.slice (some ⟨w.heap.size, 0, none⟩) n n) (fillD [] ts k) ∧ Below w.heap.size w wr) (fun i _ => n - (intOf i).toNat)
  case atStart => exact ⟨0, Nat.zero_le _, rfl, by rw [fillD_zero, HL.out]; exact HO.out, hb0⟩
  case round =>
    clear HO hb0
    obtain ⟨k, hk, rfl, hown, hbel⟩ := hrel
    obtain ⟨W0, hW0⟩ : ∃ W0, W0 = wr := ⟨_, rfl⟩
    subst hW0
    by_cases hlt : k < n
    · obtain ⟨b1, o1, A, C, rfl, _, c0, hr⟩ := mat_at (Shape.below HT.out hbel) hlt
      have hli : (k : Int) < (n : Int) := by omega
      have hk0 : (0 : Int) ≤ (k : Int) := by omega
      have hkl : k < ts.length := by have := HL.out; omega
      have hv9 := HTS.out _ (Mx.getD_mem ts k hkl)
      obtain ⟨v, hv⟩ : ∃ v, ts.getD k [] = v := ⟨_, rfl⟩
      rw [hv] at c0 hr hv9
      have HV : Hid (ts.getD k [] = v) := hv
      have HC : Hid (Calls _ _ _ _ _) := clone A v.length C v W0 (Shape.any hr) hv9
      have hsz := (hown.lt w.heap.size rfl).2
      clear hr hv
      go_wp2_with fail
      refine HC.out.mono ?_
      rintro e u1 ⟨hb1, a4, c4, rfl, ho4⟩
      have hown3 := hown.keep hb1
      obtain ⟨⟨z0, x0⟩, f0, hst⟩ := hown3.store rfl hlt (inS_of ho4.high (fun b (hb : W0.heap.size ≤ b) => by have := hbel.size; omega)) (fun b (hb : W0.heap.size ≤ b) => by omega)
      rw [fillD_set hkl HV.out] at hst
      have HST : Hid _ := And.intro hst (bel_put (i := k) (bel_then hbel hb1) (Nat.le_refl w.heap.size) (.slice a4 v.length c4))
      clear hst hown hown3 hb1 hbel ho4 HC c0
      go_wp2
      go_roundw
      case rel => exact ⟨k + 1, by omega, by go_num, HST.out.1, HST.out.2⟩
      case measure => simp [intOf]; omega
    · have hkn : k = n := by omega
      subst hkn
      have hli : ¬ (k : Int) < (k : Int) := by omega
      have e9 : fillD [] ts k = ts := by
        have := fillD_all [] ts
        rwa [HL.out] at this
      rw [e9] at hown
      have HO : Hid (Own (inS rowS (w.heap.size ≤ ·)) W0 w.heap.size 42 (.slice (some ⟨w.heap.size, 0, none⟩) k k) (Md.combTo ts ps ys 0)) := by rw [Md.combTo_zero]; exact hown
      clear e9 hown
      go_wp2
      go_loopw [32] (fun i wr => ∃ j : Nat, j ≤ pn ∧ i = .int .i64 j ∧ Own (inS rowS (w.heap.size ≤ ·)) wr w.heap.size 42 (.slice (some ⟨w.heap.size, 0, none⟩) k k) (Md.combTo ts ps ys j) ∧ Below w.heap.size w wr) (fun i _ => pn - (intOf i).toNat)
      case atStart => exact ⟨0, Nat.zero_le _, rfl, HO.out, hbel⟩
      case round =>
        clear HO hbel
        obtain ⟨j, hj, rfl, hown, hbel⟩ := hrel
        by_cases hjt : j < pn
        · obtain ⟨b1, o1, t, r, x, s, rfl, _, hE, c0, c1, c2, c3⟩ := pt_there (Shape.below HP.out hbel) hjt
          have hji : (j : Int) < (pn : Int) := by omega
          have hj0 : (0 : Int) ≤ (j : Int) := by omega
          have hjl : j < ps.length := by have := HLP.out; omega
          have hbn := new_bel wr (.cells #[.int .i64 t, .int .i64 r, .int .i64 x, .int .i64 s] 97)
          have kb := Box.new wr 97 #[.int .i64 t, .int .i64 r, .int .i64 x, .int .i64 s]
          have hbelA := bel_then hbel hbn
          have hownA := hown.keep hbn
          have HE : Hid (ps.getD j pt0 = pt t r x s) := hE
          clear hE
          by_cases hya : yn ≤ j
          · have hyi : (yn : Int) ≤ (j : Int) := by omega
            rw [← Md.combTo_no (by rw [HLY.out]; exact hya)] at hownA
            have HR : Hid _ := And.intro hownA hbelA
            clear hownA hbelA hown hbel hbn kb
            go_wp2
            go_roundw
            case rel => exact ⟨j + 1, by omega, by go_num, HR.out.1, HR.out.2⟩
            case measure => simp [intOf]; omega
          · have hyi : ¬ (yn : Int) ≤ (j : Int) := by omega
            have hyl : j < ys.length := by have := HLY.out; omega
            have HY1 : Hid (Md.combTo ts ps ys (j + 1) = Md.put (Md.combTo ts ps ys j) (pt t r x s) (ys.getD j [])) := by show _ = _; rw [Md.combTo_yes hjl hyl, HE.out]
            have HCL : Hid ((Md.combTo ts ps ys j).length = k) := by show _ = _; rw [Md.combTo_len]; exact HL.out
            by_cases htt : 0 ≤ t ∧ t < (k : Int)
            case neg =>
              have e9 : Md.combTo ts ps ys (j + 1) = Md.combTo ts ps ys j := by
                rw [HY1.out]
                refine Md.put_no fun h => htt ⟨h.1, ?_⟩
                have h7 : t < ((Md.combTo ts ps ys j).length : Int) := h.2.1
                rwa [HCL.out] at h7
              rw [← e9] at hownA
              have HR : Hid _ := And.intro hownA hbelA
              clear hownA hbelA hown hbel hbn kb e9
              rcases (by omega : t < 0 ∨ (¬ t < 0 ∧ (k : Int) ≤ t)) with g0 | ⟨g0, g1⟩
              all_goals
                clear htt
                go_wp2
                go_roundw
                case rel => exact ⟨j + 1, by omega, by go_num, HR.out.1, HR.out.2⟩
                case measure => simp [intOf]; omega
            obtain ⟨g0, g1⟩ := htt
            obtain ⟨t', rfl⟩ : ∃ t' : Nat, t = t' := ⟨t.toNat, by omega⟩
            have htk : t' < k := by omega
            obtain ⟨b2, o2, A, C, he, _, e0, hr⟩ := mat_at hownA.plain htk
            injection he with he; injection he with hx1 hx2 _; subst hx1; subst hx2
            rw [Nat.zero_add] at e0
            obtain ⟨b3, o3, A3, C3, rfl, hb3, e1, hr3⟩ := mat_at HY.out (j := j) (by omega)
            have hv9 := Md.combTo_sized (ps := ps) (zs := ys) (k := j) HTS.out _ (Mx.getD_mem (Md.combTo ts ps ys j) t' (by rw [HCL.out]; exact htk))
            have hy9 := HYS.out _ (Mx.getD_mem ys j hyl)
            obtain ⟨v, hv⟩ : ∃ v, (Md.combTo ts ps ys j).getD t' [] = v := ⟨_, rfl⟩
            obtain ⟨y, hyv⟩ : ∃ y, ys.getD j [] = y := ⟨_, rfl⟩
            rw [hv] at e0 hr hv9
            rw [hyv] at e1 hr3 hy9
            have HV : Hid ((Md.combTo ts ps ys j).getD t' [] = v ∧ ys.getD j [] = y) := ⟨hv, hyv⟩
            have d1 := (hbelA.cell (by exact hb3)).trans e1
            have hR := Row.of_rep hr
            have hR3 := (Row.of_rep hr3).keep hbelA
            have hsz := (hown.lt w.heap.size rfl).2
            have g2 : ¬ (t' : Int) < 0 := by omega
            have g3 : ¬ (k : Int) ≤ (t' : Int) := by omega
            have hjy : (j : Int) < (yn : Int) := by omega
            clear hv hyv e1 hr hr3 hown hbel hbn
            go_upto_region 11 with fail
            clear c0 c1 c2 c3
            generalize wr.alloc (.cells #[.int .i64 (t' : Int), .int .i64 r, .int .i64 x, .int .i64 s] 97) = W at *
            have c0 := kb.cell 0 rfl
            have c3 := kb.cell 3 rfl
            have hD : Below W.heap.size W W.drew := (Below.refl _ W).drew
            have HC : Hid (Calls _ _ _ _ _) := vscale A3 y.length C3 s y W.drew (hR3.keep hD) (by omega)
            clear hR3
            by_cases hvy : v.length = y.length
            · have HP1 : Hid (Md.combTo ts ps ys (j + 1) = (Md.combTo ts ps ys j).set t' (Vx.add v (Vx.scale y s))) := by
                show _ = _
                rw [HY1.out, HV.out.2, Md.put_yes (by rw [HCL.out]; exact htk) (by rw [HV.out.1]; exact hvy), HV.out.1]
              rw [hvy] at e0 hR
              clear hvy hv9
              have HH : Hid (∀ u, Below W.heap.size W u → u.cell? ⟨wr.heap.size, 0, none⟩ = some (.int .i64 (t' : Int)) ∧ u.cell? ⟨wr.heap.size, 3, none⟩ = some (.int .i64 s) ∧ u.cell? ⟨w.heap.size, t', none⟩ = some (.slice A y.length C) ∧ u.cell? ⟨b3, o3 + j, none⟩ = some (.slice A3 y.length C3)) := fun u hb => ⟨(kb.keep hb).cell 0 rfl, (kb.keep hb).cell 3 rfl, (hb.cell (World.block_lt_of_cell? W _ e0)).trans e0, (hb.cell (World.block_lt_of_cell? W _ d1)).trans d1⟩
              go_region_held3 (fun w' => w'.cell? ⟨wr.heap.size, 0, none⟩ = some (.int .i64 (t' : Int)) ∧ w'.cell? ⟨wr.heap.size, 3, none⟩ = some (.int .i64 s) ∧ w'.cell? ⟨w.heap.size, t', none⟩ = some (.slice A y.length C) ∧ w'.cell? ⟨b3, o3 + j, none⟩ = some (.slice A3 y.length C3))
                (first
                  | exact HH.out _ hd5
                  | exact HH.out _ hd4
                  | exact HH.out _ hD
                  | exact HH.out _ (Below.refl _ _)
                  | go_keep)
                (first
                | (go_at_call 119; refine HC.out.mono ?_; rintro e u3 ⟨a3, c3', rfl, hr4, hb3⟩; have hd4 := bel_then hD hb3)
                | (go_at_call 118; refine (vaddH A a3 y.length C c3' v (Vx.scale y s) u3 (hR.keep hd4) hr4 (by omega)).mono ?_; rintro e u4 ⟨a4, c4, rfl, hr5, hb5⟩; have hd5 := bel_then hd4 hb5))
              all_goals
                have kb5 := kb.keep hd5
                have c5 := kb5.cell 0 rfl
                have hown5 := hownA.keep hd5
                obtain ⟨⟨z0, x0⟩, f0, hst⟩ := hown5.store rfl htk (inS_of hr5 (fun b hb => by have h7 : u3.heap.size ≤ b := hb; have := hd4.size; have := kb.lt; omega)) (fun b hb => by have h7 : u3.heap.size ≤ b := hb; have := hd4.size; have := kb.lt; omega)
                rw [← HP1.out] at hst
                have HST : Hid _ := And.intro hst (bel_put (i := t') (bel_then hbelA hd5) (Nat.le_refl w.heap.size) (.slice a4 y.length c4))
                clear hst hown5 hd5 hd4 hr5 hr4 hb5 hb3 hownA hbelA HC hR kb kb5 c0 c3 e0 d1
                go_wp2
                go_roundw
                case rel => exact ⟨j + 1, by omega, by go_num, HST.out.1, HST.out.2⟩
                case measure => simp [intOf]; omega
            · have e9 : Md.combTo ts ps ys (j + 1) = Md.combTo ts ps ys j := by
                rw [HY1.out]
                refine Md.put_no fun h => hvy ?_
                have h7 : ((Md.combTo ts ps ys j).getD t' []).length = (ys.getD j []).length := h.2.2
                rwa [HV.out.1, HV.out.2] at h7
              rw [← e9] at hownA
              have HNE : Hid (v.length ≠ y.length) := hvy
              clear hvy
              have HH : Hid (∀ u, Below W.heap.size W u → u.cell? ⟨wr.heap.size, 0, none⟩ = some (.int .i64 (t' : Int)) ∧ u.cell? ⟨wr.heap.size, 3, none⟩ = some (.int .i64 s) ∧ u.cell? ⟨w.heap.size, t', none⟩ = some (.slice A v.length C) ∧ u.cell? ⟨b3, o3 + j, none⟩ = some (.slice A3 y.length C3)) := fun u hb => ⟨(kb.keep hb).cell 0 rfl, (kb.keep hb).cell 3 rfl, (hb.cell (World.block_lt_of_cell? W _ e0)).trans e0, (hb.cell (World.block_lt_of_cell? W _ d1)).trans d1⟩
              go_region_held3 (fun w' => w'.cell? ⟨wr.heap.size, 0, none⟩ = some (.int .i64 (t' : Int)) ∧ w'.cell? ⟨wr.heap.size, 3, none⟩ = some (.int .i64 s) ∧ w'.cell? ⟨w.heap.size, t', none⟩ = some (.slice A v.length C) ∧ w'.cell? ⟨b3, o3 + j, none⟩ = some (.slice A3 y.length C3))
                (first
                  | exact HH.out _ hd5
                  | exact HH.out _ hd4
                  | exact HH.out _ hD
                  | exact HH.out _ (Below.refl _ _)
                  | go_keep)
                (first
                | (go_at_call 119; refine HC.out.mono ?_; rintro e u3 ⟨a3, c3', rfl, hr4, hb3⟩; have hd4 := bel_then hD hb3)
                | (go_at_call 118; refine (vadd_no A a3 v.length y.length C c3' u3 HNE.out).mono ?_; rintro e u4 ⟨rfl, hb5⟩; have hd5 := bel_then hd4 hb5))
              all_goals
                have HR : Hid _ := And.intro (hownA.keep hd5) (bel_then hbelA hd5)
                clear hownA hbelA HC hR kb c0 c3 e0 d1 hd4 hd5 hb3 hb5 hr4 e9
                go_wp2
                go_roundw
                case rel => exact ⟨j + 1, by omega, by go_num, HR.out.1, HR.out.2⟩
                case measure => simp [intOf]; omega
        · have hjk : j = pn := by omega
          subst hjk
          have hji : ¬ (j : Int) < (j : Int) := by omega
          have e9 : Md.combTo ts ps ys j = Md.combine ts ps ys := by rw [← HLP.out]; exact Md.combTo_all
          rw [e9] at hown
          have hR := hown.within
          clear e9 hown
          go_wp2
          go_ret
          exact ⟨hbel, _, _, rfl, hR⟩
theorem mcombine (a : Option Addr) (n c : Nat) (ts : List (List Int)) (pa : Option Addr) (pn pc : Nat) (ps : List Pt) (ya : Option Addr) (yn yc : Nat) (ys : List (List Int)) (w : World) (ht : matS.rep w everywhere [.slice a n c] ts) (hp : ptsS.rep w everywhere [.slice pa pn pc] ps) (hy : matS.rep w everywhere [.slice ya yn yc] ys)
    (hn : n ≤ 1000) (hpn : pn ≤ 1000) (hts : ∀ v ∈ ts, v.length ≤ 1000) (hys : ∀ v ∈ ys, v.length ≤ 1000) :
    Calls Tryz.prog 81 #[.slice a n c, .slice pa pn pc, .slice ya yn yc] w fun e w' => Below w.heap.size w w' ∧ ∃ a' c', e = .returned (.slice a' n c') ∧ matS.rep w' everywhere [.slice a' n c'] (Md.combine ts ps ys) :=
  (mcombineH a n c ts pa pn pc ps ya yn yc ys w ht hp hy hn hpn hts hys).mono fun _ _ ⟨h1, a', c', h2, h3⟩ => ⟨h1, a', c', h2, Shape.any h3⟩

end Go.Proofs.YtfidgcanolegfaaGreat
