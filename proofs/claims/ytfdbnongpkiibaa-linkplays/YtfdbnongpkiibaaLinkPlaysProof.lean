/- For all acts switchboardlaw10.LinkPlays returns true: whatever is pushed and told of, what was told of is not there any more, what was not is, in its order. -/
import Derived.Test.YtfdbnongpkiibaaRows
import Derived.Test.YtfdbnongpkiibaaLinkI
import Derived.WalkKit
import Derived.ProofKit
import Derived.OpenShut
import Derived.ShutString
import Derived.ChangeOld
import Derived.Below
namespace Go.Proofs.Ytfdbnongpkiibaa.linkPlays
open Go.ChangeShapes Go.WideShapes Go.ChangeAt Go.RowKit
open Go.ChangeMaps (open_string shut_string)
set_option linter.unusedVariables false

theorem own : ownKnob Try.prog.godebug = none := by kernel_rfl
theorem laidOut : laidOutB Try.prog = true := by kernel_rfl

/- The walk: the call returns true, and nothing that was there is written. -/
set_option maxHeartbeats 4000000 in
set_option maxRecDepth 100000 in
theorem walk (a0 : Option Addr) (len0 cap0 : Nat) (m0 : List Int) (w : World) (w0 : (sliceS (intS .i8)).rep w everywhere [.slice a0 len0 cap0] m0) (f0 : (∀ x0 ∈ m0, (Lit.int .i8 x0).wf = true)) :
    Calls Try.prog 4 #[.slice a0 len0 cap0] w fun e w' => e = .returned (.bool true) ∧ Below w.heap.size w w' := by
  have hA := Shape.low w0
  have hl0 := (sliceS_len w0).1
  have HF : Hid (∀ j, j < len0 → -128 ≤ m0.getD j 0 ∧ m0.getD j 0 ≤ 127) := fun j hj => bounds_i8 (f0 _ (by rw [List.getD_eq_getElem?_getD, List.getElem?_eq_getElem (by omega)]; exact List.getElem_mem _))
  clear w0 f0 hl0
  obtain ⟨i0, hi0, hz0, hz1, hz2⟩ := info_parts Try.infoInt
  have HS0 : Hid (Plays w (w.alloc (.cells #[.int .i64 0, .slice none 0 0] 24)) w.heap.size (.slice none 0 0) 0) := plays_start w
  go_enter Try.func4, Try.ntmps4
  go_wp2
  go_loopw [4, 5] (fun v4 v5 wr => ∃ k : Nat, k ≤ len0 ∧ k ≤ 100 ∧ v5 = .int .i64 k ∧ Plays w wr w.heap.size v4 k) (fun _ i _ => 100 - (intOf i).toNat)
  case atStart => exact ⟨0, Nat.zero_le _, Nat.zero_le _, rfl, HS0.out⟩
  case round =>
    clear HS0
    obtain ⟨k, hk, hk2, rfl, hplay⟩ := hrel
    obtain ⟨nx, m, ls, va, vc, a1, c1, hnx, rfl, hlen, hm64, hR, hown, hrep, hbox, hbel⟩ := hplay
    by_cases hlt : k < len0 ∧ k < 100
    · obtain ⟨hlt1, hlt2⟩ := hlt
      have hli : (k : Int) < (len0 : Int) := by omega
      have hli2 : (k : Int) < 100 := by omega
      have hk0 : (0 : Int) ≤ (k : Int) := by omega
      obtain ⟨b1, o1, rfl, hb1, hcell⟩ := (Row.of_rep (Shape.now hA hbel)).at hlt1
      obtain ⟨q, hq⟩ : ∃ q, m0.getD k 0 = q := ⟨_, rfl⟩
      have hqb := HF.out k hlt1
      rw [hq] at hqb hcell
      have HQ : Hid (m0.getD k 0 = q) := hq
      clear hq
      have hltN := hbox.lt
      have HL : Hid (ls.length = m) := hlen
      have HR : Hid (Lx.Right (nx : Int) (Lx.same exText ls)) := hR
      clear hlen hR
      go_upto_if 28 with fail
      go_cut [4, 6, 8, 9, 10, 11] from 14 to 105 (fun v4 v6 v8 v9 v10 v11 wx => Plays w wx w.heap.size v4 (k + 1))
      case first =>
        rename_i Jx Kx hRJ hMK
        have p0 := hbox.cell 0 rfl
        have p1 := hbox.cell 1 rfl
        have f0 := hbox.free 0
        have f1 := hbox.free 1
        by_cases hq0 : 0 ≤ q
        · have hw : IntKind.i64.wrap q = q := by rw [IntKind.wrap_i64]; omega
          have hD : Below wr.heap.size wr wr.drew := (Below.refl _ wr).drew
          obtain ⟨T, hT⟩ : ∃ T, Lx.less ls q = T := ⟨_, rfl⟩
          obtain ⟨mt, hmt⟩ : ∃ mt, T.length = mt := ⟨_, rfl⟩
          have hmtm : mt ≤ m := by have := Lx.less_len ls q; rw [hT, HL.out] at this; omega
          have HT : Hid (Lx.less ls q = T) := hT
          have HMT : Hid (T.length = mt) := hmt
          have HTold : Hid (Lx.told (Lx.same exText ls) q = Lx.same exText T) := by show _ = _; rw [Lx.same_told, hT]
          have HRT : Hid (Lx.Right (nx : Int) (Lx.same exText T)) := by
            have h5 := Lx.told_right q HR.out
            rw [HTold.out] at h5
            exact h5
          have CT : Hid (Calls _ _ _ _ _) := ltold_len nx a1 m c1 _ q wr.drew (Shape.any (Shape.below hrep hD)) (by omega) (Lx.same exText T) HTold.out mt ((Lx.same_len _ _).trans hmt)
          clear hT hmt
          go_wp2
          go_region_with
            (go_at_call 11; refine CT.out.mono ?_; rintro e u1 ⟨hu1, a5, c5, rfl, hr5⟩; have hd1 := bel_then hD hu1; have kk := hbox.keep hd1; have y0 := kk.cell 0 rfl; have y1 := kk.cell 1 rfl; have g0 := kk.free 0; have g1 := kk.free 1)
          all_goals
            have k1 := kk.all2 (.int .i64 (nx : Int)) (.slice a5 mt c5)
            have o1' := (hown.keep hd1).num_all2 (N := w.heap.size) (by omega) (.int .i64 (nx : Int)) (.slice a5 mt c5)
            have r1 := Shape.all2 (b := w.heap.size) hr5 (fun j hj _ => by have h7 : wr.drew.heap.size ≤ j := hj; have h8 : wr.drew.heap.size = wr.heap.size := rfl; omega) (.int .i64 (nx : Int)) (.slice a5 mt c5)
            have r2 := frsS.mono r1 (F' := fun b => b ≠ w.heap.size ∧ b < ((u1.setCell ⟨w.heap.size, 0, none⟩ (.int .i64 (nx : Int))).setCell ⟨w.heap.size, 1, none⟩ (.slice a5 mt c5)).heap.size) (fun j hj hlt => ⟨by have h7 : wr.drew.heap.size ≤ j := hj; have h8 : wr.drew.heap.size = wr.heap.size := rfl; omega, hlt⟩)
            have hB1 := bel_all2 (bel_then hbel hd1) (b := w.heap.size) (Nat.le_refl _) (.int .i64 (nx : Int)) (.slice a5 mt c5)
            clear kk y0 y1 g0 g1 hu1 hr5 hd1 r1 p0 p1 f0 f1
            go_upto_region 8 with fail
            clear hbox hrep hown hbel hcell CT hD
            generalize (u1.setCell ⟨w.heap.size, 0, none⟩ (.int .i64 (nx : Int))).setCell ⟨w.heap.size, 1, none⟩ (.slice a5 mt c5) = W1 at *
            have rl := Row.of_rep o1'.is
            go_wp2
            go_loopw [6, 38] (fun v6 v38 wx => ∃ (j mr : Nat) (ra : Option Addr) (rc : Nat), j ≤ m ∧ mr ≤ j ∧ v38 = .int .i64 j ∧ v6 = .slice ra mr rc ∧ (Lx.less (ls.take j) q).length = mr ∧ Own (intS .i64) wx W1.heap.size 3 (.slice ra mr rc) (Lx.less (ls.take j) q) ∧ Below W1.heap.size W1 wx) (fun _ i _ => m - (intOf i).toNat)
            case atStart => exact ⟨0, 0, none, 0, Nat.zero_le _, Nat.le_refl _, rfl, rfl, rfl, Own.nil _ _ _ _, Below.refl _ _⟩
            case round =>
              obtain ⟨j, mr, ra, rc, hj, hmr, rfl, rfl, hrl, hro, hbj⟩ := hrel
              have HRL : Hid ((Lx.less (ls.take j) q).length = mr) := hrl
              clear hrl
              obtain ⟨b2, o2, he2, hb2, hcell⟩ := (Row.of_rep (Shape.now hA (bel_then hB1 hbj))).at hlt1
              have e := Option.some.inj he2
              injection e with e1 e2 e3
              subst e1
              subst e2
              clear he2
              rw [HQ.out] at hcell
              by_cases hjm : j < m
              · have hji : (j : Int) < (m : Int) := by omega
                obtain ⟨g2, p2, rfl, hg2, hc2⟩ := (Row.keep rl hbj).at hjm
                have HST : Hid (Lx.less (ls.take (j + 1)) q = Lx.less (ls.take j) q ++ if ls.getD j 0 = q then [] else [ls.getD j 0]) := Lx.less_step q (by have := HL.out; omega)
                generalize ls.getD j 0 = x at *
                by_cases hx : x = q
                · have ex : (x != q) = false := by simpa using hx
                  have HS1 : Hid (Lx.less (ls.take (j + 1)) q = Lx.less (ls.take j) q) := by show _ = _; rw [HST.out, if_pos hx, List.append_nil]
                  clear hx
                  go_wp2
                  go_roundw
                  case rel => exact ⟨j + 1, mr, ra, rc, by omega, by omega, by go_num, rfl, by rw [HS1.out]; exact HRL.out, by rw [HS1.out]; exact hro, hbj⟩
                  case measure => simp [intOf]; omega
                · have ex : (x != q) = true := by simpa using hx
                  have HS1 : Hid (Lx.less (ls.take j) q ++ [x] = Lx.less (ls.take (j + 1)) q) := by show _ = _; rw [HST.out, if_neg hx]
                  clear hx
                  have s1 := hro.src x
                  have ho1 := hro.keep (new_bel wr (.cells #[.int .i64 x] 3))
                  have hsm : (Lx.less (ls.take j) q).length + 1 ≤ 100000 := by rw [HRL.out]; omega
                  have hbs : W1.heap.size ≤ (wr.alloc (.cells #[.int .i64 x] 3)).heap.size := (bel_alloc hbj _).size
                  go_wp2_with (at_builtin; refine wpList_app (intS .i64) (by simp [Region.wanted]) (.tmp 49) (.tmp 51) 43 rfl W1.heap.size 3 i0 (.int .i64 0) 8 Try.underlying43 hi0 hz0 hz1 hz2 rfl Nat.one_pos (by omega) (by rfl) ho1 (by rfl) s1.1 s1.2 hsm hbs ?_; intro a6 c6 u6 ho6 hg6 hb6 hat6; rw [HRL.out, HS1.out] at ho6; rw [HRL.out])
                  go_roundw
                  case rel => exact ⟨j + 1, mr + 1, a6, c6, by omega, by omega, by go_num, rfl, by rw [← HS1.out, List.length_append, HRL.out]; rfl, ho6, (bel_alloc hbj _).trans hb6⟩
                  case measure => simp [intOf]; omega
              · have hjm' : j = m := by omega
                subst hjm'
                have hji : ¬ (j : Int) < (j : Int) := by omega
                have et : Lx.less (ls.take j) q = T := by rw [List.take_of_length_le (by have := HL.out; omega)]; exact HT.out
                have emr : mr = mt := by rw [← HRL.out, et, HMT.out]
                rw [et] at hro
                subst emr
                have HPl : Hid (Plays w wr w.heap.size (.slice ra mr rc) (k + 1)) := by
                  refine ⟨nx, mr, T, ra, rc, a5, c5, by omega, rfl, HMT.out, by omega, HRT.out, Own.low hro (by have := k1.lt; omega), ?_, k1.keep hbj, bel_then hB1 hbj⟩
                  refine frsS.mono (Shape.below r2 hbj) fun b hb _ => ⟨hb.1, fun h => ?_⟩
                  have := (hro.lt b h.symm).1
                  have := hb.2
                  omega
                clear hro k1 r2 hB1 et
                go_wp2
                go_meet
                exact HPl.out
        · by_cases hm : m < 64
          · have hmi : (m : Int) < 64 := by omega
            have HP : Hid (Lx.Push (nx : Int) (Lx.same exText ls) exText 0 ((nx : Int) + 1) (Lx.same exText (ls ++ [(nx : Int)])) nx) := by
              have h5 := Lx.push_ok (t := exText) HR.out (by omega) (by rw [Lx.same_len, HL.out]; exact hm)
              rw [Lx.same_push] at h5
              exact h5
            have HR2 : Hid (Lx.Right (((nx + 1 : Nat)) : Int) (Lx.same exText (ls ++ [(nx : Int)]))) := by
              have h5 := Lx.push_right (t := exText) HR.out (by omega) (by rw [Lx.same_len, HL.out]; exact hm)
              rw [Lx.same_push] at h5
              exact h5
            have HL2 : Hid ((ls ++ [(nx : Int)]).length = m + 1) := by show _ = _; rw [List.length_append, HL.out]; rfl
            have HQ2 : Hid ((Lx.same exText (ls ++ [(nx : Int)])).length = m + 1) := (Lx.same_len _ _).trans HL2.out
            have CP : Hid (Calls _ _ _ _ _) := lpush nx a1 m c1 (Lx.same exText ls) ⟨#[120]⟩ wr (Shape.any hrep) (by omega) 0 _ _ _ HP.out (m + 1) HQ2.out
            go_wp2_with fail
            refine CP.out.mono ?_
            rintro e u1 ⟨hb2, a5, c5, rfl, hr5⟩
            have hbW := bel_then hb2 (new_bel u1 (.cells #[.int .i64 ((nx : Int) + 1), .slice a5 (m + 1) c5] 24))
            have hbI := bel_alloc hbW (.cells #[.int .i64 (nx : Int)] 3)
            have hsu := hb2.size
            have kg := (Box.new u1 24 #[.int .i64 ((nx : Int) + 1), .slice a5 (m + 1) c5]).keep (new_bel _ (.cells #[.int .i64 (nx : Int)] 3))
            have kN := hbox.keep hbI
            have hsz1 : (u1.alloc (.cells #[.int .i64 ((nx : Int) + 1), .slice a5 (m + 1) c5] 24)).heap.size = u1.heap.size + 1 := by simp
            have ho1 := hown.keep hbI
            have s0 := (hown.keep hbW).src (nx : Int)
            rw [hsz1] at s0
            have s1 := s0.1
            have s2 := s0.2
            have hsm : ls.length + 1 ≤ 100000 := by rw [HL.out]; omega
            have hbs : w.heap.size + 1 ≤ ((u1.alloc (.cells #[.int .i64 ((nx : Int) + 1), .slice a5 (m + 1) c5] 24)).alloc (.cells #[.int .i64 (nx : Int)] 3)).heap.size := by simp; omega
            have HOB : Hid (∀ b, Value.ownBlock (.slice va m vc) = some b → w.heap.size < b ∧ b < wr.heap.size) := fun b hb => by have := hown.lt b hb; omega
            have hNN : some w.heap.size ≠ Value.ownBlock (.slice va m vc) := fun h => by have := HOB.out _ h.symm; omega
            have hNg : some u1.heap.size ≠ Value.ownBlock (.slice va m vc) := fun h => by have := HOB.out _ h.symm; omega
            have hBI := bel_then hbel hbI
            have HSZ : Hid (((u1.alloc (.cells #[.int .i64 ((nx : Int) + 1), .slice a5 (m + 1) c5] 24)).alloc (.cells #[.int .i64 (nx : Int)] 3)).heap.size = u1.heap.size + 2) := by show _ = _; simp
            have HLT5 : Hid (∀ b, wr.heap.size ≤ b → some b ≠ Value.ownBlock (.slice va m vc)) := fun b hb h => by have := HOB.out b h.symm; omega
            have rB := frsS.mono (Shape.low (Shape.below hr5 (new_bel u1 (.cells #[.int .i64 ((nx : Int) + 1), .slice a5 (m + 1) c5] 24)))) (F' := fun b => b < u1.heap.size + 1) (fun b hb _ => by have h7 : b < _ := hb; omega)
            have rB2 : frsS.rep ((u1.alloc (.cells #[.int .i64 ((nx : Int) + 1), .slice a5 (m + 1) c5] 24)).alloc (.cells #[.int .i64 (nx : Int)] 3)) (fun b => wr.heap.size ≤ b ∧ b < u1.heap.size + 1) [.slice a5 (m + 1) c5] (Lx.same exText (ls ++ [(nx : Int)])) := Shape.below (frs_both (Shape.below hr5 (new_bel u1 _)) rB) (new_bel _ _)
            have RB6 : Hid (∀ u6, ((u1.alloc (.cells #[.int .i64 ((nx : Int) + 1), .slice a5 (m + 1) c5] 24)).alloc (.cells #[.int .i64 (nx : Int)] 3)).grownBy u6 (Value.ownBlock (.slice va m vc)) → frsS.rep u6 (fun b => wr.heap.size ≤ b ∧ b < u1.heap.size + 1) [.slice a5 (m + 1) c5] (Lx.same exText (ls ++ [(nx : Int)]))) := fun u6 hg => frsS.keep rB2 fun b hF hlt => hg.block b hlt (HLT5.out b hF.1)
            clear rB rB2
            clear hsz1 s0 hbox hown hrep hbel p0 p1 f0 f1 hr5 hbW hbI hb2 CP hcell
            go_upto_region 21 with (at_builtin; refine wpList_app (intS .i64) (by simp [Region.wanted]) (.tmp 69) (.tmp 71) 43 rfl (w.heap.size + 1) 3 i0 (.int .i64 0) 8 Try.underlying43 hi0 hz0 hz1 hz2 rfl Nat.one_pos (by omega) (by rfl) ho1 (by rfl) s1 s2 hsm hbs ?_; intro a6 c6 u6 ho6 hg6 hb6 hat6; rw [HL.out] at ho6 hat6 ⊢)
            have kg6 := kg.grown hg6 hNg
            have kN6 := kN.grown hg6 hNN
            have g0 := kg6.cell 0 rfl
            have g1 := kg6.cell 1 rfl
            have y0 := kN6.cell 0 rfl
            have y1 := kN6.cell 1 rfl
            have e0 := kN6.free 0
            have e1 := kN6.free 1
            have HPl : Hid (Plays w ((u6.setCell ⟨w.heap.size, 0, none⟩ (.int .i64 ((nx : Int) + 1))).setCell ⟨w.heap.size, 1, none⟩ (.slice a5 (m + 1) c5)) w.heap.size (.slice a6 (m + 1) c6) (k + 1)) := by
              refine ⟨nx + 1, m + 1, ls ++ [(nx : Int)], a6, c6, a5, c5, by omega, rfl, HL2.out, by omega, HR2.out, ho6.num_all2 (by omega) _ _, ?_, kN6.all2 _ _, bel_all2 (hBI.trans (hb6.mono (by omega))) (Nat.le_refl _) _ _⟩
              have r9 : frsS.rep u6 (fun b => wr.heap.size ≤ b ∧ b < u1.heap.size + 1) [.slice a5 (m + 1) c5] (Lx.same exText (ls ++ [(nx : Int)])) := RB6.out u6 hg6
              refine frsS.mono (Shape.all2 (b := w.heap.size) r9 (fun j hj _ => by have h7 : wr.heap.size ≤ j := hj.1; omega) _ _) fun b hb _ => ⟨by have h7 : wr.heap.size ≤ b := hb.1; omega, fun h => ?_⟩
              rcases hat6 with h9 | h9
              · rw [h9] at h
                exact HLT5.out b hb.1 h
              · rw [h9] at h
                have h10 := Option.some.inj h
                have h11 := HSZ.out
                have h12 := hb.2
                omega
            clear ho6 hg6 hb6 hat6 kg kN ho1 s1 s2 hBI
            go_wp2
            go_meet
            exact HPl.out
          · have hmi : ¬ (m : Int) < 64 := by omega
            have HP : Hid (Lx.Push (nx : Int) (Lx.same exText ls) exText 8 (nx : Int) (Lx.same exText ls) 0) := Lx.push_busy HR.out (by omega) (by rw [Lx.same_len, HL.out]; omega)
            have HQ2 : Hid ((Lx.same exText ls).length = m) := (Lx.same_len _ _).trans HL.out
            have CP : Hid (Calls _ _ _ _ _) := lpush nx a1 m c1 (Lx.same exText ls) ⟨#[120]⟩ wr (Shape.any hrep) (by omega) 8 _ _ _ HP.out m HQ2.out
            go_wp2_with fail
            refine CP.out.mono ?_
            rintro e u1 ⟨hb2, a5, c5, rfl, hr5⟩
            have hbW := bel_then hb2 (new_bel u1 (.cells #[.int .i64 (nx : Int), .slice a5 m c5] 24))
            have kN := hbox.keep hbW
            have r5 := Shape.below hr5 (new_bel u1 (.cells #[.int .i64 (nx : Int), .slice a5 m c5] 24))
            have HPl : Hid (Plays w (((u1.alloc (.cells #[.int .i64 (nx : Int), .slice a5 m c5] 24)).setCell ⟨w.heap.size, 0, none⟩ (.int .i64 (nx : Int))).setCell ⟨w.heap.size, 1, none⟩ (.slice a5 m c5)) w.heap.size (.slice va m vc) (k + 1)) := by
              refine ⟨nx, m, ls, va, vc, a5, c5, by omega, rfl, HL.out, by omega, HR.out, (hown.keep hbW).num_all2 (by omega) _ _, ?_, kN.all2 _ _, bel_all2 (bel_then hbel hbW) (Nat.le_refl _) _ _⟩
              refine frsS.mono (Shape.all2 (b := w.heap.size) r5 (fun j hj _ => by have h7 : wr.heap.size ≤ j := hj; omega) _ _) fun b hb _ => ⟨by have h7 : wr.heap.size ≤ b := hb; omega, fun h => ?_⟩
              have h7 : wr.heap.size ≤ b := hb
              have := (hown.lt b h.symm).2
              omega
            have hsu := hb2.size
            have z0 : ∀ o, (u1.alloc o).cell? ⟨w.heap.size, 0, none⟩ = some (.int .i64 nx) := fun o => ((hbox.keep hb2).keep (new_bel u1 o)).cell 0 rfl
            have z1 : ∀ o, (u1.alloc o).cell? ⟨w.heap.size, 1, none⟩ = some (.slice a1 m c1) := fun o => ((hbox.keep hb2).keep (new_bel u1 o)).cell 1 rfl
            have e0 : ∀ o, (u1.alloc o).frozen? ⟨w.heap.size, 0, none⟩ = false := fun o => ((hbox.keep hb2).keep (new_bel u1 o)).free 0
            have e1 : ∀ o, (u1.alloc o).frozen? ⟨w.heap.size, 1, none⟩ = false := fun o => ((hbox.keep hb2).keep (new_bel u1 o)).free 1
            clear hown hrep hbox hbel p0 p1 f0 f1 hr5 hbW kN r5 CP hcell hb2
            go_wp2
            go_meet
            exact HPl.out
      case rest =>
        clear hown hrep hbox hbel hcell HL HR hqb HQ hltN hnx hm64 hb1
        obtain ⟨nx, m, ls, va, vc, a1, c1, hnx, rfl, hlen, hm64, hR, hown, hrep, hbox, hbel⟩ := hcut
        have HL : Hid (ls.length = m) := hlen
        have HR : Hid (Lx.Right (nx : Int) (Lx.same exText ls)) := hR
        clear hlen hR
        have em : ((m : Int) != (m : Int)) = false := by simp
        have p0 := hbox.cell 0 rfl
        have p1 := hbox.cell 1 rfl
        go_wp2_with fail
        refine (lright_yes nx a1 m c1 _ wc (Shape.any hrep) HR.out).mono ?_
        rintro e u1 ⟨rfl, hb2⟩
        have kN := hbox.keep hb2
        have ow := hown.keep hb2
        have rr := Shape.below hrep hb2
        have hB := bel_then hbel hb2
        clear hown hrep hbox hbel p0 p1 hb2
        have p0 := kN.cell 0 rfl
        have p1 := kN.cell 1 rfl
        have rl := Row.of_rep ow.is
        go_wp2
        go_loopw [88] (fun v88 wx => ∃ j : Nat, j ≤ m ∧ v88 = .int .i64 j ∧ Below u1.heap.size u1 wx) (fun i _ => m - (intOf i).toNat)
        case atStart => exact ⟨0, Nat.zero_le _, rfl, Below.refl _ _⟩
        case round =>
          obtain ⟨j, hj, rfl, hbj⟩ := hrel
          clear p0 p1
          by_cases hjm : j < m
          · have hji : (j : Int) < (m : Int) := by omega
            have hj0 : (0 : Int) ≤ (j : Int) := by omega
            obtain ⟨g1, o2, rfl, _, _, d1, d2⟩ := fr_at (Shape.below rr hbj) hjm
            rw [Lx.same_get (by have := HL.out; omega)] at d1 d2
            obtain ⟨g2, o3, rfl, hg2, d3⟩ := (Row.keep rl hbj).at hjm
            replace d1 : _ = some (Value.int .i64 (ls.getD j 0)) := d1
            replace d2 : _ = some (Value.string ⟨#[120]⟩) := d2
            generalize ls.getD j 0 = x at *
            have hbn := new_bel wr (.cells #[.int .i64 x, .string ⟨#[120]⟩] 45)
            have d4 : ∀ o, (wr.alloc o).cell? ⟨g2, o3 + j, none⟩ = some (.int .i64 x) := fun o => Lib.cell?_alloc_some o d3
            have ex : (x != x) = false := by simp
            have et : (ByteArray.toList ⟨#[120]⟩ != ByteArray.toList ⟨#[120]⟩) = false := by simp
            have kf := Box.new wr 45 #[.int .i64 x, .string ⟨#[120]⟩]
            have hb9 := bel_then hbj hbn
            have d5 := d4 (.cells #[.int .i64 x, .string ⟨#[120]⟩] 45)
            go_upto_region 27 with fail
            clear d1 d2 d3 d4 hbn hbj
            generalize wr.alloc (.cells #[.int .i64 x, .string ⟨#[120]⟩] 45) = W2 at *
            generalize wr.heap.size = g at *
            have k0 := kf.cell 0 rfl
            have k1 := kf.cell 1 rfl
            go_wp2
            go_quiet (fail)
            go_wp2
            go_roundw
            case rel => exact ⟨j + 1, by omega, by go_num, bel_drewN hb9 _⟩
            case measure => simp [intOf]; omega
          · have hjm' : j = m := by omega
            subst hjm'
            have hji : ¬ (j : Int) < (j : Int) := by omega
            have HPl : Hid (Plays w wr w.heap.size (.slice va j vc) (k + 1)) := ⟨nx, j, ls, va, vc, a1, c1, hnx, rfl, HL.out, by omega, HR.out, ow.keep hbj, Shape.below rr hbj, kN.keep hbj, bel_then hB hbj⟩
            clear ow rr kN hB rl
            go_wp2
            go_roundw
            case rel => exact ⟨k + 1, by omega, by omega, by go_num, HPl.out⟩
            case measure => simp [intOf]; omega
    · clear hown hrep hbox hR hlen
      by_cases hlt1 : k < len0
      · have hli : (k : Int) < (len0 : Int) := by omega
        have hli2 : ¬ (k : Int) < 100 := by omega
        go_wp2_with (go_at_call 9; refine (lawake _).mono ?_; rintro e u6 ⟨rfl, hb6⟩)
        go_ret
        exact ⟨rfl, bel_then hbel hb6⟩
      · have hli : ¬ (k : Int) < (len0 : Int) := by omega
        go_wp2_with (go_at_call 9; refine (lawake _).mono ?_; rintro e u6 ⟨rfl, hb6⟩)
        go_ret
        exact ⟨rfl, bel_then hbel hb6⟩

/- From the walk to the row. -/
set_option maxRecDepth 100000 in
theorem lifted (os : Os) (started : os.Started) (H : Type) (enc : TypeId × Value → H) :
    ReturnsInHanded {} Try.checked os 4 .any (Rows.linkPlaysSpec.pre6 enc Try.prog Try.f4 Rows.linkPlaysRow.domain false) (Rows.linkPlaysSpec.post enc Try.prog Try.f4 false true false false) := by
  refine returnsInHanded_of_change (C := Try.checked) own started (by kernel_rfl) Try.func4
    (ChangeSpec.witness6 (enc := enc) (C := Try.checked) false ⟨#[], #[.slice none 0 0], []⟩ 8 (by kernel_rfl) (by kernel_rfl) (by kernel_rfl) (by kernel_rfl)) ?_
  intro W base args ds gs before hval0 hW hcnd _
  have hval : ∀ (j : Nat) t v, Try.f4.params[j]? = some t → args[j]? = some v → Value.okWide Try.prog W .any base t v := hval0
  have hW' := hW
  obtain ⟨p, q, hA0, hV, rfl, hfz, hnd⟩ := hW
  have hA : DataW.TrodAll enc Try.prog W 0 (fun _ => true) true Try.f4.params.toList args.toList ds p := hA0
  rw [Try.params4] at hA hval
  obtain ⟨v0, vs0, d0, ds0, p0, q0, hargs, rfl, rfl, h0, r0⟩ := trodAll_cons hA
  obtain ⟨rfl, rfl, rfl⟩ := trodAll_nil r0
  obtain rfl : args = #[v0] := by cases args; simp_all
  obtain ⟨rfl, rfl⟩ := trodVars_none hV
  obtain ⟨a0, len0, cap0, rfl⟩ := okWide_slice Try.underlying42 (hval 0 42 v0 rfl rfl)
  have k0 := h0
  have lt0 : ∀ x ∈ p0, x.block < W.heap.size := by obtain ⟨m, hm⟩ := k0; exact DataW.trod_lt m _ _ _ hm
  obtain ⟨m0, w0, f0⟩ : ∃ y, (sliceS (intS .i8)).rep W everywhere [.slice a0 len0 cap0] y ∧ (∀ x0 ∈ y, (Lit.int .i8 x0).wf = true) := by
    obtain ⟨fuel, hf⟩ := h0
    exact (opens_slice (A := (intS .i8)) Try.underlying42 (show Try.prog.cellsOf 44 = 1 by kernel_rfl) (by exact Nat.succ_pos _) (opens_int Try.underlying44)) H enc W _ _ _ fuel _ _ hf
  clear hA0 hval0
  refine (walk a0 len0 cap0 m0 W w0 f0).mono fun e W' ⟨he, bel⟩ => ?_
  subst he
  exact ⟨_, rfl, _, _, _, [], _, [], hW', trodAll_mk1 (shut_bool Try.underlying4 _), (trodAll_cons_mk (Below.trod laidOut (by kernel_rfl) (of_decide_eq_true (by kernel_rfl)) k0 bel lt0) trodAll_mk0), rfl, bel.frame _, fun h => by cases h⟩

theorem over : Rows.linkPlaysRow.holds Try.pinned (OpenSpec.ofChange Rows.linkPlaysSpec) :=
  OpenClaim.holds_of_wide 4 Try.f4 rfl rfl rfl rfl rfl rfl rfl ⟨rfl, rfl, rfl, rfl, rfl⟩ rfl rfl rfl rfl rfl (by kernel_rfl) Try.func4 (by kernel_rfl)
    (of_decide_eq_true (by kernel_rfl)) (by unfold Func.isWrapper; first | (rw [if_pos (by decide +kernel)]; kernel_rfl) | (rw [if_neg (by decide +kernel)]; exact ⟨rfl, rfl⟩))
    (fun os started H enc _ => lifted os started H enc)

end Go.Proofs.Ytfdbnongpkiibaa.linkPlays

namespace Go.Proofs.Ytfdbnongpkiibaa
theorem linkPlays_holds : Rows.LinkPlaysSaid := linkPlays.over
end Go.Proofs.Ytfdbnongpkiibaa
