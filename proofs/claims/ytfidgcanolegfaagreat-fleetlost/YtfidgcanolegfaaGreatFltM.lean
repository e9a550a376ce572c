/- What the document's May and the fixed answer of the statements of layer 19 are. -/
import Derived.Test.YtfidgcanolegfaaGreatFltK
import Derived.Test.YtfidgcanolegfaaGreatFltL
import Derived.Test.YtfidgcanolegfaaGreatPlcE
import Derived.Test.YtfidgcanolegfaaGreatLm
import Derived.Test.YtfidgcanolegfaaGreatJk
namespace Go.Proofs.YtfidgcanolegfaaGreat
open Go.ChangeShapes Go.WideShapes Go.ChangeAt Go.RowKit


set_option maxRecDepth 100000 in
set_option maxHeartbeats 2000000 in
theorem rmay {I : Nat → Prop} (dim : Int) (a : Option Addr) (n c : Nat) (ms : List Ly) (ep : Int) (pa : Option Addr) (pn pc : Nat) (h : List (List Int)) (b : Option Addr) (m d : Nat) (T : List (List Int)) (w : World) (H : NewIn I w a n c ms pa pn pc h b m d T) (bb : Bool) (hb : bb = true ↔ May dim ms ep h T) :
    Calls Tryz.prog 15 #[.agg #[.int .i64 dim, .slice a n c], .agg #[.int .i64 ep, .slice pa pn pc], .slice b m d] w fun e w' => e = .returned (.bool bb) ∧ Below w.heap.size w w' := by
  have hB := bel_two w (.cells #[.int .i64 dim, .slice a n c] 24) (.cells #[.int .i64 ep, .slice pa pn pc] 35)
  have km := (Box.new w 24 #[.int .i64 dim, .slice a n c]).keep (new_bel _ (.cells #[.int .i64 ep, .slice pa pn pc] 35))
  have kp := Box.new (w.alloc (.cells #[.int .i64 dim, .slice a n c] 24)) 35 #[.int .i64 ep, .slice pa pn pc]
  have e1 : (w.alloc (.cells #[.int .i64 dim, .slice a n c] 24)).heap.size = w.heap.size + 1 := by simp
  rw [e1] at kp
  have H1 := H.keep hB
  have HC1 : Hid (Calls _ _ _ _ _) := rmright a n c ms dim _ (Shape.any H1.mm) H.mn H.mz
  have hln := (sliceS_len H.pp).1
  have hlm := (sliceS_len H.mm).1
  have hn9 := H.mn
  have HBF : Hid (¬ May dim ms ep h T → bb = false) := fun h9 => Bool.eq_false_iff.2 fun e => h9 (hb.1 e)
  have HBT : Hid (May dim ms ep h T → bb = true) := hb.2
  have HN := hid H1
  clear hb H H1 e1
  go_enter Tryz.func15, Tryz.ntmps15
  go_upto_region 1 with fail
  generalize (w.alloc (.cells #[.int .i64 dim, .slice a n c] 24)).alloc (.cells #[.int .i64 ep, .slice pa pn pc] 35) = W at *
  have m0 := km.cell 0 rfl
  have m1 := km.cell 1 rfl
  go_wp2_with fail
  refine HC1.out.mono ?_
  rintro e u1 ⟨hs1, hb1⟩
  have hB1 := bel_then hB hb1
  have km1 := km.keep hb1
  have kp1 := kp.keep hb1
  clear m0 m1
  by_cases d1 : Md.Right dim ms
  case neg =>
    rw [hs1.not d1]
    have D1 := hid d1
    clear d1 hs1 km kp km1 kp1
    go_wp2
    go_ret
    exact ⟨congrArg (fun b => Ending.returned (Value.bool b)) (HBF.out (fun h => D1.out h.1)).symm, hB1⟩
  rw [hs1.is d1]
  have D1 := hid d1
  have HC2 : Hid (Calls _ _ _ _ _) := rmtokens a n c dim b m d T u1 (Shape.any (HN.out.keep hb1).tt) HN.out.ts
  have m0 := km1.cell 0 rfl
  have m1 := km1.cell 1 rfl
  clear hs1 d1 km kp
  go_wp2_with fail
  refine HC2.out.mono ?_
  rintro e u2 ⟨hs2, hb2⟩
  have hB2 := bel_then hB1 hb2
  have km2 := km1.keep hb2
  have kp2 := kp1.keep hb2
  clear m0 m1
  by_cases d2 : Md.TRight dim T
  case neg =>
    rw [hs2.not d2]
    have D2 := hid d2
    clear d2 hs2 km1 kp1 km2 kp2
    go_wp2
    go_ret
    exact ⟨congrArg (fun b => Ending.returned (Value.bool b)) (HBF.out (fun h => D2.out h.2.1)).symm, hB2⟩
  rw [hs2.is d2]
  have D2 := hid d2
  have HC3 : Hid (Calls _ _ _ _ _) := qright ep pa pn pc h u2 (Shape.any (HN.out.keep (bel_then hb1 hb2)).pp) HN.out.ps
  have p0 := kp2.cell 0 rfl
  have p1 := kp2.cell 1 rfl
  clear hs2 d2 km1 kp1
  go_wp2_with fail
  refine HC3.out.mono ?_
  rintro e u3 ⟨hs3, hb3⟩
  have hB3 := bel_then hB2 hb3
  have km3 := km2.keep hb3
  have kp3 := kp2.keep hb3
  clear p0 p1
  by_cases d3 : Pl.Right ep h
  case neg =>
    rw [hs3.not d3]
    have D3 := hid d3
    clear d3 hs3 km2 kp2 km3 kp3
    go_wp2
    go_ret
    exact ⟨congrArg (fun b => Ending.returned (Value.bool b)) (HBF.out (fun h => D3.out h.2.2.1)).symm, hB3⟩
  rw [hs3.is d3]
  have D3 := hid d3
  have HN3 := hid (HN.out.keep (bel_then (bel_then hb1 hb2) hb3))
  have HK3 := hid (And.intro km3 kp3)
  have HL := hid hln
  have HLM := hid hlm
  have m1 := km3.cell 1 rfl
  clear hs3 d3 km2 kp2 km3 kp3 HC1 HC2 HC3 hln hlm
  go_wp2
  go_loopw [26] (fun i wr => ∃ k : Nat, k ≤ n ∧ i = .int .i64 k ∧ (∀ j, j < k → (ms.getD j ly0).2.1.length ≤ h.length) ∧ Below u3.heap.size u3 wr) (fun i _ => n - (intOf i).toNat)
  case atStart => exact ⟨0, Nat.zero_le _, rfl, fun j hj => by omega, Below.refl _ _⟩
  case round =>
    clear m1
    obtain ⟨k, hk, rfl, hno, hbel⟩ := hrel
    have HNO := hid hno
    clear hno
    by_cases hlt : k < n
    · obtain ⟨b1, o1, ag, ng, cg, ax, nx, cx, g, xs, cap, rfl, _, hE, _, hrx, e0, e1, e2⟩ := ly_there (HN3.out.keep hbel).mm hlt
      have hnx := (sliceS_len hrx).1
      have hli : (k : Int) < (n : Int) := by omega
      have hk0 : (0 : Int) ≤ (k : Int) := by omega
      have HX : Hid ((ms.getD k ly0).2.1.length = nx) := by show _ = _; rw [hE]; exact hnx
      have hbn := new_bel wr (.cells #[.slice ag ng cg, .slice ax nx cx, .int .i64 cap] 65)
      have kb := Box.new wr 65 #[.slice ag ng cg, .slice ax nx cx, .int .i64 cap]
      have kpr := (HK3.out.2.keep hbel).keep hbn
      have hbel2 := bel_then hbel hbn
      have hB4 := bel_then hB3 hbel2
      clear hnx hrx hE hbel hbn
      go_upto_region 6 with fail
      clear e0 e1 e2
      generalize wr.alloc (.cells #[.slice ag ng cg, .slice ax nx cx, .int .i64 cap] 65) = Z at *
      have x1 := kb.cell 1 rfl
      have y1 := kpr.cell 1 rfl
      by_cases hq : pn < nx
      · have hqi : (pn : Int) < (nx : Int) := by omega
        have HW : Hid (¬ May dim ms ep h T) := fun h9 => by
          have h8 := h9.2.2.2 _ (in_of (by rw [HLM.out]; exact hlt) ly0 : ms.getD k ly0 ∈ ms)
          rw [HX.out, HL.out] at h8
          omega
        clear hq
        go_wp2
        go_ret
        exact ⟨congrArg (fun b => Ending.returned (Value.bool b)) (HBF.out HW.out).symm, hB4⟩
      · have hqi : ¬ (pn : Int) < (nx : Int) := by omega
        have HE := hid hbel2
        have HQ : Hid ((ms.getD k ly0).2.1.length ≤ h.length) := by show _ ≤ _; rw [HX.out, HL.out]; omega
        clear hq hbel2 hB4 kb kpr
        go_wp2
        go_roundw
        case rel =>
          refine ⟨k + 1, by omega, by go_num, fun j hj => ?_, HE.out⟩
          by_cases e : j = k
          · subst e; exact HQ.out
          · exact HNO.out j (by omega)
        case measure => simp [intOf]; omega
    · have hkn : k = n := by omega
      subst hkn
      have hli : ¬ (k : Int) < (k : Int) := by omega
      have HM : Hid (May dim ms ep h T) := ⟨D1.out, D2.out, D3.out, fun l hl => by
        obtain ⟨j, hj⟩ := List.getElem?_of_mem hl
        have hjl : j < ms.length := (List.getElem?_eq_some_iff.1 hj).1
        have h9 := HNO.out j (by rw [← HLM.out]; exact hjl)
        rw [List.getD_eq_getElem?_getD, hj] at h9
        exact h9⟩
      have hB4 := bel_then hB3 hbel
      clear hbel
      go_wp2
      go_ret
      exact ⟨congrArg (fun b => Ending.returned (Value.bool b)) (HBT.out HM.out).symm, hB4⟩

end Go.Proofs.YtfidgcanolegfaaGreat
