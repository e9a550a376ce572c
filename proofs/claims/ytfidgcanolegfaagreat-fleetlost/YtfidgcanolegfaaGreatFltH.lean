/- What comeOn of package fleet does when called. -/
import Derived.Test.YtfidgcanolegfaaGreatFltG
import Derived.Test.YtfidgcanolegfaaGreatMdlF
namespace Go.Proofs.YtfidgcanolegfaaGreat
open Go.ChangeShapes Go.WideShapes Go.ChangeAt Go.RowKit


theorem qs_ask (ms : List Ly) (s : Ft.St) : Ft.qs ms (Ft.ask ms s) = Ft.qs ms s := by
  obtain ⟨_, h1, h2, _⟩ := Ft.ask_ans ms s
  unfold Ft.qs Ft.ps Ft.lyAt
  rw [h1, h2]
theorem qs_enter (ms : List Ly) (s : Ft.St) (t : List (List Int)) (l : Nat) : Ft.qs ms (Ft.enter ms s t l) = Ft.qs ms (Ft.at0 ms s t l) := qs_ask ms _
/-- The layer, as it stands in memory. -/
def layIn (p : Nat) (w : World) : Nat := match w.cell? ⟨p, 9, none⟩ with
  | some v => (intOf v).toNat
  | none => 0
theorem layIn_is {O V : Nat → Prop} {w : World} {p : Nat} {dim : Int} {ms : List Ly} {s : Ft.St} {q : List Pt} (H : FlAt O V w p dim ms s q) : layIn p w = s.lay := by
  obtain ⟨la, ln, lc, ha, hn, hc, a0, n0, c0, a1, n1, c1, a2, n2, c2, a3, n3, c3, fa, fn, fc, ta, tn, tc, qa, qn, qc, aa, an, ac, hx, hr⟩ := H
  have h9 := hx.cell 9 (v := .int .i64 (s.lay : Int)) rfl
  unfold layIn
  rw [h9]
  simp [intOf]
section
variable {O V : Nat → Prop} {w : World} {p : Nat} {dim : Int} {ms : List Ly} {s : Ft.St} {q : List Pt}
set_option maxRecDepth 100000 in
set_option maxHeartbeats 4000000 in
theorem fcomeon {T : List (List Int)} (H : FlAt O V w p dim ms s (Ft.qs ms s)) (hI : Ft.Inv dim ms T s) (hR : Md.Right dim ms) (hT : Md.TRight dim T) :
    Calls Tryz.prog 42 #[.pointer (some ⟨p, 0, none⟩)] w fun e w' => e = .returned (.tuple #[]) ∧ ∃ V', Mv V V' w w' ∧ FlAt O V' w' p dim ms (Ft.on ms s) (Ft.qs ms (Ft.on ms s)) := by
  have HH := hid H
  have HI := hid hI
  have HR := hid hR
  have HT := hid hT
  clear H hI hR hT
  go_enter Tryz.func42, Tryz.ntmps42
  go_wp2
  go_loopw [] (fun wr => ∃ V1 s1, Mv V V1 w wr ∧ FlAt O V1 wr p dim ms s1 (Ft.qs ms s1) ∧ (s1 = s ∨ (s1 = Ft.on ms s ∧ Ft.Settled ms s1))) (fun wr => ms.length - layIn p wr)
  case atStart => exact ⟨V, s, Mv.refl _ _, HH.out, .inl rfl⟩
  case round =>
    clear HH
    obtain ⟨V1, s1, hmv, hat, hwh⟩ := hrel
    have hI1 : Ft.Inv dim ms T s1 := hwh.elim (fun e => e ▸ HI.out) (fun e => e.1 ▸ HI.out.on HR.out HT.out)
    have hq32 := qs_few hI1 HR.out HT.out
    have han : s1.ans.length ≤ 1000 := by rw [← qs_len hI1]; omega
    by_cases hl : s1.lay < ms.length
    · by_cases hw : Ft.whole s1
      · obtain rfl : s1 = s := hwh.elim id fun e => absurd hw (e.2 hl)
        have hTR := toks_right HR.out HT.out hI1.toks
        have hall := hI1.all hl hw
        have hps : Ft.qs ms s1 = Ft.ps ms s1 := by unfold Ft.qs; rw [if_pos hl]
        have hLR := Ft.ly_right HR.out hl
        have hans : ∀ v ∈ s1.ans.map (fun x => x.getD []), v.length ≤ 1000 := by rw [hall]; exact Md.answers_sized hLR hTR HR.out.2.1
        have hne : s1.ans.map (fun x => x.getD []) = s1.ans.map (fun x => x.getD []) := rfl
        have HNX : Hid (Md.combine s1.toks (Ft.qs ms s1) (s1.ans.map fun x => x.getD []) = Ft.tl ms T (s1.lay + 1)) := by
          show _ = _
          rw [hps, hall, Ft.tl_next hl, ← hI1.toks]
          exact Md.combine_step hLR hTR
        have HON : Hid (Ft.on ms s1 = Ft.enter ms s1 (Md.combine s1.toks (Ft.qs ms s1) (s1.ans.map fun x => x.getD [])) (s1.lay + 1)) := by
          show _ = _
          unfold Ft.on
          rw [if_pos ⟨hl, hw⟩, hps]
        have hset := Ft.on_settled hI1 HR.out HT.out
        have HSET := hid hset
        have HL := hid hl
        have HD : Hid (Calls _ _ _ _ _) := fisdone hat false ⟨fun h => (by cases h), fun h => (by omega)⟩
        have HAN : Hid (∀ u, FlAt O V1 u p dim ms s1 (Ft.qs ms s1) → Calls Tryz.prog 80 #[.pointer (some ⟨p, 0, none⟩)] u fun e w' => e = .returned (.bool true) ∧ Below u.heap.size u w') := fun u hu => fisanswered hu han true ⟨fun _ => hw, fun _ => rfl⟩
        have HTS : Hid (s1.toks.length ≤ 1000 ∧ ∀ v ∈ s1.toks, v.length ≤ 1000) := ⟨by have := hTR.2.1; omega, fun v hv => by have := (hTR.2.2.2 v hv).1; have := HR.out.2.1; omega⟩
        have HAS := hid hans
        have HAT := hid hat
        have HAT0 := hid hat
        have HMV := hid hmv
        clear hl hw hwh hTR hall hps hLR hans hne hset han hat hmv
        go_wp2_with fail
        refine HD.out.mono ?_
        rintro e u1 ⟨rfl, hb1⟩
        have hat1 := HAT.out.keep hb1
        have HAN1 : Hid (Calls _ _ _ _ _) := HAN.out u1 hat1
        clear HAN HD
        go_wp2_with fail
        refine HAN1.out.mono ?_
        rintro e u2 ⟨rfl, hb2⟩
        obtain ⟨la, ln, lc, ha, hn, hc, a0, n0, c0, a1, n1, c1, a2, n2, c2, a3, n3, c3, fa, fn, fc, ta, tn, tc, qa, qn, qc, aa, an, ac, hO⟩ := (hat1.keep hb2).on
        have hm2 := HMV.out.bel (bel_then hb1 hb2)
        have hra := hO.r.a.plain
        have hlt := (sliceS_len hO.r.t).1
        have hlq := (sliceS_len hO.r.q).1
        have hD : Below u2.heap.size u2 u2.drew := (Below.refl _ u2).drew
        have HC : Hid (Calls _ _ _ _ _) := mcombineH ta tn tc s1.toks qa qn qc (Ft.qs ms s1) aa an ac (s1.ans.map fun x => x.getD []) u2.drew (Shape.any (Shape.below hO.r.t hD)) (Shape.any (Shape.below hO.r.q hD)) (Shape.any (Shape.below (anss_rows hra) hD)) (by have := HTS.out.1; omega) (by omega) HTS.out.2 HAS.out
        have hSS : u2.cell? ⟨p, 10, none⟩ = some (.slice ta tn tc) ∧ u2.cell? ⟨p, 11, none⟩ = some (.slice qa qn qc) ∧ u2.cell? ⟨p, 12, none⟩ = some (.slice aa an ac) := ⟨hO.box.cell 10 rfl, hO.box.cell 11 rfl, hO.box.cell 12 rfl⟩
        have HO := hid hO
        have HM2 := hid hm2
        clear hO hm2 hra hlt hlq hat1 HAN1 HAT HMV hb1 hb2
        go_wp2
        have x10 := hSS.1
        have x11 := hSS.2.1
        have x12 := hSS.2.2
        clear hSS
        go_region_with
          (go_at_call 81; refine HC.out.mono ?_; rintro e u3 ⟨hb3, a', c', rfl, hr3⟩; have hd3 := bel_then hD hb3; have z10 := (HO.out.box.keep hd3).cell 10 rfl; have f10 := (HO.out.box.keep hd3).free 10)
        all_goals
          have hat3 := (HO.out.keep hd3).toks (out_new HO.out.r (matS.mono hr3 fun b hb _ => hb))
          have hm3 := (HM2.out.bel hd3).set (p := p) (i := 10) HO.out.r.vp (.slice a' tn c')
          have HM3 := hid hm3
          clear hm3 z10 f10 hr3 hb3 hd3 x10 x11 x12 HC HM2 HO hD
          go_upto_region 2 with fail
          generalize u3.setCell ⟨p, 10, none⟩ (.slice a' tn c') = U at *
          obtain ⟨la', ln', lc', ha', hn', hc', a0', n0', c0', a1', n1', c1', a2', n2', c2', a3', n3', c3', fa', fn', fc', ta', tn', tc', qa', qn', qc', aa', an', ac', hO3⟩ := hat3.on
          have x9 := hO3.box.cell 9 (v := .int .i64 (s1.lay : Int)) rfl
          have f9 := hO3.box.free 9
          have hl4 : (s1.lay : Int) ≤ 4 := by have := HL.out; have := HR.out.2.2.2.1; omega
          have hat4 := hO3.lay (s1.lay + 1) (x := (s1.lay : Int) + 1) (by omega)
          have HC2 : Hid (Calls _ _ _ _ _) := fbegin hat4 ⟨HR.out, HT.out, by
            have h9 := Ft.at0_inv hI1 (Nat.le_succ s1.lay) (by have := HL.out; omega) HNX.out
            exact h9⟩
          have HM4 := hid (HM3.out.set (p := p) (i := 9) hO3.r.vp (.int .i64 ((s1.lay : Int) + 1)))
          clear hat3 hat4 hO3
          go_wp2_with (go_at_call 41; refine HC2.out.mono ?_; rintro e u5 ⟨rfl, V5, hm5, hat5⟩)
          have hat6 : FlAt O V5 u5 p dim ms (Ft.on ms s1) (Ft.qs ms (Ft.on ms s1)) := by
            rw [HON.out, qs_enter]
            exact hat5
          have HE := hid (And.intro (HM4.out.trans hm5) hat6)
          clear hat5 hat6 hm5 x9 f9
          go_roundw
          case rel => exact ⟨V5, Ft.on ms s1, HE.out.1, HE.out.2, .inr ⟨rfl, HSET.out⟩⟩
          case measure =>
            rw [layIn_is HE.out.2, layIn_is HAT0.out, HON.out]
            have h9 : (Ft.enter ms s1 (Md.combine s1.toks (Ft.qs ms s1) (s1.ans.map fun x => x.getD [])) (s1.lay + 1)).lay = s1.lay + 1 := (Ft.ask_ans ms _).2.1
            rw [h9]
            have := HL.out
            omega
      · have HW := hid hw
        have HOUT : Hid (s1 = Ft.on ms s) := hwh.elim (fun e => by
          show _ = _
          subst e
          unfold Ft.on
          rw [if_neg (fun h => HW.out h.2)]) (fun e => e.1)
        have HD : Hid (Calls _ _ _ _ _) := fisdone hat false ⟨fun h => (by cases h), fun h => (by omega)⟩
        have HAN : Hid (∀ u, FlAt O V1 u p dim ms s1 (Ft.qs ms s1) → Calls Tryz.prog 80 #[.pointer (some ⟨p, 0, none⟩)] u fun e w' => e = .returned (.bool false) ∧ Below u.heap.size u w') := fun u hu => fisanswered hu han false ⟨fun h => (by cases h), fun h => absurd h HW.out⟩
        have HAT := hid hat
        have HMV := hid hmv
        clear hl hw hwh han hat hmv
        go_wp2_with fail
        refine HD.out.mono ?_
        rintro e u1 ⟨rfl, hb1⟩
        have hat1 := HAT.out.keep hb1
        have HAN1 : Hid (Calls _ _ _ _ _) := HAN.out u1 hat1
        clear HAN HD
        go_wp2_with fail
        refine HAN1.out.mono ?_
        rintro e u2 ⟨rfl, hb2⟩
        have hat2 := hat1.keep hb2
        have hm2 := HMV.out.bel (bel_then hb1 hb2)
        rw [HOUT.out] at hat2
        go_wp2
        go_end0
        exact ⟨rfl, V1, hm2, hat2⟩
    · have HOUT : Hid (s1 = Ft.on ms s) := hwh.elim (fun e => by
        show _ = _
        subst e
        unfold Ft.on
        rw [if_neg (fun h => hl h.1)]) (fun e => e.1)
      have hle := hI1.lay
      have HD : Hid (Calls _ _ _ _ _) := fisdone hat true ⟨fun _ => (by omega), fun _ => rfl⟩
      have HAT := hid hat
      have HMV := hid hmv
      clear hl hwh hle hat hmv
      go_wp2_with fail
      refine HD.out.mono ?_
      rintro e u1 ⟨rfl, hb1⟩
      have hat2 := HAT.out.keep hb1
      have hm2 := HMV.out.bel hb1
      rw [HOUT.out] at hat2
      go_wp2
      go_end0
      exact ⟨rfl, V1, hm2, hat2⟩
end

end Go.Proofs.YtfidgcanolegfaaGreat
