/- What shell's Run does when called: a script's report. -/
import Derived.Test.YtokfcjgfpchffaaGreatDoorShD
namespace Go.Proofs.YtokfcjgfpchffaaGreatDoor
open Go.ChangeShapes Go.WideShapes Go.ChangeAt Go.RowKit


/-- What a line tells is short, and of numbers from 0 on. -/
theorem play_fine {s : Ft.St} (hA : Alive 1 Sc.msS Sc.tS s) (W : List (List UInt8)) : (Sc.play s W).2.2 ≤ 7 ∧ (Sc.play s W).2.1.length ≤ 3 ∧ ∀ x ∈ (Sc.play s W).2.1, 0 ≤ x ∧ x < 1000000000000 := by
  have none : ∀ (e : Nat), e ≤ 7 → ∀ s' : Ft.St, ((s', ([] : List Int), e) : Ft.St × List Int × Nat).2.2 ≤ 7 ∧ ((s', ([] : List Int), e) : Ft.St × List Int × Nat).2.1.length ≤ 3 ∧ ∀ x ∈ ((s', ([] : List Int), e) : Ft.St × List Int × Nat).2.1, 0 ≤ x ∧ x < 1000000000000 := fun e he s' => ⟨he, by simp, fun x hx => by cases hx⟩
  unfold Sc.play
  split
  · split
    · unfold Sc.alone
      split
      · exact none 0 (by omega) _
      · split
        · refine ⟨by simp, by simp, fun x hx => ?_⟩
          have h1 := hA.i.few
          have h2 := hA.worked
          simp only [List.mem_cons, List.not_mem_nil, or_false] at hx
          rcases hx with rfl | rfl <;> omega
        · split
          · split
            · rename_i h
              rw [done_toks hA h]
              refine ⟨by simp, by simp, fun x hx => ?_⟩
              simp only [List.flatten_cons, List.flatten_nil, List.append_nil, List.cons_append, List.nil_append, List.mem_cons, List.not_mem_nil, or_false] at hx
              rcases hx with rfl | rfl | rfl <;> omega
            · exact none 0 (by omega) _
          · exact none 2 (by omega) _
    · refine none _ ?_ _
      unfold Sc.ofFrame
      repeat' split
      all_goals simp
    · refine none _ ?_ _
      unfold Sc.ofHolder Sc.addS Sc.retS
      repeat' split
      all_goals simp
    · exact none 2 (by omega) _
  · exact none 2 (by omega) _
theorem text_fine {l : List Int} {e : Nat} (he : e ≤ 7) (hl : l.length ≤ 3) (hx : ∀ x ∈ l, 0 ≤ x ∧ x < 1000000000000) : (Sc.textI l e).length ≤ 49 := by
  unfold Sc.textI
  split
  · have h1 := Sh.behind_len l hx
    unfold Sh.behind at h1
    have h2 : Sc.okW.length = 2 := rfl
    rw [List.length_append]
    omega
  · have h1 := Sh.dig_short 11 e (by omega)
    have h2 : Sc.errW.length = 6 := rfl
    rw [List.length_append]
    omega
theorem FlAt.dis {O V : Nat → Prop} {w : World} {p : Nat} {dim : Int} {ms : List Ly} {s : Ft.St} {q : List Pt} (H : FlAt O V w p dim ms s q) : ∀ b, V b → ¬ O b := by
  obtain ⟨la, ln, lc, ha, hn, hc, a0, n0, c0, a1, n1, c1, a2, n2, c2, a3, n3, c3, fa, fn, fc, ta, tn, tc, qa, qn, qc, aa, an, ac, hx, hr⟩ := H
  exact hr.dis
theorem ptold (a : Option Addr) (n c : Nat) (l : List Int) (e : Nat) (w : World) (h : rowS.rep w everywhere [.slice a n c] l) (he : e ≤ 7) (hl : l.length ≤ 3) (hz : ∀ x ∈ l, 0 ≤ x ∧ x < 1000000000000) (hE : Env w) :
    Calls Tryz.prog 33 #[.slice a n c, .int .i64 (e : Int)] w fun r w' => r = .returned (.string ⟨(Sc.textI l e).toArray⟩) ∧ Below w.heap.size w w' := by
  by_cases h0 : e = 0
  · subst h0
    have hn := (sliceS_len h).1
    exact ptold_ok a n c l w h (by omega) hz hE
  · have e1 : Sc.textI l e = Sc.errW ++ Sh.dig e := if_neg h0
    rw [e1]
    exact ptold_error a n c e (by omega) (by omega) w hE
/-- How long a text is. -/
def textLen : Value → Nat
  | .string s => s.size
  | _ => 0
set_option maxRecDepth 100000 in
set_option maxHeartbeats 4000000 in
theorem prun (d : ByteArray) (hd : d.size ≤ 1000000) (w : World) (hE : Env w) :
    Calls Tryz.prog 14 #[.string d] w fun e w' => e = .returned (.string ⟨(Sc.report d.data.toList).toArray⟩) ∧ Below w.heap.size w w' := by
  have HE := hid hE
  have HB0 : Hid (Calls _ _ _ _ _) := sbegin w
  obtain ⟨l0, hl0⟩ : ∃ l0, d.data.toList = l0 := ⟨_, rfl⟩
  have HL0 := hid hl0
  have HSZ : Hid (l0.length ≤ 1000000) := by show _ ≤ _; rw [← hl0, list_size]; exact hd
  rw [hl0]
  clear hE hd hl0
  go_enter Tryz.func14, Tryz.ntmps14
  go_upto_region 3 with (go_at_call 29; refine HB0.out.mono ?_; rintro e u1 ⟨hb1, p, V1, rfl, hV1, hat1⟩)
  have hnb := Bld.new u1 hb1.size
  have hbn := new_bel u1 (.cells #[.pointer none, .slice none 0 0] 62)
  have hMo : Mv (fun _ => False) (fun x => x = u1.heap.size) u1 (u1.alloc (.cells #[.pointer none, .slice none 0 0] 62)) := ⟨hbn.os, hbn.tape, hbn.output, hbn.size, fun b hb _ => hbn.block b hb, fun _ h => h.elim, fun b hb => .inr (by rw [hb]; exact Nat.le_refl _)⟩
  have hat2 := hat1.other hMo (fun b hb => by rw [hb]; simp)
  have hbw := bel_then hb1 hbn
  have HS0 := hid (And.intro hnb (And.intro hat2 (And.intro hbw (And.intro hV1 hb1.size))))
  have hbs : ∃ b, b = u1.heap.size := ⟨_, rfl⟩
  obtain ⟨b, hb⟩ := hbs
  rw [← hb] at HS0 ⊢
  have HBB := hid hb
  generalize (u1.alloc (.cells #[.pointer none, .slice none 0 0] 62)) = u2 at *
  clear hnb hbn hMo hat1 hat2 hbw hV1 hb1 hb HB0
  go_loopw [0] (fun sv wr => ∃ (t : List UInt8) (s : Ft.St) (T : List UInt8) (O V : Nat → Prop), sv = .string ⟨t.toArray⟩ ∧ Hid (T ++ Sc.run s (Sc.lines t) = Sc.report l0 ∧ Alive 1 Sc.msS Sc.tS s ∧ T.length + 50 * t.length ≤ 50 * l0.length ∧ t.length ≤ l0.length ∧ FlAt O V wr p 1 Sc.msS s (Ft.qs Sc.msS s) ∧ Bld O w.heap.size b T wr ∧ Below w.heap.size w wr ∧ (∀ x, V x → w.heap.size ≤ x) ∧ ∀ x, O x → w.heap.size ≤ x)) (fun sv _ => textLen sv)
  case atStart =>
    refine ⟨l0, Sc.begun, [], fun x => x = b, V1, by rw [← HL0.out, text_of], rfl, Sc.begun_alive, by simp, Nat.le_refl _, HS0.out.2.1, HS0.out.1, HS0.out.2.2.1, HS0.out.2.2.2.1, fun x hx => by rw [hx]; exact HS0.out.2.2.2.2⟩
  case round =>
    clear HS0 HL0
    obtain ⟨t, s, T, O, V, rfl, HI⟩ := hrel
    by_cases h0 : t = []
    · subst h0
      have q0 : ((⟨([] : List UInt8).toArray⟩ : ByteArray).toList == ([] : List UInt8)) = true := by rw [ByteArray.toList_eq]; rfl
      have hT : T = Sc.report l0 := by rw [← HI.out.1]; show T = T ++ []; rw [List.append_nil]
      have HST : Hid (Calls _ _ _ _ _) := bstring HI.out.2.2.2.2.2.1 HI.out.2.2.2.2.2.2.1.size
      rw [hT] at HST
      clear hT
      go_wp2_with (go_at_call 35; refine HST.out.mono ?_; rintro e u3 ⟨rfl, hb3⟩)
      go_ret
      exact ⟨rfl, HI.out.2.2.2.2.2.2.1.trans hb3⟩
    · obtain ⟨S, hS⟩ : ∃ S : ByteArray, (⟨t.toArray⟩ : ByteArray) = S := ⟨_, rfl⟩
      have hSl : S.data.toList = t := by rw [← hS]
      have hsz : S.size = t.length := by rw [← hS]; exact bsize t
      have q0 : (S.toList == ([] : List UInt8)) = false := str_some (by rw [hsz]; exact fun h => h0 (List.eq_nil_of_length_eq_zero h))
      have HC : Hid (Calls _ _ _ _ _) := scut S (by have h1 := HI.out.2.2.2.1; have h2 := HSZ.out; omega) wr (HE.out.keep HI.out.2.2.2.2.2.2.1)
      rw [hSl] at HC
      have hrun := Sc.run_cut (s := s) h0
      have hless := Sc.cut_less h0
      rw [hS]
      obtain ⟨L, hL⟩ : ∃ L, (Lib.cut t [10]).1 = L := ⟨_, rfl⟩
      obtain ⟨R, hR⟩ : ∃ R, (Lib.cut t [10]).2.1 = R := ⟨_, rfl⟩
      obtain ⟨k, hk⟩ : ∃ k, (Lib.cut t [10]).2.2 = k := ⟨_, rfl⟩
      rw [hL, hR] at hrun hless
      rw [hL, hR, hk] at HC
      have hpl := Sc.tell_play s L
      rw [hpl] at hrun
      have hal := Sc.tell_alive HI.out.2.1 L
      rw [hpl] at hal
      have hfine := play_fine HI.out.2.1 (Sc.words L)
      have htext := text_fine hfine.1 hfine.2.1 hfine.2.2
      have HPL : Hid (∀ u, Below wr.heap.size wr u → Calls _ _ _ u _) := fun u hu => pplay (HI.out.2.2.2.2.1.keep hu) HI.out.2.1 ⟨L.toArray⟩ (by rw [bsize]; have h1 := HI.out.2.2.2.1; have h2 := HSZ.out; have h3 := hless.2; omega) ((HE.out.keep HI.out.2.2.2.2.2.2.1).keep hu)
      have hLL : (⟨L.toArray⟩ : ByteArray).data.toList = L := rfl
      rw [hLL] at HPL
      obtain ⟨pl, hpl2⟩ : ∃ pl, Sc.play s (Sc.words L) = pl := ⟨_, rfl⟩
      rw [hpl2] at hrun hal hfine htext HPL
      obtain ⟨s2, nl, er⟩ := pl
      have HF := hid (And.intro hrun (And.intro hless (And.intro hal (And.intro hfine htext))))
      have HTS : Hid (S.size = t.length) := hsz
      clear hS hSl hL hR hk hpl hpl2 hrun hless hal hfine htext hLL h0 hsz
      go_wp2_with (go_at_call 30; refine HC.out.mono ?_; rintro e u3 ⟨rfl, hb3⟩)
      have HB3 := hid hb3
      clear hb3 HC
      go_wp2_with fail
      refine (HPL.out u3 HB3.out).mono ?_
      rintro e u4 ⟨na, nn, nc, rfl, hr4, hm4⟩
      obtain ⟨V4, hv4, hat4⟩ := Moved.ahead HB3.out hm4
      have hbel4 : Below w.heap.size w u4 := hv4.below HI.out.2.2.2.2.2.2.2.1 HI.out.2.2.2.2.2.2.1.size HI.out.2.2.2.2.2.2.1
      have HB4 := hid (And.intro (HI.out.2.2.2.2.2.1.move hv4 (fun x hx hv => HI.out.2.2.2.2.1.dis x hv hx)) (And.intro hat4 (And.intro hbel4 (hv4.base HI.out.2.2.2.2.2.2.2.1 HI.out.2.2.2.2.2.2.1.size))))
      have HT4 : Hid (Calls _ _ _ _ _) := ptold na nn nc nl er u4 hr4 HF.out.2.2.2.1.1 HF.out.2.2.2.1.2.1 HF.out.2.2.2.1.2.2 (HE.out.keep hbel4)
      clear hr4 hm4 hv4 hat4 hbel4 HPL
      go_wp2_with fail
      refine HT4.out.mono ?_
      rintro e u5 ⟨rfl, hb5⟩
      have hat5 := HB4.out.2.1.keep hb5
      have HB5 := hid (And.intro (HB4.out.1.keep hb5) (And.intro hat5 (bel_then HB4.out.2.2.1 hb5)))
      have hlen : T.length ≤ 50000000 := by have h1 := HI.out.2.2.1; have h2 := HSZ.out; omega
      have hxl : (Sc.textI nl er).length ≤ 49 := HF.out.2.2.2.2
      have HW : Hid (Calls _ _ _ _ _) := bwrites HB5.out.1 ⟨(Sc.textI nl er).toArray⟩ (by rw [bsize]; omega) HB5.out.2.2.size hat5.there.2.2
      clear hb5 hat5 HT4
      go_wp2_with fail
      refine HW.out.mono ?_
      rintro e u6 ⟨rfl, O6, hv6, hbl6, hlo6⟩
      have hat6 := HB5.out.2.1.other hv6 hlo6
      have hO5 : ∀ x, O x → w.heap.size ≤ x := HI.out.2.2.2.2.2.2.2.2
      have hbel6 : Below w.heap.size w u6 := hv6.below hO5 HB5.out.2.2.size HB5.out.2.2
      have HB6 := hid (And.intro hbl6 (And.intro hat6 (And.intro hbel6 (hv6.base hO5 HB5.out.2.2.size))))
      have hW7 := bwriteb HB6.out.1 10 (by show (T ++ Sc.textI nl er).length + 1 ≤ _; rw [List.length_append]; omega) HB6.out.2.2.1.size hlo6
      have HW7 : Hid (Calls _ _ _ _ _) := hW7
      clear hv6 hbl6 hlo6 hat6 hbel6 hW7 HW hO5
      go_wp2_with (go_at_call 34; refine HW7.out.mono ?_; rintro e u7 ⟨rfl, O7, hv7, hbl7, hlo7⟩)
      have HB7 := hid (And.intro (HB6.out.2.1.other hv7 hlo7) (And.intro hbl7 (And.intro (hv7.below HB6.out.2.2.2 HB6.out.2.2.1.size HB6.out.2.2.1) (hv7.base HB6.out.2.2.2 HB6.out.2.2.1.size))))
      clear hv7 hbl7 hlo7 HW7
      go_roundw
      case rel =>
        refine ⟨R, s2, T ++ Sc.textI nl er ++ [10], O7, V4, rfl, ?_, HF.out.2.2.1, ?_, ?_, HB7.out.1, HB7.out.2.1, HB7.out.2.2.1, HB4.out.2.2.2, HB7.out.2.2.2⟩
        · rw [← HI.out.1, HF.out.1]
          simp
        · have h1 := HI.out.2.2.1
          have h2 := HF.out.2.1.1
          simp only [List.length_append, List.length_cons, List.length_nil]
          omega
        · have h1 := HI.out.2.2.2.1
          have h2 := HF.out.2.1.1
          omega
      case measure =>
        show (⟨R.toArray⟩ : ByteArray).size < S.size
        rw [bsize, HTS.out]
        exact HF.out.2.1.1

end Go.Proofs.YtokfcjgfpchffaaGreatDoor
