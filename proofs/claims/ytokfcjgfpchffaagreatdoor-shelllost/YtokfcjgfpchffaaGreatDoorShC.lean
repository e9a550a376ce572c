/- What shell's playFrame, playHolder, playAlone, doneNumbers and play do when called. -/
import Derived.Test.YtokfcjgfpchffaaGreatDoorShB
import Derived.Test.YtokfcjgfpchffaaGreatDoorKn
namespace Go.Proofs.YtokfcjgfpchffaaGreatDoor
open Go.ChangeShapes Go.WideShapes Go.ChangeAt Go.RowKit


theorem word_yes {d : ByteArray} {W : List UInt8} (h : d.data.toList = W) : (d.toList == W) = true := by rw [ByteArray.toList_eq, h]; exact beq_self_eq_true _
theorem word_no {d : ByteArray} {W : List UInt8} (h : d.data.toList ≠ W) : (d.toList == W) = false := by rw [ByteArray.toList_eq]; exact beq_eq_false_iff_ne.2 h
/-- A fleet of scripts that has moved. -/
def Moved (O V : Nat → Prop) (w w' : World) (p : Nat) (s : Ft.St) : Prop := ∃ V', Mv V V' w w' ∧ FlAt O V' w' p 1 Sc.msS s (Ft.qs Sc.msS s)
section
variable {O V : Nat → Prop} {w w' w2 : World} {p : Nat} {s s' : Ft.St}
theorem Moved.same (H : FlAt O V w p 1 Sc.msS s (Ft.qs Sc.msS s)) (hb : Below w.heap.size w w') : Moved O V w w' p s := ⟨V, .of_bel hb, H.keep hb⟩
theorem Moved.bel (H : Moved O V w w' p s) (hb : Below w'.heap.size w' w2) : Moved O V w w2 p s := by
  obtain ⟨V', h1, h2⟩ := H
  exact ⟨V', h1.bel hb, h2.keep hb⟩
theorem Moved.ahead (hb : Below w.heap.size w w') (H : Moved O V w' w2 p s) : Moved O V w w2 p s := by
  obtain ⟨V', h1, h2⟩ := H
  exact ⟨V', (Mv.of_bel hb).trans h1, h2⟩
end
section
variable {O V : Nat → Prop} {w : World} {p : Nat} {s : Ft.St}
theorem qdeliver (H : FlAt O V w p 1 Sc.msS s (Ft.qs Sc.msS s)) (hA : Alive 1 Sc.msS Sc.tS s) (i : Nat) :
    Calls Tryz.prog 21 #[.pointer (some ⟨p, 0, none⟩), .int .i64 (i : Int)] w fun e w' => e = .returned (.int .i64 ((if i < s.bag.length then 0 else 4 : Nat) : Int)) ∧ Moved O V w w' p (Ft.deliver 1 Sc.msS s i) := by
  by_cases h : i < s.bag.length
  · rw [if_pos h]
    exact fdeliver_in H hA i h
  · rw [if_neg h]
    refine (fdeliver_out H hA.i.few (i : Int) (by omega)).mono ?_
    rintro e w' ⟨rfl, hb⟩
    have e1 : Ft.deliver 1 Sc.msS s i = s := if_neg h
    rw [e1]
    exact ⟨rfl, Moved.same H hb⟩
theorem qdrop (H : FlAt O V w p 1 Sc.msS s (Ft.qs Sc.msS s)) (hA : Alive 1 Sc.msS Sc.tS s) (i : Nat) :
    Calls Tryz.prog 22 #[.pointer (some ⟨p, 0, none⟩), .int .i64 (i : Int)] w fun e w' => e = .returned (.int .i64 ((if i < s.bag.length then 0 else 4 : Nat) : Int)) ∧ Moved O V w w' p (Ft.drop s i) := by
  by_cases h : i < s.bag.length
  · rw [if_pos h]
    refine (fdrop_in H hA.i.few i h).mono ?_
    rintro e w' ⟨rfl, hm, hat⟩
    exact ⟨rfl, V, hm, hat⟩
  · rw [if_neg h]
    refine (fdrop_out H hA.i.few (i : Int) (by omega)).mono ?_
    rintro e w' ⟨rfl, hb⟩
    have e1 : Ft.drop s i = s := by
      unfold Ft.drop
      rw [List.eraseIdx_of_length_le (by omega)]
    rw [e1]
    exact ⟨rfl, Moved.same H hb⟩
theorem qtwice (H : FlAt O V w p 1 Sc.msS s (Ft.qs Sc.msS s)) (hA : Alive 1 Sc.msS Sc.tS s) (i : Nat) :
    Calls Tryz.prog 23 #[.pointer (some ⟨p, 0, none⟩), .int .i64 (i : Int)] w fun e w' => e = .returned (.int .i64 ((if i < s.bag.length then 0 else 4 : Nat) : Int)) ∧ Moved O V w w' p (Ft.twice s i) := by
  by_cases h : i < s.bag.length
  · rw [if_pos h]
    refine (ftwice_in H hA.i.few i h).mono ?_
    rintro e w' ⟨rfl, hm, hat⟩
    refine ⟨rfl, V, hm, ?_⟩
    have hq : Ft.qs Sc.msS (Ft.twice s i) = Ft.qs Sc.msS s := by unfold Ft.twice; rw [if_pos h]; rfl
    rw [hq]
    exact hat
  · rw [if_neg h]
    refine (ftwice_out H hA.i.few (i : Int) (by omega)).mono ?_
    rintro e w' ⟨rfl, hb⟩
    have e1 : Ft.twice s i = s := if_neg h
    rw [e1]
    exact ⟨rfl, Moved.same H hb⟩
theorem qask (H : FlAt O V w p 1 Sc.msS s (Ft.qs Sc.msS s)) (hA : Alive 1 Sc.msS Sc.tS s) :
    Calls Tryz.prog 20 #[.pointer (some ⟨p, 0, none⟩)] w fun e w' => e = .returned (.tuple #[]) ∧ Moved O V w w' p (Ft.ask Sc.msS s) := by
  refine (faskM H hA.i hA.m hA.t).mono ?_
  rintro e w' ⟨rfl, hm, hat⟩
  exact ⟨rfl, V, hm, by rw [qs_ask]; exact hat⟩
theorem qadd (H : FlAt O V w p 1 Sc.msS s (Ft.qs Sc.msS s)) (hA : Alive 1 Sc.msS Sc.tS s) (x n : Nat) :
    Calls Tryz.prog 24 #[.pointer (some ⟨p, 0, none⟩), .int .i64 (x : Int), .int .i64 (n : Int)] w fun e w' => e = .returned (.int .i64 (((Sc.addS s.e s.h x n).2.2.toNat : Nat) : Int)) ∧ Moved O V w w' p (Ft.turned s (Sc.addS s.e s.h x n).1 (Sc.addS s.e s.h x n).2.1) := by
  refine (fladd H (Pl.right_short hA.i.map) x n _ _ _ (Sc.addS_is s.e s.h x n)).mono ?_
  rintro e w' ⟨rfl, hm, hat⟩
  exact ⟨by rw [Sc.addS_nat], V, hm, hat⟩
theorem qretire (H : FlAt O V w p 1 Sc.msS s (Ft.qs Sc.msS s)) (hA : Alive 1 Sc.msS Sc.tS s) (x n : Nat) :
    Calls Tryz.prog 25 #[.pointer (some ⟨p, 0, none⟩), .int .i64 (x : Int), .int .i64 (n : Int)] w fun e w' => e = .returned (.int .i64 (((Sc.retS s.e s.h x n).2.2.toNat : Nat) : Int)) ∧ Moved O V w w' p (Ft.turned s (Sc.retS s.e s.h x n).1 (Sc.retS s.e s.h x n).2.1) := by
  refine (flretire H (Pl.right_short hA.i.map) x n _ _ _ (Sc.retS_is s.e s.h x n)).mono ?_
  rintro e w' ⟨rfl, hm, hat⟩
  exact ⟨by rw [Sc.retS_nat], V, hm, hat⟩
set_option maxRecDepth 100000 in
set_option maxHeartbeats 1000000 in
theorem pframe (H : FlAt O V w p 1 Sc.msS s (Ft.qs Sc.msS s)) (hA : Alive 1 Sc.msS Sc.tS s) (d : ByteArray) (i : Nat) :
    Calls Tryz.prog 65 #[.pointer (some ⟨p, 0, none⟩), .string d, .int .i64 (i : Int)] w fun e w' => e = .returned (.int .i64 ((Sc.ofFrame s d.data.toList i).2 : Nat)) ∧ Moved O V w w' p (Sc.ofFrame s d.data.toList i).1 := by
  have HH := hid (And.intro H hA)
  clear H hA
  unfold Sc.ofFrame
  by_cases h1 : d.data.toList = Sc.deliverW
  · rw [if_pos h1]
    have q1 : (d.toList == ([100, 101, 108, 105, 118, 101, 114] : List UInt8)) = true := word_yes h1
    clear h1
    have HD : Hid (Calls _ _ _ _ _) := qdeliver HH.out.1 HH.out.2 i
    generalize (if i < s.bag.length then 0 else 4 : Nat) = k at *
    go_enter Tryz.func65, Tryz.ntmps65
    go_wp2_with (go_at_call 21; refine HD.out.mono ?_; rintro e u1 ⟨rfl, hm1⟩)
    go_ret
    exact ⟨rfl, hm1⟩
  · rw [if_neg h1]
    have q1 : (d.toList == ([100, 101, 108, 105, 118, 101, 114] : List UInt8)) = false := word_no h1
    clear h1
    by_cases h2 : d.data.toList = Sc.dropW
    · rw [if_pos h2]
      have q2 : (d.toList == ([100, 114, 111, 112] : List UInt8)) = true := word_yes h2
      clear h2
      have HD : Hid (Calls _ _ _ _ _) := qdrop HH.out.1 HH.out.2 i
      generalize (if i < s.bag.length then 0 else 4 : Nat) = k at *
      go_enter Tryz.func65, Tryz.ntmps65
      go_wp2_with (go_at_call 22; refine HD.out.mono ?_; rintro e u1 ⟨rfl, hm1⟩)
      go_ret
      exact ⟨rfl, hm1⟩
    · rw [if_neg h2]
      have q2 : (d.toList == ([100, 114, 111, 112] : List UInt8)) = false := word_no h2
      clear h2
      by_cases h3 : d.data.toList = Sc.twiceW
      · rw [if_pos h3]
        have q3 : (d.toList == ([116, 119, 105, 99, 101] : List UInt8)) = true := word_yes h3
        clear h3
        have HD : Hid (Calls _ _ _ _ _) := qtwice HH.out.1 HH.out.2 i
        generalize (if i < s.bag.length then 0 else 4 : Nat) = k at *
        go_enter Tryz.func65, Tryz.ntmps65
        go_wp2_with (go_at_call 23; refine HD.out.mono ?_; rintro e u1 ⟨rfl, hm1⟩)
        go_ret
        exact ⟨rfl, hm1⟩
      · rw [if_neg h3]
        have q3 : (d.toList == ([116, 119, 105, 99, 101] : List UInt8)) = false := word_no h3
        clear h3
        go_enter Tryz.func65, Tryz.ntmps65
        go_wp2
        go_ret
        exact ⟨rfl, Moved.same HH.out.1 (Below.refl _ _)⟩
set_option maxRecDepth 100000 in
set_option maxHeartbeats 1000000 in
theorem pholder (H : FlAt O V w p 1 Sc.msS s (Ft.qs Sc.msS s)) (hA : Alive 1 Sc.msS Sc.tS s) (d : ByteArray) (x n : Nat) :
    Calls Tryz.prog 66 #[.pointer (some ⟨p, 0, none⟩), .string d, .int .i64 (x : Int), .int .i64 (n : Int)] w fun e w' => e = .returned (.int .i64 ((Sc.ofHolder s d.data.toList x n).2 : Nat)) ∧ Moved O V w w' p (Sc.ofHolder s d.data.toList x n).1 := by
  have HH := hid (And.intro H hA)
  clear H hA
  unfold Sc.ofHolder
  by_cases h1 : d.data.toList = Sc.addW
  · rw [if_pos h1]
    have q1 : (d.toList == ([97, 100, 100] : List UInt8)) = true := word_yes h1
    clear h1
    have HD : Hid (Calls _ _ _ _ _) := qadd HH.out.1 HH.out.2 x n
    generalize (Sc.addS s.e s.h x n).2.2.toNat = k at *
    go_enter Tryz.func66, Tryz.ntmps66
    go_wp2_with (go_at_call 24; refine HD.out.mono ?_; rintro e u1 ⟨rfl, hm1⟩)
    go_ret
    exact ⟨rfl, hm1⟩
  · rw [if_neg h1]
    have q1 : (d.toList == ([97, 100, 100] : List UInt8)) = false := word_no h1
    clear h1
    by_cases h2 : d.data.toList = Sc.retireW
    · rw [if_pos h2]
      have q2 : (d.toList == ([114, 101, 116, 105, 114, 101] : List UInt8)) = true := word_yes h2
      clear h2
      have HD : Hid (Calls _ _ _ _ _) := qretire HH.out.1 HH.out.2 x n
      generalize (Sc.retS s.e s.h x n).2.2.toNat = k at *
      go_enter Tryz.func66, Tryz.ntmps66
      go_wp2_with (go_at_call 25; refine HD.out.mono ?_; rintro e u1 ⟨rfl, hm1⟩)
      go_ret
      exact ⟨rfl, hm1⟩
    · rw [if_neg h2]
      have q2 : (d.toList == ([114, 101, 116, 105, 114, 101] : List UInt8)) = false := word_no h2
      clear h2
      go_enter Tryz.func66, Tryz.ntmps66
      go_wp2
      go_ret
      exact ⟨rfl, Moved.same HH.out.1 (Below.refl _ _)⟩
/-- What is told of a fleet that is done. -/
theorem done_toks (hA : Alive 1 Sc.msS Sc.tS s) (h : s.lay = Sc.msS.length) : s.toks = [[200], [100], [7]] := by
  rw [hA.i.done (by omega)]
  decide +kernel
theorem flat10_step (m : List (List Int)) {k : Nat} (h : k < m.length) : (m.take (k + 1)).flatten = (m.take k).flatten ++ m.getD k [] := by
  rw [List.take_succ_eq_append_getElem h, List.flatten_append, List.getD_eq_getElem?_getD, List.getElem?_eq_getElem h]
  simp
theorem flat10_len (m : List (List Int)) (hm : ∀ l ∈ m, l.length ≤ 10) (k : Nat) : (m.take k).flatten.length ≤ 10 * k := by
  induction k with
  | zero => simp
  | succ k ih =>
    by_cases h : k < m.length
    · rw [flat10_step m h, List.length_append]
      have h1 : (m.getD k []).length ≤ 10 := by
        rw [List.getD_eq_getElem?_getD, List.getElem?_eq_getElem h]
        exact hm _ (List.getElem_mem h)
      omega
    · rw [List.take_of_length_le (by omega)]
      rw [List.take_of_length_le (by omega)] at ih
      omega
set_option maxRecDepth 100000 in
set_option maxHeartbeats 2000000 in
theorem pdone_yes (H : FlAt O V w p 1 Sc.msS s (Ft.qs Sc.msS s)) (hA : Alive 1 Sc.msS Sc.tS s) (h : s.lay = Sc.msS.length) :
    Calls Tryz.prog 109 #[.pointer (some ⟨p, 0, none⟩)] w fun e w' => Below w.heap.size w w' ∧ ∃ a c, e = .returned (.slice a 3 c) ∧ rowS.rep w' everywhere [.slice a 3 c] [200, 100, 7] := by
  obtain ⟨i0, hi0, hi1, hi2, hi3⟩ := info_parts Tryz.infoInt
  have ht := done_toks hA h
  have HD : Hid (Calls _ _ _ _ _) := fdone_yes H h hA.short 3 (by rw [ht]; rfl)
  rw [ht] at HD
  clear H hA h ht
  obtain ⟨m, hm⟩ : ∃ m : List (List Int), m = [[200], [100], [7]] := ⟨_, rfl⟩
  have HM := hid hm
  rw [← hm] at HD
  clear hm
  have HML : Hid (m.length = 3) := by show _ = _; rw [HM.out]; rfl
  have HFL : Hid (∀ l ∈ m, l.length ≤ 10) := by
    show ∀ l ∈ m, _
    rw [HM.out]
    intro l hl
    simp only [List.mem_cons, List.not_mem_nil, or_false] at hl
    rcases hl with rfl | rfl | rfl <;> decide
  go_enter Tryz.func109, Tryz.ntmps109
  go_wp2_with (go_at_call 28; refine HD.out.mono ?_; rintro e u1 ⟨hb1, ta, tc, rfl, ht⟩)
  have HT := hid (Shape.low ht)
  have HB1 := hid hb1
  clear ht hb1 HD
  go_loopw [5, 15] (fun v i wr => ∃ (k n : Nat) (a : Option Addr) (c : Nat), k ≤ 3 ∧ v = .slice a n c ∧ i = .int .i64 k ∧ Hid (n = (m.take k).flatten.length) ∧ Own (intS .i64) wr u1.heap.size 3 (.slice a n c) (m.take k).flatten ∧ Below u1.heap.size u1 wr) (fun _ i _ => 3 - (intOf i).toNat)
  case atStart => exact ⟨0, 0, none, 0, by omega, rfl, rfl, (by show _ = _; simp), by rw [List.take_zero]; exact Own.nil _ _ _ _, Below.refl _ _⟩
  case round =>
    obtain ⟨k, n, fa, fc, hk, rfl, rfl, HN, hown, hbel⟩ := hrel
    by_cases hlt : k < 3
    · have hkl : k < m.length := by rw [HML.out]; exact hlt
      obtain ⟨b1, o1, A, C, rfl, hb1, hc1, hr1⟩ := mat_at (Shape.any (Shape.now HT.out hbel)) hlt
      have hli : (k : Int) < 3 := by omega
      have hz0 : (0 : Int) ≤ (k : Int) := by omega
      have hrF : rowS.rep wr (· < u1.heap.size) [.slice A (m.getD k []).length C] (m.getD k []) := by
        obtain ⟨b2, o2, cs, e2, hF2, _, hcc, hrr⟩ := sliceS_at (Shape.now HT.out hbel) (by exact Nat.one_pos) (j := k) hkl
        simp only [Option.some.injEq, Addr.mk.injEq] at e2
        obtain ⟨rfl, rfl, _⟩ := e2
        have hg : m.getD k [] = m[k]'hkl := by rw [List.getD_eq_getElem?_getD, List.getElem?_eq_getElem hkl]; rfl
        rw [hg] at hc1 ⊢
        obtain ⟨a2, c2, css, rfl, r1, r2, r3, r4⟩ := hrr
        have h9 := hcc 0 _ rfl
        rw [show o1 + (k * rowS.size + 0) = o1 + k by show o1 + (k * 1 + 0) = o1 + k; omega] at h9
        rw [h9] at hc1
        simp only [Option.some.injEq, Value.slice.injEq] at hc1
        obtain ⟨rfl, _, rfl⟩ := hc1
        exact ⟨_, _, css, rfl, r1, r2, r3, r4⟩
      have hoff : ∀ b, b < u1.heap.size → some b ≠ Value.ownBlock (.slice fa n fc) := fun b hb => Own.apart hown (Nat.le_refl _) b hb
      have hsz : u1.heap.size ≤ wr.heap.size := hbel.size
      have hfl := flat10_len m HFL.out k
      have hgl : (m.getD k []).length ≤ 10 := by
        rw [List.getD_eq_getElem?_getD, List.getElem?_eq_getElem hkl]
        exact HFL.out _ (List.getElem_mem hkl)
      have hlen : (m.take k).flatten.length + (m.getD k []).length ≤ 100000 := by omega
      have hst := flat10_step m hkl
      obtain ⟨q, hq⟩ : ∃ q, (m.take k).flatten.length + (m.getD k []).length = q := ⟨_, rfl⟩
      have HQ : Hid (q = (m.take (k + 1)).flatten.length) := by show _ = _; rw [← hq, hst, List.length_append]
      obtain ⟨L2, HL2⟩ : ∃ L2, Hid ((m.take (k + 1)).flatten = L2) := ⟨_, rfl⟩
      have hcat := hst.symm.trans HL2.out
      have hnl : (m.take k).flatten.length = n := HN.out.symm
      obtain ⟨r, hr⟩ : ∃ r, m.getD k [] = r := ⟨_, rfl⟩
      rw [hr] at hc1 hrF hlen hq hcat
      obtain ⟨j, hj⟩ : ∃ j, r.length = j := ⟨_, rfl⟩
      rw [hj] at hc1 hrF hlen hq
      have HB := hid hbel
      generalize (m.take k).flatten = L at *
      clear hst hr hj hgl hfl hr1 hbel
      go_wp2_with (at_builtin; refine wpList_appK (intS .i64) (by simp [Region.wanted]) (.tmp 19) (.tmp 20) 31 rfl u1.heap.size 3 i0 (.int .i64 0) 8 Tryz.underlying31 hi0 hi1 hi2 hi3 rfl Nat.one_pos (by omega) (by rfl) hown (by rfl) hrF hoff hlen hsz q hq L2 hcat ?_; intro a4 c4 u4 ho4 hg4 hb4 hat4)
      go_roundw
      case rel => exact ⟨k + 1, q, a4, c4, by omega, rfl, by go_num, HQ, by rw [HL2.out]; exact ho4, HB.out.trans hb4⟩
      case measure => first | (simp [intOf]; done) | (simp [intOf]; omega)
    · have hkn : k = 3 := by omega
      subst hkn
      have hall : (m.take 3).flatten = [200, 100, 7] := by rw [HM.out]; rfl
      have hn3 : n = 3 := by rw [HN.out, hall]; rfl
      subst hn3
      rw [hall] at hown
      have HOW := hid (And.intro hown hbel)
      clear hown hbel hall
      go_wp2
      go_ret
      exact ⟨HB1.out.trans (HOW.out.2.mono HB1.out.size), fa, fc, rfl, Shape.any (HOW.out.1.high)⟩
set_option maxRecDepth 100000 in
set_option maxHeartbeats 2000000 in
theorem pdone_no (H : FlAt O V w p 1 Sc.msS s (Ft.qs Sc.msS s)) (h : s.lay ≠ Sc.msS.length) :
    Calls Tryz.prog 109 #[.pointer (some ⟨p, 0, none⟩)] w fun e w' => e = .returned (.slice none 0 0) ∧ Below w.heap.size w w' := by
  have HD : Hid (Calls _ _ _ _ _) := fdone_no H h
  clear H h
  go_enter Tryz.func109, Tryz.ntmps109
  go_wp2_with (go_at_call 28; refine HD.out.mono ?_; rintro e u1 ⟨rfl, hb1⟩)
  have HB1 := hid hb1
  clear hb1 HD
  go_loopw [5, 15] (fun v i wr => v = .slice none 0 0 ∧ i = .int .i64 0 ∧ wr = u1) (fun _ _ _ => 0)
  case atStart => exact ⟨rfl, rfl, rfl⟩
  case round =>
    obtain ⟨rfl, rfl, hww⟩ := hrel
    replace hww := hww.symm
    subst hww
    go_wp2
    go_ret
    exact ⟨rfl, HB1.out⟩
set_option maxRecDepth 100000 in
set_option maxHeartbeats 2000000 in
theorem palone (H : FlAt O V w p 1 Sc.msS s (Ft.qs Sc.msS s)) (hA : Alive 1 Sc.msS Sc.tS s) (d : ByteArray) :
    Calls Tryz.prog 64 #[.pointer (some ⟨p, 0, none⟩), .string d] w fun e w' => ∃ a n c, e = .returned (.tuple #[.slice a n c, .int .i64 ((Sc.alone s d.data.toList).2.2 : Nat)]) ∧ rowS.rep w' everywhere [.slice a n c] (Sc.alone s d.data.toList).2.1 ∧ Moved O V w w' p (Sc.alone s d.data.toList).1 := by
  have HH := hid (And.intro H hA)
  clear H hA
  unfold Sc.alone
  by_cases h1 : d.data.toList = Sc.askW
  · rw [if_pos h1]
    have q1 : (d.toList == ([97, 115, 107] : List UInt8)) = true := word_yes h1
    clear h1
    have HD : Hid (Calls _ _ _ _ _) := qask HH.out.1 HH.out.2
    go_enter Tryz.func64, Tryz.ntmps64
    go_wp2_with (go_at_call 20; refine HD.out.mono ?_; rintro e u1 ⟨rfl, hm1⟩)
    go_ret2
    exact ⟨none, 0, 0, rfl, rep_none _ _ _, hm1⟩
  · rw [if_neg h1]
    have q1 : (d.toList == ([97, 115, 107] : List UInt8)) = false := word_no h1
    clear h1
    by_cases h2 : d.data.toList = Sc.bagW
    · rw [if_pos h2]
      have q2 : (d.toList == ([98, 97, 103] : List UInt8)) = true := word_yes h2
      clear h2
      obtain ⟨k, hk⟩ : ∃ k, s.bag.length = k := ⟨_, rfl⟩
      obtain ⟨m, hm⟩ : ∃ m, Ft.worked s = m := ⟨_, rfl⟩
      have HD : Hid (Calls _ _ _ _ _) := fbag HH.out.1 HH.out.2.i.few k hk
      have HWK : Hid (∀ u, Below w.heap.size w u → Calls Tryz.prog 27 #[.pointer (some ⟨p, 0, none⟩)] u fun e w' => e = .returned (.int .i64 (m : Int)) ∧ Below u.heap.size u w') := fun u hu => by
        have h9 := fworked (HH.out.1.keep hu) HH.out.2.i.len HH.out.2.worked
        rw [hm] at h9
        exact h9
      rw [hk, hm]
      clear hk hm
      go_enter Tryz.func64, Tryz.ntmps64
      go_wp2_with fail
      refine HD.out.mono ?_
      rintro e u1 ⟨hb1, ba, bc, rfl, _⟩
      have HB1 := hid hb1
      clear hb1
      go_wp2_with fail
      refine (HWK.out u1 HB1.out).mono ?_
      rintro e u2 ⟨rfl, hb2⟩
      have HB2 := hid (bel_then HB1.out hb2)
      clear hb2
      go_wp2
      go_ret2
      exact ⟨_, 2, 2, rfl, row_lit u2 [(k : Int), (m : Int)] 3 (by show 2 ≤ maxLen; decide), Moved.same HH.out.1 (bel_alloc HB2.out _)⟩
    · rw [if_neg h2]
      have q2 : (d.toList == ([98, 97, 103] : List UInt8)) = false := word_no h2
      clear h2
      by_cases h3 : d.data.toList = Sc.doneW
      · rw [if_pos h3]
        have q3 : (d.toList == ([100, 111, 110, 101] : List UInt8)) = true := word_yes h3
        clear h3
        by_cases h4 : s.lay = Sc.msS.length
        · have HD : Hid (Calls _ _ _ _ _) := pdone_yes HH.out.1 HH.out.2 h4
          have ht : s.toks.flatten = [200, 100, 7] := by rw [done_toks HH.out.2 h4]; rfl
          rw [if_pos h4, ht]
          clear h4 ht
          go_enter Tryz.func64, Tryz.ntmps64
          go_wp2_with (go_at_call 109; refine HD.out.mono ?_; rintro e u1 ⟨hb1, a, c, rfl, hr⟩)
          go_ret2
          exact ⟨a, 3, c, rfl, hr, Moved.same HH.out.1 hb1⟩
        · have HD : Hid (Calls _ _ _ _ _) := pdone_no HH.out.1 h4
          rw [if_neg h4]
          clear h4
          go_enter Tryz.func64, Tryz.ntmps64
          go_wp2_with (go_at_call 109; refine HD.out.mono ?_; rintro e u1 ⟨rfl, hb1⟩)
          go_ret2
          exact ⟨none, 0, 0, rfl, rep_none _ _ _, Moved.same HH.out.1 hb1⟩
      · rw [if_neg h3]
        have q3 : (d.toList == ([100, 111, 110, 101] : List UInt8)) = false := word_no h3
        clear h3
        go_enter Tryz.func64, Tryz.ntmps64
        go_wp2
        go_ret2
        exact ⟨none, 0, 0, rfl, rep_none _ _ _, Moved.same HH.out.1 (Below.refl _ _)⟩
set_option maxRecDepth 100000 in
/-- 'words[1:]'. -/
theorem words_tail {a : Option Addr} {n c : Nat} {l : List ByteArray} {w : World} {F : Nat → Prop} (h : bagS.rep w F [.slice a (n + 1) c] l) :
    ∃ D C, (∀ u : World, (Instr.slice 24 (.slice a (n + 1) c) (some (.int .i64 1)) none none).run Tryz.prog u = .ok (.slice D n C) u) ∧ bagS.rep w F [.slice D n C] l.tail := by
  obtain ⟨hl, hc1, hc2⟩ := sliceS_len h
  obtain ⟨i0, hi, hz0, hz1, hz2⟩ := info_parts Tryz.infoText
  have hu := Tryz.underlying24
  have hr := rep_drop h (k := 1) (by omega)
  rw [List.drop_one] at hr
  refine ⟨_, _, fun u => ?_, hr⟩
  rw [run_slice_l u 24 a (n + 1) c hu .i64 1 (by omega) (by omega)]
  simp [sizeOf, typeInfo, go_sem, hi, hz1, strS]
/-- Which of words is none. -/
theorem Sh.first_bad (l : List ByteArray) : (∀ x ∈ l, Sh.Num x.data.toList) ∨ ∃ m, m < l.length ∧ ¬ Sh.Num (l.getD m noText).data.toList ∧ ∀ j, j < m → Sh.Num (l.getD j noText).data.toList := by
  induction l with
  | nil => exact .inl (fun x hx => by cases hx)
  | cons x r ih =>
    by_cases h : Sh.Num x.data.toList
    · rcases ih with k | ⟨m, k1, k2, k3⟩
      · exact .inl (fun y hy => by
          rcases List.mem_cons.1 hy with e | e
          · rw [e]; exact h
          · exact k y e)
      · exact .inr ⟨m + 1, by rw [List.length_cons]; omega, by simpa using k2, fun j hj => by
          cases j with
          | zero => simpa using h
          | succ j => simpa using k3 j (by omega)⟩
    · exact .inr ⟨0, by simp, by simpa using h, fun j hj => by omega⟩
theorem Sh.num_texts (l : List (List UInt8)) : (∀ x ∈ Sh.texts l, Sh.Num x.data.toList) ↔ ∀ x ∈ l, Sh.Num x := by
  unfold Sh.texts
  simp
theorem Sh.nums_texts (l : List (List UInt8)) : Sh.nums (Sh.texts l) = (l.map Sh.val).map fun n => ((n : Nat) : Int) := by
  unfold Sh.nums Sh.texts
  rw [List.map_map, List.map_map]
  exact List.map_congr_left (fun x _ => rfl)
theorem words_sizes (d : ByteArray) (hd : d.size ≤ 1000000) {w : List UInt8} {r : List (List UInt8)} (hw : Sc.words d.data.toList = w :: r) : ∀ x ∈ Sh.texts r, x.size ≤ 1000000 := by
  intro x hx
  unfold Sh.texts at hx
  obtain ⟨y, hy, rfl⟩ := List.mem_map.1 hx
  have h1 := Sc.words_size d.data.toList y (by rw [hw]; exact List.mem_cons_of_mem _ hy)
  rw [list_size] at h1
  rw [bsize]
  omega
set_option maxRecDepth 100000 in
set_option maxHeartbeats 4000000 in
theorem pplay (H : FlAt O V w p 1 Sc.msS s (Ft.qs Sc.msS s)) (hA : Alive 1 Sc.msS Sc.tS s) (d : ByteArray) (hd : d.size ≤ 1000000) (hE : Env w) :
    Calls Tryz.prog 31 #[.pointer (some ⟨p, 0, none⟩), .string d] w fun e w' => ∃ a n c, e = .returned (.tuple #[.slice a n c, .int .i64 ((Sc.play s (Sc.words d.data.toList)).2.2 : Nat)]) ∧ rowS.rep w' everywhere [.slice a n c] (Sc.play s (Sc.words d.data.toList)).2.1 ∧ Moved O V w w' p (Sc.play s (Sc.words d.data.toList)).1 := by
  have HH := hid (And.intro H hA)
  have HE := hid hE
  clear H hA hE
  obtain ⟨⟨wd, r, hw, hr⟩, _⟩ := Sc.tell_words s d.data.toList
  have HSZ := hid (words_sizes d hd hw)
  by_cases hall : ∀ x ∈ r, Sh.Num x
  · have HNUM : Hid (∀ x ∈ Sh.texts r, Sh.Num x.data.toList) := (Sh.num_texts r).2 hall
    match r, hr, hall, HSZ, HNUM, hw with
    | [], _, hall, HSZ, HNUM, hw =>
      have hp : Sc.play s (wd :: []) = Sc.alone s wd := by
        unfold Sc.play
        rw [if_pos (show ∀ x ∈ (wd :: []).tail, Sh.Num x from hall)]
        rfl
      rw [hw, hp]
      clear hp hall
      have HA2 : Hid (∀ u, Below w.heap.size w u → Calls _ _ _ u _) := fun u hu => palone (HH.out.1.keep hu) HH.out.2 ⟨wd.toArray⟩
      have hk : (Sc.words d.data.toList).length = 1 := by rw [hw]; rfl
      have HS : Hid (Calls _ _ _ _ _) := ssplit d hd w HE.out 1 hk
      have HW := hid hw
      rw [hw] at HS
      clear hw hk hd
      go_enter Tryz.func31, Tryz.ntmps31
      go_wp2_with fail
      refine HS.out.mono ?_
      rintro e u1 ⟨hb1, a1, c1, rfl, hr1⟩
      obtain ⟨D, C, hD, hrD⟩ := words_tail hr1
      have hrD2 := Shape.any hrD
      rw [show (Sh.texts (wd :: [])).tail = Sh.texts ([]) from rfl] at hrD2
      have hsz : ∀ t ∈ Sh.texts ([]), t.size ≤ 1000000 := HSZ.out
      have HB1 := hid hb1
      have HR1 := hid (Shape.any hr1)
      clear hb1 hr1 hrD HS
      have HN : Hid (Calls _ _ _ _ _) := pnumbers_yes D 0 C (Sh.texts ([])) u1 hrD2 (by omega) hsz HNUM.out
      clear hrD2 hsz
      go_wp2_with fail
      refine HN.out.mono ?_
      rintro e u2 ⟨hb2, na, nc, rfl, hn2⟩
      have HB2 := hid (bel_then HB1.out hb2)
      have HR2 := hid (Shape.below HR1.out hb2)
      obtain ⟨bw, ow, rfl, hbw, hcw0⟩ := (Texts.of_rep HR2.out).at (j := 0) (by omega)
      have hcw : u2.cell? ⟨bw, ow, none⟩ = some (.string ⟨wd.toArray⟩) := hcw0
      clear hb2 HN hcw0
      go_wp2_with fail
      refine (HA2.out u2 HB2.out).mono ?_
      rintro e u3 ⟨a, n, c, rfl, hr3, hm3⟩
      go_wp2
      go_ret2
      exact ⟨a, n, c, rfl, hr3, Moved.ahead HB2.out hm3⟩
    | [x], _, hall, HSZ, HNUM, hw =>
      have hp : Sc.play s (wd :: [x]) = ((Sc.ofFrame s wd (Sh.val x)).1, [], (Sc.ofFrame s wd (Sh.val x)).2) := by
        unfold Sc.play
        rw [if_pos (show ∀ t ∈ (wd :: [x]).tail, Sh.Num t from hall)]
        rfl
      rw [hw, hp]
      clear hp hall
      have HA2 : Hid (∀ u, Below w.heap.size w u → Calls _ _ _ u _) := fun u hu => pframe (HH.out.1.keep hu) HH.out.2 ⟨wd.toArray⟩ (Sh.val x)
      have hk : (Sc.words d.data.toList).length = 2 := by rw [hw]; rfl
      have HS : Hid (Calls _ _ _ _ _) := ssplit d hd w HE.out 2 hk
      have HW := hid hw
      rw [hw] at HS
      clear hw hk hd
      go_enter Tryz.func31, Tryz.ntmps31
      go_wp2_with fail
      refine HS.out.mono ?_
      rintro e u1 ⟨hb1, a1, c1, rfl, hr1⟩
      obtain ⟨D, C, hD, hrD⟩ := words_tail hr1
      have hrD2 := Shape.any hrD
      rw [show (Sh.texts (wd :: [x])).tail = Sh.texts ([x]) from rfl] at hrD2
      have hsz : ∀ t ∈ Sh.texts ([x]), t.size ≤ 1000000 := HSZ.out
      have HB1 := hid hb1
      have HR1 := hid (Shape.any hr1)
      clear hb1 hr1 hrD HS
      have HN : Hid (Calls _ _ _ _ _) := pnumbers_yes D 1 C (Sh.texts ([x])) u1 hrD2 (by omega) hsz HNUM.out
      clear hrD2 hsz
      go_wp2_with fail
      refine HN.out.mono ?_
      rintro e u2 ⟨hb2, na, nc, rfl, hn2⟩
      have HB2 := hid (bel_then HB1.out hb2)
      have HR2 := hid (Shape.below HR1.out hb2)
      obtain ⟨bw, ow, rfl, hbw, hcw0⟩ := (Texts.of_rep HR2.out).at (j := 0) (by omega)
      have hcw : u2.cell? ⟨bw, ow, none⟩ = some (.string ⟨wd.toArray⟩) := hcw0
      clear hb2 HN hcw0
      have hn3 : rowS.rep u2 everywhere [.slice na 1 nc] [((Sh.val x : Nat) : Int)] := Shape.any hn2.high
      obtain ⟨bn, on, rfl, hbn, hcn0⟩ := (Row.of_rep hn3).at (j := 0) (by omega)
      have hcn : u2.cell? ⟨bn, on, none⟩ = some (.int .i64 (Sh.val x : Nat)) := hcn0
      clear hn2 hn3 hcn0
      go_wp2
      go_region_with (go_at_call 65; refine (HA2.out _ (HB2.out.trans ((Below.refl _ _).drew.mono HB2.out.size))).mono ?_; rintro e u3 ⟨rfl, hm3⟩)
      all_goals
        go_wp2
        go_ret2
        exact ⟨none, 0, 0, rfl, rep_none _ _ _, Moved.ahead (bel_then HB2.out (Below.refl _ _).drew) hm3⟩
    | [x, y], _, hall, HSZ, HNUM, hw =>
      have hp : Sc.play s (wd :: [x, y]) = ((Sc.ofHolder s wd (Sh.val x) (Sh.val y)).1, [], (Sc.ofHolder s wd (Sh.val x) (Sh.val y)).2) := by
        unfold Sc.play
        rw [if_pos (show ∀ t ∈ (wd :: [x, y]).tail, Sh.Num t from hall)]
        rfl
      rw [hw, hp]
      clear hp hall
      have HA2 : Hid (∀ u, Below w.heap.size w u → Calls _ _ _ u _) := fun u hu => pholder (HH.out.1.keep hu) HH.out.2 ⟨wd.toArray⟩ (Sh.val x) (Sh.val y)
      have hk : (Sc.words d.data.toList).length = 3 := by rw [hw]; rfl
      have HS : Hid (Calls _ _ _ _ _) := ssplit d hd w HE.out 3 hk
      have HW := hid hw
      rw [hw] at HS
      clear hw hk hd
      go_enter Tryz.func31, Tryz.ntmps31
      go_wp2_with fail
      refine HS.out.mono ?_
      rintro e u1 ⟨hb1, a1, c1, rfl, hr1⟩
      obtain ⟨D, C, hD, hrD⟩ := words_tail hr1
      have hrD2 := Shape.any hrD
      rw [show (Sh.texts (wd :: [x, y])).tail = Sh.texts ([x, y]) from rfl] at hrD2
      have hsz : ∀ t ∈ Sh.texts ([x, y]), t.size ≤ 1000000 := HSZ.out
      have HB1 := hid hb1
      have HR1 := hid (Shape.any hr1)
      clear hb1 hr1 hrD HS
      have HN : Hid (Calls _ _ _ _ _) := pnumbers_yes D 2 C (Sh.texts ([x, y])) u1 hrD2 (by omega) hsz HNUM.out
      clear hrD2 hsz
      go_wp2_with fail
      refine HN.out.mono ?_
      rintro e u2 ⟨hb2, na, nc, rfl, hn2⟩
      have HB2 := hid (bel_then HB1.out hb2)
      have HR2 := hid (Shape.below HR1.out hb2)
      obtain ⟨bw, ow, rfl, hbw, hcw0⟩ := (Texts.of_rep HR2.out).at (j := 0) (by omega)
      have hcw : u2.cell? ⟨bw, ow, none⟩ = some (.string ⟨wd.toArray⟩) := hcw0
      clear hb2 HN hcw0
      have hn3 : rowS.rep u2 everywhere [.slice na 2 nc] [((Sh.val x : Nat) : Int), ((Sh.val y : Nat) : Int)] := Shape.any hn2.high
      obtain ⟨bn, on, rfl, hbn, hcn0⟩ := (Row.of_rep hn3).at (j := 0) (by omega)
      have hcn : u2.cell? ⟨bn, on, none⟩ = some (.int .i64 (Sh.val x : Nat)) := hcn0
      obtain ⟨bn2, on2, hbe, hbn2, hcn20⟩ := (Row.of_rep hn3).at (j := 1) (by omega)
      simp only [Option.some.injEq, Addr.mk.injEq] at hbe
      obtain ⟨rfl, rfl, _⟩ := hbe
      have hcn2 : u2.cell? ⟨bn, on + 1, none⟩ = some (.int .i64 (Sh.val y : Nat)) := hcn20
      clear hn2 hn3 hcn0 hcn20
      go_wp2
      go_region_with (go_at_call 66; refine (HA2.out _ (HB2.out.trans ((Below.refl _ _).drew.mono HB2.out.size))).mono ?_; rintro e u3 ⟨rfl, hm3⟩)
      all_goals
        go_wp2
        go_ret2
        exact ⟨none, 0, 0, rfl, rep_none _ _ _, Moved.ahead (bel_then HB2.out (Below.refl _ _).drew) hm3⟩
  · have hp : Sc.play s (Sc.words d.data.toList) = (s, [], 2) := by
      rw [hw]
      unfold Sc.play
      rw [if_neg (show ¬ ∀ x ∈ (wd :: r).tail, Sh.Num x from hall)]
    rw [hp]
    rcases Sh.first_bad (Sh.texts r) with h9 | ⟨m, hm1, hm2, hm3⟩
    · exact absurd ((Sh.num_texts r).1 h9) hall
    · clear hp hall
      rw [Sh.texts_len] at hm1
      have HM := hid (And.intro hm2 hm3)
      clear hm2 hm3
      obtain ⟨k, hk0⟩ : ∃ k, r.length = k := ⟨_, rfl⟩
      have hk : (Sc.words d.data.toList).length = k + 1 := by rw [hw, List.length_cons, hk0]
      have HS : Hid (Calls _ _ _ _ _) := ssplit d hd w HE.out (k + 1) hk
      rw [hw] at HS
      rw [hk0] at hm1 hr
      clear hw hk hd hk0
      go_enter Tryz.func31, Tryz.ntmps31
      go_wp2_with fail
      refine HS.out.mono ?_
      rintro e u1 ⟨hb1, a1, c1, rfl, hr1⟩
      obtain ⟨D, C, hD, hrD⟩ := words_tail hr1
      have hrD2 := Shape.any hrD
      rw [show (Sh.texts (wd :: r)).tail = Sh.texts r from rfl] at hrD2
      have HB1 := hid hb1
      have HN : Hid (Calls _ _ _ _ _) := pnumbers_no D k C (Sh.texts r) u1 hrD2 (by omega) HSZ.out m hm1 HM.out.1 HM.out.2
      clear hb1 hr1 hrD hrD2 HS hm1
      go_wp2_with fail
      refine HN.out.mono ?_
      rintro e u2 ⟨hb2, rfl⟩
      go_wp2
      go_ret2
      exact ⟨none, 0, 0, rfl, rep_none _ _ _, Moved.same HH.out.1 (bel_then HB1.out hb2)⟩
end

end Go.Proofs.YtokfcjgfpchffaaGreatDoor
