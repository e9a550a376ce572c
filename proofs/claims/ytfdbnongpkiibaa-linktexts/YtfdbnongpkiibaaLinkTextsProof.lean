/- For all texts and every byte switchboardlaw10.LinkTexts returns true: what is pushed stands in the Queue with its text, in the order of the numbers, until it is told of. -/
import Derived.Test.YtfdbnongpkiibaaRows
import Derived.Test.YtfdbnongpkiibaaLinkH
import Derived.WalkKit
import Derived.ProofKit
import Derived.OpenShut
import Derived.ShutString
import Derived.ChangeOld
import Derived.Below
namespace Go.Proofs.Ytfdbnongpkiibaa.linkTexts
open Go.ChangeShapes Go.WideShapes Go.ChangeAt Go.RowKit
open Go.ChangeMaps (open_string shut_string)
set_option linter.unusedVariables false

theorem own : ownKnob Try.prog.godebug = none := by kernel_rfl
theorem laidOut : laidOutB Try.prog = true := by kernel_rfl

/- The walk: the call returns true, and nothing that was there is written. -/
set_option maxHeartbeats 4000000 in
set_option maxRecDepth 100000 in
theorem walk (a0 : Option Addr) (len0 cap0 : Nat) (m0 : List ByteArray) (a1 : Int) (w : World) (w0 : (sliceS strS).rep w everywhere [.slice a0 len0 cap0] m0) (f0 : (∀ x0 ∈ m0, ByteArray.size x0 ≤ maxLen)) (w1 : (Lit.int .u8 a1).wf = true) :
    Calls Try.prog 7 #[.slice a0 len0 cap0, .int .u8 a1] w fun e w' => e = .returned (.bool true) ∧ Below w.heap.size w w' := by
  have hA := Shape.low w0
  have h255 := bounds_u8 w1
  clear w0 f0 w1
  obtain ⟨M, hM, hM60, hMl⟩ : ∃ M : Nat, (M = len0 ∨ M = 60) ∧ M ≤ 60 ∧ M ≤ len0 := by
    by_cases h : len0 ≤ 60
    · exact ⟨len0, .inl rfl, h, Nat.le_refl _⟩
    · exact ⟨60, .inr rfl, Nat.le_refl _, by omega⟩
  go_enter Try.func7, Try.ntmps7
  go_upto_region 2 with fail
  go_cut [6] from 15 (fun v6 wx => v6 = .int .i64 M ∧ Box wx w.heap.size 24 #[.int .i64 0, .slice none 0 0] ∧ Below w.heap.size w wx)
  case first =>
    rcases Nat.lt_trichotomy len0 60 with h | h | h
    · have h1 : (len0 : Int) < 60 := by omega
      have h2 : ¬ (60 : Int) < (len0 : Int) := by omega
      have e : M = len0 := by omega
      go_wp2
      go_meet
      exact ⟨by rw [e], Box.new _ _ _, new_bel _ _⟩
    · have h1 : ¬ (len0 : Int) < 60 := by omega
      have h2 : ¬ (60 : Int) < (len0 : Int) := by omega
      have e : M = 60 := by omega
      have HE : Hid (len0 = 60) := h
      clear h hM hMl
      go_wp2
      go_meet
      exact ⟨by first | (rw [e]; rfl) | (rw [e, HE.out]; rfl) | (rw [e, HE.out]), Box.new _ _ _, new_bel _ _⟩
    · have h1 : ¬ (len0 : Int) < 60 := by omega
      have h2 : (60 : Int) < (len0 : Int) := by omega
      have e : M = 60 := by omega
      go_wp2
      go_meet
      exact ⟨by rw [e]; rfl, Box.new _ _ _, new_bel _ _⟩
  case rest =>
    obtain ⟨rfl, hb0, hbel0⟩ := hcut
    have HO0 : Hid (Lx.InOrder m0 0 []) := Lx.order_nil m0
    go_wp2
    go_loopw [19] (fun v19 wr => ∃ (k : Nat) (l : List Fr) (a2 : Option Addr) (c2 : Nat), k ≤ M ∧ v19 = .int .i64 k ∧ Lx.InOrder m0 k l ∧ frsS.rep wr (· ≠ w.heap.size) [.slice a2 k c2] l ∧ Box wr w.heap.size 24 #[.int .i64 k, .slice a2 k c2] ∧ Below w.heap.size w wr) (fun i _ => 60 - (intOf i).toNat)
    case atStart => exact ⟨0, [], none, 0, Nat.zero_le _, rfl, HO0.out, rep_none _ _ _, hb0, hbel0⟩
    case round =>
      clear hb0 hbel0 HO0
      obtain ⟨k, l, a2, c2, hk, rfl, hord, hrep, hbox, hbel⟩ := hrel
      have p0 := hbox.cell 0 rfl
      have p1 := hbox.cell 1 rfl
      by_cases hlt : k < M
      · have hli : (k : Int) < (M : Int) := by omega
        have hli1 : (k : Int) < (len0 : Int) := by omega
        have hk0 : (0 : Int) ≤ (k : Int) := by omega
        obtain ⟨b1, o1, rfl, hbF, hbw, hcell⟩ := text_at (Shape.now hA hbel) (show k < len0 by omega)
        have hR := Lx.order_right hord (by omega)
        have hlen := hord.1
        have HP0 : Hid (Lx.Push (k : Int) l (m0.getD k ByteArray.empty) 0 ((k : Int) + 1) (l ++ [fr k (m0.getD k ByteArray.empty)]) k) := Lx.push_ok hR (by omega) (by omega)
        have HO : Hid (Lx.InOrder m0 (k + 1) (l ++ [fr k (m0.getD k ByteArray.empty)])) := Lx.order_push hord
        have HQ : Hid ((l ++ [fr k (m0.getD k ByteArray.empty)]).length = k + 1) := (Lx.order_push hord).1
        clear hord hR hlen
        generalize m0.getD k ByteArray.empty = y at *
        by_cases hy : 20 < y.size
        · have hyi : (20 : Int) < (y.size : Int) := by omega
          go_wp2_with (go_at_call 9; refine (lawake _).mono ?_; rintro e u6 ⟨rfl, hb6⟩)
          go_ret
          exact ⟨rfl, bel_then hbel hb6⟩
        have hyi : ¬ (20 : Int) < (y.size : Int) := by omega
        have hltN := hbox.lt
        go_upto_region 8 with fail
        generalize l ++ [fr (k : Int) y] = Q at *
        go_cut [8, 9, 10] from 20 to 47 (fun v8 v9 v10 wx => ∃ (g : Nat) (a3 : Option Addr) (c3 : Nat), v8 = .pointer (some ⟨g, 0, none⟩) ∧ v9 = .int .i64 k ∧ v10 = .int .i64 0 ∧ w.heap.size < g ∧ frsS.rep wx (· ≠ w.heap.size) [.slice a3 (k + 1) c3] Q ∧ Box wx w.heap.size 24 #[.int .i64 k, .slice a2 k c2] ∧ Box wx g 24 #[.int .i64 ((k : Int) + 1), .slice a3 (k + 1) c3] ∧ Below w.heap.size w wx)
        case first =>
          rename_i Jx Kx hRJ hMK
          have hD : Below wr.heap.size wr wr.drew := (Below.refl _ wr).drew
          have hD2 : Below wr.heap.size wr (wr.alloc (.cells #[.int .i64 0, .slice none 0 0] 24)).drew := (new_bel wr _).drew
          have kZ : Box (wr.alloc (.cells #[.int .i64 0, .slice none 0 0] 24)).drew wr.heap.size 24 #[.int .i64 0, .slice none 0 0] := Box.new wr _ _
          have HW : Hid (wr.drew.heap.size = wr.heap.size ∧ (wr.alloc (.cells #[.int .i64 0, .slice none 0 0] 24)).drew.heap.size = wr.heap.size + 1) := ⟨rfl, by simp⟩
          have C1 : Hid (Calls _ _ _ _ _) := lpush k a2 k c2 l y wr.drew (Shape.any (Shape.below hrep hD)) (by omega) 0 _ _ _ HP0.out (k + 1) HQ.out
          have C2 : Hid (Calls _ _ _ _ _) := lpush k a2 k c2 l y (wr.alloc (.cells #[.int .i64 0, .slice none 0 0] 24)).drew (Shape.any (Shape.below hrep hD2)) (by omega) 0 _ _ _ HP0.out (k + 1) HQ.out
          set_option maxRecDepth 100000 in
          go_region_with
            (first
              | (go_at_call 10; refine C1.out.mono ?_; rintro e u4 ⟨hb4, a3, c3, rfl, hr4⟩)
              | (go_at_call 10; refine C2.out.mono ?_; rintro e u5 ⟨hb5, a3, c3, rfl, hr5⟩; have kY := kZ.keep hb5; have y0 := kY.cell 0 rfl; have y1 := kY.cell 1 rfl; have g0 := kY.free 0; have g1 := kY.free 1))
          all_goals
            refine hMK _ _ (Met.intro (hRJ _ _ ?_))
            (repeat apply Exists.intro)
            refine ⟨?_, rfl⟩
            first
              | (have hb6 := bel_then (bel_then hD hb4) (new_bel u4 (.cells #[.int .i64 ((k : Int) + 1), .slice a3 (k + 1) c3] 24))
                 have hsz := hb4.size
                 have hq := HW.out
                 exact ⟨u4.heap.size, a3, c3, rfl, rfl, rfl, by omega, frsS.mono (Shape.below hr4 (new_bel u4 _)) (fun b hb _ => by have h7 : wr.drew.heap.size ≤ b := hb; omega), hbox.keep hb6, Box.new u4 _ _, bel_then hbel hb6⟩)
              | (have hb6 := bel_all2 (bel_then hD2 hb5) (b := wr.heap.size) (Nat.le_refl _) (.int .i64 ((k : Int) + 1)) (.slice a3 (k + 1) c3)
                 have hsz := hb5.size
                 have hq := HW.out
                 exact ⟨wr.heap.size, a3, c3, rfl, rfl, rfl, by omega, frsS.mono (Shape.all2 hr5 (fun j hj _ => by have h7 : (wr.alloc (.cells #[.int .i64 0, .slice none 0 0] 24)).drew.heap.size ≤ j := hj; omega) _ _) (fun b hb _ => by have h7 : (wr.alloc (.cells #[.int .i64 0, .slice none 0 0] 24)).drew.heap.size ≤ b := hb; omega), hbox.keep hb6, kY.all2 _ _, bel_then hbel hb6⟩)
        case rest =>
          clear hrep hbox hbel p0 p1 hcell
          obtain ⟨g, a3, c3, rfl, rfl, rfl, hg, hr, kl, km, hB⟩ := hcut
          have p0 := kl.cell 0 rfl
          have p1 := kl.cell 1 rfl
          have f0 := kl.free 0
          have f1 := kl.free 1
          have m0' := km.cell 0 rfl
          have m1' := km.cell 1 rfl
          have en : ((k : Int) != (k : Int)) = false := by simp
          have HRel : Hid (frsS.rep ((wc.setCell ⟨w.heap.size, 0, none⟩ (.int .i64 ((k : Int) + 1))).setCell ⟨w.heap.size, 1, none⟩ (.slice a3 (k + 1) c3)) (· ≠ w.heap.size) [.slice a3 (k + 1) c3] Q ∧ Box ((wc.setCell ⟨w.heap.size, 0, none⟩ (.int .i64 ((k : Int) + 1))).setCell ⟨w.heap.size, 1, none⟩ (.slice a3 (k + 1) c3)) w.heap.size 24 #[.int .i64 ((k : Int) + 1), .slice a3 (k + 1) c3] ∧ Below w.heap.size w ((wc.setCell ⟨w.heap.size, 0, none⟩ (.int .i64 ((k : Int) + 1))).setCell ⟨w.heap.size, 1, none⟩ (.slice a3 (k + 1) c3))) :=
            ⟨Shape.all2 hr (fun j hj _ => hj) _ _, kl.all2 _ _, bel_all2 hB (Nat.le_refl _) _ _⟩
          clear hr kl km hB
          go_wp2
          go_roundw
          case rel => exact ⟨k + 1, Q, a3, c3, by omega, by go_num, HO.out, HRel.out.1, by simpa using HRel.out.2.1, HRel.out.2.2⟩
          case measure => simp [intOf]; omega
      · have hkM : k = M := by omega
        subst hkM
        have hli : ¬ (k : Int) < (k : Int) := by omega
        by_cases hz : k = 0
        · have hl0 : l = [] := List.eq_nil_of_length_eq_zero (by have := hord.1; omega)
          have HT : Hid (Lx.told l 0 = []) := by show _ = _; rw [hl0]; rfl
          have ez : ((k : Int) == 0) = true := by rw [hz]; rfl
          have hk9 : k ≤ 1000 := by omega
          have hr9 := Shape.any hrep
          clear hrep hord hl0 hz hM
          go_wp2_with fail
          refine (ltold_len k a2 k c2 l 0 wr hr9 hk9 [] HT.out 0 rfl).mono ?_
          rintro e u1 ⟨hb1, a5, c5, rfl, hr5⟩
          have hfd := queue_of k a5 0 c5
          go_wp2_with (go_at_call 9; refine (lawake _).mono ?_; rintro e u6 ⟨rfl, hb6⟩)
          go_ret
          exact ⟨rfl, bel_then (bel_then hbel hb1) hb6⟩
        · have ez : ((k : Int) == 0) = false := by rw [beq_eq_false_iff_ne]; omega
          obtain ⟨q, hq, eq⟩ : ∃ q : Nat, q < k ∧ a1.tmod (k : Int) = (q : Int) := by
            refine ⟨(a1.tmod (k : Int)).toNat, ?_, ?_⟩
            · have := Int.tmod_lt_of_pos a1 (b := (k : Int)) (by omega)
              omega
            · have := Int.tmod_nonneg (a := a1) (k : Int) (by omega)
              omega
          obtain ⟨m, hm⟩ : ∃ m : Nat, k - 1 = m := ⟨_, rfl⟩
          obtain ⟨T, hT⟩ : ∃ T, Lx.told l q = T := ⟨_, rfl⟩
          obtain ⟨t1, t2⟩ := Lx.order_told hord hq
          rw [hT, hm] at t1
          rw [hT, hm] at t2
          have HT : Hid (Lx.told l q = T) := hT
          have HT1 : Hid (T.length = m) := t1
          have HT2 : Hid (∀ j n, j < m → n = (if q ≤ j then j + 1 else j) → T.getD j fr0 = fr n (m0.getD n ByteArray.empty)) := t2
          have em : ((m : Int) != (k : Int) - 1) = false := by rw [bne_eq_false_iff_eq]; omega
          have ew : IntKind.i64.wrap a1 = a1 := by rw [IntKind.wrap_i64]; omega
          clear hT t1 t2 hord
          have hltN := hbox.lt
          go_wp2_with fail
          refine (ltold_len k a2 k c2 l q wr (Shape.any hrep) (by omega) T HT.out m HT1.out).mono ?_
          rintro e u1 ⟨hb1, a5, c5, rfl, hr5⟩
          have k1 := hbox.keep hb1
          have k2 := k1.all2 (.int .i64 k) (.slice a5 m c5)
          have hr6 := Shape.all2 (b := w.heap.size) hr5 (fun j hj _ => by have h7 : wr.heap.size ≤ j := hj; omega) (.int .i64 k) (.slice a5 m c5)
          have hB6 := bel_all2 (bel_then hbel hb1) (b := w.heap.size) (Nat.le_refl _) (.int .i64 k) (.slice a5 m c5)
          clear p0 p1
          have p0 := k1.cell 0 rfl
          have p1 := k1.cell 1 rfl
          have f0 := k1.free 0
          have f1 := k1.free 1
          go_upto_region 17 with fail
          clear p0 p1 f0 f1 hbox hrep hbel hb1 hr5 k1 eq
          generalize (u1.setCell ⟨w.heap.size, 0, none⟩ (.int .i64 k)).setCell ⟨w.heap.size, 1, none⟩ (.slice a5 m c5) = W at *
          have p1 := k2.cell 1 rfl
          go_wp2
          go_loopw [74] (fun v74 wx => ∃ j : Nat, j ≤ m ∧ v74 = .int .i64 j ∧ Below W.heap.size W wx) (fun i _ => m - (intOf i).toNat)
          case atStart => exact ⟨0, Nat.zero_le _, rfl, Below.refl _ _⟩
          case round =>
            obtain ⟨j, hj, rfl, hbj⟩ := hrel
            by_cases hjm : j < m
            · have hji : (j : Int) < (m : Int) := by omega
              obtain ⟨p, hp⟩ : ∃ p : Nat, p = (if q ≤ j then j + 1 else j) := ⟨_, rfl⟩
              have hpl : p < len0 := by rw [hp]; split <;> omega
              obtain ⟨g1, o1, rfl, _, _, c1, c2⟩ := fr_at (Shape.below hr6 hbj) hjm
              rw [HT2.out j p hjm hp] at c1 c2
              have HPd : Hid (p = (if q ≤ j then j + 1 else j)) := hp
              clear hp
              replace c1 : _ = some (Value.int .i64 (p : Int)) := c1
              replace c2 : _ = some (Value.string (m0.getD p ByteArray.empty)) := c2
              obtain ⟨b2, o2, rfl, _, hb2w, ht⟩ := text_at (Shape.now hA (bel_then hB6 hbj)) hpl
              generalize m0.getD p ByteArray.empty = y at *
              have hbn := new_bel wr (.cells #[.int .i64 (p : Int), .string y] 45)
              have kf := Box.new wr 45 #[.int .i64 (p : Int), .string y]
              have hb9 := bel_then hbj hbn
              have ht2 := (hbn.cell (p := ⟨b2, o2 + p, none⟩) hb2w).trans ht
              clear ht hbn hbj p1
              go_upto_if 82 with fail
              clear c1 c2
              generalize wr.alloc (.cells #[.int .i64 (p : Int), .string y] 45) = W2 at *
              generalize wr.heap.size = g at *
              go_cut [14] from 75 to 98 (fun v14 wx => v14 = .int .i64 (p : Int) ∧ wx = W2)
              case first =>
                by_cases hqj : q ≤ j
                · have hqi : (q : Int) ≤ (j : Int) := by omega
                  have e : p = j + 1 := by rw [HPd.out, if_pos hqj]
                  go_wp2
                  go_meet
                  exact ⟨by rw [e]; rfl, rfl⟩
                · have hqi : ¬ (q : Int) ≤ (j : Int) := by omega
                  have e : p = j := by rw [HPd.out, if_neg hqj]
                  go_wp2
                  go_meet
                  exact ⟨by rw [e], rfl⟩
              case rest =>
                obtain ⟨rfl, rfl⟩ := hcut
                have d0 := kf.cell 0 rfl
                have d1 := kf.cell 1 rfl
                have ep : ((p : Int) != (p : Int)) = false := by simp
                have ey : (y.toList != y.toList) = false := by simp
                have hp0 : (0 : Int) ≤ (p : Int) := by omega
                have hp1 : (p : Int) < (len0 : Int) := by omega
                go_wp2
                go_quiet (fail)
                go_wp2
                go_roundw
                case rel => exact ⟨j + 1, by omega, by go_num, bel_drewN hb9 _⟩
                case measure => simp [intOf]; omega
            · have hjm' : j = m := by omega
              subst hjm'
              have hji : ¬ (j : Int) < (j : Int) := by omega
              go_wp2_with (go_at_call 9; refine (lawake _).mono ?_; rintro e u6 ⟨rfl, hb6⟩)
              go_ret
              exact ⟨rfl, bel_then (bel_then hB6 hbj) hb6⟩

/- From the walk to the row. -/
set_option maxRecDepth 100000 in
theorem lifted (os : Os) (started : os.Started) (H : Type) (enc : TypeId × Value → H) :
    ReturnsInHanded {} Try.checked os 7 .any (Rows.linkTextsSpec.pre6 enc Try.prog Try.f7 Rows.linkTextsRow.domain false) (Rows.linkTextsSpec.post enc Try.prog Try.f7 false true false false) := by
  refine returnsInHanded_of_change (C := Try.checked) own started (by kernel_rfl) Try.func7
    (ChangeSpec.witness6 (enc := enc) (C := Try.checked) false ⟨#[], #[.slice none 0 0, .int .u8 0], []⟩ 8 (by kernel_rfl) (by kernel_rfl) (by kernel_rfl) (by kernel_rfl)) ?_
  intro W base args ds gs before hval0 hW hcnd _
  have hval : ∀ (j : Nat) t v, Try.f7.params[j]? = some t → args[j]? = some v → Value.okWide Try.prog W .any base t v := hval0
  have hW' := hW
  obtain ⟨p, q, hA0, hV, rfl, hfz, hnd⟩ := hW
  have hA : DataW.TrodAll enc Try.prog W 0 (fun _ => true) true Try.f7.params.toList args.toList ds p := hA0
  rw [Try.params7] at hA hval
  obtain ⟨v0, vs0, d0, ds0, p0, q0, hargs, rfl, rfl, h0, r0⟩ := trodAll_cons hA
  obtain ⟨v1, vs1, d1, ds1, p1, q1, rfl, rfl, rfl, h1, r1⟩ := trodAll_cons r0
  obtain ⟨rfl, rfl, rfl⟩ := trodAll_nil r1
  obtain rfl : args = #[v0, v1] := by cases args; simp_all
  obtain ⟨rfl, rfl⟩ := trodVars_none hV
  obtain ⟨a0, len0, cap0, rfl⟩ := okWide_slice Try.underlying50 (hval 0 50 v0 rfl rfl)
  have k0 := h0
  have lt0 : ∀ x ∈ p0, x.block < W.heap.size := by obtain ⟨m, hm⟩ := k0; exact DataW.trod_lt m _ _ _ hm
  obtain ⟨m0, w0, f0⟩ : ∃ y, (sliceS strS).rep W everywhere [.slice a0 len0 cap0] y ∧ (∀ x0 ∈ y, ByteArray.size x0 ≤ maxLen) := by
    obtain ⟨fuel, hf⟩ := h0
    exact (opens_slice (A := strS) Try.underlying50 (show Try.prog.cellsOf 9 = 1 by kernel_rfl) (by exact Nat.succ_pos _) (opens_string Try.underlying9)) H enc W _ _ _ fuel _ _ hf
  obtain ⟨a1, rfl, rfl, rfl, w1⟩ := open_int Try.underlying5 (hval 1 5 v1 rfl rfl) h1
  clear hA0 hval0
  refine (walk a0 len0 cap0 m0 a1 W w0 f0 w1).mono fun e W' ⟨he, bel⟩ => ?_
  subst he
  exact ⟨_, rfl, _, _, _, [], _, [], hW', trodAll_mk1 (shut_bool Try.underlying4 _), (trodAll_cons_mk (Below.trod laidOut (by kernel_rfl) (of_decide_eq_true (by kernel_rfl)) k0 bel lt0) (trodAll_cons_mk (shut_int Try.underlying5 w1) trodAll_mk0)), rfl, bel.frame _, fun h => by cases h⟩

theorem over : Rows.linkTextsRow.holds Try.pinned (OpenSpec.ofChange Rows.linkTextsSpec) :=
  OpenClaim.holds_of_wide 7 Try.f7 rfl rfl rfl rfl rfl rfl rfl ⟨rfl, rfl, rfl, rfl, rfl⟩ rfl rfl rfl rfl rfl (by kernel_rfl) Try.func7 (by kernel_rfl)
    (of_decide_eq_true (by kernel_rfl)) (by unfold Func.isWrapper; first | (rw [if_pos (by decide +kernel)]; kernel_rfl) | (rw [if_neg (by decide +kernel)]; exact ⟨rfl, rfl⟩))
    (fun os started H enc _ => lifted os started H enc)

end Go.Proofs.Ytfdbnongpkiibaa.linkTexts

namespace Go.Proofs.Ytfdbnongpkiibaa
theorem linkTexts_holds : Rows.LinkTextsSaid := linkTexts.over
end Go.Proofs.Ytfdbnongpkiibaa
