/- 3 texts as one, in their order: PlcE, MvH, MvJ. -/
import Derived.Test.YtpfhjdlmjehfnaaPlcA
import Derived.Test.YtpfhjdlmjehfnaaSm
import Derived.BigQuiet
import Derived.Test.YtpfhjdlmjehfnaaMvF
import Derived.Test.YtpfhjdlmjehfnaaMvD
import Derived.Test.YtpfhjdlmjehfnaaMvI

/- What the document's Has and Right of layer 17 do when called. -/
namespace Go.Proofs.Ytpfhjdlmjehfnaa
open Go.ChangeShapes Go.WideShapes Go.ChangeAt Go.RowKit

set_option maxRecDepth 100000 in
theorem qhas (a : Option Addr) (n c : Nat) (l : List Int) (y : Int) (w : World) (h : Row .i64 w a n l) (hn : n ≤ 100000) :
    Calls Try.prog 33 #[.slice a n c, .int .i64 y] w fun e w' => e = .returned (.bool (l.contains y)) ∧ w' = w := by
  have HL : Hid (l.length = n) := h.len
  obtain ⟨v, hv⟩ : ∃ v, l.contains y = v := ⟨_, rfl⟩
  rw [hv]
  have HV : Hid (v = true ↔ y ∈ l) := by show _ ↔ _; rw [← hv]; exact List.contains_iff_mem
  clear hv
  go_enter Try.func33, Try.ntmps33
  go_wp2
  go_loopw [5] (fun i wr => ∃ k : Nat, k ≤ n ∧ i = .int .i64 k ∧ wr = w ∧ Hid (∀ j, j < k → l.getD j 0 ≠ y)) (fun i _ => n - (intOf i).toNat)
  case atStart => exact ⟨0, Nat.zero_le _, rfl, rfl, fun j hj => absurd hj (Nat.not_lt_zero _)⟩
  case round =>
    obtain ⟨k, hk, rfl, hww, HU⟩ := hrel
    replace hww := hww.symm
    subst hww
    by_cases hlt : k < n
    · obtain ⟨b, off, rfl, hb, hc⟩ := h.at hlt
      have hli : (k : Int) < (n : Int) := by omega
      obtain ⟨z, hz⟩ : ∃ z, l.getD k 0 = z := ⟨_, rfl⟩
      have HZ : Hid (l.getD k 0 = z) := hz
      have HM : Hid (l.getD k 0 ∈ l) := Mx.num_mem l k (by have := HL.out; omega)
      rw [hz] at hc
      clear hz
      by_cases hzy : z = y
      · have e1 : (z == y) = true := by simpa using hzy
        obtain rfl : v = true := HV.out.2 (by rw [← hzy, ← HZ.out]; exact HM.out)
        clear hzy
        go_wp2
        go_ret
        exact ⟨rfl, rfl⟩
      · have e1 : (z == y) = false := by simpa using hzy
        have HN : Hid (z ≠ y) := hzy
        clear hzy
        go_wp2
        go_roundw
        case rel =>
          refine ⟨k + 1, by omega, by go_num, by trivial, fun j hj => ?_⟩
          rcases Nat.lt_succ_iff_lt_or_eq.1 hj with h5 | rfl
          · exact HU.out j h5
          · rw [HZ.out]; exact HN.out
        case measure => simp [intOf]; omega
    · have hkn : k = n := by omega
      subst hkn
      have hli : ¬ (k : Int) < (k : Int) := by omega
      obtain rfl : v = false := by
        cases v with
        | false => rfl
        | true =>
          obtain ⟨j, hj, hjy⟩ := List.mem_iff_getElem.1 (HV.out.1 rfl)
          exact absurd (by rw [List.getD_eq_getElem?_getD, List.getElem?_eq_getElem hj]; exact hjy) (HU.out j (by have := HL.out; omega))
      go_wp2
      go_ret
      exact ⟨rfl, rfl⟩

/-- A number that is as it should be behind the one ahead of it. -/
theorem Pl.upto_row {l : List Int} (h : ∀ j, j < l.length → Pl.Next l j) : Pl.Upto l l.length := by
  have : ∀ k, k ≤ l.length → Pl.Upto l k := fun k => by
    induction k with
    | zero => exact fun _ => Pl.upto_zero l
    | succ k ih => exact fun hk => (ih (by omega)).next (by omega) (h k (by omega))
  exact this _ (Nat.le_refl _)

set_option maxRecDepth 100000 in
set_option maxHeartbeats 2000000 in
theorem qright (e : Int) (a : Option Addr) (n c : Nat) (m : List (List Int)) (w : World) (h : matS.rep w everywhere [.slice a n c] m) (hz : Ex.Sized m) :
    Calls Try.prog 32 #[.agg #[.int .i64 e, .slice a n c]] w fun r w' => Says r (Pl.Right e m) ∧ Below w.heap.size w w' := by
  have hl := (sliceS_len h).1
  have HA : Hid (matS.rep w (· < w.heap.size) [.slice a n c] m) := Shape.low h
  have hB := new_bel w (.cells #[.int .i64 e, .slice a n c] 37)
  have kb := Box.new w 37 #[.int .i64 e, .slice a n c]
  have HL : Hid (m.length = n) := hl
  have HZ : Hid (Ex.Sized m) := hz
  have hn : n ≤ 100000 := by have := hz.1; omega
  have c0 := kb.cell 0 rfl
  have c1 := kb.cell 1 rfl
  clear h hz
  by_cases d1 : e < 0
  · go_enter Try.func32, Try.ntmps32
    go_wp2
    go_ret
    exact ⟨Says.no fun h => by have := h.1; omega, hB⟩
  by_cases d2 : 2147483647 < e
  · go_enter Try.func32, Try.ntmps32
    go_wp2
    go_ret
    exact ⟨Says.no fun h => by have := h.1; omega, hB⟩
  by_cases d3 : (8 : Int) < (n : Int)
  · go_enter Try.func32, Try.ntmps32
    go_wp2
    go_ret
    exact ⟨Says.no fun h => by have := h.2.1; omega, hB⟩
  clear hl
  go_enter Try.func32, Try.ntmps32
  go_wp2
  clear c0 c1
  go_loopw [3] (fun i wr => ∃ k : Nat, k ≤ n ∧ i = .int .i64 k ∧ Box wr w.heap.size 37 #[.int .i64 e, .slice a n c] ∧ Below w.heap.size w wr ∧ Hid (∀ j, j < k → Pl.RowOk (m.getD j []))) (fun i _ => n - (intOf i).toNat)
  case atStart => exact ⟨0, Nat.zero_le _, rfl, kb, hB, fun j hj => absurd hj (Nat.not_lt_zero _)⟩
  case round =>
    clear kb hB
    obtain ⟨k, hk, rfl, kb, hbel, HU⟩ := hrel
    have c0 := kb.cell 0 rfl
    have c1 := kb.cell 1 rfl
    by_cases hlt : k < n
    · obtain ⟨b, off, A, C, rfl, hb, hc, hr⟩ := mat_at (Shape.now HA.out hbel) hlt
      have hli : (k : Int) < (n : Int) := by omega
      have hR := Row.of_rep hr
      have hqz : (m.getD k []).length ≤ 100000 := HZ.out.2 _ (Mx.getD_mem m k (by have := HL.out; omega))
      have HNO : Hid (¬ Pl.RowOk (m.getD k []) → ¬ Pl.Right e m) := fun h5 h6 => h5 (h6.row (by have := HL.out; omega))
      have HYES : Hid (Pl.RowOk (m.getD k []) → ∀ j, j < k + 1 → Pl.RowOk (m.getD j [])) := fun h5 j hj => by
        rcases Nat.lt_succ_iff_lt_or_eq.1 hj with h6 | rfl
        · exact HU.out j h6
        · exact h5
      clear hr HU
      generalize m.getD k [] = l at *
      obtain ⟨q, hq⟩ : ∃ q, l.length = q := ⟨_, rfl⟩
      have HQ : Hid (l.length = q) := hq
      rw [hq] at hc hR hqz
      clear hq
      by_cases hq0 : q = 0
      · subst hq0
        have e1 : (((0 : Nat) : Int) == 0) = true := by simp
        have HN : Hid (¬ Pl.RowOk l) := fun h5 => by have := (Pl.row_len h5).1; have := HQ.out; omega
        go_wp2
        go_ret
        exact ⟨Says.no (HNO.out HN.out), hbel⟩
      have e1 : ((q : Int) == 0) = false := by simp; omega
      obtain ⟨W0, hW0⟩ : ∃ W0, W0 = wr := ⟨_, rfl⟩
      subst hW0
      go_wp2
      go_loopw [5] (fun i wr => ∃ t : Nat, t ≤ q ∧ i = .int .i64 t ∧ Below W0.heap.size W0 wr ∧ Hid (∀ j, j < t → Pl.Next l j)) (fun i _ => q - (intOf i).toNat)
      case atStart => exact ⟨0, Nat.zero_le _, rfl, Below.refl _ _, fun j hj => absurd hj (Nat.not_lt_zero _)⟩
      case round =>
        obtain ⟨t, ht, rfl, hbel2, HT⟩ := hrel
        have kb2 := kb.keep hbel2
        have hB2 := bel_then hbel hbel2
        by_cases htq : t < q
        · obtain ⟨b1, o1, rfl, hb1, hcell⟩ := (hR.keep hbel2).at htq
          have hti : (t : Int) < (q : Int) := by omega
          have ht0 : (0 : Int) ≤ (t : Int) := by omega
          have HG : Hid (Pl.Next l t ↔ (1 ≤ l.getD t 0 ∧ l.getD t 0 ≤ 4) ∧ (0 < t → l.getD (t - 1) 0 < l.getD t 0)) := Iff.rfl
          have HX : Hid (Pl.Next l t → ∀ j, j < t + 1 → Pl.Next l j) := fun hf j hj => by
            rcases Nat.lt_succ_iff_lt_or_eq.1 hj with h6 | rfl
            · exact HT.out j h6
            · exact hf
          have HN : Hid (¬ Pl.Next l t → ¬ Pl.Right e m) := fun h5 => HNO.out (Pl.not_next (by have := HQ.out; omega) h5)
          clear HT
          by_cases hp : 0 < t
          · obtain ⟨b2, o2, he, hb2, hcell2⟩ := (hR.keep hbel2).at (show t - 1 < q by omega)
            have e := Option.some.inj he
            injection e with e1 e2 e3
            subst e1; subst e2
            clear he hb2
            have hpi : (0 : Int) < (t : Int) := by omega
            have hw1 : IntKind.i64.wrap ((t : Int) - 1) = ((t - 1 : Nat) : Int) := by rw [IntKind.wrap_i64]; omega
            have hk1 : (0 : Int) ≤ ((t - 1 : Nat) : Int) := by omega
            have hk2 : ((t - 1 : Nat) : Int) < (q : Int) := by omega
            generalize l.getD (t - 1) 0 = y at *
            generalize l.getD t 0 = x at *
            generalize hs : t - 1 = s at *
            by_cases hx1 : x < 1
            · have d1 : decide (x < 1) = true := decide_eq_true hx1
              go_wp2
              go_quiet (fail)
              go_wp2
              go_ret
              exact ⟨Says.no (HN.out fun h => by have := HG.out.1 h; omega), bel_drewN hB2 _⟩
            have d1 : decide (x < 1) = false := decide_eq_false hx1
            by_cases hx2 : 4 < x
            · have d2 : decide (4 < x) = true := decide_eq_true hx2
              go_wp2
              go_quiet (fail)
              go_wp2
              go_ret
              exact ⟨Says.no (HN.out fun h => by have := HG.out.1 h; omega), bel_drewN hB2 _⟩
            have d2 : decide (4 < x) = false := decide_eq_false hx2
            have d3 : decide ((0 : Int) < (t : Int)) = true := decide_eq_true hpi
            by_cases hx3 : x ≤ y
            · have d4 : decide (x ≤ y) = true := decide_eq_true hx3
              go_wp2
              go_quiet (fail)
              go_wp2
              go_ret
              exact ⟨Says.no (HN.out fun h => by have := (HG.out.1 h).2 hp; omega), bel_drewN hB2 _⟩
            have d4 : decide (x ≤ y) = false := decide_eq_false hx3
            go_wp2
            go_quiet (fail)
            go_wp2
            go_roundw
            case rel => exact ⟨t + 1, by omega, by go_num, bel_drewN hbel2 _, HX.out (HG.out.2 ⟨⟨by omega, by omega⟩, fun _ => by omega⟩)⟩
            case measure => simp [intOf]; omega
          · generalize l.getD (t - 1) 0 = y at *
            generalize l.getD t 0 = x at *
            by_cases hx1 : x < 1
            · have d1 : decide (x < 1) = true := decide_eq_true hx1
              go_wp2
              go_quiet (fail)
              go_wp2
              go_ret
              exact ⟨Says.no (HN.out fun h => by have := HG.out.1 h; omega), bel_drewN hB2 _⟩
            have d1 : decide (x < 1) = false := decide_eq_false hx1
            by_cases hx2 : 4 < x
            · have d2 : decide (4 < x) = true := decide_eq_true hx2
              go_wp2
              go_quiet (fail)
              go_wp2
              go_ret
              exact ⟨Says.no (HN.out fun h => by have := HG.out.1 h; omega), bel_drewN hB2 _⟩
            have d2 : decide (4 < x) = false := decide_eq_false hx2
            have d3 : decide ((0 : Int) < (t : Int)) = false := decide_eq_false (by omega)
            go_wp2
            go_quiet (fail)
            go_wp2
            go_roundw
            case rel => exact ⟨t + 1, by omega, by go_num, bel_drewN hbel2 _, HX.out (HG.out.2 ⟨⟨by omega, by omega⟩, fun h => absurd h hp⟩)⟩
            case measure => simp [intOf]; omega
        · have htq2 : t = q := by omega
          subst htq2
          have hti : ¬ (t : Int) < (t : Int) := by omega
          have HOK : Hid (Pl.RowOk l) := Pl.Upto.all (Pl.upto_row (by rw [HQ.out]; exact HT.out)) (by rw [HQ.out]; exact hq0)
          have H0 : Hid (t ≠ 0) := hq0
          clear hq0
          go_wp2
          go_roundw
          case rel => exact ⟨k + 1, by omega, by go_num, kb2, hB2, HYES.out HOK.out⟩
          case measure => simp [intOf]; omega
    · have hkn : k = n := by omega
      subst hkn
      have hli : ¬ (k : Int) < (k : Int) := by omega
      go_wp2
      go_ret
      exact ⟨Says.yes (Pl.right_all ⟨by omega, by omega⟩ (by have := HL.out; omega) (by rw [HL.out]; exact HU.out)), hbel⟩

end Go.Proofs.Ytpfhjdlmjehfnaa

/- What the document's Begin of layer 22 does when called. -/
namespace Go.Proofs.Ytpfhjdlmjehfnaa
open Go.ChangeShapes Go.WideShapes Go.ChangeAt Go.RowKit


theorem Mq.pieces_step (s : ByteArray) (z j : Nat) (hj : j < Ck.num s.size z) : (Mq.pieces (Mq.lst s) z).take (j + 1) = (Mq.pieces (Mq.lst s) z).take j ++ [⟨(Ck.piece (Mq.lst s) z j).toArray⟩] := by
  have hn : j < (Mq.pieces (Mq.lst s) z).length := by rw [pieces_len]; exact hj
  rw [List.take_succ_eq_append_getElem hn]
  congr 2
  unfold Mq.pieces Ck.cut Ck.cutTo
  simp
set_option maxRecDepth 100000 in
set_option maxHeartbeats 8000000 in
theorem rbegin (e : Int) (a : Option Addr) (n c : Nat) (m : List (List Int)) (x f t : Int) (s : ByteArray) (k : Int) (X F9 T9 P S : Int) (H : List Bool) (G L : List ByteArray) (E : Int) (w : World) (h : matS.rep w everywhere [.slice a n c] m) (hz : Ex.Sized m) (hs : s.size ≤ 1000) (hI : Mq.Begin e m x f t s k X F9 T9 P S H G L E) :
    Calls Try.prog 13 #[.agg #[.int .i64 e, .slice a n c], .int .i64 x, .int .i64 f, .int .i64 t, .string s, .int .i64 k] w fun r w' => Below w.heap.size w w' ∧ ∃ ha nh hc ga gc la lc, r = .returned (.tuple #[.agg #[.int .i64 X, .int .i64 F9, .int .i64 T9, .int .i64 P, .int .i64 S, .slice ha nh hc, .slice ga nh gc], .slice la nh lc, .int .i64 E]) ∧ bitsS.rep w' everywhere [.slice ha nh hc] H ∧ bagS.rep w' everywhere [.slice ga nh gc] G ∧ bagS.rep w' everywhere [.slice la nh lc] L := by
  have hB := bel_two w (.cells #[.int .i64 e, .slice a n c] 37) (.cells #[.int .i64 0, .int .i64 0, .int .i64 0, .int .i64 0, .int .i64 0, .slice none 0 0, .slice none 0 0] 34)
  have kp := (Box.new w 37 #[.int .i64 e, .slice a n c]).keep (new_bel _ (.cells #[.int .i64 0, .int .i64 0, .int .i64 0, .int .i64 0, .int .i64 0, .slice none 0 0, .slice none 0 0] 34))
  have kr := Box.new (w.alloc (.cells #[.int .i64 e, .slice a n c] 37)) 34 #[.int .i64 0, .int .i64 0, .int .i64 0, .int .i64 0, .int .i64 0, .slice none 0 0, .slice none 0 0]
  have eW : (w.alloc (.cells #[.int .i64 e, .slice a n c] 37)).heap.size = w.heap.size + 1 := by simp
  rw [eW] at kr
  have HLN : Hid (m.length = n) := (sliceS_len h).1
  have HMA : Hid (∀ u, Below w.heap.size w u → matS.rep u everywhere [.slice a n c] m) := fun u hu => Shape.below h hu
  have HZ := hidL hz
  have HS := hidL hs
  have HI := hidL hI
  clear h hz hI eW
  by_cases hR : Pl.Right e m
  case neg =>
    have HN : Hid (¬ Mq.Okay e m x f t s k) := fun h => hR h.1
    have HRT : Hid (∀ u, Below w.heap.size w u → Calls Try.prog 32 #[.agg #[.int .i64 e, .slice a n c]] u fun r w' => r = .returned (.bool false) ∧ Below u.heap.size u w') := fun u hu => (qright e a n c m u (HMA.out u hu) HZ.out).mono fun _ _ ⟨h1, h2⟩ => ⟨h1.not hR, h2⟩
    have hpp : 0 = X ∧ 0 = F9 ∧ 0 = T9 ∧ 0 = P ∧ 0 = S ∧ [] = H ∧ [] = G ∧ [] = L ∧ 1 = E := by
      rcases HI.out with ⟨_, h⟩ | ⟨h, _⟩ | ⟨h, _⟩
      · exact h
      · exact absurd h HN.out
      · exact absurd h HN.out
    obtain ⟨rfl, rfl, rfl, rfl, rfl, rfl, rfl, rfl, rfl⟩ := hpp
    clear HN HI
    clear hR
    go_enter Try.func13, Try.ntmps13
    go_upto_region 1 with fail
    generalize (w.alloc (.cells #[.int .i64 e, .slice a n c] 37)).alloc (.cells #[.int .i64 0, .int .i64 0, .int .i64 0, .int .i64 0, .int .i64 0, .slice none 0 0, .slice none 0 0] 34) = W at *
    have c0 := kp.cell 0 rfl; have c1 := kp.cell 1 rfl
    go_upto_region 2 with (go_at_call 32; refine (HRT.out _ hB).mono ?_; rintro r u1 ⟨rfl, hb1⟩; replace kp := kp.keep hb1; clear c0 c1; have c0 := kp.cell 0 rfl; have c1 := kp.cell 1 rfl)
    have hB1 := bel_then hB hb1
    replace kr := kr.keep hb1
    have KR := hidL (kr)
    have HBB := hidL (hB1)
    have d0 := kr.cell 0 rfl; have d1 := kr.cell 1 rfl; have d2 := kr.cell 2 rfl; have d3 := kr.cell 3 rfl; have d4 := kr.cell 4 rfl; have d5 := kr.cell 5 rfl; have d6 := kr.cell 6 rfl
    have g0 := kr.free 0; have g1 := kr.free 1; have g2 := kr.free 2; have g3 := kr.free 3; have g4 := kr.free 4; have g5 := kr.free 5; have g6 := kr.free 6
    clear hb1
    go_wp2
    refine ret_three Try.underlying34 Try.infoMoveR rfl rfl rfl rfl rfl (KR.out.all7 _ _ _ _ _ _ _) rfl ?_
    exact ⟨bel_all7 HBB.out (by omega) _ _ _ _ _ _ _, none, 0, 0, none, 0, none, 0, rfl, rep_none _ _ _, rep_none _ _ _, rep_none _ _ _⟩
  have HRT : Hid (∀ u, Below w.heap.size w u → Calls Try.prog 32 #[.agg #[.int .i64 e, .slice a n c]] u fun r w' => r = .returned (.bool true) ∧ Below u.heap.size u w') := fun u hu => (qright e a n c m u (HMA.out u hu) HZ.out).mono fun _ _ ⟨h1, h2⟩ => ⟨h1.is hR, h2⟩
  by_cases hx0 : x < 0
  case pos =>
    have HN : Hid (¬ Mq.Okay e m x f t s k) := fun h => by have := h.2.1.1; omega
    have hpp : 0 = X ∧ 0 = F9 ∧ 0 = T9 ∧ 0 = P ∧ 0 = S ∧ [] = H ∧ [] = G ∧ [] = L ∧ 1 = E := by
      rcases HI.out with ⟨_, h⟩ | ⟨h, _⟩ | ⟨h, _⟩
      · exact h
      · exact absurd h HN.out
      · exact absurd h HN.out
    obtain ⟨rfl, rfl, rfl, rfl, rfl, rfl, rfl, rfl, rfl⟩ := hpp
    clear HN HI
    clear hR
    go_enter Try.func13, Try.ntmps13
    go_upto_region 1 with fail
    generalize (w.alloc (.cells #[.int .i64 e, .slice a n c] 37)).alloc (.cells #[.int .i64 0, .int .i64 0, .int .i64 0, .int .i64 0, .int .i64 0, .slice none 0 0, .slice none 0 0] 34) = W at *
    have c0 := kp.cell 0 rfl; have c1 := kp.cell 1 rfl
    go_upto_region 2 with (go_at_call 32; refine (HRT.out _ hB).mono ?_; rintro r u1 ⟨rfl, hb1⟩; replace kp := kp.keep hb1; clear c0 c1; have c0 := kp.cell 0 rfl; have c1 := kp.cell 1 rfl)
    have hB1 := bel_then hB hb1
    replace kr := kr.keep hb1
    have KR := hidL (kr)
    have HBB := hidL (hB1)
    have d0 := kr.cell 0 rfl; have d1 := kr.cell 1 rfl; have d2 := kr.cell 2 rfl; have d3 := kr.cell 3 rfl; have d4 := kr.cell 4 rfl; have d5 := kr.cell 5 rfl; have d6 := kr.cell 6 rfl
    have g0 := kr.free 0; have g1 := kr.free 1; have g2 := kr.free 2; have g3 := kr.free 3; have g4 := kr.free 4; have g5 := kr.free 5; have g6 := kr.free 6
    clear hb1
    go_wp2
    refine ret_three Try.underlying34 Try.infoMoveR rfl rfl rfl rfl rfl (KR.out.all7 _ _ _ _ _ _ _) rfl ?_
    exact ⟨bel_all7 HBB.out (by omega) _ _ _ _ _ _ _, none, 0, 0, none, 0, none, 0, rfl, rep_none _ _ _, rep_none _ _ _, rep_none _ _ _⟩
  by_cases hx1 : (n : Int) ≤ x
  case pos =>
    have HN : Hid (¬ Mq.Okay e m x f t s k) := fun h => by have := h.2.1.1; have := HLN.out; omega
    have hpp : 0 = X ∧ 0 = F9 ∧ 0 = T9 ∧ 0 = P ∧ 0 = S ∧ [] = H ∧ [] = G ∧ [] = L ∧ 1 = E := by
      rcases HI.out with ⟨_, h⟩ | ⟨h, _⟩ | ⟨h, _⟩
      · exact h
      · exact absurd h HN.out
      · exact absurd h HN.out
    obtain ⟨rfl, rfl, rfl, rfl, rfl, rfl, rfl, rfl, rfl⟩ := hpp
    clear HN HI
    clear hR
    go_enter Try.func13, Try.ntmps13
    go_upto_region 1 with fail
    generalize (w.alloc (.cells #[.int .i64 e, .slice a n c] 37)).alloc (.cells #[.int .i64 0, .int .i64 0, .int .i64 0, .int .i64 0, .int .i64 0, .slice none 0 0, .slice none 0 0] 34) = W at *
    have c0 := kp.cell 0 rfl; have c1 := kp.cell 1 rfl
    go_upto_region 2 with (go_at_call 32; refine (HRT.out _ hB).mono ?_; rintro r u1 ⟨rfl, hb1⟩; replace kp := kp.keep hb1; clear c0 c1; have c0 := kp.cell 0 rfl; have c1 := kp.cell 1 rfl)
    have hB1 := bel_then hB hb1
    replace kr := kr.keep hb1
    have KR := hidL (kr)
    have HBB := hidL (hB1)
    have d0 := kr.cell 0 rfl; have d1 := kr.cell 1 rfl; have d2 := kr.cell 2 rfl; have d3 := kr.cell 3 rfl; have d4 := kr.cell 4 rfl; have d5 := kr.cell 5 rfl; have d6 := kr.cell 6 rfl
    have g0 := kr.free 0; have g1 := kr.free 1; have g2 := kr.free 2; have g3 := kr.free 3; have g4 := kr.free 4; have g5 := kr.free 5; have g6 := kr.free 6
    clear hb1
    go_wp2
    refine ret_three Try.underlying34 Try.infoMoveR rfl rfl rfl rfl rfl (KR.out.all7 _ _ _ _ _ _ _) rfl ?_
    exact ⟨bel_all7 HBB.out (by omega) _ _ _ _ _ _ _, none, 0, 0, none, 0, none, 0, rfl, rep_none _ _ _, rep_none _ _ _, rep_none _ _ _⟩
  obtain ⟨y, rfl⟩ : ∃ y : Nat, x = (y : Int) := ⟨x.toNat, by omega⟩
  have hy : y < n := by omega
  have hyi : (y : Int) < (n : Int) := by omega
  have hy0 : (0 : Int) ≤ (y : Int) := by omega
  obtain ⟨b9, o9, A, C, rfl, _, _, _⟩ := mat_at (HMA.out _ (Below.refl _ _)) hy
  obtain ⟨q, hq⟩ : ∃ q, (m.getD y []).length = q := ⟨_, rfl⟩
  have hrow : ∀ u, Below w.heap.size w u → ∃ A C, u.cell? ⟨b9, o9 + y, none⟩ = some (.slice A q C) ∧ Row .i64 u A q (m.getD y []) := fun u hu => by
    obtain ⟨b8, o8, A8, C8, h1, _, h3, h4⟩ := mat_at (HMA.out _ hu) hy
    cases h1
    rw [hq] at h3 h4
    exact ⟨A8, C8, h3, Row.of_rep h4⟩
  obtain ⟨A, C, hc1, _⟩ := hrow w (Below.refl _ _)
  have HCX : Hid (∀ u, Below w.heap.size w u → u.cell? ⟨b9, o9 + y, none⟩ = some (.slice A q C)) := fun u hu => (hu.cell (World.block_lt_of_cell? w _ hc1)).trans hc1
  have HRW : Hid (∀ u, Below w.heap.size w u → Row .i64 u A q (m.getD y [])) := fun u hu => by
    obtain ⟨A8, C8, h1, h2⟩ := hrow u hu
    rw [HCX.out u hu] at h1
    cases h1
    exact h2
  have hq9 : q ≤ 100000 := by rw [← hq]; exact HZ.out.2 _ (Mx.getD_mem m y (by have := HLN.out; omega))
  have HH : Hid (∀ v : Int, Pl.Holds m (y : Int) v ↔ (m.getD y []).contains v = true) := fun v => by
    rw [List.contains_iff_mem]
    exact ⟨fun h => h.2, fun h => ⟨by have := HLN.out; omega, h⟩⟩
  clear hc1 hrow hq
  by_cases hf : (m.getD y []).contains f = true
  case neg =>
    have HN : Hid (¬ Mq.Okay e m (y : Int) f t s k) := fun h => hf ((HH.out f).1 h.2.1)
    have HHF : Hid (∀ u, Below w.heap.size w u → Calls Try.prog 33 #[.slice A q C, .int .i64 f] u fun r w' => r = .returned (.bool false) ∧ w' = u) := fun u hu => (qhas A q C _ f u (HRW.out u hu) hq9).mono fun _ _ ⟨h1, h2⟩ => ⟨by rw [h1, Bool.eq_false_iff.2 hf], h2⟩
    have hpp : 0 = X ∧ 0 = F9 ∧ 0 = T9 ∧ 0 = P ∧ 0 = S ∧ [] = H ∧ [] = G ∧ [] = L ∧ 1 = E := by
      rcases HI.out with ⟨_, h⟩ | ⟨h, _⟩ | ⟨h, _⟩
      · exact h
      · exact absurd h HN.out
      · exact absurd h HN.out
    obtain ⟨rfl, rfl, rfl, rfl, rfl, rfl, rfl, rfl, rfl⟩ := hpp
    clear HN HI
    clear hR hf
    go_enter Try.func13, Try.ntmps13
    go_upto_region 1 with fail
    generalize (w.alloc (.cells #[.int .i64 e, .slice (some ⟨b9, o9, none⟩) n c] 37)).alloc (.cells #[.int .i64 0, .int .i64 0, .int .i64 0, .int .i64 0, .int .i64 0, .slice none 0 0, .slice none 0 0] 34) = W at *
    have c0 := kp.cell 0 rfl; have c1 := kp.cell 1 rfl
    go_upto_region 2 with (first
      | (go_at_call 32; refine (HRT.out _ hB).mono ?_; rintro r u1 ⟨rfl, hb1⟩; replace kp := kp.keep hb1; clear c0 c1; have c0 := kp.cell 0 rfl; have c1 := kp.cell 1 rfl; have hB1 := bel_then hB hb1; have cx := HCX.out _ hB1)
      | (go_at_call 33; refine (HHF.out _ hB1).mono ?_; rintro r u2 ⟨rfl, h9⟩; replace h9 := h9.symm; subst h9))
    replace kr := kr.keep hb1
    have KR := hidL (kr)
    have HBB := hidL (hB1)
    have d0 := kr.cell 0 rfl; have d1 := kr.cell 1 rfl; have d2 := kr.cell 2 rfl; have d3 := kr.cell 3 rfl; have d4 := kr.cell 4 rfl; have d5 := kr.cell 5 rfl; have d6 := kr.cell 6 rfl
    have g0 := kr.free 0; have g1 := kr.free 1; have g2 := kr.free 2; have g3 := kr.free 3; have g4 := kr.free 4; have g5 := kr.free 5; have g6 := kr.free 6
    clear hb1
    go_wp2
    refine ret_three Try.underlying34 Try.infoMoveR rfl rfl rfl rfl rfl (KR.out.all7 _ _ _ _ _ _ _) rfl ?_
    exact ⟨bel_all7 HBB.out (by omega) _ _ _ _ _ _ _, none, 0, 0, none, 0, none, 0, rfl, rep_none _ _ _, rep_none _ _ _, rep_none _ _ _⟩
  have HHF : Hid (∀ u, Below w.heap.size w u → Calls Try.prog 33 #[.slice A q C, .int .i64 f] u fun r w' => r = .returned (.bool true) ∧ w' = u) := fun u hu => (qhas A q C _ f u (HRW.out u hu) hq9).mono fun _ _ ⟨h1, h2⟩ => ⟨by rw [h1, hf], h2⟩
  by_cases ht1 : t < 1
  case pos =>
    have HN : Hid (¬ Mq.Okay e m (y : Int) f t s k) := fun h => by have := h.2.2.1; omega
    have hpp : 0 = X ∧ 0 = F9 ∧ 0 = T9 ∧ 0 = P ∧ 0 = S ∧ [] = H ∧ [] = G ∧ [] = L ∧ 1 = E := by
      rcases HI.out with ⟨_, h⟩ | ⟨h, _⟩ | ⟨h, _⟩
      · exact h
      · exact absurd h HN.out
      · exact absurd h HN.out
    obtain ⟨rfl, rfl, rfl, rfl, rfl, rfl, rfl, rfl, rfl⟩ := hpp
    clear HN HI
    clear hR hf
    go_enter Try.func13, Try.ntmps13
    go_upto_region 1 with fail
    generalize (w.alloc (.cells #[.int .i64 e, .slice (some ⟨b9, o9, none⟩) n c] 37)).alloc (.cells #[.int .i64 0, .int .i64 0, .int .i64 0, .int .i64 0, .int .i64 0, .slice none 0 0, .slice none 0 0] 34) = W at *
    have c0 := kp.cell 0 rfl; have c1 := kp.cell 1 rfl
    go_upto_region 2 with (first
      | (go_at_call 32; refine (HRT.out _ hB).mono ?_; rintro r u1 ⟨rfl, hb1⟩; replace kp := kp.keep hb1; clear c0 c1; have c0 := kp.cell 0 rfl; have c1 := kp.cell 1 rfl; have hB1 := bel_then hB hb1; have cx := HCX.out _ hB1)
      | (go_at_call 33; refine (HHF.out _ hB1).mono ?_; rintro r u2 ⟨rfl, h9⟩; replace h9 := h9.symm; subst h9))
    replace kr := kr.keep hb1
    have KR := hidL (kr)
    have HBB := hidL (hB1)
    have d0 := kr.cell 0 rfl; have d1 := kr.cell 1 rfl; have d2 := kr.cell 2 rfl; have d3 := kr.cell 3 rfl; have d4 := kr.cell 4 rfl; have d5 := kr.cell 5 rfl; have d6 := kr.cell 6 rfl
    have g0 := kr.free 0; have g1 := kr.free 1; have g2 := kr.free 2; have g3 := kr.free 3; have g4 := kr.free 4; have g5 := kr.free 5; have g6 := kr.free 6
    clear hb1
    go_wp2
    refine ret_three Try.underlying34 Try.infoMoveR rfl rfl rfl rfl rfl (KR.out.all7 _ _ _ _ _ _ _) rfl ?_
    exact ⟨bel_all7 HBB.out (by omega) _ _ _ _ _ _ _, none, 0, 0, none, 0, none, 0, rfl, rep_none _ _ _, rep_none _ _ _, rep_none _ _ _⟩
  by_cases ht4 : 4 < t
  case pos =>
    have HN : Hid (¬ Mq.Okay e m (y : Int) f t s k) := fun h => by have := h.2.2.1; omega
    have hpp : 0 = X ∧ 0 = F9 ∧ 0 = T9 ∧ 0 = P ∧ 0 = S ∧ [] = H ∧ [] = G ∧ [] = L ∧ 1 = E := by
      rcases HI.out with ⟨_, h⟩ | ⟨h, _⟩ | ⟨h, _⟩
      · exact h
      · exact absurd h HN.out
      · exact absurd h HN.out
    obtain ⟨rfl, rfl, rfl, rfl, rfl, rfl, rfl, rfl, rfl⟩ := hpp
    clear HN HI
    clear hR hf
    go_enter Try.func13, Try.ntmps13
    go_upto_region 1 with fail
    generalize (w.alloc (.cells #[.int .i64 e, .slice (some ⟨b9, o9, none⟩) n c] 37)).alloc (.cells #[.int .i64 0, .int .i64 0, .int .i64 0, .int .i64 0, .int .i64 0, .slice none 0 0, .slice none 0 0] 34) = W at *
    have c0 := kp.cell 0 rfl; have c1 := kp.cell 1 rfl
    go_upto_region 2 with (first
      | (go_at_call 32; refine (HRT.out _ hB).mono ?_; rintro r u1 ⟨rfl, hb1⟩; replace kp := kp.keep hb1; clear c0 c1; have c0 := kp.cell 0 rfl; have c1 := kp.cell 1 rfl; have hB1 := bel_then hB hb1; have cx := HCX.out _ hB1)
      | (go_at_call 33; refine (HHF.out _ hB1).mono ?_; rintro r u2 ⟨rfl, h9⟩; replace h9 := h9.symm; subst h9))
    replace kr := kr.keep hb1
    have KR := hidL (kr)
    have HBB := hidL (hB1)
    have d0 := kr.cell 0 rfl; have d1 := kr.cell 1 rfl; have d2 := kr.cell 2 rfl; have d3 := kr.cell 3 rfl; have d4 := kr.cell 4 rfl; have d5 := kr.cell 5 rfl; have d6 := kr.cell 6 rfl
    have g0 := kr.free 0; have g1 := kr.free 1; have g2 := kr.free 2; have g3 := kr.free 3; have g4 := kr.free 4; have g5 := kr.free 5; have g6 := kr.free 6
    clear hb1
    go_wp2
    refine ret_three Try.underlying34 Try.infoMoveR rfl rfl rfl rfl rfl (KR.out.all7 _ _ _ _ _ _ _) rfl ?_
    exact ⟨bel_all7 HBB.out (by omega) _ _ _ _ _ _ _, none, 0, 0, none, 0, none, 0, rfl, rep_none _ _ _, rep_none _ _ _, rep_none _ _ _⟩
  by_cases h0 : s.size = 0
  case pos =>
    have HN : Hid (¬ Mq.Okay e m (y : Int) f t s k) := fun h => h.2.2.2.1 h0
    have q0 := str_none h0
    have hpp : 0 = X ∧ 0 = F9 ∧ 0 = T9 ∧ 0 = P ∧ 0 = S ∧ [] = H ∧ [] = G ∧ [] = L ∧ 1 = E := by
      rcases HI.out with ⟨_, h⟩ | ⟨h, _⟩ | ⟨h, _⟩
      · exact h
      · exact absurd h HN.out
      · exact absurd h HN.out
    obtain ⟨rfl, rfl, rfl, rfl, rfl, rfl, rfl, rfl, rfl⟩ := hpp
    clear HN HI
    clear hR hf h0
    go_enter Try.func13, Try.ntmps13
    go_upto_region 1 with fail
    generalize (w.alloc (.cells #[.int .i64 e, .slice (some ⟨b9, o9, none⟩) n c] 37)).alloc (.cells #[.int .i64 0, .int .i64 0, .int .i64 0, .int .i64 0, .int .i64 0, .slice none 0 0, .slice none 0 0] 34) = W at *
    have c0 := kp.cell 0 rfl; have c1 := kp.cell 1 rfl
    go_upto_region 2 with (first
      | (go_at_call 32; refine (HRT.out _ hB).mono ?_; rintro r u1 ⟨rfl, hb1⟩; replace kp := kp.keep hb1; clear c0 c1; have c0 := kp.cell 0 rfl; have c1 := kp.cell 1 rfl; have hB1 := bel_then hB hb1; have cx := HCX.out _ hB1)
      | (go_at_call 33; refine (HHF.out _ hB1).mono ?_; rintro r u2 ⟨rfl, h9⟩; replace h9 := h9.symm; subst h9))
    replace kr := kr.keep hb1
    have KR := hidL (kr)
    have HBB := hidL (hB1)
    have d0 := kr.cell 0 rfl; have d1 := kr.cell 1 rfl; have d2 := kr.cell 2 rfl; have d3 := kr.cell 3 rfl; have d4 := kr.cell 4 rfl; have d5 := kr.cell 5 rfl; have d6 := kr.cell 6 rfl
    have g0 := kr.free 0; have g1 := kr.free 1; have g2 := kr.free 2; have g3 := kr.free 3; have g4 := kr.free 4; have g5 := kr.free 5; have g6 := kr.free 6
    clear hb1
    go_wp2
    refine ret_three Try.underlying34 Try.infoMoveR rfl rfl rfl rfl rfl (KR.out.all7 _ _ _ _ _ _ _) rfl ?_
    exact ⟨bel_all7 HBB.out (by omega) _ _ _ _ _ _ _, none, 0, 0, none, 0, none, 0, rfl, rep_none _ _ _, rep_none _ _ _, rep_none _ _ _⟩
  have q0 := str_some h0
  by_cases hk1 : k < 1
  case pos =>
    have HN : Hid (¬ Mq.Okay e m (y : Int) f t s k) := fun h => by have := h.2.2.2.2; omega
    have hpp : 0 = X ∧ 0 = F9 ∧ 0 = T9 ∧ 0 = P ∧ 0 = S ∧ [] = H ∧ [] = G ∧ [] = L ∧ 1 = E := by
      rcases HI.out with ⟨_, h⟩ | ⟨h, _⟩ | ⟨h, _⟩
      · exact h
      · exact absurd h HN.out
      · exact absurd h HN.out
    obtain ⟨rfl, rfl, rfl, rfl, rfl, rfl, rfl, rfl, rfl⟩ := hpp
    clear HN HI
    clear hR hf h0
    go_enter Try.func13, Try.ntmps13
    go_upto_region 1 with fail
    generalize (w.alloc (.cells #[.int .i64 e, .slice (some ⟨b9, o9, none⟩) n c] 37)).alloc (.cells #[.int .i64 0, .int .i64 0, .int .i64 0, .int .i64 0, .int .i64 0, .slice none 0 0, .slice none 0 0] 34) = W at *
    have c0 := kp.cell 0 rfl; have c1 := kp.cell 1 rfl
    go_upto_region 2 with (first
      | (go_at_call 32; refine (HRT.out _ hB).mono ?_; rintro r u1 ⟨rfl, hb1⟩; replace kp := kp.keep hb1; clear c0 c1; have c0 := kp.cell 0 rfl; have c1 := kp.cell 1 rfl; have hB1 := bel_then hB hb1; have cx := HCX.out _ hB1)
      | (go_at_call 33; refine (HHF.out _ hB1).mono ?_; rintro r u2 ⟨rfl, h9⟩; replace h9 := h9.symm; subst h9))
    replace kr := kr.keep hb1
    have KR := hidL (kr)
    have HBB := hidL (hB1)
    have d0 := kr.cell 0 rfl; have d1 := kr.cell 1 rfl; have d2 := kr.cell 2 rfl; have d3 := kr.cell 3 rfl; have d4 := kr.cell 4 rfl; have d5 := kr.cell 5 rfl; have d6 := kr.cell 6 rfl
    have g0 := kr.free 0; have g1 := kr.free 1; have g2 := kr.free 2; have g3 := kr.free 3; have g4 := kr.free 4; have g5 := kr.free 5; have g6 := kr.free 6
    clear hb1
    go_wp2
    refine ret_three Try.underlying34 Try.infoMoveR rfl rfl rfl rfl rfl (KR.out.all7 _ _ _ _ _ _ _) rfl ?_
    exact ⟨bel_all7 HBB.out (by omega) _ _ _ _ _ _ _, none, 0, 0, none, 0, none, 0, rfl, rep_none _ _ _, rep_none _ _ _, rep_none _ _ _⟩
  by_cases hk64 : 64 < k
  case pos =>
    have HN : Hid (¬ Mq.Okay e m (y : Int) f t s k) := fun h => by have := h.2.2.2.2; omega
    have hpp : 0 = X ∧ 0 = F9 ∧ 0 = T9 ∧ 0 = P ∧ 0 = S ∧ [] = H ∧ [] = G ∧ [] = L ∧ 1 = E := by
      rcases HI.out with ⟨_, h⟩ | ⟨h, _⟩ | ⟨h, _⟩
      · exact h
      · exact absurd h HN.out
      · exact absurd h HN.out
    obtain ⟨rfl, rfl, rfl, rfl, rfl, rfl, rfl, rfl, rfl⟩ := hpp
    clear HN HI
    clear hR hf h0
    go_enter Try.func13, Try.ntmps13
    go_upto_region 1 with fail
    generalize (w.alloc (.cells #[.int .i64 e, .slice (some ⟨b9, o9, none⟩) n c] 37)).alloc (.cells #[.int .i64 0, .int .i64 0, .int .i64 0, .int .i64 0, .int .i64 0, .slice none 0 0, .slice none 0 0] 34) = W at *
    have c0 := kp.cell 0 rfl; have c1 := kp.cell 1 rfl
    go_upto_region 2 with (first
      | (go_at_call 32; refine (HRT.out _ hB).mono ?_; rintro r u1 ⟨rfl, hb1⟩; replace kp := kp.keep hb1; clear c0 c1; have c0 := kp.cell 0 rfl; have c1 := kp.cell 1 rfl; have hB1 := bel_then hB hb1; have cx := HCX.out _ hB1)
      | (go_at_call 33; refine (HHF.out _ hB1).mono ?_; rintro r u2 ⟨rfl, h9⟩; replace h9 := h9.symm; subst h9))
    replace kr := kr.keep hb1
    have KR := hidL (kr)
    have HBB := hidL (hB1)
    have d0 := kr.cell 0 rfl; have d1 := kr.cell 1 rfl; have d2 := kr.cell 2 rfl; have d3 := kr.cell 3 rfl; have d4 := kr.cell 4 rfl; have d5 := kr.cell 5 rfl; have d6 := kr.cell 6 rfl
    have g0 := kr.free 0; have g1 := kr.free 1; have g2 := kr.free 2; have g3 := kr.free 3; have g4 := kr.free 4; have g5 := kr.free 5; have g6 := kr.free 6
    clear hb1
    go_wp2
    refine ret_three Try.underlying34 Try.infoMoveR rfl rfl rfl rfl rfl (KR.out.all7 _ _ _ _ _ _ _) rfl ?_
    exact ⟨bel_all7 HBB.out (by omega) _ _ _ _ _ _ _, none, 0, 0, none, 0, none, 0, rfl, rep_none _ _ _, rep_none _ _ _, rep_none _ _ _⟩
  obtain ⟨z, rfl⟩ : ∃ z : Nat, k = (z : Int) := ⟨k.toNat, by omega⟩
  have HO : Hid (Mq.Okay e m (y : Int) f t s (z : Int)) := ⟨hR, (HH.out f).2 hf, by omega, h0, by omega⟩
  by_cases ht : (m.getD y []).contains t = true
  · have hpp : 0 = X ∧ 0 = F9 ∧ 0 = T9 ∧ 0 = P ∧ 0 = S ∧ [] = H ∧ [] = G ∧ [] = L ∧ 5 = E := by
      rcases HI.out with ⟨h, _⟩ | ⟨_, _, h⟩ | ⟨_, h, _⟩
      · exact absurd HO.out h
      · exact h
      · exact absurd ((HH.out t).2 ht) h
    obtain ⟨rfl, rfl, rfl, rfl, rfl, rfl, rfl, rfl, rfl⟩ := hpp
    have HHT : Hid (∀ u, Below w.heap.size w u → Calls Try.prog 33 #[.slice A q C, .int .i64 t] u fun r w' => r = .returned (.bool true) ∧ w' = u) := fun u hu => (qhas A q C _ t u (HRW.out u hu) hq9).mono fun _ _ ⟨h1, h2⟩ => ⟨by rw [h1, ht], h2⟩
    clear hR hf h0 ht HI
    go_enter Try.func13, Try.ntmps13
    go_upto_region 1 with fail
    generalize (w.alloc (.cells #[.int .i64 e, .slice (some ⟨b9, o9, none⟩) n c] 37)).alloc (.cells #[.int .i64 0, .int .i64 0, .int .i64 0, .int .i64 0, .int .i64 0, .slice none 0 0, .slice none 0 0] 34) = W at *
    have c0 := kp.cell 0 rfl; have c1 := kp.cell 1 rfl
    go_upto_region 3 with (first
      | (go_at_call 32; refine (HRT.out _ hB).mono ?_; rintro r u1 ⟨rfl, hb1⟩; replace kp := kp.keep hb1; clear c0 c1; have c0 := kp.cell 0 rfl; have c1 := kp.cell 1 rfl; have hB1 := bel_then hB hb1; have cx := HCX.out _ hB1)
      | (go_at_call 33; refine (HHF.out _ hB1).mono ?_; rintro r u2 ⟨rfl, h9⟩; replace h9 := h9.symm; subst h9))
    replace kr := kr.keep hb1
    go_upto_region 4 with (go_at_call 33; refine (HHT.out _ hB1).mono ?_; rintro r u2 ⟨rfl, h9⟩; replace h9 := h9.symm; subst h9)
    have KR := hidL (kr)
    have HBB := hidL (hB1)
    have d0 := kr.cell 0 rfl; have d1 := kr.cell 1 rfl; have d2 := kr.cell 2 rfl; have d3 := kr.cell 3 rfl; have d4 := kr.cell 4 rfl; have d5 := kr.cell 5 rfl; have d6 := kr.cell 6 rfl
    have g0 := kr.free 0; have g1 := kr.free 1; have g2 := kr.free 2; have g3 := kr.free 3; have g4 := kr.free 4; have g5 := kr.free 5; have g6 := kr.free 6
    clear hb1
    go_wp2
    refine ret_three Try.underlying34 Try.infoMoveR rfl rfl rfl rfl rfl (KR.out.all7 _ _ _ _ _ _ _) rfl ?_
    exact ⟨bel_all7 HBB.out (by omega) _ _ _ _ _ _ _, none, 0, 0, none, 0, none, 0, rfl, rep_none _ _ _, rep_none _ _ _, rep_none _ _ _⟩
  · have hpp : (y : Int) = X ∧ f = F9 ∧ t = T9 ∧ 1 = P ∧ (Cx.sum (Mq.lst s) : Int) = S ∧ List.replicate (Ck.num s.size (z : Int).toNat) false = H ∧ List.replicate (Ck.num s.size (z : Int).toNat) noText = G ∧ Mq.pieces (Mq.lst s) (z : Int).toNat = L ∧ 0 = E := by
      rcases HI.out with ⟨h, _⟩ | ⟨_, h, _⟩ | ⟨_, _, h⟩
      · exact absurd HO.out h
      · exact absurd ((HH.out t).1 h) ht
      · exact h
    obtain ⟨rfl, rfl, rfl, rfl, hS, hH, hG, hL, rfl⟩ := hpp
    obtain ⟨N, hN⟩ : ∃ N, Ck.num s.size z = N := ⟨_, rfl⟩
    rw [Int.toNat_natCast, hN] at hH hG
    rw [Int.toNat_natCast] at hL
    have HN := hidL hN
    have HHT : Hid (∀ u, Below w.heap.size w u → Calls Try.prog 33 #[.slice A q C, .int .i64 t] u fun r w' => r = .returned (.bool false) ∧ w' = u) := fun u hu => (qhas A q C _ t u (HRW.out u hu) hq9).mono fun _ _ ⟨h1, h2⟩ => ⟨by rw [h1, Bool.eq_false_iff.2 ht], h2⟩
    have HCS : Hid (∀ u, Calls Try.prog 34 #[.string s] u fun r w' => r = .returned (.int .i64 S) ∧ w' = u) := fun u => by
      have h9 := rsum s (by have := HS.out; unfold maxLen; omega) u
      rw [show ((crc s : Nat) : Int) = S from hS] at h9
      exact h9
    have HL := hidL hL
    have HHG := hidL (And.intro hH hG)
    have dd0 : decide ((y : Int) < 0) = false := decide_eq_false (by omega)
    have dd1 : decide (t < 1) = false := decide_eq_false (by omega)
    have dd2 : decide (4 < t) = false := decide_eq_false (by omega)
    have dd3 : decide ((z : Int) < 1) = false := decide_eq_false (by omega)
    have dd4 : decide ((64 : Int) < (z : Int)) = false := decide_eq_false (by omega)
    have dd5 : decide ((n : Int) ≤ (y : Int)) = false := decide_eq_false (by omega)
    have dd6 : decide (n ≤ y) = false := decide_eq_false (by omega)
    have dd7 : decide (z < 1) = false := decide_eq_false (by omega)
    have dd8 : decide (64 < z) = false := decide_eq_false (by omega)
    clear hR hf h0 ht HI hS hH hG hL hN
    go_enter Try.func13, Try.ntmps13
    go_upto_region 1 with fail
    generalize (w.alloc (.cells #[.int .i64 e, .slice (some ⟨b9, o9, none⟩) n c] 37)).alloc (.cells #[.int .i64 0, .int .i64 0, .int .i64 0, .int .i64 0, .int .i64 0, .slice none 0 0, .slice none 0 0] 34) = W at *
    have c0 := kp.cell 0 rfl; have c1 := kp.cell 1 rfl
    go_upto_region 3 with (first
      | (go_at_call 32; refine (HRT.out _ hB).mono ?_; rintro r u1 ⟨rfl, hb1⟩; replace kp := kp.keep hb1; clear c0 c1; have c0 := kp.cell 0 rfl; have c1 := kp.cell 1 rfl; have hB1 := bel_then hB hb1; have cx := HCX.out _ hB1)
      | (go_at_call 33; refine (HHF.out _ hB1).mono ?_; rintro r u2 ⟨rfl, h9⟩; replace h9 := h9.symm; subst h9))
    replace kr := kr.keep hb1
    go_upto_region 6 with (first
      | (go_at_call 33; refine (HHT.out _ hB1).mono ?_; rintro r u2 ⟨rfl, h9⟩; replace h9 := h9.symm; subst h9)
      | (go_at_call 34; refine (HCS.out _).mono ?_; rintro r u3 ⟨rfl, h9⟩; replace h9 := h9.symm; subst h9))
    have hbn := new_bel u1 (.cells #[.int .i64 (y : Int), .int .i64 f, .int .i64 t, .int .i64 1, .int .i64 S, .slice none 0 0, .slice none 0 0] 34)
    have kn := Box.new u1 34 #[.int .i64 (y : Int), .int .i64 f, .int .i64 t, .int .i64 1, .int .i64 S, .slice none 0 0, .slice none 0 0]
    have hlr := kr.lt
    have kr2 := kr.keep hbn
    have hB2 := bel_then hB1 hbn
    obtain ⟨i0, hi0, hi1, hi2, hi3⟩ := info_parts Try.infoBool
    obtain ⟨j0, hj0, hj1, hj2, hj3⟩ := info_parts Try.infoText
    clear c0 c1 cx kp kr hB1 hB hb1 hbn HRT HHF HHT HCS HCX HRW HMA
    generalize u1.alloc (.cells #[.int .i64 (y : Int), .int .i64 f, .int .i64 t, .int .i64 1, .int .i64 S, .slice none 0 0, .slice none 0 0] 34) = W2 at *
    generalize u1.heap.size = K at *
    go_wp2
    go_loopw [16, 17] (fun l i wr => ∃ (j I : Nat) (la : Option Addr) (lc : Nat) (va : Option Addr) (vc : Nat) (vb : Option Addr) (vd : Nat), j ≤ N ∧ i = .int .i64 (I : Int) ∧ Hid (I = j * z) ∧ l = .slice la j lc ∧ Box wr (w.heap.size + 1) 34 #[.int .i64 0, .int .i64 0, .int .i64 0, .int .i64 0, .int .i64 0, .slice none 0 0, .slice none 0 0] ∧ Box wr K 34 #[.int .i64 (y : Int), .int .i64 f, .int .i64 t, .int .i64 1, .int .i64 S, .slice va j vc, .slice vb j vd] ∧ Own strS wr (K + 1) 9 (.slice la j lc) (L.take j) ∧ Own boolS wr (K + 1) 4 (.slice va j vc) (List.replicate j false) ∧ Own strS wr (K + 1) 9 (.slice vb j vd) (List.replicate j noText) ∧ Apart (.slice la j lc) (.slice va j vc) ∧ Apart (.slice la j lc) (.slice vb j vd) ∧ Apart (.slice va j vc) (.slice vb j vd) ∧ Below w.heap.size w wr) (fun _ i _ => s.size - (intOf i).toNat)
    case atStart => exact ⟨0, 0, none, 0, none, 0, none, 0, Nat.zero_le _, rfl, by show 0 = _; rw [Nat.zero_mul], rfl, kr2, kn, Own.nil _ _ _ _, Own.nil _ _ _ _, Own.nil _ _ _ _, Apart.none _, Apart.none _, Apart.none _, hB2⟩
    case round =>
      clear kr2 kn hB2
      obtain ⟨j, I, la, lc, va, vc, vb, vd, hj, rfl, HI9, rfl, kr, kn, hoL, hoV, hoB, apV, apB, apC, hbel⟩ := hrel
      have hjm : j < N ↔ I < s.size := by
        rw [HI9.out, ← HN.out]
        exact Ck.num_lt (by omega)
      have hlk := kn.lt
      by_cases hlt : I < s.size
      · have hli : (I : Int) < (s.size : Int) := by omega
        have hjN : j < N := hjm.2 hlt
        have hj9 : j ≤ 1000 := by
          have h8 : j * 1 ≤ j * z := Nat.mul_le_mul_left j (by omega)
          have := HI9.out
          omega
        clear hjm
        by_cases hg : s.size < I + z
        · have hgi : (s.size : Int) < (I : Int) + (z : Int) := by omega
          obtain ⟨D, hD, hDl, hDs⟩ := cut_mid s (i := I) (j := s.size) (by omega) (by omega)
          have hLS : L.take j ++ [D] = L.take (j + 1) := by
            have e9 : D = ⟨(Ck.piece s.data.toList z j).toArray⟩ := by
              apply text_is
              rw [hDl]
              unfold Ck.piece
              rw [← HI9.out]
              rcases Nat.le_total z (s.size - I) with h9 | h9
              · rw [show s.size - I = z by omega]
              · rw [List.take_of_length_le (by rw [List.length_drop, list_size]; omega), List.take_of_length_le (by rw [List.length_drop, list_size]; omega)]
            rw [← HL.out, Mq.pieces_step s z j (by rw [HN.out]; exact hjN), e9]
            rfl
          have hlL : (L.take j).length = j := by have := (sliceS_len hoL.is).1; exact this
          clear hDl hDs
          try simp only [Int.natCast_add] at hD
          have hb1 := new_bel wr (.cells #[.string D] 9)
          have hs1 := hoL.one plain_str (cs := [.string D]) (x := D) rfl
          have hs2 := hs1.1
          have hs3 := hs1.2
          have ho1 := hoL.keep hb1
          have hw0 : (wr.alloc (.cells #[.string D] 9)).heap.size = wr.heap.size + 1 := by simp
          have hw1 : K + 1 ≤ (wr.alloc (.cells #[.string D] 9)).heap.size := by rw [hw0]; omega
          have hlV := fun b hb => (hoV.lt b hb).2
          have hlB := fun b hb => (hoB.lt b hb).2
          have hneK : some K ≠ Value.ownBlock (.slice la j lc) := fun h => by have := (hoL.lt _ h.symm).1; omega
          have hne1 : some (w.heap.size + 1) ≠ Value.ownBlock (.slice la j lc) := fun h => by have := (hoL.lt _ h.symm).1; omega
          have hm1 : (L.take j).length + 1 ≤ 100000 := by rw [hlL]; omega
          have hm2 : (L.take j).length + 1 = j + 1 := by rw [hlL]
          obtain ⟨L1, hL1⟩ : ∃ L1, L.take (j + 1) = L1 := ⟨_, rfl⟩
          have HL1 := hidL hL1
          rw [hL1] at hLS
          generalize L.take j = L0 at *
          clear hs1 hL1 hlL
          go_upto_region 14 with (at_builtin; refine wpList_appK strS (by simp [Region.wanted]) (.tmp 94) (.tmp 99) 28 rfl (K + 1) 9 j0 (.string noText) 16 Try.underlying28 hj0 hj1 hj2 hj3 rfl Nat.one_pos (by omega) (by rfl) ho1 (by rfl) hs2 hs3 hm1 hw1 (j + 1) hm2 L1 hLS ?_; intro a6 c6 u6 ho6 hg6 hb6 hat6)
          have kn6 := (kn.keep hb1).grown hg6 hneK
          have kr6 := (kr.keep hb1).grown hg6 hne1
          have hoV6 := (hoV.keep hb1).beside plain_bool apV hg6
          have hoB6 := (hoB.keep hb1).beside plain_str apB hg6
          have apV6 : Apart (.slice a6 (j + 1) c6) (.slice va j vc) := apV.grow (fun b hb => by have := hlV b hb; rw [hw0]; omega) hat6
          have apB6 : Apart (.slice a6 (j + 1) c6) (.slice vb j vd) := apB.grow (fun b hb => by have := hlB b hb; rw [hw0]; omega) hat6
          have hB6 := (bel_then hbel hb1).trans (hb6.mono (show w.heap.size ≤ K + 1 by omega))
          clear kn kr hoV hoB hoL apV apB hbel hb1 hs2 hs3 ho1 hw0 hw1 hlV hlB hneK hne1 hm1 hm2 hLS hg6 hb6 hat6 hD
          have hlk6 := kn6.lt
          have hb1 := new_bel u6 (.cells #[.bool false] 4)
          have hs1 := hoV6.one plain_bool (cs := [.bool false]) (x := false) rfl
          have hs2 := hs1.1
          have hs3 := hs1.2
          have ho1 := hoV6.keep hb1
          have hw0 : (u6.alloc (.cells #[.bool false] 4)).heap.size = u6.heap.size + 1 := by simp
          have hw1 : K + 1 ≤ (u6.alloc (.cells #[.bool false] 4)).heap.size := by rw [hw0]; omega
          have hlL := fun b hb => (ho6.lt b hb).2
          have hlB := fun b hb => (hoB6.lt b hb).2
          have hneK : some K ≠ Value.ownBlock (.slice va j vc) := fun h => by have := (hoV6.lt _ h.symm).1; omega
          have hne1 : some (w.heap.size + 1) ≠ Value.ownBlock (.slice va j vc) := fun h => by have := (hoV6.lt _ h.symm).1; omega
          have hm1 : (List.replicate j false).length + 1 ≤ 100000 := by rw [List.length_replicate]; omega
          have hm2 : (List.replicate j false).length + 1 = j + 1 := by rw [List.length_replicate]
          have hrs : List.replicate j false ++ [false] = List.replicate (j + 1) false := List.replicate_succ'.symm
          have kn7 := kn6.keep hb1
          have n5 := kn6.cell 5 rfl
          clear hs1
          generalize List.replicate j false = R0 at *
          obtain ⟨R1, hR1⟩ : ∃ R1, List.replicate (j + 1) false = R1 := ⟨_, rfl⟩
          have HR1 := hidL hR1
          rw [hR1] at hrs
          clear hR1
          go_upto_region 15 with (at_builtin; refine wpList_appK boolS (by simp [Region.wanted]) (.tmp 102) (.tmp 103) 27 rfl (K + 1) 4 i0 (.bool false) 1 Try.underlying27 hi0 hi1 hi2 hi3 rfl Nat.one_pos (by omega) (by rfl) ho1 (by rfl) hs2 hs3 hm1 hw1 (j + 1) hm2 R1 hrs ?_; intro a8 c8 u8 ho8 hg8 hb8 hat8; have kn8 := kn7.grown hg8 hneK; have f5 := kn8.free 5; have n5' := kn8.cell 5 rfl)
          have kn9 : Box (u8.setCell ⟨K, 5, none⟩ (.slice a8 (j + 1) c8)) K 34 #[.int .i64 (y : Int), .int .i64 f, .int .i64 t, .int .i64 1, .int .i64 S, .slice a8 (j + 1) c8, .slice vb j vd] := kn8.set 5 _
          have kr9 := ((kr6.keep hb1).grown hg8 hne1).other (b2 := K) (i := 5) (.slice a8 (j + 1) c8) (by omega)
          have hoV9 := ho8.past plain_bool (show K < K + 1 by omega) 5 (.slice a8 (j + 1) c8)
          have hoL9 := ((ho6.keep hb1).beside plain_str apV6.symm hg8).past plain_str (show K < K + 1 by omega) 5 (.slice a8 (j + 1) c8)
          have hoB9 := ((hoB6.keep hb1).beside plain_str apC hg8).past plain_str (show K < K + 1 by omega) 5 (.slice a8 (j + 1) c8)
          have apV9 : Apart (.slice a6 (j + 1) c6) (.slice a8 (j + 1) c8) := (apV6.symm.grow (v1' := .slice a8 (j + 1) c8) (fun b hb => by have := hlL b hb; rw [hw0]; omega) hat8).symm
          have apC9 : Apart (.slice a8 (j + 1) c8) (.slice vb j vd) := apC.grow (fun b hb => by have := hlB b hb; rw [hw0]; omega) hat8
          have hB9 := bel_put (i := 5) ((bel_then hB6 hb1).trans (hb8.mono (show w.heap.size ≤ K + 1 by omega))) (show w.heap.size ≤ K by omega) (.slice a8 (j + 1) c8)
          clear kn6 kn7 kn8 kr6 hoV6 hoB6 ho6 apV6 apC hB6 hb1 hs2 hs3 ho1 hw0 hw1 hlL hlB hneK hne1 hm1 hm2 hrs hg8 hb8 hat8 ho8 n5 n5' f5 hlk6
          generalize u8.setCell ⟨K, 5, none⟩ (.slice a8 (j + 1) c8) = W9 at *
          have hlk9 := kn9.lt
          have hb1 := new_bel W9 (.cells #[.string noText] 9)
          have hs1 := hoB9.one plain_str (cs := [.string noText]) (x := noText) rfl
          have hs2 := hs1.1
          have hs3 := hs1.2
          have ho1 := hoB9.keep hb1
          have hw0 : (W9.alloc (.cells #[.string noText] 9)).heap.size = W9.heap.size + 1 := by simp
          have hw1 : K + 1 ≤ (W9.alloc (.cells #[.string noText] 9)).heap.size := by rw [hw0]; omega
          have hlL := fun b hb => (hoL9.lt b hb).2
          have hlV := fun b hb => (hoV9.lt b hb).2
          have hneK : some K ≠ Value.ownBlock (.slice vb j vd) := fun h => by have := (hoB9.lt _ h.symm).1; omega
          have hne1 : some (w.heap.size + 1) ≠ Value.ownBlock (.slice vb j vd) := fun h => by have := (hoB9.lt _ h.symm).1; omega
          have hm1 : (List.replicate j noText).length + 1 ≤ 100000 := by rw [List.length_replicate]; omega
          have hm2 : (List.replicate j noText).length + 1 = j + 1 := by rw [List.length_replicate]
          have hrs : List.replicate j noText ++ [noText] = List.replicate (j + 1) noText := List.replicate_succ'.symm
          have kn10 := kn9.keep hb1
          have n6 := kn9.cell 6 rfl
          clear hs1
          generalize List.replicate j noText = S0 at *
          obtain ⟨S1, hS1⟩ : ∃ S1, List.replicate (j + 1) noText = S1 := ⟨_, rfl⟩
          have HS1 := hidL hS1
          rw [hS1] at hrs
          clear hS1
          go_wp2_with (at_builtin; refine wpList_appK strS (by simp [Region.wanted]) (.tmp 107) (.tmp 108) 28 rfl (K + 1) 9 j0 (.string noText) 16 Try.underlying28 hj0 hj1 hj2 hj3 rfl Nat.one_pos (by omega) (by rfl) ho1 (by rfl) hs2 hs3 hm1 hw1 (j + 1) hm2 S1 hrs ?_; intro a11 c11 u11 ho11 hg11 hb11 hat11; have kn11 := kn10.grown hg11 hneK; have f6 := kn11.free 6; have n6' := kn11.cell 6 rfl)
          have kn12 : Box (u11.setCell ⟨K, 6, none⟩ (.slice a11 (j + 1) c11)) K 34 #[.int .i64 (y : Int), .int .i64 f, .int .i64 t, .int .i64 1, .int .i64 S, .slice a8 (j + 1) c8, .slice a11 (j + 1) c11] := kn11.set 6 _
          have kr12 := ((kr9.keep hb1).grown hg11 hne1).other (b2 := K) (i := 6) (.slice a11 (j + 1) c11) (by omega)
          have hoB12 := ho11.past plain_str (show K < K + 1 by omega) 6 (.slice a11 (j + 1) c11)
          have hoL12 := ((hoL9.keep hb1).beside plain_str apB6.symm hg11).past plain_str (show K < K + 1 by omega) 6 (.slice a11 (j + 1) c11)
          have hoV12 := ((hoV9.keep hb1).beside plain_bool apC9.symm hg11).past plain_bool (show K < K + 1 by omega) 6 (.slice a11 (j + 1) c11)
          have apB12 : Apart (.slice a6 (j + 1) c6) (.slice a11 (j + 1) c11) := (apB6.symm.grow (v1' := .slice a11 (j + 1) c11) (fun b hb => by have := hlL b hb; rw [hw0]; omega) hat11).symm
          have apC12 : Apart (.slice a8 (j + 1) c8) (.slice a11 (j + 1) c11) := (apC9.symm.grow (v1' := .slice a11 (j + 1) c11) (fun b hb => by have := hlV b hb; rw [hw0]; omega) hat11).symm
          have hB12 := bel_put (i := 6) ((bel_then hB9 hb1).trans (hb11.mono (show w.heap.size ≤ K + 1 by omega))) (show w.heap.size ≤ K by omega) (.slice a11 (j + 1) c11)
          have HR := hidL (And.intro kr12 (And.intro kn12 (And.intro hoL12 (And.intro hoV12 (And.intro hoB12 (And.intro apV9 (And.intro apB12 (And.intro apC12 hB12))))))))
          clear kn9 kn10 kn11 kn12 kr9 kr12 hoB9 hoL9 hoV9 ho11 hoB12 hoL12 hoV12 apB6 apB12 apC9 apC12 apV9 hB9 hB12 hb1 hs2 hs3 ho1 hw0 hw1 hlL hlV hneK hne1 hm1 hm2 hrs hg11 hb11 hat11 n6 n6' f6 hlk9
          go_roundw
          case rel =>
            have h9 := HR.out
            rw [← HL1.out, ← HR1.out, ← HS1.out] at h9
            exact ⟨j + 1, I + z, a6, c6, a8, c8, a11, c11, hjN, by go_num, by show I + z = _; rw [HI9.out, Nat.add_mul, Nat.one_mul], rfl, h9.1, h9.2.1, h9.2.2.1, h9.2.2.2.1, h9.2.2.2.2.1, h9.2.2.2.2.2.1, h9.2.2.2.2.2.2.1, h9.2.2.2.2.2.2.2.1, h9.2.2.2.2.2.2.2.2⟩
          case measure => simp [intOf]; omega
        · have hgi : ¬ (s.size : Int) < (I : Int) + (z : Int) := by omega
          obtain ⟨D, hD, hDl, hDs⟩ := cut_mid s (i := I) (j := (I + z)) (by omega) (by omega)
          have hLS : L.take j ++ [D] = L.take (j + 1) := by
            have e9 : D = ⟨(Ck.piece s.data.toList z j).toArray⟩ := by
              apply text_is
              rw [hDl]
              unfold Ck.piece
              rw [← HI9.out]
              rcases Nat.le_total z (s.size - I) with h9 | h9
              · rw [show (I + z) - I = z by omega]
              · rw [List.take_of_length_le (by rw [List.length_drop, list_size]; omega), List.take_of_length_le (by rw [List.length_drop, list_size]; omega)]
            rw [← HL.out, Mq.pieces_step s z j (by rw [HN.out]; exact hjN), e9]
            rfl
          have hlL : (L.take j).length = j := by have := (sliceS_len hoL.is).1; exact this
          clear hDl hDs
          try simp only [Int.natCast_add] at hD
          have hb1 := new_bel wr (.cells #[.string D] 9)
          have hs1 := hoL.one plain_str (cs := [.string D]) (x := D) rfl
          have hs2 := hs1.1
          have hs3 := hs1.2
          have ho1 := hoL.keep hb1
          have hw0 : (wr.alloc (.cells #[.string D] 9)).heap.size = wr.heap.size + 1 := by simp
          have hw1 : K + 1 ≤ (wr.alloc (.cells #[.string D] 9)).heap.size := by rw [hw0]; omega
          have hlV := fun b hb => (hoV.lt b hb).2
          have hlB := fun b hb => (hoB.lt b hb).2
          have hneK : some K ≠ Value.ownBlock (.slice la j lc) := fun h => by have := (hoL.lt _ h.symm).1; omega
          have hne1 : some (w.heap.size + 1) ≠ Value.ownBlock (.slice la j lc) := fun h => by have := (hoL.lt _ h.symm).1; omega
          have hm1 : (L.take j).length + 1 ≤ 100000 := by rw [hlL]; omega
          have hm2 : (L.take j).length + 1 = j + 1 := by rw [hlL]
          obtain ⟨L1, hL1⟩ : ∃ L1, L.take (j + 1) = L1 := ⟨_, rfl⟩
          have HL1 := hidL hL1
          rw [hL1] at hLS
          generalize L.take j = L0 at *
          clear hs1 hL1 hlL
          go_upto_region 14 with (at_builtin; refine wpList_appK strS (by simp [Region.wanted]) (.tmp 94) (.tmp 99) 28 rfl (K + 1) 9 j0 (.string noText) 16 Try.underlying28 hj0 hj1 hj2 hj3 rfl Nat.one_pos (by omega) (by rfl) ho1 (by rfl) hs2 hs3 hm1 hw1 (j + 1) hm2 L1 hLS ?_; intro a6 c6 u6 ho6 hg6 hb6 hat6)
          have kn6 := (kn.keep hb1).grown hg6 hneK
          have kr6 := (kr.keep hb1).grown hg6 hne1
          have hoV6 := (hoV.keep hb1).beside plain_bool apV hg6
          have hoB6 := (hoB.keep hb1).beside plain_str apB hg6
          have apV6 : Apart (.slice a6 (j + 1) c6) (.slice va j vc) := apV.grow (fun b hb => by have := hlV b hb; rw [hw0]; omega) hat6
          have apB6 : Apart (.slice a6 (j + 1) c6) (.slice vb j vd) := apB.grow (fun b hb => by have := hlB b hb; rw [hw0]; omega) hat6
          have hB6 := (bel_then hbel hb1).trans (hb6.mono (show w.heap.size ≤ K + 1 by omega))
          clear kn kr hoV hoB hoL apV apB hbel hb1 hs2 hs3 ho1 hw0 hw1 hlV hlB hneK hne1 hm1 hm2 hLS hg6 hb6 hat6 hD
          have hlk6 := kn6.lt
          have hb1 := new_bel u6 (.cells #[.bool false] 4)
          have hs1 := hoV6.one plain_bool (cs := [.bool false]) (x := false) rfl
          have hs2 := hs1.1
          have hs3 := hs1.2
          have ho1 := hoV6.keep hb1
          have hw0 : (u6.alloc (.cells #[.bool false] 4)).heap.size = u6.heap.size + 1 := by simp
          have hw1 : K + 1 ≤ (u6.alloc (.cells #[.bool false] 4)).heap.size := by rw [hw0]; omega
          have hlL := fun b hb => (ho6.lt b hb).2
          have hlB := fun b hb => (hoB6.lt b hb).2
          have hneK : some K ≠ Value.ownBlock (.slice va j vc) := fun h => by have := (hoV6.lt _ h.symm).1; omega
          have hne1 : some (w.heap.size + 1) ≠ Value.ownBlock (.slice va j vc) := fun h => by have := (hoV6.lt _ h.symm).1; omega
          have hm1 : (List.replicate j false).length + 1 ≤ 100000 := by rw [List.length_replicate]; omega
          have hm2 : (List.replicate j false).length + 1 = j + 1 := by rw [List.length_replicate]
          have hrs : List.replicate j false ++ [false] = List.replicate (j + 1) false := List.replicate_succ'.symm
          have kn7 := kn6.keep hb1
          have n5 := kn6.cell 5 rfl
          clear hs1
          generalize List.replicate j false = R0 at *
          obtain ⟨R1, hR1⟩ : ∃ R1, List.replicate (j + 1) false = R1 := ⟨_, rfl⟩
          have HR1 := hidL hR1
          rw [hR1] at hrs
          clear hR1
          go_upto_region 15 with (at_builtin; refine wpList_appK boolS (by simp [Region.wanted]) (.tmp 102) (.tmp 103) 27 rfl (K + 1) 4 i0 (.bool false) 1 Try.underlying27 hi0 hi1 hi2 hi3 rfl Nat.one_pos (by omega) (by rfl) ho1 (by rfl) hs2 hs3 hm1 hw1 (j + 1) hm2 R1 hrs ?_; intro a8 c8 u8 ho8 hg8 hb8 hat8; have kn8 := kn7.grown hg8 hneK; have f5 := kn8.free 5; have n5' := kn8.cell 5 rfl)
          have kn9 : Box (u8.setCell ⟨K, 5, none⟩ (.slice a8 (j + 1) c8)) K 34 #[.int .i64 (y : Int), .int .i64 f, .int .i64 t, .int .i64 1, .int .i64 S, .slice a8 (j + 1) c8, .slice vb j vd] := kn8.set 5 _
          have kr9 := ((kr6.keep hb1).grown hg8 hne1).other (b2 := K) (i := 5) (.slice a8 (j + 1) c8) (by omega)
          have hoV9 := ho8.past plain_bool (show K < K + 1 by omega) 5 (.slice a8 (j + 1) c8)
          have hoL9 := ((ho6.keep hb1).beside plain_str apV6.symm hg8).past plain_str (show K < K + 1 by omega) 5 (.slice a8 (j + 1) c8)
          have hoB9 := ((hoB6.keep hb1).beside plain_str apC hg8).past plain_str (show K < K + 1 by omega) 5 (.slice a8 (j + 1) c8)
          have apV9 : Apart (.slice a6 (j + 1) c6) (.slice a8 (j + 1) c8) := (apV6.symm.grow (v1' := .slice a8 (j + 1) c8) (fun b hb => by have := hlL b hb; rw [hw0]; omega) hat8).symm
          have apC9 : Apart (.slice a8 (j + 1) c8) (.slice vb j vd) := apC.grow (fun b hb => by have := hlB b hb; rw [hw0]; omega) hat8
          have hB9 := bel_put (i := 5) ((bel_then hB6 hb1).trans (hb8.mono (show w.heap.size ≤ K + 1 by omega))) (show w.heap.size ≤ K by omega) (.slice a8 (j + 1) c8)
          clear kn6 kn7 kn8 kr6 hoV6 hoB6 ho6 apV6 apC hB6 hb1 hs2 hs3 ho1 hw0 hw1 hlL hlB hneK hne1 hm1 hm2 hrs hg8 hb8 hat8 ho8 n5 n5' f5 hlk6
          generalize u8.setCell ⟨K, 5, none⟩ (.slice a8 (j + 1) c8) = W9 at *
          have hlk9 := kn9.lt
          have hb1 := new_bel W9 (.cells #[.string noText] 9)
          have hs1 := hoB9.one plain_str (cs := [.string noText]) (x := noText) rfl
          have hs2 := hs1.1
          have hs3 := hs1.2
          have ho1 := hoB9.keep hb1
          have hw0 : (W9.alloc (.cells #[.string noText] 9)).heap.size = W9.heap.size + 1 := by simp
          have hw1 : K + 1 ≤ (W9.alloc (.cells #[.string noText] 9)).heap.size := by rw [hw0]; omega
          have hlL := fun b hb => (hoL9.lt b hb).2
          have hlV := fun b hb => (hoV9.lt b hb).2
          have hneK : some K ≠ Value.ownBlock (.slice vb j vd) := fun h => by have := (hoB9.lt _ h.symm).1; omega
          have hne1 : some (w.heap.size + 1) ≠ Value.ownBlock (.slice vb j vd) := fun h => by have := (hoB9.lt _ h.symm).1; omega
          have hm1 : (List.replicate j noText).length + 1 ≤ 100000 := by rw [List.length_replicate]; omega
          have hm2 : (List.replicate j noText).length + 1 = j + 1 := by rw [List.length_replicate]
          have hrs : List.replicate j noText ++ [noText] = List.replicate (j + 1) noText := List.replicate_succ'.symm
          have kn10 := kn9.keep hb1
          have n6 := kn9.cell 6 rfl
          clear hs1
          generalize List.replicate j noText = S0 at *
          obtain ⟨S1, hS1⟩ : ∃ S1, List.replicate (j + 1) noText = S1 := ⟨_, rfl⟩
          have HS1 := hidL hS1
          rw [hS1] at hrs
          clear hS1
          go_wp2_with (at_builtin; refine wpList_appK strS (by simp [Region.wanted]) (.tmp 107) (.tmp 108) 28 rfl (K + 1) 9 j0 (.string noText) 16 Try.underlying28 hj0 hj1 hj2 hj3 rfl Nat.one_pos (by omega) (by rfl) ho1 (by rfl) hs2 hs3 hm1 hw1 (j + 1) hm2 S1 hrs ?_; intro a11 c11 u11 ho11 hg11 hb11 hat11; have kn11 := kn10.grown hg11 hneK; have f6 := kn11.free 6; have n6' := kn11.cell 6 rfl)
          have kn12 : Box (u11.setCell ⟨K, 6, none⟩ (.slice a11 (j + 1) c11)) K 34 #[.int .i64 (y : Int), .int .i64 f, .int .i64 t, .int .i64 1, .int .i64 S, .slice a8 (j + 1) c8, .slice a11 (j + 1) c11] := kn11.set 6 _
          have kr12 := ((kr9.keep hb1).grown hg11 hne1).other (b2 := K) (i := 6) (.slice a11 (j + 1) c11) (by omega)
          have hoB12 := ho11.past plain_str (show K < K + 1 by omega) 6 (.slice a11 (j + 1) c11)
          have hoL12 := ((hoL9.keep hb1).beside plain_str apB6.symm hg11).past plain_str (show K < K + 1 by omega) 6 (.slice a11 (j + 1) c11)
          have hoV12 := ((hoV9.keep hb1).beside plain_bool apC9.symm hg11).past plain_bool (show K < K + 1 by omega) 6 (.slice a11 (j + 1) c11)
          have apB12 : Apart (.slice a6 (j + 1) c6) (.slice a11 (j + 1) c11) := (apB6.symm.grow (v1' := .slice a11 (j + 1) c11) (fun b hb => by have := hlL b hb; rw [hw0]; omega) hat11).symm
          have apC12 : Apart (.slice a8 (j + 1) c8) (.slice a11 (j + 1) c11) := (apC9.symm.grow (v1' := .slice a11 (j + 1) c11) (fun b hb => by have := hlV b hb; rw [hw0]; omega) hat11).symm
          have hB12 := bel_put (i := 6) ((bel_then hB9 hb1).trans (hb11.mono (show w.heap.size ≤ K + 1 by omega))) (show w.heap.size ≤ K by omega) (.slice a11 (j + 1) c11)
          have HR := hidL (And.intro kr12 (And.intro kn12 (And.intro hoL12 (And.intro hoV12 (And.intro hoB12 (And.intro apV9 (And.intro apB12 (And.intro apC12 hB12))))))))
          clear kn9 kn10 kn11 kn12 kr9 kr12 hoB9 hoL9 hoV9 ho11 hoB12 hoL12 hoV12 apB6 apB12 apC9 apC12 apV9 hB9 hB12 hb1 hs2 hs3 ho1 hw0 hw1 hlL hlV hneK hne1 hm1 hm2 hrs hg11 hb11 hat11 n6 n6' f6 hlk9
          go_roundw
          case rel =>
            have h9 := HR.out
            rw [← HL1.out, ← HR1.out, ← HS1.out] at h9
            exact ⟨j + 1, I + z, a6, c6, a8, c8, a11, c11, hjN, by go_num, by show I + z = _; rw [HI9.out, Nat.add_mul, Nat.one_mul], rfl, h9.1, h9.2.1, h9.2.2.1, h9.2.2.2.1, h9.2.2.2.2.1, h9.2.2.2.2.2.1, h9.2.2.2.2.2.2.1, h9.2.2.2.2.2.2.2.1, h9.2.2.2.2.2.2.2.2⟩
          case measure => simp [intOf]; omega
      · have hli : ¬ (I : Int) < (s.size : Int) := by omega
        obtain rfl : j = N := by have : ¬ j < N := fun h => hlt (hjm.1 h); omega
        have ht1 : L.take j = L := List.take_of_length_le (by rw [← HL.out, pieces_len, HN.out]; exact Nat.le_refl _)
        rw [ht1] at hoL
        rw [HHG.out.1] at hoV
        rw [HHG.out.2] at hoB
        have HO3 := hidL (And.intro hoL (And.intro hoV (And.intro hoB hbel)))
        have n0 := kn.cell 0 rfl; have n1 := kn.cell 1 rfl; have n2 := kn.cell 2 rfl; have n3 := kn.cell 3 rfl; have n4 := kn.cell 4 rfl; have n5 := kn.cell 5 rfl; have n6 := kn.cell 6 rfl
        have d0 := kr.cell 0 rfl; have d1 := kr.cell 1 rfl; have d2 := kr.cell 2 rfl; have d3 := kr.cell 3 rfl; have d4 := kr.cell 4 rfl; have d5 := kr.cell 5 rfl; have d6 := kr.cell 6 rfl
        have g0 := kr.free 0; have g1 := kr.free 1; have g2 := kr.free 2; have g3 := kr.free 3; have g4 := kr.free 4; have g5 := kr.free 5; have g6 := kr.free 6
        clear ht1 hoL hoV hoB hbel apV apB apC hjm
        go_wp2
        obtain ⟨hoL, hoV, hoB, hbel⟩ := HO3.out
        refine ret_three Try.underlying34 Try.infoMoveR rfl rfl rfl rfl rfl (kr.all7 _ _ _ _ _ _ _) rfl ?_
        exact ⟨bel_all7 hbel (by omega) _ _ _ _ _ _ _, va, j, vc, vb, vd, la, lc, rfl, Shape.any ((hoV.past7 plain_bool (by omega) _ _ _ _ _ _ _).top plain_bool), Shape.any ((hoB.past7 plain_str (by omega) _ _ _ _ _ _ _).top plain_str), Shape.any ((hoL.past7 plain_str (by omega) _ _ _ _ _ _ _).top plain_str)⟩

end Go.Proofs.Ytpfhjdlmjehfnaa

/- MoveBegins, with letters. -/
namespace Go.Proofs.Ytpfhjdlmjehfnaa
open Go.ChangeShapes Go.WideShapes Go.ChangeAt Go.RowKit



theorem Mq.num_le {n z : Nat} (hz : 1 ≤ z) (h : n ≤ 1000) : Ck.num n z ≤ 1000 := by
  rcases Nat.lt_or_ge 1000 (Ck.num n z) with h9 | h9
  · have h8 := (Ck.num_lt (n := n) (size := z) (by omega)).1 h9
    have := Nat.mul_le_mul_left 1000 hz
    omega
  · exact h9
theorem Mq.Begin.few {e : Int} {m : List (List Int)} {x f t : Int} {s : ByteArray} {k X F T P S : Int} {H : List Bool} {G L : List ByteArray} {E : Int} (h : Mq.Begin e m x f t s k X F T P S H G L E) (hs : s.size ≤ 1000) : H.length ≤ 1000 ∧ G.length ≤ 1000 ∧ L.length ≤ 1000 := by
  rcases h with ⟨_, _, _, _, _, _, rfl, rfl, rfl, _⟩ | ⟨_, _, _, _, _, _, _, rfl, rfl, rfl, _⟩ | ⟨ho, _, _, _, _, _, _, rfl, rfl, rfl, _⟩
  · exact ⟨by simp, by simp, by simp⟩
  · exact ⟨by simp, by simp, by simp⟩
  · have h9 := Mq.num_le (n := s.size) (z := k.toNat) (by have := ho.2.2.2.2.1; omega) hs
    exact ⟨by rw [List.length_replicate]; exact h9, by rw [List.length_replicate]; exact h9, by rw [pieces_len]; exact h9⟩

set_option maxRecDepth 100000 in
set_option maxHeartbeats 4000000 in
theorem lbegins (AW : ∀ u, Calls Try.prog 11 #[] u fun r w' => r = .returned (.bool true) ∧ Below u.heap.size u w') (e : Int) (a : Option Addr) (n c : Nat) (m : List (List Int)) (x f t : Int) (s : ByteArray) (k : Int) (w : World) (h : matS.rep w everywhere [.slice a n c] m) (hsl : s.size ≤ maxLen) :
    Calls Try.prog 3 #[.agg #[.int .i64 e, .slice a n c], .int .i64 x, .int .i64 f, .int .i64 t, .string s, .int .i64 k] w fun r w' => r = .returned (.bool true) ∧ Below w.heap.size w w' := by
  have HAW := hidL AW
  have hm63 : s.size ≤ 9223372036854775807 := hsl
  have hbn := new_bel w (.cells #[.int .i64 e, .slice a n c] 24)
  have kb0 := Box.new w 24 #[.int .i64 e, .slice a n c]
  have HMA : Hid (∀ u, Below w.heap.size w u → matS.rep u everywhere [.slice a n c] m) := fun u hu => Shape.below h hu
  have HSM : Hid (Calls _ _ _ _ _) := small a n c m everywhere _ (Shape.below h hbn)
  have HBN := hidL hbn
  clear h hbn AW
  go_enter Try.func3, Try.ntmps3
  go_upto_region 1 with fail
  generalize w.alloc (.cells #[.int .i64 e, .slice a n c] 24) = W at *
  have c0 := kb0.cell 0 rfl
  have c1 := kb0.cell 1 rfl
  by_cases h3 : 300 < s.size
  · have h3i : (300 : Int) < (s.size : Int) := by omega
    go_wp2_with fail
    refine HSM.out.mono ?_
    rintro r W1 ⟨⟨bb, rfl, hbb⟩, h9⟩
    replace h9 := h9.symm
    subst h9
    clear hbb HSM
    cases bb
    all_goals
      go_wp2_with (go_at_call 11; refine (HAW.out _).mono ?_; rintro r WZ ⟨rfl, hbz⟩)
      go_ret
      exact ⟨rfl, bel_then (HBN.out) hbz⟩
  have h3i : ¬ (300 : Int) < (s.size : Int) := by omega
  go_wp2_with fail
  refine HSM.out.mono ?_
  rintro r W1 ⟨⟨bb, rfl, hbb⟩, h9⟩
  replace h9 := h9.symm
  subst h9
  clear HSM
  cases bb with
  | false =>
    go_wp2_with (go_at_call 11; refine (HAW.out _).mono ?_; rintro r WZ ⟨rfl, hbz⟩)
    go_ret
    exact ⟨rfl, bel_then (HBN.out) hbz⟩
  | true =>
    have HZ := hidL (Ex.small_sized (hbb.1 rfl))
    obtain ⟨X, F9, T9, P, S, H, G, L, E, hI⟩ := Mq.begin_there e m x f t s k
    have hfew := hI.few (by omega)
    have HC1 : Hid (Calls _ _ _ _ _) := mbegin e a n c m x f t s k X F9 T9 P S H G L E W (HMA.out _ HBN.out) HZ.out (by omega) hI
    have HI := hidL hI
    clear hbb hI
    go_wp2_with fail
    refine HC1.out.mono ?_
    rintro r u1 ⟨hb1, ha, nh, hc, ga, gc, la, lc, rfl, hH, hG, hL⟩
    have hbn := new_bel u1 (.cells #[.int .i64 X, .int .i64 F9, .int .i64 T9, .int .i64 P, .int .i64 S, .slice ha nh hc, .slice ga nh gc] 30)
    have kb1 := (kb0.keep hb1).keep hbn
    have km1 := Box.new u1 30 #[.int .i64 X, .int .i64 F9, .int .i64 T9, .int .i64 P, .int .i64 S, .slice ha nh hc, .slice ga nh gc]
    have HB1 := hidL (bel_then (bel_then HBN.out hb1) hbn)
    have hH1 := Shape.any (Shape.below hH hbn)
    have hG1 := Shape.any (Shape.below hG hbn)
    have hL1 := Shape.any (Shape.below hL hbn)
    clear hH hG hL hb1 hbn kb0 c0 c1 HC1
    have c0 := kb1.cell 0 rfl
    have c1 := kb1.cell 1 rfl
    have HC2 : Hid (Calls _ _ _ _ _) := rbegin e a n c m x f t s k X F9 T9 P S H G L E _ (HMA.out _ HB1.out) HZ.out (by omega) HI.out
    go_wp2_with fail
    generalize u1.alloc (.cells #[.int .i64 X, .int .i64 F9, .int .i64 T9, .int .i64 P, .int .i64 S, .slice ha nh hc, .slice ga nh gc] 30) = W1 at *
    generalize u1.heap.size = B1 at *
    refine HC2.out.mono ?_
    rintro r u2 ⟨hb2, ia, nh2, ic, ja, jc, ka, kc, rfl, iH, iG, iL⟩
    obtain rfl : nh = nh2 := by rw [← (sliceS_len hH1).1]; exact (sliceS_len iH).1
    have hbn := new_bel u2 (.cells #[.int .i64 X, .int .i64 F9, .int .i64 T9, .int .i64 P, .int .i64 S, .slice ia nh ic, .slice ja nh jc] 34)
    have km2 := (km1.keep hb2).keep hbn
    have kn2 := Box.new u2 34 #[.int .i64 X, .int .i64 F9, .int .i64 T9, .int .i64 P, .int .i64 S, .slice ia nh ic, .slice ja nh jc]
    have hb3 := bel_then hb2 hbn
    have HB2 := hidL (bel_then HB1.out hb3)
    have hH2 := Shape.below hH1 hb3
    have hG2 := Shape.below hG1 hb3
    have hL2 := Shape.below hL1 hb3
    have iH2 := Shape.below iH hbn
    have iG2 := Shape.below iG hbn
    have iL2 := Shape.below iL hbn
    have hnh : nh ≤ 1000 := by rw [← (sliceS_len hH1).1]; exact hfew.1
    obtain ⟨W2, hW2⟩ : ∃ V, V = u2.alloc (.cells #[.int .i64 X, .int .i64 F9, .int .i64 T9, .int .i64 P, .int .i64 S, .slice ia nh ic, .slice ja nh jc] 34) := ⟨_, rfl⟩
    have HW2 := hidL hW2
    rw [← hW2] at km2 kn2 HB2 hH2 hG2 hL2 iH2 iG2 iL2
    have hne9 : Nonempty (Later W2) := Later.there W2
    have d0 : ∀ x : Later W2, x.u.cell? ⟨B1, 0, none⟩ = _ := fun x => x.cell (km2.cell 0 rfl)
    have d1 : ∀ x : Later W2, x.u.cell? ⟨B1, 1, none⟩ = _ := fun x => x.cell (km2.cell 1 rfl)
    have d2 : ∀ x : Later W2, x.u.cell? ⟨B1, 2, none⟩ = _ := fun x => x.cell (km2.cell 2 rfl)
    have d3 : ∀ x : Later W2, x.u.cell? ⟨B1, 3, none⟩ = _ := fun x => x.cell (km2.cell 3 rfl)
    have d4 : ∀ x : Later W2, x.u.cell? ⟨B1, 4, none⟩ = _ := fun x => x.cell (km2.cell 4 rfl)
    have d5 : ∀ x : Later W2, x.u.cell? ⟨B1, 5, none⟩ = _ := fun x => x.cell (km2.cell 5 rfl)
    have d6 : ∀ x : Later W2, x.u.cell? ⟨B1, 6, none⟩ = _ := fun x => x.cell (km2.cell 6 rfl)
    have e0 : ∀ x : Later W2, x.u.cell? ⟨u2.heap.size, 0, none⟩ = _ := fun x => x.cell (kn2.cell 0 rfl)
    have e1 : ∀ x : Later W2, x.u.cell? ⟨u2.heap.size, 1, none⟩ = _ := fun x => x.cell (kn2.cell 1 rfl)
    have e2 : ∀ x : Later W2, x.u.cell? ⟨u2.heap.size, 2, none⟩ = _ := fun x => x.cell (kn2.cell 2 rfl)
    have e3 : ∀ x : Later W2, x.u.cell? ⟨u2.heap.size, 3, none⟩ = _ := fun x => x.cell (kn2.cell 3 rfl)
    have e4 : ∀ x : Later W2, x.u.cell? ⟨u2.heap.size, 4, none⟩ = _ := fun x => x.cell (kn2.cell 4 rfl)
    have e5 : ∀ x : Later W2, x.u.cell? ⟨u2.heap.size, 5, none⟩ = _ := fun x => x.cell (kn2.cell 5 rfl)
    have e6 : ∀ x : Later W2, x.u.cell? ⟨u2.heap.size, 6, none⟩ = _ := fun x => x.cell (kn2.cell 6 rfl)
    have HRF : Hid (∀ x : Later W2, Calls Try.prog 15 _ x.u _) := fun x => mref X F9 T9 P S ha nh hc ga nh gc x.u
    have HSA : Hid (∀ x : Later W2, Calls Try.prog 14 _ x.u _) := fun x => msame X F9 T9 P S ha nh hc ga nh gc H G ia ic ja jc x.u (Shape.below hH2 x.h) (Shape.below hG2 x.h) (Shape.below iH2 x.h) (Shape.below iG2 x.h) (by omega) (by omega)
    have HSB : Hid (∀ x : Later W2, Calls Try.prog 16 #[.slice la nh lc, .slice ka nh kc] x.u fun r w' => r = .returned (.bool true) ∧ Below x.u.heap.size x.u w') := fun x => (rsame la nh lc L ka nh kc L x.u (Shape.below hL2 x.h) (Shape.below iL2 x.h) (by omega)).mono fun _ _ ⟨h1, h2⟩ => ⟨h1.is rfl, h2⟩
    have HAX : Hid (∀ x : Later W2, Calls Try.prog 11 #[] x.u fun r w' => r = .returned (.bool true) ∧ Below x.u.heap.size x.u w') := fun x => HAW.out x.u
    have qe : (E == E) = true := by simp
    clear km1 km2 kn2 kb1 c0 c1 hH1 hG1 hL1 hH2 hG2 hL2 iH iG iL iH2 iG2 iL2 hb2 hbn hb3 hW2 HC2 hfew
    go_wp2
    rw [← HW2.out]
    refine region_later (by kernel_rfl) (by kernel_rfl) ?_
    repeat (go_big_quiet_step (first
      | (go_at_call 15; with_reducible exact Later.call (HRF.out _))
      | (go_at_call 14; with_reducible exact Later.call (HSA.out _))
      | (go_at_call 16; with_reducible exact Later.call (HSB.out _))
      | (go_at_call 11; with_reducible exact Later.call (HAX.out _))))
    refine wpQuiet_nil ?_
    intro x9
    obtain ⟨W9, hb9⟩ := x9
    go_wp2
    go_ret
    exact ⟨rfl, bel_then HB2.out hb9⟩

end Go.Proofs.Ytpfhjdlmjehfnaa
