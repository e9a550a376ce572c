/- What the document's Hot and Cold of layer 21 do when called (written by wip/tools/mk-ldc.py). -/
import Derived.Test.YtpldfalnoaamkaaLdB
import Derived.OwnWalk
namespace Go.Proofs.Ytpldfalnoaamkaa
open Go.ChangeShapes Go.WideShapes Go.ChangeAt Go.RowKit

set_option maxRecDepth 100000 in
set_option maxHeartbeats 4000000 in
theorem rHot (b0 : Option Addr) (n0 c0 : Nat) (l : List Int) (e : Int) (a : Option Addr) (n c : Nat) (m : List (List Int)) (bd X N : Int) (B : Bool) (w : World) (hr : Row .i64 w b0 n0 l) (hn0 : n0 ≤ 100000) (h : matS.rep w everywhere [.slice a n c] m) (hz : Ex.Sized m) (hI : Ld.Hot l e m bd X N B) :
    Calls Try.prog 20 #[.slice b0 n0 c0, .agg #[.int .i64 e, .slice a n c], .int .i64 bd] w fun r w' => r = .returned (.tuple #[.int .i64 X, .int .i64 N, .bool B]) ∧ Below w.heap.size w w' := by
  have HL : Hid (m.length = n) := (sliceS_len h).1
  have HA : Hid (matS.rep w (· < w.heap.size) [.slice a n c] m) := Shape.low h
  have hbn := new_bel w (.cells #[.int .i64 e, .slice a n c] 33)
  have kb := Box.new w 33 #[.int .i64 e, .slice a n c]
  have HRI : Hid (Calls _ _ _ _ _) := qright e a n c m _ (Shape.below h hbn) hz
  have HI := hidL (hI)
  have hn : n ≤ 100000 := by have := hz.1; have := HL.out; omega
  have HZ : Hid (Ex.Sized m) := hz
  have HIN : Hid (∀ (y : Nat) (B : Bool) (u : World), m.length ≤ 8 → (1 ≤ bd ∧ bd ≤ 2147483647) → y < n → Below w.heap.size w u → (B = true ↔ Ld.HotAt l m bd y) → Calls Try.prog 31 #[.slice b0 n0 c0, .agg #[.int .i64 e, .slice a n c], .int .i64 bd, .int .i64 y] u fun r w' => r = .returned (.bool B) ∧ Below u.heap.size u w') := fun y B u h8 hh hy hu hB => rhot b0 n0 c0 l e a n c m bd y B u (hr.keep hu) hn0 (Shape.below h hu) hz h8 hh hy hB
  have HCT : Hid (∀ (y : Nat) (v : Int) (u : World), Ld.count l (y : Int) = v → Below w.heap.size w u → Calls Try.prog 13 #[.slice b0 n0 c0, .int .i64 y] u fun r w' => r = .returned (.int .i64 v) ∧ w' = u) := fun y v u hv hu => by rw [← hv]; exact rcount b0 n0 c0 l y u (hr.keep hu) hn0
  have HND : Hid (∀ (y : Nat) (u : World), m.length ≤ 8 → y < n → Below w.heap.size w u → Ld.Node m (m.getD y []) N → Calls Try.prog 32 #[.agg #[.int .i64 e, .slice a n c], .int .i64 y] u fun r w' => r = .returned (.int .i64 N) ∧ Below u.heap.size u w') := fun y u h8 hy hu hN => rnode e a n c m y N u (Shape.below h hu) hz h8 hy hN
  have c0x := kb.cell 0 rfl
  have c1x := kb.cell 1 rfl
  have KB := hidL (kb)
  clear h hz hI hr kb hn0
  go_enter Try.func20, Try.ntmps20
  go_wp2_with fail
  refine HRI.out.mono ?_
  rintro r W1 ⟨⟨bb, rfl, hbb⟩, hb1⟩
  have hbel := bel_then hbn hb1
  have kb1 := KB.out.keep hb1
  clear hbn hb1 c0x c1x HRI KB
  have cc0 := kb1.cell 0 rfl
  have cc1 := kb1.cell 1 rfl
  cases bb with
  | false =>
    obtain ⟨rfl, rfl, rfl⟩ := HI.out.no (fun k => by have h9 := hbb.2 k.1.1; cases h9)
    go_wp2
    go_ret3
    exact ⟨rfl, hbel⟩
  | true =>
    have hR : Pl.Right e m := hbb.1 rfl
    clear hbb
    by_cases d1 : bd < 1
    · obtain ⟨rfl, rfl, rfl⟩ := HI.out.no (fun k => by have h9 := k.1.2; omega)
      go_wp2
      go_ret3
      exact ⟨rfl, hbel⟩
    by_cases d2 : 2147483647 < bd
    · obtain ⟨rfl, rfl, rfl⟩ := HI.out.no (fun k => by have h9 := k.1.2; omega)
      go_wp2
      go_ret3
      exact ⟨rfl, hbel⟩
    have HF : Hid (Ld.Fair e m bd) := ⟨hR, by omega, by omega⟩
    obtain ⟨H, hH⟩ : ∃ H : Nat → Bool, ∀ y, H y = true ↔ Ld.HotAt l m bd y := ⟨fun y => @decide (Ld.HotAt l m bd y) (Classical.propDecidable _), fun y => @decide_eq_true_iff _ (Classical.propDecidable _)⟩
    have HH := hidL (hH)
    obtain ⟨f, hf⟩ : ∃ f : Nat → Int, f = fun y : Nat => Ld.count l (y : Int) := ⟨_, rfl⟩
    have HFF := hidL (hf)
    have HHOT : Hid (∀ (y : Nat) (u : World), y < n → Below w.heap.size w u → Calls Try.prog 31 #[.slice b0 n0 c0, .agg #[.int .i64 e, .slice a n c], .int .i64 bd, .int .i64 y] u fun r w' => r = .returned (.bool (H y)) ∧ Below u.heap.size u w') := fun y u hy hu => HIN.out y (H y) u hR.2.1 ⟨by omega, by omega⟩ hy hu (hH y)
    clear hH hR hf HIN
    go_wp2
    clear cc0 cc1
    go_loopw [9] (fun v wr => ∃ k : Nat, k ≤ n ∧ v = .int .i64 k ∧ Box wr w.heap.size 33 #[.int .i64 e, .slice a n c] ∧ Below w.heap.size w wr ∧ Hid (∀ y, y < k → ¬ Ld.First (Ld.HotAt l m bd) f y)) (fun v _ => n - (intOf v).toNat)
    case atStart => exact ⟨0, Nat.zero_le _, rfl, kb1, hbel, fun y hy => absurd hy (Nat.not_lt_zero _)⟩
    case round =>
      clear kb1 hbel
      obtain ⟨k, hk, rfl, kb, hbel, HK⟩ := hrel
      have cc0 := kb.cell 0 rfl
      have cc1 := kb.cell 1 rfl
      by_cases hlt : k < n
      · have hki : (k : Int) < (n : Int) := by omega
        have HLT : Hid (k < n) := hlt
        go_wp2_with fail
        refine (HHOT.out k wr hlt hbel).mono ?_
        rintro r W2 ⟨rfl, hb2⟩
        have kb2 := kb.keep hb2
        have hbel2 := bel_then hbel hb2
        clear kb hbel cc0 cc1 hb2
        have HHK : Hid (H k = true ↔ Ld.HotAt l m bd k) := HH.out k
        obtain ⟨hk0, hhk0⟩ : ∃ hk0, H k = hk0 := ⟨_, rfl⟩
        rw [hhk0] at HHK ⊢
        clear hhk0
        go_wp2
        go_loopw [10, 11] (fun fv v wq => ∃ (j : Nat) (F : Bool), j ≤ n ∧ fv = .bool F ∧ v = .int .i64 j ∧ Box wq w.heap.size 33 #[.int .i64 e, .slice a n c] ∧ Below w.heap.size w wq ∧ Hid (F = true ↔ Ld.HotAt l m bd k ∧ ∀ y, y < j → Ld.HotAt l m bd y → f y < f k ∨ f y = f k ∧ k ≤ y)) (fun _ v _ => n - (intOf v).toNat)
        case atStart => exact ⟨0, hk0, Nat.zero_le _, rfl, rfl, kb2, hbel2, by
          show _ ↔ _
          rw [HHK.out]
          exact ⟨fun h => ⟨h, fun y hy => absurd hy (Nat.not_lt_zero _)⟩, fun h => h.1⟩⟩
        case round =>
          clear kb2 hbel2
          obtain ⟨j, F, hj, rfl, rfl, kb, hbel, HJ⟩ := hrel
          have cc0 := kb.cell 0 rfl
          have cc1 := kb.cell 1 rfl
          by_cases hjlt : j < n
          · have hji : (j : Int) < (n : Int) := by omega
            go_wp2_with fail
            refine (HHOT.out j wr hjlt hbel).mono ?_
            rintro r W4 ⟨rfl, hb4⟩
            have kb4 := kb.keep hb4
            have hbel4 := bel_then hbel hb4
            clear kb hbel cc0 cc1 hb4
            have HHJ : Hid (H j = true ↔ Ld.HotAt l m bd j) := HH.out j
            obtain ⟨hj0, hhj0⟩ : ∃ hj0, H j = hj0 := ⟨_, rfl⟩
            rw [hhj0] at HHJ ⊢
            clear hhj0
            obtain ⟨cj, hcj⟩ : ∃ cj, Ld.count l (j : Int) = cj := ⟨_, rfl⟩
            obtain ⟨ck, hck⟩ : ∃ ck, Ld.count l (k : Int) = ck := ⟨_, rfl⟩
            have HCJ : Hid (Calls _ _ _ _ _) := HCT.out j cj W4 hcj hbel4
            have HCK : Hid (Calls _ _ _ _ _) := HCT.out k ck W4 hck hbel4
            have HFJ : Hid (f j = cj) := by show _ = _; rw [HFF.out, ← hcj]
            have HFK : Hid (f k = ck) := by show _ = _; rw [HFF.out, ← hck]
            clear hcj hck
            have HKEEP : Hid ((Ld.HotAt l m bd j → f j < f k ∨ f j = f k ∧ k ≤ j) → (F = true ↔ Ld.HotAt l m bd k ∧ ∀ y, y < j + 1 → Ld.HotAt l m bd y → f y < f k ∨ f y = f k ∧ k ≤ y)) := fun h9 => by
              rw [HJ.out]
              refine ⟨fun h => ⟨h.1, fun y hy hP => ?_⟩, fun h => ⟨h.1, fun y hy hP => h.2 y (by omega) hP⟩⟩
              by_cases hyj : y = j
              · subst hyj; exact h9 hP
              · exact h.2 y (by omega) hP
            have HDROP : Hid ((Ld.HotAt l m bd j ∧ ¬ (f j < f k ∨ f j = f k ∧ k ≤ j)) → (false = true ↔ Ld.HotAt l m bd k ∧ ∀ y, y < j + 1 → Ld.HotAt l m bd y → f y < f k ∨ f y = f k ∧ k ≤ y)) := fun h9 => ⟨fun h => (by cases h), fun h => absurd (h.2 j (by omega) h9.1) h9.2⟩
            clear HJ
            cases hj0 with
            | false =>
              have HNO : Hid (¬ Ld.HotAt l m bd j) := fun h9 => by have := HHJ.out.2 h9; cases this
              go_wp2
              go_roundw
              case rel => exact ⟨j + 1, F, by omega, rfl, by go_num, kb4, hbel4, HKEEP.out (fun h9 => absurd h9 HNO.out)⟩
              case measure => simp [intOf]; omega
            | true =>
              have HYES : Hid (Ld.HotAt l m bd j) := HHJ.out.1 rfl
              by_cases g1 : ck < cj
              · have HD9 := hidL (HDROP.out ⟨HYES.out, by rw [HFJ.out, HFK.out]; omega⟩)
                go_wp2_with fail
                refine HCJ.out.mono ?_
                rintro r u5 ⟨rfl, h5⟩
                subst h5
                go_wp2_with fail
                refine HCK.out.mono ?_
                rintro r u5 ⟨rfl, h5⟩
                subst h5
                go_wp2
                go_roundw
                case rel => exact ⟨j + 1, false, by omega, rfl, by go_num, kb4, hbel4, by first | exact HD9.out | simpa using HD9.out⟩
                case measure => simp [intOf]; omega
              · by_cases g2 : cj = ck
                · have e1 : (cj == ck) = true := by simpa using g2
                  by_cases g3 : j < k
                  · have g3i : (j : Int) < (k : Int) := by omega
                    have HD9 := hidL (HDROP.out ⟨HYES.out, by rw [HFJ.out, HFK.out]; omega⟩)
                    clear g2
                    go_wp2_with fail
                    refine HCJ.out.mono ?_
                    rintro r u5 ⟨rfl, h5⟩
                    subst h5
                    go_wp2_with fail
                    refine HCK.out.mono ?_
                    rintro r u5 ⟨rfl, h5⟩
                    subst h5
                    go_wp2_with fail
                    refine HCJ.out.mono ?_
                    rintro r u5 ⟨rfl, h5⟩
                    subst h5
                    go_wp2_with fail
                    refine HCK.out.mono ?_
                    rintro r u5 ⟨rfl, h5⟩
                    subst h5
                    go_wp2
                    go_roundw
                    case rel => exact ⟨j + 1, false, by omega, rfl, by go_num, kb4, hbel4, by first | exact HD9.out | simpa using HD9.out⟩
                    case measure => simp [intOf]; omega
                  · have g3i : ¬ (j : Int) < (k : Int) := by omega
                    have HK9 := hidL (HKEEP.out (fun _ => by rw [HFJ.out, HFK.out]; omega))
                    clear g2
                    go_wp2_with fail
                    refine HCJ.out.mono ?_
                    rintro r u5 ⟨rfl, h5⟩
                    subst h5
                    go_wp2_with fail
                    refine HCK.out.mono ?_
                    rintro r u5 ⟨rfl, h5⟩
                    subst h5
                    go_wp2_with fail
                    refine HCJ.out.mono ?_
                    rintro r u5 ⟨rfl, h5⟩
                    subst h5
                    go_wp2_with fail
                    refine HCK.out.mono ?_
                    rintro r u5 ⟨rfl, h5⟩
                    subst h5
                    go_wp2
                    go_roundw
                    case rel => exact ⟨j + 1, F, by omega, rfl, by go_num, kb4, hbel4, HK9.out⟩
                    case measure => simp [intOf]; omega
                · have e1 : (cj == ck) = false := by simpa using g2
                  have HK9 := hidL (HKEEP.out (fun _ => by rw [HFJ.out, HFK.out]; omega))
                  clear g2
                  go_wp2_with fail
                  refine HCJ.out.mono ?_
                  rintro r u5 ⟨rfl, h5⟩
                  subst h5
                  go_wp2_with fail
                  refine HCK.out.mono ?_
                  rintro r u5 ⟨rfl, h5⟩
                  subst h5
                  go_wp2_with fail
                  refine HCJ.out.mono ?_
                  rintro r u5 ⟨rfl, h5⟩
                  subst h5
                  go_wp2_with fail
                  refine HCK.out.mono ?_
                  rintro r u5 ⟨rfl, h5⟩
                  subst h5
                  go_wp2
                  go_roundw
                  case rel => exact ⟨j + 1, F, by omega, rfl, by go_num, kb4, hbel4, HK9.out⟩
                  case measure => simp [intOf]; omega
          · have hjn : j = n := by omega
            subst hjn
            have hji : ¬ (j : Int) < (j : Int) := by omega
            cases F with
            | true =>
              have hT := HJ.out.1 rfl
              have hfi : Ld.First (Ld.HotAt l m bd) f k := ⟨hT.1, fun y hy => hT.2 y (by have := hy.1; have := HL.out; omega) hy⟩
              rw [HFF.out] at hfi
              obtain ⟨rfl, hNode, rfl⟩ := HI.out.at HF.out hfi
              clear hfi hT HJ
              have HN9 : Hid (Calls _ _ _ _ _) := HND.out k wr HF.out.1.2.1 HLT.out hbel hNode
              clear hNode
              go_wp2_with fail
              refine HN9.out.mono ?_
              rintro r W6 ⟨rfl, hb6⟩
              go_wp2
              go_ret3
              exact ⟨rfl, bel_then hbel hb6⟩
            | false =>
              have HNF : Hid (¬ Ld.First (Ld.HotAt l m bd) f k) := fun h9 => by
                have := HJ.out.2 ⟨h9.1, fun y _ hP => h9.2 y hP⟩
                cases this
              clear HJ
              go_wp2
              go_roundw
              case rel =>
                refine ⟨k + 1, by omega, by go_num, kb, hbel, fun y hy => ?_⟩
                rcases Nat.lt_succ_iff_lt_or_eq.1 hy with h5 | rfl
                · exact HK.out y h5
                · exact HNF.out
              case measure => simp [intOf]; omega
      · have hkn : k = n := by omega
        subst hkn
        have hki : ¬ (k : Int) < (k : Int) := by omega
        obtain ⟨rfl, rfl, rfl⟩ := HI.out.no (fun h9 => by
          obtain ⟨_, x, hx⟩ := h9
          rw [← HFF.out] at hx
          exact HK.out x (by have := hx.1.1; have := HL.out; omega) hx)
        go_wp2
        go_ret3
        exact ⟨rfl, hbel⟩
set_option maxRecDepth 100000 in
set_option maxHeartbeats 4000000 in
theorem rCold (b0 : Option Addr) (n0 c0 : Nat) (l : List Int) (e : Int) (a : Option Addr) (n c : Nat) (m : List (List Int)) (bd X N : Int) (B : Bool) (w : World) (hr : Row .i64 w b0 n0 l) (hn0 : n0 ≤ 100000) (h : matS.rep w everywhere [.slice a n c] m) (hz : Ex.Sized m) (hI : Ld.Cold l e m bd X N B) :
    Calls Try.prog 21 #[.slice b0 n0 c0, .agg #[.int .i64 e, .slice a n c], .int .i64 bd] w fun r w' => r = .returned (.tuple #[.int .i64 X, .int .i64 N, .bool B]) ∧ Below w.heap.size w w' := by
  have HL : Hid (m.length = n) := (sliceS_len h).1
  have HA : Hid (matS.rep w (· < w.heap.size) [.slice a n c] m) := Shape.low h
  have hbn := new_bel w (.cells #[.int .i64 e, .slice a n c] 33)
  have kb := Box.new w 33 #[.int .i64 e, .slice a n c]
  have HRI : Hid (Calls _ _ _ _ _) := qright e a n c m _ (Shape.below h hbn) hz
  have HI := hidL (hI)
  have hn : n ≤ 100000 := by have := hz.1; have := HL.out; omega
  have HZ : Hid (Ex.Sized m) := hz
  have HIN : Hid (∀ (y : Nat) (B : Bool) (u : World), m.length ≤ 8 → (1 ≤ bd ∧ bd ≤ 2147483647) → y < n → Below w.heap.size w u → (B = true ↔ Ld.ColdAt l m bd y) → Calls Try.prog 33 #[.slice b0 n0 c0, .agg #[.int .i64 e, .slice a n c], .int .i64 bd, .int .i64 y] u fun r w' => r = .returned (.bool B) ∧ Below u.heap.size u w') := fun y B u h8 hh hy hu hB => rcold b0 n0 c0 l e a n c m bd y B u (hr.keep hu) hn0 (Shape.below h hu) hz hh hy hB
  have HCT : Hid (∀ (y : Nat) (v : Int) (u : World), Ld.count l (y : Int) = v → Below w.heap.size w u → Calls Try.prog 13 #[.slice b0 n0 c0, .int .i64 y] u fun r w' => r = .returned (.int .i64 v) ∧ w' = u) := fun y v u hv hu => by rw [← hv]; exact rcount b0 n0 c0 l y u (hr.keep hu) hn0
  have c0x := kb.cell 0 rfl
  have c1x := kb.cell 1 rfl
  have KB := hidL (kb)
  clear h hz hI hr kb hn0
  go_enter Try.func21, Try.ntmps21
  go_wp2_with fail
  refine HRI.out.mono ?_
  rintro r W1 ⟨⟨bb, rfl, hbb⟩, hb1⟩
  have hbel := bel_then hbn hb1
  have kb1 := KB.out.keep hb1
  clear hbn hb1 c0x c1x HRI KB
  have cc0 := kb1.cell 0 rfl
  have cc1 := kb1.cell 1 rfl
  cases bb with
  | false =>
    obtain ⟨rfl, rfl, rfl⟩ := HI.out.no (fun k => by have h9 := hbb.2 k.1.1; cases h9)
    go_wp2
    go_ret3
    exact ⟨rfl, hbel⟩
  | true =>
    have hR : Pl.Right e m := hbb.1 rfl
    clear hbb
    by_cases d1 : bd < 1
    · obtain ⟨rfl, rfl, rfl⟩ := HI.out.no (fun k => by have h9 := k.1.2; omega)
      go_wp2
      go_ret3
      exact ⟨rfl, hbel⟩
    by_cases d2 : 2147483647 < bd
    · obtain ⟨rfl, rfl, rfl⟩ := HI.out.no (fun k => by have h9 := k.1.2; omega)
      go_wp2
      go_ret3
      exact ⟨rfl, hbel⟩
    have HF : Hid (Ld.Fair e m bd) := ⟨hR, by omega, by omega⟩
    obtain ⟨H, hH⟩ : ∃ H : Nat → Bool, ∀ y, H y = true ↔ Ld.ColdAt l m bd y := ⟨fun y => @decide (Ld.ColdAt l m bd y) (Classical.propDecidable _), fun y => @decide_eq_true_iff _ (Classical.propDecidable _)⟩
    have HH := hidL (hH)
    obtain ⟨f, hf⟩ : ∃ f : Nat → Int, f = fun y : Nat => -Ld.count l (y : Int) := ⟨_, rfl⟩
    have HFF := hidL (hf)
    have HHOT : Hid (∀ (y : Nat) (u : World), y < n → Below w.heap.size w u → Calls Try.prog 33 #[.slice b0 n0 c0, .agg #[.int .i64 e, .slice a n c], .int .i64 bd, .int .i64 y] u fun r w' => r = .returned (.bool (H y)) ∧ Below u.heap.size u w') := fun y u hy hu => HIN.out y (H y) u hR.2.1 ⟨by omega, by omega⟩ hy hu (hH y)
    clear hH hR hf HIN
    go_wp2
    clear cc0 cc1
    go_loopw [9] (fun v wr => ∃ k : Nat, k ≤ n ∧ v = .int .i64 k ∧ Box wr w.heap.size 33 #[.int .i64 e, .slice a n c] ∧ Below w.heap.size w wr ∧ Hid (∀ y, y < k → ¬ Ld.First (Ld.ColdAt l m bd) f y)) (fun v _ => n - (intOf v).toNat)
    case atStart => exact ⟨0, Nat.zero_le _, rfl, kb1, hbel, fun y hy => absurd hy (Nat.not_lt_zero _)⟩
    case round =>
      clear kb1 hbel
      obtain ⟨k, hk, rfl, kb, hbel, HK⟩ := hrel
      have cc0 := kb.cell 0 rfl
      have cc1 := kb.cell 1 rfl
      by_cases hlt : k < n
      · have hki : (k : Int) < (n : Int) := by omega
        have HLT : Hid (k < n) := hlt
        go_wp2_with fail
        refine (HHOT.out k wr hlt hbel).mono ?_
        rintro r W2 ⟨rfl, hb2⟩
        have kb2 := kb.keep hb2
        have hbel2 := bel_then hbel hb2
        clear kb hbel cc0 cc1 hb2
        have HHK : Hid (H k = true ↔ Ld.ColdAt l m bd k) := HH.out k
        obtain ⟨hk0, hhk0⟩ : ∃ hk0, H k = hk0 := ⟨_, rfl⟩
        rw [hhk0] at HHK ⊢
        clear hhk0
        go_wp2
        go_loopw [10, 11] (fun fv v wq => ∃ (j : Nat) (F : Bool), j ≤ n ∧ fv = .bool F ∧ v = .int .i64 j ∧ Box wq w.heap.size 33 #[.int .i64 e, .slice a n c] ∧ Below w.heap.size w wq ∧ Hid (F = true ↔ Ld.ColdAt l m bd k ∧ ∀ y, y < j → Ld.ColdAt l m bd y → f y < f k ∨ f y = f k ∧ k ≤ y)) (fun _ v _ => n - (intOf v).toNat)
        case atStart => exact ⟨0, hk0, Nat.zero_le _, rfl, rfl, kb2, hbel2, by
          show _ ↔ _
          rw [HHK.out]
          exact ⟨fun h => ⟨h, fun y hy => absurd hy (Nat.not_lt_zero _)⟩, fun h => h.1⟩⟩
        case round =>
          clear kb2 hbel2
          obtain ⟨j, F, hj, rfl, rfl, kb, hbel, HJ⟩ := hrel
          have cc0 := kb.cell 0 rfl
          have cc1 := kb.cell 1 rfl
          by_cases hjlt : j < n
          · have hji : (j : Int) < (n : Int) := by omega
            go_wp2_with fail
            refine (HHOT.out j wr hjlt hbel).mono ?_
            rintro r W4 ⟨rfl, hb4⟩
            have kb4 := kb.keep hb4
            have hbel4 := bel_then hbel hb4
            clear kb hbel cc0 cc1 hb4
            have HHJ : Hid (H j = true ↔ Ld.ColdAt l m bd j) := HH.out j
            obtain ⟨hj0, hhj0⟩ : ∃ hj0, H j = hj0 := ⟨_, rfl⟩
            rw [hhj0] at HHJ ⊢
            clear hhj0
            obtain ⟨cj, hcj⟩ : ∃ cj, Ld.count l (j : Int) = cj := ⟨_, rfl⟩
            obtain ⟨ck, hck⟩ : ∃ ck, Ld.count l (k : Int) = ck := ⟨_, rfl⟩
            have HCJ : Hid (Calls _ _ _ _ _) := HCT.out j cj W4 hcj hbel4
            have HCK : Hid (Calls _ _ _ _ _) := HCT.out k ck W4 hck hbel4
            have HFJ : Hid (f j = -cj) := by show _ = _; rw [HFF.out, ← hcj]
            have HFK : Hid (f k = -ck) := by show _ = _; rw [HFF.out, ← hck]
            clear hcj hck
            have HKEEP : Hid ((Ld.ColdAt l m bd j → f j < f k ∨ f j = f k ∧ k ≤ j) → (F = true ↔ Ld.ColdAt l m bd k ∧ ∀ y, y < j + 1 → Ld.ColdAt l m bd y → f y < f k ∨ f y = f k ∧ k ≤ y)) := fun h9 => by
              rw [HJ.out]
              refine ⟨fun h => ⟨h.1, fun y hy hP => ?_⟩, fun h => ⟨h.1, fun y hy hP => h.2 y (by omega) hP⟩⟩
              by_cases hyj : y = j
              · subst hyj; exact h9 hP
              · exact h.2 y (by omega) hP
            have HDROP : Hid ((Ld.ColdAt l m bd j ∧ ¬ (f j < f k ∨ f j = f k ∧ k ≤ j)) → (false = true ↔ Ld.ColdAt l m bd k ∧ ∀ y, y < j + 1 → Ld.ColdAt l m bd y → f y < f k ∨ f y = f k ∧ k ≤ y)) := fun h9 => ⟨fun h => (by cases h), fun h => absurd (h.2 j (by omega) h9.1) h9.2⟩
            clear HJ
            cases hj0 with
            | false =>
              have HNO : Hid (¬ Ld.ColdAt l m bd j) := fun h9 => by have := HHJ.out.2 h9; cases this
              go_wp2
              go_roundw
              case rel => exact ⟨j + 1, F, by omega, rfl, by go_num, kb4, hbel4, HKEEP.out (fun h9 => absurd h9 HNO.out)⟩
              case measure => simp [intOf]; omega
            | true =>
              have HYES : Hid (Ld.ColdAt l m bd j) := HHJ.out.1 rfl
              by_cases g1 : cj < ck
              · have HD9 := hidL (HDROP.out ⟨HYES.out, by rw [HFJ.out, HFK.out]; omega⟩)
                go_wp2_with fail
                refine HCJ.out.mono ?_
                rintro r u5 ⟨rfl, h5⟩
                subst h5
                go_wp2_with fail
                refine HCK.out.mono ?_
                rintro r u5 ⟨rfl, h5⟩
                subst h5
                go_wp2
                go_roundw
                case rel => exact ⟨j + 1, false, by omega, rfl, by go_num, kb4, hbel4, by first | exact HD9.out | simpa using HD9.out⟩
                case measure => simp [intOf]; omega
              · by_cases g2 : cj = ck
                · have e1 : (cj == ck) = true := by simpa using g2
                  by_cases g3 : j < k
                  · have g3i : (j : Int) < (k : Int) := by omega
                    have HD9 := hidL (HDROP.out ⟨HYES.out, by rw [HFJ.out, HFK.out]; omega⟩)
                    clear g2
                    go_wp2_with fail
                    refine HCJ.out.mono ?_
                    rintro r u5 ⟨rfl, h5⟩
                    subst h5
                    go_wp2_with fail
                    refine HCK.out.mono ?_
                    rintro r u5 ⟨rfl, h5⟩
                    subst h5
                    go_wp2_with fail
                    refine HCJ.out.mono ?_
                    rintro r u5 ⟨rfl, h5⟩
                    subst h5
                    go_wp2_with fail
                    refine HCK.out.mono ?_
                    rintro r u5 ⟨rfl, h5⟩
                    subst h5
                    go_wp2
                    go_roundw
                    case rel => exact ⟨j + 1, false, by omega, rfl, by go_num, kb4, hbel4, by first | exact HD9.out | simpa using HD9.out⟩
                    case measure => simp [intOf]; omega
                  · have g3i : ¬ (j : Int) < (k : Int) := by omega
                    have HK9 := hidL (HKEEP.out (fun _ => by rw [HFJ.out, HFK.out]; omega))
                    clear g2
                    go_wp2_with fail
                    refine HCJ.out.mono ?_
                    rintro r u5 ⟨rfl, h5⟩
                    subst h5
                    go_wp2_with fail
                    refine HCK.out.mono ?_
                    rintro r u5 ⟨rfl, h5⟩
                    subst h5
                    go_wp2_with fail
                    refine HCJ.out.mono ?_
                    rintro r u5 ⟨rfl, h5⟩
                    subst h5
                    go_wp2_with fail
                    refine HCK.out.mono ?_
                    rintro r u5 ⟨rfl, h5⟩
                    subst h5
                    go_wp2
                    go_roundw
                    case rel => exact ⟨j + 1, F, by omega, rfl, by go_num, kb4, hbel4, HK9.out⟩
                    case measure => simp [intOf]; omega
                · have e1 : (cj == ck) = false := by simpa using g2
                  have HK9 := hidL (HKEEP.out (fun _ => by rw [HFJ.out, HFK.out]; omega))
                  clear g2
                  go_wp2_with fail
                  refine HCJ.out.mono ?_
                  rintro r u5 ⟨rfl, h5⟩
                  subst h5
                  go_wp2_with fail
                  refine HCK.out.mono ?_
                  rintro r u5 ⟨rfl, h5⟩
                  subst h5
                  go_wp2_with fail
                  refine HCJ.out.mono ?_
                  rintro r u5 ⟨rfl, h5⟩
                  subst h5
                  go_wp2_with fail
                  refine HCK.out.mono ?_
                  rintro r u5 ⟨rfl, h5⟩
                  subst h5
                  go_wp2
                  go_roundw
                  case rel => exact ⟨j + 1, F, by omega, rfl, by go_num, kb4, hbel4, HK9.out⟩
                  case measure => simp [intOf]; omega
          · have hjn : j = n := by omega
            subst hjn
            have hji : ¬ (j : Int) < (j : Int) := by omega
            cases F with
            | true =>
              have hT := HJ.out.1 rfl
              have hfi : Ld.First (Ld.ColdAt l m bd) f k := ⟨hT.1, fun y hy => hT.2 y (by have := hy.1; have := HL.out; omega) hy⟩
              rw [HFF.out] at hfi
              obtain ⟨rfl, hNode, rfl⟩ := HI.out.at HF.out hfi
              clear hfi hT HJ
              obtain ⟨b1, o1, A, C, rfl, hb1, hc1, hrow⟩ := mat_at (Shape.now HA.out hbel) HLT.out
              have hq1 : 1 ≤ (m.getD k []).length := (Pl.row_len (HF.out.1.2.2 _ (Mx.getD_mem m k (by have := HL.out; have := HLT.out; omega)))).1
              have hq9 : (m.getD k []).length ≤ 4 := (Pl.row_len (HF.out.1.2.2 _ (Mx.getD_mem m k (by have := HL.out; have := HLT.out; omega)))).2
              have hRow := Row.of_rep hrow
              obtain ⟨r, hr⟩ : ∃ r, m.getD k [] = r := ⟨_, rfl⟩
              rw [hr] at hNode hc1 hq1 hq9 hRow
              obtain ⟨b2, o2, rfl, hb2, hc2⟩ := hRow.at (j := r.length - 1) (by omega)
              rw [← hNode] at hc2
              obtain ⟨q, hq⟩ : ∃ q, r.length = q := ⟨_, rfl⟩
              rw [hq] at hc1 hc2 hq1 hq9
              have hsq : IntKind.i64.wrap ((q : Int) - 1) = ((q - 1 : Nat) : Int) := by rw [IntKind.wrap_i64]; omega
              have hs1 : ((q - 1 : Nat) : Int) < (q : Int) := by omega
              obtain ⟨s, hs⟩ : ∃ s, q - 1 = s := ⟨_, rfl⟩
              rw [hs] at hc2 hsq hs1
              have hs0 : (0 : Int) ≤ (s : Int) := by omega
              clear hs
              have hki2 : (k : Int) < (j : Int) := by omega
              have hk00 : (0 : Int) ≤ (k : Int) := by omega
              have hne9 : Nonempty (Later wr) := Later.there wr
              have d1 : ∀ x : Later wr, x.u.cell? ⟨w.heap.size, 1, none⟩ = _ := fun x => x.cell cc1
              have d2 : ∀ x : Later wr, x.u.cell? ⟨b1, o1 + k, none⟩ = _ := fun x => x.cell hc1
              have d3 : ∀ x : Later wr, x.u.cell? ⟨b2, o2 + s, none⟩ = _ := fun x => x.cell hc2
              clear hrow hRow hr hNode hq hq1 hq9
              go_wp2
              refine region_later (by kernel_rfl) (by kernel_rfl) ?_
              repeat (go_big_quiet_step (fail))
              refine wpQuiet_nil ?_
              intro x9
              obtain ⟨W9, hb9⟩ := x9
              go_wp2
              go_ret3
              exact ⟨rfl, bel_then hbel hb9⟩
            | false =>
              have HNF : Hid (¬ Ld.First (Ld.ColdAt l m bd) f k) := fun h9 => by
                have := HJ.out.2 ⟨h9.1, fun y _ hP => h9.2 y hP⟩
                cases this
              clear HJ
              go_wp2
              go_roundw
              case rel =>
                refine ⟨k + 1, by omega, by go_num, kb, hbel, fun y hy => ?_⟩
                rcases Nat.lt_succ_iff_lt_or_eq.1 hy with h5 | rfl
                · exact HK.out y h5
                · exact HNF.out
              case measure => simp [intOf]; omega
      · have hkn : k = n := by omega
        subst hkn
        have hki : ¬ (k : Int) < (k : Int) := by omega
        obtain ⟨rfl, rfl, rfl⟩ := HI.out.no (fun h9 => by
          obtain ⟨_, x, hx⟩ := h9
          rw [← HFF.out] at hx
          exact HK.out x (by have := hx.1.1; have := HL.out; omega) hx)
        go_wp2
        go_ret3
        exact ⟨rfl, hbel⟩

end Go.Proofs.Ytpldfalnoaamkaa
