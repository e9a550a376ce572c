/- For every rows m, row v and int columns the law MatScale returns true: whether rows are right does not turn when one is said twice, but for how many there are; of no row nothing is made; no condition. -/
import Derived.Test.YtkbflhllojpgkaaRows
import Derived.Test.YtkbflhllojpgkaaLater
import Derived.WalkKit
import Derived.ProofKit
import Derived.OpenShut
import Derived.ShutString
import Derived.ChangeOld
import Derived.Below
namespace Go.Proofs.Ytkbflhllojpgkaa.matScale
open Go.ChangeShapes Go.WideShapes Go.ChangeAt Go.RowKit
open Go.ChangeMaps (open_string shut_string)
set_option linter.unusedVariables false

theorem own : ownKnob Try.prog.godebug = none := by kernel_rfl
theorem laidOut : laidOutB Try.prog = true := by kernel_rfl

/-- The row that is appended lies in a block behind the one that was appended to. -/
theorem src1 {w W u : World} {A : Option Addr} {C : Nat} {r : List Int} {v : Value} {l : List (List Int)} (hr : rowS.rep w (· < w.heap.size) [.slice A r.length C] r) (hW : Below w.heap.size w W) (hb : Below w.heap.size W u) (ho : Own rowS u w.heap.size 23 v l) :
    matS.rep (u.alloc (.cells #[.slice A r.length C] 23)) (fun b => b < w.heap.size ∨ b = u.heap.size) [.slice (some ⟨u.heap.size, 0, none⟩) 1 1] [r] ∧ ∀ b, (b < w.heap.size ∨ b = u.heap.size) → some b ≠ v.ownBlock := by
  refine ⟨rep_at (Shape.now hr (bel_alloc (hW.trans hb) _)) (heap_new _ _ _ rfl), fun b hb h => ?_⟩
  have := ho.lt b h.symm
  omega
theorem src_old {w W u : World} {A : Option Addr} {C g h : Nat} {r : List Int} {v' : Value} (hr : rowS.rep w (· < w.heap.size) [.slice A r.length C] r) (hL : W.heap[g]? = some (.cells #[.slice A r.length C] 23 (0, 0))) (hW : Below w.heap.size w W)
    (hg : W.grownBy u (some h)) (hb : Below w.heap.size W u) (hgh : g ≠ h) (hge : w.heap.size ≤ h) (hat : v'.ownBlock = some h ∨ v'.ownBlock = some W.heap.size) :
    matS.rep u (fun b => b < w.heap.size ∨ b = g) [.slice (some ⟨g, 0, none⟩) 1 1] [r] ∧ ∀ b, (b < w.heap.size ∨ b = g) → some b ≠ v'.ownBlock := by
  have hgl : g < W.heap.size := (Array.getElem?_eq_some_iff.1 hL).1
  refine ⟨rep_at (Shape.now hr (hW.trans hb)) ((hg.block g hgl (fun e => hgh (Option.some.inj e))).trans hL), fun b hb h => ?_⟩
  have := hW.size
  rcases hat with e | e
  · rw [e] at h; have := Option.some.inj h; omega
  · rw [e] at h; have := Option.some.inj h; omega
theorem src2 {w u : World} {A : Option Addr} {C : Nat} {r : List Int} {v' : Value} (hr : rowS.rep w (· < w.heap.size) [.slice A r.length C] r) {W : World} (hL : W.heap[w.heap.size + 1]? = some (.cells #[.slice A r.length C] 23 (0, 0))) (hW : Below w.heap.size w W)
    (hg : W.grownBy u (Value.ownBlock (.slice (some ⟨w.heap.size, 0, none⟩) 0 0))) (hb : Below w.heap.size W u) (hat : v'.ownBlock = Value.ownBlock (.slice (some ⟨w.heap.size, 0, none⟩) 0 0) ∨ v'.ownBlock = some W.heap.size) :
    matS.rep u (fun b => b < w.heap.size ∨ b = w.heap.size + 1) [.slice (some ⟨w.heap.size + 1, 0, none⟩) 1 1] [r] ∧ ∀ b, (b < w.heap.size ∨ b = w.heap.size + 1) → some b ≠ v'.ownBlock :=
  src_old (h := w.heap.size) hr hL hW hg hb (by omega) (Nat.le_refl _) hat
theorem src3 {w u : World} {A : Option Addr} {C : Nat} {r : List Int} {v' : Value} (hr : rowS.rep w (· < w.heap.size) [.slice A r.length C] r) {W : World} (hL : W.heap[w.heap.size]? = some (.cells #[.slice A r.length C] 23 (0, 0))) (hW : Below w.heap.size w W)
    (hg : W.grownBy u (Value.ownBlock (.slice (some ⟨w.heap.size + 1, 0, none⟩) 0 0))) (hb : Below w.heap.size W u) (hat : v'.ownBlock = Value.ownBlock (.slice (some ⟨w.heap.size + 1, 0, none⟩) 0 0) ∨ v'.ownBlock = some W.heap.size) :
    matS.rep u (fun b => b < w.heap.size ∨ b = w.heap.size) [.slice (some ⟨w.heap.size, 0, none⟩) 1 1] [r] ∧ ∀ b, (b < w.heap.size ∨ b = w.heap.size) → some b ≠ v'.ownBlock :=
  src_old (h := w.heap.size + 1) hr hL hW hg hb (by omega) (Nat.le_succ _) hat

theorem right_more (m : List (List Int)) (r : List Int) (hr : r ∈ m) (n : Nat) (hn : m.length = n) (c : Int) : Mx.Right (m ++ [r]) ((n : Int) + 1) c ↔ Mx.Right m n c := by
  subst hn
  constructor
  · intro h; exact ⟨rfl, fun l hl => h.2 l (List.mem_append.2 (.inl hl))⟩
  · intro h
    refine ⟨by simp, fun l hl => ?_⟩
    rcases List.mem_append.1 hl with hl | hl
    · exact h.2 l hl
    · have e : l = r := by simpa using hl
      subst e; exact h.2 l hr
theorem fits_more (m : List (List Int)) (r : List Int) (hr : r ∈ m) (n : Nat) : Mx.Fits (m ++ [r]) n ↔ Mx.Fits m n := by
  rw [Mx.fits_append]
  constructor
  · exact fun h => h.1
  · intro h
    refine ⟨h, fun l hl => ?_⟩
    have e : l = r := by simpa using hl
    subst e; exact h l hr
theorem app_first (m : List (List Int)) (v : List Int) (h : 0 < m.length) : (Mx.app m v).getD 0 0 = Vx.dot (m.getD 0 []) v := by
  rw [List.getD_eq_getElem?_getD, List.getD_eq_getElem?_getD]
  simp [Mx.app, List.getElem?_eq_getElem h]
theorem app_last (m : List (List Int)) (r v : List Int) (n : Nat) (h : m.length = n) : (Mx.app (m ++ [r]) v).getD n 0 = Vx.dot r v := by
  subst h
  rw [Mx.app_append, List.getD_eq_getElem?_getD, List.getElem?_append_right (by rw [Mx.app_length]; exact Nat.le_refl _), Mx.app_length]
  simp [Mx.app]

/- The walk: the call returns true, and nothing that was there is written. -/
set_option maxHeartbeats 4000000 in
theorem walk (a0 : Option Addr) (len0 cap0 : Nat) (m0 : List (List Int)) (a1 : Option Addr) (len1 cap1 : Nat) (m1 : List Int) (a2 : Int) (w : World) (w0 : (sliceS (sliceS (intS .i64))).rep w everywhere [.slice a0 len0 cap0] m0) (f0 : ∀ x0 ∈ m0, ∀ x1 ∈ x0, (Lit.int .i64 x1).wf = true) (w1 : (sliceS (intS .i64)).rep w everywhere [.slice a1 len1 cap1] m1) (f1 : ∀ x0 ∈ m1, (Lit.int .i64 x0).wf = true) (w2 : (Lit.int .i64 a2).wf = true) :
    Calls Try.prog 6 #[.slice a0 len0 cap0, .slice a1 len1 cap1, .int .i64 a2] w fun e w' => e = .returned (.bool true) ∧ Below w.heap.size w w' := by
  have hA := Shape.low w0
  obtain ⟨hl0, hk0, _⟩ := sliceS_len w0
  have HL : Hid (m0.length = len0) := hl0
  clear hl0
  have hv := Row.of_rep w1
  clear w1 f0 f1 w2
  obtain ⟨j0, hj0, hy0, hy1, hy2⟩ := info_parts Try.infoRow
  go_enter Try.func6, Try.ntmps6
  go_wp2_with fail
  refine by_says (small a0 len0 cap0 m0 everywhere w w0) (fun hs0 => ?_) (fun _ => ?_)
  case refine_2 =>
    go_wp2_with fail
    refine (mawake _).mono ?_
    rintro e u1 ⟨rfl, hb1⟩
    go_wp2
    go_ret
    exact ⟨rfl, hb1⟩
  by_cases hz : len0 = 0
  · have ez : ((len0 : Int) == 0) = true := by simp [hz]
    go_wp2_with fail
    refine (mawake _).mono ?_
    rintro e u1 ⟨rfl, hb1⟩
    go_wp2
    go_ret
    exact ⟨rfl, hb1⟩
  have ez : ((len0 : Int) == 0) = false := by simp; omega
  by_cases h29 : 29 < len0
  · have hi : (29 : Int) < (len0 : Int) := by omega
    go_wp2_with fail
    refine (mawake _).mono ?_
    rintro e u1 ⟨rfl, hb1⟩
    go_wp2
    go_ret
    exact ⟨rfl, hb1⟩
  have hi29 : ¬ (29 : Int) < (len0 : Int) := by omega
  by_cases hl : 30 < len1
  · have hi : (30 : Int) < (len1 : Int) := by omega
    go_wp2_with fail
    refine (mawake _).mono ?_
    rintro e u1 ⟨rfl, hb1⟩
    go_wp2
    go_ret
    exact ⟨rfl, hb1⟩
  have hi : ¬ (30 : Int) < (len1 : Int) := by omega
  have HS : Hid (∀ l ∈ m0, l.length ≤ 30) := hs0.2
  clear hs0
  obtain ⟨b1, o1, A, C, rfl, hb1, hcell, hr⟩ := mat_at hA (show 0 < len0 by omega)
  rw [Nat.add_zero] at hcell
  have HM : Hid (m0.getD 0 [] ∈ m0) := Mx.getD_mem m0 0 (by have := HL.out; omega)
  have hpos : (0 : Int) < (len0 : Int) := by omega
  have hpos' : 0 < len0 := by omega
  generalize hr0 : m0.getD 0 [] = r at *
  have HR0 : Hid (m0.getD 0 [] = r) := hr0
  clear hr0
  have hn1 : some b1 ≠ some w.heap.size := by intro h; have := Option.some.inj h; omega
  have hn2 : some b1 ≠ some (w.heap.size + 1) := by intro h; have := Option.some.inj h; omega
  have hE1 : (w.alloc (.cells #[] 23)).drew.heap[w.heap.size]? = some (.cells #[] 23 (0, 0)) := heap_new _ _ _ rfl
  have hE2 : ((w.alloc (.cells #[] 23)).alloc (.cells #[.slice A r.length C] 23)).drew.heap[w.heap.size]? = some (.cells #[] 23 (0, 0)) := heap_old _ _ _ _ (by simp) (heap_new _ _ _ rfl)
  have hE3 : ((w.alloc (.cells #[.slice A r.length C] 23)).alloc (.cells #[] 23)).drew.heap[w.heap.size + 1]? = some (.cells #[] 23 (0, 0)) := heap_new _ _ _ (by simp)
  have hW1 : Below w.heap.size w (w.alloc (.cells #[] 23)).drew := (new_bel _ _).drew
  have hW2 : Below w.heap.size w ((w.alloc (.cells #[] 23)).alloc (.cells #[.slice A r.length C] 23)).drew := (bel_alloc (new_bel _ _) _).drew
  have hW3 : Below w.heap.size w ((w.alloc (.cells #[.slice A r.length C] 23)).alloc (.cells #[] 23)).drew := (bel_alloc (new_bel _ _) _).drew
  have hL2 : ((w.alloc (.cells #[] 23)).alloc (.cells #[.slice A r.length C] 23)).drew.heap[w.heap.size + 1]? = some (.cells #[.slice A r.length C] 23 (0, 0)) := heap_new _ _ _ (by simp)
  have hL3 : ((w.alloc (.cells #[.slice A r.length C] 23)).alloc (.cells #[] 23)).drew.heap[w.heap.size]? = some (.cells #[.slice A r.length C] 23 (0, 0)) := heap_old _ _ _ _ (by simp) (heap_new _ _ _ rfl)
  have HE1 : Hid _ := hE1
  have HE2 : Hid _ := hE2
  have HE3 : Hid _ := hE3
  have HL2 : Hid _ := hL2
  have HL3 : Hid _ := hL3
  clear hE1 hE2 hE3 hL2 hL3
  go_upto_region 3 with fail
  go_cut [7] from 14 (fun v wx => ∃ a c, v = .slice a (len0 + 1) c ∧ Own rowS wx w.heap.size 23 (.slice a (len0 + 1) c) (m0 ++ [r]) ∧ Below w.heap.size w wx)
  case first =>
    rename_i Jx Kx hRJ hMK
    go_region_held3 (fun w' => w'.cell? ⟨b1, o1, none⟩ = some (.slice A r.length C))
      (first
        | go_keep
        | (rw [hb5.cell (by exact hb1)]; first | assumption | go_keep)
        | (rw [hb4.cell (by exact hb1)]; first | assumption | go_keep))
      (first
        | (refine step_app rowS (by simp [Region.wanted]) (.tmp 33) (.tmp 34) 22 (by rfl) w.heap.size 23 j0 (.slice none 0 0) 24 Try.underlying22 hj0 hy0 hy1 hy2 rfl Nat.one_pos (by omega) (by rfl) (Own.of_empty rowS HE1.out (Nat.le_refl _)) (by rfl) (Shape.now hA hW1) (Own.apart (Own.of_empty rowS HE1.out (Nat.le_refl _)) (Nat.le_refl _)) (by simp; omega) hW1.size len0 (by simp) m0 (by rfl) ?_; intro a4 c4 u4 ho4 hg4 hb4 hat4)
        | (refine step_app rowS (by simp [Region.wanted]) (.tmp 33) (.tmp 34) 22 (by rfl) w.heap.size 23 j0 (.slice none 0 0) 24 Try.underlying22 hj0 hy0 hy1 hy2 rfl Nat.one_pos (by omega) (by rfl) (Own.of_empty rowS HE2.out (Nat.le_refl _)) (by rfl) (Shape.now hA hW2) (Own.apart (Own.of_empty rowS HE2.out (Nat.le_refl _)) (Nat.le_refl _)) (by simp; omega) hW2.size len0 (by simp) m0 (by rfl) ?_; intro a4 c4 u4 ho4 hg4 hb4 hat4; have hsrc := src2 hr HL2.out hW2 hg4 hb4 hat4)
        | (refine step_app rowS (by simp [Region.wanted]) (.tmp 33) (.tmp 34) 22 (by rfl) w.heap.size 23 j0 (.slice none 0 0) 24 Try.underlying22 hj0 hy0 hy1 hy2 rfl Nat.one_pos (by omega) (by rfl) (Own.of_empty rowS HE3.out (Nat.le_succ _)) (by rfl) (Shape.now hA hW3) (Own.apart (Own.of_empty rowS HE3.out (Nat.le_succ _)) (Nat.le_refl _)) (by simp; omega) hW3.size len0 (by simp) m0 (by rfl) ?_; intro a4 c4 u4 ho4 hg4 hb4 hat4; have hsrc := src3 hr HL3.out hW3 hg4 hb4 hat4)
        | (refine step_app rowS (by simp [Region.wanted]) (.tmp 35) (.tmp 39) 22 (by rfl) w.heap.size 23 j0 (.slice none 0 0) 24 Try.underlying22 hj0 hy0 hy1 hy2 rfl Nat.one_pos (by omega) (by rfl) ho4 (by rfl) hsrc.1 hsrc.2 (by have := HL.out; omega) (by have := hb4.size; have := hW2.size; have := hW3.size; omega) (len0 + 1) (by rw [HL.out]) (m0 ++ [r]) rfl ?_; intro a5 c5 u5 ho5 hg5 hb5 hat5)
        | (refine step_app rowS (by simp [Region.wanted]) (.tmp 35) (.tmp 39) 22 (by rfl) w.heap.size 23 j0 (.slice none 0 0) 24 Try.underlying22 hj0 hy0 hy1 hy2 rfl Nat.one_pos (by omega) (by rfl) (ho4.keep (new_bel u4 _)) (by rfl) (src1 hr hW1 hb4 ho4).1 (src1 hr hW1 hb4 ho4).2 (by have := HL.out; omega) (by have := hb4.size; have := hW1.size; simp; omega) (len0 + 1) (by rw [HL.out]) (m0 ++ [r]) rfl ?_; intro a5 c5 u5 ho5 hg5 hb5 hat5))
    all_goals
      have hB5 : Below w.heap.size w u5 := by first | exact (hW2.trans hb4).trans hb5 | exact (hW3.trans hb4).trans hb5 | exact (bel_alloc (hW1.trans hb4) _).trans hb5
      have HO5 : Hid (Own rowS u5 w.heap.size 23 (.slice a5 (len0 + 1) c5) (m0 ++ [r])) := ho5
      clear hg4 hb4 hat4 ho4 hg5 hb5 hat5 ho5
      refine hMK _ _ (Met.intro (hRJ _ _ ?_))
      (repeat apply Exists.intro)
      refine ⟨?_, rfl⟩
      exact ⟨a5, c5, rfl, HO5.out, hB5⟩
  case rest =>
    obtain ⟨a5, c5, rfl, ho5, hB5⟩ := hcut
    have hm5 := ho5.is
    have hv5 := hv.keep hB5
    have hA5 := Shape.now hA hB5
    clear hW1 hW2 hW3 HE1 HE2 HE3 HL2 HL3 hr hv hcell hn1 hn2 ho5
    go_wp2_with fail
    refine (mapply none a1 0 0 len1 cap1 [] m1 everywhere wc (rep_none _ _ _) hv5 (by omega) (by omega)).mono ?_
    rintro e W6 ⟨hg, hb6⟩
    obtain ⟨x6, c6, rfl, _⟩ := hg.yes (by intro l hl; simp at hl)
    have hm6 := Shape.below hm5 hb6
    have hv6 := hv5.keep hb6
    have hA6 := Shape.below hA5 hb6
    have hB6 := bel_then hB5 hb6
    clear hg hm5 hv5 hA5 hb6 hB5
    by_cases hp : Mx.Fits m0 len1
    · have HP : Hid (Mx.Fits m0 len1) := hp
      clear hp
      go_wp2_with fail
      refine (mapply _ a1 len0 cap0 len1 cap1 m0 m1 _ W6 hA6 hv6 (by omega) (by omega)).mono ?_
      rintro e W7 ⟨hg, hb7⟩
      obtain ⟨x7, c7, rfl, hr7⟩ := hg.yes HP.out
      have hm7 := Shape.below hm6 hb7
      have hv7 := hv6.keep hb7
      have hA7 := Shape.below hA6 hb7
      have hB7 := bel_then hB6 hb7
      clear hg hm6 hv6 hA6 hb7 hB6
      go_wp2_with fail
      refine (mapply a5 a1 (len0 + 1) c5 len1 cap1 (m0 ++ [r]) m1 everywhere W7 hm7 hv7 (by omega) (by omega)).mono ?_
      rintro e W8 ⟨hg, hb8⟩
      obtain ⟨x8, c8, rfl, hr8⟩ := hg.yes ((fits_more m0 r HM.out len1).2 HP.out)
      have hm8 := Shape.below hm7 hb8
      have hA8 := Shape.below hA7 hb8
      have hB8 := bel_then hB7 hb8
      have hra := Row.of_rep (Shape.below hr7 hb8)
      have hrb := Row.of_rep hr8
      clear hg hm7 hv7 hA7 hb8 hB7 hr7 hr8
      have HSm : Hid (∀ l ∈ m0 ++ [r], l.length ≤ 100000) := by
        intro l hl
        rcases List.mem_append.1 hl with hl | hl
        · have := HS.out l hl; omega
        · have e : l = r := by simpa using hl
          subst e; have := HS.out l HM.out; omega
      go_wp2_with fail
      refine by_form (right _ len0 cap0 m0 _ len0 a2 W8 hA8 (by omega) (fun l hl => by have := HS.out l hl; omega)) ?_
      go_wp2_with fail
      refine by_form (right a5 (len0 + 1) c5 (m0 ++ [r]) everywhere ((len0 : Int) + 1) a2 W8 hm8 (by omega) HSm.out) ?_
      rw [tell_iff (right_more m0 r HM.out len0 HL.out a2)]
      generalize tell (Mx.Right m0 len0 a2) = t at *
      obtain ⟨ba, oa, rfl, hba, hca⟩ := hra.at hpos'
      obtain ⟨bb, ob, rfl, hbb, hcb⟩ := hrb.at (show len0 < len0 + 1 by omega)
      rw [app_first _ _ (by have := HL.out; omega), HR0.out, Nat.add_zero] at hca
      rw [app_last _ _ _ _ HL.out] at hcb
      generalize Vx.dot r m1 = x at *
      clear hra hrb hm8 hA8 HSm
      have e1 : ((len0 : Int) == (len0 : Int)) = true := by simp
      have e2 : (((len0 + 1 : Nat) : Int) == (len0 : Int) + 1) = true := by simp
      have e3 : (x == x) = true := by simp
      have hwr : IntKind.i64.wrap ((len0 : Int) + 1) = (len0 : Int) + 1 := by rw [IntKind.wrap_i64]; omega
      have hx0 : (0 : Int) ≤ (len0 : Int) := by omega
      have hx1 : (len0 : Int) < ((len0 + 1 : Nat) : Int) := by omega
      have hx2 : (len0 : Int) < (len0 : Int) + 1 := by omega
      have hx3 : len0 < len0 + 1 := by omega
      have hcaL : ∀ x9 : Later W8, x9.u.cell? ⟨ba, oa, none⟩ = some (.int .i64 x) := fun x9 => x9.cell hca
      have hcbL : ∀ x9 : Later W8, x9.u.cell? ⟨bb, ob + len0, none⟩ = some (.int .i64 x) := fun x9 => x9.cell hcb
      clear hca hcb
      have hne9 : Nonempty (Later W8) := Later.there W8
      go_wp2
      refine region_later (by kernel_rfl) (by kernel_rfl) ?_
      repeat (go_big_quiet_step ((go_at_call 9; exact Later.call (mawake _))))
      refine wpQuiet_nil ?_
      intro x9
      obtain ⟨W9, hb9⟩ := x9
      go_wp2
      go_ret
      exact ⟨rfl, bel_then hB8 hb9⟩
    · have HP : Hid (¬ Mx.Fits m0 len1) := hp
      clear hp
      go_wp2_with fail
      refine (mapply _ a1 len0 cap0 len1 cap1 m0 m1 _ W6 hA6 hv6 (by omega) (by omega)).mono ?_
      rintro e W7 ⟨hg, hb7⟩
      obtain rfl := hg.no HP.out
      have hm7 := Shape.below hm6 hb7
      have hv7 := hv6.keep hb7
      have hA7 := Shape.below hA6 hb7
      have hB7 := bel_then hB6 hb7
      clear hg hm6 hv6 hA6 hb7 hB6
      go_wp2_with fail
      refine (mapply a5 a1 (len0 + 1) c5 len1 cap1 (m0 ++ [r]) m1 everywhere W7 hm7 hv7 (by omega) (by omega)).mono ?_
      rintro e W8 ⟨hg, hb8⟩
      obtain rfl := hg.no (fun h => HP.out ((fits_more m0 r HM.out len1).1 h))
      have hm8 := Shape.below hm7 hb8
      have hA8 := Shape.below hA7 hb8
      have hB8 := bel_then hB7 hb8
      clear hg hm7 hv7 hA7 hb8 hB7
      have HSm : Hid (∀ l ∈ m0 ++ [r], l.length ≤ 100000) := by
        intro l hl
        rcases List.mem_append.1 hl with hl | hl
        · have := HS.out l hl; omega
        · have e : l = r := by simpa using hl
          subst e; have := HS.out l HM.out; omega
      go_wp2_with fail
      refine by_form (right _ len0 cap0 m0 _ len0 a2 W8 hA8 (by omega) (fun l hl => by have := HS.out l hl; omega)) ?_
      go_wp2_with fail
      refine by_form (right a5 (len0 + 1) c5 (m0 ++ [r]) everywhere ((len0 : Int) + 1) a2 W8 hm8 (by omega) HSm.out) ?_
      rw [tell_iff (right_more m0 r HM.out len0 HL.out a2)]
      generalize tell (Mx.Right m0 len0 a2) = t at *
      clear hm8 hA8 HSm
      have hne9 : Nonempty (Later W8) := Later.there W8
      go_wp2
      refine region_later (by kernel_rfl) (by kernel_rfl) ?_
      repeat (go_big_quiet_step ((go_at_call 9; exact Later.call (mawake _))))
      refine wpQuiet_nil ?_
      intro x9
      obtain ⟨W9, hb9⟩ := x9
      go_wp2
      go_ret
      exact ⟨rfl, bel_then hB8 hb9⟩

/- From the walk to the row. -/
set_option maxRecDepth 100000 in
theorem lifted (os : Os) (started : os.Started) (H : Type) (enc : TypeId × Value → H) :
    ReturnsInHanded {} Try.checked os 6 .any (Rows.matScaleSpec.pre6 enc Try.prog Try.f6 Rows.matScaleRow.domain false) (Rows.matScaleSpec.post enc Try.prog Try.f6 false true false false) := by
  refine returnsInHanded_of_change (C := Try.checked) own started (by kernel_rfl) Try.func6
    (ChangeSpec.witness6 (enc := enc) (C := Try.checked) false ⟨#[], #[.slice none 0 0, .slice none 0 0, .int .i64 0], []⟩ 8 (by kernel_rfl) (by kernel_rfl) (by kernel_rfl) (by kernel_rfl)) ?_
  intro W base args ds gs before hval0 hW hcnd _
  have hval : ∀ (j : Nat) t v, Try.f6.params[j]? = some t → args[j]? = some v → Value.okWide Try.prog W .any base t v := hval0
  have hW' := hW
  obtain ⟨p, q, hA0, hV, rfl, hfz, hnd⟩ := hW
  have hA : DataW.TrodAll enc Try.prog W 0 (fun _ => true) true Try.f6.params.toList args.toList ds p := hA0
  rw [Try.params6] at hA hval
  obtain ⟨v0, vs0, d0, ds0, p0, q0, hargs, rfl, rfl, h0, r0⟩ := trodAll_cons hA
  obtain ⟨v1, vs1, d1, ds1, p1, q1, rfl, rfl, rfl, h1, r1⟩ := trodAll_cons r0
  obtain ⟨v2, vs2, d2, ds2, p2, q2, rfl, rfl, rfl, h2, r2⟩ := trodAll_cons r1
  obtain ⟨rfl, rfl, rfl⟩ := trodAll_nil r2
  obtain rfl : args = #[v0, v1, v2] := by cases args; simp_all
  obtain ⟨rfl, rfl⟩ := trodVars_none hV
  obtain ⟨a0, len0, cap0, rfl⟩ := okWide_slice Try.underlying22 (hval 0 22 v0 rfl rfl)
  have k0 := h0
  have lt0 : ∀ x ∈ p0, x.block < W.heap.size := by obtain ⟨m, hm⟩ := k0; exact DataW.trod_lt m _ _ _ hm
  obtain ⟨m0, w0, f0⟩ : ∃ y, (sliceS (sliceS (intS .i64))).rep W everywhere [.slice a0 len0 cap0] y ∧ ∀ x0 ∈ y, ∀ x1 ∈ x0, (Lit.int .i64 x1).wf = true := by
    obtain ⟨fuel, hf⟩ := h0
    exact (opens_slice (A := (sliceS (intS .i64))) Try.underlying22 (show Try.prog.cellsOf 23 = 1 by kernel_rfl) (by exact Nat.one_pos) (opens_slice (A := (intS .i64)) Try.underlying23 (show Try.prog.cellsOf 3 = 1 by kernel_rfl) (by exact Nat.one_pos) (opens_int Try.underlying3))) H enc W _ _ _ fuel _ _ hf
  obtain ⟨a1, len1, cap1, rfl⟩ := okWide_slice Try.underlying23 (hval 1 23 v1 rfl rfl)
  have k1 := h1
  have lt1 : ∀ x ∈ p1, x.block < W.heap.size := by obtain ⟨m, hm⟩ := k1; exact DataW.trod_lt m _ _ _ hm
  obtain ⟨m1, w1, f1⟩ : ∃ y, (sliceS (intS .i64)).rep W everywhere [.slice a1 len1 cap1] y ∧ ∀ x0 ∈ y, (Lit.int .i64 x0).wf = true := by
    obtain ⟨fuel, hf⟩ := h1
    exact (opens_slice (A := (intS .i64)) Try.underlying23 (show Try.prog.cellsOf 3 = 1 by kernel_rfl) (by exact Nat.one_pos) (opens_int Try.underlying3)) H enc W _ _ _ fuel _ _ hf
  obtain ⟨a2, rfl, rfl, rfl, w2⟩ := open_int Try.underlying3 (hval 2 3 v2 rfl rfl) h2
  clear hA0 hval0
  refine (walk a0 len0 cap0 m0 a1 len1 cap1 m1 a2 W w0 f0 w1 f1 w2).mono fun e W' ⟨he, bel⟩ => ?_
  subst he
  exact ⟨_, rfl, _, _, _, [], _, [], hW', trodAll_mk1 (shut_bool Try.underlying4 _), (trodAll_cons_mk (Below.trod laidOut (by kernel_rfl) (of_decide_eq_true (by kernel_rfl)) k0 bel lt0) (trodAll_cons_mk (Below.trod laidOut (by kernel_rfl) (of_decide_eq_true (by kernel_rfl)) k1 bel lt1) (trodAll_cons_mk (shut_int Try.underlying3 w2) trodAll_mk0))), rfl, bel.frame _, fun h => by cases h⟩

theorem over : Rows.matScaleRow.holds Try.pinned (OpenSpec.ofChange Rows.matScaleSpec) :=
  OpenClaim.holds_of_wide 6 Try.f6 rfl rfl rfl rfl rfl rfl rfl ⟨rfl, rfl, rfl, rfl, rfl⟩ rfl rfl rfl rfl rfl (by kernel_rfl) Try.func6 (by kernel_rfl)
    (of_decide_eq_true (by kernel_rfl)) (by unfold Func.isWrapper; first | (rw [if_pos (by decide +kernel)]; kernel_rfl) | (rw [if_neg (by decide +kernel)]; exact ⟨rfl, rfl⟩))
    (fun os started H enc _ => lifted os started H enc)

end Go.Proofs.Ytkbflhllojpgkaa.matScale

namespace Go.Proofs.Ytkbflhllojpgkaa
theorem matScale_holds : Rows.MatScaleSaid := matScale.over
end Go.Proofs.Ytkbflhllojpgkaa
