/- TopMore of layer 4, proved. -/
import Derived.Test.YtlmglgcahopcpaaRows
import Derived.Test.YtlmglgcahopcpaaTopB
import Derived.WalkKit
import Derived.ProofKit
import Derived.OpenShut
import Derived.ShutString
import Derived.ChangeOld
import Derived.Below
namespace Go.Proofs.Ytlmglgcahopcpaa.topMore
open Go.ChangeShapes Go.WideShapes Go.ChangeAt Go.RowKit
open Go.ChangeMaps (open_string shut_string)
set_option linter.unusedVariables false

theorem own : ownKnob Try.prog.godebug = none := by kernel_rfl
theorem laidOut : laidOutB Try.prog = true := by kernel_rfl

theorem bW1 (w : World) : Below w.heap.size w (w.alloc (.cells #[] 3)).drew := (new_bel _ _).drew
theorem bW2 (w : World) (x : Int) : Below w.heap.size w ((w.alloc (.cells #[] 3)).alloc (.cells #[.int .i64 x] 3)).drew := (bel_alloc (new_bel _ _) _).drew
theorem bW3 (w : World) (x : Int) : Below w.heap.size w ((w.alloc (.cells #[.int .i64 x] 3)).alloc (.cells #[] 3)).drew := (bel_alloc (new_bel _ _) _).drew
theorem own1 (w : World) : Own (intS .i64) (w.alloc (.cells #[] 3)).drew w.heap.size 3 (.slice (some ⟨w.heap.size, 0, none⟩) 0 0) [] :=
  Own.of_empty _ (heap_new w (.cells #[] 3) _ rfl) (Nat.le_refl _)
theorem own2 (w : World) (x : Int) : Own (intS .i64) ((w.alloc (.cells #[] 3)).alloc (.cells #[.int .i64 x] 3)).drew w.heap.size 3 (.slice (some ⟨w.heap.size, 0, none⟩) 0 0) [] :=
  Own.of_empty _ (heap_old (w.alloc (.cells #[] 3)) _ _ _ (by simp) (heap_new w (.cells #[] 3) _ rfl)) (Nat.le_refl _)
theorem own3 (w : World) (x : Int) : Own (intS .i64) ((w.alloc (.cells #[.int .i64 x] 3)).alloc (.cells #[] 3)).drew w.heap.size 3 (.slice (some ⟨w.heap.size + 1, 0, none⟩) 0 0) [] :=
  Own.of_empty _ (heap_new (w.alloc (.cells #[.int .i64 x] 3)) (.cells #[] 3) _ (by simp)) (Nat.le_succ _)
/-- The number that is appended lies in a block of its own, laid behind the first append or ahead of it. -/
theorem src1 {w u : World} {x : Int} {v : Value} {l : List Int} (ho : Own (intS .i64) u w.heap.size 3 v l) :
    rowS.rep (u.alloc (.cells #[.int .i64 x] 3)) (fun b => False ∨ b = u.heap.size) [.slice (some ⟨u.heap.size, 0, none⟩) 1 1] [x] ∧ ∀ b, (False ∨ b = u.heap.size) → some b ≠ v.ownBlock := by
  refine ⟨rep_at (cs := [.int .i64 x]) (F := fun _ => False) rfl (heap_new _ _ _ rfl), fun b hb h => ?_⟩
  have := (ho.lt b h.symm).2
  rcases hb with hf | rfl
  · exact hf
  · omega
theorem src_old {W u : World} {x : Int} {g h : Nat} {v' : Value} (hL : W.heap[g]? = some (.cells #[.int .i64 x] 3 (0, 0)))
    (hg : W.grownBy u (some h)) (hgh : g ≠ h) (hat : v'.ownBlock = some h ∨ v'.ownBlock = some W.heap.size) :
    rowS.rep u (fun b => False ∨ b = g) [.slice (some ⟨g, 0, none⟩) 1 1] [x] ∧ ∀ b, (False ∨ b = g) → some b ≠ v'.ownBlock := by
  have hgl : g < W.heap.size := (Array.getElem?_eq_some_iff.1 hL).1
  refine ⟨rep_at (cs := [.int .i64 x]) (F := fun _ => False) rfl ((hg.block g hgl (fun e => hgh (Option.some.inj e))).trans hL), fun b hb hv => ?_⟩
  rcases hb with hf | rfl
  · exact hf
  · rcases hat with e | e
    · rw [e] at hv; exact hgh (Option.some.inj hv)
    · rw [e] at hv; have := Option.some.inj hv; omega
theorem src2 {w u : World} {x : Int} {v' : Value} (hg : ((w.alloc (.cells #[] 3)).alloc (.cells #[.int .i64 x] 3)).drew.grownBy u (Value.ownBlock (.slice (some ⟨w.heap.size, 0, none⟩) 0 0)))
    (hat : v'.ownBlock = Value.ownBlock (.slice (some ⟨w.heap.size, 0, none⟩) 0 0) ∨ v'.ownBlock = some ((w.alloc (.cells #[] 3)).alloc (.cells #[.int .i64 x] 3)).drew.heap.size) :
    rowS.rep u (fun b => False ∨ b = w.heap.size + 1) [.slice (some ⟨w.heap.size + 1, 0, none⟩) 1 1] [x] ∧ ∀ b, (False ∨ b = w.heap.size + 1) → some b ≠ v'.ownBlock :=
  src_old (W := ((w.alloc (.cells #[] 3)).alloc (.cells #[.int .i64 x] 3)).drew) (h := w.heap.size) (heap_new (w.alloc (.cells #[] 3)) (.cells #[.int .i64 x] 3) _ (by simp)) hg (by omega) hat
theorem src3 {w u : World} {x : Int} {v' : Value} (hg : ((w.alloc (.cells #[.int .i64 x] 3)).alloc (.cells #[] 3)).drew.grownBy u (Value.ownBlock (.slice (some ⟨w.heap.size + 1, 0, none⟩) 0 0)))
    (hat : v'.ownBlock = Value.ownBlock (.slice (some ⟨w.heap.size + 1, 0, none⟩) 0 0) ∨ v'.ownBlock = some ((w.alloc (.cells #[.int .i64 x] 3)).alloc (.cells #[] 3)).drew.heap.size) :
    rowS.rep u (fun b => False ∨ b = w.heap.size) [.slice (some ⟨w.heap.size, 0, none⟩) 1 1] [x] ∧ ∀ b, (False ∨ b = w.heap.size) → some b ≠ v'.ownBlock :=
  src_old (W := ((w.alloc (.cells #[.int .i64 x] 3)).alloc (.cells #[] 3)).drew) (h := w.heap.size + 1) (heap_old (w.alloc (.cells #[.int .i64 x] 3)) _ (.cells #[] 3) _ (by simp) (heap_new w (.cells #[.int .i64 x] 3) _ rfl)) hg (by omega) hat

/- The walk: the call returns true, and nothing that was there is written. -/
set_option maxHeartbeats 4000000 in
theorem walk (a0 : Option Addr) (len0 cap0 : Nat) (m0 : List Int) (w : World) (w0 : (sliceS (intS .i32)).rep w everywhere [.slice a0 len0 cap0] m0) (f0 : ∀ x0 ∈ m0, (Lit.int .i32 x0).wf = true) :
    Calls Try.prog 5 #[.slice a0 len0 cap0] w fun e w' => e = .returned (.bool true) ∧ Below w.heap.size w w' := by
  have hv := Row.of_rep w0
  obtain ⟨hl0, _, _⟩ := sliceS_len w0
  have HL : Hid (m0.length = len0) := hl0
  have HF : Hid (∀ x ∈ m0, -2147483648 ≤ x ∧ x ≤ 2147483647) := fun x hx => bounds_i32 (f0 x hx)
  clear w0 f0 hl0
  obtain ⟨i0, hi0, hz0, hz1, hz2⟩ := info_parts Try.infoInt
  by_cases h1 : 100 < len0
  · have q1 : (100 : Int) < (len0 : Int) := by omega
    go_enter Try.func5, Try.ntmps5
    go_wp2_with fail
    refine (tawake _).mono ?_
    rintro e u1 ⟨rfl, hb1⟩
    go_wp2
    go_ret
    exact ⟨rfl, hb1⟩
  have q1 : ¬ (100 : Int) < (len0 : Int) := by omega
  by_cases h2 : len0 < 2
  · have q2 : (len0 : Int) < 2 := by omega
    go_enter Try.func5, Try.ntmps5
    go_wp2_with fail
    refine (tawake _).mono ?_
    rintro e u1 ⟨rfl, hb1⟩
    go_wp2
    go_ret
    exact ⟨rfl, hb1⟩
  have q2 : ¬ (len0 : Int) < 2 := by omega
  go_enter Try.func5, Try.ntmps5
  go_wp2
  go_loopw [3, 23] (fun v i wr => ∃ j : Nat, j ≤ len0 ∧ i = .int .i64 j ∧ wr.ownsRow w.heap.size 3 1 v j ((m0.take j).map (Value.int .i64)) ∧ Below w.heap.size w wr) (fun _ i _ => len0 - (intOf i).toNat)
  case atStart => exact ⟨0, Nat.zero_le _, rfl, World.ownsRow_nil _ _ _ _, Below.refl _ _⟩
  case round =>
    obtain ⟨j, hj, rfl, hown, hbel⟩ := hrel
    by_cases hlt : j < len0
    · obtain ⟨b1, o1, rfl, hb1, hc1⟩ := hv.at hlt
      have hd1 : wr.cell? ⟨b1, o1 + j, none⟩ = some (.int .i32 (m0.getD j 0)) := (hbel.cell (by exact hb1)).trans hc1
      have hli : (j : Int) < (len0 : Int) := by omega
      have hjl : j < m0.length := by have := HL.out; omega
      have HS : Hid (m0.take (j + 1) = m0.take j ++ [m0.getD j 0]) := take_snoc m0 j hjl
      obtain ⟨hx1, hx2⟩ := HF.out (m0.getD j 0) (by rw [List.getD_eq_getElem?_getD, List.getElem?_eq_getElem hjl]; exact List.getElem_mem hjl)
      clear hc1 hjl
      generalize m0.getD j 0 = x at *
      go_wp2_with (first
        | (at_builtin; refine wpList_append_own _ rfl _ _ 22 rfl w.heap.size 3 i0 (.int .i64 0) 1 8 Try.underlying22 hi0 hz0 hz1 hz2 rfl (by decide) _ _ _ rfl (hown.alloc _) ⟨wr.heap.size, 0, none⟩ 1 1 [.int .i64 x] rfl rfl ?c1 ?c2 ?c3 ?c4 ?c5 ?_)
        | fail)
      case c1 =>
        intro j u hj
        match j, hj with
        | 0, hj => simp at hj; subst hj; simp [Addr.add]
      case c2 => intro u hu; simp at hu; subst hu; rfl
      case c3 => unfold maxLen; omega
      case c4 => omega
      case c5 => have := hbel.size; simp; omega
      intro v' w1 hown' hgrow _
      have hb' : Below w.heap.size w w1 := (hbel.alloc hbel.size _).grown hgrow (by have := hbel.size; simp; omega) (fun g hg => (hown.lt g hg).1)
      rw [← List.map_take] at hown'
      have ho' := own_snoc hown' HS.out
      clear hown' hgrow hown
      go_wp2
      go_roundw
      case rel => exact ⟨j + 1, by omega, by go_num, ho', hb'⟩
      case measure => simp [intOf]; omega
    · have hkn : j = len0 := by omega
      subst hkn
      have hli : ¬ (j : Int) < (j : Int) := by omega
      have e1 : m0.take j = m0 := List.take_of_length_le (by have := HL.out; omega)
      rw [e1] at hown
      clear e1 hv
      obtain ⟨al, cl, rfl, hrep⟩ := rep_of_row hown
      have hrow := Row.of_rep hrep
      have hA := Shape.low hrep
      clear hown hrep
      obtain ⟨a, haj, ea, _⟩ := Tx.best_at (l := m0) (by have := HL.out; omega)
      obtain ⟨b, hbj, eb, hne, _⟩ := Tx.second_at (l := m0) (by have := HL.out; omega) ea
      have t1 := two al j cl m0 wr hrow (by omega)
      have hX := Tx.more_same (by have := HL.out; omega) ea eb (m0.getD b 0) rfl
      have hY := Tx.more_top (by have := HL.out; omega) ea (m0.getD a 0 + 1) rfl
      rw [ea, eb] at t1
      obtain ⟨hy1, hy2⟩ := HF.out (m0.getD a 0) (by rw [List.getD_eq_getElem?_getD, List.getElem?_eq_getElem haj]; exact List.getElem_mem haj)
      rw [HL.out] at haj hbj hY
      have T1 : Hid _ := t1
      have HX : Hid _ := hX
      have HY : Hid _ := hY
      clear t1 hX hY ea eb hne
      have p1 : ¬ (a : Int) < 0 := by omega
      have p2 : ¬ (b : Int) < 0 := by omega
      have p3 : ¬ (j : Int) ≤ (a : Int) := by omega
      have p4 : ¬ (j : Int) ≤ (b : Int) := by omega
      have p5 : (a : Int) < (j : Int) := by omega
      have p6 : (b : Int) < (j : Int) := by omega
      have p7 : (0 : Int) ≤ (a : Int) := by omega
      have p8 : (0 : Int) ≤ (b : Int) := by omega
      obtain ⟨bl, ol, rfl, hbl, hca⟩ := hrow.at haj
      obtain ⟨b2, o2, he, _, hcb⟩ := hrow.at hbj
      cases he
      generalize m0.getD b 0 = x at *
      generalize m0.getD a 0 = y at *
      have hn1 : some bl ≠ some wr.heap.size := by intro h; have := Option.some.inj h; omega
      have hn2 : some bl ≠ some (wr.heap.size + 1) := by intro h; have := Option.some.inj h; omega
      go_upto_region 12 with (go_at_call 9; refine by_same T1.out ?_)
      go_cut [8, 9] from 12 (fun v8 v9 wx => v8 = .int .i64 a ∧ v9 = .int .i64 b ∧ Below wr.heap.size wr wx)
      case first =>
        rename_i Jx Kx hRJ hMK
        set_option maxRecDepth 100000 in
        go_region_held3 (fun w' => w'.cell? ⟨bl, ol + b, none⟩ = some (.int .i64 x))
          (first
            | go_keep
            | (rw [hb5.cell (by exact hbl)]; first | assumption | go_keep)
            | (rw [hb4.cell (by exact hbl)]; first | assumption | go_keep))
          (first
            | (refine step_app (intS .i64) (by simp [Region.wanted]) (.tmp 57) (.tmp 58) 22 (by rfl) wr.heap.size 3 i0 (.int .i64 0) 8 Try.underlying22 hi0 hz0 hz1 hz2 rfl Nat.one_pos (by omega) (by rfl) (own1 wr) (by rfl) (Shape.now hA (bW1 wr)) (Own.apart (own1 wr) (Nat.le_refl _)) (by simp; omega) (bW1 wr).size j (by simp) m0 (by rfl) ?_; intro a4 c4 u4 ho4 hg4 hb4 hat4)
            | (refine step_app (intS .i64) (by simp [Region.wanted]) (.tmp 57) (.tmp 58) 22 (by rfl) wr.heap.size 3 i0 (.int .i64 0) 8 Try.underlying22 hi0 hz0 hz1 hz2 rfl Nat.one_pos (by omega) (by rfl) (own2 wr x) (by rfl) (Shape.now hA (bW2 wr x)) (Own.apart (own2 wr x) (Nat.le_refl _)) (by simp; omega) (bW2 wr x).size j (by simp) m0 (by rfl) ?_; intro a4 c4 u4 ho4 hg4 hb4 hat4; have hsrc := src2 hg4 hat4)
            | (refine step_app (intS .i64) (by simp [Region.wanted]) (.tmp 57) (.tmp 58) 22 (by rfl) wr.heap.size 3 i0 (.int .i64 0) 8 Try.underlying22 hi0 hz0 hz1 hz2 rfl Nat.one_pos (by omega) (by rfl) (own3 wr x) (by rfl) (Shape.now hA (bW3 wr x)) (Own.apart (own3 wr x) (Nat.le_refl _)) (by simp; omega) (bW3 wr x).size j (by simp) m0 (by rfl) ?_; intro a4 c4 u4 ho4 hg4 hb4 hat4; have hsrc := src3 hg4 hat4)
            | (refine step_app (intS .i64) (by simp [Region.wanted]) (.tmp 59) (.tmp 64) 22 (by rfl) wr.heap.size 3 i0 (.int .i64 0) 8 Try.underlying22 hi0 hz0 hz1 hz2 rfl Nat.one_pos (by omega) (by rfl) ho4 (by rfl) hsrc.1 hsrc.2 (by have := HL.out; omega) (by have := hb4.size; have := (bW2 wr x).size; have := (bW3 wr x).size; omega) (j + 1) (by rw [HL.out]) (m0 ++ [x]) rfl ?_; intro a5 c5 u5 ho5 hg5 hb5 hat5)
            | (refine step_app (intS .i64) (by simp [Region.wanted]) (.tmp 59) (.tmp 64) 22 (by rfl) wr.heap.size 3 i0 (.int .i64 0) 8 Try.underlying22 hi0 hz0 hz1 hz2 rfl Nat.one_pos (by omega) (by rfl) (ho4.keep (new_bel u4 _)) (by rfl) (src1 (x := x) ho4).1 (src1 (x := x) ho4).2 (by have := HL.out; omega) (by have := hb4.size; have := (bW1 wr).size; simp; omega) (j + 1) (by rw [HL.out]) (m0 ++ [x]) rfl ?_; intro a5 c5 u5 ho5 hg5 hb5 hat5)
            | (go_at_call 9; refine by_same (two a5 (j + 1) c5 (m0 ++ [x]) u5 (Row.of_rep ho5.is) (by omega)) ?_; rw [HX.out.1, HX.out.2]))
        all_goals
          have hB5 : Below wr.heap.size wr u5 := by first | exact ((bW2 wr x).trans hb4).trans hb5 | exact ((bW3 wr x).trans hb4).trans hb5 | exact (bel_alloc ((bW1 wr).trans hb4) _).trans hb5
          clear hg4 hb4 hat4 ho4 hg5 hb5 hat5 ho5
          refine hMK _ _ (Met.intro (hRJ _ _ ?_))
          (repeat apply Exists.intro)
          refine ⟨?_, rfl⟩
          exact ⟨rfl, rfl, hB5⟩
      case rest =>
        obtain ⟨rfl, rfl, hB5⟩ := hcut
        have hA5 := Shape.low (Shape.below hA hB5)
        have hca5 : wc.cell? ⟨bl, ol + a, none⟩ = some (.int .i64 y) := (hB5.cell (World.block_lt_of_cell? wr _ hca)).trans hca
        have hbl5 : bl < wc.heap.size := by have := hB5.size; omega
        have hBw := bel_then hbel hB5
        have hn1' : some bl ≠ some wc.heap.size := by intro h; have := Option.some.inj h; omega
        have hn2' : some bl ≠ some (wc.heap.size + 1) := by intro h; have := Option.some.inj h; omega
        clear hA hca hcb hn1 hn2 hrow hbl hB5 hbel T1 HX
        have hwr : IntKind.i64.wrap (y + 1) = y + 1 := by rw [IntKind.wrap_i64]; omega
        go_upto_region 13 with fail
        go_cut [10, 11] from 12 (fun v8 v9 wx => v8 = .int .i64 j ∧ v9 = .int .i64 a ∧ Below wc.heap.size wc wx)
        case first =>
          rename_i Jx Kx hRJ hMK
          set_option maxRecDepth 100000 in
          go_region_held3 (fun w' => w'.cell? ⟨bl, ol + a, none⟩ = some (.int .i64 y))
            (first
              | go_keep
              | (rw [hb5.cell (by exact hbl5)]; first | assumption | go_keep)
              | (rw [hb4.cell (by exact hbl5)]; first | assumption | go_keep))
            (first
              | (refine step_app (intS .i64) (by simp [Region.wanted]) (.tmp 70) (.tmp 71) 22 (by rfl) wc.heap.size 3 i0 (.int .i64 0) 8 Try.underlying22 hi0 hz0 hz1 hz2 rfl Nat.one_pos (by omega) (by rfl) (own1 wc) (by rfl) (Shape.now hA5 (bW1 wc)) (Own.apart (own1 wc) (Nat.le_refl _)) (by simp; omega) (bW1 wc).size j (by simp) m0 (by rfl) ?_; intro a4 c4 u4 ho4 hg4 hb4 hat4)
              | (refine step_app (intS .i64) (by simp [Region.wanted]) (.tmp 70) (.tmp 71) 22 (by rfl) wc.heap.size 3 i0 (.int .i64 0) 8 Try.underlying22 hi0 hz0 hz1 hz2 rfl Nat.one_pos (by omega) (by rfl) (own2 wc (y + 1)) (by rfl) (Shape.now hA5 (bW2 wc (y + 1))) (Own.apart (own2 wc (y + 1)) (Nat.le_refl _)) (by simp; omega) (bW2 wc (y + 1)).size j (by simp) m0 (by rfl) ?_; intro a4 c4 u4 ho4 hg4 hb4 hat4; have hsrc := src2 hg4 hat4)
              | (refine step_app (intS .i64) (by simp [Region.wanted]) (.tmp 70) (.tmp 71) 22 (by rfl) wc.heap.size 3 i0 (.int .i64 0) 8 Try.underlying22 hi0 hz0 hz1 hz2 rfl Nat.one_pos (by omega) (by rfl) (own3 wc (y + 1)) (by rfl) (Shape.now hA5 (bW3 wc (y + 1))) (Own.apart (own3 wc (y + 1)) (Nat.le_refl _)) (by simp; omega) (bW3 wc (y + 1)).size j (by simp) m0 (by rfl) ?_; intro a4 c4 u4 ho4 hg4 hb4 hat4; have hsrc := src3 hg4 hat4)
              | (refine step_app (intS .i64) (by simp [Region.wanted]) (.tmp 72) (.tmp 78) 22 (by rfl) wc.heap.size 3 i0 (.int .i64 0) 8 Try.underlying22 hi0 hz0 hz1 hz2 rfl Nat.one_pos (by omega) (by rfl) ho4 (by rfl) hsrc.1 hsrc.2 (by have := HL.out; omega) (by have := hb4.size; have := (bW2 wc (y + 1)).size; have := (bW3 wc (y + 1)).size; omega) (j + 1) (by rw [HL.out]) (m0 ++ [y + 1]) rfl ?_; intro a5 c5 u5 ho5 hg5 hb5 hat5)
              | (refine step_app (intS .i64) (by simp [Region.wanted]) (.tmp 72) (.tmp 78) 22 (by rfl) wc.heap.size 3 i0 (.int .i64 0) 8 Try.underlying22 hi0 hz0 hz1 hz2 rfl Nat.one_pos (by omega) (by rfl) (ho4.keep (new_bel u4 _)) (by rfl) (src1 (x := y + 1) ho4).1 (src1 (x := y + 1) ho4).2 (by have := HL.out; omega) (by have := hb4.size; have := (bW1 wc).size; simp; omega) (j + 1) (by rw [HL.out]) (m0 ++ [y + 1]) rfl ?_; intro a5 c5 u5 ho5 hg5 hb5 hat5)
              | (go_at_call 9; refine by_same (two a5 (j + 1) c5 (m0 ++ [y + 1]) u5 (Row.of_rep ho5.is) (by omega)) ?_; rw [HY.out.1, HY.out.2]))
          all_goals
            have hB6 : Below wc.heap.size wc u5 := by first | exact ((bW2 wc (y + 1)).trans hb4).trans hb5 | exact ((bW3 wc (y + 1)).trans hb4).trans hb5 | exact (bel_alloc ((bW1 wc).trans hb4) _).trans hb5
            clear hg4 hb4 hat4 ho4 hg5 hb5 hat5 ho5
            refine hMK _ _ (Met.intro (hRJ _ _ ?_))
            (repeat apply Exists.intro)
            refine ⟨?_, rfl⟩
            exact ⟨rfl, rfl, hB6⟩
        case rest =>
          rename_i wd
          obtain ⟨rfl, rfl, hB6⟩ := hcut
          have hB7 := bel_then hBw hB6
          clear hA5 hca5 hbl5 hBw hn1' hn2' hB6
          have e1 : ((a : Int) == (a : Int)) = true := by simp
          have e2 : ((b : Int) == (b : Int)) = true := by simp
          have e3 : ((j : Int) == (j : Int)) = true := by simp
          go_wp2_with fail
          refine (tawake _).mono ?_
          rintro e W9 ⟨rfl, hb9⟩
          have hB9 := bel_then hB7 hb9
          go_wp2
          go_ret
          exact ⟨rfl, hB9⟩

/- From the walk to the row. -/
set_option maxRecDepth 100000 in
theorem lifted (os : Os) (started : os.Started) (H : Type) (enc : TypeId × Value → H) :
    ReturnsInHanded {} Try.checked os 5 .any (Rows.topMoreSpec.pre6 enc Try.prog Try.f5 Rows.topMoreRow.domain false) (Rows.topMoreSpec.post enc Try.prog Try.f5 false true false false) := by
  refine returnsInHanded_of_change (C := Try.checked) own started (by kernel_rfl) Try.func5
    (ChangeSpec.witness6 (enc := enc) (C := Try.checked) false ⟨#[], #[.slice none 0 0], []⟩ 8 (by kernel_rfl) (by kernel_rfl) (by kernel_rfl) (by kernel_rfl)) ?_
  intro W base args ds gs before hval0 hW hcnd _
  have hval : ∀ (j : Nat) t v, Try.f5.params[j]? = some t → args[j]? = some v → Value.okWide Try.prog W .any base t v := hval0
  have hW' := hW
  obtain ⟨p, q, hA0, hV, rfl, hfz, hnd⟩ := hW
  have hA : DataW.TrodAll enc Try.prog W 0 (fun _ => true) true Try.f5.params.toList args.toList ds p := hA0
  rw [Try.params5] at hA hval
  obtain ⟨v0, vs0, d0, ds0, p0, q0, hargs, rfl, rfl, h0, r0⟩ := trodAll_cons hA
  obtain ⟨rfl, rfl, rfl⟩ := trodAll_nil r0
  obtain rfl : args = #[v0] := by cases args; simp_all
  obtain ⟨rfl, rfl⟩ := trodVars_none hV
  obtain ⟨a0, len0, cap0, rfl⟩ := okWide_slice Try.underlying29 (hval 0 29 v0 rfl rfl)
  have k0 := h0
  have lt0 : ∀ x ∈ p0, x.block < W.heap.size := by obtain ⟨m, hm⟩ := k0; exact DataW.trod_lt m _ _ _ hm
  obtain ⟨m0, w0, f0⟩ : ∃ y, (sliceS (intS .i32)).rep W everywhere [.slice a0 len0 cap0] y ∧ ∀ x0 ∈ y, (Lit.int .i32 x0).wf = true := by
    obtain ⟨fuel, hf⟩ := h0
    exact (opens_slice (A := (intS .i32)) Try.underlying29 (show Try.prog.cellsOf 21 = 1 by kernel_rfl) (by exact Nat.one_pos) (opens_int Try.underlying21)) H enc W _ _ _ fuel _ _ hf
  clear hA0 hval0
  refine (walk a0 len0 cap0 m0 W w0 f0).mono fun e W' ⟨he, bel⟩ => ?_
  subst he
  exact ⟨_, rfl, _, _, _, [], _, [], hW', trodAll_mk1 (shut_bool Try.underlying4 _), (trodAll_cons_mk (Below.trod laidOut (by kernel_rfl) (of_decide_eq_true (by kernel_rfl)) k0 bel lt0) trodAll_mk0), rfl, bel.frame _, fun h => by cases h⟩

theorem over : Rows.topMoreRow.holds Try.pinned (OpenSpec.ofChange Rows.topMoreSpec) :=
  OpenClaim.holds_of_wide 5 Try.f5 rfl rfl rfl rfl rfl rfl rfl ⟨rfl, rfl, rfl, rfl, rfl⟩ rfl rfl rfl rfl rfl (by kernel_rfl) Try.func5 (by kernel_rfl)
    (of_decide_eq_true (by kernel_rfl)) (by unfold Func.isWrapper; first | (rw [if_pos (by decide +kernel)]; kernel_rfl) | (rw [if_neg (by decide +kernel)]; exact ⟨rfl, rfl⟩))
    (fun os started H enc _ => lifted os started H enc)

end Go.Proofs.Ytlmglgcahopcpaa.topMore

namespace Go.Proofs.Ytlmglgcahopcpaa
theorem topMore_holds : Rows.TopMoreSaid := topMore.over
end Go.Proofs.Ytlmglgcahopcpaa
