/- What model's choose and Parts do when called. -/
import Derived.Test.YtokfcjgfpchffaaGreatDoorMdlA
import Derived.Test.YtokfcjgfpchffaaGreatDoorJt
import Derived.Test.YtokfcjgfpchffaaGreatDoorKa
namespace Go.Proofs.YtokfcjgfpchffaaGreatDoor
open Go.ChangeShapes Go.WideShapes Go.ChangeAt Go.RowKit

/-! ### Lists that are filled from their head -/
section
variable {w : World} {F : Nat → Prop} {a : Option Addr} {n c : Nat}
theorem pt_there {ps : List Pt} (h : ptsS.rep w F [.slice a n c] ps) {j : Nat} (hj : j < n) :
    ∃ b off p q r s, a = some ⟨b, off, none⟩ ∧ b < w.heap.size ∧ ps.getD j pt0 = pt p q r s ∧ w.cell? ⟨b, off + j * 4, none⟩ = some (.int .i64 p) ∧ w.cell? ⟨b, off + j * 4 + 1, none⟩ = some (.int .i64 q) ∧
      w.cell? ⟨b, off + j * 4 + 2, none⟩ = some (.int .i64 r) ∧ w.cell? ⟨b, off + j * 4 + 3, none⟩ = some (.int .i64 s) := by
  obtain ⟨b, off, ha, _, hb, c0, c1, c2, c3⟩ := pt_at h hj
  exact ⟨b, off, (ps.getD j pt0).1, (ps.getD j pt0).2.1, (ps.getD j pt0).2.2.1, (ps.getD j pt0).2.2.2.1, ha, hb, rfl, c0, c1, c2, c3⟩
end
/-- The element that 'append(v, x)' appends, of numbers alone: in a block of its own. -/
theorem Own.psrc {w : World} {base : Nat} {e : TypeId} {v : Value} {xs : List Pt} (t r x k : Int) (h : Own ptS w base e v xs) :
    ptsS.rep (w.alloc (.cells #[.int .i64 t, .int .i64 r, .int .i64 x, .int .i64 k] e)) (fun b => False ∨ b = w.heap.size) [.slice (some ⟨w.heap.size, 0, none⟩) 1 1] [pt t r x k] ∧ ∀ b, (False ∨ b = w.heap.size) → some b ≠ v.ownBlock := by
  refine ⟨rep_at (cs := [.int .i64 t, .int .i64 r, .int .i64 x, .int .i64 k]) (F := fun _ => False) (pt_rep _ _ t r x k) (heap_new _ _ _ rfl), fun b hb h' => ?_⟩
  have := (h.lt b h'.symm).2
  rcases hb with hf | rfl
  · exact hf
  · omega

namespace Md
/-- What is chosen for each token, as four numbers. -/
def chosen (g ts : List (List Int)) : List Pt := ts.map fun v => pt (first g v) (second g v) (w1 g v) (w2 g v)
def pairs (g ts : List (List Int)) : List Pr := ts.map fun v => (first g v, second g v, ())
theorem chosen_len (g ts : List (List Int)) : (chosen g ts).length = ts.length := by simp [chosen]
theorem pairs_len (g ts : List (List Int)) : (pairs g ts).length = ts.length := by simp [pairs]
theorem chosen_at (g : List (List Int)) {ts : List (List Int)} {j : Nat} (h : j < ts.length) : (chosen g ts).getD j pt0 = pt (first g (ts.getD j [])) (second g (ts.getD j [])) (w1 g (ts.getD j [])) (w2 g (ts.getD j [])) := by
  unfold chosen
  rw [List.getD_eq_getElem?_getD, List.getElem?_map, List.getD_eq_getElem?_getD, List.getElem?_eq_getElem h]
  rfl
theorem pairs_at (g : List (List Int)) {ts : List (List Int)} {j : Nat} (h : j < ts.length) : (pairs g ts).getD j (0, 0, ()) = (first g (ts.getD j []), second g (ts.getD j []), ()) := by
  unfold pairs
  rw [List.getD_eq_getElem?_getD, List.getElem?_map, List.getD_eq_getElem?_getD, List.getElem?_eq_getElem h]
  rfl
theorem pairs_flat (g ts : List (List Int)) : flat (pairs g ts) = wants g ts := by
  unfold flat pairs wants duo
  rw [List.flatMap_map]
theorem pt_eq {p q r s p' q' r' s' : Int} (h : pt p q r s = pt p' q' r' s') : p = p' ∧ q = q' ∧ r = r' ∧ s = s' := by
  injection h with h1 h2; injection h2 with h2 h3; injection h3 with h3 h4; injection h4 with h4 h5; exact ⟨h1, h2, h3, h4⟩
/-- Each has a choice. -/
def Picks (g ts : List (List Int)) : Prop := ∀ v ∈ ts, Gx.Is g v (first g v) (second g v) (w1 g v) (w2 g v) true ∧ v.length ≤ 1000
theorem picks {l : Ly} {ts : List (List Int)} {dim : Int} (hl : LRight l dim) (ht : TRight dim ts) (hd : dim ≤ 8) : Picks l.1 ts := fun v hv => ⟨choice_is hl (ht.2.2.2 v hv).1, by have := (ht.2.2.2 v hv).1; omega⟩
theorem want_bound {l : Ly} {ts : List (List Int)} {dim : Int} (hl : LRight l dim) (ht : TRight dim ts) : ∀ x ∈ wants l.1 ts, -1 ≤ x ∧ x ≤ 8 := by
  intro x hx
  obtain ⟨v, hv, hx⟩ := List.mem_flatMap.1 hx
  have h1 := (choice_is hl (ht.2.2.2 v hv).1).form
  have h2 := hl.gate
  have h3 := hl.2.1
  rcases List.mem_cons.1 hx with rfl | hx
  · rcases h1 with ⟨_, h, _⟩ | ⟨_, i, j, hi, hj, _, h, _⟩ <;> omega
  · have hx := List.mem_singleton.1 hx
    subst hx
    rcases h1 with ⟨_, _, h, _⟩ | ⟨_, i, j, hi, hj, _, _, h, _⟩ <;> omega
theorem want_fit {l : Ly} {ts : List (List Int)} {dim : Int} (hl : LRight l dim) (ht : TRight dim ts) : ∀ x ∈ wants l.1 ts, (Lit.int .i64 x).wf = true := by
  intro x hx
  have := want_bound hl ht x hx
  exact WalkArith.wf_i64 (by omega)
end Md

theorem Tryz.infoChoiceAll : (Tryz.prog.info? 165).map (fun i => (i.zero, i.size, i.bytes)) = some (some (.agg #[.int .i64 0, .int .i64 0, .int .i64 0, .int .i64 0]), 4, 32) := by kernel_rfl
theorem Tryz.infoPart : (Tryz.prog.info? 95).map (fun i => (i.zero, i.size, i.bytes)) = some (some (.agg #[.int .i64 0, .int .i64 0, .int .i64 0, .int .i64 0]), 4, 32) := by kernel_rfl

set_option maxRecDepth 100000 in
set_option maxHeartbeats 2000000 in
theorem mchoose (ag : Option Addr) (ng cg : Nat) (b : Option Addr) (m d : Nat) (g ts : List (List Int)) (w : World) (hg : matS.rep w everywhere [.slice ag ng cg] g) (ht : matS.rep w everywhere [.slice b m d] ts) (hng : ng ≤ 1000) (hm : m ≤ 1000) (hp : Md.Picks g ts) :
    Calls Tryz.prog 120 #[.slice ag ng cg, .slice b m d] w fun e w' => Below w.heap.size w w' ∧ ∃ B, e = .returned (.slice (some ⟨B, 0, none⟩) m m) ∧ Own ptS w' w.heap.size 165 (.slice (some ⟨B, 0, none⟩) m m) (Md.chosen g ts) := by
  have hl := (sliceS_len ht).1
  obtain ⟨i0, hi0, hi1, hi2, hi3⟩ := info_parts Tryz.infoChoiceAll
  have HL : Hid (ts.length = m) := hl
  have HG : Hid (matS.rep w everywhere [.slice ag ng cg] g) := hg
  have HT : Hid (matS.rep w everywhere [.slice b m d] ts) := ht
  have HP : Hid (Md.Picks g ts) := hp
  clear hl hg ht hp
  go_enter Tryz.func120, Tryz.ntmps120
  go_wp2_with (at_make; refine wpList_make_full _ rfl _ _ 163 rfl w.heap.size 165 i0 (.agg #[.int .i64 0, .int .i64 0, .int .i64 0, .int .i64 0]) 4 Tryz.underlying163 hi0 hi1 hi2 _ _ _ _ m rfl rfl (by rfl) (by rfl) ?b2 ?b3 (Nat.le_refl _) ?_)
  case b2 => rw [hi3]; omega
  case b3 => unfold maxLen; omega
  intro u0 hown0 hg0
  have hb0 : Below w.heap.size w u0 := (Below.refl _ _).grown hg0 (Nat.le_refl _) (fun g hg => by cases hg)
  have HO : Hid (Own ptS u0 w.heap.size 165 (.slice (some ⟨w.heap.size, 0, none⟩) m m) (List.replicate m pt0)) :=
    Own.made (z := [.int .i64 0, .int .i64 0, .int .i64 0, .int .i64 0]) (by show 0 < 4; omega) rfl hown0 (fun F => pt_rep _ _ 0 0 0 0)
  clear hown0 hg0
  go_wp2
  go_loopw [15] (fun i wr => ∃ k : Nat, k ≤ m ∧ i = .int .i64 k ∧ Own ptS wr w.heap.size 165 (.slice (some ⟨w.heap.size, 0, none⟩) m m) (fillD pt0 (Md.chosen g ts) k) ∧ Below w.heap.size w wr) (fun i _ => m - (intOf i).toNat)
  case atStart => exact ⟨0, Nat.zero_le _, rfl, by rw [fillD_zero, Md.chosen_len, HL.out]; exact HO.out, hb0⟩
  case round =>
    clear HO hb0
    obtain ⟨k, hk, rfl, hown, hbel⟩ := hrel
    by_cases hlt : k < m
    · obtain ⟨b1, o1, A, C, rfl, _, hcell, hr⟩ := mat_at (Shape.below HT.out hbel) hlt
      have hli : (k : Int) < (m : Int) := by omega
      have hk0 : (0 : Int) ≤ (k : Int) := by omega
      have hkl : k < ts.length := by have := HL.out; omega
      obtain ⟨hI, hv9⟩ := HP.out _ (Mx.getD_mem ts k hkl)
      have hE := Md.chosen_at g hkl
      have hR := Row.of_rep hr
      generalize ts.getD k [] = v at *
      obtain ⟨p, hp⟩ : ∃ p, Md.first g v = p := ⟨_, rfl⟩
      obtain ⟨q, hq⟩ : ∃ q, Md.second g v = q := ⟨_, rfl⟩
      obtain ⟨r, hr2⟩ : ∃ r, Md.w1 g v = r := ⟨_, rfl⟩
      obtain ⟨s, hs⟩ : ∃ s, Md.w2 g v = s := ⟨_, rfl⟩
      rw [hp, hq, hr2, hs] at hI hE
      have HE : Hid ((Md.chosen g ts).getD k pt0 = pt p q r s) := hE
      have HC : Hid (Calls _ _ _ _ _) := choose ag A ng cg v.length C g v everywhere p q r s true wr (Shape.below HG.out hbel) hR hng hv9 hI
      clear hp hq hr2 hs hE hI hr hR
      go_wp2_with fail
      refine HC.out.mono ?_
      rintro e u1 ⟨rfl, hb1⟩
      have hbn := new_bel u1 (.cells #[.int .i64 p, .int .i64 q, .int .i64 r, .int .i64 s] 165)
      have hown3 := (hown.keep hb1).keep hbn
      have hB3 := bel_then (bel_then hbel hb1) hbn
      obtain ⟨z0, y0⟩ := hown3.cellK hlt (i := 0) (by show 0 < 4; omega)
      obtain ⟨z1, y1⟩ := hown3.cellK hlt (i := 1) (by show 1 < 4; omega)
      obtain ⟨z2, y2⟩ := hown3.cellK hlt (i := 2) (by show 2 < 4; omega)
      obtain ⟨z3, y3⟩ := hown3.cellK hlt (i := 3) (by show 3 < 4; omega)
      have x0 : (u1.alloc (.cells #[.int .i64 p, .int .i64 q, .int .i64 r, .int .i64 s] 165)).cell? ⟨w.heap.size, k * 4, none⟩ = some z0 := y0
      have x1 : (u1.alloc (.cells #[.int .i64 p, .int .i64 q, .int .i64 r, .int .i64 s] 165)).cell? ⟨w.heap.size, k * 4 + 1, none⟩ = some z1 := y1
      have x2 : (u1.alloc (.cells #[.int .i64 p, .int .i64 q, .int .i64 r, .int .i64 s] 165)).cell? ⟨w.heap.size, k * 4 + 2, none⟩ = some z2 := y2
      have x3 : (u1.alloc (.cells #[.int .i64 p, .int .i64 q, .int .i64 r, .int .i64 s] 165)).cell? ⟨w.heap.size, k * 4 + 3, none⟩ = some z3 := y3
      have f0 := hown3.freeK (k * 4)
      have f1 := hown3.freeK (k * 4 + 1)
      have f2 := hown3.freeK (k * 4 + 2)
      have f3 := hown3.freeK (k * 4 + 3)
      have hst := hown3.storeK hlt (pt_rep _ (fun _ => False) p q r s) (fun b hb => hb.elim)
      rw [fillD_set (by rw [Md.chosen_len]; exact hkl) HE.out] at hst
      have HST : Hid _ := And.intro hst (bel_run (vs := [.int .i64 p, .int .i64 q, .int .i64 r, .int .i64 s]) (i := k * 4) hB3 (Nat.le_refl w.heap.size))
      clear hst hown hown3 hB3 hbel hb1 hbn HC y0 y1 y2 y3 hcell
      go_wp2
      go_roundw
      case rel => exact ⟨k + 1, by omega, by go_num, HST.out.1, HST.out.2⟩
      case measure => simp [intOf]; omega
    · have hkn : k = m := by omega
      subst hkn
      have hli : ¬ (k : Int) < (k : Int) := by omega
      have e9 : fillD pt0 (Md.chosen g ts) k = Md.chosen g ts := by rw [← HL.out, ← Md.chosen_len g ts]; exact fillD_all _ _
      rw [e9] at hown
      clear e9
      go_wp2
      go_ret
      exact ⟨hbel, _, rfl, hown⟩

end Go.Proofs.YtokfcjgfpchffaaGreatDoor
