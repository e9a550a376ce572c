/- With each key that is fresh there is an entry more, and all that were entered are found, each as it was. -/
import Derived.Test.YtfbghicknaldcaaRows
import Derived.Test.YtfbghicknaldcaaLedC
import Derived.WalkKit
import Derived.ProofKit
import Derived.OpenShut
import Derived.ShutString
import Derived.ChangeOld
import Derived.Below
namespace Go.Proofs.Ytfbghicknaldcaa.ledgerGrows
open Go.ChangeShapes Go.WideShapes Go.ChangeAt Go.RowKit
open Go.ChangeMaps (open_string shut_string)
set_option linter.unusedVariables false

theorem own : ownKnob Try.prog.godebug = none := by kernel_rfl
theorem laidOut : laidOutB Try.prog = true := by kernel_rfl

/-- Two small numbers side by side. -/
abbrev Du := Int × Int × Unit
abbrev duS : Shape Du := consS (intS .u8) (consS (intS .u8) noneS)
def du0 : Du := (0, 0, ())
theorem du_at {w : World} {F : Nat → Prop} {a : Option Addr} {n c : Nat} {l : List Du} (h : (sliceS duS).rep w F [.slice a n c] l) {j : Nat} (hj : j < n) :
    ∃ b off, a = some ⟨b, off, none⟩ ∧ b < w.heap.size ∧ w.cell? ⟨b, off + j * 2, none⟩ = some (.int .u8 (l.getD j du0).1) ∧ w.cell? ⟨b, off + j * 2 + 1, none⟩ = some (.int .u8 (l.getD j du0).2.1) := by
  have hl := (sliceS_len h).1
  obtain ⟨b, off, cs, ha, hF, hb, hc, hr⟩ := sliceS_at h (by show 0 < 2; omega) (j := j) (by omega)
  have e : l.getD j du0 = l[j] := by rw [List.getD_eq_getElem?_getD, List.getElem?_eq_getElem (by omega)]; rfl
  rw [e]
  obtain ⟨d1, rfl, h1⟩ := consS_int hr
  obtain ⟨d2, rfl, h2⟩ := consS_int h1
  exact ⟨b, off, ha, hb, hc 0 _ rfl, hc 1 _ rfl⟩
/-- Each entry is of two numbers, that are its row; the first k of the keys are there. -/
def Holds (l : List En) (m : List Du) (k : Nat) : Prop :=
  l.length ≤ k ∧ (∀ e ∈ l, ∃ a b : Int, e = en (ky a 0 b 0) [a, b]) ∧ ∀ j, j < k → ¬ Dx.No l (ky (m.getD j du0).1 0 (m.getD j du0).2.1 0)
theorem holds_none (m : List Du) : Holds [] m 0 := ⟨Nat.le_refl _, fun e he => by simp at he, fun j hj => absurd hj (Nat.not_lt_zero _)⟩
theorem Holds.short {l : List En} {m : List Du} {k : Nat} (h : Holds l m k) (hk : k ≤ 1000) : Dx.Short l := ⟨by have := h.1; omega, fun e he => by obtain ⟨a, b, rfl⟩ := h.2.1 e he; show 2 ≤ 1000; omega⟩
theorem Holds.new {l : List En} {m : List Du} {k : Nat} {a b : Int} (h : Holds l m k) (ha : (m.getD k du0).1 = a) (hb : (m.getD k du0).2.1 = b) (hno : Dx.No l (ky a 0 b 0)) : Holds (l ++ [en (ky a 0 b 0) [a, b]]) m (k + 1) := by
  obtain ⟨h1, h2, h3⟩ := h
  refine ⟨by rw [List.length_append]; show l.length + 1 ≤ k + 1; omega, fun e he => ?_, fun j hj => ?_⟩
  · rcases List.mem_append.1 he with he | he
    · exact h2 e he
    · exact ⟨a, b, List.mem_singleton.1 he⟩
  · by_cases e : j = k
    · subst e; rw [ha, hb]; exact (hno.new [a, b]).not_no
    · rcases Dx.first_or_no l (ky (m.getD j du0).1 0 (m.getD j du0).2.1 0) with h4 | ⟨i, h4⟩
      · exact absurd h4 (h3 j (by omega))
      · exact (h4.more _).not_no
theorem Holds.old {l : List En} {m : List Du} {k i : Nat} {a b : Int} (h : Holds l m k) (ha : (m.getD k du0).1 = a) (hb : (m.getD k du0).2.1 = b) (hf : Dx.First l (ky a 0 b 0) i) : Holds l m (k + 1) := by
  obtain ⟨h1, h2, h3⟩ := h
  refine ⟨by omega, h2, fun j hj => ?_⟩
  by_cases e : j = k
  · subst e; rw [ha, hb]; exact hf.not_no
  · exact h3 j (by omega)
theorem Holds.find {l : List En} {m : List Du} {k j : Nat} {a b : Int} (h : Holds l m k) (hj : j < k) (ha : (m.getD j du0).1 = a) (hb : (m.getD j du0).2.1 = b) : ∃ i, Dx.First l (ky a 0 b 0) i ∧ (l.getD i en0).2.1 = [a, b] := by
  obtain ⟨h1, h2, h3⟩ := h
  have h4 := h3 j hj
  rw [ha, hb] at h4
  rcases Dx.first_or_no l (ky a 0 b 0) with h5 | ⟨i, h5⟩
  · exact absurd h5 h4
  · refine ⟨i, h5, ?_⟩
    obtain ⟨a', b', h6⟩ := h2 _ (eget_mem h5.1)
    have h7 := h5.2.1
    rw [h6] at h7 ⊢
    have h8 : ky a' 0 b' 0 = ky a 0 b 0 := h7
    obtain ⟨rfl, _, rfl, _⟩ := ky_eq.1 h8
    rfl
theorem Holds.layer {l : List En} {m : List Du} {k : Nat} (h : Holds l m k) : Dx.No l (ky 0 1 0 0) := by
  intro j hj h7
  obtain ⟨a', b', h6⟩ := h.2.1 _ (eget_mem hj)
  rw [h6] at h7
  have h8 : ky a' 0 b' 0 = ky 0 1 0 0 := h7
  have := (ky_eq.1 h8).2.1
  omega
/- The walk: the call returns true, and nothing that was there is written. -/
set_option maxHeartbeats 4000000 in
set_option maxRecDepth 100000 in
theorem walk (a0 : Option Addr) (len0 cap0 : Nat) (m0 : List (Int × Int × Unit)) (w : World) (w0 : (sliceS (consS (intS .u8) (consS (intS .u8) noneS))).rep w everywhere [.slice a0 len0 cap0] m0) (f0 : (∀ x0 ∈ m0, ((Lit.int .u8 x0.1).wf = true ∧ ((Lit.int .u8 x0.2.1).wf = true ∧ True)))) :
    Calls Try.prog 5 #[.slice a0 len0 cap0] w fun e w' => e = .returned (.bool true) ∧ Below w.heap.size w w' := by
  have hA := Shape.low w0
  have hl0 := (sliceS_len w0).1
  have HU : Hid (∀ j, j < len0 → (0 ≤ (m0.getD j du0).1 ∧ (m0.getD j du0).1 ≤ 255) ∧ 0 ≤ (m0.getD j du0).2.1 ∧ (m0.getD j du0).2.1 ≤ 255) := fun j hj => by
    have h7 := f0 (m0.getD j du0) (by rw [List.getD_eq_getElem?_getD, List.getElem?_eq_getElem (by omega)]; exact List.getElem_mem _)
    exact ⟨bounds_u8 h7.1, bounds_u8 h7.2.1⟩
  clear w0 f0
  go_enter Try.func5, Try.ntmps5
  go_wp2
  go_loopw [3, 4, 5] (fun v3 v4 v5 wr => ∃ (k n : Nat) (a1 : Option Addr) (c1 : Nat) (l : List En), k ≤ len0 ∧ k ≤ 50 ∧ n ≤ k ∧ v3 = .slice a1 n c1 ∧ v4 = .int .i64 n ∧ v5 = .int .i64 k ∧ Holds l m0 k ∧ ensS.rep wr everywhere [.slice a1 n c1] l ∧ Below w.heap.size w wr) (fun _ _ i _ => 50 - (intOf i).toNat)
  case atStart => exact ⟨0, 0, none, 0, [], Nat.zero_le _, Nat.zero_le _, Nat.le_refl _, rfl, rfl, rfl, holds_none _, rep_none _ _ _, Below.refl _ _⟩
  case round =>
    obtain ⟨k, n, a1, c1, l, hk, hk2, hnk, rfl, rfl, rfl, hkeep, hrep, hbel⟩ := hrel
    have HK : Hid (Holds l m0 k) := hkeep
    clear hkeep
    by_cases hlt : k < len0 ∧ k < 50
    · obtain ⟨hlt1, hlt2⟩ := hlt
      have hli : (k : Int) < (len0 : Int) := by omega
      have hli2 : (k : Int) < 50 := by omega
      have hk0 : (0 : Int) ≤ (k : Int) := by omega
      obtain ⟨b1, o1, rfl, hbF, t0, t1⟩ := du_at (Shape.now hA hbel) hlt1
      have hub := HU.out k hlt1
      obtain ⟨x, hx⟩ : ∃ x, (m0.getD k du0).1 = x := ⟨_, rfl⟩
      obtain ⟨y, hy⟩ : ∃ y, (m0.getD k du0).2.1 = y := ⟨_, rfl⟩
      rw [hx] at t0
      rw [hy] at t1
      rw [hx, hy] at hub
      obtain ⟨⟨hx0, hx1⟩, hy0, hy1⟩ := hub
      have HXY : Hid ((m0.getD k du0).1 = x ∧ (m0.getD k du0).2.1 = y) := ⟨hx, hy⟩
      clear hx hy
      have wx : IntKind.i64.wrap x = x := by rw [IntKind.wrap_i64]; omega
      have wy : IntKind.i64.wrap y = y := by rw [IntKind.wrap_i64]; omega
      go_upto_region 6 with fail
      go_cut [6] from 24 to 59 (fun v6 wx => v6 = .pointer (some ⟨wr.heap.size, 0, none⟩) ∧ Box wx wr.heap.size 24 #[.int .i64 x, .int .i64 0, .int .i64 y, .int .i64 0] ∧ Below wr.heap.size wr wx)
      case first =>
        rename_i Jx Kx hRJ hMK
        go_region
        all_goals
          refine hMK _ _ (Met.intro (hRJ _ _ ?_))
          (repeat apply Exists.intro)
          refine ⟨?_, rfl⟩
          first
            | exact ⟨rfl, Box.draw (Box.new _ _ _), (new_bel _ _).drew⟩
            | exact ⟨rfl, Box.new _ _ _, new_bel _ _⟩
      case rest =>
        obtain ⟨rfl, kk, hb1⟩ := hcut
        have hB1 := bel_then hbel hb1
        have hr1 := Shape.below hrep hb1
        generalize wr.heap.size = g at *
        clear t0 t1 hrep hbel hb1
        obtain ⟨b', o', he, hbw, t0, t1⟩ := du_at (Shape.now hA hB1) hlt1
        have e := Option.some.inj he
        injection e with e1 e2 e3
        subst e1
        subst e2
        clear he e3
        rw [HXY.out.1] at t0
        rw [HXY.out.2] at t1
        have kp0 := kk.cell 0 rfl
        have kp1 := kk.cell 1 rfl
        have kp2 := kk.cell 2 rfl
        have kp3 := kk.cell 3 rfl
        have hD : Below wc.heap.size wc wc.drew := (Below.refl _ wc).drew
        have hbn : Below wc.heap.size wc (wc.alloc (.cells #[.int .i64 x, .int .i64 y] 3)).drew := (new_bel _ _).drew
        have hv1 : rowS.rep (wc.alloc (.cells #[.int .i64 x, .int .i64 y] 3)).drew everywhere [.slice (some ⟨wc.heap.size, 0, none⟩) 2 2] [x, y] := Shape.below (row_lit wc [x, y] 3 (by simp [maxLen])) (Below.refl _ _).drew
        go_upto_region 7 with fail
        rcases Dx.first_or_no l (ky x 0 y 0) with hno | ⟨i, hfi⟩
        · obtain ⟨L, hL⟩ : ∃ L, l ++ [en (ky x 0 y 0) [x, y]] = L := ⟨_, rfl⟩
          have hkeep2 := HK.out.new HXY.out.1 HXY.out.2 hno
          have hc1 : Hid (Calls _ _ _ _ _) := lenter_to a1 n c1 l x 0 y 0 (some ⟨wc.heap.size, 0, none⟩) 2 2 [x, y] _ (Shape.below hr1 hbn) (HK.out.short (by omega)) hv1 (by omega) hno (n + 1) rfl L hL
          rw [hL] at hkeep2
          have HK2 : Hid (Holds L m0 (k + 1)) := hkeep2
          clear hkeep2 hno hL
          go_cut [7, 8] from 37 to 59 (fun v7 v8 wx => ∃ (a2 : Option Addr) (c2 : Nat), v7 = .slice a2 (n + 1) c2 ∧ v8 = .bool true ∧ ensS.rep wx everywhere [.slice a2 (n + 1) c2] L ∧ Below w.heap.size w wx)
          case first =>
            rename_i Jx Kx hRJ hMK
            have HH : Hid (∀ u, Below wc.heap.size wc u → u.cell? ⟨b1, o1 + k * 2, none⟩ = some (.int .u8 x) ∧ u.cell? ⟨b1, o1 + k * 2 + 1, none⟩ = some (.int .u8 y) ∧ u.cell? ⟨g, 0, none⟩ = some (.int .i64 x) ∧ u.cell? ⟨g, 1, none⟩ = some (.int .i64 0) ∧ u.cell? ⟨g, 2, none⟩ = some (.int .i64 y) ∧ u.cell? ⟨g, 3, none⟩ = some (.int .i64 0)) := fun u hu => ⟨(hu.cell hbw).trans t0, (hu.cell hbw).trans t1, (kk.keep hu).cell 0 rfl, (kk.keep hu).cell 1 rfl, (kk.keep hu).cell 2 rfl, (kk.keep hu).cell 3 rfl⟩
            go_region_held3 (fun w' => w'.cell? ⟨b1, o1 + k * 2, none⟩ = some (.int .u8 x) ∧ w'.cell? ⟨b1, o1 + k * 2 + 1, none⟩ = some (.int .u8 y) ∧ w'.cell? ⟨g, 0, none⟩ = some (.int .i64 x) ∧ w'.cell? ⟨g, 1, none⟩ = some (.int .i64 0) ∧ w'.cell? ⟨g, 2, none⟩ = some (.int .i64 y) ∧ w'.cell? ⟨g, 3, none⟩ = some (.int .i64 0))
              (first
                | exact HH.out _ hd3
                | exact HH.out _ hbn
                | exact HH.out _ hD
                | exact HH.out _ (Below.refl _ _)
                | go_keep)
              (first
                | (go_at_call 10; refine hc1.out.mono ?_; rintro e u1 ⟨hb3, a2, c2, rfl, hr2⟩; have hd3 := bel_then hbn hb3))
            all_goals
              refine hMK _ _ (Met.intro (hRJ _ _ ?_))
              (repeat apply Exists.intro)
              refine ⟨?_, rfl⟩
              exact ⟨a2, c2, rfl, rfl, Shape.any hr2, bel_then hB1 hd3⟩
          case rest =>
            obtain ⟨a2, c2, rfl, rfl, hr2, hB2⟩ := hcut
            clear t0 t1 kp0 kp1 kp2 kp3 kk hr1 hB1 hc1 hbn hv1 hD
            go_wp2
            go_roundw
            case rel => exact ⟨k + 1, n + 1, a2, c2, L, by omega, by omega, by omega, rfl, by go_num, by go_num, HK2.out, hr2, hB2⟩
            case measure => simp [intOf]; omega
        · have hkeep2 := HK.out.old HXY.out.1 HXY.out.2 hfi
          have hc1 : Hid (Calls _ _ _ _ _) := lenter_no a1 n c1 l x 0 y 0 (some ⟨wc.heap.size, 0, none⟩) 2 2 _ (Shape.below hr1 hbn) (HK.out.short (by omega)) i hfi
          have HK2 : Hid (Holds l m0 (k + 1)) := hkeep2
          clear hkeep2 hfi
          go_cut [7, 8] from 37 to 59 (fun v7 v8 wx => ∃ (a2 : Option Addr) (c2 : Nat), v7 = .slice a2 n c2 ∧ v8 = .bool false ∧ ensS.rep wx everywhere [.slice a2 n c2] l ∧ Below w.heap.size w wx)
          case first =>
            rename_i Jx Kx hRJ hMK
            have HH : Hid (∀ u, Below wc.heap.size wc u → u.cell? ⟨b1, o1 + k * 2, none⟩ = some (.int .u8 x) ∧ u.cell? ⟨b1, o1 + k * 2 + 1, none⟩ = some (.int .u8 y) ∧ u.cell? ⟨g, 0, none⟩ = some (.int .i64 x) ∧ u.cell? ⟨g, 1, none⟩ = some (.int .i64 0) ∧ u.cell? ⟨g, 2, none⟩ = some (.int .i64 y) ∧ u.cell? ⟨g, 3, none⟩ = some (.int .i64 0)) := fun u hu => ⟨(hu.cell hbw).trans t0, (hu.cell hbw).trans t1, (kk.keep hu).cell 0 rfl, (kk.keep hu).cell 1 rfl, (kk.keep hu).cell 2 rfl, (kk.keep hu).cell 3 rfl⟩
            go_region_held3 (fun w' => w'.cell? ⟨b1, o1 + k * 2, none⟩ = some (.int .u8 x) ∧ w'.cell? ⟨b1, o1 + k * 2 + 1, none⟩ = some (.int .u8 y) ∧ w'.cell? ⟨g, 0, none⟩ = some (.int .i64 x) ∧ w'.cell? ⟨g, 1, none⟩ = some (.int .i64 0) ∧ w'.cell? ⟨g, 2, none⟩ = some (.int .i64 y) ∧ w'.cell? ⟨g, 3, none⟩ = some (.int .i64 0))
              (first
                | exact HH.out _ hd3
                | exact HH.out _ hbn
                | exact HH.out _ hD
                | exact HH.out _ (Below.refl _ _)
                | go_keep)
              (first
                | (go_at_call 10; refine hc1.out.mono ?_; rintro e u1 ⟨hb3, a2, c2, rfl, hr2⟩; have hd3 := bel_then hbn hb3))
            all_goals
              refine hMK _ _ (Met.intro (hRJ _ _ ?_))
              (repeat apply Exists.intro)
              refine ⟨?_, rfl⟩
              exact ⟨a2, c2, rfl, rfl, Shape.any hr2, bel_then hB1 hd3⟩
          case rest =>
            obtain ⟨a2, c2, rfl, rfl, hr2, hB2⟩ := hcut
            clear t0 t1 kp0 kp1 kp2 kp3 kk hr1 hB1 hc1 hbn hv1 hD
            go_wp2
            go_roundw
            case rel => exact ⟨k + 1, n, a2, c2, l, by omega, by omega, by omega, rfl, by go_num, by go_num, HK2.out, hr2, hB2⟩
            case measure => simp [intOf]; omega
    · have hend : (¬ (k : Int) < (len0 : Int)) ∨ ((k : Int) < (len0 : Int) ∧ ¬ (k : Int) < 50) := by omega
      have HEnd : Hid (∀ t : Nat, t < len0 → t < 50 → t < k) := fun t h1 h2 => by omega
      clear hlt
      obtain ⟨W0, hW0⟩ : ∃ W0, W0 = wr := ⟨_, rfl⟩
      subst hW0
      have hnn : ((n : Int) == (n : Int)) = true := by simp
      rcases hend with hli | ⟨hli, hli2⟩
      all_goals
        go_wp2
        go_loopw [9] (fun v9 wr2 => ∃ t : Nat, t ≤ len0 ∧ t ≤ 50 ∧ v9 = .int .i64 t ∧ Below W0.heap.size W0 wr2) (fun i _ => 50 - (intOf i).toNat)
        case atStart => exact ⟨0, Nat.zero_le _, Nat.zero_le _, rfl, Below.refl _ _⟩
        case round =>
          clear hli
          try clear hli2
          obtain ⟨t, ht, ht5, rfl, hbel2⟩ := hrel
          have hB2 := bel_then hbel hbel2
          have hr2 := Shape.below hrep hbel2
          by_cases htl : t < len0 ∧ t < 50
          · obtain ⟨htl1, htl2⟩ := htl
            have hti : (t : Int) < (len0 : Int) := by omega
            have hti2 : (t : Int) < 50 := by omega
            have ht0 : (0 : Int) ≤ (t : Int) := by omega
            obtain ⟨b1, o1, rfl, hbw, t0, t1⟩ := du_at (Shape.now hA hB2) htl1
            have hub := HU.out t htl1
            obtain ⟨x, hx⟩ : ∃ x, (m0.getD t du0).1 = x := ⟨_, rfl⟩
            obtain ⟨y, hy⟩ : ∃ y, (m0.getD t du0).2.1 = y := ⟨_, rfl⟩
            obtain ⟨i, hfi, hva⟩ := HK.out.find (HEnd.out t htl1 htl2) hx hy
            rw [hx] at t0
            rw [hy] at t1
            rw [hx, hy] at hub
            obtain ⟨⟨hx0, hx1⟩, hy0, hy1⟩ := hub
            clear hx hy
            have wx : IntKind.i64.wrap x = x := by rw [IntKind.wrap_i64]; omega
            have wy : IntKind.i64.wrap y = y := by rw [IntKind.wrap_i64]; omega
            have hD : Below wr.heap.size wr wr.drew := (Below.refl _ wr).drew
            have hc2 : Hid (Calls _ _ _ _ _) := lfind_at a1 n c1 l x 0 y 0 wr.drew (Shape.below hr2 hD) (HK.out.short (by omega)) i hfi [x, y] hva 2 rfl
            clear hfi hva
            go_upto_region 14 with fail
            go_cut [10, 11] from 70 to 118 (fun v10 v11 wx => ∃ (a5 : Option Addr) (c5 : Nat), v10 = .slice a5 2 c5 ∧ v11 = .bool true ∧ rowS.rep wx everywhere [.slice a5 2 c5] [x, y] ∧ Below wr.heap.size wr wx)
            case first =>
              rename_i Jx Kx hRJ hMK
              go_region_with
                (go_at_call 9; refine hc2.out.mono ?_; rintro e u1 ⟨hb3, a5, c5, rfl, hr5⟩)
              all_goals
                refine hMK _ _ (Met.intro (hRJ _ _ ?_))
                (repeat apply Exists.intro)
                refine ⟨?_, rfl⟩
                exact ⟨a5, c5, rfl, rfl, Shape.any hr5, bel_then hD hb3⟩
            case rest =>
              obtain ⟨a5, c5, rfl, rfl, hr5, hb5⟩ := hcut
              have z0 := (hb5.cell hbw).trans t0
              have z1 := (hb5.cell hbw).trans t1
              obtain ⟨b6, o6, rfl, _, hc6⟩ := (Row.of_rep hr5).at (j := 0) (by omega)
              obtain ⟨b7, o7, he, _, hc7⟩ := (Row.of_rep hr5).at (j := 1) (by omega)
              have e := Option.some.inj he
              injection e with e1 e2 e3
              subst e1
              subst e2
              clear he e3
              rw [Nat.add_zero] at hc6
              simp only [List.getD_cons_zero, List.getD_cons_succ] at hc6 hc7
              have hne9 : Nonempty (Later wc) := Later.there wc
              have y0 : ∀ x9 : Later wc, x9.u.cell? ⟨b1, o1 + t * 2, none⟩ = some (.int .u8 x) := fun x9 => x9.cell z0
              have y1 : ∀ x9 : Later wc, x9.u.cell? ⟨b1, o1 + t * 2 + 1, none⟩ = some (.int .u8 y) := fun x9 => x9.cell z1
              have y2 : ∀ x9 : Later wc, x9.u.cell? ⟨b6, o6, none⟩ = some (.int .i64 x) := fun x9 => x9.cell hc6
              have y3 : ∀ x9 : Later wc, x9.u.cell? ⟨b6, o6 + 1, none⟩ = some (.int .i64 y) := fun x9 => x9.cell hc7
              have ex : (x != x) = false := by simp
              have ey : (y != y) = false := by simp
              clear t0 t1 z0 z1 hc6 hc7 hc2 hr5
              go_wp2
              refine region_later (by kernel_rfl) (by kernel_rfl) ?_
              repeat (go_big_quiet_step (fail))
              refine wpQuiet_nil ?_
              intro x9
              obtain ⟨u3, hb6⟩ := x9
              go_wp2
              go_roundw
              case rel => exact ⟨t + 1, by omega, by omega, by go_num, bel_then (bel_then hbel2 hb5) hb6⟩
              case measure => simp [intOf]; omega
          · have hend : (¬ (t : Int) < (len0 : Int)) ∨ ((t : Int) < (len0 : Int) ∧ ¬ (t : Int) < 50) := by omega
            clear htl
            have hc2 : Hid (Calls _ _ _ _ _) := lfind_no a1 n c1 l 0 1 0 0 wr hr2 (by omega) HK.out.layer
            rcases hend with hti | ⟨hti, hti2⟩
            all_goals
              go_wp2_with fail
              refine hc2.out.mono ?_
              rintro e u4 ⟨rfl, hb4⟩
              go_wp2_with (go_at_call 7; refine (dawake _).mono ?_; rintro e u6 ⟨rfl, hb6⟩)
              go_ret
              exact ⟨rfl, bel_then (bel_then hB2 hb4) hb6⟩

/- From the walk to the row. -/
set_option maxRecDepth 100000 in
theorem lifted (os : Os) (started : os.Started) (H : Type) (enc : TypeId × Value → H) :
    ReturnsInHanded {} Try.checked os 5 .any (Rows.ledgerGrowsSpec.pre6 enc Try.prog Try.f5 Rows.ledgerGrowsRow.domain false) (Rows.ledgerGrowsSpec.post enc Try.prog Try.f5 false true false false) := by
  refine returnsInHanded_of_change (C := Try.checked) own started (by kernel_rfl) Try.func5
    (ChangeSpec.witness6 (enc := enc) (C := Try.checked) false ⟨#[], #[.slice none 0 0], []⟩ 8 (by kernel_rfl) (by kernel_rfl) (by kernel_rfl) (by kernel_rfl)) ?_
  intro W base args ds gs before hval0 hW hcnd _
  have hval : ∀ (j : Nat) t v, Try.f5.params[j]? = some t → args[j]? = some v → Value.okWide Try.prog W .any base t v := hval0
  have hW' := hW
  obtain ⟨p, q, hA0, hV, rfl, hfz, hnd⟩ := hW
  have hA : DataW.TrodAll enc Try.prog W 0 (fun _ => true) true Try.f5.params.toList args.toList ds p := hA0
  rw [Try.params5] at hA hval
  obtain ⟨v0, vs0, d0, ds0, p0, q0, hargs, rfl, rfl, h0, r0⟩ := trodAll_cons hA
  obtain ⟨rfl, rfl, rfl⟩ := trodAll_nil r0
  obtain rfl : args = #[v0] := by cases args; simp_all
  obtain ⟨rfl, rfl⟩ := trodVars_none hV
  obtain ⟨a0, len0, cap0, rfl⟩ := okWide_slice Try.underlying43 (hval 0 43 v0 rfl rfl)
  have k0 := h0
  have lt0 : ∀ x ∈ p0, x.block < W.heap.size := by obtain ⟨m, hm⟩ := k0; exact DataW.trod_lt m _ _ _ hm
  obtain ⟨m0, w0, f0⟩ : ∃ y, (sliceS (consS (intS .u8) (consS (intS .u8) noneS))).rep W everywhere [.slice a0 len0 cap0] y ∧ (∀ x0 ∈ y, ((Lit.int .u8 x0.1).wf = true ∧ ((Lit.int .u8 x0.2.1).wf = true ∧ True))) := by
    obtain ⟨fuel, hf⟩ := h0
    exact (opens_slice (A := (consS (intS .u8) (consS (intS .u8) noneS))) Try.underlying43 (show Try.prog.cellsOf 44 = 2 by kernel_rfl) (by exact Nat.succ_pos _) (opens_array (A := (consS (intS .u8) (consS (intS .u8) noneS))) Try.underlying44 (show Try.prog.cellsOf 44 = 2 by kernel_rfl) (show Try.prog.cellsOf 5 = 1 by kernel_rfl) (fs := [elem 5 0, elem 5 1]) (by rfl) (opensAt_cons (f := elem 5 0) (A := (intS .u8)) rfl (show Try.prog.cellsOf 5 = 1 by kernel_rfl) (opens_int Try.underlying5) (opensAt_cons (f := elem 5 1) (A := (intS .u8)) rfl (show Try.prog.cellsOf 5 = 1 by kernel_rfl) (opens_int Try.underlying5) opensAt_nil (by rfl)) (by rfl)))) H enc W _ _ _ fuel _ _ hf
  clear hA0 hval0
  refine (walk a0 len0 cap0 m0 W w0 f0).mono fun e W' ⟨he, bel⟩ => ?_
  subst he
  exact ⟨_, rfl, _, _, _, [], _, [], hW', trodAll_mk1 (shut_bool Try.underlying4 _), (trodAll_cons_mk (Below.trod laidOut (by kernel_rfl) (of_decide_eq_true (by kernel_rfl)) k0 bel lt0) trodAll_mk0), rfl, bel.frame _, fun h => by cases h⟩

theorem over : Rows.ledgerGrowsRow.holds Try.pinned (OpenSpec.ofChange Rows.ledgerGrowsSpec) :=
  OpenClaim.holds_of_wide 5 Try.f5 rfl rfl rfl rfl rfl rfl rfl ⟨rfl, rfl, rfl, rfl, rfl⟩ rfl rfl rfl rfl rfl (by kernel_rfl) Try.func5 (by kernel_rfl)
    (of_decide_eq_true (by kernel_rfl)) (by unfold Func.isWrapper; first | (rw [if_pos (by decide +kernel)]; kernel_rfl) | (rw [if_neg (by decide +kernel)]; exact ⟨rfl, rfl⟩))
    (fun os started H enc _ => lifted os started H enc)

end Go.Proofs.Ytfbghicknaldcaa.ledgerGrows

namespace Go.Proofs.Ytfbghicknaldcaa
theorem ledgerGrows_holds : Rows.LedgerGrowsSaid := ledgerGrows.over
end Go.Proofs.Ytfbghicknaldcaa
