/- No number of any list of bytes is accepted twice, whatever came between, and every window that is answered is right; numbers in their order leave none among Seen. -/
import Derived.Test.YtlfbponacoombaaRows
import Derived.Test.YtlfbponacoombaaWinF
import Derived.WalkKit
import Derived.ProofKit
import Derived.OpenShut
import Derived.ShutString
import Derived.ChangeOld
import Derived.Below
namespace Go.Proofs.Ytlfbponacoombaa.windowOnce
open Go.ChangeShapes Go.WideShapes Go.ChangeAt Go.RowKit
open Go.ChangeMaps (open_string shut_string)
set_option linter.unusedVariables false

theorem own : ownKnob Try.prog.godebug = none := by kernel_rfl
theorem laidOut : laidOutB Try.prog = true := by kernel_rfl

/- The walk: the call returns true, and nothing that was there is written. -/
set_option maxHeartbeats 4000000 in
theorem walk (a0 : Option Addr) (len0 cap0 : Nat) (m0 : List Int) (w : World) (w0 : (sliceS (intS .u8)).rep w everywhere [.slice a0 len0 cap0] m0) (f0 : (∀ x0 ∈ m0, (Lit.int .u8 x0).wf = true)) :
    Calls Try.prog 4 #[.slice a0 len0 cap0] w fun e w' => e = .returned (.bool true) ∧ Below w.heap.size w w' := by
  have hA := Shape.low w0
  have hl0 := (sliceS_len w0).1
  have HU : Hid (∀ j, j < len0 → 0 ≤ m0.getD j 0 ∧ m0.getD j 0 ≤ 255) := fun j hj => bounds_u8 (f0 _ (Nx.getD_mem (by omega)))
  clear w0 f0
  obtain ⟨Z, hZ⟩ : ∃ Z, Z = List.replicate 256 false := ⟨_, rfl⟩
  have hz : ∀ u : World, (zeroValue 36).run Try.prog u = .ok (.agg (Z.map Value.bool).toArray) u := fun u => by rw [hZ]; exact zeros256 u
  have HG : Hid (Got Z ⟨0, []⟩) := by show Got _ _; rw [hZ]; exact got_none
  clear hZ
  obtain ⟨q1, q2⟩ := two_boxes w 24 36 #[.int .i64 0, .slice none 0 0] (Z.map Value.bool).toArray
  have HQ : Hid (Box ((w.alloc (.cells #[.int .i64 0, .slice none 0 0] 24)).alloc (.cells (Z.map Value.bool).toArray 36)) w.heap.size 24 #[.int .i64 0, .slice none 0 0] ∧ Box ((w.alloc (.cells #[.int .i64 0, .slice none 0 0] 24)).alloc (.cells (Z.map Value.bool).toArray 36)) (w.heap.size + 1) 36 (Z.map Value.bool).toArray) := ⟨q1, q2⟩
  clear q1 q2
  go_enter Try.func4, Try.ntmps4
  go_wp2
  go_loopw [5] (fun v5 wr => ∃ (k : Nat) (L : Int) (l : List Int) (a1 : Option Addr) (n1 c1 : Nat) (bs : List Bool), k ≤ len0 ∧ k ≤ 200 ∧ v5 = .int .i64 k ∧ Got bs ⟨L, l⟩ ∧ rowS.rep wr (fun b => b ≠ w.heap.size ∧ b ≠ w.heap.size + 1) [.slice a1 n1 c1] l ∧ Box wr w.heap.size 24 #[.int .i64 L, .slice a1 n1 c1] ∧ Box wr (w.heap.size + 1) 36 (bs.map Value.bool).toArray ∧ Below w.heap.size w wr) (fun i _ => 200 - (intOf i).toNat)
  case atStart => exact ⟨0, 0, [], none, 0, 0, Z, Nat.zero_le _, Nat.zero_le _, rfl, HG.out, rep_none _ _ _, HQ.out.1, HQ.out.2, bel_alloc (new_bel _ _) _⟩
  case round =>
    clear HQ HG hz
    obtain ⟨k, L, l, a1, n1, c1, bs, hk, hk2, rfl, hgot, hrep, hbox, harr, hbel⟩ := hrel
    have hl := (sliceS_len hrep).1
    have hn1 : n1 ≤ 1000 := by have := hgot.2.1.2.2.1; simp only at this; omega
    have p0 := hbox.cell 0 rfl
    have p1 := hbox.cell 1 rfl
    by_cases hlt : k < len0 ∧ k < 200
    · obtain ⟨hlt1, hlt2⟩ := hlt
      have hli : (k : Int) < (len0 : Int) := by omega
      have hli2 : (k : Int) < 200 := by omega
      have hk0 : (0 : Int) ≤ (k : Int) := by omega
      obtain ⟨b1, o1, rfl, hbF, hcell⟩ := (Row.of_rep (Shape.now hA hbel)).at hlt1
      obtain ⟨x, hx⟩ : ∃ x : Nat, m0.getD k 0 = (x : Int) := ⟨(m0.getD k 0).toNat, by have := HU.out k hlt1; omega⟩
      have hx256 : x < 256 := by have := HU.out k hlt1; omega
      rw [hx] at hcell
      obtain ⟨⟨L2, l2⟩, b, hstep⟩ := step_there ⟨L, l⟩ (x : Int)
      obtain ⟨n2, hn2⟩ : ∃ n2, l2.length = n2 := ⟨_, rfl⟩
      obtain ⟨hfalse, hgot2⟩ := got_step hgot hx256 hstep
      have hb2 : n2 ≤ 1000 := by have := hgot2.2.1.2.2.1; simp only at this; omega
      have HS : Hid (Step ⟨L, l⟩ ⟨L2, l2⟩ (x : Int) b) := hstep
      have HN : Hid (l2.length = n2) := hn2
      have HG2 : Hid (Got (bs.set x (bs.getD x false || b)) ⟨L2, l2⟩) := hgot2
      have HFa : Hid (b = true → bs.getD x false = false) := hfalse
      have HBL : Hid (bs.length = 256) := hgot.1
      have HR2 : Hid (Nx.Right ⟨L2, l2⟩) := hgot2.2.1
      have HXe : Hid (m0.getD k 0 = (x : Int)) := hx
      clear hx hstep hn2 hgot2 hfalse hgot
      have hlt0 := hbox.lt
      have hltA := harr.lt
      go_upto_region 6 with fail
      go_cut [6, 7] from 12 to 60 (fun v6 v7 wx => ∃ (g : Nat) (a2 : Option Addr) (c2 : Nat), v6 = .pointer (some ⟨g, 0, none⟩) ∧ v7 = .bool b ∧ w.heap.size + 2 ≤ g ∧ rowS.rep wx (fun b => b ≠ w.heap.size ∧ b ≠ w.heap.size + 1) [.slice a2 n2 c2] l2 ∧ Box wx w.heap.size 24 #[.int .i64 L, .slice a1 n1 c1] ∧ Box wx (w.heap.size + 1) 36 (bs.map Value.bool).toArray ∧ Box wx g 24 #[.int .i64 L2, .slice a2 n2 c2] ∧ Below w.heap.size w wx)
      case first =>
        rename_i Jx Kx hRJ hMK
        have hw : IntKind.i64.wrap (x : Int) = (x : Int) := by rw [IntKind.wrap_i64]; omega
        have hD : Below wr.heap.size wr wr.drew := (Below.refl _ wr).drew
        have hD2 : Below wr.heap.size wr (wr.alloc (.cells #[.int .i64 0, .slice none 0 0] 24)).drew := (new_bel wr _).drew
        have kZ : Box (wr.alloc (.cells #[.int .i64 0, .slice none 0 0] 24)).drew wr.heap.size 24 #[.int .i64 0, .slice none 0 0] := Box.new wr _ _
        have hszD : wr.drew.heap.size = wr.heap.size := rfl
        have hszE : (wr.alloc (.cells #[.int .i64 0, .slice none 0 0] 24)).drew.heap.size = wr.heap.size + 1 := by simp
        have HW : Hid (wr.drew.heap.size = wr.heap.size ∧ (wr.alloc (.cells #[.int .i64 0, .slice none 0 0] 24)).drew.heap.size = wr.heap.size + 1) := ⟨hszD, hszE⟩
        clear hszD hszE
        set_option maxRecDepth 100000 in
        go_region_with
          (first
            | (go_at_call 9; refine (accept_any L a1 n1 c1 l x wr.drew (Shape.any (Shape.below hrep hD)) hn1 L2 l2 b HS.out n2 HN.out).mono ?_; rintro e u4 ⟨hb4, a2, c2, rfl, hr4⟩)
            | (go_at_call 9; refine (accept_any L a1 n1 c1 l x (wr.alloc (.cells #[.int .i64 0, .slice none 0 0] 24)).drew (Shape.any (Shape.below hrep hD2)) hn1 L2 l2 b HS.out n2 HN.out).mono ?_; rintro e u5 ⟨hb5, a2, c2, rfl, hr5⟩; have kY := kZ.keep hb5; have y0 := kY.cell 0 rfl; have y1 := kY.cell 1 rfl; have g0 := kY.free 0; have g1 := kY.free 1))
        all_goals
          refine hMK _ _ (Met.intro (hRJ _ _ ?_))
          (repeat apply Exists.intro)
          refine ⟨?_, rfl⟩
          first
            | (have hb6 := bel_then (bel_then hD hb4) (new_bel u4 (.cells #[.int .i64 L2, .slice a2 n2 c2] 24))
               have hsz := hb4.size
               have hq := HW.out
               exact ⟨u4.heap.size, a2, c2, rfl, rfl, by omega, rowS.mono (Shape.below hr4 (new_bel u4 _)) (fun b hb _ => by omega), hbox.keep hb6, harr.keep hb6, Box.new u4 _ _, bel_then hbel hb6⟩)
            | (have hb6 := bel_all2 (bel_then hD2 hb5) (b := wr.heap.size) (Nat.le_refl _) (.int .i64 L2) (.slice a2 n2 c2)
               have hsz := hb5.size
               have hq := HW.out
               exact ⟨wr.heap.size, a2, c2, rfl, rfl, by omega, rowS.mono (Shape.all2 hr5 (fun k hk _ => by omega) _ _) (fun b hb _ => by omega), hbox.keep hb6, harr.keep hb6, kY.all2 _ _, bel_then hbel hb6⟩)
      case rest =>
        clear hrep hbox harr hbel p0 p1 hcell
        obtain ⟨g, a2, c2, rfl, rfl, hg, hr2, kw, ka, kv, hB⟩ := hcut
        obtain ⟨b', o', he, hbw, hcell2⟩ := (Row.of_rep (Shape.now hA hB)).at hlt1
        have e := Option.some.inj he
        injection e with e1 e2 e3
        subst e1
        subst e2
        clear he
        rw [HXe.out] at hcell2
        have hx0i : (0 : Int) ≤ (x : Int) := by omega
        have hxi : (x : Int) < 256 := by omega
        have v0 := kv.cell 0 rfl
        have v1 := kv.cell 1 rfl
        have HC0 : Hid ((bs.map Value.bool).toArray[x]? = some (.bool (bs.getD x false))) := by
          show _ = _
          rw [List.getElem?_toArray, List.getElem?_map, List.getD_eq_getElem?_getD, List.getElem?_eq_getElem (by have := HBL.out; omega)]
          rfl
        obtain ⟨y, hy⟩ : ∃ y, bs.getD x false = y := ⟨_, rfl⟩
        rw [hy] at HG2 HFa HC0
        have HC : Hid ((bs.map Value.bool).toArray[x]? = some (.bool y)) := HC0
        clear HC0 hy
        cases b <;> cases y
        · have ca := ka.cell x (v := .bool false) HC.out
          have fa := ka.free x
          go_upto_region 9 with (go_at_call 12; refine (right_yes L2 a2 n2 c2 l2 _ (Shape.any hr2) HR2.out).mono ?_; rintro e u6 ⟨rfl, hb6⟩)
          have hB6 := bel_then hB hb6
          have hr6 := Shape.below hr2 hb6
          have kw6 := kw.keep hb6
          have ka6 := ka.keep hb6
          have kv6 := kv.keep hb6
          have hcell6 := (hb6.cell hbw).trans hcell2
          clear hB hr2 kw ka kv hcell2 ca fa v0 v1
          have ca := ka6.cell x (v := .bool false) HC.out
          have fa := ka6.free x
          go_cut [7] from 12 to 60 (fun v7 wx => v7 = .bool false ∧ rowS.rep wx (fun b => b ≠ w.heap.size ∧ b ≠ w.heap.size + 1) [.slice a2 n2 c2] l2 ∧ Box wx w.heap.size 24 #[.int .i64 L, .slice a1 n1 c1] ∧ Box wx (w.heap.size + 1) 36 ((bs.set x false).map Value.bool).toArray ∧ Box wx g 24 #[.int .i64 L2, .slice a2 n2 c2] ∧ Below w.heap.size w wx)
          case first =>
            rename_i Jx Kx hRJ hMK
            have HK : Hid (rowS.rep (u6.setCell ⟨w.heap.size + 1, x, none⟩ (.bool false)).drew (fun b => b ≠ w.heap.size ∧ b ≠ w.heap.size + 1) [.slice a2 n2 c2] l2 ∧ Box (u6.setCell ⟨w.heap.size + 1, x, none⟩ (.bool false)).drew w.heap.size 24 #[.int .i64 L, .slice a1 n1 c1] ∧ Box (u6.setCell ⟨w.heap.size + 1, x, none⟩ (.bool false)).drew (w.heap.size + 1) 36 ((bs.set x false).map Value.bool).toArray ∧ Box (u6.setCell ⟨w.heap.size + 1, x, none⟩ (.bool false)).drew g 24 #[.int .i64 L2, .slice a2 n2 c2] ∧ Below w.heap.size w (u6.setCell ⟨w.heap.size + 1, x, none⟩ (.bool false)).drew) :=
              ⟨rowS.keep hr6 (fun b hb _ => Below.heap_setCell u6 _ _ b hb.2), (kw6.other _ (by omega)).draw, Box.draw (by have := ka6.set x (.bool false); rw [List.map_set]; simpa using this), (kv6.other _ (by omega)).draw, (bel_put hB6 (by omega) _).drew⟩
            clear hr6 kw6 ka6 kv6 hB6 hb6
            set_option maxRecDepth 100000 in
            go_region
            all_goals
              refine hMK _ _ (Met.intro (hRJ _ _ ?_))
              (repeat apply Exists.intro)
              refine ⟨?_, rfl⟩
              exact ⟨rfl, HK.out⟩
          case rest =>
            clear hr6 kw6 ka6 kv6 hB6 hb6 ca fa hcell6
            obtain ⟨rfl, hr7, kw7, ka7, kv7, hB7⟩ := hcut
            have v0 := kv7.cell 0 rfl
            have v1 := kv7.cell 1 rfl
            have p0 := kw7.cell 0 rfl
            have p1 := kw7.cell 1 rfl
            have f0 := kw7.free 0
            have f1 := kw7.free 1
            go_wp2
            go_roundw
            case rel =>
              exact ⟨k + 1, L2, l2, a2, n2, c2, _, by omega, by omega, by go_num, HG2.out, Shape.all2 hr7 (fun k hk _ => hk.1) _ _, kw7.all2 _ _, ka7.all2_other (by omega) _ _, bel_all2 hB7 (Nat.le_refl _) _ _⟩
            case measure => simp [intOf]; omega
        · have ca := ka.cell x (v := .bool true) HC.out
          have fa := ka.free x
          go_upto_region 9 with (go_at_call 12; refine (right_yes L2 a2 n2 c2 l2 _ (Shape.any hr2) HR2.out).mono ?_; rintro e u6 ⟨rfl, hb6⟩)
          have hB6 := bel_then hB hb6
          have hr6 := Shape.below hr2 hb6
          have kw6 := kw.keep hb6
          have ka6 := ka.keep hb6
          have kv6 := kv.keep hb6
          have hcell6 := (hb6.cell hbw).trans hcell2
          clear hB hr2 kw ka kv hcell2 ca fa v0 v1
          have ca := ka6.cell x (v := .bool true) HC.out
          have fa := ka6.free x
          go_cut [7] from 12 to 60 (fun v7 wx => v7 = .bool false ∧ rowS.rep wx (fun b => b ≠ w.heap.size ∧ b ≠ w.heap.size + 1) [.slice a2 n2 c2] l2 ∧ Box wx w.heap.size 24 #[.int .i64 L, .slice a1 n1 c1] ∧ Box wx (w.heap.size + 1) 36 ((bs.set x true).map Value.bool).toArray ∧ Box wx g 24 #[.int .i64 L2, .slice a2 n2 c2] ∧ Below w.heap.size w wx)
          case first =>
            rename_i Jx Kx hRJ hMK
            have HK : Hid (rowS.rep (u6.setCell ⟨w.heap.size + 1, x, none⟩ (.bool true)).drew (fun b => b ≠ w.heap.size ∧ b ≠ w.heap.size + 1) [.slice a2 n2 c2] l2 ∧ Box (u6.setCell ⟨w.heap.size + 1, x, none⟩ (.bool true)).drew w.heap.size 24 #[.int .i64 L, .slice a1 n1 c1] ∧ Box (u6.setCell ⟨w.heap.size + 1, x, none⟩ (.bool true)).drew (w.heap.size + 1) 36 ((bs.set x true).map Value.bool).toArray ∧ Box (u6.setCell ⟨w.heap.size + 1, x, none⟩ (.bool true)).drew g 24 #[.int .i64 L2, .slice a2 n2 c2] ∧ Below w.heap.size w (u6.setCell ⟨w.heap.size + 1, x, none⟩ (.bool true)).drew) :=
              ⟨rowS.keep hr6 (fun b hb _ => Below.heap_setCell u6 _ _ b hb.2), (kw6.other _ (by omega)).draw, Box.draw (by have := ka6.set x (.bool true); rw [List.map_set]; simpa using this), (kv6.other _ (by omega)).draw, (bel_put hB6 (by omega) _).drew⟩
            clear hr6 kw6 ka6 kv6 hB6 hb6
            set_option maxRecDepth 100000 in
            go_region
            all_goals
              refine hMK _ _ (Met.intro (hRJ _ _ ?_))
              (repeat apply Exists.intro)
              refine ⟨?_, rfl⟩
              exact ⟨rfl, HK.out⟩
          case rest =>
            clear hr6 kw6 ka6 kv6 hB6 hb6 ca fa hcell6
            obtain ⟨rfl, hr7, kw7, ka7, kv7, hB7⟩ := hcut
            have v0 := kv7.cell 0 rfl
            have v1 := kv7.cell 1 rfl
            have p0 := kw7.cell 0 rfl
            have p1 := kw7.cell 1 rfl
            have f0 := kw7.free 0
            have f1 := kw7.free 1
            go_wp2
            go_roundw
            case rel =>
              exact ⟨k + 1, L2, l2, a2, n2, c2, _, by omega, by omega, by go_num, HG2.out, Shape.all2 hr7 (fun k hk _ => hk.1) _ _, kw7.all2 _ _, ka7.all2_other (by omega) _ _, bel_all2 hB7 (Nat.le_refl _) _ _⟩
            case measure => simp [intOf]; omega
        · have ca := ka.cell x (v := .bool false) HC.out
          have fa := ka.free x
          go_upto_region 9 with (go_at_call 12; refine (right_yes L2 a2 n2 c2 l2 _ (Shape.any hr2) HR2.out).mono ?_; rintro e u6 ⟨rfl, hb6⟩)
          have hB6 := bel_then hB hb6
          have hr6 := Shape.below hr2 hb6
          have kw6 := kw.keep hb6
          have ka6 := ka.keep hb6
          have kv6 := kv.keep hb6
          have hcell6 := (hb6.cell hbw).trans hcell2
          clear hB hr2 kw ka kv hcell2 ca fa v0 v1
          have ca := ka6.cell x (v := .bool false) HC.out
          have fa := ka6.free x
          go_cut [7] from 12 to 60 (fun v7 wx => v7 = .bool true ∧ rowS.rep wx (fun b => b ≠ w.heap.size ∧ b ≠ w.heap.size + 1) [.slice a2 n2 c2] l2 ∧ Box wx w.heap.size 24 #[.int .i64 L, .slice a1 n1 c1] ∧ Box wx (w.heap.size + 1) 36 ((bs.set x true).map Value.bool).toArray ∧ Box wx g 24 #[.int .i64 L2, .slice a2 n2 c2] ∧ Below w.heap.size w wx)
          case first =>
            rename_i Jx Kx hRJ hMK
            have HK : Hid (rowS.rep (u6.setCell ⟨w.heap.size + 1, x, none⟩ (.bool true)).drew (fun b => b ≠ w.heap.size ∧ b ≠ w.heap.size + 1) [.slice a2 n2 c2] l2 ∧ Box (u6.setCell ⟨w.heap.size + 1, x, none⟩ (.bool true)).drew w.heap.size 24 #[.int .i64 L, .slice a1 n1 c1] ∧ Box (u6.setCell ⟨w.heap.size + 1, x, none⟩ (.bool true)).drew (w.heap.size + 1) 36 ((bs.set x true).map Value.bool).toArray ∧ Box (u6.setCell ⟨w.heap.size + 1, x, none⟩ (.bool true)).drew g 24 #[.int .i64 L2, .slice a2 n2 c2] ∧ Below w.heap.size w (u6.setCell ⟨w.heap.size + 1, x, none⟩ (.bool true)).drew) :=
              ⟨rowS.keep hr6 (fun b hb _ => Below.heap_setCell u6 _ _ b hb.2), (kw6.other _ (by omega)).draw, Box.draw (by have := ka6.set x (.bool true); rw [List.map_set]; simpa using this), (kv6.other _ (by omega)).draw, (bel_put hB6 (by omega) _).drew⟩
            clear hr6 kw6 ka6 kv6 hB6 hb6
            set_option maxRecDepth 100000 in
            go_region
            all_goals
              refine hMK _ _ (Met.intro (hRJ _ _ ?_))
              (repeat apply Exists.intro)
              refine ⟨?_, rfl⟩
              exact ⟨rfl, HK.out⟩
          case rest =>
            clear hr6 kw6 ka6 kv6 hB6 hb6 ca fa hcell6
            obtain ⟨rfl, hr7, kw7, ka7, kv7, hB7⟩ := hcut
            have v0 := kv7.cell 0 rfl
            have v1 := kv7.cell 1 rfl
            have p0 := kw7.cell 0 rfl
            have p1 := kw7.cell 1 rfl
            have f0 := kw7.free 0
            have f1 := kw7.free 1
            go_wp2
            go_roundw
            case rel =>
              exact ⟨k + 1, L2, l2, a2, n2, c2, _, by omega, by omega, by go_num, HG2.out, Shape.all2 hr7 (fun k hk _ => hk.1) _ _, kw7.all2 _ _, ka7.all2_other (by omega) _ _, bel_all2 hB7 (Nat.le_refl _) _ _⟩
            case measure => simp [intOf]; omega
        · exact absurd (HFa.out rfl) (by decide)
    by_cases hlt1 : k < len0
    · have hli : (k : Int) < (len0 : Int) := by omega
      have hli2 : ¬ (k : Int) < 200 := by omega
      go_wp2
      generalize hM : wr.heap.size = M at *
      have hM0 : w.heap.size + 2 ≤ M := by have := harr.lt; omega
      have k9 : Box (wr.alloc (.cells #[.int .i64 0, .slice none 0 0] 24)) M 24 #[.int .i64 0, .slice none 0 0] := hM ▸ Box.new wr _ _
      have hB9 := bel_alloc hbel (.cells #[.int .i64 0, .slice none 0 0] 24)
      clear hrep hbox harr hbel p0 p1 hM hgot
      go_loopw [61] (fun v61 wr => ∃ (j : Nat) (a3 : Option Addr) (c3 : Nat), j ≤ 50 ∧ v61 = .int .i64 j ∧ rowS.rep wr (· ≠ M) [.slice a3 0 c3] [] ∧ Box wr M 24 #[.int .i64 j, .slice a3 0 c3] ∧ Below w.heap.size w wr) (fun i _ => 50 - (intOf i).toNat)
      case atStart => exact ⟨0, none, 0, Nat.zero_le _, rfl, rep_none _ _ _, k9, hB9⟩
      case round =>
        clear k9 hB9
        obtain ⟨j, a3, c3, hj, rfl, hrep, hbox, hbel⟩ := hrel
        have p0 := hbox.cell 0 rfl
        have p1 := hbox.cell 1 rfl
        by_cases hlt3 : j < 50
        · have hlj : (j : Int) < 50 := by omega
          have HI : Hid (Nx.Fresh ⟨(j : Int), []⟩ j ∧ Nx.put ⟨(j : Int), []⟩ j = ⟨(j : Int) + 1, []⟩) := Nx.in_order ⟨by omega, by omega⟩
          have ej : ((j : Int) + 1 != (j : Int) + 1) = false := by simp
          go_wp2_with fail
          refine (accept_in j a3 0 c3 [] j wr (Shape.any hrep) (by omega) HI.out.1 _ _ HI.out.2 0 rfl).mono ?_
          rintro e u1 ⟨hb1, a4, c4, rfl, hr4⟩
          have hltM := hbox.lt
          have k1 := (hbox.keep hb1).keep (new_bel u1 (.cells #[.int .i64 ((j : Int) + 1), .slice a4 0 c4] 24))
          have hr5 : rowS.rep (u1.alloc (.cells #[.int .i64 ((j : Int) + 1), .slice a4 0 c4] 24)) (· ≠ M) [.slice a4 0 c4] [] := rowS.mono (Shape.below hr4 (new_bel u1 _)) fun b hb _ => by omega
          have hB5 := bel_alloc (bel_then hbel hb1) (.cells #[.int .i64 ((j : Int) + 1), .slice a4 0 c4] 24)
          clear hbox hrep hbel p0 p1 hr4
          have p0 := k1.cell 0 rfl
          have p1 := k1.cell 1 rfl
          have f0 := k1.free 0
          have f1 := k1.free 1
          go_wp2
          go_roundw
          case rel => exact ⟨j + 1, a4, c4, by omega, by go_num, Shape.all2 hr5 (fun k hk _ => hk) _ _, k1.all2 _ _, bel_all2 hB5 (by omega) _ _⟩
          case measure => simp [intOf]; omega
        · have hj50 : j = 50 := by omega
          subst hj50
          have hlj : ¬ ((50 : Nat) : Int) < 50 := by omega
          go_wp2_with (go_at_call 8; refine (wawake _).mono ?_; rintro e u6 ⟨rfl, hb6⟩)
          go_ret
          exact ⟨rfl, bel_then hbel hb6⟩
    · have hli : ¬ (k : Int) < (len0 : Int) := by omega
      go_wp2
      generalize hM : wr.heap.size = M at *
      have hM0 : w.heap.size + 2 ≤ M := by have := harr.lt; omega
      have k9 : Box (wr.alloc (.cells #[.int .i64 0, .slice none 0 0] 24)) M 24 #[.int .i64 0, .slice none 0 0] := hM ▸ Box.new wr _ _
      have hB9 := bel_alloc hbel (.cells #[.int .i64 0, .slice none 0 0] 24)
      clear hrep hbox harr hbel p0 p1 hM hgot
      go_loopw [61] (fun v61 wr => ∃ (j : Nat) (a3 : Option Addr) (c3 : Nat), j ≤ 50 ∧ v61 = .int .i64 j ∧ rowS.rep wr (· ≠ M) [.slice a3 0 c3] [] ∧ Box wr M 24 #[.int .i64 j, .slice a3 0 c3] ∧ Below w.heap.size w wr) (fun i _ => 50 - (intOf i).toNat)
      case atStart => exact ⟨0, none, 0, Nat.zero_le _, rfl, rep_none _ _ _, k9, hB9⟩
      case round =>
        clear k9 hB9
        obtain ⟨j, a3, c3, hj, rfl, hrep, hbox, hbel⟩ := hrel
        have p0 := hbox.cell 0 rfl
        have p1 := hbox.cell 1 rfl
        by_cases hlt3 : j < 50
        · have hlj : (j : Int) < 50 := by omega
          have HI : Hid (Nx.Fresh ⟨(j : Int), []⟩ j ∧ Nx.put ⟨(j : Int), []⟩ j = ⟨(j : Int) + 1, []⟩) := Nx.in_order ⟨by omega, by omega⟩
          have ej : ((j : Int) + 1 != (j : Int) + 1) = false := by simp
          go_wp2_with fail
          refine (accept_in j a3 0 c3 [] j wr (Shape.any hrep) (by omega) HI.out.1 _ _ HI.out.2 0 rfl).mono ?_
          rintro e u1 ⟨hb1, a4, c4, rfl, hr4⟩
          have hltM := hbox.lt
          have k1 := (hbox.keep hb1).keep (new_bel u1 (.cells #[.int .i64 ((j : Int) + 1), .slice a4 0 c4] 24))
          have hr5 : rowS.rep (u1.alloc (.cells #[.int .i64 ((j : Int) + 1), .slice a4 0 c4] 24)) (· ≠ M) [.slice a4 0 c4] [] := rowS.mono (Shape.below hr4 (new_bel u1 _)) fun b hb _ => by omega
          have hB5 := bel_alloc (bel_then hbel hb1) (.cells #[.int .i64 ((j : Int) + 1), .slice a4 0 c4] 24)
          clear hbox hrep hbel p0 p1 hr4
          have p0 := k1.cell 0 rfl
          have p1 := k1.cell 1 rfl
          have f0 := k1.free 0
          have f1 := k1.free 1
          go_wp2
          go_roundw
          case rel => exact ⟨j + 1, a4, c4, by omega, by go_num, Shape.all2 hr5 (fun k hk _ => hk) _ _, k1.all2 _ _, bel_all2 hB5 (by omega) _ _⟩
          case measure => simp [intOf]; omega
        · have hj50 : j = 50 := by omega
          subst hj50
          have hlj : ¬ ((50 : Nat) : Int) < 50 := by omega
          go_wp2_with (go_at_call 8; refine (wawake _).mono ?_; rintro e u6 ⟨rfl, hb6⟩)
          go_ret
          exact ⟨rfl, bel_then hbel hb6⟩

/- From the walk to the row. -/
set_option maxRecDepth 100000 in
theorem lifted (os : Os) (started : os.Started) (H : Type) (enc : TypeId × Value → H) :
    ReturnsInHanded {} Try.checked os 4 .any (Rows.windowOnceSpec.pre6 enc Try.prog Try.f4 Rows.windowOnceRow.domain false) (Rows.windowOnceSpec.post enc Try.prog Try.f4 false true false false) := by
  refine returnsInHanded_of_change (C := Try.checked) own started (by kernel_rfl) Try.func4
    (ChangeSpec.witness6 (enc := enc) (C := Try.checked) false ⟨#[], #[.slice none 0 0], []⟩ 8 (by kernel_rfl) (by kernel_rfl) (by kernel_rfl) (by kernel_rfl)) ?_
  intro W base args ds gs before hval0 hW hcnd _
  have hval : ∀ (j : Nat) t v, Try.f4.params[j]? = some t → args[j]? = some v → Value.okWide Try.prog W .any base t v := hval0
  have hW' := hW
  obtain ⟨p, q, hA0, hV, rfl, hfz, hnd⟩ := hW
  have hA : DataW.TrodAll enc Try.prog W 0 (fun _ => true) true Try.f4.params.toList args.toList ds p := hA0
  rw [Try.params4] at hA hval
  obtain ⟨v0, vs0, d0, ds0, p0, q0, hargs, rfl, rfl, h0, r0⟩ := trodAll_cons hA
  obtain ⟨rfl, rfl, rfl⟩ := trodAll_nil r0
  obtain rfl : args = #[v0] := by cases args; simp_all
  obtain ⟨rfl, rfl⟩ := trodVars_none hV
  obtain ⟨a0, len0, cap0, rfl⟩ := okWide_slice Try.underlying35 (hval 0 35 v0 rfl rfl)
  have k0 := h0
  have lt0 : ∀ x ∈ p0, x.block < W.heap.size := by obtain ⟨m, hm⟩ := k0; exact DataW.trod_lt m _ _ _ hm
  obtain ⟨m0, w0, f0⟩ : ∃ y, (sliceS (intS .u8)).rep W everywhere [.slice a0 len0 cap0] y ∧ (∀ x0 ∈ y, (Lit.int .u8 x0).wf = true) := by
    obtain ⟨fuel, hf⟩ := h0
    exact (opens_slice (A := (intS .u8)) Try.underlying35 (show Try.prog.cellsOf 5 = 1 by kernel_rfl) (by exact Nat.succ_pos _) (opens_int Try.underlying5)) H enc W _ _ _ fuel _ _ hf
  clear hA0 hval0
  refine (walk a0 len0 cap0 m0 W w0 f0).mono fun e W' ⟨he, bel⟩ => ?_
  subst he
  exact ⟨_, rfl, _, _, _, [], _, [], hW', trodAll_mk1 (shut_bool Try.underlying4 _), (trodAll_cons_mk (Below.trod laidOut (by kernel_rfl) (of_decide_eq_true (by kernel_rfl)) k0 bel lt0) trodAll_mk0), rfl, bel.frame _, fun h => by cases h⟩

theorem over : Rows.windowOnceRow.holds Try.pinned (OpenSpec.ofChange Rows.windowOnceSpec) :=
  OpenClaim.holds_of_wide 4 Try.f4 rfl rfl rfl rfl rfl rfl rfl ⟨rfl, rfl, rfl, rfl, rfl⟩ rfl rfl rfl rfl rfl (by kernel_rfl) Try.func4 (by kernel_rfl)
    (of_decide_eq_true (by kernel_rfl)) (by unfold Func.isWrapper; first | (rw [if_pos (by decide +kernel)]; kernel_rfl) | (rw [if_neg (by decide +kernel)]; exact ⟨rfl, rfl⟩))
    (fun os started H enc _ => lifted os started H enc)

end Go.Proofs.Ytlfbponacoombaa.windowOnce

namespace Go.Proofs.Ytlfbponacoombaa
theorem windowOnce_holds : Rows.WindowOnceSaid := windowOnce.over
end Go.Proofs.Ytlfbponacoombaa
