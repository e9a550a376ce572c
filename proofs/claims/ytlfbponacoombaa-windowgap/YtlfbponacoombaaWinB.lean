/- What window.settle and the document's Same of layer 9 do when called. -/
import Derived.Test.YtlfbponacoombaaWinA
namespace Go.Proofs.Ytlfbponacoombaa
open Go.ChangeShapes Go.WideShapes Go.ChangeAt Go.RowKit

/-- How long the slice is. -/
def lenV : Value → Nat
  | .slice _ n _ => n
  | _ => 0

theorem two_boxes (w : World) (t1 t2 : TypeId) (cs ds : Array Value) : Box ((w.alloc (.cells cs t1)).alloc (.cells ds t2)) w.heap.size t1 cs ∧ Box ((w.alloc (.cells cs t1)).alloc (.cells ds t2)) (w.heap.size + 1) t2 ds := by
  refine ⟨(Box.new w _ _).keep (new_bel _ _), ?_⟩
  have := Box.new (w.alloc (.cells cs t1)) t2 ds
  rwa [show (w.alloc (.cells cs t1)).heap.size = w.heap.size + 1 by simp] at this

set_option maxHeartbeats 1000000 in
theorem rsame (x : Int) (a : Option Addr) (n c : Nat) (l : List Int) (y : Int) (b : Option Addr) (m d : Nat) (r : List Int) (w : World) (h1 : rowS.rep w everywhere [.slice a n c] l) (h2 : rowS.rep w everywhere [.slice b m d] r) (hn : n ≤ 1000) :
    Calls Try.prog 11 #[.agg #[.int .i64 x, .slice a n c], .agg #[.int .i64 y, .slice b m d]] w fun e w' => Says e (x = y ∧ l = r) ∧ Below w.heap.size w w' := by
  have hl := (sliceS_len h1).1
  have hr := (sliceS_len h2).1
  have hA := Shape.low h1
  have hB := Shape.low h2
  clear h1 h2
  by_cases hxy : x = y
  · subst hxy
    have e1 : (x != x) = false := by simp
    by_cases hnm : n = m
    · subst hnm
      have e2 : ((n : Int) != (n : Int)) = false := by simp
      have HR : Hid ((x = x ∧ l = r) ↔ ∀ j, j < n → l.getD j 0 = r.getD j 0) := by
        show _ ↔ _
        constructor
        · rintro ⟨_, rfl⟩ j _; rfl
        · intro h
          refine ⟨rfl, List.ext_getElem (by omega) fun i g1 g2 => ?_⟩
          have := h i (by omega)
          rw [List.getD_eq_getElem?_getD, List.getD_eq_getElem?_getD, List.getElem?_eq_getElem g1, List.getElem?_eq_getElem g2] at this
          exact this
      generalize (x = x ∧ l = r) = R at *
      go_enter Try.func11, Try.ntmps11
      go_wp2
      go_loopw [5] (fun i wr => ∃ k : Nat, k ≤ n ∧ i = .int .i64 k ∧ (∀ j, j < k → l.getD j 0 = r.getD j 0) ∧ Box wr w.heap.size 26 #[.int .i64 x, .slice a n c] ∧ Box wr (w.heap.size + 1) 26 #[.int .i64 x, .slice b n d] ∧ Below w.heap.size w wr) (fun i _ => n - (intOf i).toNat)
      case atStart => exact ⟨0, Nat.zero_le _, rfl, fun j hj => by omega, (two_boxes w _ _ _ _).1, (two_boxes w _ _ _ _).2, bel_alloc (new_bel _ _) _⟩
      case round =>
        obtain ⟨k, hk, rfl, hgood, hb1, hb2, hbel⟩ := hrel
        have p1 := hb1.cell 1 rfl
        have p2 := hb2.cell 1 rfl
        by_cases hlt : k < n
        · obtain ⟨g1, o1, rfl, _, c1⟩ := (Row.of_rep (Shape.now hA hbel)).at hlt
          obtain ⟨g2, o2, rfl, _, c2⟩ := (Row.of_rep (Shape.now hB hbel)).at hlt
          have hli : (k : Int) < (n : Int) := by omega
          have hk0 : (0 : Int) ≤ (k : Int) := by omega
          have HX : Hid (∀ k' : Nat, k' = k + 1 → l.getD k 0 = r.getD k 0 → ∀ j, j < k' → l.getD j 0 = r.getD j 0) := fun k' e hf j hj => by
            by_cases ej : j = k
            · subst ej; exact hf
            · exact hgood j (by omega)
          have HN : Hid (R → l.getD k 0 = r.getD k 0) := fun h => HR.out.1 h k hlt
          clear hgood
          generalize l.getD k 0 = p at *
          generalize r.getD k 0 = q at *
          by_cases hpq : p = q
          · have e3 : (p != q) = false := by simp [hpq]
            have HE : Hid (p = q) := hpq
            clear hpq
            go_wp2
            go_quiet (fail)
            go_wp2
            go_roundw
            case rel => exact ⟨k + 1, by omega, by go_num, HX.out _ rfl HE.out, hb1, hb2, bel_drewN hbel _⟩
            case measure => simp [intOf]; omega
          · have e3 : (p != q) = true := by simp [hpq]
            clear hb1 hb2
            go_wp2
            go_quiet (fail)
            go_wp2
            go_ret
            exact ⟨Says.no fun h => hpq (HN.out h), bel_drewN hbel _⟩
        · have hkn : k = n := by omega
          subst hkn
          have hli : ¬ (k : Int) < (k : Int) := by omega
          go_wp2
          go_ret
          exact ⟨Says.yes (HR.out.2 hgood), hbel⟩
    · have e2 : ((n : Int) != (m : Int)) = true := by simp; omega
      have HR : Hid (¬ (x = x ∧ l = r)) := by rintro ⟨_, rfl⟩; omega
      generalize (x = x ∧ l = r) = R at *
      go_enter Try.func11, Try.ntmps11
      go_wp2
      go_ret
      exact ⟨Says.no HR.out, bel_alloc (new_bel _ _) _⟩
  · have e1 : (x != y) = true := by simp [hxy]
    go_enter Try.func11, Try.ntmps11
    go_wp2
    go_ret
    exact ⟨Says.no fun h => hxy h.1, bel_alloc (new_bel _ _) _⟩

theorem Shape.stay {α : Type} {A : Shape α} {w u : World} {F : Nat → Prop} {cs : List Value} {x : α} (h : A.rep w (fun b => F b ∧ b < w.heap.size) cs x) (hb : Below w.heap.size w u) : A.rep u (fun b => F b ∧ b < w.heap.size) cs x :=
  A.keep h fun b hF _ => hb.block b hF.2

/-- The numbers of a window, none too great. -/
def Small (l : List Int) : Prop := ∀ x ∈ l, 0 ≤ x ∧ x ≤ 2147483647
theorem Small.tail {l : List Int} (h : Small l) : Small l.tail := fun x hx => h x (List.mem_of_mem_tail hx)
theorem Small.head {l : List Int} (h : Small l) (hl : 0 < l.length) : 0 ≤ l.getD 0 0 ∧ l.getD 0 0 ≤ 2147483647 := h _ (Nx.getD_mem hl)

set_option maxHeartbeats 1000000 in
theorem settle (low : Int) (a : Option Addr) (n c : Nat) (l : List Int) (w : World) (F : Nat → Prop) (h : rowS.rep w F [.slice a n c] l) (hn : n ≤ 33) (hlow : 0 ≤ low ∧ low ≤ 2147483648) (hs : Small l) (S : Win) (hS : Nx.settled low l = S) :
    Calls Try.prog 16 #[.int .i64 low, .slice a n c] w fun e w' => Below w.heap.size w w' ∧ ∃ a' n' c', e = .returned (.agg #[.int .i64 S.low, .slice a' n' c']) ∧ rowS.rep w' F [.slice a' n' c'] S.seen := by
  have hA : rowS.rep w (fun b => F b ∧ b < w.heap.size) [.slice a n c] l := rowS.mono h fun b hb hlt => ⟨hb, hlt⟩
  have HS : Hid (Nx.settled low l = S) := hS
  clear h hS
  go_enter Try.func16, Try.ntmps16
  go_wp2
  go_loopw [0, 1] (fun v0 v1 wr => ∃ (x : Int) (a1 : Option Addr) (n1 c1 : Nat) (l1 : List Int), v0 = .int .i64 x ∧ v1 = .slice a1 n1 c1 ∧ rowS.rep w (fun b => F b ∧ b < w.heap.size) [.slice a1 n1 c1] l1 ∧ Nx.settled x l1 = S ∧ n1 ≤ 33 ∧ 0 ≤ x ∧ x ≤ 2147483648 ∧ Small l1 ∧ Box wr w.heap.size 24 #[.int .i64 0, .slice none 0 0] ∧ Below w.heap.size w wr) (fun _ v1 _ => lenV v1)
  case atStart => exact ⟨low, a, n, c, l, rfl, rfl, hA, HS.out, hn, hlow.1, hlow.2, hs, Box.new _ _ _, new_bel _ _⟩
  case round =>
    clear hA HS hs hlow hn
    obtain ⟨x, a1, n1, c1, l1, rfl, rfl, hr1, hS1, hn1, hx0, hx1, hs1, hbox, hbel⟩ := hrel
    have hl1 := (sliceS_len hr1).1
    by_cases h32 : 32 < n1
    · have h32i : (32 : Int) < (n1 : Int) := by omega
      have h0i : (0 : Int) < (n1 : Int) := by omega
      obtain ⟨D, hD, hrD⟩ := tail_cut hr1 (by omega)
      obtain ⟨b1, o1, rfl, _, hcell⟩ := (Row.of_rep (Shape.stay hr1 hbel)).at (show 0 < n1 by omega)
      rw [Nat.add_zero] at hcell
      have hh := hs1.head (by omega)
      have HC : Hid (Nx.settled (l1.getD 0 0 + 1) l1.tail = S) := by show _ = _; rw [← hS1]; unfold Nx.settled; rw [Nx.cut_long (low := x) (l := l1) (by omega)]
      have HT : Hid (Small l1.tail) := hs1.tail
      have hw1 : IntKind.i64.wrap (l1.getD 0 0 + 1) = l1.getD 0 0 + 1 := by rw [IntKind.wrap_i64]; omega
      clear hS1 hs1 hr1
      generalize l1.tail = t at *
      generalize l1.getD 0 0 = y at *
      go_wp2
      go_quiet (fail)
      go_wp2
      go_roundw
      case rel => exact ⟨y + 1, D, n1 - 1, c1 - 1, t, rfl, rfl, hrD, HC.out, by omega, by omega, by omega, HT.out, hbox, bel_drewN hbel _⟩
      case measure => show n1 - 1 < n1; omega
    · have h32i : ¬ (32 : Int) < (n1 : Int) := by omega
      have HS1 : Hid (Nx.run x l1 = S) := by show _ = _; rw [← hS1]; unfold Nx.settled; rw [Nx.cut_short (by omega)]
      clear hS1
      go_wp2
      go_loopw [0, 1] (fun v0 v1 wr => ∃ (x : Int) (a1 : Option Addr) (n1 c1 : Nat) (l1 : List Int), v0 = .int .i64 x ∧ v1 = .slice a1 n1 c1 ∧ rowS.rep w (fun b => F b ∧ b < w.heap.size) [.slice a1 n1 c1] l1 ∧ Nx.run x l1 = S ∧ 0 ≤ x ∧ x ≤ 2147483648 ∧ Small l1 ∧ Box wr w.heap.size 24 #[.int .i64 0, .slice none 0 0] ∧ Below w.heap.size w wr) (fun _ v1 _ => lenV v1)
      case atStart => exact ⟨x, a1, n1, c1, l1, rfl, rfl, hr1, HS1.out, hx0, hx1, hs1, hbox, hbel⟩
      case round =>
        clear hr1 HS1 hs1 hx0 hx1 hbox hbel hl1 hn1 h32 h32i
        obtain ⟨x, a1, n1, c1, l1, rfl, rfl, hr1, hS1, hx0, hx1, hs1, hbox, hbel⟩ := hrel
        have hl1 := (sliceS_len hr1).1
        have f0 := hbox.free 0
        have f1 := hbox.free 1
        have z0 := hbox.cell 0 rfl
        have z1 := hbox.cell 1 rfl
        by_cases hp : 0 < n1
        · have h0i : (0 : Int) < (n1 : Int) := by omega
          obtain ⟨D, hD, hrD⟩ := tail_cut hr1 (by omega)
          have hrow := (Row.of_rep (Shape.stay hr1 hbel)).at hp
          obtain ⟨b1, o1, rfl, _, hcell⟩ := hrow
          rw [Nat.add_zero] at hcell
          have hh := hs1.head (by omega)
          have HT : Hid (Small l1.tail) := hs1.tail
          have HX : Hid (l1.getD 0 0 = x → Nx.run (x + 1) l1.tail = S) := fun e => by rw [← Nx.run_step (by omega) e]; exact hS1
          have HY : Hid (l1.getD 0 0 ≠ x → (⟨x, l1⟩ : Win) = S) := fun e => by rw [← Nx.run_stop (.inr e)]; exact hS1
          have HR : Hid (rowS.rep w (fun b => F b ∧ b < w.heap.size) [.slice (some ⟨b1, o1, none⟩) n1 c1] l1) := hr1
          clear hS1 hs1 hr1
          generalize l1.tail = t at *
          generalize l1.getD 0 0 = y at *
          by_cases hxy : y = x
          · have e1 : (y == x) = true := by simp [hxy]
            have hw1 : IntKind.i64.wrap (x + 1) = x + 1 := by rw [IntKind.wrap_i64]; omega
            have HE : Hid (y = x) := hxy
            have hx2 : x ≤ 2147483647 := by omega
            clear hxy
            go_wp2
            go_quiet (fail)
            go_wp2
            go_roundw
            case rel => exact ⟨x + 1, D, n1 - 1, c1 - 1, t, rfl, rfl, hrD, HX.out HE.out, by omega, by omega, HT.out, hbox, bel_drewN hbel _⟩
            case measure => show n1 - 1 < n1; omega
          · have e1 : (y == x) = false := by simp [hxy]
            have HW := HY.out hxy
            subst HW
            go_wp2
            refine ret_one Try.underlying24 Try.infoWin rfl rfl rfl (hbox.all2 _ _) rfl ?_
            refine ⟨bel_all2 hbel (Nat.le_refl _) _ _, some ⟨b1, o1, none⟩, n1, c1, rfl, rowS.mono (Shape.all2 (Shape.stay HR.out hbel) (fun k hk _ => by have := hk.2; omega) _ _) fun b hb _ => hb.1⟩
        · have h0i : ¬ (0 : Int) < (n1 : Int) := by omega
          have HW : (⟨x, l1⟩ : Win) = S := by rw [← Nx.run_stop (.inl (by omega))]; exact hS1
          subst HW
          have HR : Hid (rowS.rep w (fun b => F b ∧ b < w.heap.size) [.slice a1 n1 c1] l1) := hr1
          clear hS1 hr1
          go_wp2
          refine ret_one Try.underlying24 Try.infoWin rfl rfl rfl (hbox.all2 _ _) rfl ?_
          refine ⟨bel_all2 hbel (Nat.le_refl _) _ _, a1, n1, c1, rfl, rowS.mono (Shape.all2 (Shape.stay HR.out hbel) (fun k hk _ => by have := hk.2; omega) _ _) fun b hb _ => hb.1⟩

end Go.Proofs.Ytlfbponacoombaa
