/- What the document's Accept of layer 9 does when called. -/
import Derived.Test.YtlfbponacoombaaWinC
namespace Go.Proofs.Ytlfbponacoombaa
open Go.ChangeShapes Go.WideShapes Go.ChangeAt Go.RowKit

/-- 'append(v, x)' of a row that the call owns: the number in a block of its own. -/
theorem own_src {w : World} {base : Nat} {v : Value} {xs : List Int} {e : TypeId} (x : Int) (h : Own (intS .i64) w base e v xs) :
    Own (intS .i64) (w.alloc (.cells #[.int .i64 x] e)) base e v xs ∧ rowS.rep (w.alloc (.cells #[.int .i64 x] e)) (fun b => False ∨ b = w.heap.size) [.slice (some ⟨w.heap.size, 0, none⟩) 1 1] [x] ∧ (∀ b, (False ∨ b = w.heap.size) → some b ≠ v.ownBlock) :=
  ⟨h.keep (new_bel w _), (Own.src x h).1, (Own.src x h).2⟩

theorem row_at {w : World} {F : Nat → Prop} {a : Option Addr} {n c : Nat} {l : List Int} (h : rowS.rep w F [.slice a n c] l) {j : Nat} (hj : j < n) :
    ∃ b off, a = some ⟨b, off, none⟩ ∧ F b ∧ b < w.heap.size ∧ w.cell? ⟨b, off + j, none⟩ = some (.int .i64 (l.getD j 0)) := by
  have hl := (sliceS_len h).1
  obtain ⟨b, off, cs, rfl, hF, hb, _⟩ := sliceS_at h (by exact Nat.one_pos) (j := j) (by omega)
  obtain ⟨b', off', he, _, hc⟩ := (Row.of_rep h).at hj
  have e := Option.some.inj he
  injection e with e1 e2 e3
  subst e1; subst e2
  exact ⟨b, off, rfl, hF, hb, hc⟩

set_option maxHeartbeats 4000000 in
set_option maxRecDepth 100000 in
theorem raccept (low : Int) (a : Option Addr) (n c : Nat) (l : List Int) (x : Int) (w : World) (h : rowS.rep w everywhere [.slice a n c] l) (V : Win) (hV : Nx.put ⟨low, l⟩ x = V) :
    Calls Try.prog 10 #[.agg #[.int .i64 low, .slice a n c], .int .i64 x] w fun e w' => Took e w' everywhere ⟨low, l⟩ V x ∧ Below w.heap.size w w' := by
  have hl := (sliceS_len h).1
  have hA := Shape.low h
  obtain ⟨i0, hi0, hi1, hi2, hi3⟩ := info_parts Try.infoInt
  have HV : Hid (Nx.settled low (Nx.ins x l) = V) := hV
  clear hV
  obtain ⟨q1, q2⟩ := two_boxes w 26 26 #[.int .i64 low, .slice a n c] #[.int .i64 0, .slice none 0 0]
  have HQ : Hid (Box ((w.alloc (.cells #[.int .i64 low, .slice a n c] 26)).alloc (.cells #[.int .i64 0, .slice none 0 0] 26)) w.heap.size 26 #[.int .i64 low, .slice a n c] ∧ Box ((w.alloc (.cells #[.int .i64 low, .slice a n c] 26)).alloc (.cells #[.int .i64 0, .slice none 0 0] 26)) (w.heap.size + 1) 26 #[.int .i64 0, .slice none 0 0] ∧ Below w.heap.size w ((w.alloc (.cells #[.int .i64 low, .slice a n c] 26)).alloc (.cells #[.int .i64 0, .slice none 0 0] 26))) := ⟨q1, q2, bel_alloc (new_bel _ _) _⟩
  clear q1 q2 h
  go_enter Try.func10, Try.ntmps10
  go_wp2_with fail
  refine (rright low a n c l _ (Shape.any (Shape.now hA HQ.out.2.2))).mono ?_
  rintro e u2 ⟨hs2, hb2⟩
  have k3 := HQ.out.1.keep hb2
  have k4 := HQ.out.2.1.keep hb2
  have hB2 := bel_then HQ.out.2.2 hb2
  clear HQ hb2
  have p0 := k3.cell 0 rfl
  have p1 := k3.cell 1 rfl
  have z0 := k4.cell 0 rfl
  have z1 := k4.cell 1 rfl
  have f0 := k4.free 0
  have f1 := k4.free 1
  have HN : Hid (∀ u : World, Below w.heap.size w u → ¬ Nx.Fresh ⟨low, l⟩ x → Took (.returned (.tuple #[.agg #[.int .i64 low, .slice a n c], .bool false])) ((u.setCell ⟨w.heap.size + 1, 0, none⟩ (.int .i64 low)).setCell ⟨w.heap.size + 1, 1, none⟩ (.slice a n c)) everywhere ⟨low, l⟩ V x ∧ Below w.heap.size w ((u.setCell ⟨w.heap.size + 1, 0, none⟩ (.int .i64 low)).setCell ⟨w.heap.size + 1, 1, none⟩ (.slice a n c))) := fun u hu hf =>
    ⟨.inr ⟨hf, a, n, c, rfl, Shape.any (Shape.all2 (Shape.now hA hu) (fun k hk _ => by omega) _ _)⟩, bel_all2 hu (by omega) _ _⟩
  by_cases hR : Nx.Right ⟨low, l⟩
  case neg =>
    rw [hs2.not hR]
    go_wp2
    refine ret_var Try.underlying26 Try.infoRwin rfl rfl rfl rfl (k4.all2 _ _) rfl ?_
    exact HN.out _ hB2 fun hf => hR hf.1
  rw [hs2.is hR]
  by_cases hx2 : x < low
  · go_wp2
    refine ret_var Try.underlying26 Try.infoRwin rfl rfl rfl rfl (k4.all2 _ _) rfl ?_
    exact HN.out _ hB2 fun hf => by have := hf.2.1; simp only at this; omega
  by_cases hx1 : 2147483647 < x
  · go_wp2
    refine ret_var Try.underlying26 Try.infoRwin rfl rfl rfl rfl (k4.all2 _ _) rfl ?_
    exact HN.out _ hB2 fun hf => by have := hf.2.2.1; omega
  have h32 : n ≤ 32 := by have := hR.2.2.1; simp only at this; omega
  have hlow0 : 0 ≤ low := hR.1
  have hlow1 : low ≤ 2147483647 := hR.2.1
  have HF : Hid (x ∉ l → Nx.Fresh ⟨low, l⟩ x) := fun hin => ⟨hR, by show low ≤ x; omega, by omega, hin⟩
  have HM : Hid (Small (Nx.ins x l)) := small_ins (right_small hR) ⟨by omega, by omega⟩
  have HL : Hid (l.length = n) := hl
  have HI : Hid ((Nx.ins x l).length = n + 1) := by show _ = _; rw [Nx.ins_length, hl]
  clear hR hs2 hl
  go_wp2
  go_loopw [6, 7, 8] (fun v6 v7 v8 wr => ∃ (k : Nat) (b : Bool) (a1 : Option Addr) (n1 c1 : Nat) (xs : List Int), k ≤ n ∧ v8 = .int .i64 k ∧ v7 = .bool b ∧ v6 = .slice a1 n1 c1 ∧ Nx.Half l x k b xs ∧ (∀ j, j < k → l.getD j 0 ≠ x) ∧ Own (intS .i64) wr (w.heap.size + 2) 3 (.slice a1 n1 c1) xs ∧
    Box wr w.heap.size 26 #[.int .i64 low, .slice a n c] ∧ Box wr (w.heap.size + 1) 26 #[.int .i64 0, .slice none 0 0] ∧ Below w.heap.size w wr) (fun _ _ i _ => n - (intOf i).toNat)
  case atStart => exact ⟨0, false, none, 0, 0, [], Nat.zero_le _, rfl, rfl, rfl, Nx.half_zero l x, fun j hj => by omega, Own.nil _ _ _ _, k3, k4, hB2⟩
  case round =>
    clear k3 k4 hB2 p0 p1 z0 z1 f0 f1
    obtain ⟨k, b, a1, n1, c1, xs, hk, rfl, rfl, rfl, hhalf, hno, ho, k3, k4, hB2⟩ := hrel
    have p0 := k3.cell 0 rfl
    have p1 := k3.cell 1 rfl
    have z0 := k4.cell 0 rfl
    have z1 := k4.cell 1 rfl
    have f0 := k4.free 0
    have f1 := k4.free 1
    have hlen := (sliceS_len ho.is).1
    have hxs : xs.length ≤ 33 := by have := Nx.half_len hhalf; have := HL.out; omega
    have HX : Hid (xs.length = n1) := hlen
    have HX1 : Hid (xs.length + 1 = n1 + 1) := by show _ = _; rw [hlen]
    have hbase : w.heap.size + 2 ≤ wr.heap.size := by have := k4.lt; omega
    clear hlen
    by_cases hlt : k < n
    · obtain ⟨b1, o1, rfl, hbF, hb1, hcell⟩ := row_at (Shape.now hA hB2) hlt
      have hb1F : b1 < w.heap.size + 2 := by omega
      clear hbF
      have hli : (k : Int) < (n : Int) := by omega
      have hkl : k < l.length := by have := HL.out; omega
      by_cases heq : l.getD k 0 = x
      · have HE : Hid (¬ Nx.Fresh ⟨low, l⟩ x) := fun hf => hf.2.2.2 (heq ▸ Nx.getD_mem hkl)
        have e1 : (l.getD k 0 == x) = true := by simp only [heq, beq_self_eq_true]
        clear heq hhalf hno ho
        generalize l.getD k 0 = y at *
        go_wp2
        refine ret_var Try.underlying26 Try.infoRwin rfl rfl rfl rfl (k4.all2 _ _) rfl ?_
        exact HN.out _ hB2 HE.out
      have e1 : (l.getD k 0 == x) = false := beq_eq_false_iff_ne.2 heq
      have HO : Hid (∀ k' : Nat, k' = k + 1 → ∀ j, j < k' → l.getD j 0 ≠ x) := fun k' e j hj => by
        by_cases ej : j = k
        · subst ej; exact heq
        · exact hno j (by omega)
      clear hno
      cases b with
      | true =>
        have HH : Hid (Nx.Half l x (k + 1) true (xs ++ [l.getD k 0])) := Nx.half_in hkl hhalf
        clear hhalf heq
        generalize l.getD k 0 = y at *
        obtain ⟨ho1, hr1, hf1⟩ := own_src y ho
        by_cases hgt : x < y
        · go_wp2_with (at_builtin; refine wpList_app (intS .i64) (by simp [Region.wanted]) (.tmp 54) (.tmp 60) 22 rfl (w.heap.size + 2) 3 i0 (.int .i64 0) 8 Try.underlying22 hi0 hi1 hi2 hi3 rfl Nat.one_pos (by omega) (by rfl) ho1 (by rfl) hr1 hf1 (by omega) (by simp; omega) ?_; intro a4 c4 u4 ho4 hg4 hb4 hat4; rw [HX1.out] at ho4 ⊢)
          have hb5 := (new_bel wr (.cells #[.int .i64 y] 3)).mono hbase |>.trans hb4
          go_roundw
          case rel => exact ⟨k + 1, true, a4, _, c4, _, by omega, by go_num, rfl, rfl, HH.out, HO.out _ rfl, ho4, k3.below hb5 (by omega), k4.below hb5 (by omega), hB2.trans (hb5.mono (by omega))⟩
          case measure => simp [intOf]; omega
        · go_wp2_with (at_builtin; refine wpList_app (intS .i64) (by simp [Region.wanted]) (.tmp 54) (.tmp 60) 22 rfl (w.heap.size + 2) 3 i0 (.int .i64 0) 8 Try.underlying22 hi0 hi1 hi2 hi3 rfl Nat.one_pos (by omega) (by rfl) ho1 (by rfl) hr1 hf1 (by omega) (by simp; omega) ?_; intro a4 c4 u4 ho4 hg4 hb4 hat4; rw [HX1.out] at ho4 ⊢)
          have hb5 := (new_bel wr (.cells #[.int .i64 y] 3)).mono hbase |>.trans hb4
          go_roundw
          case rel => exact ⟨k + 1, true, a4, _, c4, _, by omega, by go_num, rfl, rfl, HH.out, HO.out _ rfl, ho4, k3.below hb5 (by omega), k4.below hb5 (by omega), hB2.trans (hb5.mono (by omega))⟩
          case measure => simp [intOf]; omega
      | false =>
        by_cases hgt : x < l.getD k 0
        · have HH : Hid (Nx.Half l x (k + 1) true (xs ++ [x] ++ [l.getD k 0])) := Nx.half_put hkl hgt hhalf
          have HX2 : Hid ((xs ++ [x]).length + 1 = n1 + 1 + 1) := by show _ = _; rw [List.length_append, HX.out]; rfl
          have hxs2 : (xs ++ [x]).length + 1 ≤ 100000 := by rw [List.length_append]; show xs.length + 1 + 1 ≤ _; omega
          clear hhalf heq
          generalize l.getD k 0 = y at *
          obtain ⟨ho1, hr1, hf1⟩ := own_src x ho
          go_wp2_with (first
            | (at_builtin; refine wpList_app (intS .i64) (by simp [Region.wanted]) (.tmp 50) (.tmp 52) 22 rfl (w.heap.size + 2) 3 i0 (.int .i64 0) 8 Try.underlying22 hi0 hi1 hi2 hi3 rfl Nat.one_pos (by omega) (by rfl) ho1 (by rfl) hr1 hf1 (by omega) (by simp; omega) ?_; intro a4 c4 u4 ho4 hg4 hb4 hat4; rw [HX1.out] at ho4 ⊢; have hb5 := (new_bel wr (.cells #[.int .i64 x] 3)).mono hbase |>.trans hb4; have k5 := k3.below hb5 (by omega); have k6 := k4.below hb5 (by omega); have hB3 := hB2.trans (hb5.mono (by omega)); have p5 := k5.cell 1 rfl; have hcell5 := (hb5.cell hb1F).trans hcell; obtain ⟨ho6, hr6, hf6⟩ := own_src y ho4; have hbase6 : w.heap.size + 2 ≤ u4.heap.size := by have := hb5.size; omega)
            | (at_builtin; refine wpList_app (intS .i64) (by simp [Region.wanted]) (.tmp 54) (.tmp 60) 22 rfl (w.heap.size + 2) 3 i0 (.int .i64 0) 8 Try.underlying22 hi0 hi1 hi2 hi3 rfl Nat.one_pos (by omega) (by rfl) ho6 (by rfl) hr6 hf6 hxs2 (by simp; omega) ?_; intro a7 c7 u7 ho7 hg7 hb7 hat7; rw [HX2.out] at ho7 ⊢))
          have hb8 := (new_bel u4 (.cells #[.int .i64 y] 3)).mono hbase6 |>.trans hb7
          go_roundw
          case rel => exact ⟨k + 1, true, a7, _, c7, _, by omega, by go_num, rfl, rfl, HH.out, HO.out _ rfl, ho7, k5.below hb8 (by omega), k6.below hb8 (by omega), hB3.trans (hb8.mono (by omega))⟩
          case measure => simp [intOf]; omega
        · have hlt2 : l.getD k 0 < x := by omega
          have HH : Hid (Nx.Half l x (k + 1) false (xs ++ [l.getD k 0])) := Nx.half_out hkl hlt2 hhalf
          clear hhalf heq
          generalize l.getD k 0 = y at *
          obtain ⟨ho1, hr1, hf1⟩ := own_src y ho
          go_wp2_with (at_builtin; refine wpList_app (intS .i64) (by simp [Region.wanted]) (.tmp 54) (.tmp 60) 22 rfl (w.heap.size + 2) 3 i0 (.int .i64 0) 8 Try.underlying22 hi0 hi1 hi2 hi3 rfl Nat.one_pos (by omega) (by rfl) ho1 (by rfl) hr1 hf1 (by omega) (by simp; omega) ?_; intro a4 c4 u4 ho4 hg4 hb4 hat4; rw [HX1.out] at ho4 ⊢)
          have hb5 := (new_bel wr (.cells #[.int .i64 y] 3)).mono hbase |>.trans hb4
          go_roundw
          case rel => exact ⟨k + 1, false, a4, _, c4, _, by omega, by go_num, rfl, rfl, HH.out, HO.out _ rfl, ho4, k3.below hb5 (by omega), k4.below hb5 (by omega), hB2.trans (hb5.mono (by omega))⟩
          case measure => simp [intOf]; omega
    · have hkn : k = n := by omega
      subst hkn
      have hli : ¬ (k : Int) < (k : Int) := by omega
      have HFr : Hid (Nx.Fresh ⟨low, l⟩ x) := HF.out fun hin => by
        obtain ⟨j, hj, e⟩ := Nx.mem_getD hin
        exact hno j (by have := HL.out; omega) e
      have HT : Hid (b = true → xs = Nx.ins x l) := fun e => by subst e; have := HL.out; subst this; exact Nx.half_true hhalf
      have HT2 : Hid (b = false → xs ++ [x] = Nx.ins x l) := fun e => by subst e; have := HL.out; subst this; exact Nx.half_false hhalf
      clear hno hhalf HF
      obtain ⟨m, hm⟩ : ∃ m, k + 1 = m := ⟨_, rfl⟩
      have HM1 : Hid (k + 1 = m) := hm
      rw [hm] at HI
      have hm33 : m ≤ 33 := by omega
      clear hm
      go_upto_if 63 with fail
      go_cut [6] from 10 (fun v6 wx => ∃ a4 c4, v6 = .slice a4 m c4 ∧ Own (intS .i64) wx (w.heap.size + 2) 3 (.slice a4 m c4) (Nx.ins x l) ∧ Box wx w.heap.size 26 #[.int .i64 low, .slice a k c] ∧ Box wx (w.heap.size + 1) 26 #[.int .i64 0, .slice none 0 0] ∧ Below w.heap.size w wx)
      case first =>
        cases b with
        | true =>
          have e := HT.out rfl
          subst e
          have e2 : n1 = m := by rw [← HX.out, HI.out]
          subst e2
          clear HT HT2
          go_wp2
          go_meet
          exact ⟨a1, c1, rfl, ho, k3, k4, hB2⟩
        | false =>
          have e2 : n1 + 1 = m := by rw [← HX1.out, ← HI.out, ← HT2.out rfl, List.length_append]; rfl
          have HE : Hid (xs ++ [x] = Nx.ins x l) := HT2.out rfl
          have HE2 : Hid (xs.length + 1 = m) := by show _ = _; rw [HX.out, e2]
          obtain ⟨ho1, hr1, hf1⟩ := own_src x ho
          clear HT HT2 e2
          go_wp2_with (at_builtin; refine wpList_app (intS .i64) (by simp [Region.wanted]) (.tmp 64) (.tmp 66) 22 rfl (w.heap.size + 2) 3 i0 (.int .i64 0) 8 Try.underlying22 hi0 hi1 hi2 hi3 rfl Nat.one_pos (by omega) (by rfl) ho1 (by rfl) hr1 hf1 (by omega) (by simp; omega) ?_; intro a4 c4 u4 ho4 hg4 hb4 hat4; rw [HE2.out] at ho4 ⊢; rw [HE.out] at ho4)
          have hb5 := (new_bel wr (.cells #[.int .i64 x] 3)).mono hbase |>.trans hb4
          go_meet
          exact ⟨a4, c4, rfl, ho4, k3.below hb5 (by omega), k4.below hb5 (by omega), hB2.trans (hb5.mono (by omega))⟩
      case rest =>
        clear ho k3 k4 hB2 p0 p1 z0 z1 f0 f1 HT HT2 HX HX1 hbase hxs
        obtain ⟨a4, c4, rfl, ho4, k3, k4, hB2⟩ := hcut
        have hrep : rowS.rep wc (fun b => w.heap.size + 2 ≤ b ∧ b < wc.heap.size) [.slice a4 m c4] (Nx.ins x l) := rowS.mono (Own.high ho4) fun b hb hlt => ⟨hb, hlt⟩
        have p0 := k3.cell 0 rfl
        clear ho4
        generalize Nx.ins x l = L at *
        go_upto_if 72 with fail
        go_cut [6, 9] from 10 (fun v6 v9 wx => ∃ (y : Int) (a1 : Option Addr) (n1 c1 : Nat) (l1 : List Int), v9 = .int .i64 y ∧ v6 = .slice a1 n1 c1 ∧ rowS.rep wc (fun b => w.heap.size + 2 ≤ b ∧ b < wc.heap.size) [.slice a1 n1 c1] l1 ∧ Nx.run y l1 = V ∧ 0 ≤ y ∧ y ≤ 2147483648 ∧ Small l1 ∧ wx = wc)
        case first =>
          by_cases h33 : m = 33
          · have e1 : ((m : Int) == 33) = true := by rw [h33]; rfl
            have h0i : (0 : Int) < (m : Int) := by omega
            obtain ⟨D, hD, hrD⟩ := tail_cut hrep (by omega)
            obtain ⟨b1, o1, rfl, _, _, hcell⟩ := row_at hrep (show 0 < m by omega)
            rw [Nat.add_zero] at hcell
            have hh := HM.out.head (by have := HI.out; omega)
            have HC : Hid (Nx.run (L.getD 0 0 + 1) L.tail = V) := by
              show _ = _
              rw [← HV.out]
              unfold Nx.settled
              rw [Nx.cut_long (low := low) (l := L) (by have := HI.out; omega), Nx.cut_short (by rw [List.length_tail]; have := HI.out; omega)]
            have HT : Hid (Small L.tail) := HM.out.tail
            clear h33
            generalize L.tail = t at *
            generalize L.getD 0 0 = y at *
            go_wp2
            go_meet
            exact ⟨y + 1, D, m - 1, c4 - 1, t, rfl, rfl, hrD, HC.out, by omega, by omega, HT.out, rfl⟩
          · have e1 : ((m : Int) == 33) = false := by rw [beq_eq_false_iff_ne]; omega
            have HC : Hid (Nx.run low L = V) := by
              show _ = _
              rw [← HV.out]
              unfold Nx.settled
              rw [Nx.cut_short (by have := HI.out; omega)]
            go_wp2
            go_meet
            exact ⟨low, a4, m, c4, L, rfl, rfl, hrep, HC.out, hlow0, by omega, HM.out, rfl⟩
        case rest =>
          obtain ⟨y0, a5, n5, c5, l5, rfl, rfl, hr5, hrun, hy0, hy1, hs5, hww⟩ := hcut
          subst hww
          clear hrep HV HI HM p0
          have HR5 : Hid (Nx.run y0 l5 = V) := hrun
          clear hrun
          go_wp2
          go_loopw [6, 9] (fun v6 v9 wr => ∃ (y : Int) (a1 : Option Addr) (n1 c1 : Nat) (l1 : List Int), v9 = .int .i64 y ∧ v6 = .slice a1 n1 c1 ∧ rowS.rep wr (fun b => w.heap.size + 2 ≤ b ∧ b < wr.heap.size) [.slice a1 n1 c1] l1 ∧ Nx.run y l1 = V ∧ 0 ≤ y ∧ y ≤ 2147483648 ∧ Small l1 ∧ Box wr (w.heap.size + 1) 26 #[.int .i64 0, .slice none 0 0] ∧ Below w.heap.size w wr) (fun v6 _ _ => lenV v6)
          case atStart => exact ⟨y0, a5, n5, c5, l5, rfl, rfl, hr5, HR5.out, hy0, hy1, hs5, k4, hB2⟩
          case round =>
            clear hr5 HR5 hy0 hy1 hs5 k3 k4 hB2
            obtain ⟨y, a1, n1, c1, l1, rfl, rfl, hr1, hrun, hy0, hy1, hs1, k4, hB2⟩ := hrel
            have hl1 := (sliceS_len hr1).1
            have f0 := k4.free 0
            have f1 := k4.free 1
            have z0 := k4.cell 0 rfl
            have z1 := k4.cell 1 rfl
            have HR : Hid (rowS.rep wr (fun b => w.heap.size + 2 ≤ b ∧ b < wr.heap.size) [.slice a1 n1 c1] l1) := hr1
            by_cases hp : 0 < n1
            · have h0i : (0 : Int) < (n1 : Int) := by omega
              obtain ⟨D, hD, hrD⟩ := tail_cut hr1 (by omega)
              obtain ⟨b1, o1, rfl, _, _, hcell⟩ := row_at hr1 hp
              rw [Nat.add_zero] at hcell
              have hh := hs1.head (by omega)
              have HT : Hid (Small l1.tail) := hs1.tail
              have HX : Hid (l1.getD 0 0 = y → Nx.run (y + 1) l1.tail = V) := fun e => by rw [← Nx.run_step (by omega) e]; exact hrun
              have HY : Hid (l1.getD 0 0 ≠ y → (⟨y, l1⟩ : Win) = V) := fun e => by rw [← Nx.run_stop (.inr e)]; exact hrun
              clear hrun hs1 hr1
              generalize l1.tail = t at *
              generalize l1.getD 0 0 = z at *
              by_cases hxy : z = y
              · have e1 : (z == y) = true := by simp [hxy]
                have HE : Hid (z = y) := hxy
                have hy2 : y ≤ 2147483647 := by omega
                clear hxy
                go_wp2
                go_roundw
                case rel => exact ⟨y + 1, D, n1 - 1, c1 - 1, t, rfl, rfl, hrD, HX.out HE.out, by omega, by omega, HT.out, k4, hB2⟩
                case measure => show n1 - 1 < n1; omega
              · have e1 : (z == y) = false := by simp [hxy]
                have HW := HY.out hxy
                subst HW
                go_wp2
                refine ret_var Try.underlying26 Try.infoRwin rfl rfl rfl rfl (k4.all2 _ _) rfl ?_
                exact ⟨.inl ⟨HFr.out, _, _, _, rfl, Shape.any (Shape.all2 HR.out (fun k hk _ => by have := hk.1; omega) _ _)⟩, bel_all2 hB2 (by omega) _ _⟩
            · have h0i : ¬ (0 : Int) < (n1 : Int) := by omega
              have HW : (⟨y, l1⟩ : Win) = V := by rw [← Nx.run_stop (.inl (by omega))]; exact hrun
              subst HW
              clear hrun hr1
              go_wp2
              refine ret_var Try.underlying26 Try.infoRwin rfl rfl rfl rfl (k4.all2 _ _) rfl ?_
              exact ⟨.inl ⟨HFr.out, _, _, _, rfl, Shape.any (Shape.all2 HR.out (fun k hk _ => by have := hk.1; omega) _ _)⟩, bel_all2 hB2 (by omega) _ _⟩

end Go.Proofs.Ytlfbponacoombaa
