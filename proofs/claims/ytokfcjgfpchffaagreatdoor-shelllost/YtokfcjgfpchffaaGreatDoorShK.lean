/- Scripts that end: what they tell at last, as lists of bytes. -/
import Derived.Test.YtokfcjgfpchffaaGreatDoorShI
namespace Go.Proofs.YtokfcjgfpchffaaGreatDoor.Sc
open Go.Proofs.YtokfcjgfpchffaaGreatDoor Go.Proofs.YtokfcjgfpchffaaGreatDoor.Sh Go.Proofs.YtokfcjgfpchffaaGreatDoor.Ft Go.Proofs.YtokfcjgfpchffaaGreatDoor.Nd

/-! ### Lines that come again -/
/-- Lines, each with its newline. -/
def text (L : List (List UInt8)) : List UInt8 := (L.map (· ++ [10])).flatten
theorem text_app (L M : List (List UInt8)) : text (L ++ M) = text L ++ text M := by unfold text; rw [List.map_append, List.flatten_append]
theorem text_one (l : List UInt8) : text [l] = l ++ [10] := by unfold text; rw [List.map_singleton, List.flatten_singleton]
theorem text_snoc (L : List (List UInt8)) (l : List UInt8) : text (L ++ [l]) = text L ++ (l ++ [10]) := by rw [text_app, text_one]
theorem pieces_text (b : List UInt8) : ∀ L : List (List UInt8), (∀ l ∈ L, ∀ x ∈ l, x ≠ 10) → pieces 10 (text L ++ b) = L ++ pieces 10 b
  | [], _ => rfl
  | l :: r, h => by
    have e : text (l :: r) ++ b = l ++ 10 :: (text r ++ b) := by
      unfold text
      rw [List.map_cons, List.flatten_cons, List.append_assoc, List.append_assoc]
      rfl
    rw [e, pieces_cut (h l List.mem_cons_self), pieces_text b r (fun l hl => h l (List.mem_cons_of_mem _ hl))]
    rfl
/-- The same line k times. -/
def rep (k : Nat) (l : List UInt8) : List UInt8 := text (List.replicate k l)
theorem rep_zero (l : List UInt8) : rep 0 l = [] := rfl
theorem rep_step (k : Nat) (l : List UInt8) : rep (k + 1) l = rep k l ++ (l ++ [10]) := by unfold rep; rw [List.replicate_succ', text_snoc]
theorem rep_len (k : Nat) (l : List UInt8) : (rep k l).length = k * (l.length + 1) := by
  induction k with
  | zero => rw [Nat.zero_mul]; rfl
  | succ k ih => rw [rep_step, List.length_append, ih, List.length_append, Nat.succ_mul]; rfl
theorem pieces_rep {l : List UInt8} (h : ∀ x ∈ l, x ≠ 10) (b : List UInt8) (k : Nat) : pieces 10 (rep k l ++ b) = List.replicate k l ++ pieces 10 b :=
  pieces_text b _ (fun y hy => by rw [List.eq_of_mem_replicate hy]; exact h)
theorem d0_plain : ∀ x ∈ deliver0, x ≠ 10 := by decide
theorem ask_plain : ∀ x ∈ askW, x ≠ 10 := by decide
theorem lines_whole {t : List UInt8} {L : List (List UInt8)} {l : List UInt8} (h : pieces 10 t = L ++ [l]) (hl : l ≠ []) : lines t = L ++ [l] := by
  have h0 : t ≠ [] := fun e => by
    subst e
    have h9 : ([[]] : List (List UInt8)).getLast? = (L ++ [l]).getLast? := congrArg List.getLast? h
    rw [List.getLast?_append] at h9
    simp at h9
    exact hl h9
  unfold lines
  rw [if_neg h0, h, if_neg (by rw [List.getLast?_append]; simpa using hl)]
theorem run_ends : ∀ (L : List (List UInt8)) (s : Ft.St), L ≠ [] → ∃ x, run s L = x ++ [10]
  | [], _, h => absurd rfl h
  | [l], s, _ => ⟨(tell s l).2, rfl⟩
  | l :: m :: r, s, _ => by
    obtain ⟨x, hx⟩ := run_ends (m :: r) (tell s l).1 (by simp)
    refine ⟨(tell s l).2 ++ 10 :: x, ?_⟩
    show (tell s l).2 ++ 10 :: run (tell s l).1 (m :: r) = _
    rw [hx, List.append_assoc]
    rfl
/-- What is told of the model's tokens. -/
def toldT : List UInt8 := okW ++ (behind [200, 100, 7] ++ [10])
theorem done_line {s : Ft.St} (hA : Alive 1 msS tS s) (h : s.lay = msS.length) : run s [doneW] = toldT := by
  show (tell s doneW).2 ++ 10 :: [] = _
  rw [tell_done, if_pos h, done_toks hA h]
  rfl

/-! ### Drained, asked and drained -/
def endsT (a : List UInt8) (j k : Nat) : List UInt8 := a ++ [10] ++ rep j deliver0 ++ (askW ++ [10]) ++ rep k deliver0 ++ doneW
theorem ends_pieces (a : List UInt8) (j k : Nat) : pieces 10 (endsT a j k) = (pieces 10 a ++ (List.replicate j deliver0 ++ (askW :: List.replicate k deliver0))) ++ [doneW] := by
  have e : endsT a j k = a ++ 10 :: (rep j deliver0 ++ (askW ++ 10 :: (rep k deliver0 ++ doneW))) := by unfold endsT; simp
  have hd : pieces 10 doneW = [doneW] := by decide
  rw [e, pieces_app, pieces_rep d0_plain, pieces_cut ask_plain, pieces_rep d0_plain, hd]
  simp
theorem ends_report (a : List UInt8) {j k : Nat} (hj : 400 < j) (hk : 20 ≤ k) : ∃ x, report (endsT a j k) = x ++ (10 :: toldT) := by
  have hl := lines_whole (ends_pieces a j k) (by decide)
  have hA := after_alive (pieces 10 a) begun_alive
  have hst := after_settled (pieces 10 a) begun_alive begun_settled
  have hlay := one_done rfl hA hst hj (fun b hb => Nat.lt_of_lt_of_le (parts_six hb) hk)
  have hs : after begun (pieces 10 a ++ (List.replicate j deliver0 ++ (askW :: List.replicate k deliver0))) = Ft.run 1 msS k (Ft.ask msS (Ft.run 1 msS j (after begun (pieces 10 a)))) := by
    rw [after_app, after_app, after_deliver]
    show after (tell _ askW).1 (List.replicate k deliver0) = _
    rw [tell_ask, after_deliver]
  obtain ⟨x, hx⟩ := run_ends (pieces 10 a ++ (List.replicate j deliver0 ++ (askW :: List.replicate k deliver0))) begun (fun e => pieces_ne 10 a (List.append_eq_nil_iff.1 e).1)
  unfold report
  rw [hl, run_app, hs, hx, done_line ((hA.run j).ask.run k) hlay]
  exact ⟨x, by simp⟩

/-! ### Nothing but drops, then asked and drained -/
def drop0 : List UInt8 := dropW ++ [32, 48]
theorem drop_plain : ∀ x ∈ drop0, x ≠ 10 := by decide
theorem tell_drop0 (s : Ft.St) : (tell s drop0).1 = Ft.drop s 0 := by
  have h := tell_drop s (x := 48) (by decide) (by decide)
  show (tell s (dropW ++ [32, 48])).1 = _
  rw [h]
  rfl
/-- Like the fleet as it was begun, but for what is in the bag; that is at most n frames. -/
def Lost (n : Nat) (s : Ft.St) : Prop := ∃ b, s = { begun with bag := b } ∧ b.length ≤ n
theorem Lost.start : Lost 4 begun := ⟨begun.bag, rfl, by rw [aw_bag]; omega⟩
theorem Lost.drop {n : Nat} {s : Ft.St} (h : Lost n s) : Lost (n - 1) (Ft.drop s 0) := by
  obtain ⟨b, rfl, hb⟩ := h
  refine ⟨b.eraseIdx 0, rfl, ?_⟩
  show (b.eraseIdx 0).length ≤ n - 1
  cases b with
  | nil => simp
  | cons x r => simp only [List.eraseIdx_cons_zero]; simp only [List.length_cons] at hb; omega
theorem Lost.more {n m : Nat} {s : Ft.St} (h : Lost n s) (hm : n ≤ m) : Lost m s := by
  obtain ⟨b, h1, h2⟩ := h
  exact ⟨b, h1, Nat.le_trans h2 hm⟩
theorem Lost.drops {n : Nat} {s : Ft.St} (h : Lost n s) : ∀ k, Lost (n - k) (after s (List.replicate k drop0))
  | 0 => h
  | k + 1 => by
    rw [List.replicate_succ', after_app]
    show Lost _ (tell _ drop0).1
    rw [tell_drop0]
    exact ((h.drops k).drop).more (by omega)
theorem begun_left : (Ft.left (Ft.ps msS begun) begun.ans).length = 4 := by
  show (Ft.left (Ft.ps msS (Ft.start msS 0 hS tS)) (Ft.start msS 0 hS tS).ans).length = 4
  decide +kernel
theorem puts_len (xs : List Wx.Msg) : ∀ b, (Ft.puts b xs).length ≤ b.length + xs.length := by
  induction xs with
  | nil => intro b; exact Nat.le_refl _
  | cons x r ih =>
    intro b
    have h1 := ih (Ft.put b x)
    have h2 : (Ft.put b x).length ≤ b.length + 1 := by
      unfold Ft.put
      split
      · rw [List.length_append]; exact Nat.le_refl _
      · omega
    show (Ft.puts (Ft.put b x) r).length ≤ b.length + (r.length + 1)
    omega
theorem Lost.asked {n : Nat} {s : Ft.St} (h : Lost n s) : Lost (n + 4) (Ft.ask msS s) := by
  obtain ⟨b, rfl, hb⟩ := h
  have hl : begun.lay < msS.length := by rw [aw_lay]; decide
  unfold Ft.ask
  rw [if_pos hl]
  refine ⟨_, rfl, ?_⟩
  have h1 := puts_len ((Ft.left (Ft.ps msS begun) begun.ans).map (Ft.askOf begun.e begun.h begun.lay begun.toks)) b
  rw [List.length_map, begun_left] at h1
  exact Nat.le_trans h1 (by omega)
theorem Lost.none {s : Ft.St} (h : Lost 0 s) : s.bag = [] := by
  obtain ⟨b, rfl, hb⟩ := h
  exact List.eq_nil_of_length_eq_zero (Nat.le_zero.1 hb)
theorem Lost.lay {n : Nat} {s : Ft.St} (h : Lost n s) : s.lay = 0 := by
  obtain ⟨b, rfl, _⟩ := h
  exact aw_lay
theorem Lost.worked {n : Nat} {s : Ft.St} (h : Lost n s) : Ft.worked s = 0 := by
  obtain ⟨b, rfl, _⟩ := h
  exact aw_worked

/-! ### Asked and drained again and again -/
def round : List (List UInt8) := askW :: List.replicate 30 deliver0
def rounds (m : Nat) : List (List UInt8) := (List.replicate m round).flatten
theorem rounds_step (m : Nat) : rounds (m + 1) = rounds m ++ round := by unfold rounds; rw [List.replicate_succ', List.flatten_append, List.flatten_singleton]
theorem rounds_front (m : Nat) : rounds (m + 1) = round ++ rounds m := by unfold rounds; rw [List.replicate_succ, List.flatten_cons]
theorem after_round (s : Ft.St) : after s round = Ft.run 1 msS 30 (Ft.ask msS s) := by
  show after (tell s askW).1 (List.replicate 30 deliver0) = _
  rw [tell_ask, after_deliver]
theorem round_drained {s : Ft.St} (hA : Alive 1 msS tS s) (h : s.bag = []) : (Ft.run 1 msS 30 (Ft.ask msS s)).bag = [] := by
  refine one_ends rfl ?_
  have hk9 := parts_six hA
  have h4 : Ft.load s.bag = 0 := by rw [h]; rfl
  unfold Ft.ask
  split
  · have h1 := load_puts ((left (ps msS s) s.ans).map (askOf s.e s.h s.lay s.toks)) s.bag
    rw [List.length_map] at h1
    have h2 := left_len (ps msS s) s.ans
    exact Nat.lt_of_le_of_lt h1 (by omega)
  · omega
theorem round_done {s : Ft.St} (hA : Alive 1 msS tS s) (hs : Settled msS s) (h : s.bag = []) : (after s round).lay = msS.length ∧ (after s round).bag = [] ∧ Alive 1 msS tS (after s round) := by
  rw [after_round]
  refine ⟨?_, round_drained hA h, hA.ask.run 30⟩
  have e : Ft.run 1 msS 401 s = s := by
    have h9 := stays (dim := 1) (ms := msS) (s := s) (j := 0) h 401
    rw [Nat.zero_add] at h9
    exact h9
  have h1 := one_done rfl hA hs (j := 401) (k := 30) (by omega) (fun a ha => Nat.lt_trans (parts_six ha) (by omega))
  rw [e] at h1
  exact h1
theorem rounds_stay {s : Ft.St} (hl : s.lay = msS.length) (h : s.bag = []) : ∀ m, after s (rounds m) = s
  | 0 => rfl
  | m + 1 => by
    have e : after s round = s := by
      rw [after_round]
      have h1 : Ft.ask msS s = s := by
        unfold Ft.ask
        rw [if_neg (by omega)]
      rw [h1]
      have h9 := stays (dim := 1) (ms := msS) (s := s) (j := 0) h 30
      rw [Nat.zero_add] at h9
      exact h9
    rw [rounds_front, after_app, e]
    exact rounds_stay hl h m
/-- Lines that lose what they have. -/
structure Loses (L : List (List UInt8)) : Prop where
  plain : ∀ l ∈ L, ∀ x ∈ l, x ≠ 10
  lost : Lost 4 (after begun L)
theorem Loses.nil : Loses [] := ⟨fun _ h => (by cases h), Lost.start⟩
theorem drops_plain (k : Nat) : ∀ l ∈ List.replicate k drop0, ∀ x ∈ l, x ≠ 10 := fun l hl => by rw [List.eq_of_mem_replicate hl]; exact drop_plain
theorem plain_app {L M : List (List UInt8)} (h : ∀ l ∈ L, ∀ x ∈ l, x ≠ 10) (k : ∀ l ∈ M, ∀ x ∈ l, x ≠ 10) : ∀ l ∈ L ++ M, ∀ x ∈ l, x ≠ 10 := fun l hl => (List.mem_append.1 hl).elim (h l) (k l)
theorem Loses.one {L : List (List UInt8)} (h : Loses L) : Loses (L ++ List.replicate 1 drop0) := ⟨plain_app h.plain (drops_plain 1), by rw [after_app]; exact (h.lost.drops 1).more (by omega)⟩
theorem Loses.all {L : List (List UInt8)} (h : Loses L) : Loses (L ++ (List.replicate 4 drop0 ++ [askW])) :=
  ⟨plain_app h.plain (plain_app (drops_plain 4) (fun l hl => by rw [List.mem_singleton.1 hl]; exact ask_plain)), by
    rw [after_app, after_app]
    show Lost 4 (tell _ askW).1
    rw [tell_ask]
    exact (h.lost.drops 4).asked⟩
/-- In the end: none left. -/
def lostL (L : List (List UInt8)) : List (List UInt8) := L ++ List.replicate 4 drop0
theorem Loses.last {L : List (List UInt8)} (h : Loses L) : (∀ l ∈ lostL L, ∀ x ∈ l, x ≠ 10) ∧ Lost 0 (after begun (lostL L)) := ⟨plain_app h.plain (drops_plain 4), by unfold lostL; rw [after_app]; exact h.lost.drops 4⟩
def noneT : List UInt8 := [111, 107, 32, 48, 32, 48, 10, 111, 107, 10]
theorem Loses.none {L : List (List UInt8)} (h : Loses L) : ∃ x, report (text (lostL L) ++ (bagW ++ 10 :: doneW)) = x ++ noneT := by
  obtain ⟨h1, h2⟩ := h.last
  have hp : pieces 10 (text (lostL L) ++ (bagW ++ 10 :: doneW)) = (lostL L ++ [bagW]) ++ [doneW] := by
    have hd : pieces 10 (bagW ++ 10 :: doneW) = [bagW] ++ [doneW] := by decide
    rw [pieces_text _ _ h1, hd, List.append_assoc]
  have hr : run (after begun (lostL L)) ([bagW] ++ [doneW]) = noneT := by
    show (tell _ bagW).2 ++ 10 :: ((tell (tell _ bagW).1 doneW).2 ++ 10 :: []) = _
    rw [tell_bag]
    show (okW ++ 32 :: (dig (after begun (lostL L)).bag.length ++ 32 :: dig (Ft.worked (after begun (lostL L))))) ++ 10 :: ((tell (after begun (lostL L)) doneW).2 ++ 10 :: []) = _
    rw [tell_done, if_neg (by rw [h2.lay]; decide), h2.none, h2.worked]
    show (okW ++ 32 :: (dig 0 ++ 32 :: dig 0)) ++ _ = _
    rw [dig_low (by omega : (0 : Nat) ≤ 9)]
    rfl
  unfold report
  rw [lines_whole hp (by decide), List.append_assoc, run_app, hr]
  exact ⟨_, rfl⟩
theorem round_plain : ∀ l ∈ round, ∀ x ∈ l, x ≠ 10 := fun l hl => by
  rcases List.mem_cons.1 hl with h | h
  · rw [h]; exact ask_plain
  · rw [List.eq_of_mem_replicate h]; exact d0_plain
theorem rounds_plain (m : Nat) : ∀ l ∈ rounds m, ∀ x ∈ l, x ≠ 10 := fun l hl => by
  obtain ⟨y, hy, h⟩ := List.mem_flatten.1 hl
  rw [List.eq_of_mem_replicate hy] at h
  exact round_plain l h
theorem Loses.ends {L : List (List UInt8)} (h : Loses L) (m : Nat) : ∃ x, report (text (lostL L ++ rounds (m + 1)) ++ doneW) = x ++ (10 :: toldT) := by
  obtain ⟨h1, h2⟩ := h.last
  have hd : pieces 10 doneW = [doneW] := by decide
  have hp := (pieces_text doneW (lostL L ++ rounds (m + 1)) (plain_app h1 (rounds_plain _))).trans (congrArg _ hd)
  have hA := after_alive (lostL L) begun_alive
  have hst := after_settled (lostL L) begun_alive begun_settled
  obtain ⟨k1, k2, k3⟩ := round_done hA hst h2.none
  have hs : after begun (lostL L ++ rounds (m + 1)) = after (after begun (lostL L)) round := by
    rw [after_app, rounds_front, after_app, rounds_stay k1 k2 m]
  obtain ⟨x, hx⟩ := run_ends (lostL L ++ rounds (m + 1)) begun (fun e => by
    rw [rounds_front] at e
    exact absurd (List.append_eq_nil_iff.1 (List.append_eq_nil_iff.1 e).2).1 (List.cons_ne_nil _ _))
  unfold report
  rw [lines_whole hp (by decide), run_app, hs, hx, done_line k3 k1]
  exact ⟨x, by simp⟩

/-! ### What is asked for at last -/
def wantT (l : List Int) : List UInt8 := [10, 111, 107] ++ behind l
theorem rows_three (k : Nat) (hk : k < 3) : ∃ x : Int, ([[200], [100], [7]] : List (List Int)).getD k [] = [x] ∧ 0 ≤ x ∧ x ≤ 1000 ∧ wantT ([200, 100, 7].take (k + 1)) = wantT ([200, 100, 7].take k) ++ 32 :: dig x.toNat := by
  have aux : ∀ {k : Nat} {x : Int}, behind (([200, 100, 7] : List Int).take (k + 1)) = behind (([200, 100, 7] : List Int).take k) ++ 32 :: dig x.toNat → wantT ([200, 100, 7].take (k + 1)) = wantT ([200, 100, 7].take k) ++ 32 :: dig x.toNat := fun h => by
    unfold wantT
    rw [h, List.append_assoc]
  match k, hk with
  | 0, _ => exact ⟨200, rfl, by omega, by omega, aux (behind_step [200, 100, 7] (k := 0) (by decide))⟩
  | 1, _ => exact ⟨100, rfl, by omega, by omega, aux (behind_step [200, 100, 7] (k := 1) (by decide))⟩
  | 2, _ => exact ⟨7, rfl, by omega, by omega, aux (behind_step [200, 100, 7] (k := 2) (by decide))⟩
theorem want_len (k : Nat) (hk : k ≤ 3) : (wantT ([200, 100, 7].take k)).length ≤ 42 := by
  have h9 := behind_len (([200, 100, 7] : List Int).take k) (fun x hx => by
    have h8 := List.mem_of_mem_take hx
    simp only [List.mem_cons, List.not_mem_nil, or_false] at h8
    rcases h8 with rfl | rfl | rfl <;> omega)
  rw [List.length_take] at h9
  simp only [List.length_cons, List.length_nil] at h9
  unfold wantT
  rw [List.length_append]
  show 3 + _ ≤ _
  omega
theorem want_end : wantT ([200, 100, 7].take 3) ++ [10] = 10 :: toldT := by
  show ([10, 111, 107] ++ behind [200, 100, 7]) ++ [10] = 10 :: ([111, 107] ++ (behind [200, 100, 7] ++ [10]))
  simp

end Go.Proofs.YtokfcjgfpchffaaGreatDoor.Sc
namespace Go.Proofs.YtokfcjgfpchffaaGreatDoor
open Go.ChangeShapes Go.WideShapes Go.ChangeAt Go.RowKit
theorem forwardS : Md.forward Sc.msS Sc.tS = [[200], [100], [7]] := by decide +kernel
theorem cut_end (U W : ByteArray) {x : List UInt8} (h : U.data.toList = x ++ W.data.toList) : W.size ≤ U.size ∧ ∀ w : World, (Instr.slice 9 (.string U) (some (.int .i64 ((U.size : Int) - (W.size : Int)))) none none).run Tryz.prog w = .ok (.string W) w := by
  have hU : U.size = x.length + W.size := by rw [← list_size U, h, List.length_append, list_size]
  have hle : W.size ≤ U.size := by omega
  refine ⟨hle, ?_⟩
  obtain ⟨D, hD, hDl, _⟩ := cut_from U (j := U.size - W.size) (by omega)
  rw [Int.ofNat_sub hle] at hD
  rw [h, show U.size - W.size = x.length by omega, List.drop_left] at hDl
  have h9 := text_is hDl
  rw [text_of] at h9
  rw [h9] at hD
  exact hD

end Go.Proofs.YtokfcjgfpchffaaGreatDoor
