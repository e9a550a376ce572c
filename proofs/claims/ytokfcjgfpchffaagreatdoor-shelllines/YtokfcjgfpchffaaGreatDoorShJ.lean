/- ShellLines, with letters. -/
import Derived.Test.YtokfcjgfpchffaaGreatDoorShI
namespace Go.Proofs.YtokfcjgfpchffaaGreatDoor
open Go.ChangeShapes Go.WideShapes Go.ChangeAt Go.RowKit


/-! ### What a report looks like -/
theorem Sh.dig_all (n : Nat) : ∀ x ∈ Sh.dig n, Sh.isDig x := by
  have one : ∀ d, d ≤ 9 → Sh.isDig (UInt8.ofNat (48 + d)) := fun d hd => by
    unfold Sh.isDig
    rw [UInt8.toNat_ofNat']
    omega
  induction n using Nat.strongRecOn with
  | ind n ih =>
    intro x hx
    by_cases h : n ≤ 9
    · rw [Sh.dig_low h] at hx
      rw [List.mem_singleton.1 hx]
      exact one n h
    · rw [Sh.dig_high h] at hx
      rcases List.mem_append.1 hx with h1 | h1
      · exact ih (n / 10) (by omega) x h1
      · rw [List.mem_singleton.1 h1]
        exact one (n % 10) (by omega)
theorem isDig_no10 {x : UInt8} (h : Sh.isDig x) : x ≠ 10 := fun e => by rw [e] at h; exact absurd h.1 (by decide)
theorem text_no10 (l : List Int) (e : Nat) : ∀ x ∈ Sc.textI l e, x ≠ 10 := by
  intro x hx
  unfold Sc.textI at hx
  split at hx
  · rcases List.mem_append.1 hx with h | h
    · simp only [Sc.okW, List.mem_cons, List.not_mem_nil, or_false] at h
      rcases h with rfl | rfl <;> decide
    · obtain ⟨y, hy, h2⟩ := List.mem_flatten.1 h
      obtain ⟨n, _, rfl⟩ := List.mem_map.1 hy
      rcases List.mem_cons.1 h2 with h3 | h3
      · rw [h3]; decide
      · exact isDig_no10 (Sh.dig_all _ x h3)
  · rcases List.mem_append.1 hx with h | h
    · simp only [Sc.errW, List.mem_cons, List.not_mem_nil, or_false] at h
      rcases h with rfl | rfl | rfl | rfl | rfl | rfl <;> decide
    · exact isDig_no10 (Sh.dig_all _ x h)
/-- It begins with ok, or with error. -/
def Begins (l : List UInt8) : Prop := Sc.okW <+: l ∨ Sc.errW <+: l
theorem Begins.more {l : List UInt8} (h : Begins l) (m : List UInt8) : Begins (l ++ m) := h.elim (fun h => .inl (h.trans (List.prefix_append _ _))) (fun h => .inr (h.trans (List.prefix_append _ _)))
theorem Begins.pos {l : List UInt8} (h : Begins l) : 0 < l.length := by
  rcases h with h | h
  · have := h.length_le; have h2 : Sc.okW.length = 2 := rfl; omega
  · have := h.length_le; have h2 : Sc.errW.length = 6 := rfl; omega
theorem text_begins (l : List Int) (e : Nat) : Begins (Sc.textI l e) := by
  unfold Sc.textI
  split
  · exact .inl (List.prefix_append _ _)
  · exact .inr (List.prefix_append _ _)
theorem run_count : ∀ (L : List (List UInt8)) (s : Ft.St), (Sc.run s L).count 10 = L.length
  | [], _ => rfl
  | l :: r, s => by
    have h1 := run_count r (Sc.tell s l).1
    have h2 : (Sc.tell s l).2.count 10 = 0 := by
      rw [Sc.tell_play]
      exact List.count_eq_zero.2 (fun h => text_no10 _ _ _ h rfl)
    unfold Sc.run
    rw [List.count_append, h2, List.count_cons, h1, List.length_cons]
    simp
theorem run_begins : ∀ (L : List (List UInt8)) (s : Ft.St) (k : Nat), k < (Sc.run s L).length → (k = 0 ∨ (Sc.run s L)[k - 1]? = some 10) → Begins ((Sc.run s L).drop k)
  | [], s, k, h, _ => absurd h (Nat.not_lt_zero k)
  | l :: r, s, k, h, hk => by
    have hb : Begins (Sc.tell s l).2 := by rw [Sc.tell_play]; exact text_begins _ _
    have hn : ∀ x ∈ (Sc.tell s l).2, x ≠ 10 := by rw [Sc.tell_play]; exact text_no10 _ _
    have ih := run_begins r (Sc.tell s l).1
    have e : Sc.run s (l :: r) = (Sc.tell s l).2 ++ 10 :: Sc.run (Sc.tell s l).1 r := rfl
    rw [e] at h hk ⊢
    generalize (Sc.tell s l).2 = y at *
    generalize Sc.run (Sc.tell s l).1 r = R at *
    have hp := hb.pos
    rcases Nat.lt_or_ge y.length k with h1 | h1
    · obtain ⟨j, rfl⟩ : ∃ j, k = y.length + 1 + j := ⟨k - y.length - 1, by omega⟩
      have hd : (y ++ 10 :: R).drop (y.length + 1 + j) = R.drop j := by
        rw [← List.drop_drop, show y.length + 1 = y.length + 1 from rfl, ← List.drop_drop, List.drop_left]
        rfl
      rw [hd]
      refine ih j ?_ ?_
      · rw [List.length_append, List.length_cons] at h; omega
      · by_cases hj : j = 0
        · exact .inl hj
        · refine .inr ?_
          rcases hk with hk | hk
          · omega
          · rw [List.getElem?_append_right (by omega), show y.length + 1 + j - 1 - y.length = (j - 1) + 1 by omega] at hk
            exact hk
    · by_cases h0 : k = 0
      · subst h0
        exact hb.more _
      · rcases hk with hk | hk
        · exact absurd hk h0
        · rw [List.getElem?_append_left (by omega)] at hk
          exact absurd rfl (hn 10 (List.mem_of_getElem? hk))
theorem report_count (t : List UInt8) : (Sc.report t).count 10 = (Sc.lines t).length := run_count _ _
theorem pieces_count : ∀ t : List UInt8, (Sh.pieces 10 t).length = t.count 10 + 1
  | [] => rfl
  | x :: r => by
    have ih := pieces_count r
    by_cases h : x = 10
    · subst h
      rw [Sh.pieces_hit, List.length_cons, ih, List.count_cons_self]
    · obtain ⟨p, ps, hp⟩ := List.exists_cons_of_ne_nil (Sh.pieces_ne 10 r)
      rw [Sh.pieces_miss h hp, List.count_cons_of_ne h, ← ih, hp]
      rfl
/-- How many lines a script has, counted as the statement does. -/
theorem lines_count {t : List UInt8} (h : t ≠ []) : (Sc.lines t).length = 1 + (t.take (t.length - 1)).count 10 := by
  obtain ⟨m, x, rfl⟩ : ∃ m x, t = m ++ [x] := ⟨t.dropLast, t.getLast h, (List.dropLast_concat_getLast h).symm⟩
  have ht : (m ++ [x]).take ((m ++ [x]).length - 1) = m := by
    rw [List.length_append]
    show (m ++ [x]).take (m.length + 1 - 1) = m
    rw [Nat.add_sub_cancel, List.take_left]
  rw [ht]
  by_cases hx : x = 10
  · subst hx
    rw [Sc.lines_end, pieces_count]
    omega
  · unfold Sc.lines
    rw [if_neg h]
    have hp := pieces_count (m ++ [x])
    rw [List.count_append] at hp
    have h1 : [x].count 10 = 0 := List.count_eq_zero.2 (fun k => hx (List.mem_singleton.1 k).symm)
    have hlast : (Sh.pieces 10 (m ++ [x])).getLast? ≠ some [] := by
      have aux : ∀ (m : List UInt8), (Sh.pieces 10 (m ++ [x])).getLast? ≠ some [] := by
        intro m
        induction m with
        | nil =>
          rw [List.nil_append, Sh.pieces_none (fun y hy => by rw [List.mem_singleton.1 hy]; exact hx)]
          simp
        | cons y r ih =>
          rw [List.cons_append]
          obtain ⟨p, ps, hp⟩ := List.exists_cons_of_ne_nil (Sh.pieces_ne 10 (r ++ [x]))
          by_cases hy : y = 10
          · subst hy
            rw [Sh.pieces_hit, hp, List.getLast?_cons_cons, ← hp]
            exact ih
          · rw [Sh.pieces_miss hy hp]
            rw [hp] at ih
            cases ps with
            | nil => simp
            | cons q qs =>
              rw [List.getLast?_cons_cons] at ih ⊢
              exact ih
      exact aux m
    rw [if_neg hlast, hp, h1]
    omega
theorem count_step (l : List UInt8) {k : Nat} (h : k < l.length) : (l.take (k + 1)).count 10 = (l.take k).count 10 + (if l[k] = 10 then 1 else 0) := by
  rw [List.take_succ_eq_append_getElem h, List.count_append]
  congr 1
  by_cases h1 : l[k] = 10
  · rw [if_pos h1, h1]; rfl
  · rw [if_neg h1]
    exact List.count_eq_zero.2 (fun k => h1 (List.mem_singleton.1 k).symm)
theorem count_le (l : List UInt8) (k : Nat) : (l.take k).count 10 ≤ k := Nat.le_trans List.count_le_length (by rw [List.length_take]; omega)
theorem byte_is (s : ByteArray) {k : Nat} (h : k < s.size) : s[k] = s.data.toList[k]'(by rw [list_size]; exact h) := rfl
set_option maxRecDepth 100000 in
set_option maxHeartbeats 8000000 in
theorem llines (a : ByteArray) (w : World) (hE : Env w) : Calls Tryz.prog 5 #[.string a] w fun e w' => e = .returned (.bool true) ∧ Below w.heap.size w w' := by
  have HAW : Hid (∀ u, Below w.heap.size w u → Calls Tryz.prog 10 #[] u _) := fun u hu => lawake u (hE.keep hu)
  have HE := hid hE
  clear hE
  by_cases hs : SmallT a
  · have HSM : Hid (Calls _ _ _ _ _) := lsmall_yes a hs w
    have HA := hid hs.1
    clear hs
    by_cases h0 : a.size = 0
    · have q0 : (a.toList == ([] : List UInt8)) = true := str_none h0
      have HWANT : Hid ((Sc.lines a.data.toList).length = 0) := by
        show _ = _
        rw [List.eq_nil_of_length_eq_zero (by rw [list_size]; exact h0 : a.data.toList.length = 0)]
        rfl
      go_enter Tryz.func5, Tryz.ntmps5
      go_wp2_with fail
      refine HSM.out.mono ?_
      rintro e u1 ⟨rfl, hb1⟩
      have HB1 := hid hb1
      clear hb1 HSM
      go_wp2
      go_loopw [3, 4] (fun v i wr => v = .int .i64 0 ∧ i = .int .i64 0 ∧ wr = u1) (fun _ _ _ => 0)
      case atStart => exact ⟨rfl, rfl, rfl⟩
      case round =>
        obtain ⟨rfl, rfl, hww⟩ := hrel
        replace hww := hww.symm
        subst hww
        have hli : ¬ (0 : Int) < (a.size : Int) - 1 := by omega
        have HRN : Hid (Calls _ _ _ _ _) := prun a (by have h9 := HA.out; omega) u1 (HE.out.keep (HB1.out))
        obtain ⟨T, hT⟩ : ∃ T : ByteArray, (⟨(Sc.report a.data.toList).toArray⟩ : ByteArray) = T := ⟨_, rfl⟩
        have HT : Hid (T.data.toList = Sc.report a.data.toList) := by show _ = _; rw [← hT]
        have HTZ : Hid (T.size ≤ 1000000) := by show _ ≤ _; rw [← list_size T, HT.out]; exact report_len _ (by rw [list_size]; have h9 := HA.out; omega)
        rw [hT] at HRN
        clear hT
        go_wp2_with fail
        refine HRN.out.mono ?_
        rintro e W2 ⟨rfl, hb2⟩
        have HB2 := hid (bel_then (HB1.out) hb2)
        clear hb2 HRN
        go_wp2
        go_loopw [5, 6, 8] (fun gv bv iv wr => ∃ (k : Nat) (b : Bool), k ≤ T.size ∧ gv = .int .i64 ((T.data.toList.take k).count 10 : Nat) ∧ bv = .bool b ∧ iv = .int .i64 k ∧ Hid (b = true ↔ (k = 0 ∨ T.data.toList[k - 1]? = some 10)) ∧ wr = W2) (fun _ _ iv _ => T.size - (intOf iv).toNat)
        case atStart => exact ⟨0, true, by omega, rfl, rfl, rfl, ⟨fun _ => .inl rfl, fun _ => rfl⟩, rfl⟩
        case round =>
          obtain ⟨k, b, hk, rfl, rfl, rfl, HI, hww⟩ := hrel
          replace hww := hww.symm
          subst hww
          have hcl := count_le T.data.toList k
          have htz := HTZ.out
          by_cases hlt : k < T.size
          · have hli : (k : Int) < (T.size : Int) := by omega
            have hz0 : (0 : Int) ≤ (k : Int) := by omega
            cases b with
            | false =>
              clear HI
              by_cases hc : T[k] = 10
              · have q9 : (((T[k]).toNat : Int) == 10) = true := by rw [hc]; rfl
                have HC : Hid ((T.data.toList.take (k + 1)).count 10 = (T.data.toList.take k).count 10 + 1) := by
                  show _ = _
                  rw [count_step _ (by rw [list_size]; exact hlt), if_pos (by rw [← byte_is T hlt]; exact hc)]
                have HN : Hid (T.data.toList[k + 1 - 1]? = some 10) := by
                  show _ = _
                  rw [Nat.add_sub_cancel, List.getElem?_eq_getElem (by rw [list_size]; exact hlt), ← byte_is T hlt, hc]
                clear hc
                go_wp2
                go_roundw
                case rel => exact ⟨k + 1, true, by omega, by rw [HC.out]; go_num, rfl, by go_num, ⟨fun _ => .inr HN.out, fun _ => rfl⟩, by trivial⟩
                case measure => first | (simp [intOf]; done) | (simp [intOf]; omega)
              · have q9 : (((T[k]).toNat : Int) == 10) = false := by
                  have h8 : ¬ (T[k]).toNat = 10 := fun h => hc (UInt8.toNat_inj.1 h)
                  rw [beq_eq_false_iff_ne]
                  omega
                have HC : Hid ((T.data.toList.take (k + 1)).count 10 = (T.data.toList.take k).count 10) := by
                  show _ = _
                  rw [count_step _ (by rw [list_size]; exact hlt), if_neg (by rw [← byte_is T hlt]; exact hc)]
                  rfl
                have HN : Hid (¬ T.data.toList[k + 1 - 1]? = some 10) := by
                  show ¬ _
                  rw [Nat.add_sub_cancel, List.getElem?_eq_getElem (by rw [list_size]; exact hlt), ← byte_is T hlt]
                  exact fun h => hc (Option.some.inj h)
                clear hc
                go_wp2
                go_roundw
                case rel => exact ⟨k + 1, false, by omega, by rw [HC.out], rfl, by go_num, ⟨fun h => (by cases h), fun h => (by rcases h with h | h; (omega); exact absurd h HN.out)⟩, by trivial⟩
                case measure => first | (simp [intOf]; done) | (simp [intOf]; omega)
            | true =>
              have hbg : Begins (T.data.toList.drop k) := by
                rw [HT.out]
                refine run_begins _ _ k ?_ ?_
                · show k < (Sc.report a.data.toList).length
                  rw [← HT.out, list_size]; exact hlt
                · have h9 := HI.out.1 rfl
                  rw [HT.out] at h9
                  exact h9
              clear HI
              have h2l : k + 2 ≤ T.size := by
                rcases hbg with h | h
                · have h9 := h.length_le; have h8 : Sc.okW.length = 2 := rfl; rw [List.length_drop, list_size] at h9; omega
                · have h9 := h.length_le; have h8 : Sc.errW.length = 6 := rfl; rw [List.length_drop, list_size] at h9; omega
              have e2 : (k : Int) + 2 ≤ (T.size : Int) := by omega
              obtain ⟨D, hD, hDl, _⟩ := cut_mid T (i := k) (j := k + 2) (by omega) h2l
              rw [show ((k + 2 : Nat) : Int) = (k : Int) + 2 from Int.natCast_add k 2] at hD
              rw [show k + 2 - k = 2 by omega] at hDl
              by_cases hok : Sc.okW <+: T.data.toList.drop k
              · have hq : (D.toList == ([111, 107] : List UInt8)) = true := word_yes (by
                  rw [hDl]
                  exact (show Sc.okW = List.take 2 _ from List.prefix_iff_eq_take.1 hok).symm)
                clear hDl hbg hok h2l
                by_cases hc : T[k] = 10
                · have q9 : (((T[k]).toNat : Int) == 10) = true := by rw [hc]; rfl
                  have HC : Hid ((T.data.toList.take (k + 1)).count 10 = (T.data.toList.take k).count 10 + 1) := by
                    show _ = _
                    rw [count_step _ (by rw [list_size]; exact hlt), if_pos (by rw [← byte_is T hlt]; exact hc)]
                  have HN : Hid (T.data.toList[k + 1 - 1]? = some 10) := by
                    show _ = _
                    rw [Nat.add_sub_cancel, List.getElem?_eq_getElem (by rw [list_size]; exact hlt), ← byte_is T hlt, hc]
                  clear hc
                  go_wp2
                  go_roundw
                  case rel => exact ⟨k + 1, true, by omega, by rw [HC.out]; go_num, rfl, by go_num, ⟨fun _ => .inr HN.out, fun _ => rfl⟩, by trivial⟩
                  case measure => first | (simp [intOf]; done) | (simp [intOf]; omega)
                · have q9 : (((T[k]).toNat : Int) == 10) = false := by
                    have h8 : ¬ (T[k]).toNat = 10 := fun h => hc (UInt8.toNat_inj.1 h)
                    rw [beq_eq_false_iff_ne]
                    omega
                  have HC : Hid ((T.data.toList.take (k + 1)).count 10 = (T.data.toList.take k).count 10) := by
                    show _ = _
                    rw [count_step _ (by rw [list_size]; exact hlt), if_neg (by rw [← byte_is T hlt]; exact hc)]
                    rfl
                  have HN : Hid (¬ T.data.toList[k + 1 - 1]? = some 10) := by
                    show ¬ _
                    rw [Nat.add_sub_cancel, List.getElem?_eq_getElem (by rw [list_size]; exact hlt), ← byte_is T hlt]
                    exact fun h => hc (Option.some.inj h)
                  clear hc
                  go_wp2
                  go_roundw
                  case rel => exact ⟨k + 1, false, by omega, by rw [HC.out], rfl, by go_num, ⟨fun h => (by cases h), fun h => (by rcases h with h | h; (omega); exact absurd h HN.out)⟩, by trivial⟩
                  case measure => first | (simp [intOf]; done) | (simp [intOf]; omega)
              · have hq : (D.toList == ([111, 107] : List UInt8)) = false := word_no (fun h => hok (List.prefix_iff_eq_take.2 (show Sc.okW = List.take 2 _ from (by rw [← hDl, h]; rfl))))
                have her : Sc.errW <+: T.data.toList.drop k := hbg.resolve_left hok
                have h6l : k + 6 ≤ T.size := by have h9 := her.length_le; have h8 : Sc.errW.length = 6 := rfl; rw [List.length_drop, list_size] at h9; omega
                have e6 : (k : Int) + 6 ≤ (T.size : Int) := by omega
                obtain ⟨D6, hD6, hD6l, _⟩ := cut_mid T (i := k) (j := k + 6) (by omega) h6l
                rw [show ((k + 6 : Nat) : Int) = (k : Int) + 6 from Int.natCast_add k 6] at hD6
                rw [show k + 6 - k = 6 by omega] at hD6l
                have hq6 : (D6.toList == ([101, 114, 114, 111, 114, 32] : List UInt8)) = true := word_yes (by
                  rw [hD6l]
                  exact (show Sc.errW = List.take 6 _ from List.prefix_iff_eq_take.1 her).symm)
                clear hDl hD6l hbg hok her h2l h6l
                by_cases hc : T[k] = 10
                · have q9 : (((T[k]).toNat : Int) == 10) = true := by rw [hc]; rfl
                  have HC : Hid ((T.data.toList.take (k + 1)).count 10 = (T.data.toList.take k).count 10 + 1) := by
                    show _ = _
                    rw [count_step _ (by rw [list_size]; exact hlt), if_pos (by rw [← byte_is T hlt]; exact hc)]
                  have HN : Hid (T.data.toList[k + 1 - 1]? = some 10) := by
                    show _ = _
                    rw [Nat.add_sub_cancel, List.getElem?_eq_getElem (by rw [list_size]; exact hlt), ← byte_is T hlt, hc]
                  clear hc
                  go_wp2
                  go_roundw
                  case rel => exact ⟨k + 1, true, by omega, by rw [HC.out]; go_num, rfl, by go_num, ⟨fun _ => .inr HN.out, fun _ => rfl⟩, by trivial⟩
                  case measure => first | (simp [intOf]; done) | (simp [intOf]; omega)
                · have q9 : (((T[k]).toNat : Int) == 10) = false := by
                    have h8 : ¬ (T[k]).toNat = 10 := fun h => hc (UInt8.toNat_inj.1 h)
                    rw [beq_eq_false_iff_ne]
                    omega
                  have HC : Hid ((T.data.toList.take (k + 1)).count 10 = (T.data.toList.take k).count 10) := by
                    show _ = _
                    rw [count_step _ (by rw [list_size]; exact hlt), if_neg (by rw [← byte_is T hlt]; exact hc)]
                    rfl
                  have HN : Hid (¬ T.data.toList[k + 1 - 1]? = some 10) := by
                    show ¬ _
                    rw [Nat.add_sub_cancel, List.getElem?_eq_getElem (by rw [list_size]; exact hlt), ← byte_is T hlt]
                    exact fun h => hc (Option.some.inj h)
                  clear hc
                  go_wp2
                  go_roundw
                  case rel => exact ⟨k + 1, false, by omega, by rw [HC.out], rfl, by go_num, ⟨fun h => (by cases h), fun h => (by rcases h with h | h; (omega); exact absurd h HN.out)⟩, by trivial⟩
                  case measure => first | (simp [intOf]; done) | (simp [intOf]; omega)
          · have hkn : k = T.size := by omega
            have hli : ¬ (k : Int) < (T.size : Int) := by omega
            have hcnt : (T.data.toList.take k).count 10 = 0 := by
              rw [List.take_of_length_le (by rw [list_size]; omega), HT.out, report_count]
              exact HWANT.out
            rw [hcnt]
            have hqq : (((0 : Nat) : Int) == ((0 : Nat) : Int)) = true := beq_self_eq_true _
            clear hcl HI hcnt hkn
            go_wp2_with fail
            refine (HAW.out W2 HB2.out).mono ?_
            rintro e uz ⟨rfl, hbz⟩
            go_wp2
            go_ret
            exact ⟨rfl, bel_then (HB2.out) hbz⟩
    · have q0 : (a.toList == ([] : List UInt8)) = false := str_some h0
      have hane : a.data.toList ≠ [] := fun h => h0 (by rw [← list_size, h]; rfl)
      have HLC := hid (lines_count hane)
      have HP : Hid (0 < a.size) := by show 0 < _; omega
      clear hane h0
      go_enter Tryz.func5, Tryz.ntmps5
      go_wp2_with fail
      refine HSM.out.mono ?_
      rintro e u1 ⟨rfl, hb1⟩
      have HB1 := hid hb1
      clear hb1 HSM
      go_wp2
      go_loopw [3, 4] (fun v i wr => ∃ k : Nat, k + 1 ≤ a.size ∧ v = .int .i64 ((1 + (a.data.toList.take k).count 10 : Nat) : Int) ∧ i = .int .i64 k ∧ wr = u1) (fun _ i _ => a.size - (intOf i).toNat)
      case atStart => exact ⟨0, by have h9 := HP.out; omega, rfl, rfl, rfl⟩
      case round =>
        obtain ⟨k, hk, rfl, rfl, hww⟩ := hrel
        replace hww := hww.symm
        subst hww
        have hcl := count_le a.data.toList k
        have ha := HA.out
        by_cases hlt1 : k + 1 < a.size
        · have hlt : k < a.size := by omega
          have hli : (k : Int) < (a.size : Int) - 1 := by omega
          have hl2 : (k : Int) < (a.size : Int) := by omega
          have hz0 : (0 : Int) ≤ (k : Int) := by omega
          by_cases hc : a[k] = 10
          · have q9 : (((a[k]).toNat : Int) == 10) = true := by rw [hc]; rfl
            have HC : Hid ((a.data.toList.take (k + 1)).count 10 = (a.data.toList.take k).count 10 + 1) := by
              show _ = _
              rw [count_step _ (by rw [list_size]; exact hlt), if_pos (by rw [← byte_is a hlt]; exact hc)]
            clear hc
            go_wp2
            go_roundw
            case rel => exact ⟨k + 1, by omega, by rw [HC.out]; go_num, by go_num, by trivial⟩
            case measure => first | (simp [intOf]; done) | (simp [intOf]; omega)
          · have q9 : (((a[k]).toNat : Int) == 10) = false := by
              have h8 : ¬ (a[k]).toNat = 10 := fun h => hc (UInt8.toNat_inj.1 h)
              rw [beq_eq_false_iff_ne]
              omega
            have HC : Hid ((a.data.toList.take (k + 1)).count 10 = (a.data.toList.take k).count 10) := by
              show _ = _
              rw [count_step _ (by rw [list_size]; exact hlt), if_neg (by rw [← byte_is a hlt]; exact hc)]
              rfl
            clear hc
            go_wp2
            go_roundw
            case rel => exact ⟨k + 1, by omega, by rw [HC.out], by go_num, by trivial⟩
            case measure => first | (simp [intOf]; done) | (simp [intOf]; omega)
        · have hkn : k = a.data.toList.length - 1 := by rw [list_size]; omega
          have hli : ¬ (k : Int) < (a.size : Int) - 1 := by omega
          obtain ⟨q, hq⟩ : ∃ q, 1 + (a.data.toList.take k).count 10 = q := ⟨_, rfl⟩
          have HWANT : Hid ((Sc.lines a.data.toList).length = q) := by show _ = _; rw [HLC.out, ← hkn]; exact hq
          rw [hq]
          clear hkn hq hcl hlt1
          have HRN : Hid (Calls _ _ _ _ _) := prun a (by have h9 := HA.out; omega) u1 (HE.out.keep (HB1.out))
          obtain ⟨T, hT⟩ : ∃ T : ByteArray, (⟨(Sc.report a.data.toList).toArray⟩ : ByteArray) = T := ⟨_, rfl⟩
          have HT : Hid (T.data.toList = Sc.report a.data.toList) := by show _ = _; rw [← hT]
          have HTZ : Hid (T.size ≤ 1000000) := by show _ ≤ _; rw [← list_size T, HT.out]; exact report_len _ (by rw [list_size]; have h9 := HA.out; omega)
          rw [hT] at HRN
          clear hT
          go_wp2_with fail
          refine HRN.out.mono ?_
          rintro e W2 ⟨rfl, hb2⟩
          have HB2 := hid (bel_then (HB1.out) hb2)
          clear hb2 HRN
          go_wp2
          go_loopw [5, 6, 8] (fun gv bv iv wr => ∃ (k : Nat) (b : Bool), k ≤ T.size ∧ gv = .int .i64 ((T.data.toList.take k).count 10 : Nat) ∧ bv = .bool b ∧ iv = .int .i64 k ∧ Hid (b = true ↔ (k = 0 ∨ T.data.toList[k - 1]? = some 10)) ∧ wr = W2) (fun _ _ iv _ => T.size - (intOf iv).toNat)
          case atStart => exact ⟨0, true, by omega, rfl, rfl, rfl, ⟨fun _ => .inl rfl, fun _ => rfl⟩, rfl⟩
          case round =>
            obtain ⟨k, b, hk, rfl, rfl, rfl, HI, hww⟩ := hrel
            replace hww := hww.symm
            subst hww
            have hcl := count_le T.data.toList k
            have htz := HTZ.out
            by_cases hlt : k < T.size
            · have hli : (k : Int) < (T.size : Int) := by omega
              have hz0 : (0 : Int) ≤ (k : Int) := by omega
              cases b with
              | false =>
                clear HI
                by_cases hc : T[k] = 10
                · have q9 : (((T[k]).toNat : Int) == 10) = true := by rw [hc]; rfl
                  have HC : Hid ((T.data.toList.take (k + 1)).count 10 = (T.data.toList.take k).count 10 + 1) := by
                    show _ = _
                    rw [count_step _ (by rw [list_size]; exact hlt), if_pos (by rw [← byte_is T hlt]; exact hc)]
                  have HN : Hid (T.data.toList[k + 1 - 1]? = some 10) := by
                    show _ = _
                    rw [Nat.add_sub_cancel, List.getElem?_eq_getElem (by rw [list_size]; exact hlt), ← byte_is T hlt, hc]
                  clear hc
                  go_wp2
                  go_roundw
                  case rel => exact ⟨k + 1, true, by omega, by rw [HC.out]; go_num, rfl, by go_num, ⟨fun _ => .inr HN.out, fun _ => rfl⟩, by trivial⟩
                  case measure => first | (simp [intOf]; done) | (simp [intOf]; omega)
                · have q9 : (((T[k]).toNat : Int) == 10) = false := by
                    have h8 : ¬ (T[k]).toNat = 10 := fun h => hc (UInt8.toNat_inj.1 h)
                    rw [beq_eq_false_iff_ne]
                    omega
                  have HC : Hid ((T.data.toList.take (k + 1)).count 10 = (T.data.toList.take k).count 10) := by
                    show _ = _
                    rw [count_step _ (by rw [list_size]; exact hlt), if_neg (by rw [← byte_is T hlt]; exact hc)]
                    rfl
                  have HN : Hid (¬ T.data.toList[k + 1 - 1]? = some 10) := by
                    show ¬ _
                    rw [Nat.add_sub_cancel, List.getElem?_eq_getElem (by rw [list_size]; exact hlt), ← byte_is T hlt]
                    exact fun h => hc (Option.some.inj h)
                  clear hc
                  go_wp2
                  go_roundw
                  case rel => exact ⟨k + 1, false, by omega, by rw [HC.out], rfl, by go_num, ⟨fun h => (by cases h), fun h => (by rcases h with h | h; (omega); exact absurd h HN.out)⟩, by trivial⟩
                  case measure => first | (simp [intOf]; done) | (simp [intOf]; omega)
              | true =>
                have hbg : Begins (T.data.toList.drop k) := by
                  rw [HT.out]
                  refine run_begins _ _ k ?_ ?_
                  · show k < (Sc.report a.data.toList).length
                    rw [← HT.out, list_size]; exact hlt
                  · have h9 := HI.out.1 rfl
                    rw [HT.out] at h9
                    exact h9
                clear HI
                have h2l : k + 2 ≤ T.size := by
                  rcases hbg with h | h
                  · have h9 := h.length_le; have h8 : Sc.okW.length = 2 := rfl; rw [List.length_drop, list_size] at h9; omega
                  · have h9 := h.length_le; have h8 : Sc.errW.length = 6 := rfl; rw [List.length_drop, list_size] at h9; omega
                have e2 : (k : Int) + 2 ≤ (T.size : Int) := by omega
                obtain ⟨D, hD, hDl, _⟩ := cut_mid T (i := k) (j := k + 2) (by omega) h2l
                rw [show ((k + 2 : Nat) : Int) = (k : Int) + 2 from Int.natCast_add k 2] at hD
                rw [show k + 2 - k = 2 by omega] at hDl
                by_cases hok : Sc.okW <+: T.data.toList.drop k
                · have hq : (D.toList == ([111, 107] : List UInt8)) = true := word_yes (by
                    rw [hDl]
                    exact (show Sc.okW = List.take 2 _ from List.prefix_iff_eq_take.1 hok).symm)
                  clear hDl hbg hok h2l
                  by_cases hc : T[k] = 10
                  · have q9 : (((T[k]).toNat : Int) == 10) = true := by rw [hc]; rfl
                    have HC : Hid ((T.data.toList.take (k + 1)).count 10 = (T.data.toList.take k).count 10 + 1) := by
                      show _ = _
                      rw [count_step _ (by rw [list_size]; exact hlt), if_pos (by rw [← byte_is T hlt]; exact hc)]
                    have HN : Hid (T.data.toList[k + 1 - 1]? = some 10) := by
                      show _ = _
                      rw [Nat.add_sub_cancel, List.getElem?_eq_getElem (by rw [list_size]; exact hlt), ← byte_is T hlt, hc]
                    clear hc
                    go_wp2
                    go_roundw
                    case rel => exact ⟨k + 1, true, by omega, by rw [HC.out]; go_num, rfl, by go_num, ⟨fun _ => .inr HN.out, fun _ => rfl⟩, by trivial⟩
                    case measure => first | (simp [intOf]; done) | (simp [intOf]; omega)
                  · have q9 : (((T[k]).toNat : Int) == 10) = false := by
                      have h8 : ¬ (T[k]).toNat = 10 := fun h => hc (UInt8.toNat_inj.1 h)
                      rw [beq_eq_false_iff_ne]
                      omega
                    have HC : Hid ((T.data.toList.take (k + 1)).count 10 = (T.data.toList.take k).count 10) := by
                      show _ = _
                      rw [count_step _ (by rw [list_size]; exact hlt), if_neg (by rw [← byte_is T hlt]; exact hc)]
                      rfl
                    have HN : Hid (¬ T.data.toList[k + 1 - 1]? = some 10) := by
                      show ¬ _
                      rw [Nat.add_sub_cancel, List.getElem?_eq_getElem (by rw [list_size]; exact hlt), ← byte_is T hlt]
                      exact fun h => hc (Option.some.inj h)
                    clear hc
                    go_wp2
                    go_roundw
                    case rel => exact ⟨k + 1, false, by omega, by rw [HC.out], rfl, by go_num, ⟨fun h => (by cases h), fun h => (by rcases h with h | h; (omega); exact absurd h HN.out)⟩, by trivial⟩
                    case measure => first | (simp [intOf]; done) | (simp [intOf]; omega)
                · have hq : (D.toList == ([111, 107] : List UInt8)) = false := word_no (fun h => hok (List.prefix_iff_eq_take.2 (show Sc.okW = List.take 2 _ from (by rw [← hDl, h]; rfl))))
                  have her : Sc.errW <+: T.data.toList.drop k := hbg.resolve_left hok
                  have h6l : k + 6 ≤ T.size := by have h9 := her.length_le; have h8 : Sc.errW.length = 6 := rfl; rw [List.length_drop, list_size] at h9; omega
                  have e6 : (k : Int) + 6 ≤ (T.size : Int) := by omega
                  obtain ⟨D6, hD6, hD6l, _⟩ := cut_mid T (i := k) (j := k + 6) (by omega) h6l
                  rw [show ((k + 6 : Nat) : Int) = (k : Int) + 6 from Int.natCast_add k 6] at hD6
                  rw [show k + 6 - k = 6 by omega] at hD6l
                  have hq6 : (D6.toList == ([101, 114, 114, 111, 114, 32] : List UInt8)) = true := word_yes (by
                    rw [hD6l]
                    exact (show Sc.errW = List.take 6 _ from List.prefix_iff_eq_take.1 her).symm)
                  clear hDl hD6l hbg hok her h2l h6l
                  by_cases hc : T[k] = 10
                  · have q9 : (((T[k]).toNat : Int) == 10) = true := by rw [hc]; rfl
                    have HC : Hid ((T.data.toList.take (k + 1)).count 10 = (T.data.toList.take k).count 10 + 1) := by
                      show _ = _
                      rw [count_step _ (by rw [list_size]; exact hlt), if_pos (by rw [← byte_is T hlt]; exact hc)]
                    have HN : Hid (T.data.toList[k + 1 - 1]? = some 10) := by
                      show _ = _
                      rw [Nat.add_sub_cancel, List.getElem?_eq_getElem (by rw [list_size]; exact hlt), ← byte_is T hlt, hc]
                    clear hc
                    go_wp2
                    go_roundw
                    case rel => exact ⟨k + 1, true, by omega, by rw [HC.out]; go_num, rfl, by go_num, ⟨fun _ => .inr HN.out, fun _ => rfl⟩, by trivial⟩
                    case measure => first | (simp [intOf]; done) | (simp [intOf]; omega)
                  · have q9 : (((T[k]).toNat : Int) == 10) = false := by
                      have h8 : ¬ (T[k]).toNat = 10 := fun h => hc (UInt8.toNat_inj.1 h)
                      rw [beq_eq_false_iff_ne]
                      omega
                    have HC : Hid ((T.data.toList.take (k + 1)).count 10 = (T.data.toList.take k).count 10) := by
                      show _ = _
                      rw [count_step _ (by rw [list_size]; exact hlt), if_neg (by rw [← byte_is T hlt]; exact hc)]
                      rfl
                    have HN : Hid (¬ T.data.toList[k + 1 - 1]? = some 10) := by
                      show ¬ _
                      rw [Nat.add_sub_cancel, List.getElem?_eq_getElem (by rw [list_size]; exact hlt), ← byte_is T hlt]
                      exact fun h => hc (Option.some.inj h)
                    clear hc
                    go_wp2
                    go_roundw
                    case rel => exact ⟨k + 1, false, by omega, by rw [HC.out], rfl, by go_num, ⟨fun h => (by cases h), fun h => (by rcases h with h | h; (omega); exact absurd h HN.out)⟩, by trivial⟩
                    case measure => first | (simp [intOf]; done) | (simp [intOf]; omega)
            · have hkn : k = T.size := by omega
              have hli : ¬ (k : Int) < (T.size : Int) := by omega
              have hcnt : (T.data.toList.take k).count 10 = q := by
                rw [List.take_of_length_le (by rw [list_size]; omega), HT.out, report_count]
                exact HWANT.out
              rw [hcnt]
              have hqq : (((q : Nat) : Int) == ((q : Nat) : Int)) = true := beq_self_eq_true _
              clear hcl HI hcnt hkn
              go_wp2_with fail
              refine (HAW.out W2 HB2.out).mono ?_
              rintro e uz ⟨rfl, hbz⟩
              go_wp2
              go_ret
              exact ⟨rfl, bel_then (HB2.out) hbz⟩
  · have HSM : Hid (Calls _ _ _ _ _) := lsmall_no a hs w
    clear hs
    go_enter Tryz.func5, Tryz.ntmps5
    go_wp2_with fail
    refine HSM.out.mono ?_
    rintro e u1 ⟨rfl, hb1⟩
    have HB1 := hid hb1
    clear hb1
    go_wp2_with fail
    refine (HAW.out u1 HB1.out).mono ?_
    rintro e uz ⟨rfl, hbz⟩
    go_wp2
    go_ret
    exact ⟨rfl, bel_then (HB1.out) hbz⟩

end Go.Proofs.YtokfcjgfpchffaaGreatDoor
