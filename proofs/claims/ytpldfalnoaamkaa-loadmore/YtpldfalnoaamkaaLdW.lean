/- LoadMore, with letters. -/
import Derived.Test.YtpldfalnoaamkaaLdT
import Derived.Test.YtpldfalnoaamkaaLe
namespace Go.Proofs.Ytpldfalnoaamkaa
open Go.ChangeShapes Go.WideShapes Go.ChangeAt Go.RowKit


theorem Ld.mod_step (l : List Int) (M : Int) {j : Nat} (h : j < l.length) : (l.take j).map (· % M) ++ [l.getD j 0 % M] = (l.take (j + 1)).map (· % M) := by
  rw [take_snoc l j h, List.map_append]; rfl
theorem Ld.Hot.zero {l : List Int} {e : Int} {m : List (List Int)} {high X N : Int} (h : Ld.Hot l e m high X N false) : X = 0 ∧ N = 0 := by
  rcases h with ⟨_, h1, h2, _⟩ | ⟨_, _, _, _, _, h⟩
  · exact ⟨h1, h2⟩
  · cases h
set_option maxRecDepth 100000 in
set_option maxHeartbeats 4000000 in
theorem lmore (G : LoadDoes) (b0 : Option Addr) (n0 c0 : Nat) (l : List Int) (e : Int) (a : Option Addr) (n c : Nat) (m : List (List Int)) (high : Int) (w : World) (h0 : (sliceS (intS .u32)).rep w everywhere [.slice b0 n0 c0] l) (hf : ∀ x ∈ l, 0 ≤ x ∧ x ≤ 4294967295) (h : matS.rep w everywhere [.slice a n c] m) :
    Calls Try.prog 9 #[.slice b0 n0 c0, .agg #[.int .i64 e, .slice a n c], .int .i64 high] w fun r w' => r = .returned (.bool true) ∧ Below w.heap.size w w' := by
  obtain ⟨i0, hi0, hi1, hi2, hi3⟩ := info_parts Try.infoInt
  have HF := hidL hf
  clear hf
  have HAW : Hid (∀ u, Calls Try.prog 11 #[] u fun r w' => r = .returned (.bool true) ∧ Below u.heap.size u w') := fun u => G.awake u
  have HN0 : Hid (l.length = n0) := (sliceS_len h0).1
  have hbn := new_bel w (.cells #[.int .i64 e, .slice a n c] 25)
  have kb0 := Box.new w 25 #[.int .i64 e, .slice a n c]
  have HRW : Hid (∀ u, Below w.heap.size w u → (sliceS (intS .u32)).rep u everywhere [.slice b0 n0 c0] l) := fun u hu => Shape.below h0 hu
  have HMA : Hid (∀ u, Below w.heap.size w u → matS.rep u everywhere [.slice a n c] m) := fun u hu => Shape.below h hu
  have HSM : Hid (Calls _ _ _ _ _) := small a n c m everywhere _ (Shape.below h hbn)
  have HBN := hidL hbn
  have KB0 := hidL kb0
  have e0 := kb0.cell 0 rfl
  have e1 := kb0.cell 1 rfl
  clear h0 h hbn kb0
  by_cases g60 : 8 < (n0 : Int)
  · go_enter Try.func9, Try.ntmps9
    go_wp2_with fail
    refine (HAW.out _).mono ?_
    rintro r WZ ⟨rfl, hbz⟩
    go_wp2
    go_ret
    exact ⟨rfl, bel_then (HBN.out) hbz⟩
  go_enter Try.func9, Try.ntmps9
  go_wp2_with fail
  refine HSM.out.mono ?_
  rintro r W1 ⟨⟨bb, rfl, hbb⟩, h9⟩
  subst h9
  clear HSM
  cases bb with
  | false =>
    go_wp2_with fail
    refine (HAW.out _).mono ?_
    rintro r WZ ⟨rfl, hbz⟩
    go_wp2
    go_ret
    exact ⟨rfl, bel_then (HBN.out) hbz⟩
  | true =>
    have HZ := hidL (Ld.small_sized (hbb.1 rfl))
    have hn0 : n0 ≤ 8 := by omega
    clear hbb
    have ho0 : Own (intS .i64) (w.alloc (.cells #[.int .i64 e, .slice a n c] 25)) (w.heap.size + 1) 3 (.slice none 0 0) ((l.take 0).map (· % 2147483646)) := Own.nil _ _ _ _
    have HO := hidL ho0
    clear ho0
    go_wp2
    clear e0 e1
    generalize w.alloc (.cells #[.int .i64 e, .slice a n c] 25) = W at *
    go_loopw [7, 28] (fun v i wr => ∃ (j : Nat) (a1 : Option Addr) (c1 : Nat), j ≤ n0 ∧ v = .slice a1 j c1 ∧ i = .int .i64 j ∧ Box wr w.heap.size 25 #[.int .i64 e, .slice a n c] ∧ Own (intS .i64) wr (w.heap.size + 1) 3 (.slice a1 j c1) ((l.take j).map (· % 2147483646)) ∧ Below w.heap.size w wr) (fun _ i _ => n0 - (intOf i).toNat)
    case atStart => exact ⟨0, none, 0, Nat.zero_le _, rfl, rfl, KB0.out, HO.out, HBN.out⟩
    case round =>
      clear HO KB0 HBN
      obtain ⟨j, a1, c1, hj, rfl, rfl, kb, hown, hbel⟩ := hrel
      by_cases hlt : j < n0
      · obtain ⟨b1, o1, rfl, hb1, hc1⟩ := (Row.of_rep (HRW.out wr hbel)).at hlt
        have hli : (j : Int) < (n0 : Int) := by omega
        have hjl : j < l.length := by have := HN0.out; omega
        have hbx := HF.out _ (Mx.num_mem l j hjl)
        have hcat0 := Ld.mod_step l 2147483646 hjl
        have hlen : ((l.take j).map (· % 2147483646)).length = j := by rw [List.length_map, List.length_take]; omega
        have hk5 : ((l.take j).map (· % 2147483646)).length + 1 = j + 1 := by rw [hlen]
        have hk6 : ((l.take j).map (· % 2147483646)).length + 1 ≤ 100000 := by rw [hlen]; omega
        obtain ⟨x, hx⟩ : ∃ x, l.getD j 0 = x := ⟨_, rfl⟩
        rw [hx] at hc1 hbx hcat0
        have hbx1 := hbx.1
        have hbx2 := hbx.2
        have hz1 : 0 ≤ x % 2147483646 := Int.emod_nonneg _ (by omega)
        have hz2 : x % 2147483646 < 2147483646 := Int.emod_lt_of_pos _ (by omega)
        obtain ⟨hsrc, hoff⟩ := Own.esrc (F := fun _ => False) (cs := [.int .i64 (x % 2147483646)]) (x := x % 2147483646) hown rfl (fun _ h => h.elim)
        have hown5 := hown.keep (new_bel wr (.cells #[.int .i64 (x % 2147483646)] 3))
        have hB5 := bel_then hbel (new_bel wr (.cells #[.int .i64 (x % 2147483646)] 3))
        have kb5 := kb.keep (new_bel wr (.cells #[.int .i64 (x % 2147483646)] 3))
        have hs5 : w.heap.size + 1 ≤ (wr.alloc (.cells #[.int .i64 (x % 2147483646)] 3)).heap.size := by have := kb5.lt; omega
        clear hown hbel hlen hx hbx hjl kb
        generalize (l.take j).map (· % 2147483646) = L at *
        obtain ⟨L2, hL2⟩ : ∃ L2, (l.take (j + 1)).map (· % 2147483646) = L2 := ⟨_, rfl⟩
        have HL2 := hidL hL2
        clear hL2
        rw [HL2.out] at hcat0
        go_wp2_with (at_builtin; refine wpList_appK (intS .i64) (by simp [Region.wanted]) (.tmp 32) (.tmp 36) 22 rfl (w.heap.size + 1) 3 i0 (.int .i64 0) 8 Try.underlying22 hi0 hi1 hi2 hi3 rfl Nat.one_pos (by omega) (by rfl) hown5 (by rfl) hsrc hoff hk6 hs5 (j + 1) hk5 L2 hcat0 ?_; intro a7 c7 u7 ho7 hg7 hb7 hat7)
        go_roundw
        case rel => exact ⟨j + 1, a7, c7, by omega, rfl, by go_num, kb5.below hb7 (by omega), by rw [HL2.out]; exact ho7, hB5.trans (hb7.mono (by omega))⟩
        case measure => simp [intOf]; omega
      · have hjn : j = n0 := by omega
        subst hjn
        have hli : ¬ (j : Int) < (j : Int) := by omega
        have hall : (l.take j).map (· % 2147483646) = l.map (· % 2147483646) := by rw [List.take_of_length_le (by have := HN0.out; omega)]
        rw [hall] at hown
        have hfl : ∀ x ∈ l.map (· % 2147483646), 0 ≤ x ∧ x < 2147483646 := fun x hx => by
          obtain ⟨y, _, rfl⟩ := List.mem_map.1 hx
          exact ⟨Int.emod_nonneg _ (by omega), Int.emod_lt_of_pos _ (by omega)⟩
        have HFL := hidL hfl
        obtain ⟨L, hL⟩ : ∃ L, l.map (· % 2147483646) = L := ⟨_, rfl⟩
        rw [hL] at hown HFL
        have hrep := Own.high hown
        have hrow := Shape.low hrep
        have e0 := kb.cell 0 rfl
        have e1 := kb.cell 1 rfl
        clear hall hL hfl hown hrep
        obtain ⟨X, N, B, hHot⟩ := Ld.hot_there L e m high
        have HHOT := hidL hHot
        have HROW : Hid (∀ u, Below wr.heap.size wr u → rowS.rep u everywhere [.slice a1 j c1] L) := fun u hu => Shape.any (Shape.now hrow hu)
        have HMB : Hid (∀ u, Below wr.heap.size wr u → matS.rep u everywhere [.slice a n c] m) := fun u hu => HMA.out u (bel_then hbel hu)
        have HH1 : Hid (∀ u, Below wr.heap.size wr u → Calls _ _ _ u _) := fun u hu => G.hot a1 j c1 L e a n c m high X N B u (Row.of_rep (HROW.out u hu)) (by omega) (HMB.out u hu) HZ.out hHot
        have HBW := hidL (And.intro hbel kb)
        clear hHot hrow hbel kb
        go_wp2_with fail
        refine (HH1.out _ (Below.refl _ _)).mono ?_
        rintro r W2 ⟨rfl, hb2⟩
        have kb2 := HBW.out.2.keep hb2
        have HB2 := hidL hb2
        clear e0 e1 HH1 hb2
        cases B with
        | false =>
          obtain ⟨rfl, rfl⟩ := Ld.Hot.zero HHOT.out
          have HB9 := hidL (bel_then HBW.out.1 HB2.out)
          go_wp2_with fail
          refine (HAW.out W2).mono ?_
          rintro r WZ ⟨rfl, hbz⟩
          go_wp2
          go_ret
          exact ⟨rfl, bel_then (HB9.out) hbz⟩
        | true =>
          have hcl : Ld.count L X < 2147483647 := by
            unfold Ld.count
            split
            · have := HFL.out _ (Mx.num_mem L X.toNat (by omega)); omega
            · omega
          have hMore := Ld.more HHOT.out hcl
          have hnl := Ld.note_len L X
          have hLj : L.length = j := (sliceS_len (HROW.out wr (Below.refl _ _))).1
          have HNO : Hid (∀ u, Below W2.heap.size W2 u → Calls _ _ _ u _) := fun u hu => G.note a1 j c1 L X u (HROW.out u (bel_then HB2.out hu)) (by omega) (fun y hy => by have := (HFL.out y hy).1; omega)
          obtain ⟨q, hq⟩ : ∃ q, (Ld.note L X).length = q := ⟨_, rfl⟩
          obtain ⟨L2, hL2⟩ : ∃ L2, Ld.note L X = L2 := ⟨_, rfl⟩
          rw [hq] at hnl
          rw [hq, hL2] at HNO
          rw [hL2] at hMore
          have HH2 : Hid (∀ (a2 : Option Addr) (c2 : Nat) (u : World), rowS.rep u everywhere [.slice a2 q c2] L2 → Below W2.heap.size W2 u → Calls Try.prog 18 #[.slice a2 q c2, .agg #[.int .i64 e, .slice a n c], .int .i64 high] u fun r w' => r = .returned (.tuple #[.int .i64 X, .int .i64 N, .bool true]) ∧ Below u.heap.size u w') := fun a2 c2 u hr2 hu => G.hot a2 q c2 L2 e a n c m high X N true u (Row.of_rep hr2) (by omega) (HMB.out u (bel_then HB2.out hu)) HZ.out hMore
          have hD : Below W2.heap.size W2 W2.drew := (Below.refl _ _).drew
          have e0 := kb2.cell 0 rfl
          have e1 := kb2.cell 1 rfl
          have x1 : (X == X) = true := beq_self_eq_true _
          have x2 : (N == N) = true := beq_self_eq_true _
          clear hcl hnl hLj hq hL2 hMore HHOT HROW HMB
          go_wp2
          go_region_with
            (first
              | (go_at_call 18; refine (HH2.out a4 c4 _ hr4 hd4).mono ?_; rintro r W5 ⟨rfl, hb5⟩)
              | (go_at_call 12; refine (HNO.out _ (by first | exact hD | exact Below.refl _ _)).mono ?_; rintro r W4 ⟨hb4, a4, c4, rfl, hr4⟩; have hd4 := bel_then hD hb4; have kb4 := kb2.keep hd4; have e2 := kb4.cell 0 rfl; have e3 := kb4.cell 1 rfl))
          all_goals
            have HB9 := hidL (bel_then HBW.out.1 (bel_then HB2.out (bel_then hd4 hb5)))
            go_wp2_with fail
            refine (HAW.out W5).mono ?_
            rintro r WZ ⟨rfl, hbz⟩
            go_wp2
            go_ret
            exact ⟨rfl, bel_then (HB9.out) hbz⟩

end Go.Proofs.Ytpldfalnoaamkaa
