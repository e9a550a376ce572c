/- LoadCalm, with letters. -/
import Derived.Test.YtpldfalnoaamkaaLdT
import Derived.Test.YtpldfalnoaamkaaLe
namespace Go.Proofs.Ytpldfalnoaamkaa
open Go.ChangeShapes Go.WideShapes Go.ChangeAt Go.RowKit


theorem Ld.min_step (l : List Int) (K : Int) {j : Nat} (h : j < l.length) : (l.take j).map (min · K) ++ [min (l.getD j 0) K] = (l.take (j + 1)).map (min · K) := by
  rw [take_snoc l j h, List.map_append]; rfl
set_option maxRecDepth 100000 in
set_option maxHeartbeats 4000000 in
theorem lcalm (G : LoadDoes) (b0 : Option Addr) (n0 c0 : Nat) (l : List Int) (e : Int) (a : Option Addr) (n c : Nat) (m : List (List Int)) (bd : Int) (w : World) (h0 : (sliceS (intS .u32)).rep w everywhere [.slice b0 n0 c0] l) (hf : ∀ x ∈ l, 0 ≤ x ∧ x ≤ 4294967295) (h : matS.rep w everywhere [.slice a n c] m) (hbd : 0 ≤ bd ∧ bd ≤ 4294967295) :
    Calls Try.prog 6 #[.slice b0 n0 c0, .agg #[.int .i64 e, .slice a n c], .int .u32 bd] w fun r w' => r = .returned (.bool true) ∧ Below w.heap.size w w' := by
  obtain ⟨i0, hi0, hi1, hi2, hi3⟩ := info_parts Try.infoInt
  have HLM : Hid (m.length = n) := (sliceS_len h).1
  have HF := hidL hf
  have hbd1 := hbd.1
  have hbd2 := hbd.2
  clear hf hbd
  have HAW : Hid (∀ u, Calls Try.prog 11 #[] u fun r w' => r = .returned (.bool true) ∧ Below u.heap.size u w') := fun u => G.awake u
  have HN0 : Hid (l.length = n0) := (sliceS_len h0).1
  have hbn := new_bel w (.cells #[.int .i64 e, .slice a n c] 25)
  have kb0 := Box.new w 25 #[.int .i64 e, .slice a n c]
  have HRW : Hid (∀ u, Below w.heap.size w u → (sliceS (intS .u32)).rep u everywhere [.slice b0 n0 c0] l) := fun u hu => Shape.below h0 hu
  have HMA : Hid (∀ u, Below w.heap.size w u → matS.rep u everywhere [.slice a n c] m) := fun u hu => Shape.below h hu
  have HSM : Hid (Calls _ _ _ _ _) := small a n c m everywhere _ (Shape.below h hbn)
  have HBN := hidL hbn
  have KB0 := hidL kb0
  have e0 := kb0.cell 0 rfl
  have e1 := kb0.cell 1 rfl
  clear h0 h hbn kb0
  by_cases g60 : 60 < (n0 : Int)
  · go_enter Try.func6, Try.ntmps6
    go_wp2_with fail
    refine (HAW.out _).mono ?_
    rintro r WZ ⟨rfl, hbz⟩
    go_wp2
    go_ret
    exact ⟨rfl, bel_then (HBN.out) hbz⟩
  go_enter Try.func6, Try.ntmps6
  go_wp2_with fail
  refine HSM.out.mono ?_
  rintro r W1 ⟨⟨bb, rfl, hbb⟩, h9⟩
  subst h9
  clear HSM
  cases bb with
  | false =>
    go_wp2_with fail
    refine (HAW.out _).mono ?_
    rintro r WZ ⟨rfl, hbz⟩
    go_wp2
    go_ret
    exact ⟨rfl, bel_then (HBN.out) hbz⟩
  | true =>
    have HZ := hidL (Ld.small_sized (hbb.1 rfl))
    have hn30 : n ≤ 30 := by have := (hbb.1 rfl).1; have := HLM.out; omega
    have hn0 : n0 ≤ 60 := by omega
    clear hbb
    have hm1 : 0 ≤ bd % 1048576 := Int.emod_nonneg _ (by omega)
    have hm2 : bd % 1048576 < 1048576 := Int.emod_lt_of_pos _ (by omega)
    go_upto_region 4 with fail
    clear hbd1 hbd2 e0 e1
    generalize bd % 1048576 = y at *
    obtain ⟨K, hK⟩ : ∃ K, 1 + y = K := ⟨_, rfl⟩
    have hk1 : 1 ≤ K := by omega
    have hk2 : K ≤ 1048576 := by omega
    rw [hK]
    clear hK hm1 hm2
    have ho0 : Own (intS .i64) (w.alloc (.cells #[.int .i64 e, .slice a n c] 25)) (w.heap.size + 1) 3 (.slice none 0 0) ((l.take 0).map (min · K)) := Own.nil _ _ _ _
    have HO := hidL ho0
    clear ho0
    go_wp2
    generalize w.alloc (.cells #[.int .i64 e, .slice a n c] 25) = W at *
    go_loopw [8, 34] (fun v i wr => ∃ (j : Nat) (a1 : Option Addr) (c1 : Nat), j ≤ n0 ∧ v = .slice a1 j c1 ∧ i = .int .i64 j ∧ Box wr w.heap.size 25 #[.int .i64 e, .slice a n c] ∧ Own (intS .i64) wr (w.heap.size + 1) 3 (.slice a1 j c1) ((l.take j).map (min · K)) ∧ Below w.heap.size w wr) (fun _ i _ => n0 - (intOf i).toNat)
    case atStart => exact ⟨0, none, 0, Nat.zero_le _, rfl, rfl, KB0.out, HO.out, HBN.out⟩
    case round =>
      clear HO KB0 HBN
      obtain ⟨j, a1, c1, hj, rfl, rfl, kb, hown, hbel⟩ := hrel
      by_cases hlt : j < n0
      · obtain ⟨b1, o1, rfl, hb1, hc1⟩ := (Row.of_rep (HRW.out wr hbel)).at hlt
        have hli : (j : Int) < (n0 : Int) := by omega
        have hjl : j < l.length := by have := HN0.out; omega
        have hbx := HF.out _ (Mx.num_mem l j hjl)
        have hcat0 := Ld.min_step l K hjl
        have hlen : ((l.take j).map (min · K)).length = j := by rw [List.length_map, List.length_take]; omega
        have hk5 : ((l.take j).map (min · K)).length + 1 = j + 1 := by rw [hlen]
        have hk6 : ((l.take j).map (min · K)).length + 1 ≤ 100000 := by rw [hlen]; omega
        obtain ⟨x, hx⟩ : ∃ x, l.getD j 0 = x := ⟨_, rfl⟩
        rw [hx] at hc1 hbx hcat0
        obtain ⟨z, hz⟩ : ∃ z, min x K = z := ⟨_, rfl⟩
        rw [hz] at hcat0
        have hbx1 := hbx.1
        have hbx2 := hbx.2
        obtain ⟨hsrc, hoff⟩ := Own.esrc (F := fun _ => False) (cs := [.int .i64 z]) (x := z) hown rfl (fun _ h => h.elim)
        have hown5 := hown.keep (new_bel wr (.cells #[.int .i64 z] 3))
        have hB5 := bel_then hbel (new_bel wr (.cells #[.int .i64 z] 3))
        have kb5 := kb.keep (new_bel wr (.cells #[.int .i64 z] 3))
        have hs5 : w.heap.size + 1 ≤ (wr.alloc (.cells #[.int .i64 z] 3)).heap.size := by have := kb5.lt; omega
        clear hown hbel hlen hx hbx hjl kb
        generalize (l.take j).map (min · K) = L at *
        obtain ⟨L2, HL2⟩ : ∃ L2, Hid ((l.take (j + 1)).map (min · K) = L2) := ⟨_, rfl⟩
        rw [HL2.out] at hcat0
        go_wp2_with (at_builtin; refine wpList_appK (intS .i64) (by simp [Region.wanted]) (.tmp 38) (.tmp 43) 22 rfl (w.heap.size + 1) 3 i0 (.int .i64 0) 8 Try.underlying22 hi0 hi1 hi2 hi3 rfl Nat.one_pos (by omega) (by rfl) hown5 (by rfl) hsrc hoff hk6 hs5 (j + 1) hk5 L2 hcat0 ?_; intro a7 c7 u7 ho7 hg7 hb7 hat7)
        go_roundw
        case rel => exact ⟨j + 1, a7, c7, by omega, rfl, by go_num, kb5.below hb7 (by omega), by rw [HL2.out]; exact ho7, hB5.trans (hb7.mono (by omega))⟩
        case measure => simp [intOf]; omega
      · have hjn : j = n0 := by omega
        subst hjn
        have hli : ¬ (j : Int) < (j : Int) := by omega
        have hfew : (l.take j).map (min · K) = l.map (min · K) := by rw [List.take_of_length_le (by have := HN0.out; omega)]
        rw [hfew] at hown
        have hfl : ∀ x ∈ l.map (min · K), x ≤ K := fun x hx => by
          obtain ⟨y, _, rfl⟩ := List.mem_map.1 hx
          omega
        have HFL := hidL hfl
        obtain ⟨L, hL⟩ : ∃ L, l.map (min · K) = L := ⟨_, rfl⟩
        rw [hL] at hown HFL
        have hrep := Own.high hown
        have hrow := Shape.low hrep
        have e0 := kb.cell 0 rfl
        have e1 := kb.cell 1 rfl
        clear hfew hL hfl hown hrep
        obtain ⟨X, N, B, hHot⟩ := Ld.hot_there L e m K
        obtain ⟨Y, Q, D, hCold⟩ := Ld.cold_there (List.replicate m.length (4 * K)) e m K
        obtain rfl := Ld.calm_hot hk1 HFL.out hHot
        obtain rfl := Ld.calm_cold hk1 hCold
        have HH1 : Hid (∀ u, Below wr.heap.size wr u → Calls _ _ _ u _) := fun u hu => G.hot a1 j c1 L e a n c m K X N false u (Row.of_rep (Shape.now hrow hu)) (by omega) (HMA.out u (bel_then hbel hu)) HZ.out hHot
        have HH2 : Hid (∀ (a2 : Option Addr) (c2 : Nat) (u : World), Row .i64 u a2 n (List.replicate n (4 * K)) → Below wr.heap.size wr u → Calls Try.prog 19 #[.slice a2 n c2, .agg #[.int .i64 e, .slice a n c], .int .i64 K] u fun r w' => r = .returned (.tuple #[.int .i64 Y, .int .i64 Q, .bool false]) ∧ Below u.heap.size u w') := fun a2 c2 u hr2 hu => G.cold a2 n c2 (List.replicate n (4 * K)) e a n c m K Y Q false u hr2 (by omega) (HMA.out u (bel_then hbel hu)) HZ.out (by rw [← HLM.out]; exact hCold)
        have ho0 : Own (intS .i64) wr wr.heap.size 3 (.slice none 0 0) (List.replicate 0 (4 * K)) := Own.nil _ _ _ _
        have HO := hidL ho0
        have HBW := hidL (And.intro hbel kb)
        have hkw : w.heap.size < wr.heap.size := kb.lt
        clear ho0 hHot hCold hrow hbel kb HFL
        obtain ⟨W3, hW3⟩ : ∃ W3, W3 = wr := ⟨_, rfl⟩
        subst hW3
        go_wp2
        clear e0 e1
        go_loopw [9, 49] (fun v i wr => ∃ (k : Nat) (a2 : Option Addr) (c2 : Nat), k ≤ n ∧ v = .slice a2 k c2 ∧ i = .int .i64 k ∧ Own (intS .i64) wr W3.heap.size 3 (.slice a2 k c2) (List.replicate k (4 * K)) ∧ Below W3.heap.size W3 wr) (fun _ i _ => n - (intOf i).toNat)
        case atStart => exact ⟨0, none, 0, Nat.zero_le _, rfl, rfl, HO.out, Below.refl _ _⟩
        case round =>
          clear HO
          obtain ⟨k, a2, c2, hk, rfl, rfl, hown, hbel⟩ := hrel
          by_cases hkn : k < n
          · have hki : (k : Int) < (n : Int) := by omega
            obtain ⟨V, hV⟩ : ∃ V, 4 * K = V := ⟨_, rfl⟩
            have hv1 : 1 ≤ V := by omega
            have hv2 : V ≤ 4194304 := by omega
            rw [hV] at hown
            have hlen : (List.replicate k V).length = k := List.length_replicate
            have hk5 : (List.replicate k V).length + 1 = k + 1 := by rw [hlen]
            have hk6 : (List.replicate k V).length + 1 ≤ 100000 := by rw [hlen]; omega
            have hcat0 : List.replicate k V ++ [V] = List.replicate (k + 1) V := by rw [List.replicate_succ']
            obtain ⟨hsrc, hoff⟩ := Own.esrc (F := fun _ => False) (cs := [.int .i64 V]) (x := V) hown rfl (fun _ h => h.elim)
            have hown5 := hown.keep (new_bel wr (.cells #[.int .i64 V] 3))
            have hB5 := bel_then hbel (new_bel wr (.cells #[.int .i64 V] 3))
            have hs5 : W3.heap.size ≤ (wr.alloc (.cells #[.int .i64 V] 3)).heap.size := hB5.size
            have HVV := hidL hV
            clear hown hbel hlen
            generalize List.replicate k V = L1 at *
            obtain ⟨L2, HL2⟩ : ∃ L2, Hid (List.replicate (k + 1) V = L2) := ⟨_, rfl⟩
            rw [HL2.out] at hcat0
            go_wp2_with (at_builtin; refine wpList_appK (intS .i64) (by simp [Region.wanted]) (.tmp 51) (.tmp 54) 22 rfl W3.heap.size 3 i0 (.int .i64 0) 8 Try.underlying22 hi0 hi1 hi2 hi3 rfl Nat.one_pos (by omega) (by rfl) hown5 (by rfl) hsrc hoff hk6 hs5 (k + 1) hk5 L2 hcat0 ?_; intro a7 c7 u7 ho7 hg7 hb7 hat7)
            go_roundw
            case rel => exact ⟨k + 1, a7, c7, by omega, rfl, by go_num, by rw [HVV.out, HL2.out]; exact ho7, hB5.trans hb7⟩
            case measure => simp [intOf]; omega
          · have hk9 : k = n := by omega
            subst hk9
            have hki : ¬ (k : Int) < (k : Int) := by omega
            have kb2 := HBW.out.2.keep hbel
            have e0 := kb2.cell 0 rfl
            have e1 := kb2.cell 1 rfl
            have HR2 := hidL (Row.of_rep hown.is)
            have HB2 := hidL hbel
            clear hown hbel
            go_wp2_with fail
            refine (HH1.out _ HB2.out).mono ?_
            rintro r W4 ⟨rfl, hb4⟩
            have kb4 := kb2.keep hb4
            have HB4 := hidL (bel_then HB2.out hb4)
            have HR4 := hidL (HR2.out.keep hb4)
            clear e0 e1 kb2 hb4
            have e0 := kb4.cell 0 rfl
            have e1 := kb4.cell 1 rfl
            go_wp2_with fail
            refine (HH2.out _ _ _ HR4.out HB4.out).mono ?_
            rintro r W5 ⟨rfl, hb5⟩
            have HB5 := hidL (bel_then HBW.out.1 (bel_then HB4.out hb5))
            clear e0 e1 kb4 hb5
            go_wp2_with fail
            refine (HAW.out W5).mono ?_
            rintro r WZ ⟨rfl, hbz⟩
            go_wp2
            go_ret
            exact ⟨rfl, bel_then (HB5.out) hbz⟩

end Go.Proofs.Ytpldfalnoaamkaa
