/- What rowsOf of package chunk does when called: rows out of bytes, each stored number by number. -/
import Derived.Test.YtokkhkhipgopbaaChkA
import Derived.Test.YtokkhkhipgopbaaJa
namespace Go.Proofs.Ytokkhkhipgopbaa
open Go.ChangeShapes Go.WideShapes Go.ChangeAt Go.RowKit

/-- The call owns the slice of the rows xs in block g; at i stands v, that leads to block G, and what lies there is not said; no other row lies there. -/
def Holed (P : Nat → Prop) (w : World) (base : Nat) (e : TypeId) (g q i G : Nat) (v : Value) (xs : List (List Int)) : Prop :=
  xs.length = q ∧ ∃ css : List (List Value), w.ownsRow base e 1 (.slice (some ⟨g, 0, none⟩) q q) q css.flatten ∧ (inS rowS P).all w (fun b => b ≠ g ∧ b < G) (css.set i [.slice none 0 0]) (xs.set i []) ∧ css[i]? = some [v] ∧ ∀ c ∈ css, c.length = 1
section
variable {P : Nat → Prop} {w u : World} {base : Nat} {e : TypeId} {g q i G : Nat} {v : Value} {xs : List (List Int)}
theorem Holed.made (h : Own (inS rowS P) w base e (.slice (some ⟨g, 0, none⟩) q q) xs) (hi : i < q) (hb : Below w.heap.size w u) (v : Value) :
    (∃ z, u.cell? ⟨g, i, none⟩ = some z) ∧ u.frozen? ⟨g, i, none⟩ = false ∧ Holed P (u.setCell ⟨g, i, none⟩ v) base e g q i w.heap.size v xs := by
  have hl := (sliceS_len h.is).1
  obtain ⟨css, hrow, hall⟩ := h
  have hlen : ∀ c ∈ css, c.length = 1 := Shape.all_len hall
  have hU : u.ownsRow base e 1 (.slice (some ⟨g, 0, none⟩) q q) q css.flatten := by rw [hl] at hrow; exact own_below hrow hb
  have hcl : css.length = xs.length := hall.1
  have hfl : css.flatten.length = xs.length := by rw [flat_len hlen, hcl, Nat.mul_one]
  have k1 : (inS rowS P).all w (fun b => b ≠ g ∧ b < w.heap.size) css xs := Shape.all_mono hall fun b hb' hlt => ⟨fun e => hb' (by rw [e]; rfl), hlt⟩
  have k2 : (inS rowS P).all u (fun b => b ≠ g ∧ b < w.heap.size) css xs := Shape.all_keep k1 fun b _ hlt => hb.block b hlt
  have k3 := Shape.all_set (j := i) k2 (show (inS rowS P).rep u (fun b => b ≠ g ∧ b < w.heap.size) [.slice none 0 0] [] from rep_none (intS .i64) u _)
  have k4 := Shape.all_keep (w' := u.setCell ⟨g, i, none⟩ v) k3 fun b hb' _ => Below.heap_setCell u _ v b hb'.1
  refine ⟨⟨css.flatten[i]'(by omega), ?_⟩, hU.frozenAt i, hl, css.set i [v], ?_, ?_, ?_, ?_⟩
  · rw [hU.cellAt i (by omega)]; exact List.getElem?_eq_getElem (by omega)
  · rw [flat_set1 hlen]; exact (hU.stored i v).1
  · rw [List.set_set]; exact k4
  · rw [List.getElem?_set_self (by omega)]
  · intro c hc
    rcases List.mem_or_eq_of_mem_set hc with h1 | h1
    · exact hlen c h1
    · rw [h1]; rfl
theorem Holed.cell (h : Holed P w base e g q i G v xs) : w.cell? ⟨g, i, none⟩ = some v := by
  obtain ⟨h0, css, h1, h2, h3, h4⟩ := h
  have hi : i < css.length := (List.getElem?_eq_some_iff.1 h3).1
  have hc : css.length = xs.length := by have := h2.1; simpa using this
  rw [h1.cellAt i (by omega)]
  have := flat_get h4 i 0 (by omega)
  rw [Nat.mul_one, Nat.add_zero, h3] at this
  exact this
theorem Holed.keep (h : Holed P w base e g q i G v xs) (hb : Below w.heap.size w u) : Holed P u base e g q i G v xs := by
  obtain ⟨h0, css, h1, h2, h3, h4⟩ := h
  exact ⟨h0, css, own_below h1 hb, Shape.all_keep h2 fun b _ hlt => hb.block b hlt, h3, h4⟩
theorem Holed.store (h : Holed P w base e g q i G v xs) (hne : g ≠ G) (k : Nat) (x : Value) : Holed P (w.setCell ⟨G, k, none⟩ x) base e g q i G v xs := by
  obtain ⟨h0, css, h1, h2, h3, h4⟩ := h
  refine ⟨h0, css, h1.kept (grown_set w G k x) (.inr fun c => hne (Option.some.inj c)), Shape.all_keep h2 fun b hb _ => Below.heap_setCell w _ x b (fun e => by have := hb.2; exact absurd e (Nat.ne_of_lt this)), h3, h4⟩
theorem Holed.close (h : Holed P w base e g q i G v xs) {l : List Int} {F : Nat → Prop} (hr : rowS.rep w F [v] l) (hF : ∀ b, F b → b ≠ g) (hP : ∀ b, F b → P b) : Own (inS rowS P) w base e (.slice (some ⟨g, 0, none⟩) q q) (xs.set i l) := by
  obtain ⟨h0, css, h1, h2, h3, h4⟩ := h
  have k1 : (inS rowS P).all w (fun b => some b ≠ Value.ownBlock (.slice (some ⟨g, 0, none⟩) q q)) (css.set i [.slice none 0 0]) (xs.set i []) := Shape.all_mono h2 fun b hb _ e => hb.1 (Option.some.inj e)
  have k2 := Shape.all_set (j := i) k1 ((inS rowS P).mono (inS_of hr hP) fun b hb _ => show some b ≠ Value.ownBlock (.slice (some ⟨g, 0, none⟩) q q) from fun e => hF b hb (Option.some.inj e))
  rw [List.set_set, List.set_set] at k2
  have hi := (List.getElem?_eq_some_iff.1 h3)
  have e : css.set i [v] = css := by
    obtain ⟨hi1, hi2⟩ := hi
    rw [← hi2, List.set_getElem_self]
  rw [e] at k2
  exact ⟨css, by rw [List.length_set, h0]; exact h1, k2⟩
end

/-- What 'make([][]int, n)' lays. -/
theorem Own.rows_in {P : Nat → Prop} {w : World} {base g n c : Nat} {e : TypeId} (h : w.ownsRow base e 1 (.slice (some ⟨g, 0, none⟩) n c) n (madeCells #[.slice none 0 0] n).toList) : Own (inS rowS P) w base e (.slice (some ⟨g, 0, none⟩) n c) (List.replicate n []) :=
  Own.made (A := inS rowS P) (z := [.slice none 0 0]) (by show 0 < 1; omega) rfl (by show w.ownsRow base e 1 _ n (madeCells #[.slice none 0 0] (n * 1)).toList; rw [Nat.mul_one]; exact h) (fun F => rep_none _ _ _)
theorem rowsOf_row (s : List UInt8) (p q r i : Nat) (h : i < q) : (Ck.rowsOf s p q r).getD i [] = (List.range r).map fun k => Wx.sg (Wx.at4 s (p + 4 * (i * r + k))) := by
  unfold Ck.rowsOf
  rw [List.getD_eq_getElem?_getD, List.getElem?_map, List.getElem?_range h]
  rfl
theorem range_snoc (f : Nat → Int) (k : Nat) : (List.range (k + 1)).map f = (List.range k).map f ++ [f k] := by rw [List.range_succ, List.map_append]; rfl

set_option maxRecDepth 100000 in
set_option maxHeartbeats 4000000 in
theorem krowsOf (s : ByteArray) (q r : Nat) (hq : q ≤ 8) (hr : r ≤ 8) (hs : q * r * 4 ≤ s.size) (hm : s.size ≤ 100000) (w : World) :
    Calls Try.prog 32 #[.string s, .int .i64 (q : Int), .int .i64 (r : Int)] w fun e w' => Below w.heap.size w w' ∧ ∃ a c, e = .returned (.slice a q c) ∧ matS.rep w' (w.heap.size ≤ ·) [.slice a q c] (Ck.rowsOf s.data.toList 0 q r) := by
  obtain ⟨i0, hi0, hi1, hi2, hi3⟩ := info_parts Try.infoRow
  obtain ⟨j0, hj0, hj1, hj2, hj3⟩ := info_parts Try.infoInt
  have HML : Hid ((Ck.rowsOf s.data.toList 0 q r).length = q) := Ck.rowsOf_len _ _ _ _
  have HMR : Hid (∀ i, i < q → (Ck.rowsOf s.data.toList 0 q r).getD i [] = (List.range r).map fun k => Wx.sg (Wx.at4 s.data.toList (4 * (i * r + k)))) := fun i hi => by rw [rowsOf_row _ _ _ _ _ hi]; simp
  have HSZ : Hid (q * r * 4 ≤ s.size) := hs
  generalize Ck.rowsOf s.data.toList 0 q r = M at *
  clear hs
  go_enter Try.func32, Try.ntmps32
  go_wp2_with (at_make; refine wpList_make_full _ rfl _ _ 25 rfl w.heap.size 47 i0 (.slice none 0 0) 1 Try.underlying25 hi0 hi1 hi2 _ _ _ _ q rfl rfl (by rfl) (by rfl) ?b2 ?b3 (Nat.le_refl _) ?_)
  case b2 => rw [hi3]; omega
  case b3 => unfold maxLen; omega
  intro u0 hown0 hg0
  have hb0 : Below w.heap.size w u0 := (Below.refl _ _).grown hg0 (Nat.le_refl _) (fun g hg => by cases hg)
  have HO : Hid (Own (inS rowS (w.heap.size ≤ ·)) u0 w.heap.size 47 (.slice (some ⟨w.heap.size, 0, none⟩) q q) (List.replicate q [])) := Own.rows_in hown0
  clear hown0 hg0
  go_wp2
  go_loopw [14] (fun i wr => ∃ k : Nat, k ≤ q ∧ i = .int .i64 k ∧ Own (inS rowS (w.heap.size ≤ ·)) wr w.heap.size 47 (.slice (some ⟨w.heap.size, 0, none⟩) q q) (fillD [] M k) ∧ Below w.heap.size w wr) (fun i _ => q - (intOf i).toNat)
  case atStart => exact ⟨0, Nat.zero_le _, rfl, by rw [fillD_zero, HML.out]; exact HO.out, hb0⟩
  case round =>
    clear HO hb0
    obtain ⟨k, hk, rfl, hown, hbel⟩ := hrel
    obtain ⟨W0, hW0⟩ : ∃ W0, W0 = wr := ⟨_, rfl⟩
    subst hW0
    by_cases hlt : k < q
    · have hli : (k : Int) < (q : Int) := by omega
      have hk0 : (0 : Int) ≤ (k : Int) := by omega
      have hsz := (hown.lt w.heap.size rfl).2
      obtain ⟨f, Hf⟩ : ∃ f : Nat → Int, Hid (∀ x, f x = Wx.sg (Wx.at4 s.data.toList (4 * (k * r + x)))) := ⟨_, fun _ => rfl⟩
      have HV : Hid (M.getD k [] = (List.range r).map f) := by
        show _ = _
        rw [HMR.out k hlt]
        exact List.map_congr_left fun x _ => (Hf.out x).symm
      have hkl : k < M.length := by have := HML.out; omega
      have HP : Hid (∀ j, j < r → 4 * (k * r + j) + 3 < s.size) := fun j hj => by
        have h1 := Nat.mul_le_mul_right r (show k + 1 ≤ q from hlt)
        rw [Nat.add_mul, Nat.one_mul] at h1
        have := HSZ.out
        omega
      have HKR : Hid (k * r ≤ 64) := Nat.mul_le_mul (show k ≤ 8 by omega) hr
      obtain ⟨P, HPP⟩ : ∃ P, Hid (k * r = P) := ⟨_, rfl⟩
      have hP64 : P ≤ 64 := by rw [← HPP.out]; exact HKR.out
      have e1 : IntKind.i64.wrap ((k : Int) * (r : Int)) = (P : Int) := by
        rw [← HPP.out, Int.natCast_mul, IntKind.wrap_i64]
        have h1 : (k : Int) * (r : Int) = ((k * r : Nat) : Int) := (Int.natCast_mul k r).symm
        have h2 := HKR.out
        rw [h1]
        omega
      go_wp2_with (at_make; refine wpList_make_full _ rfl _ _ 47 rfl W0.heap.size 3 j0 (.int .i64 0) 1 Try.underlying47 hj0 hj1 hj2 _ _ _ _ r rfl rfl (by rfl) (by rfl) (by rw [hj3]; omega) (by unfold maxLen; omega) (Nat.le_refl _) ?_; intro u1 hown1 hg1; have hb1 : Below W0.heap.size W0 u1 := (Below.refl _ _).grown hg1 (Nat.le_refl _) (fun g hg => by cases hg); obtain ⟨⟨z0, x0⟩, f0, hH⟩ := Holed.made hown hlt hb1 (.slice (some ⟨W0.heap.size, 0, none⟩) r r))
      have hne : w.heap.size ≠ W0.heap.size := by omega
      have hown2 : (u1.setCell ⟨w.heap.size, k, none⟩ (.slice (some ⟨W0.heap.size, 0, none⟩) r r)).ownsRow W0.heap.size 3 1 (.slice (some ⟨W0.heap.size, 0, none⟩) r r) r ((fill ((List.range 0).map f) r).map (Value.int .i64)) := by
        have h : u1.ownsRow W0.heap.size 3 1 (.slice (some ⟨W0.heap.size, 0, none⟩) r r) r (madeCells #[.int .i64 0] r).toList := by have h := hown1; rw [Nat.mul_one] at h; exact h
        rw [fill_zero] at h
        exact h.kept (grown_set u1 w.heap.size k (.slice (some ⟨W0.heap.size, 0, none⟩) r r)) (.inr fun c => hne (Option.some.inj c).symm)
      have hB2 : Below w.heap.size w (u1.setCell ⟨w.heap.size, k, none⟩ (.slice (some ⟨W0.heap.size, 0, none⟩) r r)) := bel_put (bel_then hbel hb1) (Nat.le_refl _) _
      clear x0 f0 hown hown1 hg1 hb1 hbel
      generalize u1.setCell ⟨w.heap.size, k, none⟩ (.slice (some ⟨W0.heap.size, 0, none⟩) r r) = U at *
      clear u1
      generalize W0.heap.size = G at *
      go_loopw [27] (fun i wr => ∃ j : Nat, j ≤ r ∧ i = .int .i64 j ∧ wr.ownsRow G 3 1 (.slice (some ⟨G, 0, none⟩) r r) r ((fill ((List.range j).map f) r).map (Value.int .i64)) ∧ Holed (w.heap.size ≤ ·) wr w.heap.size 47 w.heap.size q k G (.slice (some ⟨G, 0, none⟩) r r) (fillD [] M k) ∧ Below w.heap.size w wr) (fun i _ => r - (intOf i).toNat)
      case atStart => exact ⟨0, Nat.zero_le _, rfl, hown2, hH, hB2⟩
      case round =>
        clear hown2 hH hB2
        obtain ⟨j, hj, rfl, hown, hH, hbel⟩ := hrel
        by_cases hlt2 : j < r
        · have hli2 : (j : Int) < (r : Int) := by omega
          have hj0 : (0 : Int) ≤ (j : Int) := by omega
          obtain ⟨P2, HP2⟩ : ∃ P2, Hid (P + j = P2) := ⟨_, rfl⟩
          obtain ⟨P3, HP3⟩ : ∃ P3, Hid (P2 * 4 = P3) := ⟨_, rfl⟩
          have e2 : IntKind.i64.wrap ((P : Int) + (j : Int)) = (P2 : Int) := by have := HP2.out; rw [IntKind.wrap_i64]; omega
          have e3 : IntKind.i64.wrap ((P2 : Int) * 4) = (P3 : Int) := by have := HP2.out; have := HP3.out; rw [IntKind.wrap_i64]; omega
          have hP3 : 4 * (k * r + j) = P3 := by have := HP2.out; have := HP3.out; have := HPP.out; omega
          have hx := Hf.out j
          have hlt3 := HP.out j hlt2
          rw [hP3] at hx hlt3
          have HN : Hid (∀ w, Calls Try.prog 20 #[.string s, .int .i64 (P3 : Int)] w fun e w' => e = .returned (.int .i64 (Wx.at4 s.data.toList P3 : Nat)) ∧ Below w.heap.size w w') := fun w => knumberAt s P3 P3 ⟨rfl, hlt3, by unfold maxLen; omega⟩ w
          have HG : Hid (∀ w, Calls Try.prog 45 #[.int .i64 (Wx.at4 s.data.toList P3 : Nat)] w fun e w' => e = .returned (.int .i64 (f j)) ∧ w' = w) := fun w => by rw [hx]; exact ksigned _ (Wx.at4_lt _ _) w
          clear hx hlt3 hP3
          generalize Wx.at4 s.data.toList P3 = y at *
          have hdl : ((List.range j).map f).length = j := by simp
          obtain ⟨z, hz⟩ := fill_get ((List.range j).map f) r j hlt2 (by omega)
          have HS : Hid ((((fill ((List.range j).map f) r).map (Value.int .i64)).set j (.int .i64 (f j))) = (fill ((List.range (j + 1)).map f) r).map (Value.int .i64)) := by
            show _ = _
            rw [range_snoc, ← fill_set _ _ _ (by omega), hdl, List.map_set]
          have c1 := hH.cell
          have c2 : wr.cell? ⟨G, j, none⟩ = some (.int .i64 z) := (hown.cellAt j (by omega)).trans hz
          have f2 : wr.frozen? ⟨G, j, none⟩ = false := hown.frozenAt j
          have hD : Below wr.heap.size wr wr.drew := (Below.refl _ wr).drew
          have HK : Hid (∀ u, Below wr.heap.size wr u → u.cell? ⟨w.heap.size, k, none⟩ = some (.slice (some ⟨G, 0, none⟩) r r) ∧ u.cell? ⟨G, j, none⟩ = some (.int .i64 z) ∧ u.frozen? ⟨G, j, none⟩ = false ∧ Below w.heap.size w (u.setCell ⟨G, j, none⟩ (.int .i64 (f j))) ∧
              (u.setCell ⟨G, j, none⟩ (.int .i64 (f j))).ownsRow G 3 1 (.slice (some ⟨G, 0, none⟩) r r) r ((fill ((List.range (j + 1)).map f) r).map (Value.int .i64)) ∧ Holed (w.heap.size ≤ ·) (u.setCell ⟨G, j, none⟩ (.int .i64 (f j))) w.heap.size 47 w.heap.size q k G (.slice (some ⟨G, 0, none⟩) r r) (fillD [] M k)) := fun u hu => by
            have h1 := hH.keep hu
            have h2 := own_below hown hu
            have h3 := (h2.stored j (.int .i64 (f j))).1
            rw [HS.out] at h3
            exact ⟨h1.cell, (h2.cellAt j (by omega)).trans hz, h2.frozenAt j, bel_put (bel_then hbel hu) (Nat.le_of_lt hsz) _, h3, h1.store hne j _⟩
          clear hz hdl HS hown hH hbel
          go_wp2
          go_region_with (first
            | (go_at_call 20; refine (HN.out _).mono ?_; rintro e u3 ⟨rfl, hb3⟩; obtain ⟨d1, d2, g2, hE1, hE2, hE3⟩ := HK.out u3 (bel_then hD hb3))
            | (go_at_call 45; refine by_same (HG.out _) ?_))
          all_goals
            have HST : Hid _ := And.intro hE2 (And.intro hE3 hE1)
            clear hE1 hE2 hE3 d1 d2 g2 c1 c2 f2 HN HG HK
            go_wp2
            go_roundw
            case rel => exact ⟨j + 1, by omega, by go_num, HST.out.1, HST.out.2.1, HST.out.2.2⟩
            case measure => simp [intOf]; omega
        · have hjr : j = r := by omega
          subst hjr
          have hli2 : ¬ (j : Int) < (j : Int) := by omega
          have hfull : fill ((List.range j).map f) j = (List.range j).map f := fill_full _ _ (by simp)
          rw [hfull, ← HV.out] at hown
          have hC := hH.close (rep_high hown) (fun b hb => by omega) (fun b hb => by omega)
          rw [fillD_set hkl rfl] at hC
          clear hown hH hfull
          go_wp2
          go_roundw
          case rel => exact ⟨k + 1, by omega, by go_num, hC, hbel⟩
          case measure => simp [intOf]; omega
    · have hkn : k = q := by omega
      subst hkn
      have hli : ¬ (k : Int) < (k : Int) := by omega
      have e9 : fillD [] M k = M := by
        have := fillD_all [] M
        rwa [HML.out] at this
      rw [e9] at hown
      have hR := hown.within
      clear e9 hown
      go_wp2
      go_ret
      exact ⟨hbel, _, _, rfl, hR⟩

end Go.Proofs.Ytokkhkhipgopbaa
