/- What Take of package wire and what it calls do when called: bytes, as a message. -/
import Derived.Test.YtfidgcanolegfaaGreatWireA
import Derived.Test.YtfidgcanolegfaaGreatJa
import Derived.Lib.SmallJoins
import Derived.Laws.ResultCell
import Derived.Laws.Rows
namespace Go.Proofs.YtfidgcanolegfaaGreat
open Go.ChangeShapes Go.WideShapes Go.ChangeAt Go.RowKit

theorem Box.all11 {u : World} {b : Nat} {t : TypeId} {p0 p1 p2 p3 p4 p5 p6 p7 p8 p9 p10 : Value} (h : Box u b t #[p0, p1, p2, p3, p4, p5, p6, p7, p8, p9, p10]) (v0 v1 v2 v3 v4 v5 v6 v7 v8 v9 v10 : Value) : Box (((((((((((u.setCell ⟨b, 0, none⟩ v0).setCell ⟨b, 1, none⟩ v1).setCell ⟨b, 2, none⟩ v2).setCell ⟨b, 3, none⟩ v3).setCell ⟨b, 4, none⟩ v4).setCell ⟨b, 5, none⟩ v5).setCell ⟨b, 6, none⟩ v6).setCell ⟨b, 7, none⟩ v7).setCell ⟨b, 8, none⟩ v8).setCell ⟨b, 9, none⟩ v9).setCell ⟨b, 10, none⟩ v10) b t #[v0, v1, v2, v3, v4, v5, v6, v7, v8, v9, v10] := by
  have := ((((((((((h.set 0 v0).set 1 v1).set 2 v2).set 3 v3).set 4 v4).set 5 v5).set 6 v6).set 7 v7).set 8 v8).set 9 v9).set 10 v10
  simp only [List.setIfInBounds_toArray, List.set_cons_zero, List.set_cons_succ] at this
  exact this
theorem bel_all11 {B : Nat} {a u : World} (h : Below B a u) {b : Nat} (hb : B ≤ b) (v0 v1 v2 v3 v4 v5 v6 v7 v8 v9 v10 : Value) : Below B a (((((((((((u.setCell ⟨b, 0, none⟩ v0).setCell ⟨b, 1, none⟩ v1).setCell ⟨b, 2, none⟩ v2).setCell ⟨b, 3, none⟩ v3).setCell ⟨b, 4, none⟩ v4).setCell ⟨b, 5, none⟩ v5).setCell ⟨b, 6, none⟩ v6).setCell ⟨b, 7, none⟩ v7).setCell ⟨b, 8, none⟩ v8).setCell ⟨b, 9, none⟩ v9).setCell ⟨b, 10, none⟩ v10) := bel_put (bel_put (bel_put (bel_put (bel_put (bel_put (bel_put (bel_put (bel_put (bel_put (bel_put h hb v0) hb v1) hb v2) hb v3) hb v4) hb v5) hb v6) hb v7) hb v8) hb v9) hb v10

theorem grown_all11 (u : World) (b : Nat) (v0 v1 v2 v3 v4 v5 v6 v7 v8 v9 v10 : Value) : u.grownBy (((((((((((u.setCell ⟨b, 0, none⟩ v0).setCell ⟨b, 1, none⟩ v1).setCell ⟨b, 2, none⟩ v2).setCell ⟨b, 3, none⟩ v3).setCell ⟨b, 4, none⟩ v4).setCell ⟨b, 5, none⟩ v5).setCell ⟨b, 6, none⟩ v6).setCell ⟨b, 7, none⟩ v7).setCell ⟨b, 8, none⟩ v8).setCell ⟨b, 9, none⟩ v9).setCell ⟨b, 10, none⟩ v10) (some b) := grown_then (grown_then (grown_then (grown_then (grown_then (grown_then (grown_then (grown_then (grown_then (grown_then (grown_then (grown_refl u (some b)) (grown_set _ b 0 v0)) (grown_set _ b 1 v1)) (grown_set _ b 2 v2)) (grown_set _ b 3 v3)) (grown_set _ b 4 v4)) (grown_set _ b 5 v5)) (grown_set _ b 6 v6)) (grown_set _ b 7 v7)) (grown_set _ b 8 v8)) (grown_set _ b 9 v9)) (grown_set _ b 10 v10)
theorem Box.set10 {u : World} {b : Nat} {t : TypeId} {p0 p1 p2 p3 p4 p5 p6 p7 p8 p9 p10 : Value} (h : Box u b t #[p0, p1, p2, p3, p4, p5, p6, p7, p8, p9, p10]) (v : Value) : Box (u.setCell ⟨b, 10, none⟩ v) b t #[p0, p1, p2, p3, p4, p5, p6, p7, p8, p9, v] := by
  have := h.set 10 v
  simp only [List.setIfInBounds_toArray, List.set_cons_zero, List.set_cons_succ] at this
  exact this

theorem Tryz.infoMsg : (Tryz.prog.info? 44).map (·.size) = some 11 := by kernel_rfl
/-- A function whose results are a message and one more, the message in a variable. -/
theorem ret_box {fn : Func} {R : Ending → World → Prop} {a : Act} {u : World} {b : Nat} {cs : Array Value} {p q : Tmp} {v2 : Value} (hres : fn.results = #[.cell p 44, .tmp q]) (hd : a.defers = [])
    (hp : a.tmps.getD p undef = .pointer (some ⟨b, 0, none⟩)) (hq : a.tmps.getD q undef = v2) (hB : Box u b 44 cs) (hsz : cs.size = 11) (hR : R (.returned (.tuple #[.agg cs, v2])) u) : bodyPost Tryz.prog fn R .ret a u := by
  have hld := run_loadVar_row (P := Tryz.prog) u b 44 44 cs (0, 0) _ hB Tryz.underlying44 rfl (by rw [Tryz.infoMsg, hsz])
  refine bodyPost_ret (v := .tuple #[.agg cs, v2]) ?_ hd hR
  rw [results_cell_tmp hres, hp, hq]
  simp [asAddr, Result.andThen, hld]

/-- The numbers ahead of Vec, as they are read. -/
def head10 (s : List UInt8) : List Int := (List.range 10).map fun i => (Wx.at4 s (4 * i) : Int)
def bvec (s : List UInt8) : List Int := (List.range (Wx.at4 s 40)).map fun i => Wx.sg (Wx.at4 s (44 + 4 * i))
def Counts (s : List UInt8) : Prop := Wx.at4 s 40 ≤ 8 ∧ s.length = 44 + 4 * Wx.at4 s 40
theorem head10_len (s : List UInt8) : (head10 s).length = 10 := by simp [head10]
theorem head10_at (s : List UInt8) {k : Nat} (h : k < 10) : (head10 s).getD k 0 = (Wx.at4 s (4 * k) : Int) := by
  rw [List.getD_eq_getElem?_getD]; simp [head10, h]
theorem bvec_len (s : List UInt8) : (bvec s).length = Wx.at4 s 40 := by simp [bvec]
theorem bvec_at (s : List UInt8) {k : Nat} (h : k < Wx.at4 s 40) : (bvec s).getD k 0 = Wx.sg (Wx.at4 s (44 + 4 * k)) := by
  rw [List.getD_eq_getElem?_getD]; simp [bvec, h]

theorem ten_of {l : List Int} (h : l.length = 10) : ∃ y0 y1 y2 y3 y4 y5 y6 y7 y8 y9, l = [y0, y1, y2, y3, y4, y5, y6, y7, y8, y9] := by
  match l, h with
  | [y0, y1, y2, y3, y4, y5, y6, y7, y8, y9], _ => exact ⟨y0, y1, y2, y3, y4, y5, y6, y7, y8, y9, rfl⟩

set_option maxRecDepth 100000 in
set_option maxHeartbeats 1000000 in
theorem messageOf (s : ByteArray) (h44 : 44 ≤ s.size) (hs : s.size ≤ maxLen) (w : World) : Calls Tryz.prog 94 #[.string s] w fun e w' => Below w.heap.size w w' ∧
    ((¬ Counts s.data.toList ∧ e = .returned (.tuple #[.agg #[.int .i64 0, .int .i64 0, .int .i64 0, .int .i64 0, .int .i64 0, .int .i64 0, .int .i64 0, .int .i64 0, .int .i64 0, .int .i64 0, .slice none 0 0], .bool false])) ∨
      (Counts s.data.toList ∧ ∃ y0 y1 y2 y3 y4 y5 y6 y7 y8 y9, head10 s.data.toList = [y0, y1, y2, y3, y4, y5, y6, y7, y8, y9] ∧ ∃ ya yn yc, e = .returned (.tuple #[.agg #[.int .i64 y0, .int .i64 y1, .int .i64 y2, .int .i64 y3, .int .i64 y4, .int .i64 y5, .int .i64 y6, .int .i64 y7, .int .i64 y8, .int .i64 y9, .slice ya yn yc], .bool true]) ∧ rowS.rep w' (w.heap.size ≤ ·) [.slice ya yn yc] (bvec s.data.toList))) := by
  have hm : s.size ≤ 9223372036854775807 := hs
  have HSL : Hid (s.data.toList.length = s.size) := by show _ = _; rw [Array.length_toList]; rfl
  obtain ⟨N, hN⟩ : ∃ N, w.heap.size = N := ⟨_, rfl⟩
  go_enter Tryz.func94, Tryz.ntmps94
  go_wp2
  go_loopw [9] (fun i wr => ∃ k : Nat, k ≤ 10 ∧ i = .int .i64 k ∧ Below N w wr ∧ Box wr N 44 #[.int .i64 0, .int .i64 0, .int .i64 0, .int .i64 0, .int .i64 0, .int .i64 0, .int .i64 0, .int .i64 0, .int .i64 0, .int .i64 0, .slice none 0 0] ∧ Box wr (N + 1) 164 ((fill ((head10 s.data.toList).take k) 10).map (Value.int .i64)).toArray) (fun i _ => 10 - (intOf i).toNat)
  case atStart =>
    subst hN
    refine ⟨0, Nat.zero_le _, rfl, bel_alloc (new_bel w _) _, (Box.new w _ _).keep (new_bel _ _), ?_⟩
    have := Box.new (w.alloc (.cells #[.int .i64 0, .int .i64 0, .int .i64 0, .int .i64 0, .int .i64 0, .int .i64 0, .int .i64 0, .int .i64 0, .int .i64 0, .int .i64 0, .slice none 0 0] 44)) 164 #[.int .i64 0, .int .i64 0, .int .i64 0, .int .i64 0, .int .i64 0, .int .i64 0, .int .i64 0, .int .i64 0, .int .i64 0, .int .i64 0]
    simpa [fill, List.replicate] using this
  case round =>
    obtain ⟨k, hk, rfl, hbel, hz, hh⟩ := hrel
    by_cases hlt : k < 10
    · have hli : (k : Int) < 10 := by omega
      have HT : Hid (((head10 s.data.toList).take k).length = k) := by show _ = _; rw [List.length_take, head10_len]; omega
      have HF : Hid ((fill ((head10 s.data.toList).take k) 10).set k (Wx.at4 s.data.toList (4 * k) : Nat) = fill ((head10 s.data.toList).take (k + 1)) 10) := by
        show _ = _
        rw [take_snoc _ _ (by rw [head10_len]; exact hlt), head10_at _ hlt]
        have := fill_set ((head10 s.data.toList).take k) 10 (Wx.at4 s.data.toList (4 * k) : Nat) (by rw [HT.out]; exact hlt)
        rw [HT.out] at this
        exact this
      obtain ⟨z, hzk⟩ := fill_get ((head10 s.data.toList).take k) 10 k hlt (by rw [HT.out]; omega)
      have HZK : Hid (((fill ((head10 s.data.toList).take k) 10).map (Value.int .i64)).toArray[k]? = some (.int .i64 z)) := by show _ = _; simpa using hzk
      clear hzk
      go_wp2_with fail
      refine (numberAt s _ (4 * k) ⟨by omega, by omega, hs⟩ _).mono ?_
      rintro e u3 ⟨rfl, hb3⟩
      have hz3 := hz.keep hb3
      have hh3 := hh.keep hb3
      have hc3 := hh3.cell k HZK.out
      have hf3 := hh3.free k
      have hbel3 := hbel.trans (hb3.mono (by have := hbel.size; omega))
      have hh4 := hh3.set k (.int .i64 (Wx.at4 s.data.toList (4 * k) : Nat))
      have hz4 := hz3.other (b2 := N + 1) (i := k) (.int .i64 (Wx.at4 s.data.toList (4 * k) : Nat)) (by omega)
      have hb4 := bel_put hbel3 (b := N + 1) (i := k) (by omega) (.int .i64 (Wx.at4 s.data.toList (4 * k) : Nat))
      clear hz hh hz3 hh3 hb3 hbel hbel3
      generalize Wx.at4 s.data.toList (4 * k) = x at *
      go_wp2
      go_roundw
      case rel =>
        refine ⟨k + 1, by omega, by go_num, hb4, hz4, ?_⟩
        rw [← HF.out]
        simpa using hh4
      case measure => simp [intOf]; omega
    · have hk10 : k = 10 := by omega
      subst hk10
      have hli : ¬ ((10 : Nat) : Int) < 10 := by omega
      have HA : Hid (fill ((head10 s.data.toList).take 10) 10 = head10 s.data.toList) := by show _ = _; rw [List.take_of_length_le (by rw [head10_len]; exact Nat.le_refl _), fill_full _ _ (head10_len _)]
      rw [HA.out] at hh
      have hx := Wx.at4_lt s.data.toList 40
      have HV : Hid ((bvec s.data.toList).length = Wx.at4 s.data.toList 40) := bvec_len _
      have HW : Hid (∀ k, k < Wx.at4 s.data.toList 40 → (bvec s.data.toList).getD k 0 = Wx.sg (Wx.at4 s.data.toList (44 + 4 * k))) := fun k hk => bvec_at _ hk
      have HC : Hid (Counts s.data.toList ↔ Wx.at4 s.data.toList 40 ≤ 8 ∧ s.size = 44 + 4 * Wx.at4 s.data.toList 40) := by
        show _ ↔ _
        unfold Counts
        rw [HSL.out]
      have HN : Hid _ := numberAt s 40 40 ⟨rfl, by omega, hs⟩
      obtain ⟨n, hn⟩ : ∃ n, n = Wx.at4 s.data.toList 40 := ⟨_, rfl⟩
      rw [← hn] at hx HV HW HC HN
      clear hn
      by_cases h8 : 8 < n
      · have q8 : (8 : Int) < (n : Int) := by omega
        go_wp2_with fail
        refine (HN.out _).mono ?_
        rintro e u3 ⟨rfl, hb3⟩
        have hz3 := hz.keep hb3
        have hbel3 := hbel.trans (hb3.mono (by have := hbel.size; omega))
        have f0 := hz3.free 0
        have f1 := hz3.free 1
        have f2 := hz3.free 2
        have f3 := hz3.free 3
        have f4 := hz3.free 4
        have f5 := hz3.free 5
        have f6 := hz3.free 6
        have f7 := hz3.free 7
        have f8 := hz3.free 8
        have f9 := hz3.free 9
        have f10 := hz3.free 10
        have c0 := hz3.cell 0 rfl
        have c1 := hz3.cell 1 rfl
        have c2 := hz3.cell 2 rfl
        have c3 := hz3.cell 3 rfl
        have c4 := hz3.cell 4 rfl
        have c5 := hz3.cell 5 rfl
        have c6 := hz3.cell 6 rfl
        have c7 := hz3.cell 7 rfl
        have c8 := hz3.cell 8 rfl
        have c9 := hz3.cell 9 rfl
        have c10 := hz3.cell 10 rfl
        go_wp2
        refine ret_box rfl rfl rfl rfl (hz3.all11 _ _ _ _ _ _ _ _ _ _ _) rfl ?_
        exact ⟨hN ▸ bel_all11 hbel3 (Nat.le_refl _) _ _ _ _ _ _ _ _ _ _ _, .inl ⟨fun h => by have := (HC.out.1 h).1; omega, rfl⟩⟩
      have q8 : ¬ (8 : Int) < (n : Int) := by omega
      by_cases hsz : s.size = 44 + 4 * n
      · have qn : (((s.size : Nat) : Int) != 44 + (n : Int) * 4) = false := by rw [bne_eq_false_iff_eq]; omega
        obtain ⟨y0, y1, y2, y3, y4, y5, y6, y7, y8, y9, hy⟩ := ten_of (head10_len s.data.toList)
        have HY : Hid (head10 s.data.toList = [y0, y1, y2, y3, y4, y5, y6, y7, y8, y9]) := hy
        rw [hy] at hh
        have HSZ : Hid (s.size = 44 + 4 * n) := hsz
        clear hy hsz HA
        go_wp2_with fail
        refine (HN.out _).mono ?_
        rintro e u3 ⟨rfl, hb3⟩
        have hz3 := hz.keep hb3
        have hh3 : Box u3 (N + 1) 164 #[.int .i64 y0, .int .i64 y1, .int .i64 y2, .int .i64 y3, .int .i64 y4, .int .i64 y5, .int .i64 y6, .int .i64 y7, .int .i64 y8, .int .i64 y9] := hh.keep hb3
        have hbel3 := hbel.trans (hb3.mono (by have := hbel.size; omega))
        have d0 := hh3.cell 0 rfl
        have d1 := hh3.cell 1 rfl
        have d2 := hh3.cell 2 rfl
        have d3 := hh3.cell 3 rfl
        have d4 := hh3.cell 4 rfl
        have d5 := hh3.cell 5 rfl
        have d6 := hh3.cell 6 rfl
        have d7 := hh3.cell 7 rfl
        have d8 := hh3.cell 8 rfl
        have d9 := hh3.cell 9 rfl
        clear hz hh hb3 hbel
        go_wp2_with fail
        refine (withHead y0 y1 y2 y3 y4 y5 y6 y7 y8 y9 _).mono ?_
        rintro e u4 ⟨rfl, hb4⟩
        have hz4 := hz3.keep hb4
        have hbel4 := hbel3.trans (hb4.mono (by have := hbel3.size; omega))
        clear hz3 hh3 hb4 hbel3 d0 d1 d2 d3 d4 d5 d6 d7 d8 d9
        obtain ⟨M, hM⟩ : ∃ M, u4.heap.size = M := ⟨_, rfl⟩
        have HNM : Hid (N < M) := by show _ < _; rw [← hM]; exact hz4.lt
        obtain ⟨i0, hi0, hi1, hi2, hi3⟩ := info_parts Tryz.infoInt
        go_wp2
        go_loopw [35] (fun i wr => ∃ (k : Nat) (va : Option Addr) (vc : Nat), k ≤ n ∧ i = .int .i64 k ∧ Box wr M 44 #[.int .i64 y0, .int .i64 y1, .int .i64 y2, .int .i64 y3, .int .i64 y4, .int .i64 y5, .int .i64 y6, .int .i64 y7, .int .i64 y8, .int .i64 y9, .slice va k vc] ∧ Own (intS .i64) wr (M + 1) 3 (.slice va k vc) ((bvec s.data.toList).take k) ∧ Below M u4 wr) (fun i _ => n - (intOf i).toNat)
        case atStart =>
          subst hM
          exact ⟨0, none, 0, Nat.zero_le _, rfl, Box.new _ _ _, Own.nil _ _ _ _, new_bel _ _⟩
        case round =>
          obtain ⟨k, va, vc, hk, rfl, hbox, hown, hbl⟩ := hrel
          by_cases hlt : k < n
          · have hli : (k : Int) < (n : Int) := by omega
            have HT : Hid (((bvec s.data.toList).take k).length = k) := by show _ = _; rw [List.length_take, HV.out]; omega
            have HS : Hid ((bvec s.data.toList).take (k + 1) = (bvec s.data.toList).take k ++ [Wx.sg (Wx.at4 s.data.toList (44 + 4 * k))]) := by
              show _ = _
              rw [take_snoc _ _ (by rw [HV.out]; exact hlt), HW.out k hlt]
            have hx4 := Wx.at4_lt s.data.toList (44 + 4 * k)
            have HNA : Hid (∀ i : Int, i = 44 + (k : Int) * 4 → ∀ w, Calls Tryz.prog 92 #[.string s, .int .i64 i] w fun e w' => e = .returned (.int .i64 (Wx.at4 s.data.toList (44 + 4 * k) : Nat)) ∧ Below w.heap.size w w') := fun i hi => numberAt s i (44 + 4 * k) ⟨by omega, by have := HSZ.out; omega, hs⟩
            generalize Wx.at4 s.data.toList (44 + 4 * k) = x at *
            have HSG : Hid _ := signed x hx4
            generalize Wx.sg x = z at *
            have hc0 := hbox.cell 10 rfl
            have wk1 : IntKind.i64.wrap ((k : Int) * 4) = (k : Int) * 4 := by rw [IntKind.wrap_i64]; omega
            have wk2 : IntKind.i64.wrap (44 + (k : Int) * 4) = 44 + (k : Int) * 4 := by rw [IntKind.wrap_i64]; omega
            have hne : some M ≠ Value.ownBlock (.slice va k vc) := fun h => by have := (hown.lt M h.symm).1; omega
            go_wp2
            go_region_law
              (first
                | (refine step_app (intS .i64) (by simp [Region.wanted]) (.tmp 39) (.tmp 46) 42 (by rfl) (M + 1) 3 i0 (.int .i64 0) 8 Tryz.underlying42 hi0 hi1 hi2 hi3 rfl Nat.one_pos (by omega) (by rfl) (ho5.keep (new_bel u5 _)) (by rfl) (ho5.src z).1 (ho5.src z).2 (by rw [HT.out]; omega) (by have := hbox5.lt; simp; omega) (k + 1) (by rw [HT.out]) _ rfl ?_; intro a6 c6 u6 ho6 hg6 hb6 hat6; have hbox6 := (hbox5.keep (new_bel u5 _)).grown hg6 hne; have hc6 := hbox6.cell 10 rfl; have hf6 := hbox6.free 10)
                | (go_simp; go_wp2_with (first
                    | (go_at_call 92; refine (HNA.out _ (by omega) _).mono ?_; rintro e u5 ⟨rfl, hb5'⟩; have hb5 := (Below.refl wr.heap.size wr).drew.trans hb5'; have hbox5 := hbox.keep hb5; have hc5 := hbox5.cell 10 rfl; have hd5 := (hbox5.keep (new_bel u5 (.cells #[.int .i64 z] 3))).cell 10 rfl; have ho5 := hown.keep hb5)
                    | (go_at_call 126; refine by_same (HSG.out _) ?_))))
            all_goals
              go_wp2
              go_roundw
              case rel =>
                refine ⟨k + 1, a6, c6, by omega, by go_num, hbox6.set10 _, ?_, ?_⟩
                · rw [HS.out]
                  exact Own.other ho6 (grown_set u6 M 10 _) (fun b hb h => by have := (ho6.lt b hb).1; have := Option.some.inj h; omega)
                · refine bel_put (hbl.trans ((hb5.mono (by have := hbox.lt; omega)).trans (((Below.refl _ _).alloc (by have := hbox5.lt; omega) _).trans (hb6.mono (by omega))))) (Nat.le_refl _) _
              case measure => simp [intOf]; omega
          · have hkn : k = n := by omega
            subst hkn
            have hli : ¬ (k : Int) < (k : Int) := by omega
            have HA2 : Hid ((bvec s.data.toList).take k = bvec s.data.toList) := List.take_of_length_le (by rw [HV.out]; exact Nat.le_refl _)
            rw [HA2.out] at hown
            have hz5 := hz4.below hbl HNM.out
            have f0 := hz5.free 0
            have f1 := hz5.free 1
            have f2 := hz5.free 2
            have f3 := hz5.free 3
            have f4 := hz5.free 4
            have f5 := hz5.free 5
            have f6 := hz5.free 6
            have f7 := hz5.free 7
            have f8 := hz5.free 8
            have f9 := hz5.free 9
            have f10 := hz5.free 10
            have c0 := hz5.cell 0 rfl
            have c1 := hz5.cell 1 rfl
            have c2 := hz5.cell 2 rfl
            have c3 := hz5.cell 3 rfl
            have c4 := hz5.cell 4 rfl
            have c5 := hz5.cell 5 rfl
            have c6 := hz5.cell 6 rfl
            have c7 := hz5.cell 7 rfl
            have c8 := hz5.cell 8 rfl
            have c9 := hz5.cell 9 rfl
            have c10 := hz5.cell 10 rfl
            have d0 := hbox.cell 0 rfl
            have d1 := hbox.cell 1 rfl
            have d2 := hbox.cell 2 rfl
            have d3 := hbox.cell 3 rfl
            have d4 := hbox.cell 4 rfl
            have d5 := hbox.cell 5 rfl
            have d6 := hbox.cell 6 rfl
            have d7 := hbox.cell 7 rfl
            have d8 := hbox.cell 8 rfl
            have d9 := hbox.cell 9 rfl
            have d10 := hbox.cell 10 rfl
            go_wp2
            refine ret_box rfl rfl rfl rfl (hz5.all11 _ _ _ _ _ _ _ _ _ _ _) rfl ?_
            refine ⟨hN ▸ bel_all11 (hbel4.trans (hbl.mono (Nat.le_of_lt HNM.out))) (Nat.le_refl _) _ _ _ _ _ _ _ _ _ _ _, .inr ⟨HC.out.2 ⟨by omega, HSZ.out⟩, y0, y1, y2, y3, y4, y5, y6, y7, y8, y9, HY.out, va, k, vc, rfl, ?_⟩⟩
            refine Shape.mono _ (Own.high (Own.other hown (grown_all11 wr N _ _ _ _ _ _ _ _ _ _ _) (fun b hb h => by have := (hown.lt b hb).1; have := Option.some.inj h; have := HNM.out; omega))) (fun b hb _ => by have h2 : M + 1 ≤ b := hb; have := HNM.out; show _ ≤ _; omega)
      · have qn : (((s.size : Nat) : Int) != 44 + (n : Int) * 4) = true := by rw [bne_iff_ne]; omega
        go_wp2_with fail
        refine (HN.out _).mono ?_
        rintro e u3 ⟨rfl, hb3⟩
        have hz3 := hz.keep hb3
        have hbel3 := hbel.trans (hb3.mono (by have := hbel.size; omega))
        have f0 := hz3.free 0
        have f1 := hz3.free 1
        have f2 := hz3.free 2
        have f3 := hz3.free 3
        have f4 := hz3.free 4
        have f5 := hz3.free 5
        have f6 := hz3.free 6
        have f7 := hz3.free 7
        have f8 := hz3.free 8
        have f9 := hz3.free 9
        have f10 := hz3.free 10
        have c0 := hz3.cell 0 rfl
        have c1 := hz3.cell 1 rfl
        have c2 := hz3.cell 2 rfl
        have c3 := hz3.cell 3 rfl
        have c4 := hz3.cell 4 rfl
        have c5 := hz3.cell 5 rfl
        have c6 := hz3.cell 6 rfl
        have c7 := hz3.cell 7 rfl
        have c8 := hz3.cell 8 rfl
        have c9 := hz3.cell 9 rfl
        have c10 := hz3.cell 10 rfl
        go_wp2
        refine ret_box rfl rfl rfl rfl (hz3.all11 _ _ _ _ _ _ _ _ _ _ _) rfl ?_
        exact ⟨hN ▸ bel_all11 hbel3 (Nat.le_refl _) _ _ _ _ _ _ _ _ _ _ _, .inl ⟨fun h => hsz (HC.out.1 h).2, rfl⟩⟩

end Go.Proofs.YtfidgcanolegfaaGreat
