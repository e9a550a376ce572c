/- What the document's Asks of layer 19 does when called: the messages that are asked first. -/
import Derived.Test.YtfidgcanolegfaaGreatFllA
import Derived.Test.YtfidgcanolegfaaGreatMdlG
namespace Go.Proofs.YtfidgcanolegfaaGreat
open Go.ChangeShapes Go.WideShapes Go.ChangeAt Go.RowKit



/-! ### Messages in memory -/
def msgS : Shape Wx.Msg where
  size := 11
  rep w F cs x := ∃ a c, cs = [.int .i64 x.kind, .int .i64 x.fr, .int .i64 x.to, .int .i64 x.seq, .int .i64 x.batch, .int .i64 x.layer, .int .i64 x.token, .int .i64 x.rank, .int .i64 x.expert, .int .i64 x.epoch, .slice a x.vec.length c] ∧ rowS.rep w F [.slice a x.vec.length c] x.vec
  len := by
    rintro w F cs x ⟨a, c, rfl, h⟩
    rfl
  one := by
    rintro w F cs x ⟨a, c, rfl, h⟩ u hu
    simp at hu
    rcases hu with rfl | rfl | rfl | rfl | rfl | rfl | rfl | rfl | rfl | rfl | rfl <;> rfl
  keep := by
    rintro w w' F cs x ⟨a, c, rfl, h⟩ hk
    exact ⟨a, c, rfl, rowS.keep h hk⟩
  mono := by
    rintro w F F' cs x ⟨a, c, rfl, h⟩ hm
    exact ⟨a, c, rfl, rowS.mono h hm⟩
abbrev msgsS : Shape (List Wx.Msg) := sliceS msgS
theorem Tryz.infoMsgE : (Tryz.prog.info? 44).map (fun i => (i.zero, i.size, i.bytes)) = some (some (.agg #[.int .i64 0, .int .i64 0, .int .i64 0, .int .i64 0, .int .i64 0, .int .i64 0, .int .i64 0, .int .i64 0, .int .i64 0, .int .i64 0, .slice none 0 0]), 11, 104) := by kernel_rfl
/-- Where the j-th lies. -/
theorem msg_at {w : World} {F : Nat → Prop} {a : Option Addr} {n c : Nat} {l : List Wx.Msg} (h : msgsS.rep w F [.slice a n c] l) {j : Nat} (hj : j < n) :
    ∃ b off A C, a = some ⟨b, off, none⟩ ∧ b < w.heap.size ∧ rowS.rep w F [.slice A (l.getD j Wx.zero).vec.length C] (l.getD j Wx.zero).vec ∧
      w.cell? ⟨b, off + j * 11, none⟩ = some (.int .i64 (l.getD j Wx.zero).kind) ∧ w.cell? ⟨b, off + j * 11 + 1, none⟩ = some (.int .i64 (l.getD j Wx.zero).fr) ∧ w.cell? ⟨b, off + j * 11 + 2, none⟩ = some (.int .i64 (l.getD j Wx.zero).to) ∧
      w.cell? ⟨b, off + j * 11 + 3, none⟩ = some (.int .i64 (l.getD j Wx.zero).seq) ∧ w.cell? ⟨b, off + j * 11 + 4, none⟩ = some (.int .i64 (l.getD j Wx.zero).batch) ∧ w.cell? ⟨b, off + j * 11 + 5, none⟩ = some (.int .i64 (l.getD j Wx.zero).layer) ∧
      w.cell? ⟨b, off + j * 11 + 6, none⟩ = some (.int .i64 (l.getD j Wx.zero).token) ∧ w.cell? ⟨b, off + j * 11 + 7, none⟩ = some (.int .i64 (l.getD j Wx.zero).rank) ∧ w.cell? ⟨b, off + j * 11 + 8, none⟩ = some (.int .i64 (l.getD j Wx.zero).expert) ∧
      w.cell? ⟨b, off + j * 11 + 9, none⟩ = some (.int .i64 (l.getD j Wx.zero).epoch) ∧ w.cell? ⟨b, off + j * 11 + 10, none⟩ = some (.slice A (l.getD j Wx.zero).vec.length C) := by
  have hl := (sliceS_len h).1
  obtain ⟨b, off, cs, ha, _, hb, hc, hr⟩ := sliceS_at h (by show 0 < 11; omega) (j := j) (by omega)
  have hg : l.getD j Wx.zero = l[j]'(by omega) := by rw [List.getD_eq_getElem?_getD, List.getElem?_eq_getElem (by omega)]; rfl
  rw [hg]
  obtain ⟨A, C, rfl, hrow⟩ := hr
  exact ⟨b, off, A, C, ha, hb, hrow, hc 0 _ rfl, hc 1 _ rfl, hc 2 _ rfl, hc 3 _ rfl, hc 4 _ rfl, hc 5 _ rfl, hc 6 _ rfl, hc 7 _ rfl, hc 8 _ rfl, hc 9 _ rfl, hc 10 _ rfl⟩

set_option maxHeartbeats 4000000 in
set_option maxRecDepth 100000 in
theorem rasks (dim : Int) (a : Option Addr) (n c : Nat) (ms : List Ly) (ep : Int) (pa : Option Addr) (pn pc : Nat) (h : List (List Int)) (b : Option Addr) (m d : Nat) (T : List (List Int)) (w : World) (hm : lysS.rep w everywhere [.slice a n c] ms) (hp : matS.rep w everywhere [.slice pa pn pc] h) (ht : matS.rep w everywhere [.slice b m d] T) (HY : May dim ms ep h T) :
    Calls Tryz.prog 17 #[.agg #[.int .i64 dim, .slice a n c], .agg #[.int .i64 ep, .slice pa pn pc], .slice b m d] w fun e w' => Below w.heap.size w w' ∧ ∃ a' n' c', e = .returned (.slice a' n' c') ∧ msgsS.rep w' everywhere [.slice a' n' c'] ((Md.parts (ms.getD 0 ly0) T).map (Ft.askOf ep h 0 T)) := by
  obtain ⟨i0, hi0, hi1, hi2, hi3⟩ := info_parts Tryz.infoMsgE
  have hB := bel_two w (.cells #[.int .i64 dim, .slice a n c] 24) (.cells #[.int .i64 ep, .slice pa pn pc] 35)
  have km := (Box.new w 24 #[.int .i64 dim, .slice a n c]).keep (new_bel _ (.cells #[.int .i64 ep, .slice pa pn pc] 35))
  have kp := Box.new (w.alloc (.cells #[.int .i64 dim, .slice a n c] 24)) 35 #[.int .i64 ep, .slice pa pn pc]
  have e1 : (w.alloc (.cells #[.int .i64 dim, .slice a n c] 24)).heap.size = w.heap.size + 1 := by simp
  rw [e1] at kp
  have hm1 := Shape.below hm hB
  have hp1 := Shape.below hp hB
  have ht1 := Shape.below ht hB
  have hlm := (sliceS_len hm).1
  have hlp := (sliceS_len hp).1
  have hlt := (sliceS_len ht).1
  have h0n : 0 < n := by rw [← hlm]; exact HY.1.2.2.1
  have HIS : Hid (∀ x ∈ Md.parts (ms.getD 0 ly0) T, 0 ≤ x.1 ∧ x.1 < (m : Int) ∧ 0 ≤ x.2.1 ∧ x.2.1 ≤ 1 ∧ 0 ≤ x.2.2.1 ∧ x.2.2.1 < (pn : Int)) := fun x hx => by
    have h9 := Ft.Part.is HY.1 HY.2.1 (L := 0) (p := x) ⟨by rw [hlm]; exact h0n, hx⟩
    have h8 := HY.2.2.2 _ (in_of (by rw [hlm]; exact h0n) ly0)
    have h7 : x.1 < (T.length : Int) := h9.2.1
    omega
  have HRI := hid HY.2.2.1
  have h32 : (Md.parts (ms.getD 0 ly0) T).length ≤ 32 := Ft.parts_few (l := ms.getD 0 ly0) (ts := T) HY.2.1.2.1
  obtain ⟨b1, o1, ag, ng, cg, ax, nx, cx, g, xs, cap, rfl, hb1, hE, hrg, hrx, c0, c1, c2⟩ := ly_there hm1 h0n
  rw [Nat.zero_mul, Nat.add_zero] at c0 c1 c2
  have hLR : Md.LRight (g, xs, cap, ()) dim := by rw [← hE]; exact Ft.ly_right HY.1 (by rw [hlm]; exact h0n)
  rw [hE] at HIS h32 ⊢
  have HP : Hid (Calls _ _ _ _ _) := rmparts ag ng cg ax nx cx g xs cap dim b m d T _ hrg hrx ht1 hLR HY.1.2.1 HY.2.1
  generalize Md.parts (g, xs, cap, ()) T = ps at *
  have HL := hid (And.intro hlp (And.intro hlt h32))
  have hm16 : m ≤ 16 := by have := HY.2.1.2.1; omega
  clear hE hLR hrg hrx hlm hlp hlt h32 HY hm hp ht e1
  go_enter Tryz.func17, Tryz.ntmps17
  go_upto_region 1 with fail
  generalize (w.alloc (.cells #[.int .i64 dim, .slice (some ⟨b1, o1, none⟩) n c] 24)).alloc (.cells #[.int .i64 ep, .slice pa pn pc] 35) = W at *
  have m0 := km.cell 0 rfl
  have m1 := km.cell 1 rfl
  have HPT := hid (And.intro hp1 ht1)
  have HKP := hid kp
  have HBB := hid hB
  have hli0 : (0 : Int) < (n : Int) := by omega
  clear hm1 hp1 ht1 km kp hB
  go_wp2_with fail
  refine HP.out.mono ?_
  rintro e u5 ⟨hb5, xa, pl, xc, rfl, hps⟩
  have hpl := (sliceS_len hps).1
  have HPL := hid hpl
  have HPS := hid hps
  have HPT5 := hid (And.intro (Shape.below HPT.out.1 hb5) (Shape.below HPT.out.2 hb5))
  have HKP5 := hid (HKP.out.keep hb5)
  have HB5 := hid (bel_then HBB.out hb5)
  have hpl32 : pl ≤ 32 := by rw [← hpl]; exact HL.out.2.2
  clear hb5 hps hpl HP HPT HKP HBB m0 m1 c0 c1 c2
  go_wp2
  go_loopw [7, 18] (fun v i wr => ∃ (k : Nat) (a' : Option Addr) (c' : Nat), k ≤ pl ∧ v = .slice a' k c' ∧ i = .int .i64 k ∧ Own msgS wr u5.heap.size 44 (.slice a' k c') ((ps.take k).map (Ft.askOf ep h 0 T)) ∧ Below u5.heap.size u5 wr) (fun _ i _ => pl - (intOf i).toNat)
  case atStart => exact ⟨0, none, 0, Nat.zero_le _, rfl, rfl, by rw [List.take_zero]; exact Own.nil _ _ _ _, Below.refl _ _⟩
  case round =>
    obtain ⟨k, fa, fc, hk, rfl, rfl, hown, hbel⟩ := hrel
    by_cases hlt : k < pl
    · have hkl : k < ps.length := by have := HPL.out; omega
      obtain ⟨b2, o2, t, r, x, cc, rfl, hb2, hE, d0, d1, d2, d3⟩ := pt_there (Shape.below HPS.out hbel) hlt
      have hin := HIS.out _ (in_of hkl pt0)
      have hli : (k : Int) < (pl : Int) := by omega
      have hk0 : (0 : Int) ≤ (k : Int) := by omega
      rw [hE] at hin
      obtain ⟨g1, g2, g3, g4, g5, g6⟩ := hin
      obtain ⟨t', rfl⟩ : ∃ t' : Nat, t = t' := ⟨t.toNat, by have h9 : 0 ≤ t := g1; omega⟩
      obtain ⟨r', rfl⟩ : ∃ r' : Nat, r = r' := ⟨r.toNat, by have h9 : 0 ≤ r := g3; omega⟩
      obtain ⟨x', rfl⟩ : ∃ x' : Nat, x = x' := ⟨x.toNat, by have h9 : 0 ≤ x := g5; omega⟩
      have ht9 : t' < m := by have h9 : (t' : Int) < (m : Int) := g2; omega
      have hr9 : r' ≤ 1 := by have h9 : (r' : Int) ≤ 1 := g4; omega
      have hx9 : x' < pn := by have h9 : (x' : Int) < (pn : Int) := g6; omega
      obtain ⟨b3, o3, A3, C3, rfl, hb3, c3, hr3⟩ := mat_at HPT5.out.1 hx9
      obtain ⟨b4, o4, A4, C4, rfl, hb4, c4, hr4⟩ := mat_at (Shape.low HPT5.out.2) ht9
      have hrl := Pl.row_len (HRI.out.row (i := x') (by rw [HL.out.1]; exact hx9))
      obtain ⟨row, hrow⟩ : ∃ row, h.getD x' [] = row := ⟨_, rfl⟩
      obtain ⟨vec, hvec⟩ : ∃ vec, T.getD t' [] = vec := ⟨_, rfl⟩
      rw [hrow] at hr3 c3 hrl
      rw [hvec] at hr4 c4
      obtain ⟨L, hL⟩ : ∃ L, row.length = L := ⟨_, rfl⟩
      rw [hL] at hr3 c3 hrl
      obtain ⟨z, hz⟩ : ∃ z : Nat, (t' + r') % L = z := ⟨_, rfl⟩
      have hzl : z < L := by rw [← hz]; exact Nat.mod_lt _ (by omega)
      obtain ⟨b5, o5, rfl, hb5, c5⟩ := (Row.of_rep hr3).at hzl
      obtain ⟨v, hv⟩ : ∃ v, row.getD z 0 = v := ⟨_, rfl⟩
      rw [hv] at c5
      have hm9 : Ft.askOf ep h 0 T (pt (t' : Int) (r' : Int) (x' : Int) cc) = ⟨1, 0, v, 0, 1, 0, (t' : Int), (r' : Int), (x' : Int), ep, vec⟩ := by
        unfold Ft.askOf pt Pl.pick
        simp only [Int.toNat_natCast]
        rw [show ((t' : Int) + (r' : Int)).toNat = t' + r' by omega, hrow, hvec, hL, hz, hv]
        rfl
      have HC : Hid ((ps.take k).map (Ft.askOf ep h 0 T) ++ [⟨1, 0, v, 0, 1, 0, (t' : Int), (r' : Int), (x' : Int), ep, vec⟩] = (ps.take (k + 1)).map (Ft.askOf ep h 0 T)) := by
        show _ = _
        rw [← hm9, ← hE, List.take_succ_eq_append_getElem hkl, List.map_append, List.map_singleton, ← get_of hkl pt0]
      have HUL : Hid (((ps.take k).map (Ft.askOf ep h 0 T)).length = k) := by show _ = _; rw [List.length_map, List.length_take]; omega
      obtain ⟨y, hy⟩ : ∃ y : Nat, t' + r' = y := ⟨_, rfl⟩
      have hadd : IntKind.i64.wrap ((t' : Int) + (r' : Int)) = (y : Int) := by rw [IntKind.wrap_i64]; omega
      have hL0 : ¬ L = 0 := by omega
      have hL1 : ¬ (L : Int) = 0 := by omega
      have hrem : (y : Int) % (L : Int) = (z : Int) := by rw [← hz, hy]; exact (Int.natCast_emod _ _).symm
      have hrem2 : (y : Int).tmod (L : Int) = (z : Int) := by rw [Int.tmod_eq_emod_of_nonneg (by omega)]; exact hrem
      have hwz : IntKind.i64.wrap (z : Int) = (z : Int) := by rw [IntKind.wrap_i64]; have := hrl.2; omega
      have hx0 : (0 : Int) ≤ (x' : Int) := by omega
      have hxp : (x' : Int) < (pn : Int) := by omega
      have htm : (t' : Int) < (m : Int) := by omega
      have ht0 : (0 : Int) ≤ (t' : Int) := by omega
      have hz0 : (0 : Int) ≤ (z : Int) := by omega
      have hzL : (z : Int) < (L : Int) := by omega
      have HX := hid (And.intro hrl (And.intro hm9 hE))
      clear g1 g2 g3 g4 g5 g6 hm9 hE hrl hrow hL hz hv hy
      generalize (ps.take k).map (Ft.askOf ep h 0 T) = U at *
      have hbn := new_bel wr (.cells #[.int .i64 (t' : Int), .int .i64 (r' : Int), .int .i64 (x' : Int), .int .i64 cc] 84)
      have kx := Box.new wr 84 #[.int .i64 (t' : Int), .int .i64 (r' : Int), .int .i64 (x' : Int), .int .i64 cc]
      go_upto_region 5 with fail
      generalize wr.alloc (.cells #[.int .i64 (t' : Int), .int .i64 (r' : Int), .int .i64 (x' : Int), .int .i64 cc] 84) = Y at *
      have hbY := bel_then hbel hbn
      have kpY := HKP5.out.keep hbY
      have p1 := kpY.cell 1 rfl
      have x2 := kx.cell 2 rfl
      have c3' := (hbY.cell (by exact hb3)).trans c3
      have HS : Hid (∀ u, Below u5.heap.size u5 u → Box u wr.heap.size 84 #[.int .i64 (t' : Int), .int .i64 (r' : Int), .int .i64 (x' : Int), .int .i64 cc] → u.cell? ⟨wr.heap.size, 0, none⟩ = some (.int .i64 (t' : Int)) ∧ u.cell? ⟨wr.heap.size, 1, none⟩ = some (.int .i64 (r' : Int)) ∧ u.cell? ⟨wr.heap.size, 2, none⟩ = some (.int .i64 (x' : Int)) ∧ u.cell? ⟨w.heap.size + 1, 0, none⟩ = some (.int .i64 ep) ∧ u.cell? ⟨b5, o5 + z, none⟩ = some (.int .i64 v) ∧ u.cell? ⟨b4, o4 + t', none⟩ = some (.slice A4 vec.length C4)) := fun u hu hx => ⟨hx.cell 0 rfl, hx.cell 1 rfl, hx.cell 2 rfl, (HKP5.out.keep hu).cell 0 rfl, (hu.cell (by exact hb5)).trans c5, (hu.cell (by exact hb4)).trans c4⟩
      go_upto_region 6 with fail
      have hnew := new_bel Y (.cells #[.int .i64 1, .int .i64 0, .int .i64 v, .int .i64 0, .int .i64 1, .int .i64 0, .int .i64 (t' : Int), .int .i64 (r' : Int), .int .i64 (x' : Int), .int .i64 ep, .slice A4 vec.length C4] 44)
      have hownY := hown.keep hbn
      have hsrc := hownY.esrc (e := 44) (F := (· < u5.heap.size)) (cs := [.int .i64 1, .int .i64 0, .int .i64 v, .int .i64 0, .int .i64 1, .int .i64 0, .int .i64 (t' : Int), .int .i64 (r' : Int), .int .i64 (x' : Int), .int .i64 ep, .slice A4 vec.length C4]) (x := ⟨1, 0, v, 0, 1, 0, (t' : Int), (r' : Int), (x' : Int), ep, vec⟩) ⟨A4, C4, rfl, Shape.below hr4 hbY⟩ (fun b hb e => by have h8 := (hownY.lt b e.symm).1; have h9 : b < u5.heap.size := hb; omega)
      have hsrc1 : msgsS.rep (Y.alloc (.cells #[.int .i64 1, .int .i64 0, .int .i64 v, .int .i64 0, .int .i64 1, .int .i64 0, .int .i64 (t' : Int), .int .i64 (r' : Int), .int .i64 (x' : Int), .int .i64 ep, .slice A4 vec.length C4] 44)).drew _ _ _ := hsrc.1
      have hsrc2 := hsrc.2
      have hown1 := hownY.keep hnew.drew
      have hNe : some wr.heap.size ≠ Value.ownBlock (.slice fa k fc) := fun h => by have h9 := (hown.lt _ h.symm).2; omega
      have hsm : U.length + 1 ≤ 100000 := by rw [HUL.out]; omega
      have hbs : u5.heap.size ≤ (Y.alloc (.cells #[.int .i64 1, .int .i64 0, .int .i64 v, .int .i64 0, .int .i64 1, .int .i64 0, .int .i64 (t' : Int), .int .i64 (r' : Int), .int .i64 (x' : Int), .int .i64 ep, .slice A4 vec.length C4] 44)).drew.heap.size := (bel_then hbY hnew.drew).size
      have hln : U.length + 1 = k + 1 := by rw [HUL.out]
      have kx1 := kx.keep hnew.drew
      have hbN := bel_then hbY hnew.drew
      have hSS := HS.out Y hbY kx
      have hSA := HS.out _ (bel_then hbY hnew) (kx.keep hnew)
      have hSD := HS.out _ hbN kx1
      clear hsrc c3' p1 x2 hown hownY hr4 hr3 c3 c4 c5 d0 d1 d2 d3 kpY hbel hnew hbn hbY kx
      go_region_held3 (fun w' => w'.cell? ⟨wr.heap.size, 0, none⟩ = some (.int .i64 (t' : Int)) ∧ w'.cell? ⟨wr.heap.size, 1, none⟩ = some (.int .i64 (r' : Int)) ∧ w'.cell? ⟨wr.heap.size, 2, none⟩ = some (.int .i64 (x' : Int)) ∧ w'.cell? ⟨w.heap.size + 1, 0, none⟩ = some (.int .i64 ep) ∧ w'.cell? ⟨b5, o5 + z, none⟩ = some (.int .i64 v) ∧ w'.cell? ⟨b4, o4 + t', none⟩ = some (.slice A4 vec.length C4))
        (first
          | exact hSS
          | exact hq6
          | exact hSD
          | exact hSA
          | go_keep)
        (first
          | (refine step_app msgS (by simp [Region.wanted]) (.tmp 28) (.tmp 54) 39 (by rfl) u5.heap.size 44 i0 _ 104 Tryz.underlying39 hi0 hi1 hi2 hi3 rfl (by show 0 < 11; omega) (by omega) (by rfl) hown1 (by rfl) hsrc1 hsrc2 hsm hbs (k + 1) hln _ HC.out ?_; intro a6 c6 u6 ho6 hg6 hb6 hat6; have hB6 := hbN.trans hb6; have hq6 := HS.out u6 hB6 (kx1.grown hg6 hNe)))
      all_goals
        have HE := hid (And.intro ho6 hB6)
        clear ho6 hg6 hb6 hat6 hq6 hSS hSA hSD hB6 hown1 hsrc1 hsrc2
        go_wp2
        go_roundw
        case rel => exact ⟨k + 1, a6, c6, by omega, rfl, by go_num, HE.out.1, HE.out.2⟩
        case measure => simp [intOf]; omega
    · have hkn : k = pl := by omega
      subst hkn
      have hli : ¬ (k : Int) < (k : Int) := by omega
      rw [List.take_of_length_le (by have := HPL.out; omega)] at hown
      have hB9 := bel_then HB5.out hbel
      go_wp2
      go_ret
      exact ⟨hB9, fa, k, fc, rfl, hown.is⟩

end Go.Proofs.YtfidgcanolegfaaGreat
