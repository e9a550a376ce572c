/- NodeKeys with letters. -/
import Derived.Test.YtgffeefipeblhaaNlK
import Derived.Test.YtgffeefipeblhaaNodH
import Derived.Test.YtgffeefipeblhaaNodI
import Derived.Test.YtgffeefipeblhaaSm
namespace Go.Proofs.Ytgffeefipeblhaa
open Go.ChangeShapes Go.WideShapes Go.ChangeAt Go.RowKit

/-! ### Pairs of bytes, an array of bools (memory alone) -/
abbrev Kp := Int × Int × Unit
abbrev kpS : Shape Kp := consS (intS .u8) (consS (intS .u8) noneS)
abbrev kpsS : Shape (List Kp) := sliceS kpS
def kp0 : Kp := (0, 0, ())
theorem kp_at {w : World} {F : Nat → Prop} {a : Option Addr} {n c : Nat} {l : List Kp} (h : kpsS.rep w F [.slice a n c] l) {j : Nat} (hj : j < n) :
    ∃ b off, a = some ⟨b, off, none⟩ ∧ b < w.heap.size ∧ w.cell? ⟨b, off + j * 2, none⟩ = some (.int .u8 (l.getD j kp0).1) ∧ w.cell? ⟨b, off + j * 2 + 1, none⟩ = some (.int .u8 (l.getD j kp0).2.1) := by
  have hl := (sliceS_len h).1
  obtain ⟨b, off, cs, ha, _, hb, hc, hr⟩ := sliceS_at h (by show 0 < 2; omega) (j := j) (by omega)
  have e : l.getD j kp0 = l[j]'(by omega) := by rw [List.getD_eq_getElem?_getD, List.getElem?_eq_getElem (by omega)]; rfl
  rw [e]
  obtain ⟨d1, rfl, h1⟩ := consS_int hr
  obtain ⟨d2, rfl, h2⟩ := consS_int h1
  exact ⟨b, off, ha, hb, hc 0 _ rfl, hc 1 _ rfl⟩
theorem kp_mem {l : List Kp} {j : Nat} (h : j < l.length) : l.getD j kp0 ∈ l := by
  rw [List.getD_eq_getElem?_getD, List.getElem?_eq_getElem h]; exact List.getElem_mem h
theorem Box.set67 {u : World} {b : Nat} {t : TypeId} {p0 p1 p2 p3 p4 p5 p6 p7 p8 p9 p10 : Value} (h : Box u b t #[p0, p1, p2, p3, p4, p5, p6, p7, p8, p9, p10]) (v6 v7 : Value) : Box ((u.setCell ⟨b, 6, none⟩ v6).setCell ⟨b, 7, none⟩ v7) b t #[p0, p1, p2, p3, p4, p5, v6, v7, p8, p9, p10] := by
  have := (h.set 6 v6).set 7 v7
  simp only [List.setIfInBounds_toArray, List.set_cons_zero, List.set_cons_succ] at this
  exact this
theorem Try.infoThere : (Try.prog.info? 56).map (fun i => (i.zero, i.size, 0)) = some (some (.agg (List.replicate 32 (Value.bool false)).toArray), 32, 0) := by kernel_rfl
theorem zeros32 (u : World) : (zeroValue 56).run Try.prog u = .ok (.agg ((List.replicate 32 false).map Value.bool).toArray) u := by
  obtain ⟨i0, hi, hz⟩ : ∃ i0, Try.prog.info? 56 = some i0 ∧ i0.zero = some (.agg (List.replicate 32 (Value.bool false)).toArray) := by
    have h := Try.infoThere
    cases hi : Try.prog.info? 56 with
    | none => rw [hi] at h; cases h
    | some i0 =>
      rw [hi] at h
      have h2 := Option.some.inj h
      exact ⟨i0, rfl, (Prod.mk.inj h2).1⟩
  rw [List.map_replicate]
  generalize (List.replicate 32 (Value.bool false)).toArray = Z at *
  simp [zeroValue, typeInfo, hi, hz]


set_option maxHeartbeats 1500000 in
set_option maxRecDepth 100000 in
theorem nl_keys (dim : Int) (a : Option Addr) (n c : Nat) (ls : List Ly) (ep : Int) (pa : Option Addr) (pn pc : Nat) (h : List (List Int)) (me : Int) (x0 x1 x2 x3 x4 x5 x6 x7 x8 x9 : Int) (xa : Option Addr) (xn xc : Nat) (v : List Int) (ka : Option Addr) (kn kc : Nat) (ks : List Kp) (w : World)
    (hm : lysS.rep w everywhere [.slice a n c] ls) (hp : matS.rep w everywhere [.slice pa pn pc] h) (hv : rowS.rep w everywhere [.slice xa xn xc] v) (hk : kpsS.rep w everywhere [.slice ka kn kc] ks) (hkf : ∀ q ∈ ks, (0 ≤ q.1 ∧ q.1 ≤ 255) ∧ 0 ≤ q.2.1 ∧ q.2.1 ≤ 255) :
    Calls Try.prog 6 #[.agg #[.int .i64 dim, .slice a n c], .agg #[.int .i64 ep, .slice pa pn pc], .int .i64 me, .agg #[.int .i64 x0, .int .i64 x1, .int .i64 x2, .int .i64 x3, .int .i64 x4, .int .i64 x5, .int .i64 x6, .int .i64 x7, .int .i64 x8, .int .i64 x9, .slice xa xn xc], .slice ka kn kc] w fun e w' => e = .returned (.bool true) ∧ Below w.heap.size w w' := by
  have HK : Hid (kpsS.rep w everywhere [.slice ka kn kc] ks) := hk
  have HKF : Hid (∀ j, j < kn → ∃ t r : Nat, t < 16 ∧ r < 2 ∧ IntKind.i64.wrap ((ks.getD j kp0).1.tmod 16) = (t : Int) ∧ IntKind.i64.wrap ((ks.getD j kp0).2.1.tmod 2) = (r : Int)) := fun j hj => by
    have h9 := hkf _ (kp_mem (j := j) (by rw [(sliceS_len hk).1]; exact hj))
    refine ⟨((ks.getD j kp0).1 % 16).toNat, ((ks.getD j kp0).2.1 % 2).toNat, by omega, by omega, ?_, ?_⟩
    · rw [Int.tmod_eq_emod_of_nonneg h9.1.1, IntKind.wrap_i64]; omega
    · rw [Int.tmod_eq_emod_of_nonneg h9.2.1, IntKind.wrap_i64]; omega
  have HVL : Hid (v.length = xn) := (sliceS_len hv).1
  clear hk hkf
  obtain ⟨Z, hZ⟩ : ∃ Z, Z = List.replicate 32 false := ⟨_, rfl⟩
  have hz : ∀ u : World, (zeroValue 56).run Try.prog u = .ok (.agg (Z.map Value.bool).toArray) u := fun u => by rw [hZ]; exact zeros32 u
  obtain ⟨W, hW⟩ : ∃ W, W = ((w.alloc (.cells #[.int .i64 dim, .slice a n c] 24)).alloc (.cells #[.int .i64 ep, .slice pa pn pc] 27)).alloc (.cells #[.int .i64 x0, .int .i64 x1, .int .i64 x2, .int .i64 x3, .int .i64 x4, .int .i64 x5, .int .i64 x6, .int .i64 x7, .int .i64 x8, .int .i64 x9, .slice xa xn xc] 31) := ⟨_, rfl⟩
  obtain ⟨hB, km, kp, kx, hsz⟩ := boxes3 hW
  have hm1 := Shape.below hm hB
  have hp1 := Shape.below hp hB
  have hv1 := Shape.below hv hB
  have hln := (sliceS_len hm).1
  have HW : Hid (W = ((w.alloc (.cells #[.int .i64 dim, .slice a n c] 24)).alloc (.cells #[.int .i64 ep, .slice pa pn pc] 27)).alloc (.cells #[.int .i64 x0, .int .i64 x1, .int .i64 x2, .int .i64 x3, .int .i64 x4, .int .i64 x5, .int .i64 x6, .int .i64 x7, .int .i64 x8, .int .i64 x9, .slice xa xn xc] 31)) := hW
  have HSZ : Hid (W.heap.size = w.heap.size + 3) := hsz
  clear hm hp hv hW hsz
  go_enter Try.func6, Try.ntmps6
  go_upto_region 1 with fail
  rw [← HW.out]
  clear HW
  have m0 := km.cell 0 rfl
  have m1 := km.cell 1 rfl
  go_wp2_with fail
  refine (msmall a n c ls dim W hm1).mono ?_
  rintro e u1 ⟨hs1, hb1⟩
  have hB1 := bel_then hB hb1
  by_cases hS : Md.Small ls
  case neg =>
    rw [hs1.not hS]
    clear hs1 hS m0 m1 km kp kx
    go_wp2_with fail
    refine (nawake _).mono ?_
    rintro e u9 ⟨rfl, hb9⟩
    go_wp2
    go_ret
    exact ⟨rfl, bel_then hB1 hb9⟩
  rw [hs1.is hS]
  have hn9 : n ≤ 1000 := by have := hS.1; omega
  have HS : Hid (Md.Small ls) := hS
  have km1 := km.keep hb1
  have kp1 := kp.keep hb1
  have kx1 := kx.keep hb1
  have hm2 := Shape.below hm1 hb1
  have hp2 := Shape.below hp1 hb1
  have hv2 := Shape.below hv1 hb1
  have HZ1 : Hid (w.heap.size + 3 ≤ u1.heap.size) := by show _ ≤ _; have := HSZ.out; have := hb1.size; omega
  clear hs1 hS m0 m1 km kp kx hm1 hp1 hv1 hB hb1 HSZ hln
  have p1 := kp1.cell 1 rfl
  go_wp2_with fail
  refine (small pa pn pc h everywhere u1 hp2).mono ?_
  rintro e u2 ⟨hs2, hww⟩
  replace hww := hww.symm
  subst hww
  by_cases hT : Mx.Small h
  case neg =>
    rw [hs2.not hT]
    clear hs2 hT p1 km1 kp1 kx1
    go_wp2_with fail
    refine (nawake _).mono ?_
    rintro e u9 ⟨rfl, hb9⟩
    go_wp2
    go_ret
    exact ⟨rfl, bel_then hB1 hb9⟩
  rw [hs2.is hT]
  have HT : Hid (Mx.Small h) := hT
  clear hs2 hT p1
  have x10 := kx1.cell 10 rfl
  by_cases hx : 30 < xn
  case pos =>
    have hxi : (30 : Int) < (xn : Int) := by omega
    clear km1 kp1
    go_wp2_with fail
    refine (nawake _).mono ?_
    rintro e u9 ⟨rfl, hb9⟩
    go_wp2
    go_ret
    exact ⟨rfl, bel_then hB1 hb9⟩
  have hxi : ¬ (30 : Int) < (xn : Int) := by omega
  obtain ⟨y, hy⟩ : ∃ y, Md.ans (Nd.lyOf ls ⟨x0, x1, x2, x3, x4, x5, x6, x7, x8, x9, v⟩) v x8 = y := ⟨_, rfl⟩
  have HY : Hid (Md.ans (Nd.lyOf ls ⟨x0, x1, x2, x3, x4, x5, x6, x7, x8, x9, v⟩) v x8 = y) := hy
  have HK0 : Hid (Nd.Keys ⟨x0, x1, x2, x3, x4, x5, x6, x7, x8, x9, v⟩ y Z []) := by show Nd.Keys _ _ _ _; rw [hZ]; exact Nd.keys_nil _ _
  obtain ⟨G, hG⟩ : ∃ G : Prop, G = (Nd.Fits dim ls ep h me (Nd.trOf ⟨x0, x1, x2, x3, x4, x5, x6, x7, x8, x9, v⟩ 0 0) ∧ Nd.Held ep h me ⟨x0, x1, x2, x3, x4, x5, x6, x7, x8, x9, v⟩) := ⟨_, rfl⟩
  have HG : Hid (G = (Nd.Fits dim ls ep h me (Nd.trOf ⟨x0, x1, x2, x3, x4, x5, x6, x7, x8, x9, v⟩ 0 0) ∧ Nd.Held ep h me ⟨x0, x1, x2, x3, x4, x5, x6, x7, x8, x9, v⟩)) := hG
  have hth := new_bel u1 (.cells (Z.map Value.bool).toArray 56)
  have HTH : Hid (Box (u1.alloc (.cells (Z.map Value.bool).toArray 56)) u1.heap.size 56 (Z.map Value.bool).toArray) := Box.new _ _ _
  clear hy hZ hG
  go_wp2
  go_loopw [11, 13, 14] (fun v11 v13 v14 wr => ∃ (k : Nat) (l : List En) (nl : Nat) (la : Option Addr) (lc : Nat) (bs : List Bool), k ≤ kn ∧ k ≤ 20 ∧ v11 = .slice la nl lc ∧ v13 = .int .i64 (nl : Int) ∧ v14 = .int .i64 k ∧ Hid (l.length = nl ∧ nl ≤ k ∧ (k = 0 ∨ G) ∧ Nd.Keys ⟨x0, x1, x2, x3, x4, x5, x6, x7, x8, x9, v⟩ y bs l) ∧ ensS.rep wr (· ≠ u1.heap.size) [.slice la nl lc] l ∧ Box wr u1.heap.size 56 (bs.map Value.bool).toArray ∧ Below u1.heap.size u1 wr) (fun _ _ v14 _ => 20 - (intOf v14).toNat)
  case atStart => exact ⟨0, [], 0, none, 0, Z, Nat.zero_le _, Nat.zero_le _, rfl, rfl, rfl, ⟨rfl, Nat.le_refl _, .inl rfl, HK0.out⟩, rep_none _ _ _, HTH.out, hth⟩
  case round =>
    clear hth HTH HK0 hz x10
    obtain ⟨k, l, nl, la, lc, bs, hkn, hk20, rfl, rfl, rfl, HI, hrep, hthere, hbel⟩ := hrel
    by_cases hlt1 : k < kn
    case neg =>
      have hli : ¬ (k : Int) < (kn : Int) := by omega
      have hBU := bel_then hB1 hbel
      clear hrep hthere hbel km1 kp1 kx1
      go_wp2_with fail
      refine (nawake _).mono ?_
      rintro e u9 ⟨rfl, hb9⟩
      go_wp2
      go_ret
      exact ⟨rfl, bel_then hBU hb9⟩
    by_cases hlt2 : k < 20
    case neg =>
      have hli : (k : Int) < (kn : Int) := by omega
      have hli2 : ¬ (k : Int) < 20 := by omega
      have hBU := bel_then hB1 hbel
      clear hrep hthere hbel km1 kp1 kx1
      go_wp2_with fail
      refine (nawake _).mono ?_
      rintro e u9 ⟨rfl, hb9⟩
      go_wp2
      go_ret
      exact ⟨rfl, bel_then hBU hb9⟩
    have hli : (k : Int) < (kn : Int) := by omega
    have hli2 : (k : Int) < 20 := by omega
    have hk0 : (0 : Int) ≤ (k : Int) := by omega
    obtain ⟨t, r, ht16, hr2, hqt, hqr⟩ := HKF.out k hlt1
    obtain ⟨kb, ko, hka, hkb, kc0, kc1⟩ := kp_at HK.out hlt1
    have hBw := bel_then hB1 hbel
    have hu1 : w.heap.size ≤ u1.heap.size := hB1.size
    have hwr1 : u1.heap.size < wr.heap.size := hthere.lt
    have HCK : Hid (∀ u, Below w.heap.size w u → u.cell? ⟨kb, ko + k * 2, none⟩ = some (.int .u8 (ks.getD k kp0).1) ∧ u.cell? ⟨kb, ko + k * 2 + 1, none⟩ = some (.int .u8 (ks.getD k kp0).2.1)) := fun u hu => ⟨(hu.cell hkb).trans kc0, (hu.cell hkb).trans kc1⟩
    subst hka
    clear kc0 kc1
    generalize (ks.getD k kp0).1 = q0 at *
    generalize (ks.getD k kp0).2.1 = q1 at *
    have hbn := new_bel wr (.cells #[.int .i64 x0, .int .i64 x1, .int .i64 x2, .int .i64 x3, .int .i64 x4, .int .i64 x5, .int .i64 x6, .int .i64 x7, .int .i64 x8, .int .i64 x9, .slice xa xn xc] 31)
    have kb0 := Box.new wr 31 #[.int .i64 x0, .int .i64 x1, .int .i64 x2, .int .i64 x3, .int .i64 x4, .int .i64 x5, .int .i64 x6, .int .i64 x7, .int .i64 x8, .int .i64 x9, .slice xa xn xc]
    have km2 := km1.keep hbel
    have kp2 := kp1.keep hbel
    have kx2 := kx1.keep hbel
    have c0 := kx2.cell 0 rfl
    have c1 := kx2.cell 1 rfl
    have c2 := kx2.cell 2 rfl
    have c3 := kx2.cell 3 rfl
    have c4 := kx2.cell 4 rfl
    have c5 := kx2.cell 5 rfl
    have c6 := kx2.cell 6 rfl
    have c7 := kx2.cell 7 rfl
    have c8 := kx2.cell 8 rfl
    have c9 := kx2.cell 9 rfl
    have c10 := kx2.cell 10 rfl
    go_upto_region 10 with fail
    generalize hWW : wr.alloc (.cells #[.int .i64 x0, .int .i64 x1, .int .i64 x2, .int .i64 x3, .int .i64 x4, .int .i64 x5, .int .i64 x6, .int .i64 x7, .int .i64 x8, .int .i64 x9, .slice xa xn xc] 31) = W at *
    have hd0 : Below wr.heap.size W W.drew := (Below.refl _ W).drew
    have hd1 : Below wr.heap.size W (W.setCell ⟨wr.heap.size, 6, none⟩ (.int .i64 (t : Int))).drew := (bel_put (Below.refl _ W) (Nat.le_refl _) _).drew
    have hd2 : Below wr.heap.size W ((W.setCell ⟨wr.heap.size, 6, none⟩ (.int .i64 (t : Int))).setCell ⟨wr.heap.size, 7, none⟩ (.int .i64 (r : Int))).drew := (bel_put (bel_put (Below.refl _ W) (Nat.le_refl _) _) (Nat.le_refl _) _).drew
    have HS5 : Hid (∀ u, Below wr.heap.size W u → u.cell? ⟨kb, ko + k * 2, none⟩ = some (.int .u8 q0) ∧ u.cell? ⟨kb, ko + k * 2 + 1, none⟩ = some (.int .u8 q1)) := fun u hu => HCK.out u ((bel_then hBw hbn).trans (hu.mono (by omega)))
    obtain ⟨i1, i2⟩ := HS5.out W (Below.refl _ _)
    have g6 := kb0.cell 6 rfl
    have g7 := kb0.cell 7 rfl
    have gf6 := kb0.free 6
    have gf7 := kb0.free 7
    clear c0 c1 c2 c3 c4 c5 c6 c7 c8 c9 c10
    clear hWW
    go_region_held3 (fun u => u.cell? ⟨kb, ko + k * 2, none⟩ = some (.int .u8 q0) ∧ u.cell? ⟨kb, ko + k * 2 + 1, none⟩ = some (.int .u8 q1))
      (first
        | exact HS5.out _ (by first | with_reducible assumption | with_reducible exact Below.refl _ _)
        | go_keep)
      (fail)
    have hbW : Below wr.heap.size wr ((W.setCell ⟨wr.heap.size, 6, none⟩ (.int .i64 (t : Int))).setCell ⟨wr.heap.size, 7, none⟩ (.int .i64 (r : Int))).drew := (bel_put (bel_put hbn (Nat.le_refl _) _) (Nat.le_refl _) _).drew
    have kbb : Box ((W.setCell ⟨wr.heap.size, 6, none⟩ (.int .i64 (t : Int))).setCell ⟨wr.heap.size, 7, none⟩ (.int .i64 (r : Int))).drew wr.heap.size 31 #[.int .i64 x0, .int .i64 x1, .int .i64 x2, .int .i64 x3, .int .i64 x4, .int .i64 x5, .int .i64 (t : Int), .int .i64 (r : Int), .int .i64 x8, .int .i64 x9, .slice xa xn xc] := Box.draw (kb0.set67 _ _)
    clear hd0 hd1 hd2 i1 i2 g6 g7 gf6 gf7 HS5 HCK kb0 hbn hqt hqr km2 kp2 kx2
    go_upto_region 11 with fail
    generalize ((W.setCell ⟨wr.heap.size, 6, none⟩ (.int .i64 (t : Int))).setCell ⟨wr.heap.size, 7, none⟩ (.int .i64 (r : Int))).drew = Wb at *
    have hbUW := bel_then hbel hbW
    have km3 := km1.keep hbUW
    have kp3 := kp1.keep hbUW
    have kx3 := kx1.keep hbUW
    have hth3 := hthere.keep hbW
    have hB3 := bel_then hB1 hbUW
    have hBu : u1.heap.size < Wb.heap.size := hth3.lt
    have hrl : ensS.rep Wb (fun b => b ≠ u1.heap.size ∧ b < Wb.heap.size) [.slice la nl lc] l := ensS.mono (Shape.below (ensS.mono (F' := fun b => b ≠ u1.heap.size ∧ b < wr.heap.size) hrep fun b hb hlt => ⟨hb, hlt⟩) hbW) fun b hb _ => ⟨hb.1, Nat.lt_of_lt_of_le hb.2 hbW.size⟩
    have HYL : Hid (G → y.length = xn) := fun hg => by
      rw [HG.out] at hg
      have h8 := Md.ans_len hg.1.layer.2 hg.1.vec.1 hg.1.low.2.1 hg.1.2.2.2.2.2.2.1
      rw [← HY.out, ← HVL.out]
      exact h8
    have HWI : Hid (WorkIn (fun b => b ≠ u1.heap.size ∧ b < Wb.heap.size) Wb a n c ls pa pn pc h la nl lc l xa xn xc v) := ⟨Shape.below hm2 hbUW, hn9, fun l hl => Md.small_lsized (HS.out.2 l hl), Shape.below hp2 hbUW, Ex.small_sized HT.out, hrl, fun b hb => hb.2, ⟨by have := HI.out.1; have := HI.out.2.1; omega, fun e he => by
      rcases HI.out.2.2.1 with h0 | hg
      · have h9 := HI.out.1
        have h8 := HI.out.2.1
        have : l = [] := List.eq_nil_of_length_eq_zero (by omega)
        rw [this] at he
        simp at he
      · rw [HI.out.2.2.2.row e he, HYL.out hg]; omega⟩, Shape.below hv2 hbUW, by omega⟩
    have HTR : Hid (0 ≤ (t : Int) ∧ (t : Int) ≤ 2147483647 ∧ 0 ≤ (r : Int) ∧ (r : Int) ≤ 2147483647) := ⟨by omega, by omega, by omega, by omega⟩
    clear hrep hthere hbel hbW hrl km1 kp1 kx1 hBw
    have c0 := kbb.cell 0 rfl
    have c1 := kbb.cell 1 rfl
    have c2 := kbb.cell 2 rfl
    have c3 := kbb.cell 3 rfl
    have c4 := kbb.cell 4 rfl
    have c5 := kbb.cell 5 rfl
    have c6 := kbb.cell 6 rfl
    have c7 := kbb.cell 7 rfl
    have c8 := kbb.cell 8 rfl
    have c9 := kbb.cell 9 rfl
    have c10 := kbb.cell 10 rfl
    have m0 := km3.cell 0 rfl
    have m1 := km3.cell 1 rfl
    have p0 := kp3.cell 0 rfl
    have p1 := kp3.cell 1 rfl
    by_cases hg : G
    case neg =>
      have hk00 : k = 0 := HI.out.2.2.1.resolve_right hg
      obtain rfl : nl = 0 := by have := HI.out.2.1; omega
      by_cases hf : Nd.Fits dim ls ep h me (Nd.trOf ⟨x0, x1, x2, x3, x4, x5, x6, x7, x8, x9, v⟩ t r)
      case neg =>
        have HF : Hid (¬ Nd.Fits dim ls ep h me (Nd.trOf ⟨x0, x1, x2, x3, x4, x5, x6, x7, x8, x9, v⟩ t r)) := hf
        clear hf hg hk00
        go_wp2_with fail
        refine (nwork_no (P := fun b => b ≠ u1.heap.size ∧ b < Wb.heap.size) dim a n c ls ep pa pn pc h me la 0 lc l x0 x1 x2 x3 x4 x5 (t : Int) (r : Int) x8 x9 xa xn xc v Wb HWI.out HF.out).mono ?_
        rintro e u3 ⟨hb3, al, cl, rfl, hr3⟩
        have hBU := bel_then hB3 (bel_then hb3 (new_bel u3 (.cells #[.int .i64 0, .int .i64 0, .int .i64 0, .int .i64 0, .int .i64 0, .int .i64 0, .int .i64 0, .int .i64 0, .int .i64 0, .int .i64 0, .slice none 0 0] 31)))
        clear hr3 hb3 hB3 c0 c1 c2 c3 c4 c5 c6 c7 c8 c9 c10 m0 m1 p0 p1 km3 kp3 kx3 hth3 kbb
        go_wp2_with fail
        refine (nawake _).mono ?_
        rintro e u9 ⟨rfl, hb9⟩
        go_wp2
        go_ret
        exact ⟨rfl, bel_then hBU hb9⟩
      have HF : Hid (Nd.Fits dim ls ep h me (Nd.trOf ⟨x0, x1, x2, x3, x4, x5, x6, x7, x8, x9, v⟩ t r)) := hf
      have HD : Hid (¬ Nd.Held ep h me (Nd.trOf ⟨x0, x1, x2, x3, x4, x5, x6, x7, x8, x9, v⟩ t r)) := fun h9 => hg (by rw [HG.out]; exact ⟨Nd.fits_tr HF.out (by omega) (by omega), h9⟩)
      clear hf hg hk00
      go_wp2_with fail
      refine (nwork_stale (P := fun b => b ≠ u1.heap.size ∧ b < Wb.heap.size) dim a n c ls ep pa pn pc h me la 0 lc l x0 x1 x2 x3 x4 x5 (t : Int) (r : Int) x8 x9 xa xn xc v Wb HWI.out HF.out HD.out).mono ?_
      rintro e u3 ⟨hb3, al, cl, rfl, hr3⟩
      have hBU := bel_then hB3 (bel_then hb3 (new_bel u3 (.cells #[.int .i64 3, .int .i64 me, .int .i64 x1, .int .i64 x3, .int .i64 x4, .int .i64 x5, .int .i64 (t : Int), .int .i64 (r : Int), .int .i64 x8, .int .i64 ep, .slice none 0 0] 31)))
      clear hr3 hb3 hB3 c0 c1 c2 c3 c4 c5 c6 c7 c8 c9 c10 m0 m1 p0 p1 km3 kp3 kx3 hth3 kbb
      go_wp2_with fail
      refine (nawake _).mono ?_
      rintro e u9 ⟨rfl, hb9⟩
      go_wp2
      go_ret
      exact ⟨rfl, bel_then hBU hb9⟩
    have HGG : Hid G := hg
    have HF : Hid (Nd.Fits dim ls ep h me (Nd.trOf ⟨x0, x1, x2, x3, x4, x5, x6, x7, x8, x9, v⟩ t r)) := by
      have h9 := hg
      rw [HG.out] at h9
      exact Nd.fits_tr h9.1 ⟨HTR.out.1, HTR.out.2.1⟩ ⟨HTR.out.2.2.1, HTR.out.2.2.2⟩
    have HD : Hid (Nd.Held ep h me (Nd.trOf ⟨x0, x1, x2, x3, x4, x5, x6, x7, x8, x9, v⟩ t r)) := by
      have h9 := hg
      rw [HG.out] at h9
      exact h9.2
    obtain ⟨L, y', hw⟩ := Nd.works_there l (ky x4 x5 (t : Int) (r : Int)) y
    obtain ⟨hyy, hkeys, hlen⟩ := Nd.keys_step HI.out.2.2.2 ht16 hr2 hw
    subst hyy
    obtain ⟨z, hz⟩ : ∃ z, bs.getD (t * 2 + r) false = z := ⟨_, rfl⟩
    rw [hz] at hlen
    obtain ⟨nL, hnL⟩ : ∃ nL, L.length = nL := ⟨_, rfl⟩
    have HLN : Hid (nL = if z = true then nl else nl + 1) := by show _ = _; rw [← hnL, hlen, HI.out.1]
    have HWK : Hid (Nd.Works l (ky x4 x5 (t : Int) (r : Int)) y' L y' ∧ L.length = nL) := ⟨hw, hnL⟩
    have HKE : Hid (Nd.Keys ⟨x0, x1, x2, x3, x4, x5, x6, x7, x8, x9, v⟩ y' (bs.set (t * 2 + r) true) L) := hkeys
    have HZ : Hid ((bs.map Value.bool).toArray[t * 2 + r]? = some (.bool z)) := by
      show _ = _
      rw [List.getElem?_toArray, List.getElem?_map, ← hz, List.getD_eq_getElem?_getD, List.getElem?_eq_getElem (by rw [HI.out.2.2.2.len]; omega)]
      rfl
    clear hg hw hkeys hlen hz hnL
    go_wp2_with fail
    refine (nwork_held (P := fun b => b ≠ u1.heap.size ∧ b < Wb.heap.size) dim a n c ls ep pa pn pc h me la nl lc l x0 x1 x2 x3 x4 x5 (t : Int) (r : Int) x8 x9 xa xn xc v Wb HWI.out HF.out HD.out L y' (by have h9 := HWK.out.1; rw [← HY.out] at h9 ⊢; exact h9) nL HWK.out.2 xn (HYL.out HGG.out)).mono ?_
    rintro e u3 ⟨hb3, al, cl, ya, yc, rfl, hr3, hy3⟩
    have hgo : u3.heap.size ≠ u1.heap.size := by have := hb3.size; omega
    have hbn := new_bel u3 (.cells #[.int .i64 2, .int .i64 me, .int .i64 x1, .int .i64 x3, .int .i64 x4, .int .i64 x5, .int .i64 (t : Int), .int .i64 (r : Int), .int .i64 x8, .int .i64 ep, .slice ya xn yc] 31)
    have hb3n := bel_then hb3 hbn
    have hr4 : ensS.rep _ (· ≠ u1.heap.size) [.slice al nL cl] L := ensS.mono (Shape.below hr3 hbn) fun b hb _ => hb.elim (fun h => h.1) (fun h => by omega)
    have km4 := km3.keep hb3n
    have kp4 := kp3.keep hb3n
    have kx4 := kx3.keep hb3n
    have kb4 := kbb.keep hb3n
    have hth4 := hth3.keep hb3n
    have ko4 := Box.new u3 31 #[.int .i64 2, .int .i64 me, .int .i64 x1, .int .i64 x3, .int .i64 x4, .int .i64 x5, .int .i64 (t : Int), .int .i64 (r : Int), .int .i64 x8, .int .i64 ep, .slice ya xn yc]
    have hB4 := bel_then hB3 hb3n
    have hbU4 : Below u1.heap.size u1 (u3.alloc (.cells #[.int .i64 2, .int .i64 me, .int .i64 x1, .int .i64 x3, .int .i64 x4, .int .i64 x5, .int .i64 (t : Int), .int .i64 (r : Int), .int .i64 x8, .int .i64 ep, .slice ya xn yc] 31)) := bel_then hbUW hb3n
    clear hbUW
    clear hr3 hy3 hb3 hb3n hbn c0 c1 c2 c3 c4 c5 c6 c7 c8 c9 c10 m0 m1 p0 p1 km3 kp3 kx3 hth3 kbb hB3
    go_upto_region 12 with fail
    generalize World.alloc u3 _ = V at *
    have o0 := ko4.cell 0 rfl
    have hti : (t : Int) < 16 := by omega
    have hri : (r : Int) < 2 := by omega
    have ht0 : (0 : Int) ≤ (t : Int) := by omega
    have hr0 : (0 : Int) ≤ (r : Int) := by omega
    have hne9 : Nonempty (Later V) := Later.there V
    have d6 : ∀ x : Later V, x.u.cell? ⟨wr.heap.size, 6, none⟩ = _ := fun x => x.cell (kb4.cell 6 rfl)
    have d7 : ∀ x : Later V, x.u.cell? ⟨wr.heap.size, 7, none⟩ = _ := fun x => x.cell (kb4.cell 7 rfl)
    have dt : ∀ x : Later V, x.u.cell? ⟨u1.heap.size, t * 2 + r, none⟩ = some (.bool z) := fun x => x.cell (hth4.cell (t * 2 + r) HZ.out)
    go_wp2
    refine region_later (by kernel_rfl) (by kernel_rfl) ?_
    repeat (go_big_quiet_step (fail))
    refine wpQuiet_nil ?_
    intro x9'
    obtain ⟨W9, hb9⟩ := x9'
    have kx5 := kx4.keep hb9
    have kb5 := kb4.keep hb9
    have ko5 := ko4.keep hb9
    have hth5 := hth4.keep hb9
    have hr5 := Shape.below hr4 hb9
    have hB5 := bel_then hB4 hb9
    have hbU5 := bel_then hbU4 hb9
    have hwrg : wr.heap.size ≠ u1.heap.size := by omega
    have hwg : w.heap.size + 2 ≠ u1.heap.size := by have := HZ1.out; omega
    clear hne9 d6 d7 dt o0 km4 kp4 kx4 kb4 ko4 hth4 hr4 hB4 hbU4
    have hnl20 : nl ≤ 20 := by have := HI.out.2.1; omega
    cases z with
    | false =>
      have hnl0 : (nl : Int) + 1 ≤ 21 := by omega
      have HNN : Hid (nL = nl + 1) := by have h9 := HLN.out; rwa [if_neg (by decide)] at h9
      have HLE : Hid (nL = nl ∨ nL = nl + 1) := .inr HNN.out
      have qn : ((nL : Int) != (nl : Int) + 1) = false := by rw [bne_eq_false_iff_eq]; have := HNN.out; omega
      have b6 := kb5.cell 6 rfl
      have b7 := kb5.cell 7 rfl
      have tc := hth5.cell (t * 2 + r) HZ.out
      have tf := hth5.free (t * 2 + r)
      have kx6 := (kx5.other (b2 := u1.heap.size) (i := t * 2 + r) (.bool true) hwg).draw
      have kb6 := (kb5.other (b2 := u1.heap.size) (i := t * 2 + r) (.bool true) hwrg).draw
      have ko6 := (ko5.other (b2 := u1.heap.size) (i := t * 2 + r) (.bool true) hgo).draw
      have hth6 : Box (W9.setCell ⟨u1.heap.size, t * 2 + r, none⟩ (.bool true)).drew u1.heap.size 56 ((bs.set (t * 2 + r) true).map Value.bool).toArray := Box.draw (by have h9 := hth5.set (t * 2 + r) (.bool true); rw [List.map_set]; simpa using h9)
      have hr6 := Shape.below (rep_put (b := u1.heap.size) (i := t * 2 + r) hr5 (fun b hb => hb) (.bool true)) (Below.refl _ (W9.setCell ⟨u1.heap.size, t * 2 + r, none⟩ (.bool true))).drew
      have hbU6 := (bel_put (b := u1.heap.size) (i := t * 2 + r) hbU5 (Nat.le_refl _) (.bool true)).drew
      clear kx5 kb5 ko5 hth5 hr5 hB5 hbU5
      go_upto_region 16 with fail
      go_region_with (fail)
      all_goals
        go_upto_region 17 with fail
        clear b6 b7 tc tf
        generalize (W9.setCell ⟨u1.heap.size, t * 2 + r, none⟩ (.bool true)).drew = V6 at *
        have o6 := ko6.cell 6 rfl
        have o7 := ko6.cell 7 rfl
        have o10 := ko6.cell 10 rfl
        have b6 := kb6.cell 6 rfl
        have b7 := kb6.cell 7 rfl
        have x10 := kx6.cell 10 rfl
        have HEND : Hid (ensS.rep V6 (· ≠ u1.heap.size) [.slice al nL cl] L ∧ Box V6 u1.heap.size 56 ((bs.set (t * 2 + r) true).map Value.bool).toArray ∧ Below u1.heap.size u1 V6) := ⟨hr6, hth6, hbU6⟩
        have HLN2 : Hid (nL ≤ k + 1) := by have h9 := HI.out.2.1; have h8 := HLE.out; show _ ≤ _; omega
        have HMN : Hid ((nL : Int) = (nl : Int) + 1 ∨ (nL : Int) = (nl : Int)) := by have h8 := HLE.out; show _ ∨ _; omega
        clear hr6 hth6 hbU6 ko6 kb6 kx6
        go_wp2
        go_roundw
        case rel => exact ⟨k + 1, L, nL, al, cl, bs.set (t * 2 + r) true, by omega, by omega, rfl, by first | with_reducible rfl | (rw [HNN.out]; go_num), by go_num, ⟨HWK.out.2, HLN2.out, .inr HGG.out, HKE.out⟩, HEND.out.1, HEND.out.2.1, HEND.out.2.2⟩
        case measure => simp [intOf]; omega
    | true =>
      have hLn : nl = nL := by have h9 := HLN.out; rw [if_pos rfl] at h9; exact h9.symm
      subst hLn
      have HNN : Hid (nl = nl) := rfl
      have HLE : Hid (nl = nl ∨ nl = nl + 1) := .inl rfl
      have b6 := kb5.cell 6 rfl
      have b7 := kb5.cell 7 rfl
      have tc := hth5.cell (t * 2 + r) HZ.out
      have tf := hth5.free (t * 2 + r)
      have kx6 := (kx5.other (b2 := u1.heap.size) (i := t * 2 + r) (.bool true) hwg).draw
      have kb6 := (kb5.other (b2 := u1.heap.size) (i := t * 2 + r) (.bool true) hwrg).draw
      have ko6 := (ko5.other (b2 := u1.heap.size) (i := t * 2 + r) (.bool true) hgo).draw
      have hth6 : Box (W9.setCell ⟨u1.heap.size, t * 2 + r, none⟩ (.bool true)).drew u1.heap.size 56 ((bs.set (t * 2 + r) true).map Value.bool).toArray := Box.draw (by have h9 := hth5.set (t * 2 + r) (.bool true); rw [List.map_set]; simpa using h9)
      have hr6 := Shape.below (rep_put (b := u1.heap.size) (i := t * 2 + r) hr5 (fun b hb => hb) (.bool true)) (Below.refl _ (W9.setCell ⟨u1.heap.size, t * 2 + r, none⟩ (.bool true))).drew
      have hbU6 := (bel_put (b := u1.heap.size) (i := t * 2 + r) hbU5 (Nat.le_refl _) (.bool true)).drew
      clear kx5 kb5 ko5 hth5 hr5 hB5 hbU5
      go_upto_region 16 with fail
      go_region_with (fail)
      all_goals
        go_upto_region 17 with fail
        clear b6 b7 tc tf
        generalize (W9.setCell ⟨u1.heap.size, t * 2 + r, none⟩ (.bool true)).drew = V6 at *
        have o6 := ko6.cell 6 rfl
        have o7 := ko6.cell 7 rfl
        have o10 := ko6.cell 10 rfl
        have b6 := kb6.cell 6 rfl
        have b7 := kb6.cell 7 rfl
        have x10 := kx6.cell 10 rfl
        have HEND : Hid (ensS.rep V6 (· ≠ u1.heap.size) [.slice al nl cl] L ∧ Box V6 u1.heap.size 56 ((bs.set (t * 2 + r) true).map Value.bool).toArray ∧ Below u1.heap.size u1 V6) := ⟨hr6, hth6, hbU6⟩
        have HLN2 : Hid (nl ≤ k + 1) := by have h9 := HI.out.2.1; have h8 := HLE.out; show _ ≤ _; omega
        have HMN : Hid ((nl : Int) = (nl : Int) + 1 ∨ (nl : Int) = (nl : Int)) := by have h8 := HLE.out; show _ ∨ _; omega
        clear hr6 hth6 hbU6 ko6 kb6 kx6
        go_wp2
        go_roundw
        case rel => exact ⟨k + 1, L, nl, al, cl, bs.set (t * 2 + r) true, by omega, by omega, rfl, by first | with_reducible rfl | (rw [HNN.out]; go_num), by go_num, ⟨HWK.out.2, HLN2.out, .inr HGG.out, HKE.out⟩, HEND.out.1, HEND.out.2.1, HEND.out.2.2⟩
        case measure => simp [intOf]; omega

end Go.Proofs.Ytgffeefipeblhaa
