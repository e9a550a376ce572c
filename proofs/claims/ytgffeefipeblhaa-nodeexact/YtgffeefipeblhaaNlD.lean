/- NodeExact with letters. -/
import Derived.Test.YtgffeefipeblhaaNodK
import Derived.Test.YtgffeefipeblhaaNodL
import Derived.Test.YtgffeefipeblhaaNodH
import Derived.Test.YtgffeefipeblhaaSm
import Derived.Test.YtgffeefipeblhaaWireF
import Derived.Test.YtgffeefipeblhaaVecA
namespace Go.Proofs.Ytgffeefipeblhaa
open Go.ChangeShapes Go.WideShapes Go.ChangeAt Go.RowKit

theorem en_inj {p q r s p' q' r' s' : Int} {v v' : List Int} (h : en (ky p q r s) v = en (ky p' q' r' s') v') : p = p' ∧ q = q' ∧ r = r' ∧ s = s' ∧ v = v' := by
  injection h with h1 h2
  obtain ⟨x1, x2, x3, x4⟩ := ky_eq.1 h1
  injection h2 with h2 h3
  exact ⟨x1, x2, x3, x4, h2⟩


set_option maxHeartbeats 4000000 in
set_option maxRecDepth 100000 in
theorem nl_exact (dim : Int) (a : Option Addr) (n c : Nat) (ls : List Ly) (ep : Int) (pa : Option Addr) (pn pc : Nat) (h : List (List Int)) (me : Int) (la : Option Addr) (ln lc : Nat) (l : List En) (x0 x1 x2 x3 x4 x5 x6 x7 x8 x9 : Int) (xa : Option Addr) (xn xc : Nat) (v : List Int) (w : World)
    (hm : lysS.rep w everywhere [.slice a n c] ls) (hp : matS.rep w everywhere [.slice pa pn pc] h) (hl : ensS.rep w everywhere [.slice la ln lc] l) (hv : rowS.rep w everywhere [.slice xa xn xc] v) :
    Calls Try.prog 3 #[.agg #[.int .i64 dim, .slice a n c], .agg #[.int .i64 ep, .slice pa pn pc], .int .i64 me, .slice la ln lc, .agg #[.int .i64 x0, .int .i64 x1, .int .i64 x2, .int .i64 x3, .int .i64 x4, .int .i64 x5, .int .i64 x6, .int .i64 x7, .int .i64 x8, .int .i64 x9, .slice xa xn xc]] w fun e w' => e = .returned (.bool true) ∧ Below w.heap.size w w' := by
  have HLL : Hid (ensS.rep w everywhere [.slice la ln lc] l) := hl
  have HL : Hid (l.length = ln) := (sliceS_len hl).1
  clear hl
  obtain ⟨i0, hi0, hi1, hi2, hi3⟩ := info_parts Try.infoRentry
  obtain ⟨W, hW⟩ : ∃ W, W = ((w.alloc (.cells #[.int .i64 dim, .slice a n c] 24)).alloc (.cells #[.int .i64 ep, .slice pa pn pc] 27)).alloc (.cells #[.int .i64 x0, .int .i64 x1, .int .i64 x2, .int .i64 x3, .int .i64 x4, .int .i64 x5, .int .i64 x6, .int .i64 x7, .int .i64 x8, .int .i64 x9, .slice xa xn xc] 31) := ⟨_, rfl⟩
  obtain ⟨hB, km, kp, kx, hsz⟩ := boxes3 hW
  have hm1 := Shape.below hm hB
  have hp1 := Shape.below hp hB
  have hv1 := Shape.below hv hB
  have hln := (sliceS_len hm).1
  have HW : Hid (W = ((w.alloc (.cells #[.int .i64 dim, .slice a n c] 24)).alloc (.cells #[.int .i64 ep, .slice pa pn pc] 27)).alloc (.cells #[.int .i64 x0, .int .i64 x1, .int .i64 x2, .int .i64 x3, .int .i64 x4, .int .i64 x5, .int .i64 x6, .int .i64 x7, .int .i64 x8, .int .i64 x9, .slice xa xn xc] 31)) := hW
  have HSZ : Hid (W.heap.size = w.heap.size + 3) := hsz
  clear hm hp hv hW hsz
  go_enter Try.func3, Try.ntmps3
  go_upto_region 1 with fail
  rw [← HW.out]
  clear HW
  have m0 := km.cell 0 rfl
  have m1 := km.cell 1 rfl
  go_wp2_with fail
  refine (msmall a n c ls dim W hm1).mono ?_
  rintro e u1 ⟨hs1, hb1⟩
  have hB1 := bel_then hB hb1
  by_cases hS : Md.Small ls
  case neg =>
    rw [hs1.not hS]
    clear hs1 hS m0 m1 km kp kx
    go_wp2_with fail
    refine (nawake _).mono ?_
    rintro e u9 ⟨rfl, hb9⟩
    go_wp2
    go_ret
    exact ⟨rfl, bel_then hB1 hb9⟩
  rw [hs1.is hS]
  have hn9 : n ≤ 1000 := by have := hS.1; omega
  have HS : Hid (Md.Small ls) := hS
  have km1 := km.keep hb1
  have kp1 := kp.keep hb1
  have kx1 := kx.keep hb1
  have hm2 := Shape.below hm1 hb1
  have hp2 := Shape.below hp1 hb1
  have hv2 := Shape.below hv1 hb1
  have HZ1 : Hid (w.heap.size + 3 ≤ u1.heap.size) := by show _ ≤ _; have := HSZ.out; have := hb1.size; omega
  clear hs1 hS m0 m1 km kp kx hm1 hp1 hv1 hB hb1 HSZ hln
  have p1 := kp1.cell 1 rfl
  go_wp2_with fail
  refine (small pa pn pc h everywhere u1 hp2).mono ?_
  rintro e u2 ⟨hs2, hww⟩
  replace hww := hww.symm
  subst hww
  by_cases hT : Mx.Small h
  case neg =>
    rw [hs2.not hT]
    clear hs2 hT p1 km1 kp1 kx1
    go_wp2_with fail
    refine (nawake _).mono ?_
    rintro e u9 ⟨rfl, hb9⟩
    go_wp2
    go_ret
    exact ⟨rfl, bel_then hB1 hb9⟩
  rw [hs2.is hT]
  have HT : Hid (Mx.Small h) := hT
  clear hs2 hT p1
  by_cases h60 : 60 < ln
  case pos =>
    have h60i : (60 : Int) < (ln : Int) := by omega
    clear km1 kp1
    go_wp2_with fail
    refine (nawake _).mono ?_
    rintro e u9 ⟨rfl, hb9⟩
    go_wp2
    go_ret
    exact ⟨rfl, bel_then hB1 hb9⟩
  have h60i : ¬ (60 : Int) < (ln : Int) := by omega
  have x10 := kx1.cell 10 rfl
  by_cases hx : 30 < xn
  case pos =>
    have hxi : (30 : Int) < (xn : Int) := by omega
    clear km1 kp1
    go_wp2_with fail
    refine (nawake _).mono ?_
    rintro e u9 ⟨rfl, hb9⟩
    go_wp2
    go_ret
    exact ⟨rfl, bel_then hB1 hb9⟩
  have hxi : ¬ (30 : Int) < (xn : Int) := by omega
  have hl1 := Shape.below HLL.out hB1
  have hA := Shape.low hl1
  go_wp2
  go_loopw [11, 45] (fun v11 i wr => ∃ (k : Nat) (ax : Option Addr) (cx : Nat), k ≤ ln ∧ v11 = .slice ax k cx ∧ i = .int .i64 k ∧ (∀ j, j < k → (l.getD j en0).2.1.length ≤ 30) ∧ Own (inS enS (· < u1.heap.size)) wr u1.heap.size 42 (.slice ax k cx) (l.take k) ∧ Below u1.heap.size u1 wr) (fun _ i _ => ln - (intOf i).toNat)
  case atStart => exact ⟨0, none, 0, Nat.zero_le _, rfl, rfl, fun j hj => by omega, Own.nil _ _ _ _, Below.refl _ _⟩
  case round =>
    obtain ⟨k, ax, cx, hk, rfl, rfl, hsm, hown, hbel⟩ := hrel
    have HSM : Hid (∀ j, j < k → (l.getD j en0).2.1.length ≤ 30) := hsm
    clear hsm
    by_cases hlt : k < ln
    · obtain ⟨b1, o1, p, q, r, s, v0, nv, A, C, rfl, _, _, hE, hnv, hrow, c0, c1, c2, c3, c4⟩ := en_at (Shape.now hA hbel) hlt
      have hli : (k : Int) < (ln : Int) := by omega
      have HE : Hid (l.getD k en0 = en (ky p q r s) v0 ∧ v0.length = nv) := ⟨hE, hnv⟩
      have hbn := new_bel wr (.cells #[.int .i64 p, .int .i64 q, .int .i64 r, .int .i64 s, .slice A nv C] 39)
      clear hE hnv x10 km1 kp1 kx1
      by_cases hv30 : 30 < nv
      · have hvi : (30 : Int) < (nv : Int) := by omega
        have hBU := bel_then hB1 (bel_then hbel hbn)
        clear hrow hown
        go_wp2_with fail
        refine (nawake _).mono ?_
        rintro e u9 ⟨rfl, hb9⟩
        go_wp2
        go_ret
        exact ⟨rfl, bel_then hBU hb9⟩
      · have hvi : ¬ (30 : Int) < (nv : Int) := by omega
        have hsz1 : (wr.alloc (.cells #[.int .i64 p, .int .i64 q, .int .i64 r, .int .i64 s, .slice A nv C] 39)).heap.size = wr.heap.size + 1 := by simp
        have kb := Box.new wr 39 #[.int .i64 p, .int .i64 q, .int .i64 r, .int .i64 s, .slice A nv C]
        have hown1 := hown.keep hbn
        have hrow1 := Shape.below hrow hbn
        have hB2 := bel_then hbel hbn
        have HWs : Hid ((wr.alloc (.cells #[.int .i64 p, .int .i64 q, .int .i64 r, .int .i64 s, .slice A nv C] 39)).heap.size = wr.heap.size + 1) := hsz1
        have hgl := hbel.size
        clear hrow hown hbel hbn hsz1
        go_upto_region 9 with fail
        clear c0 c1 c2 c3 c4
        generalize wr.alloc (.cells #[.int .i64 p, .int .i64 q, .int .i64 r, .int .i64 s, .slice A nv C] 39) = W at *
        have c0 := kb.cell 0 rfl
        have c1 := kb.cell 1 rfl
        have c2 := kb.cell 2 rfl
        have c3 := kb.cell 3 rfl
        have c4 := kb.cell 4 rfl
        have hbn := new_bel W (.cells #[.int .i64 p, .int .i64 q, .int .i64 r, .int .i64 s, .slice A nv C] 42)
        have ho2 := hown1.keep hbn
        have hsrc1 := rep_one (e := 42) (inS_of (P := (· < u1.heap.size)) (F := (· < u1.heap.size)) (en_rep p q r s hrow1) (fun b hb => hb))
        have hsrc2 : ∀ b, ((b < u1.heap.size ∧ b < W.heap.size) ∨ b = W.heap.size) → some b ≠ Value.ownBlock (.slice ax k cx) := fun b hb h => by have h7 := hown1.lt b h.symm; omega
        have HSS : Hid (l.take k ++ [en (ky p q r s) v0] = l.take (k + 1)) := by
          show _ = _
          rw [Dx.take_step (by rw [HL.out]; exact hlt), HE.out.1]
        have HTT : Hid ((l.take k).length = k) := by show _ = _; rw [List.length_take, HL.out]; omega
        have hsm2 : (l.take k).length + 1 ≤ 100000 := by rw [HTT.out]; omega
        have hbs : u1.heap.size ≤ (W.alloc (.cells #[.int .i64 p, .int .i64 q, .int .i64 r, .int .i64 s, .slice A nv C] 42)).heap.size := by have h7 := hbn.size; have h8 := HWs.out; omega
        have hBB := bel_then hB2 hbn
        clear hown1 hrow1 hB2 hbn
        go_wp2_with (at_builtin; (refine wpList_app (inS enS (· < u1.heap.size)) (by simp [Region.wanted]) (.tmp 54) (.tmp 60) 35 rfl u1.heap.size 42 i0 (.agg #[.int .i64 0, .int .i64 0, .int .i64 0, .int .i64 0, .slice none 0 0]) 56 Try.underlying35 hi0 hi1 hi2 hi3 rfl (Nat.succ_pos 4) (by omega) (by rfl) ho2 (by rfl) hsrc1 hsrc2 hsm2 hbs ?_; intro a6 c6 u6 ho6 hg6 hb6 hat6; rw [HSS.out, HTT.out] at ho6; rw [HTT.out]))
        go_roundw
        case rel =>
          refine ⟨k + 1, a6, c6, by omega, rfl, by go_num, fun i hi => ?_, ho6, hBB.trans hb6⟩
          by_cases e : i = k
          · subst e
            rw [HE.out.1]
            show v0.length ≤ 30
            rw [HE.out.2]; omega
          · exact HSM.out i (by omega)
        case measure => simp [intOf]; omega
    · have hkn : k = ln := by omega
      subst hkn
      have hli : ¬ (k : Int) < (k : Int) := by omega
      have HSH : Hid (Dx.Short l) := ⟨by rw [HL.out]; omega, fun e he => by
        obtain ⟨i, hi, rfl⟩ := eget_of_mem he
        have := HSM.out i (by rw [← HL.out]; exact hi)
        omega⟩
      have htk : l.take k = l := List.take_of_length_le (by rw [HL.out]; exact Nat.le_refl _)
      rw [htk] at hown
      have hrx : ensS.rep wr everywhere [.slice ax k cx] l := hown.plain
      have km3 := km1.keep hbel
      have kp3 := kp1.keep hbel
      have kx3 := kx1.keep hbel
      have hm3 := Shape.below hm2 hbel
      have hp3 := Shape.below hp2 hbel
      have hv3 := Shape.below hv2 hbel
      have hl3 := Shape.below hl1 hbel
      have hB3 := bel_then hB1 hbel
      have HWI : Hid (WorkIn (· < wr.heap.size) wr a n c ls pa pn pc h la k lc l xa xn xc v) := ⟨hm3, hn9, fun l hl => Md.small_lsized (HS.out.2 l hl), hp3, Ex.small_sized HT.out, Shape.low hl3, fun b hb => hb, HSH.out, hv3, by omega⟩
      clear htk hown HSM km1 kp1 kx1 hm2 hp2 hv2 hl1 hB1 hbel x10 hl3 hA
      have c0 := kx3.cell 0 rfl
      have c1 := kx3.cell 1 rfl
      have c2 := kx3.cell 2 rfl
      have c3 := kx3.cell 3 rfl
      have c4 := kx3.cell 4 rfl
      have c5 := kx3.cell 5 rfl
      have c6 := kx3.cell 6 rfl
      have c7 := kx3.cell 7 rfl
      have c8 := kx3.cell 8 rfl
      have c9 := kx3.cell 9 rfl
      have c10 := kx3.cell 10 rfl
      have m0 := km3.cell 0 rfl
      have m1 := km3.cell 1 rfl
      have p0 := kp3.cell 0 rfl
      have p1 := kp3.cell 1 rfl
      by_cases hf : Nd.Fits dim ls ep h me ⟨x0, x1, x2, x3, x4, x5, x6, x7, x8, x9, v⟩
      case neg =>
        have HF : Hid (¬ Nd.Fits dim ls ep h me ⟨x0, x1, x2, x3, x4, x5, x6, x7, x8, x9, v⟩) := hf
        have HMM : Hid (Alike ⟨0, 0, 0, 0, 0, 0, 0, 0, 0, 0, []⟩ ⟨0, 0, 0, 0, 0, 0, 0, 0, 0, 0, []⟩) := rfl
        clear hf
        go_wp2_with fail
        refine (nwork_no (P := (· < wr.heap.size)) dim a n c ls ep pa pn pc h me la k lc l x0 x1 x2 x3 x4 x5 x6 x7 x8 x9 xa xn xc v wr HWI.out HF.out).mono ?_
        rintro e u3 ⟨hb3, al, cl, rfl, hr3⟩
        clear hr3
        -- behind node.Work's answer (world u3, the message #[.int .i64 0, .int .i64 0, .int .i64 0, .int .i64 0, .int .i64 0, .int .i64 0, .int .i64 0, .int .i64 0, .int .i64 0, .int .i64 0, .slice none 0 0]): its variable, the document's map, Fits
        have hbb := bel_then (bel_then hb3 (new_bel u3 (.cells #[.int .i64 0, .int .i64 0, .int .i64 0, .int .i64 0, .int .i64 0, .int .i64 0, .int .i64 0, .int .i64 0, .int .i64 0, .int .i64 0, .slice none 0 0] 31))) (new_bel (u3.alloc (.cells #[.int .i64 0, .int .i64 0, .int .i64 0, .int .i64 0, .int .i64 0, .int .i64 0, .int .i64 0, .int .i64 0, .int .i64 0, .int .i64 0, .slice none 0 0] 31)) (.cells #[.int .i64 ep, .slice pa pn pc] 45))
        have hbb2 := bel_two u3 (.cells #[.int .i64 0, .int .i64 0, .int .i64 0, .int .i64 0, .int .i64 0, .int .i64 0, .int .i64 0, .int .i64 0, .int .i64 0, .int .i64 0, .slice none 0 0] 31) (.cells #[.int .i64 ep, .slice pa pn pc] 45)
        have km4 := km3.keep hbb
        have kp4 := kp3.keep hb3
        have kx4 := kx3.keep hbb
        have hm4 := Shape.below hm3 hbb
        have hp4 := Shape.below hp3 hbb
        have hv4 := Shape.below hv3 hbb
        have hx4 := Shape.below hrx hbb
        have hB4 := bel_then hB3 hbb
        have kb4 := (Box.new u3 31 #[.int .i64 0, .int .i64 0, .int .i64 0, .int .i64 0, .int .i64 0, .int .i64 0, .int .i64 0, .int .i64 0, .int .i64 0, .int .i64 0, .slice none 0 0]).keep (new_bel (u3.alloc (.cells #[.int .i64 0, .int .i64 0, .int .i64 0, .int .i64 0, .int .i64 0, .int .i64 0, .int .i64 0, .int .i64 0, .int .i64 0, .int .i64 0, .slice none 0 0] 31)) (.cells #[.int .i64 ep, .slice pa pn pc] 45))
        have kq4 := Box.new (u3.alloc (.cells #[.int .i64 0, .int .i64 0, .int .i64 0, .int .i64 0, .int .i64 0, .int .i64 0, .int .i64 0, .int .i64 0, .int .i64 0, .int .i64 0, .slice none 0 0] 31)) 45 #[.int .i64 ep, .slice pa pn pc]
        have hsq : (u3.alloc (.cells #[.int .i64 0, .int .i64 0, .int .i64 0, .int .i64 0, .int .i64 0, .int .i64 0, .int .i64 0, .int .i64 0, .int .i64 0, .int .i64 0, .slice none 0 0] 31)).heap.size = u3.heap.size + 1 := by simp
        rw [hsq] at kq4
        have kp5 := kp4.keep (new_bel u3 (.cells #[.int .i64 0, .int .i64 0, .int .i64 0, .int .i64 0, .int .i64 0, .int .i64 0, .int .i64 0, .int .i64 0, .int .i64 0, .int .i64 0, .slice none 0 0] 31))
        clear hsq c0 c1 c2 c3 c4 c5 c6 c7 c8 c9 c10 m0 m1 p0 p1 km3 kp3 kx3 hm3 hp3 hv3 hrx hB3 hb3 hbb
        have p0 := kp5.cell 0 rfl
        have p1 := kp5.cell 1 rfl
        go_upto_region 13 with fail
        clear p0 p1 kp5 kp4
        generalize World.alloc (World.alloc u3 _) _ = V at *
        have HFI : Hid (Calls _ _ _ _ _) := rnfits dim a n c ls ep pa pn pc h me x0 x1 x2 x3 x4 x5 x6 x7 x8 x9 xa xn xc v V hm4 hn9 (fun l hl => Md.small_lsized (HS.out.2 l hl)) hp4 (Ex.small_sized HT.out) hv4 (by omega)
        have c0 := kx4.cell 0 rfl
        have c1 := kx4.cell 1 rfl
        have c2 := kx4.cell 2 rfl
        have c3 := kx4.cell 3 rfl
        have c4 := kx4.cell 4 rfl
        have c5 := kx4.cell 5 rfl
        have c6 := kx4.cell 6 rfl
        have c7 := kx4.cell 7 rfl
        have c8 := kx4.cell 8 rfl
        have c9 := kx4.cell 9 rfl
        have c10 := kx4.cell 10 rfl
        have m0 := km4.cell 0 rfl
        have m1 := km4.cell 1 rfl
        have p0 := kq4.cell 0 rfl
        have p1 := kq4.cell 1 rfl
        go_wp2_with fail
        refine HFI.out.mono ?_
        rintro e u5 ⟨hs5, hb5⟩
        have hB5 := bel_then hB4 hb5
        have kb5 := kb4.keep hb5
        clear HFI
        rw [hs5.not HF.out]
        clear hs5 c0 c1 c2 c3 c4 c5 c6 c7 c8 c9 c10 m0 m1 p0 p1 km4 kx4 kq4 kb4 hm4 hp4 hv4 hx4 hB4 hb5
        have b0 := kb5.cell 0 rfl
        have b1 := kb5.cell 1 rfl
        have b2 := kb5.cell 2 rfl
        have b3 := kb5.cell 3 rfl
        have b4 := kb5.cell 4 rfl
        have b5 := kb5.cell 5 rfl
        have b6 := kb5.cell 6 rfl
        have b7 := kb5.cell 7 rfl
        have b8 := kb5.cell 8 rfl
        have b9 := kb5.cell 9 rfl
        have b10 := kb5.cell 10 rfl
        go_wp2_with fail
        refine (rsame 0 0 0 0 0 0 0 0 0 0 none 0 0 [] 0 0 0 0 0 0 0 0 0 0 none 0 0 [] u5 (rep_none _ _ _) (rep_none _ _ _) (by omega) (by omega)).mono ?_
        rintro e u8 ⟨hs8, hb8⟩
        rw [hs8.is HMM.out]
        have hB8 := bel_then hB5 hb8
        clear b0 b1 b2 b3 b4 b5 b6 b7 b8 b9 b10 kb5 hB5 hs8 hb8
        go_wp2_with fail
        refine (nawake _).mono ?_
        rintro e u9 ⟨rfl, hb9⟩
        go_wp2
        go_ret
        exact ⟨rfl, bel_then hB8 hb9⟩
      have HF : Hid (Nd.Fits dim ls ep h me ⟨x0, x1, x2, x3, x4, x5, x6, x7, x8, x9, v⟩) := hf
      clear hf
      by_cases hh : Nd.Held ep h me ⟨x0, x1, x2, x3, x4, x5, x6, x7, x8, x9, v⟩
      case neg =>
        have HD : Hid (¬ Nd.Held ep h me ⟨x0, x1, x2, x3, x4, x5, x6, x7, x8, x9, v⟩) := hh
        have HMM : Hid (Alike ⟨3, me, x1, x3, x4, x5, x6, x7, x8, ep, []⟩ ⟨3, me, x1, x3, x4, x5, x6, x7, x8, ep, []⟩) := rfl
        clear hh
        go_wp2_with fail
        refine (nwork_stale (P := (· < wr.heap.size)) dim a n c ls ep pa pn pc h me la k lc l x0 x1 x2 x3 x4 x5 x6 x7 x8 x9 xa xn xc v wr HWI.out HF.out HD.out).mono ?_
        rintro e u3 ⟨hb3, al, cl, rfl, hr3⟩
        clear hr3
        -- behind node.Work's answer (world u3, the message #[.int .i64 3, .int .i64 me, .int .i64 x1, .int .i64 x3, .int .i64 x4, .int .i64 x5, .int .i64 x6, .int .i64 x7, .int .i64 x8, .int .i64 ep, .slice none 0 0]): its variable, the document's map, Fits
        have hbb := bel_then (bel_then hb3 (new_bel u3 (.cells #[.int .i64 3, .int .i64 me, .int .i64 x1, .int .i64 x3, .int .i64 x4, .int .i64 x5, .int .i64 x6, .int .i64 x7, .int .i64 x8, .int .i64 ep, .slice none 0 0] 31))) (new_bel (u3.alloc (.cells #[.int .i64 3, .int .i64 me, .int .i64 x1, .int .i64 x3, .int .i64 x4, .int .i64 x5, .int .i64 x6, .int .i64 x7, .int .i64 x8, .int .i64 ep, .slice none 0 0] 31)) (.cells #[.int .i64 ep, .slice pa pn pc] 45))
        have hbb2 := bel_two u3 (.cells #[.int .i64 3, .int .i64 me, .int .i64 x1, .int .i64 x3, .int .i64 x4, .int .i64 x5, .int .i64 x6, .int .i64 x7, .int .i64 x8, .int .i64 ep, .slice none 0 0] 31) (.cells #[.int .i64 ep, .slice pa pn pc] 45)
        have km4 := km3.keep hbb
        have kp4 := kp3.keep hb3
        have kx4 := kx3.keep hbb
        have hm4 := Shape.below hm3 hbb
        have hp4 := Shape.below hp3 hbb
        have hv4 := Shape.below hv3 hbb
        have hx4 := Shape.below hrx hbb
        have hB4 := bel_then hB3 hbb
        have kb4 := (Box.new u3 31 #[.int .i64 3, .int .i64 me, .int .i64 x1, .int .i64 x3, .int .i64 x4, .int .i64 x5, .int .i64 x6, .int .i64 x7, .int .i64 x8, .int .i64 ep, .slice none 0 0]).keep (new_bel (u3.alloc (.cells #[.int .i64 3, .int .i64 me, .int .i64 x1, .int .i64 x3, .int .i64 x4, .int .i64 x5, .int .i64 x6, .int .i64 x7, .int .i64 x8, .int .i64 ep, .slice none 0 0] 31)) (.cells #[.int .i64 ep, .slice pa pn pc] 45))
        have kq4 := Box.new (u3.alloc (.cells #[.int .i64 3, .int .i64 me, .int .i64 x1, .int .i64 x3, .int .i64 x4, .int .i64 x5, .int .i64 x6, .int .i64 x7, .int .i64 x8, .int .i64 ep, .slice none 0 0] 31)) 45 #[.int .i64 ep, .slice pa pn pc]
        have hsq : (u3.alloc (.cells #[.int .i64 3, .int .i64 me, .int .i64 x1, .int .i64 x3, .int .i64 x4, .int .i64 x5, .int .i64 x6, .int .i64 x7, .int .i64 x8, .int .i64 ep, .slice none 0 0] 31)).heap.size = u3.heap.size + 1 := by simp
        rw [hsq] at kq4
        have kp5 := kp4.keep (new_bel u3 (.cells #[.int .i64 3, .int .i64 me, .int .i64 x1, .int .i64 x3, .int .i64 x4, .int .i64 x5, .int .i64 x6, .int .i64 x7, .int .i64 x8, .int .i64 ep, .slice none 0 0] 31))
        clear hsq c0 c1 c2 c3 c4 c5 c6 c7 c8 c9 c10 m0 m1 p0 p1 km3 kp3 kx3 hm3 hp3 hv3 hrx hB3 hb3 hbb
        have p0 := kp5.cell 0 rfl
        have p1 := kp5.cell 1 rfl
        go_upto_region 13 with fail
        clear p0 p1 kp5 kp4
        generalize World.alloc (World.alloc u3 _) _ = V at *
        have HFI : Hid (Calls _ _ _ _ _) := rnfits dim a n c ls ep pa pn pc h me x0 x1 x2 x3 x4 x5 x6 x7 x8 x9 xa xn xc v V hm4 hn9 (fun l hl => Md.small_lsized (HS.out.2 l hl)) hp4 (Ex.small_sized HT.out) hv4 (by omega)
        have c0 := kx4.cell 0 rfl
        have c1 := kx4.cell 1 rfl
        have c2 := kx4.cell 2 rfl
        have c3 := kx4.cell 3 rfl
        have c4 := kx4.cell 4 rfl
        have c5 := kx4.cell 5 rfl
        have c6 := kx4.cell 6 rfl
        have c7 := kx4.cell 7 rfl
        have c8 := kx4.cell 8 rfl
        have c9 := kx4.cell 9 rfl
        have c10 := kx4.cell 10 rfl
        have m0 := km4.cell 0 rfl
        have m1 := km4.cell 1 rfl
        have p0 := kq4.cell 0 rfl
        have p1 := kq4.cell 1 rfl
        go_wp2_with fail
        refine HFI.out.mono ?_
        rintro e u5 ⟨hs5, hb5⟩
        have hB5 := bel_then hB4 hb5
        have kb5 := kb4.keep hb5
        clear HFI
        -- the document's Work is asked (world u5)
        rw [hs5.is HF.out]
        have km5 := km4.keep hb5
        have kx5 := kx4.keep hb5
        have kq5 := kq4.keep hb5
        have hm5 := Shape.below hm4 hb5
        have hp5 := Shape.below hp4 hb5
        have hv5 := Shape.below hv4 hb5
        have hx5 := Shape.below hx4 hb5
        clear hs5 c0 c1 c2 c3 c4 c5 c6 c7 c8 c9 c10 m0 m1 p0 p1 km4 kx4 kq4 kb4 hm4 hp4 hv4 hx4 hB4 hb5
        have HRI : Hid (RWorkIn u5 a n c ls pa pn pc h ax k cx l xa xn xc v) := ⟨hm5, fun l hl => Md.small_lsized (HS.out.2 l hl), hp5, Ex.small_sized HT.out, hx5, HSH.out, hv5, by omega⟩
        have c0 := kx5.cell 0 rfl
        have c1 := kx5.cell 1 rfl
        have c2 := kx5.cell 2 rfl
        have c3 := kx5.cell 3 rfl
        have c4 := kx5.cell 4 rfl
        have c5 := kx5.cell 5 rfl
        have c6 := kx5.cell 6 rfl
        have c7 := kx5.cell 7 rfl
        have c8 := kx5.cell 8 rfl
        have c9 := kx5.cell 9 rfl
        have c10 := kx5.cell 10 rfl
        have m0 := km5.cell 0 rfl
        have m1 := km5.cell 1 rfl
        have p0 := kq5.cell 0 rfl
        have p1 := kq5.cell 1 rfl
        clear hm5 hp5 hv5 hx5
        go_wp2_with fail
        refine (rnwork_stale dim a n c ls ep pa pn pc h me ax k cx l x0 x1 x2 x3 x4 x5 x6 x7 x8 x9 xa xn xc v u5 HRI.out HF.out HD.out).mono ?_
        rintro e u6 ⟨hb6, rfl⟩
        -- behind the document's answer (world u6, the message #[.int .i64 3, .int .i64 me, .int .i64 x1, .int .i64 x3, .int .i64 x4, .int .i64 x5, .int .i64 x6, .int .i64 x7, .int .i64 x8, .int .i64 ep, .slice none 0 0]): both are compared
        have hb7 := bel_then hb6 (new_bel u6 (.cells #[.int .i64 3, .int .i64 me, .int .i64 x1, .int .i64 x3, .int .i64 x4, .int .i64 x5, .int .i64 x6, .int .i64 x7, .int .i64 x8, .int .i64 ep, .slice none 0 0] 31))
        have kb7 := kb5.keep hb7
        have hB7 := bel_then hB5 hb7
        have kw7 := Box.new u6 31 #[.int .i64 3, .int .i64 me, .int .i64 x1, .int .i64 x3, .int .i64 x4, .int .i64 x5, .int .i64 x6, .int .i64 x7, .int .i64 x8, .int .i64 ep, .slice none 0 0]
        have kx7 := kx5.keep hb7
        clear c0 c1 c2 c3 c4 c5 c6 c7 c8 c9 c10 m0 m1 p0 p1 km5 kq5 kb5 kx5 hB5
        go_upto_region 19 with fail
        generalize World.alloc u6 _ = V7 at *
        have b0 := kb7.cell 0 rfl
        have b1 := kb7.cell 1 rfl
        have b2 := kb7.cell 2 rfl
        have b3 := kb7.cell 3 rfl
        have b4 := kb7.cell 4 rfl
        have b5 := kb7.cell 5 rfl
        have b6 := kb7.cell 6 rfl
        have b7 := kb7.cell 7 rfl
        have b8 := kb7.cell 8 rfl
        have b9 := kb7.cell 9 rfl
        have b10 := kb7.cell 10 rfl
        have d0 := kw7.cell 0 rfl
        have d1 := kw7.cell 1 rfl
        have d2 := kw7.cell 2 rfl
        have d3 := kw7.cell 3 rfl
        have d4 := kw7.cell 4 rfl
        have d5 := kw7.cell 5 rfl
        have d6 := kw7.cell 6 rfl
        have d7 := kw7.cell 7 rfl
        have d8 := kw7.cell 8 rfl
        have d9 := kw7.cell 9 rfl
        have d10 := kw7.cell 10 rfl
        go_wp2_with fail
        refine (rsame 3 me x1 x3 x4 x5 x6 x7 x8 ep none 0 0 [] 3 me x1 x3 x4 x5 x6 x7 x8 ep none 0 0 [] V7 (rep_none _ _ _) (rep_none _ _ _) (by omega) (by omega)).mono ?_
        rintro e u8 ⟨hs8, hb8⟩
        rw [hs8.is HMM.out]
        have hB8 := bel_then hB7 hb8
        clear b0 b1 b2 b3 b4 b5 b6 b7 b8 b9 b10 d0 d1 d2 d3 d4 d5 d6 d7 d8 d9 d10 kb7 kw7 hB7 hs8 hb8
        go_wp2_with fail
        refine (nawake _).mono ?_
        rintro e u9 ⟨rfl, hb9⟩
        go_wp2
        go_ret
        exact ⟨rfl, bel_then hB8 hb9⟩
      have HD : Hid (Nd.Held ep h me ⟨x0, x1, x2, x3, x4, x5, x6, x7, x8, x9, v⟩) := hh
      clear hh
      cases hg : Nd.got l (Nd.keyOf ⟨x0, x1, x2, x3, x4, x5, x6, x7, x8, x9, v⟩) with
      | some y =>
        obtain ⟨yn, hyn⟩ : ∃ yn, y.length = yn := ⟨_, rfl⟩
        have hyn9 : yn ≤ 1000 := by
          obtain ⟨x9', hx9, _, hy9⟩ := Nd.got_mem hg
          have := HSH.out.2 x9' hx9
          rw [hy9] at this
          omega
        have HG : Hid (Nd.got l (Nd.keyOf ⟨x0, x1, x2, x3, x4, x5, x6, x7, x8, x9, v⟩) = some y ∧ y.length = yn) := ⟨hg, hyn⟩
        have HMM : Hid (Alike ⟨2, me, x1, x3, x4, x5, x6, x7, x8, ep, y⟩ ⟨2, me, x1, x3, x4, x5, x6, x7, x8, ep, y⟩) := rfl
        clear hg hyn
        go_wp2_with fail
        refine (nwork_held (P := (· < wr.heap.size)) dim a n c ls ep pa pn pc h me la k lc l x0 x1 x2 x3 x4 x5 x6 x7 x8 x9 xa xn xc v wr HWI.out HF.out HD.out l y (.inl ⟨HG.out.1, rfl⟩) k HL.out yn HG.out.2).mono ?_
        rintro e u3 ⟨hb3, al, cl, ya, yc, rfl, hr3, hy3⟩
        clear hr3
        -- behind node.Work's answer (world u3, the message #[.int .i64 2, .int .i64 me, .int .i64 x1, .int .i64 x3, .int .i64 x4, .int .i64 x5, .int .i64 x6, .int .i64 x7, .int .i64 x8, .int .i64 ep, .slice ya yn yc]): its variable, the document's map, Fits
        have hbb := bel_then (bel_then hb3 (new_bel u3 (.cells #[.int .i64 2, .int .i64 me, .int .i64 x1, .int .i64 x3, .int .i64 x4, .int .i64 x5, .int .i64 x6, .int .i64 x7, .int .i64 x8, .int .i64 ep, .slice ya yn yc] 31))) (new_bel (u3.alloc (.cells #[.int .i64 2, .int .i64 me, .int .i64 x1, .int .i64 x3, .int .i64 x4, .int .i64 x5, .int .i64 x6, .int .i64 x7, .int .i64 x8, .int .i64 ep, .slice ya yn yc] 31)) (.cells #[.int .i64 ep, .slice pa pn pc] 45))
        have hbb2 := bel_two u3 (.cells #[.int .i64 2, .int .i64 me, .int .i64 x1, .int .i64 x3, .int .i64 x4, .int .i64 x5, .int .i64 x6, .int .i64 x7, .int .i64 x8, .int .i64 ep, .slice ya yn yc] 31) (.cells #[.int .i64 ep, .slice pa pn pc] 45)
        have km4 := km3.keep hbb
        have kp4 := kp3.keep hb3
        have kx4 := kx3.keep hbb
        have hm4 := Shape.below hm3 hbb
        have hp4 := Shape.below hp3 hbb
        have hv4 := Shape.below hv3 hbb
        have hx4 := Shape.below hrx hbb
        have hB4 := bel_then hB3 hbb
        have kb4 := (Box.new u3 31 #[.int .i64 2, .int .i64 me, .int .i64 x1, .int .i64 x3, .int .i64 x4, .int .i64 x5, .int .i64 x6, .int .i64 x7, .int .i64 x8, .int .i64 ep, .slice ya yn yc]).keep (new_bel (u3.alloc (.cells #[.int .i64 2, .int .i64 me, .int .i64 x1, .int .i64 x3, .int .i64 x4, .int .i64 x5, .int .i64 x6, .int .i64 x7, .int .i64 x8, .int .i64 ep, .slice ya yn yc] 31)) (.cells #[.int .i64 ep, .slice pa pn pc] 45))
        have kq4 := Box.new (u3.alloc (.cells #[.int .i64 2, .int .i64 me, .int .i64 x1, .int .i64 x3, .int .i64 x4, .int .i64 x5, .int .i64 x6, .int .i64 x7, .int .i64 x8, .int .i64 ep, .slice ya yn yc] 31)) 45 #[.int .i64 ep, .slice pa pn pc]
        have hsq : (u3.alloc (.cells #[.int .i64 2, .int .i64 me, .int .i64 x1, .int .i64 x3, .int .i64 x4, .int .i64 x5, .int .i64 x6, .int .i64 x7, .int .i64 x8, .int .i64 ep, .slice ya yn yc] 31)).heap.size = u3.heap.size + 1 := by simp
        rw [hsq] at kq4
        have kp5 := kp4.keep (new_bel u3 (.cells #[.int .i64 2, .int .i64 me, .int .i64 x1, .int .i64 x3, .int .i64 x4, .int .i64 x5, .int .i64 x6, .int .i64 x7, .int .i64 x8, .int .i64 ep, .slice ya yn yc] 31))
        clear hsq c0 c1 c2 c3 c4 c5 c6 c7 c8 c9 c10 m0 m1 p0 p1 km3 kp3 kx3 hm3 hp3 hv3 hrx hB3 hb3 hbb
        have p0 := kp5.cell 0 rfl
        have p1 := kp5.cell 1 rfl
        go_upto_region 13 with fail
        clear p0 p1 kp5 kp4
        generalize World.alloc (World.alloc u3 _) _ = V at *
        have HFI : Hid (Calls _ _ _ _ _) := rnfits dim a n c ls ep pa pn pc h me x0 x1 x2 x3 x4 x5 x6 x7 x8 x9 xa xn xc v V hm4 hn9 (fun l hl => Md.small_lsized (HS.out.2 l hl)) hp4 (Ex.small_sized HT.out) hv4 (by omega)
        have c0 := kx4.cell 0 rfl
        have c1 := kx4.cell 1 rfl
        have c2 := kx4.cell 2 rfl
        have c3 := kx4.cell 3 rfl
        have c4 := kx4.cell 4 rfl
        have c5 := kx4.cell 5 rfl
        have c6 := kx4.cell 6 rfl
        have c7 := kx4.cell 7 rfl
        have c8 := kx4.cell 8 rfl
        have c9 := kx4.cell 9 rfl
        have c10 := kx4.cell 10 rfl
        have m0 := km4.cell 0 rfl
        have m1 := km4.cell 1 rfl
        have p0 := kq4.cell 0 rfl
        have p1 := kq4.cell 1 rfl
        go_wp2_with fail
        refine HFI.out.mono ?_
        rintro e u5 ⟨hs5, hb5⟩
        have hB5 := bel_then hB4 hb5
        have kb5 := kb4.keep hb5
        clear HFI
        have hy5 := Shape.below (Shape.below hy3 hbb2) hb5
        clear hy3 hbb2
        -- the document's Work is asked (world u5)
        rw [hs5.is HF.out]
        have km5 := km4.keep hb5
        have kx5 := kx4.keep hb5
        have kq5 := kq4.keep hb5
        have hm5 := Shape.below hm4 hb5
        have hp5 := Shape.below hp4 hb5
        have hv5 := Shape.below hv4 hb5
        have hx5 := Shape.below hx4 hb5
        clear hs5 c0 c1 c2 c3 c4 c5 c6 c7 c8 c9 c10 m0 m1 p0 p1 km4 kx4 kq4 kb4 hm4 hp4 hv4 hx4 hB4 hb5
        have HRI : Hid (RWorkIn u5 a n c ls pa pn pc h ax k cx l xa xn xc v) := ⟨hm5, fun l hl => Md.small_lsized (HS.out.2 l hl), hp5, Ex.small_sized HT.out, hx5, HSH.out, hv5, by omega⟩
        have c0 := kx5.cell 0 rfl
        have c1 := kx5.cell 1 rfl
        have c2 := kx5.cell 2 rfl
        have c3 := kx5.cell 3 rfl
        have c4 := kx5.cell 4 rfl
        have c5 := kx5.cell 5 rfl
        have c6 := kx5.cell 6 rfl
        have c7 := kx5.cell 7 rfl
        have c8 := kx5.cell 8 rfl
        have c9 := kx5.cell 9 rfl
        have c10 := kx5.cell 10 rfl
        have m0 := km5.cell 0 rfl
        have m1 := km5.cell 1 rfl
        have p0 := kq5.cell 0 rfl
        have p1 := kq5.cell 1 rfl
        clear hm5 hp5 hv5 hx5
        go_wp2_with fail
        refine (rnwork_old dim a n c ls ep pa pn pc h me ax k cx l x0 x1 x2 x3 x4 x5 x6 x7 x8 x9 xa xn xc v u5 HRI.out HF.out HD.out y HG.out.1 yn HG.out.2).mono ?_
        rintro e u6 ⟨hb6, za, zc, rfl, hz6⟩
        -- behind the document's answer (world u6, the message #[.int .i64 2, .int .i64 me, .int .i64 x1, .int .i64 x3, .int .i64 x4, .int .i64 x5, .int .i64 x6, .int .i64 x7, .int .i64 x8, .int .i64 ep, .slice za yn zc]): both are compared
        have hb7 := bel_then hb6 (new_bel u6 (.cells #[.int .i64 2, .int .i64 me, .int .i64 x1, .int .i64 x3, .int .i64 x4, .int .i64 x5, .int .i64 x6, .int .i64 x7, .int .i64 x8, .int .i64 ep, .slice za yn zc] 31))
        have kb7 := kb5.keep hb7
        have hB7 := bel_then hB5 hb7
        have kw7 := Box.new u6 31 #[.int .i64 2, .int .i64 me, .int .i64 x1, .int .i64 x3, .int .i64 x4, .int .i64 x5, .int .i64 x6, .int .i64 x7, .int .i64 x8, .int .i64 ep, .slice za yn zc]
        have kx7 := kx5.keep hb7
        clear c0 c1 c2 c3 c4 c5 c6 c7 c8 c9 c10 m0 m1 p0 p1 km5 kq5 kb5 kx5 hB5
        have hy7 := Shape.any (Shape.below hy5 hb7)
        have hz7 := Shape.any (Shape.below hz6 (new_bel u6 (.cells #[.int .i64 2, .int .i64 me, .int .i64 x1, .int .i64 x3, .int .i64 x4, .int .i64 x5, .int .i64 x6, .int .i64 x7, .int .i64 x8, .int .i64 ep, .slice za yn zc] 31)))
        clear hy5 hz6 hb6 hb7
        go_upto_region 19 with fail
        generalize World.alloc u6 _ = V7 at *
        have b0 := kb7.cell 0 rfl
        have b1 := kb7.cell 1 rfl
        have b2 := kb7.cell 2 rfl
        have b3 := kb7.cell 3 rfl
        have b4 := kb7.cell 4 rfl
        have b5 := kb7.cell 5 rfl
        have b6 := kb7.cell 6 rfl
        have b7 := kb7.cell 7 rfl
        have b8 := kb7.cell 8 rfl
        have b9 := kb7.cell 9 rfl
        have b10 := kb7.cell 10 rfl
        have d0 := kw7.cell 0 rfl
        have d1 := kw7.cell 1 rfl
        have d2 := kw7.cell 2 rfl
        have d3 := kw7.cell 3 rfl
        have d4 := kw7.cell 4 rfl
        have d5 := kw7.cell 5 rfl
        have d6 := kw7.cell 6 rfl
        have d7 := kw7.cell 7 rfl
        have d8 := kw7.cell 8 rfl
        have d9 := kw7.cell 9 rfl
        have d10 := kw7.cell 10 rfl
        go_wp2_with fail
        refine (rsame 2 me x1 x3 x4 x5 x6 x7 x8 ep ya yn yc y 2 me x1 x3 x4 x5 x6 x7 x8 ep za yn zc y V7 hy7 hz7 (by omega) (by omega)).mono ?_
        rintro e u8 ⟨hs8, hb8⟩
        rw [hs8.is HMM.out]
        have hB8 := bel_then hB7 hb8
        clear b0 b1 b2 b3 b4 b5 b6 b7 b8 b9 b10 d0 d1 d2 d3 d4 d5 d6 d7 d8 d9 d10 kb7 kw7 hB7 hs8 hb8 hy7 hz7
        go_wp2_with fail
        refine (nawake _).mono ?_
        rintro e u9 ⟨rfl, hb9⟩
        go_wp2
        go_ret
        exact ⟨rfl, bel_then hB8 hb9⟩
      | none =>
        obtain ⟨y, hy⟩ : ∃ y, Md.ans (Nd.lyOf ls ⟨x0, x1, x2, x3, x4, x5, x6, x7, x8, x9, v⟩) v x8 = y := ⟨_, rfl⟩
        obtain ⟨L, hLe⟩ : ∃ L, l ++ [en (ky x4 x5 x6 x7) y] = L := ⟨_, rfl⟩
        obtain ⟨m, hmk⟩ : ∃ m, k + 1 = m := ⟨_, rfl⟩
        have hyl : y.length = xn := by
          rw [← hy, Md.ans_len HF.out.layer.2 HF.out.vec.1 HF.out.low.2.1 HF.out.2.2.2.2.2.2.1, (sliceS_len hv3).1]
        have HG : Hid (Nd.got l (Nd.keyOf ⟨x0, x1, x2, x3, x4, x5, x6, x7, x8, x9, v⟩) = none ∧ y.length = xn ∧ Md.ans (Nd.lyOf ls ⟨x0, x1, x2, x3, x4, x5, x6, x7, x8, x9, v⟩) v x8 = y) := ⟨hg, hyl, hy⟩
        have HLL2 : Hid (l ++ [en (ky x4 x5 x6 x7) y] = L ∧ L.length = m ∧ L.getD k en0 = en (ky x4 x5 x6 x7) y) := by
          refine ⟨hLe, ?_, ?_⟩
          · rw [← hLe, List.length_append, HL.out]; exact hmk
          · rw [← hLe, ← HL.out]; exact Dx.getD_new _ _
        have HMM : Hid (Alike ⟨2, me, x1, x3, x4, x5, x6, x7, x8, ep, y⟩ ⟨2, me, x1, x3, x4, x5, x6, x7, x8, ep, y⟩) := rfl
        have HWK : Hid (Nd.Works l (Nd.keyOf ⟨x0, x1, x2, x3, x4, x5, x6, x7, x8, x9, v⟩) (Md.ans (Nd.lyOf ls ⟨x0, x1, x2, x3, x4, x5, x6, x7, x8, x9, v⟩) v x8) L y) := .inr ⟨hg, hy.symm, hLe.symm⟩
        have hkm : k < m := by omega
        have hkmi : (k : Int) < (m : Int) := by omega
        have hk0 : (0 : Int) ≤ (k : Int) := by omega
        have qm : ((m : Int) != (k : Int) + 1) = false := by rw [bne_eq_false_iff_eq]; omega
        clear hg hy hLe hmk hyl
        go_wp2_with fail
        refine (nwork_held (P := (· < wr.heap.size)) dim a n c ls ep pa pn pc h me la k lc l x0 x1 x2 x3 x4 x5 x6 x7 x8 x9 xa xn xc v wr HWI.out HF.out HD.out L y HWK.out m HLL2.out.2.1 xn HG.out.2.1).mono ?_
        rintro e u3 ⟨hb3, al, cl, ya, yc, rfl, hr3, hy3⟩
        -- behind node.Work's answer (world u3, the message #[.int .i64 2, .int .i64 me, .int .i64 x1, .int .i64 x3, .int .i64 x4, .int .i64 x5, .int .i64 x6, .int .i64 x7, .int .i64 x8, .int .i64 ep, .slice ya xn yc]): its variable, the document's map, Fits
        have hbb := bel_then (bel_then hb3 (new_bel u3 (.cells #[.int .i64 2, .int .i64 me, .int .i64 x1, .int .i64 x3, .int .i64 x4, .int .i64 x5, .int .i64 x6, .int .i64 x7, .int .i64 x8, .int .i64 ep, .slice ya xn yc] 31))) (new_bel (u3.alloc (.cells #[.int .i64 2, .int .i64 me, .int .i64 x1, .int .i64 x3, .int .i64 x4, .int .i64 x5, .int .i64 x6, .int .i64 x7, .int .i64 x8, .int .i64 ep, .slice ya xn yc] 31)) (.cells #[.int .i64 ep, .slice pa pn pc] 45))
        have hbb2 := bel_two u3 (.cells #[.int .i64 2, .int .i64 me, .int .i64 x1, .int .i64 x3, .int .i64 x4, .int .i64 x5, .int .i64 x6, .int .i64 x7, .int .i64 x8, .int .i64 ep, .slice ya xn yc] 31) (.cells #[.int .i64 ep, .slice pa pn pc] 45)
        have km4 := km3.keep hbb
        have kp4 := kp3.keep hb3
        have kx4 := kx3.keep hbb
        have hm4 := Shape.below hm3 hbb
        have hp4 := Shape.below hp3 hbb
        have hv4 := Shape.below hv3 hbb
        have hx4 := Shape.below hrx hbb
        have hB4 := bel_then hB3 hbb
        have kb4 := (Box.new u3 31 #[.int .i64 2, .int .i64 me, .int .i64 x1, .int .i64 x3, .int .i64 x4, .int .i64 x5, .int .i64 x6, .int .i64 x7, .int .i64 x8, .int .i64 ep, .slice ya xn yc]).keep (new_bel (u3.alloc (.cells #[.int .i64 2, .int .i64 me, .int .i64 x1, .int .i64 x3, .int .i64 x4, .int .i64 x5, .int .i64 x6, .int .i64 x7, .int .i64 x8, .int .i64 ep, .slice ya xn yc] 31)) (.cells #[.int .i64 ep, .slice pa pn pc] 45))
        have kq4 := Box.new (u3.alloc (.cells #[.int .i64 2, .int .i64 me, .int .i64 x1, .int .i64 x3, .int .i64 x4, .int .i64 x5, .int .i64 x6, .int .i64 x7, .int .i64 x8, .int .i64 ep, .slice ya xn yc] 31)) 45 #[.int .i64 ep, .slice pa pn pc]
        have hsq : (u3.alloc (.cells #[.int .i64 2, .int .i64 me, .int .i64 x1, .int .i64 x3, .int .i64 x4, .int .i64 x5, .int .i64 x6, .int .i64 x7, .int .i64 x8, .int .i64 ep, .slice ya xn yc] 31)).heap.size = u3.heap.size + 1 := by simp
        rw [hsq] at kq4
        have kp5 := kp4.keep (new_bel u3 (.cells #[.int .i64 2, .int .i64 me, .int .i64 x1, .int .i64 x3, .int .i64 x4, .int .i64 x5, .int .i64 x6, .int .i64 x7, .int .i64 x8, .int .i64 ep, .slice ya xn yc] 31))
        clear hsq c0 c1 c2 c3 c4 c5 c6 c7 c8 c9 c10 m0 m1 p0 p1 km3 kp3 kx3 hm3 hp3 hv3 hrx hB3 hb3 hbb
        have p0 := kp5.cell 0 rfl
        have p1 := kp5.cell 1 rfl
        go_upto_region 13 with fail
        clear p0 p1 kp5 kp4
        generalize World.alloc (World.alloc u3 _) _ = V at *
        have HFI : Hid (Calls _ _ _ _ _) := rnfits dim a n c ls ep pa pn pc h me x0 x1 x2 x3 x4 x5 x6 x7 x8 x9 xa xn xc v V hm4 hn9 (fun l hl => Md.small_lsized (HS.out.2 l hl)) hp4 (Ex.small_sized HT.out) hv4 (by omega)
        have c0 := kx4.cell 0 rfl
        have c1 := kx4.cell 1 rfl
        have c2 := kx4.cell 2 rfl
        have c3 := kx4.cell 3 rfl
        have c4 := kx4.cell 4 rfl
        have c5 := kx4.cell 5 rfl
        have c6 := kx4.cell 6 rfl
        have c7 := kx4.cell 7 rfl
        have c8 := kx4.cell 8 rfl
        have c9 := kx4.cell 9 rfl
        have c10 := kx4.cell 10 rfl
        have m0 := km4.cell 0 rfl
        have m1 := km4.cell 1 rfl
        have p0 := kq4.cell 0 rfl
        have p1 := kq4.cell 1 rfl
        go_wp2_with fail
        refine HFI.out.mono ?_
        rintro e u5 ⟨hs5, hb5⟩
        have hB5 := bel_then hB4 hb5
        have kb5 := kb4.keep hb5
        clear HFI
        have hy5 := Shape.below (Shape.below hy3 hbb2) hb5
        have hr5 := Shape.below (Shape.below hr3 hbb2) hb5
        clear hy3 hr3 hbb2
        -- the document's Work is asked (world u5)
        rw [hs5.is HF.out]
        have km5 := km4.keep hb5
        have kx5 := kx4.keep hb5
        have kq5 := kq4.keep hb5
        have hm5 := Shape.below hm4 hb5
        have hp5 := Shape.below hp4 hb5
        have hv5 := Shape.below hv4 hb5
        have hx5 := Shape.below hx4 hb5
        clear hs5 c0 c1 c2 c3 c4 c5 c6 c7 c8 c9 c10 m0 m1 p0 p1 km4 kx4 kq4 kb4 hm4 hp4 hv4 hx4 hB4 hb5
        have HRI : Hid (RWorkIn u5 a n c ls pa pn pc h ax k cx l xa xn xc v) := ⟨hm5, fun l hl => Md.small_lsized (HS.out.2 l hl), hp5, Ex.small_sized HT.out, hx5, HSH.out, hv5, by omega⟩
        have c0 := kx5.cell 0 rfl
        have c1 := kx5.cell 1 rfl
        have c2 := kx5.cell 2 rfl
        have c3 := kx5.cell 3 rfl
        have c4 := kx5.cell 4 rfl
        have c5 := kx5.cell 5 rfl
        have c6 := kx5.cell 6 rfl
        have c7 := kx5.cell 7 rfl
        have c8 := kx5.cell 8 rfl
        have c9 := kx5.cell 9 rfl
        have c10 := kx5.cell 10 rfl
        have m0 := km5.cell 0 rfl
        have m1 := km5.cell 1 rfl
        have p0 := kq5.cell 0 rfl
        have p1 := kq5.cell 1 rfl
        clear hm5 hp5 hv5 hx5
        go_wp2_with fail
        refine (rnwork_new dim a n c ls ep pa pn pc h me ax k cx l x0 x1 x2 x3 x4 x5 x6 x7 x8 x9 xa xn xc v u5 HRI.out HF.out HD.out HG.out.1 y HG.out.2.2).mono ?_
        rintro e u6 ⟨hb6, za, zc, rfl, hz6⟩
        -- behind the document's answer (world u6, the message #[.int .i64 2, .int .i64 me, .int .i64 x1, .int .i64 x3, .int .i64 x4, .int .i64 x5, .int .i64 x6, .int .i64 x7, .int .i64 x8, .int .i64 ep, .slice za xn zc]): both are compared
        have hb7 := bel_then hb6 (new_bel u6 (.cells #[.int .i64 2, .int .i64 me, .int .i64 x1, .int .i64 x3, .int .i64 x4, .int .i64 x5, .int .i64 x6, .int .i64 x7, .int .i64 x8, .int .i64 ep, .slice za xn zc] 31))
        have kb7 := kb5.keep hb7
        have hB7 := bel_then hB5 hb7
        have kw7 := Box.new u6 31 #[.int .i64 2, .int .i64 me, .int .i64 x1, .int .i64 x3, .int .i64 x4, .int .i64 x5, .int .i64 x6, .int .i64 x7, .int .i64 x8, .int .i64 ep, .slice za xn zc]
        have kx7 := kx5.keep hb7
        clear c0 c1 c2 c3 c4 c5 c6 c7 c8 c9 c10 m0 m1 p0 p1 km5 kq5 kb5 kx5 hB5
        have hy7 := Shape.any (Shape.below hy5 hb7)
        have hr7 := Shape.any (Shape.below hr5 hb7)
        have hz7 := Shape.any (Shape.below hz6 (new_bel u6 (.cells #[.int .i64 2, .int .i64 me, .int .i64 x1, .int .i64 x3, .int .i64 x4, .int .i64 x5, .int .i64 x6, .int .i64 x7, .int .i64 x8, .int .i64 ep, .slice za xn zc] 31)))
        clear hy5 hr5 hz6 hb6 hb7
        go_upto_region 19 with fail
        generalize World.alloc u6 _ = V7 at *
        generalize u6.heap.size = gw at *
        have b0 := kb7.cell 0 rfl
        have b1 := kb7.cell 1 rfl
        have b2 := kb7.cell 2 rfl
        have b3 := kb7.cell 3 rfl
        have b4 := kb7.cell 4 rfl
        have b5 := kb7.cell 5 rfl
        have b6 := kb7.cell 6 rfl
        have b7 := kb7.cell 7 rfl
        have b8 := kb7.cell 8 rfl
        have b9 := kb7.cell 9 rfl
        have b10 := kb7.cell 10 rfl
        have d0 := kw7.cell 0 rfl
        have d1 := kw7.cell 1 rfl
        have d2 := kw7.cell 2 rfl
        have d3 := kw7.cell 3 rfl
        have d4 := kw7.cell 4 rfl
        have d5 := kw7.cell 5 rfl
        have d6 := kw7.cell 6 rfl
        have d7 := kw7.cell 7 rfl
        have d8 := kw7.cell 8 rfl
        have d9 := kw7.cell 9 rfl
        have d10 := kw7.cell 10 rfl
        go_wp2_with fail
        refine (rsame 2 me x1 x3 x4 x5 x6 x7 x8 ep ya xn yc y 2 me x1 x3 x4 x5 x6 x7 x8 ep za xn zc y V7 hy7 hz7 (by omega) (by omega)).mono ?_
        rintro e u8 ⟨hs8, hb8⟩
        rw [hs8.is HMM.out]
        have hB8 := bel_then hB7 hb8
        have kx8 := kx7.keep hb8
        have hr8 := Shape.below hr7 hb8
        have hy8 := Shape.below hy7 hb8
        have hz8 := Shape.below hz7 hb8
        have kw8 := kw7.keep hb8
        obtain ⟨eb, eo, p, q, r, s, v9, nv, A, C, rfl, _, _, hE, hnv, hrow, e0, e1, e2, e3, e4⟩ := en_at hr8 hkm
        obtain ⟨rfl, rfl, rfl, rfl, rfl⟩ := en_inj (HLL2.out.2.2.symm.trans hE)
        have hnn : nv = xn := by rw [← hnv, HG.out.2.1]
        subst hnn
        clear b0 b1 b2 b3 b4 b5 b6 b7 b8 b9 b10 d0 d1 d2 d3 d4 d5 d6 d7 d8 d9 d10 kb7 kw7 hB7 hs8 hb8 hy7 hz7 hr7 hr8 hy8 kx7 hE hnv
        have hbn := new_bel u8 (.cells #[.int .i64 x4, .int .i64 x5, .int .i64 x6, .int .i64 x7, .slice A nv C] 39)
        have kE := Box.new u8 39 #[.int .i64 x4, .int .i64 x5, .int .i64 x6, .int .i64 x7, .slice A nv C]
        have kw9 := kw8.keep hbn
        have kx9 := kx8.keep hbn
        have hz9 := Shape.below hz8 hbn
        have hrow9 := Shape.any (Shape.below hrow hbn)
        have hB9 := bel_then hB8 hbn
        clear hB8 kw8 kx8 hz8 hrow hbn
        go_upto_region 23 with fail
        clear e0 e1 e2 e3 e4
        generalize World.alloc u8 _ = W9 at *
        generalize u8.heap.size = ge at *
        have e0 := kE.cell 0 rfl
        have e1 := kE.cell 1 rfl
        have e2 := kE.cell 2 rfl
        have e3 := kE.cell 3 rfl
        have e4 := kE.cell 4 rfl
        have c4 := kx9.cell 4 rfl
        have c5 := kx9.cell 5 rfl
        have c6 := kx9.cell 6 rfl
        have c7 := kx9.cell 7 rfl
        have d10 := kw9.cell 10 rfl
        have q23 : ∀ w : World, (binOp .eql 37 (.agg #[.int .i64 x4, .int .i64 x5, .int .i64 x6, .int .i64 x7]) (.agg #[.int .i64 x4, .int .i64 x5, .int .i64 x6, .int .i64 x7])).run Try.prog w = .ok (.bool true) w := fun w => eqKey (b := true) (by simp) w
        go_wp2_with fail
        refine (same_true A za nv C zc y W9 (Row.of_rep hrow9) (Row.of_rep hz9) (by omega)).mono ?_
        rintro e u10 ⟨rfl, hb10⟩
        have hB10 := bel_then hB9 hb10
        clear e0 e1 e2 e3 e4 c4 c5 c6 c7 d10 kE kw9 kx9 hz9 hrow9 hB9 hb10 q23
        go_wp2_with fail
        refine (nawake _).mono ?_
        rintro e u9 ⟨rfl, hb9⟩
        go_wp2
        go_ret
        exact ⟨rfl, bel_then hB10 hb9⟩

end Go.Proofs.Ytgffeefipeblhaa
