/- What Commit of package move does when called. -/
import Derived.Test.YtpfhjdlmjehfnaaMvA
import Derived.Test.YtpfhjdlmjehfnaaPlcG
namespace Go.Proofs.Ytpfhjdlmjehfnaa
open Go.ChangeShapes Go.WideShapes Go.ChangeAt Go.RowKit


theorem boxes4 {w W : World} {c1 c2 c3 c4 : Array Value} {t1 t2 t3 t4 : TypeId} (hW : W = (((w.alloc (.cells c1 t1)).alloc (.cells c2 t2)).alloc (.cells c3 t3)).alloc (.cells c4 t4)) :
    Below w.heap.size w W ∧ Box W w.heap.size t1 c1 ∧ Box W (w.heap.size + 1) t2 c2 ∧ Box W (w.heap.size + 1 + 1) t3 c3 ∧ Box W (w.heap.size + 1 + 1 + 1) t4 c4 ∧ W.heap.size = w.heap.size + 4 := by
  subst hW
  have k1 := (((Box.new w t1 c1).keep (new_bel _ (.cells c2 t2))).keep (new_bel _ (.cells c3 t3))).keep (new_bel _ (.cells c4 t4))
  have k2 := ((Box.new (w.alloc (.cells c1 t1)) t2 c2).keep (new_bel _ (.cells c3 t3))).keep (new_bel _ (.cells c4 t4))
  have k3 := (Box.new ((w.alloc (.cells c1 t1)).alloc (.cells c2 t2)) t3 c3).keep (new_bel _ (.cells c4 t4))
  have k4 := Box.new (((w.alloc (.cells c1 t1)).alloc (.cells c2 t2)).alloc (.cells c3 t3)) t4 c4
  rw [show (w.alloc (.cells c1 t1)).heap.size = w.heap.size + 1 by simp] at k2
  rw [show ((w.alloc (.cells c1 t1)).alloc (.cells c2 t2)).heap.size = w.heap.size + 2 by simp] at k3
  rw [show (((w.alloc (.cells c1 t1)).alloc (.cells c2 t2)).alloc (.cells c3 t3)).heap.size = w.heap.size + 3 by simp] at k4
  exact ⟨bel_alloc (bel_alloc (bel_two _ _ _) _) _, k1, k2, k3, k4, by simp⟩
/-- A function whose results are two structs in variables, and one more. -/
theorem ret_cells {P : Program} {fn : Func} {R : Ending → World → Prop} {a : Act} {u : World} {b b2 : Nat} {t t2 : TypeId} {fs fs2 : Array Field} {cs cs2 : Array Value} {p q r : Tmp} {v3 : Value} {k k2 : Nat} (hu : P.underlying t = some (.struct fs)) (hi : (P.info? t).map (·.size) = some k)
    (hu2 : P.underlying t2 = some (.struct fs2)) (hi2 : (P.info? t2).map (·.size) = some k2)
    (hres : fn.results = #[.cell p t, .cell q t2, .tmp r]) (hd : a.defers = []) (hp : a.tmps.getD p undef = .pointer (some ⟨b, 0, none⟩)) (hq : a.tmps.getD q undef = .pointer (some ⟨b2, 0, none⟩)) (hr : a.tmps.getD r undef = v3) (hB : Box u b t cs) (hk : cs.size = k) (hB2 : Box u b2 t2 cs2) (hk2 : cs2.size = k2) (hR : R (.returned (.tuple #[.agg cs, .agg cs2, v3])) u) : bodyPost P fn R .ret a u := by
  have hld := run_loadVar_row (P := P) u b t t cs (0, 0) _ hB hu rfl (by rw [hi, hk])
  have hld2 := run_loadVar_row (P := P) u b2 t2 t2 cs2 (0, 0) _ hB2 hu2 rfl (by rw [hi2, hk2])
  refine bodyPost_ret (v := .tuple #[.agg cs, .agg cs2, v3]) ?_ hd hR
  have hp' : a.tmps[p]?.getD undef = .pointer (some ⟨b, 0, none⟩) := by simpa using hp
  have hq' : a.tmps[q]?.getD undef = .pointer (some ⟨b2, 0, none⟩) := by simpa using hq
  have hr' : a.tmps[r]?.getD undef = v3 := by simpa using hr
  simp only [results, hres]
  simp [asAddr, hp', hq', hr', hld, hld2]

set_option maxRecDepth 100000 in
set_option maxHeartbeats 4000000 in
theorem mcommit {F : Nat → Prop} (x f t p s : Int) (ha : Option Addr) (hn hc : Nat) (ga : Option Addr) (gn gc : Nat) (H : List Bool) (G : List ByteArray) (e : Int) (a : Option Addr) (n c : Nat) (m : List (List Int)) (P E X : Int) (M : List (List Int)) (w : World) (hH : bitsS.rep w everywhere [.slice ha hn hc] H) (hG : bagS.rep w everywhere [.slice ga gn gc] G) (hm : matS.rep w F [.slice a n c] m) (hn1 : hn ≤ 1000) (gn1 : gn ≤ 1000) (hs : Pl.Short m) (hC : Mq.Commit p e m x t P E M X) :
    Calls Try.prog 22 #[.agg #[.int .i64 x, .int .i64 f, .int .i64 t, .int .i64 p, .int .i64 s, .slice ha hn hc, .slice ga gn gc], .agg #[.int .i64 e, .slice a n c]] w fun r w' => Below w.heap.size w w' ∧ ∃ ha' hc' ga' gc' a' c', r = .returned (.tuple #[.agg #[.int .i64 x, .int .i64 f, .int .i64 t, .int .i64 P, .int .i64 s, .slice ha' hn hc', .slice ga' gn gc'], .agg #[.int .i64 E, .slice a' n c'], .int .i64 X]) ∧ bitsS.rep w' (w.heap.size ≤ ·) [.slice ha' hn hc'] H ∧ bagS.rep w' (w.heap.size ≤ ·) [.slice ga' gn gc'] G ∧ matS.rep w' (fun b => F b ∨ w.heap.size ≤ b) [.slice a' n c'] M := by
  have HHW : Hid (∀ u, Below w.heap.size w u → bitsS.rep u everywhere [.slice ha hn hc] H) := fun u hu => Shape.below hH hu
  have HGW : Hid (∀ u, Below w.heap.size w u → bagS.rep u everywhere [.slice ga gn gc] G) := fun u hu => Shape.below hG hu
  have HMA : Hid (∀ u, Below w.heap.size w u → matS.rep u (fun b => F b ∧ b < w.heap.size) [.slice a n c] m) := fun u hu => Shape.below (matS.mono hm fun b hb hlt => ⟨hb, hlt⟩) hu
  have HC := hidL hC
  have HS := hidL hs
  clear hH hG hm hC hs
  go_enter Try.func22, Try.ntmps22
  go_upto_region 1 with fail
  obtain ⟨W, hW⟩ : ∃ W, W = (((w.alloc (.cells #[.int .i64 x, .int .i64 f, .int .i64 t, .int .i64 p, .int .i64 s, .slice ha hn hc, .slice ga gn gc] 30)).alloc (.cells #[.int .i64 e, .slice a n c] 24)).alloc (.cells #[.int .i64 0, .int .i64 0, .int .i64 0, .int .i64 0, .int .i64 0, .slice none 0 0, .slice none 0 0] 30)).alloc (.cells #[.int .i64 0, .slice none 0 0] 24) := ⟨_, rfl⟩
  obtain ⟨hB, kp, kq, kr, km, hsz⟩ := boxes4 hW
  rw [← hW]
  clear hW
  have HC1 : Hid (Calls _ _ _ _ _) := mcopied x f t p s ha hn hc ga gn gc H G W (HHW.out _ hB) (HGW.out _ hB) hn1 gn1
  have c0 := kp.cell 0 rfl; have c1 := kp.cell 1 rfl; have c2 := kp.cell 2 rfl; have c3 := kp.cell 3 rfl; have c4 := kp.cell 4 rfl; have c5 := kp.cell 5 rfl; have c6 := kp.cell 6 rfl
  go_upto_region 2 with (go_at_call 35; refine HC1.out.mono ?_; rintro r u1 ⟨hb1, ha2, hc2, ga2, gc2, N, rfl, ho1, ho2, hN, hlt⟩)
  have hbn := new_bel u1 (.cells #[.int .i64 x, .int .i64 f, .int .i64 t, .int .i64 p, .int .i64 s, .slice ha2 hn hc2, .slice ga2 gn gc2] 30)
  have kp2 := (kp.keep hb1).keep hbn
  have kq2 := (kq.keep hb1).keep hbn
  have kr2 := (kr.keep hb1).keep hbn
  have km2 := (km.keep hb1).keep hbn
  have kn2 := Box.new u1 30 #[.int .i64 x, .int .i64 f, .int .i64 t, .int .i64 p, .int .i64 s, .slice ha2 hn hc2, .slice ga2 gn gc2]
  have hB2 := bel_then (bel_then hB hb1) hbn
  have hs1 := hb1.size
  have hl1 := fun b hb => (ho1.lt b hb).2
  have hl2 := fun b hb => (ho2.lt b hb).2
  have hr1 : bitsS.rep _ (fun b => w.heap.size + 4 ≤ b ∧ b < u1.heap.size) _ _ := Shape.below (bitsS.mono (ho1.top plain_bool) fun b hb hlt => ⟨by rw [hsz] at hb; exact hb, hlt⟩) hbn
  have hr2 : bagS.rep _ (fun b => w.heap.size + 4 ≤ b ∧ b < u1.heap.size) _ _ := Shape.below (bagS.mono (ho2.top plain_str) fun b hb hlt => ⟨by rw [hsz] at hN; exact Nat.le_trans hN hb, hlt⟩) hbn
  rw [hsz] at hs1
  clear c0 c1 c2 c3 c4 c5 c6 kp kq kr km hB hb1 hbn HC1 ho1 ho2 hl1 hl2 hlt hN hsz
  generalize u1.alloc (.cells #[.int .i64 x, .int .i64 f, .int .i64 t, .int .i64 p, .int .i64 s, .slice ha2 hn hc2, .slice ga2 gn gc2] 30) = W2 at *
  generalize u1.heap.size = K at *
  clear N u1 W
  have p3 := kp2.cell 3 rfl
  by_cases h2 : p = 2
  case neg =>
    have hpp : p = P ∧ e = E ∧ m = M ∧ 1 = X := by
      rcases HC.out with ⟨_, h⟩ | ⟨h, _⟩ | ⟨h, _⟩
      · exact h
      · exact absurd h h2
      · exact absurd h h2
    obtain ⟨rfl, rfl, rfl, rfl⟩ := hpp
    have q2 : (p != 2) = true := by rw [bne_iff_ne]; exact h2
    have HMC : Hid (∀ u, Below w.heap.size w u → Calls _ _ _ u _) := fun u hu => mmap e a n c m u (HMA.out u hu) HS.out
    clear h2 HC
    go_upto_region 3 with fail
    have c0 := kn2.cell 0 rfl; have c1 := kn2.cell 1 rfl; have c2 := kn2.cell 2 rfl; have c3 := kn2.cell 3 rfl; have c4 := kn2.cell 4 rfl; have c5 := kn2.cell 5 rfl; have c6 := kn2.cell 6 rfl
    have q0 := kq2.cell 0 rfl; have q1 := kq2.cell 1 rfl
    have d0 := kr2.cell 0 rfl; have d1 := kr2.cell 1 rfl; have d2 := kr2.cell 2 rfl; have d3 := kr2.cell 3 rfl; have d4 := kr2.cell 4 rfl; have d5 := kr2.cell 5 rfl; have d6 := kr2.cell 6 rfl
    have f0 := kr2.free 0; have f1 := kr2.free 1; have f2 := kr2.free 2; have f3 := kr2.free 3; have f4 := kr2.free 4; have f5 := kr2.free 5; have f6 := kr2.free 6
    have m0 := km2.cell 0 rfl; have m1 := km2.cell 1 rfl
    have g0 := km2.free 0; have g1 := km2.free 1
    have hK := kn2.lt
    have hR := And.intro hr1 hr2
    clear p3
    go_region_with (go_at_call 38; refine (HMC.out _ hB2.drew).mono ?_; rintro r u3 ⟨hb3, a9, c9, rfl, hm3⟩; have q1 := kn2.draw.keep hb3; have q2 := kr2.draw.keep hb3; have q3 := km2.draw.keep hb3; have cc0 := q1.cell 0 rfl; have cc1 := q1.cell 1 rfl; have cc2 := q1.cell 2 rfl; have cc3 := q1.cell 3 rfl; have cc4 := q1.cell 4 rfl; have cc5 := q1.cell 5 rfl; have cc6 := q1.cell 6 rfl; have dd0 := q2.cell 0 rfl; have dd1 := q2.cell 1 rfl; have dd2 := q2.cell 2 rfl; have dd3 := q2.cell 3 rfl; have dd4 := q2.cell 4 rfl; have dd5 := q2.cell 5 rfl; have dd6 := q2.cell 6 rfl; have ff0 := q2.free 0; have ff1 := q2.free 1; have ff2 := q2.free 2; have ff3 := q2.free 3; have ff4 := q2.free 4; have ff5 := q2.free 5; have ff6 := q2.free 6; have mm0 := q3.cell 0 rfl; have mm1 := q3.cell 1 rfl; have gg0 := q3.free 0; have gg1 := q3.free 1)
    all_goals
      have RR := hidL (And.intro q2 (And.intro q3 (And.intro (bel_then hB2.drew hb3) (And.intro (Shape.below (rep_draw hR.1) hb3) (And.intro (Shape.below (rep_draw hR.2) hb3) (matS.mono hm3 (F' := fun b => (F b ∧ b < w.heap.size) ∨ w.heap.size + 4 ≤ b) fun b hb _ => hb.elim (fun h => .inl h) (fun h => .inr (by have h9 : W2.heap.size ≤ b := h; omega))))))))
      clear q1 q2 q3 hb3 hm3 hr1 hr2 hR cc0 cc1 cc2 cc3 cc4 cc5 cc6 dd0 dd1 dd2 dd3 dd4 dd5 dd6 ff0 ff1 ff2 ff3 ff4 ff5 ff6 mm0 mm1 gg0 gg1 c0 c1 c2 c3 c4 c5 c6 d0 d1 d2 d3 d4 d5 d6 f0 f1 f2 f3 f4 f5 f6 m0 m1 g0 g1 q0
      go_wp2
      first
      | (refine ret_cells Try.underlying30 Try.infoMove Try.underlying24 Try.infoMap rfl rfl rfl rfl rfl (((RR.out.1.all7 _ _ _ _ _ _ _).all2_other (by omega) _ _)) rfl (((RR.out.2.1.all7_other (by omega) _ _ _ _ _ _ _).all2 _ _)) rfl ?_
         exact ⟨ (bel_all2 (bel_all7 RR.out.2.2.1 (by omega) _ _ _ _ _ _ _) (by omega) _ _), _, _, _, _, _, _, rfl, bitsS.mono ( (Shape.all2 (rep_all7 RR.out.2.2.2.1 (fun b hb => by have := hb.1; omega) _ _ _ _ _ _ _) (fun b hb _ => by have := hb.1; omega) _ _)) (fun b hb _ => by have := hb.1; show w.heap.size ≤ b; omega), bagS.mono ( (Shape.all2 (rep_all7 RR.out.2.2.2.2.1 (fun b hb => by have := hb.1; omega) _ _ _ _ _ _ _) (fun b hb _ => by have := hb.1; omega) _ _)) (fun b hb _ => by have := hb.1; show w.heap.size ≤ b; omega), matS.mono ( (Shape.all2 (rep_all7 RR.out.2.2.2.2.2 (fun b hb => hb.elim (fun h => by have := h.2; omega) (fun h => by omega)) _ _ _ _ _ _ _) (fun b hb _ => hb.elim (fun h => by have := h.2; omega) (fun h => by omega)) _ _)) (fun b hb _ => hb.elim (fun h => .inl h.1) (fun h => .inr (by omega)))⟩)
      | (refine ret_cells Try.underlying30 Try.infoMove Try.underlying24 Try.infoMap rfl rfl rfl rfl rfl (((RR.out.1.all2_other (by omega) _ _).all7 _ _ _ _ _ _ _)) rfl (((RR.out.2.1.all2 _ _).all7_other (by omega) _ _ _ _ _ _ _)) rfl ?_
         exact ⟨ (bel_all7 (bel_all2 RR.out.2.2.1 (by omega) _ _) (by omega) _ _ _ _ _ _ _), _, _, _, _, _, _, rfl, bitsS.mono ( (rep_all7 (Shape.all2 RR.out.2.2.2.1 (fun b hb _ => by have := hb.1; omega) _ _) (fun b hb => by have := hb.1; omega) _ _ _ _ _ _ _)) (fun b hb _ => by have := hb.1; show w.heap.size ≤ b; omega), bagS.mono ( (rep_all7 (Shape.all2 RR.out.2.2.2.2.1 (fun b hb _ => by have := hb.1; omega) _ _) (fun b hb => by have := hb.1; omega) _ _ _ _ _ _ _)) (fun b hb _ => by have := hb.1; show w.heap.size ≤ b; omega), matS.mono ( (rep_all7 (Shape.all2 RR.out.2.2.2.2.2 (fun b hb _ => hb.elim (fun h => by have := h.2; omega) (fun h => by omega)) _ _) (fun b hb => hb.elim (fun h => by have := h.2; omega) (fun h => by omega)) _ _ _ _ _ _ _)) (fun b hb _ => hb.elim (fun h => .inl h.1) (fun h => .inr (by omega)))⟩)
  subst h2
  have hcc : ∃ v : Int, Pl.Add e m x t E M X ∧ v = P ∧ ((X ≠ 0 ∧ v = 2) ∨ (X = 0 ∧ v = 3)) := by
    rcases HC.out with ⟨h, _⟩ | ⟨_, h1, h2, h3⟩ | ⟨_, h1, h2, h3⟩
    · exact absurd rfl h
    · exact ⟨2, h1, h3, .inl ⟨h2, rfl⟩⟩
    · exact ⟨3, h1, h3, .inr ⟨h2, rfl⟩⟩
  obtain ⟨v, hA, rfl, hv⟩ := hcc
  have HA : Hid (Calls _ _ _ _ _) := padd (fun b => F b ∧ b < w.heap.size) e a n c m x t W2 (HMA.out _ hB2) (fun b hb => by have := hb.2; have := kn2.lt; omega) HS.out E X M hA
  have HV := hidL hv
  clear hA hv HC
  have p0 := kp2.cell 0 rfl
  have p2 := kp2.cell 2 rfl
  have q0 := kq2.cell 0 rfl; have q1 := kq2.cell 1 rfl
  go_upto_region 5 with (go_at_call 24; refine HA.out.mono ?_; rintro r u3 ⟨hb3, a9, c9, rfl, hm3⟩)
  have hbn := new_bel u3 (.cells #[.int .i64 E, .slice a9 n c9] 24)
  have kn3 := (kn2.keep hb3).keep hbn
  have kr3 := (kr2.keep hb3).keep hbn
  have km3 := (km2.keep hb3).keep hbn
  have kb3 := Box.new u3 24 #[.int .i64 E, .slice a9 n c9]
  have hB3 := bel_then (bel_then hB2 hb3) hbn
  have hr3 := Shape.below (Shape.below hr1 hb3) hbn
  have hr4 := Shape.below (Shape.below hr2 hb3) hbn
  have hK2 := kn2.lt
  have hs3 := hb3.size
  have hm4 : matS.rep _ (fun b => (F b ∧ b < w.heap.size) ∨ W2.heap.size ≤ b) _ _ := matS.mono (Shape.below hm3 hbn) fun b hb _ => hb.elim (fun h => .inl h) (fun h => .inr (by omega))
  clear p0 p2 p3 q0 q1 kp2 kq2 kr2 km2 kn2 hb3 hbn hm3 hB2 hr1 hr2 HA
  generalize u3.alloc (.cells #[.int .i64 E, .slice a9 n c9] 24) = W3 at *
  generalize u3.heap.size = B at *
  rcases HV.out with ⟨hx, rfl⟩ | ⟨rfl, rfl⟩
  · have q5 : (X != 0) = true := by rw [bne_iff_ne]; exact hx
    have RR := hidL (And.intro kr3 (And.intro km3 (And.intro hB3 (And.intro hr3 (And.intro hr4 hm4)))))
    have c0 := kn3.cell 0 rfl; have c1 := kn3.cell 1 rfl; have c2 := kn3.cell 2 rfl; have c3 := kn3.cell 3 rfl; have c4 := kn3.cell 4 rfl; have c5 := kn3.cell 5 rfl; have c6 := kn3.cell 6 rfl
    have q0 := kb3.cell 0 rfl; have q1 := kb3.cell 1 rfl
    have d0 := kr3.cell 0 rfl; have d1 := kr3.cell 1 rfl; have d2 := kr3.cell 2 rfl; have d3 := kr3.cell 3 rfl; have d4 := kr3.cell 4 rfl; have d5 := kr3.cell 5 rfl; have d6 := kr3.cell 6 rfl
    have f0 := kr3.free 0; have f1 := kr3.free 1; have f2 := kr3.free 2; have f3 := kr3.free 3; have f4 := kr3.free 4; have f5 := kr3.free 5; have f6 := kr3.free 6
    have m0 := km3.cell 0 rfl; have m1 := km3.cell 1 rfl
    have g0 := km3.free 0; have g1 := km3.free 1
    clear hx HV kr3 km3 hB3 hr3 hr4 hm4
    go_upto_region 6 with fail
    go_region
    all_goals
      clear c0 c1 c2 c3 c4 c5 c6 q0 q1 d0 d1 d2 d3 d4 d5 d6 f0 f1 f2 f3 f4 f5 f6 m0 m1 g0 g1
      go_wp2
      first
      | (refine ret_cells Try.underlying30 Try.infoMove Try.underlying24 Try.infoMap rfl rfl rfl rfl rfl (((RR.out.1.all7 _ _ _ _ _ _ _).all2_other (by omega) _ _).draw) rfl (((RR.out.2.1.all7_other (by omega) _ _ _ _ _ _ _).all2 _ _).draw) rfl ?_
         exact ⟨Below.drew (bel_all2 (bel_all7 RR.out.2.2.1 (by omega) _ _ _ _ _ _ _) (by omega) _ _), _, _, _, _, _, _, rfl, bitsS.mono (rep_draw (Shape.all2 (rep_all7 RR.out.2.2.2.1 (fun b hb => by have := hb.1; omega) _ _ _ _ _ _ _) (fun b hb _ => by have := hb.1; omega) _ _)) (fun b hb _ => by have := hb.1; show w.heap.size ≤ b; omega), bagS.mono (rep_draw (Shape.all2 (rep_all7 RR.out.2.2.2.2.1 (fun b hb => by have := hb.1; omega) _ _ _ _ _ _ _) (fun b hb _ => by have := hb.1; omega) _ _)) (fun b hb _ => by have := hb.1; show w.heap.size ≤ b; omega), matS.mono (rep_draw (Shape.all2 (rep_all7 RR.out.2.2.2.2.2 (fun b hb => hb.elim (fun h => by have := h.2; omega) (fun h => by omega)) _ _ _ _ _ _ _) (fun b hb _ => hb.elim (fun h => by have := h.2; omega) (fun h => by omega)) _ _)) (fun b hb _ => hb.elim (fun h => .inl h.1) (fun h => .inr (by omega)))⟩)
      | (refine ret_cells Try.underlying30 Try.infoMove Try.underlying24 Try.infoMap rfl rfl rfl rfl rfl (((RR.out.1.all2_other (by omega) _ _).all7 _ _ _ _ _ _ _).draw) rfl (((RR.out.2.1.all2 _ _).all7_other (by omega) _ _ _ _ _ _ _).draw) rfl ?_
         exact ⟨Below.drew (bel_all7 (bel_all2 RR.out.2.2.1 (by omega) _ _) (by omega) _ _ _ _ _ _ _), _, _, _, _, _, _, rfl, bitsS.mono (rep_draw (rep_all7 (Shape.all2 RR.out.2.2.2.1 (fun b hb _ => by have := hb.1; omega) _ _) (fun b hb => by have := hb.1; omega) _ _ _ _ _ _ _)) (fun b hb _ => by have := hb.1; show w.heap.size ≤ b; omega), bagS.mono (rep_draw (rep_all7 (Shape.all2 RR.out.2.2.2.2.1 (fun b hb _ => by have := hb.1; omega) _ _) (fun b hb => by have := hb.1; omega) _ _ _ _ _ _ _)) (fun b hb _ => by have := hb.1; show w.heap.size ≤ b; omega), matS.mono (rep_draw (rep_all7 (Shape.all2 RR.out.2.2.2.2.2 (fun b hb _ => hb.elim (fun h => by have := h.2; omega) (fun h => by omega)) _ _) (fun b hb => hb.elim (fun h => by have := h.2; omega) (fun h => by omega)) _ _ _ _ _ _ _)) (fun b hb _ => hb.elim (fun h => .inl h.1) (fun h => .inr (by omega)))⟩)
  · have q5 : ((0 : Int) != 0) = false := by decide
    have p3 := kn3.cell 3 rfl
    have f3 := kn3.free 3
    clear HV
    go_upto_region 8 with fail
    have kn4 : Box (W3.setCell ⟨K, 3, none⟩ (.int .i64 3)) K 30 #[.int .i64 x, .int .i64 f, .int .i64 t, .int .i64 3, .int .i64 s, .slice ha2 hn hc2, .slice ga2 gn gc2] := kn3.set 3 _
    have hs4 : K < B := by omega
    have kb4 := kb3.other (b2 := K) (i := 3) (.int .i64 3) (by omega)
    have kr4 := kr3.other (b2 := K) (i := 3) (.int .i64 3) (by omega)
    have km4 := km3.other (b2 := K) (i := 3) (.int .i64 3) (by omega)
    have hB4 := bel_put (i := 3) hB3 (show w.heap.size ≤ K by omega) (.int .i64 3)
    have hr5 : bitsS.rep (W3.setCell ⟨K, 3, none⟩ (.int .i64 3)) _ _ _ := bitsS.keep hr3 fun b hb _ => Below.heap_setCell W3 _ (.int .i64 3) b (by have := hb.2; show b ≠ K; omega)
    have hr6 : bagS.rep (W3.setCell ⟨K, 3, none⟩ (.int .i64 3)) _ _ _ := bagS.keep hr4 fun b hb _ => Below.heap_setCell W3 _ (.int .i64 3) b (by have := hb.2; show b ≠ K; omega)
    have hm6 : matS.rep (W3.setCell ⟨K, 3, none⟩ (.int .i64 3)) _ _ _ := matS.keep hm4 fun b hb _ => Below.heap_setCell W3 _ (.int .i64 3) b (hb.elim (fun h => by have := h.2; show b ≠ K; omega) (fun h => by show b ≠ K; omega))
    clear p3 f3 kn3 kb3 kr3 km3 hB3 hr3 hr4 hm4
    generalize W3.setCell ⟨K, 3, none⟩ (.int .i64 3) = W4 at *
    have RR := hidL (And.intro kr4 (And.intro km4 (And.intro hB4 (And.intro hr5 (And.intro hr6 hm6)))))
    have c0 := kn4.cell 0 rfl; have c1 := kn4.cell 1 rfl; have c2 := kn4.cell 2 rfl; have c3 := kn4.cell 3 rfl; have c4 := kn4.cell 4 rfl; have c5 := kn4.cell 5 rfl; have c6 := kn4.cell 6 rfl
    have q0 := kb4.cell 0 rfl; have q1 := kb4.cell 1 rfl
    have d0 := kr4.cell 0 rfl; have d1 := kr4.cell 1 rfl; have d2 := kr4.cell 2 rfl; have d3 := kr4.cell 3 rfl; have d4 := kr4.cell 4 rfl; have d5 := kr4.cell 5 rfl; have d6 := kr4.cell 6 rfl
    have f0 := kr4.free 0; have f1 := kr4.free 1; have f2 := kr4.free 2; have f3 := kr4.free 3; have f4 := kr4.free 4; have f5 := kr4.free 5; have f6 := kr4.free 6
    have m0 := km4.cell 0 rfl; have m1 := km4.cell 1 rfl
    have g0 := km4.free 0; have g1 := km4.free 1
    clear kr4 km4 hB4 hr5 hr6 hm6 q5
    go_region
    all_goals
      clear c0 c1 c2 c3 c4 c5 c6 q0 q1 d0 d1 d2 d3 d4 d5 d6 f0 f1 f2 f3 f4 f5 f6 m0 m1 g0 g1
      go_wp2
      first
      | (refine ret_cells Try.underlying30 Try.infoMove Try.underlying24 Try.infoMap rfl rfl rfl rfl rfl (((RR.out.1.all7 _ _ _ _ _ _ _).all2_other (by omega) _ _).draw) rfl (((RR.out.2.1.all7_other (by omega) _ _ _ _ _ _ _).all2 _ _).draw) rfl ?_
         exact ⟨Below.drew (bel_all2 (bel_all7 RR.out.2.2.1 (by omega) _ _ _ _ _ _ _) (by omega) _ _), _, _, _, _, _, _, rfl, bitsS.mono (rep_draw (Shape.all2 (rep_all7 RR.out.2.2.2.1 (fun b hb => by have := hb.1; omega) _ _ _ _ _ _ _) (fun b hb _ => by have := hb.1; omega) _ _)) (fun b hb _ => by have := hb.1; show w.heap.size ≤ b; omega), bagS.mono (rep_draw (Shape.all2 (rep_all7 RR.out.2.2.2.2.1 (fun b hb => by have := hb.1; omega) _ _ _ _ _ _ _) (fun b hb _ => by have := hb.1; omega) _ _)) (fun b hb _ => by have := hb.1; show w.heap.size ≤ b; omega), matS.mono (rep_draw (Shape.all2 (rep_all7 RR.out.2.2.2.2.2 (fun b hb => hb.elim (fun h => by have := h.2; omega) (fun h => by omega)) _ _ _ _ _ _ _) (fun b hb _ => hb.elim (fun h => by have := h.2; omega) (fun h => by omega)) _ _)) (fun b hb _ => hb.elim (fun h => .inl h.1) (fun h => .inr (by omega)))⟩)
      | (refine ret_cells Try.underlying30 Try.infoMove Try.underlying24 Try.infoMap rfl rfl rfl rfl rfl (((RR.out.1.all2_other (by omega) _ _).all7 _ _ _ _ _ _ _).draw) rfl (((RR.out.2.1.all2 _ _).all7_other (by omega) _ _ _ _ _ _ _).draw) rfl ?_
         exact ⟨Below.drew (bel_all7 (bel_all2 RR.out.2.2.1 (by omega) _ _) (by omega) _ _ _ _ _ _ _), _, _, _, _, _, _, rfl, bitsS.mono (rep_draw (rep_all7 (Shape.all2 RR.out.2.2.2.1 (fun b hb _ => by have := hb.1; omega) _ _) (fun b hb => by have := hb.1; omega) _ _ _ _ _ _ _)) (fun b hb _ => by have := hb.1; show w.heap.size ≤ b; omega), bagS.mono (rep_draw (rep_all7 (Shape.all2 RR.out.2.2.2.2.1 (fun b hb _ => by have := hb.1; omega) _ _) (fun b hb => by have := hb.1; omega) _ _ _ _ _ _ _)) (fun b hb _ => by have := hb.1; show w.heap.size ≤ b; omega), matS.mono (rep_draw (rep_all7 (Shape.all2 RR.out.2.2.2.2.2 (fun b hb _ => hb.elim (fun h => by have := h.2; omega) (fun h => by omega)) _ _) (fun b hb => hb.elim (fun h => by have := h.2; omega) (fun h => by omega)) _ _ _ _ _ _ _)) (fun b hb _ => hb.elim (fun h => .inl h.1) (fun h => .inr (by omega)))⟩)

end Go.Proofs.Ytpfhjdlmjehfnaa
