/- What canWork of package node does when called. -/
import Derived.Test.YtgffeefipeblhaaNodB
namespace Go.Proofs.Ytgffeefipeblhaa
open Go.ChangeShapes Go.WideShapes Go.ChangeAt Go.RowKit

/-- A function whose results are one, a struct in a variable, and one more. -/
theorem ret_mid {P : Program} {fn : Func} {R : Ending → World → Prop} {a : Act} {u : World} {b : Nat} {t : TypeId} {fs : Array Field} {cs : Array Value} {p q r : Tmp} {v1 v3 : Value} {k : Nat} (hu : P.underlying t = some (.struct fs)) (hi : (P.info? t).map (·.size) = some k)
    (hres : fn.results = #[.tmp q, .cell p t, .tmp r]) (hd : a.defers = []) (hp : a.tmps.getD p undef = .pointer (some ⟨b, 0, none⟩)) (hq : a.tmps.getD q undef = v1) (hr : a.tmps.getD r undef = v3) (hB : Box u b t cs) (hk : cs.size = k) (hR : R (.returned (.tuple #[v1, .agg cs, v3])) u) : bodyPost P fn R .ret a u := by
  have hld := run_loadVar_row (P := P) u b t t cs (0, 0) _ hB hu rfl (by rw [hi, hk])
  refine bodyPost_ret (v := .tuple #[v1, .agg cs, v3]) ?_ hd hR
  have hp' : a.tmps[p]?.getD undef = .pointer (some ⟨b, 0, none⟩) := by simpa using hp
  have hq' : a.tmps[q]?.getD undef = v1 := by simpa using hq
  have hr' : a.tmps[r]?.getD undef = v3 := by simpa using hr
  simp only [results, hres]
  simp [asAddr, hp', hq', hr', hld]

set_option maxRecDepth 100000 in
set_option maxHeartbeats 1000000 in
theorem ncan (dim : Int) (a : Option Addr) (n c : Nat) (ls : List Ly) (me : Int) (x0 x1 x2 x3 x4 x5 x6 x7 x8 x9 : Int) (xa : Option Addr) (xn xc : Nat) (v : List Int) (w : World)
    (h : lysS.rep w everywhere [.slice a n c] ls) (hv : rowS.rep w everywhere [.slice xa xn xc] v) (hxn : xn ≤ 1000) :
    Calls Try.prog 18 #[.agg #[.int .i64 dim, .slice a n c], .int .i64 me, .agg #[.int .i64 x0, .int .i64 x1, .int .i64 x2, .int .i64 x3, .int .i64 x4, .int .i64 x5, .int .i64 x6, .int .i64 x7, .int .i64 x8, .int .i64 x9, .slice xa xn xc]] w fun e w' => Says e (Nd.Can dim ls me ⟨x0, x1, x2, x3, x4, x5, x6, x7, x8, x9, v⟩) ∧ Below w.heap.size w w' := by
  have hl := (sliceS_len h).1
  have hB := bel_two w (.cells #[.int .i64 dim, .slice a n c] 24) (.cells #[.int .i64 x0, .int .i64 x1, .int .i64 x2, .int .i64 x3, .int .i64 x4, .int .i64 x5, .int .i64 x6, .int .i64 x7, .int .i64 x8, .int .i64 x9, .slice xa xn xc] 31)
  have km := (Box.new w 24 #[.int .i64 dim, .slice a n c]).keep (new_bel _ (.cells #[.int .i64 x0, .int .i64 x1, .int .i64 x2, .int .i64 x3, .int .i64 x4, .int .i64 x5, .int .i64 x6, .int .i64 x7, .int .i64 x8, .int .i64 x9, .slice xa xn xc] 31))
  have kx := Box.new (w.alloc (.cells #[.int .i64 dim, .slice a n c] 24)) 31 #[.int .i64 x0, .int .i64 x1, .int .i64 x2, .int .i64 x3, .int .i64 x4, .int .i64 x5, .int .i64 x6, .int .i64 x7, .int .i64 x8, .int .i64 x9, .slice xa xn xc]
  have e1 : (w.alloc (.cells #[.int .i64 dim, .slice a n c] 24)).heap.size = w.heap.size + 1 := by simp
  rw [e1] at kx
  have h1 := Shape.below h hB
  have hv1 := Shape.below hv hB
  have HL : Hid (ls.length = n) := hl
  have HLV : Hid (v.length = xn) := (sliceS_len hv).1
  have HC : Hid (Nd.Can dim ls me ⟨x0, x1, x2, x3, x4, x5, x6, x7, x8, x9, v⟩ ↔ Wx.right ⟨x0, x1, x2, x3, x4, x5, x6, x7, x8, x9, v⟩ ∧ x0 = 1 ∧ x2 = me ∧ x5 < (n : Int) ∧ x8 < ((ls.getD x5.toNat ly0).2.1.length : Int) ∧ Md.TRight dim [v]) := by
    show _ ↔ _
    rw [← hl]
    exact Iff.rfl
  clear h hv hl e1
  generalize Nd.Can dim ls me ⟨x0, x1, x2, x3, x4, x5, x6, x7, x8, x9, v⟩ = R at *
  go_enter Try.func18, Try.ntmps18
  go_upto_region 1 with fail
  generalize World.alloc (World.alloc w _) _ = W at *
  have c0 := kx.cell 0 rfl
  have c1 := kx.cell 1 rfl
  have c2 := kx.cell 2 rfl
  have c3 := kx.cell 3 rfl
  have c4 := kx.cell 4 rfl
  have c5 := kx.cell 5 rfl
  have c6 := kx.cell 6 rfl
  have c7 := kx.cell 7 rfl
  have c8 := kx.cell 8 rfl
  have c9 := kx.cell 9 rfl
  have c10 := kx.cell 10 rfl
  have hcw : Hid (Calls _ _ _ _ _) := wright x0 x1 x2 x3 x4 x5 x6 x7 x8 x9 xa xn xc v W (Row.of_rep hv1)
  go_wp2_with fail
  refine hcw.out.mono ?_
  rintro e u1 ⟨hs, hb1⟩
  have hB1 := bel_then hB hb1
  have km1 := km.keep hb1
  have kx1 := kx.keep hb1
  have h2 := Shape.below h1 hb1
  have hv2 := Shape.below hv1 hb1
  clear c0 c1 c2 c3 c4 c5 c6 c7 c8 c9 c10 hcw hb1 h1 hv1 km kx hB
  by_cases hR : Wx.right ⟨x0, x1, x2, x3, x4, x5, x6, x7, x8, x9, v⟩
  case neg =>
    rw [hs.not hR]
    clear hs
    go_wp2
    go_ret
    exact ⟨Says.no fun h => hR (HC.out.1 h).1, hB1⟩
  rw [hs.is hR]
  have h50 : 0 ≤ x5 := (hR.2.2.1 x5 (by simp [Wx.ten])).1
  have h80 : 0 ≤ x8 := (hR.2.2.1 x8 (by simp [Wx.ten])).1
  have HR : Hid (Wx.right ⟨x0, x1, x2, x3, x4, x5, x6, x7, x8, x9, v⟩) := hR
  clear hs hR
  have c0 := kx1.cell 0 rfl
  have c2 := kx1.cell 2 rfl
  by_cases hk : x0 = 1
  case neg =>
    have q : (x0 != 1) = true := by rw [bne_iff_ne]; exact hk
    have HK : Hid (¬ x0 = 1) := hk
    clear hk
    go_wp2
    go_ret
    exact ⟨Says.no fun h => HK.out (HC.out.1 h).2.1, hB1⟩
  have q0 : (x0 != 1) = false := by rw [bne_eq_false_iff_eq]; exact hk
  have HK : Hid (x0 = 1) := hk
  clear hk
  by_cases hm : x2 = me
  case neg =>
    have q : (x2 != me) = true := by rw [bne_iff_ne]; exact hm
    have HN : Hid (¬ x2 = me) := hm
    clear hm
    go_wp2
    go_ret
    exact ⟨Says.no fun h => HN.out (HC.out.1 h).2.2.1, hB1⟩
  have q2 : (x2 != me) = false := by rw [bne_eq_false_iff_eq]; exact hm
  have HM : Hid (x2 = me) := hm
  clear hm
  obtain ⟨k, rfl⟩ : ∃ k : Nat, x5 = (k : Int) := ⟨x5.toNat, by omega⟩
  have ht : ((k : Int)).toNat = k := rfl
  have hne9 : Nonempty (Later u1) := Later.there u1
  have d1 : ∀ x : Later u1, x.u.cell? ⟨w.heap.size, 1, none⟩ = _ := fun x => x.cell (km1.cell 1 rfl)
  have d5 : ∀ x : Later u1, x.u.cell? ⟨w.heap.size + 1, 5, none⟩ = _ := fun x => x.cell (kx1.cell 5 rfl)
  have d8 : ∀ x : Later u1, x.u.cell? ⟨w.heap.size + 1, 8, none⟩ = _ := fun x => x.cell (kx1.cell 8 rfl)
  by_cases hlt : k < n
  case neg =>
    have HN : Hid (¬ k < n) := hlt
    go_wp2
    have g1 : decide (n ≤ k) = true := by rw [decide_eq_true_iff]; omega
    refine region_later (by kernel_rfl) (by kernel_rfl) ?_
    repeat (go_big_quiet_step (fail))
    refine wpQuiet_nil ?_
    intro x9
    obtain ⟨W9, hb9⟩ := x9
    go_wp2
    go_ret
    exact ⟨Says.no fun h => HN.out (by have := (HC.out.1 h).2.2.2.1; omega), bel_then hB1 hb9⟩
  obtain ⟨b, off, ag, ng, cg, ax, nx, cx, g, xs, cap, rfl, hbb, hE, hg, hx, e0, e1, e2⟩ := ly_there h2 hlt
  have HX : Hid (xs.length = nx) := (sliceS_len hx).1
  have HE : Hid (ls.getD k ly0 = (g, xs, cap, ())) := hE
  have f1 : ∀ x : Later u1, x.u.cell? ⟨b, off + k * 3 + 1, none⟩ = _ := fun x => x.cell e1
  have hk0 : (0 : Int) ≤ (k : Int) := by omega
  have hkn : (k : Int) < (n : Int) := by omega
  clear e0 e1 e2 hE hg hx
  by_cases hlx : x8 < (nx : Int)
  case neg =>
    have HN : Hid (¬ x8 < (nx : Int)) := hlx
    go_wp2
    have g1 : decide (n ≤ k) = false := by rw [decide_eq_false_iff_not]; omega
    have g2 : decide ((nx : Int) ≤ x8) = true := by rw [decide_eq_true_iff]; omega
    refine region_later (by kernel_rfl) (by kernel_rfl) ?_
    repeat (go_big_quiet_step (fail))
    refine wpQuiet_nil ?_
    intro x9
    obtain ⟨W9, hb9⟩ := x9
    go_wp2
    go_ret
    exact ⟨Says.no fun h => by have h7 := (HC.out.1 h).2.2.2.2.1; rw [ht, HE.out] at h7; have h8 : x8 < (xs.length : Int) := h7; rw [HX.out] at h8; have := HN.out; omega, bel_then hB1 hb9⟩
  have HG : Hid (x8 < (nx : Int)) := hlx
  go_wp2
  have g1 : decide (n ≤ k) = false := by rw [decide_eq_false_iff_not]; omega
  have g2 : decide ((nx : Int) ≤ x8) = false := by rw [decide_eq_false_iff_not]; have := HG.out; omega
  refine region_later (by kernel_rfl) (by kernel_rfl) ?_
  repeat (go_big_quiet_step (fail))
  refine wpQuiet_nil ?_
  intro x9
  obtain ⟨W9, hb9⟩ := x9
  have hB9 := bel_then hB1 hb9
  have km9 := km1.keep hb9
  have kx9 := kx1.keep hb9
  have hr9 := rows_one (Shape.below hv2 hb9)
  have hbn := new_bel W9 (.cells #[.slice xa xn xc] 29)
  have hct : Hid (Calls _ _ _ _ _) := mtokens (some ⟨b, off, none⟩) n c dim _ 1 1 [v] _ hr9 ⟨by simp, fun l hl => by rw [List.mem_singleton.1 hl, HLV.out]; omega⟩
  have p0 := km9.cell 0 rfl
  have p1 := km9.cell 1 rfl
  have p10 := kx9.cell 10 rfl
  clear km1 kx1 h2 hv2 c0 c2 q0 q2 d1 d5 d8 f1 g1 g2 hlx hr9
  go_wp2_with fail
  refine hct.out.mono ?_
  rintro e u5 ⟨hs, hb5⟩
  have HB : Hid (Below w.heap.size w u5) := bel_then (bel_then hB9 hbn) hb5
  by_cases hT : Md.TRight dim [v]
  · rw [hs.is hT]
    go_wp2
    go_ret
    exact ⟨Says.yes (HC.out.2 ⟨HR.out, HK.out, HM.out, by omega, by rw [ht, HE.out]; show x8 < (xs.length : Int); rw [HX.out]; exact HG.out, hT⟩), HB.out⟩
  · rw [hs.not hT]
    go_wp2
    go_ret
    exact ⟨Says.no fun h => hT (HC.out.1 h).2.2.2.2.2, HB.out⟩

end Go.Proofs.Ytgffeefipeblhaa
