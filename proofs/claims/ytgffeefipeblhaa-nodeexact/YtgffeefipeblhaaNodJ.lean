/- What the document's Work of layer 18 does when called, of a message that fits. -/
import Derived.Test.YtgffeefipeblhaaNodI
import Derived.Test.YtgffeefipeblhaaLedA
namespace Go.Proofs.Ytgffeefipeblhaa
open Go.ChangeShapes Go.WideShapes Go.ChangeAt Go.RowKit

set_option maxRecDepth 100000 in
/-- What it is told, in memory. -/
structure RWorkIn (w : World) (a : Option Addr) (n c : Nat) (ls : List Ly) (pa : Option Addr) (pn pc : Nat) (h : List (List Int)) (la : Option Addr) (ln lc : Nat) (l : List En) (xa : Option Addr) (xn xc : Nat) (v : List Int) : Prop where
  m : lysS.rep w everywhere [.slice a n c] ls
  mz : ∀ l ∈ ls, Md.LSized l
  p : matS.rep w everywhere [.slice pa pn pc] h
  pz : Ex.Sized h
  g : ensS.rep w everywhere [.slice la ln lc] l
  ls : Dx.Short l
  v : rowS.rep w everywhere [.slice xa xn xc] v
  vn : xn ≤ 1000


set_option maxHeartbeats 2000000 in
theorem rnwork_stale (dim : Int) (a : Option Addr) (n c : Nat) (ls : List Ly) (ep : Int) (pa : Option Addr) (pn pc : Nat) (h : List (List Int)) (me : Int) (la : Option Addr) (ln lc : Nat) (l : List En) (x0 x1 x2 x3 x4 x5 x6 x7 x8 x9 : Int) (xa : Option Addr) (xn xc : Nat) (v : List Int) (w : World)
    (H : RWorkIn w a n c ls pa pn pc h la ln lc l xa xn xc v) (hF : Nd.Fits dim ls ep h me ⟨x0, x1, x2, x3, x4, x5, x6, x7, x8, x9, v⟩) (hS : ¬ Nd.Held ep h me ⟨x0, x1, x2, x3, x4, x5, x6, x7, x8, x9, v⟩) :
    Calls Try.prog 13 #[.agg #[.int .i64 dim, .slice a n c], .agg #[.int .i64 ep, .slice pa pn pc], .int .i64 me, .slice la ln lc, .agg #[.int .i64 x0, .int .i64 x1, .int .i64 x2, .int .i64 x3, .int .i64 x4, .int .i64 x5, .int .i64 x6, .int .i64 x7, .int .i64 x8, .int .i64 x9, .slice xa xn xc]] w fun e w' => Below w.heap.size w w' ∧ e = .returned (.tuple #[.agg #[.int .i64 3, .int .i64 me, .int .i64 x1, .int .i64 x3, .int .i64 x4, .int .i64 x5, .int .i64 x6, .int .i64 x7, .int .i64 x8, .int .i64 ep, .slice none 0 0], .bool false]) := by
  have hx8 : 0 ≤ x8 := hF.low.2.1
  have HS : Hid (¬ Nd.Held ep h me ⟨x0, x1, x2, x3, x4, x5, x6, x7, x8, x9, v⟩) := hS
  have hpn := (sliceS_len H.p).1
  clear hF hS
  obtain ⟨W, hW⟩ : ∃ W, W = (((w.alloc (.cells #[.int .i64 dim, .slice a n c] 24)).alloc (.cells #[.int .i64 ep, .slice pa pn pc] 45)).alloc (.cells #[.int .i64 x0, .int .i64 x1, .int .i64 x2, .int .i64 x3, .int .i64 x4, .int .i64 x5, .int .i64 x6, .int .i64 x7, .int .i64 x8, .int .i64 x9, .slice xa xn xc] 31)).alloc (.cells #[.int .i64 0, .int .i64 0, .int .i64 0, .int .i64 0, .int .i64 0, .int .i64 0, .int .i64 0, .int .i64 0, .int .i64 0, .int .i64 0, .slice none 0 0] 31) := ⟨_, rfl⟩
  obtain ⟨hB0, km0, kp0, kx0, kr0, hsz⟩ := boxes4 hW
  have hbt := new_bel W (.cells #[.int .i64 3, .int .i64 me, .int .i64 x1, .int .i64 x3, .int .i64 x4, .int .i64 x5, .int .i64 x6, .int .i64 x7, .int .i64 x8, .int .i64 ep, .slice none 0 0] 31)
  have km := km0.keep hbt
  have kp := kp0.keep hbt
  have kx := kx0.keep hbt
  have kr := kr0.keep hbt
  have hB := bel_then hB0 hbt
  have kt := Box.new W 31 #[.int .i64 3, .int .i64 me, .int .i64 x1, .int .i64 x3, .int .i64 x4, .int .i64 x5, .int .i64 x6, .int .i64 x7, .int .i64 x8, .int .i64 ep, .slice none 0 0]
  rw [hsz] at kt
  have HH : Hid (RWorkIn w a n c ls pa pn pc h la ln lc l xa xn xc v) := H
  have HW : Hid (W = (((w.alloc (.cells #[.int .i64 dim, .slice a n c] 24)).alloc (.cells #[.int .i64 ep, .slice pa pn pc] 45)).alloc (.cells #[.int .i64 x0, .int .i64 x1, .int .i64 x2, .int .i64 x3, .int .i64 x4, .int .i64 x5, .int .i64 x6, .int .i64 x7, .int .i64 x8, .int .i64 x9, .slice xa xn xc] 31)).alloc (.cells #[.int .i64 0, .int .i64 0, .int .i64 0, .int .i64 0, .int .i64 0, .int .i64 0, .int .i64 0, .int .i64 0, .int .i64 0, .int .i64 0, .slice none 0 0] 31)) := hW
  clear H hW hsz hB0 km0 kp0 kx0 kr0 hbt
  go_enter Try.func13, Try.ntmps13
  go_upto_region 2 with fail
  rw [← HW.out]
  clear HW
  generalize World.alloc W _ = V at *
  have c9 := kx.cell 9 rfl
  have c8 := kx.cell 8 rfl
  have p0 := kp.cell 0 rfl
  have p1 := kp.cell 1 rfl
  by_cases he : x9 = ep
  case neg =>
    have q : (x9 != ep) = true := by rw [bne_iff_ne]; exact he
    clear he hpn
    have t0 := kt.cell 0 rfl
    have t1 := kt.cell 1 rfl
    have t2 := kt.cell 2 rfl
    have t3 := kt.cell 3 rfl
    have t4 := kt.cell 4 rfl
    have t5 := kt.cell 5 rfl
    have t6 := kt.cell 6 rfl
    have t7 := kt.cell 7 rfl
    have t8 := kt.cell 8 rfl
    have t9 := kt.cell 9 rfl
    have t10 := kt.cell 10 rfl
    have r0 := kr.cell 0 rfl
    have r1 := kr.cell 1 rfl
    have r2 := kr.cell 2 rfl
    have r3 := kr.cell 3 rfl
    have r4 := kr.cell 4 rfl
    have r5 := kr.cell 5 rfl
    have r6 := kr.cell 6 rfl
    have r7 := kr.cell 7 rfl
    have r8 := kr.cell 8 rfl
    have r9 := kr.cell 9 rfl
    have r10 := kr.cell 10 rfl
    have f0 := kr.free 0
    have f1 := kr.free 1
    have f2 := kr.free 2
    have f3 := kr.free 3
    have f4 := kr.free 4
    have f5 := kr.free 5
    have f6 := kr.free 6
    have f7 := kr.free 7
    have f8 := kr.free 8
    have f9 := kr.free 9
    have f10 := kr.free 10
    have HK9 : Hid _ := kr
    have HB9 : Hid _ := hB
    clear km kp kx kt kr hB
    go_wp2
    refine ret_box rfl rfl rfl rfl (Box.all11 HK9.out _ _ _ _ _ _ _ _ _ _ _) rfl ?_
    exact ⟨bel_all11 HB9.out (by omega) _ _ _ _ _ _ _ _ _ _ _, rfl⟩
  have q : (x9 != ep) = false := by rw [bne_eq_false_iff_eq]; exact he
  by_cases hlt : x8 < (pn : Int)
  case neg =>
    clear he hpn
    have t0 := kt.cell 0 rfl
    have t1 := kt.cell 1 rfl
    have t2 := kt.cell 2 rfl
    have t3 := kt.cell 3 rfl
    have t4 := kt.cell 4 rfl
    have t5 := kt.cell 5 rfl
    have t6 := kt.cell 6 rfl
    have t7 := kt.cell 7 rfl
    have t8 := kt.cell 8 rfl
    have t9 := kt.cell 9 rfl
    have t10 := kt.cell 10 rfl
    have r0 := kr.cell 0 rfl
    have r1 := kr.cell 1 rfl
    have r2 := kr.cell 2 rfl
    have r3 := kr.cell 3 rfl
    have r4 := kr.cell 4 rfl
    have r5 := kr.cell 5 rfl
    have r6 := kr.cell 6 rfl
    have r7 := kr.cell 7 rfl
    have r8 := kr.cell 8 rfl
    have r9 := kr.cell 9 rfl
    have r10 := kr.cell 10 rfl
    have f0 := kr.free 0
    have f1 := kr.free 1
    have f2 := kr.free 2
    have f3 := kr.free 3
    have f4 := kr.free 4
    have f5 := kr.free 5
    have f6 := kr.free 6
    have f7 := kr.free 7
    have f8 := kr.free 8
    have f9 := kr.free 9
    have f10 := kr.free 10
    have HK9 : Hid _ := kr
    have HB9 : Hid _ := hB
    clear km kp kx kt kr hB
    go_wp2
    refine ret_box rfl rfl rfl rfl (Box.all11 HK9.out _ _ _ _ _ _ _ _ _ _ _) rfl ?_
    exact ⟨bel_all11 HB9.out (by omega) _ _ _ _ _ _ _ _ _ _ _, rfl⟩
  obtain ⟨j, hj8⟩ : ∃ j : Nat, x8 = (j : Int) := ⟨x8.toNat, by omega⟩
  have hjn : j < pn := by omega
  obtain ⟨b, off, A, C, ha, hbb, hc, hr⟩ := mat_at HH.out.p hjn
  have HNO : Hid ((h.getD j []).contains me = false) := by
    show _ = _
    rw [Bool.eq_false_iff]
    intro h9
    exact HS.out ⟨he, ⟨hx8, by show x8 < (h.length : Int); omega⟩, by show me ∈ h.getD x8.toNat []; rw [show x8.toNat = j by omega]; exact List.contains_iff_mem.1 h9⟩
  have hlr : (h.getD j []).length ≤ 100000 := by have := HH.out.pz.2 _ (Mx.getD_mem h j (by omega)); omega
  have HQ : Hid (∀ u, Below w.heap.size w u → Calls Try.prog 28 #[.slice A (h.getD j []).length C, .int .i64 me] u fun e w' => e = .returned (.bool false) ∧ w' = u) := fun u hu => by
    rw [← HNO.out]
    exact qhas A _ C _ me u (Row.of_rep (Shape.below hr hu)) hlr
  have hcV := (hB.cell (p := ⟨b, off + j, none⟩) hbb).trans hc
  generalize (h.getD j []).length = nj at *
  subst hj8
  subst ha
  have hj0 : (0 : Int) ≤ (j : Int) := by omega
  clear he hx8 hr hc hlr hpn
  go_wp2_with fail
  refine (HQ.out V hB).mono ?_
  rintro e u2 ⟨rfl, hww⟩
  subst hww
  clear HQ HNO hcV
  have t0 := kt.cell 0 rfl
  have t1 := kt.cell 1 rfl
  have t2 := kt.cell 2 rfl
  have t3 := kt.cell 3 rfl
  have t4 := kt.cell 4 rfl
  have t5 := kt.cell 5 rfl
  have t6 := kt.cell 6 rfl
  have t7 := kt.cell 7 rfl
  have t8 := kt.cell 8 rfl
  have t9 := kt.cell 9 rfl
  have t10 := kt.cell 10 rfl
  have r0 := kr.cell 0 rfl
  have r1 := kr.cell 1 rfl
  have r2 := kr.cell 2 rfl
  have r3 := kr.cell 3 rfl
  have r4 := kr.cell 4 rfl
  have r5 := kr.cell 5 rfl
  have r6 := kr.cell 6 rfl
  have r7 := kr.cell 7 rfl
  have r8 := kr.cell 8 rfl
  have r9 := kr.cell 9 rfl
  have r10 := kr.cell 10 rfl
  have f0 := kr.free 0
  have f1 := kr.free 1
  have f2 := kr.free 2
  have f3 := kr.free 3
  have f4 := kr.free 4
  have f5 := kr.free 5
  have f6 := kr.free 6
  have f7 := kr.free 7
  have f8 := kr.free 8
  have f9 := kr.free 9
  have f10 := kr.free 10
  have HK9 : Hid _ := kr
  have HB9 : Hid _ := hB
  clear km kp kx kt kr hB
  go_wp2
  refine ret_box rfl rfl rfl rfl (Box.all11 HK9.out _ _ _ _ _ _ _ _ _ _ _) rfl ?_
  exact ⟨bel_all11 HB9.out (by omega) _ _ _ _ _ _ _ _ _ _ _, rfl⟩

end Go.Proofs.Ytgffeefipeblhaa
