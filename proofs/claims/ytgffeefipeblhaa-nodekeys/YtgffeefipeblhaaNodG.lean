/- Work of package node with letters for what it answers; the model and the fixed answer of the laws of layer 18. -/
import Derived.Test.YtgffeefipeblhaaNodF
import Derived.Test.YtgffeefipeblhaaLm
namespace Go.Proofs.Ytgffeefipeblhaa
open Go.ChangeShapes Go.WideShapes Go.ChangeAt Go.RowKit

theorem nwork {P : Nat → Prop} (dim : Int) (a : Option Addr) (n c : Nat) (ls : List Ly) (ep : Int) (pa : Option Addr) (pn pc : Nat) (h : List (List Int)) (me : Int) (la : Option Addr) (ln lc : Nat) (l : List En) (x0 x1 x2 x3 x4 x5 x6 x7 x8 x9 : Int) (xa : Option Addr) (xn xc : Nat) (v : List Int) (w : World)
    (H : WorkIn P w a n c ls pa pn pc h la ln lc l xa xn xc v) (L : List En) (y0 y1 y2 y3 y4 y5 y6 y7 y8 y9 : Int) (yl : List Int) (bb : Bool) (ht : Nd.Tells dim ls ep h me l ⟨x0, x1, x2, x3, x4, x5, x6, x7, x8, x9, v⟩ L ⟨y0, y1, y2, y3, y4, y5, y6, y7, y8, y9, yl⟩ bb) (m : Nat) (hm : L.length = m) (yn : Nat) (hyn : yl.length = yn) :
    Calls Try.prog 10 #[.agg #[.int .i64 dim, .slice a n c], .agg #[.int .i64 ep, .slice pa pn pc], .int .i64 me, .slice la ln lc, .agg #[.int .i64 x0, .int .i64 x1, .int .i64 x2, .int .i64 x3, .int .i64 x4, .int .i64 x5, .int .i64 x6, .int .i64 x7, .int .i64 x8, .int .i64 x9, .slice xa xn xc]] w fun e w' => Below w.heap.size w w' ∧ ∃ a' c' ya yc, e = .returned (.tuple #[.slice a' m c', .agg #[.int .i64 y0, .int .i64 y1, .int .i64 y2, .int .i64 y3, .int .i64 y4, .int .i64 y5, .int .i64 y6, .int .i64 y7, .int .i64 y8, .int .i64 y9, .slice ya yn yc], .bool bb]) ∧ ensS.rep w' (fun b => P b ∨ w.heap.size ≤ b) [.slice a' m c'] L ∧ rowS.rep w' (w.heap.size ≤ ·) [.slice ya yn yc] yl := by
  have hln := (sliceS_len H.g).1
  rcases ht with ⟨hf, rfl, hmm, rfl⟩ | ⟨hf, hs, rfl, hmm, rfl⟩ | ⟨hf, hs, y, hw, hmm, rfl⟩
  · obtain rfl : ln = m := by omega
    unfold Wx.zero at hmm
    cases hmm
    obtain rfl : 0 = yn := hyn
    exact (nwork_no dim a n c ls ep pa pn pc h me la ln lc L x0 x1 x2 x3 x4 x5 x6 x7 x8 x9 xa xn xc v w H hf).mono fun e w' ⟨hb, a', c', he, hr⟩ => ⟨hb, a', c', none, 0, he, hr, rep_none _ _ _⟩
  · obtain rfl : ln = m := by omega
    unfold Nd.reply at hmm
    cases hmm
    obtain rfl : 0 = yn := hyn
    exact (nwork_stale dim a n c ls ep pa pn pc h me la ln lc L x0 x1 x2 x3 x4 x5 x6 x7 x8 x9 xa xn xc v w H hf hs).mono fun e w' ⟨hb, a', c', he, hr⟩ => ⟨hb, a', c', none, 0, he, hr, rep_none _ _ _⟩
  · unfold Nd.reply at hmm
    cases hmm
    exact (nwork_held dim a n c ls ep pa pn pc h me la ln lc l x0 x1 x2 x3 x4 x5 x6 x7 x8 x9 xa xn xc v w H hf hs L _ hw m hm yn hyn).mono fun e w' ⟨hb, a', c', ya, yc, he, hr, hy⟩ => ⟨hb, a', c', ya, yc, he, hr, hy⟩

theorem Try.infoModel : (Try.prog.info? 24).map (·.size) = some 2 := by kernel_rfl
set_option maxRecDepth 100000 in
theorem ntiny (w : World) : Calls Try.prog 15 #[] w fun e w' => Below w.heap.size w w' ∧ ∃ a, e = .returned (.agg #[.int .i64 1, .slice a 1 1]) ∧ lysS.rep w' (w.heap.size + 1 ≤ ·) [.slice a 1 1] [Md.lyA] := by
  have hb0 := new_bel w (.cells #[.int .i64 0, .slice none 0 0] 24)
  have k0 := Box.new w 24 #[.int .i64 0, .slice none 0 0]
  have hs0 : (w.alloc (.cells #[.int .i64 0, .slice none 0 0] 24)).heap.size = w.heap.size + 1 := by simp
  go_enter Try.func15, Try.ntmps15
  go_upto_region 1 with fail
  generalize w.alloc (.cells #[.int .i64 0, .slice none 0 0] 24) = W0 at *
  have hm := mat_oneF W0 65536 (B := w.heap.size + 1) (by omega)
  have hB := bel_two W0 (.cells #[.int .i64 65536] 3) (.cells #[.slice (some ⟨W0.heap.size, 0, none⟩) 1 1] 29)
  have hs1 : ((W0.alloc (.cells #[.int .i64 65536] 3)).alloc (.cells #[.slice (some ⟨W0.heap.size, 0, none⟩) 1 1] 29)).heap.size = w.heap.size + 3 := by simp; omega
  have k1 := k0.keep hB
  have hB1 := bel_then hb0 hB
  rw [hs0] at hm hs1 k1 hB1
  clear hB hb0 k0
  go_upto_region 2 with fail
  generalize ((W0.alloc (.cells #[.int .i64 65536] 3)).alloc (.cells #[.slice (some ⟨w.heap.size + 1, 0, none⟩) 1 1] 29)) = W at *
  have hl := laid_modelF hm (by omega) 1
  have hBl := bel_two W (.cells #[.slice (some ⟨w.heap.size + 1 + 1, 0, none⟩) 1 1, .slice (some ⟨w.heap.size + 1 + 1, 0, none⟩) 1 1] 63) (.cells #[.slice (some ⟨w.heap.size + 1 + 1, 0, none⟩) 1 1, .slice (some ⟨W.heap.size, 0, none⟩) 1 1, .int .i64 1] 61)
  have k2 := k1.keep hBl
  have hB2 := bel_then hB1 hBl
  have HA : Hid _ := rep_put (b := w.heap.size) (i := 0) hl (fun k (hk : w.heap.size + 1 ≤ k) => by omega) (.int .i64 1)
  have HA2 : Hid _ := rep_put (b := w.heap.size) (i := 1) HA.out (fun k (hk : w.heap.size + 1 ≤ k) => by omega) (.slice (some ⟨W.heap.size + 1, 0, none⟩) 1 1)
  have HB2 : Hid _ := hB2
  have HK2 : Hid _ := k2
  have f0 := k2.free 0
  have f1 := k2.free 1
  have c0 := k2.cell 0 rfl
  have c1 := k2.cell 1 rfl
  clear hm hl hBl k1 hB1 HA hB2 k2 hs1 hs0
  go_wp2
  refine ret_one Try.underlying24 Try.infoModel rfl rfl rfl (Box.all2 HK2.out _ _) rfl ?_
  exact ⟨bel_all2 HB2.out (Nat.le_refl _) _ _, _, rfl, HA2.out⟩
end Go.Proofs.Ytgffeefipeblhaa
