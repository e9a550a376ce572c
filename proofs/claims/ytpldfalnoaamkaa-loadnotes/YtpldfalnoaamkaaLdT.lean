/- LoadTells, with letters. -/
import Derived.Test.YtpldfalnoaamkaaLdP
import Derived.Test.YtpldfalnoaamkaaSm
namespace Go.Proofs.Ytpldfalnoaamkaa
open Go.ChangeShapes Go.WideShapes Go.ChangeAt Go.RowKit


theorem Ld.small_sized {m : List (List Int)} (h : Mx.Small m) : Ex.Sized m := ⟨by have := h.1; omega, fun l hl => by have := h.2 l hl; omega⟩
set_option maxRecDepth 100000 in
set_option maxHeartbeats 4000000 in
theorem ltells (G : LoadDoes) (b0 : Option Addr) (n0 c0 : Nat) (l : List Int) (e : Int) (a : Option Addr) (n c : Nat) (m : List (List Int)) (bd : Int) (w : World) (h0 : rowS.rep w everywhere [.slice b0 n0 c0] l) (h : matS.rep w everywhere [.slice a n c] m) :
    Calls Try.prog 4 #[.slice b0 n0 c0, .agg #[.int .i64 e, .slice a n c], .int .i64 bd] w fun r w' => r = .returned (.bool true) ∧ Below w.heap.size w w' := by
  obtain ⟨X, N, B, hHot⟩ := Ld.hot_there l e m bd
  obtain ⟨Y, K, D, hCold⟩ := Ld.cold_there l e m bd
  have HAW : Hid (∀ u, Calls Try.prog 11 #[] u fun r w' => r = .returned (.bool true) ∧ Below u.heap.size u w') := fun u => G.awake u
  have HN0 : Hid (l.length = n0) := (sliceS_len h0).1
  have hbn := new_bel w (.cells #[.int .i64 e, .slice a n c] 25)
  have kb0 := Box.new w 25 #[.int .i64 e, .slice a n c]
  have HRW : Hid (∀ u, Below w.heap.size w u → rowS.rep u everywhere [.slice b0 n0 c0] l) := fun u hu => Shape.below h0 hu
  have HMA : Hid (∀ u, Below w.heap.size w u → matS.rep u everywhere [.slice a n c] m) := fun u hu => Shape.below h hu
  have HSM : Hid (Calls _ _ _ _ _) := small a n c m everywhere _ (Shape.below h hbn)
  have HBN := hidL hbn
  have KB0 := hidL kb0
  have e0 := kb0.cell 0 rfl
  have e1 := kb0.cell 1 rfl
  clear h0 h hbn kb0
  by_cases g60 : 60 < (n0 : Int)
  · go_enter Try.func4, Try.ntmps4
    go_wp2_with fail
    refine (HAW.out _).mono ?_
    rintro r WZ ⟨rfl, hbz⟩
    go_wp2
    go_ret
    exact ⟨rfl, bel_then (HBN.out) hbz⟩
  go_enter Try.func4, Try.ntmps4
  go_wp2_with fail
  refine HSM.out.mono ?_
  rintro r W1 ⟨⟨bb, rfl, hbb⟩, h9⟩
  subst h9
  clear HSM
  cases bb with
  | false =>
    go_wp2_with fail
    refine (HAW.out _).mono ?_
    rintro r WZ ⟨rfl, hbz⟩
    go_wp2
    go_ret
    exact ⟨rfl, bel_then (HBN.out) hbz⟩
  | true =>
    have hz := Ld.small_sized (hbb.1 rfl)
    have hn0 : n0 ≤ 100000 := by omega
    have HR : Hid (∀ u, Below w.heap.size w u → Row .i64 u b0 n0 l) := fun u hu => by have h9 := Row.of_rep (HRW.out u hu); exact h9
    have HH1 : Hid (∀ u, Below w.heap.size w u → Calls _ _ _ u _) := fun u hu => G.hot b0 n0 c0 l e a n c m bd X N B u (HR.out u hu) hn0 (HMA.out u hu) hz hHot
    have HH2 : Hid (∀ u, Below w.heap.size w u → Calls _ _ _ u _) := fun u hu => G.cold b0 n0 c0 l e a n c m bd Y K D u (HR.out u hu) hn0 (HMA.out u hu) hz hCold
    have HH3 : Hid (∀ u, Below w.heap.size w u → Calls _ _ _ u _) := fun u hu => rHot b0 n0 c0 l e a n c m bd X N B u (HR.out u hu) hn0 (HMA.out u hu) hz hHot
    have HH4 : Hid (∀ u, Below w.heap.size w u → Calls _ _ _ u _) := fun u hu => rCold b0 n0 c0 l e a n c m bd Y K D u (HR.out u hu) hn0 (HMA.out u hu) hz hCold
    clear hbb hz hHot hCold HR HRW HMA
    go_wp2_with fail
    refine (HH1.out _ HBN.out).mono ?_
    rintro r W1 ⟨rfl, hb1⟩
    have k1 := KB0.out.keep hb1
    have HB1 := hidL (bel_then HBN.out hb1)
    have d0 := k1.cell 0 rfl
    have d1 := k1.cell 1 rfl
    clear hb1 KB0 e0 e1 HH1
    go_wp2_with fail
    refine (HH2.out _ HB1.out).mono ?_
    rintro r W2 ⟨rfl, hb2⟩
    have k2 := k1.keep hb2
    have HB2 := hidL (bel_then HB1.out hb2)
    clear hb2 k1 d0 d1 HH2
    have d0 := k2.cell 0 rfl
    have d1 := k2.cell 1 rfl
    have kq := Box.new W2 33 #[.int .i64 e, .slice a n c]
    have HQ := hidL (bel_then HB2.out (new_bel W2 (.cells #[.int .i64 e, .slice a n c] 33)))
    have q0 := kq.cell 0 rfl
    have q1 := kq.cell 1 rfl
    go_wp2_with fail
    refine (HH3.out _ HQ.out).mono ?_
    rintro r W3 ⟨rfl, hb3⟩
    have k3 := kq.keep hb3
    have HB3 := hidL (bel_then HQ.out hb3)
    clear hb3 kq k2 d0 d1 q0 q1 HH3
    have d0 := k3.cell 0 rfl
    have d1 := k3.cell 1 rfl
    go_wp2_with fail
    refine (HH4.out _ HB3.out).mono ?_
    rintro r W4 ⟨rfl, hb4⟩
    have HB4 := hidL (bel_then HB3.out hb4)
    clear hb4 k3 d0 d1 HH4
    go_wp2_with fail
    refine (HAW.out W4).mono ?_
    rintro r WZ ⟨rfl, hbz⟩
    go_wp2
    go_ret
    exact ⟨rfl, bel_then (HB4.out) hbz⟩

end Go.Proofs.Ytpldfalnoaamkaa
