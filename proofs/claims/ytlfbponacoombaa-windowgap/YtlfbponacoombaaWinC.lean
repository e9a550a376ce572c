/- What window.Accept and the document's Accept do when called. -/
import Derived.Test.YtlfbponacoombaaWinB
namespace Go.Proofs.Ytlfbponacoombaa
open Go.ChangeShapes Go.WideShapes Go.ChangeAt Go.RowKit

/-- What a window is behind a number, and whether that was accepted. -/
def Took (e : Ending) (w' : World) (F : Nat → Prop) (W V : Win) (x : Int) : Prop :=
  (Nx.Fresh W x ∧ ∃ a n c, e = .returned (.tuple #[.agg #[.int .i64 V.low, .slice a n c], .bool true]) ∧ rowS.rep w' F [.slice a n c] V.seen) ∨
  (¬ Nx.Fresh W x ∧ ∃ a n c, e = .returned (.tuple #[.agg #[.int .i64 W.low, .slice a n c], .bool false]) ∧ rowS.rep w' F [.slice a n c] W.seen)

theorem right_small {low : Int} {l : List Int} (h : Nx.Right ⟨low, l⟩) : Small l := fun x hx => by
  have h0 : (0 : Int) ≤ low := h.1
  have h1 : low ≤ x ∧ x ≤ 2147483647 := h.2.2.2.1 x hx
  omega
theorem small_ins {l : List Int} {x : Int} (h : Small l) (hx : 0 ≤ x ∧ x ≤ 2147483647) : Small (Nx.ins x l) := fun y hy => by
  rcases Nx.ins_mem.1 hy with rfl | hy
  · exact hx
  · exact h y hy

set_option maxHeartbeats 1000000 in
theorem accept (low : Int) (a : Option Addr) (n c : Nat) (l : List Int) (x : Int) (w : World) (h : rowS.rep w everywhere [.slice a n c] l) (hn : n ≤ 1000) (V : Win) (hV : Nx.put ⟨low, l⟩ x = V) :
    Calls Try.prog 9 #[.agg #[.int .i64 low, .slice a n c], .int .i64 x] w fun e w' => Took e w' (w.heap.size ≤ ·) ⟨low, l⟩ V x ∧ Below w.heap.size w w' := by
  have hl := (sliceS_len h).1
  have hA := Shape.low h
  have HV : Hid (Nx.settled low (Nx.ins x l) = V) := hV
  clear hV
  obtain ⟨q1, q2⟩ := two_boxes w 24 24 #[.int .i64 low, .slice a n c] #[.int .i64 0, .slice none 0 0]
  have HQ : Hid (Box ((w.alloc (.cells #[.int .i64 low, .slice a n c] 24)).alloc (.cells #[.int .i64 0, .slice none 0 0] 24)) w.heap.size 24 #[.int .i64 low, .slice a n c] ∧ Box ((w.alloc (.cells #[.int .i64 low, .slice a n c] 24)).alloc (.cells #[.int .i64 0, .slice none 0 0] 24)) (w.heap.size + 1) 24 #[.int .i64 0, .slice none 0 0] ∧ Below w.heap.size w ((w.alloc (.cells #[.int .i64 low, .slice a n c] 24)).alloc (.cells #[.int .i64 0, .slice none 0 0] 24))) := ⟨q1, q2, bel_alloc (new_bel _ _) _⟩
  clear q1 q2 h
  go_enter Try.func9, Try.ntmps9
  go_wp2_with fail
  refine (clone a n c l _ (Shape.any (Shape.now hA HQ.out.2.2)) hn).mono ?_
  rintro e u1 ⟨hb1, a1, c1, rfl, ho1⟩
  have k1 := HQ.out.1.keep hb1
  have k2 := HQ.out.2.1.keep hb1
  have hB := bel_then HQ.out.2.2 hb1
  have ho2 : Own (intS .i64) u1 (w.heap.size + 2) 3 (.slice a1 n c1) l := by simpa using ho1
  clear HQ hb1 ho1
  have p0 := k1.cell 0 rfl
  have p1 := k1.cell 1 rfl
  go_wp2_with fail
  refine (right low a n c l u1 (Shape.any (Shape.now hA hB))).mono ?_
  rintro e u2 ⟨hs2, hb2⟩
  have ho3 := ho2.keep hb2
  have k3 := k1.keep hb2
  have k4 := k2.keep hb2
  have hB2 := bel_then hB hb2
  clear k1 k2 hB hb2 ho2 p0 p1
  have p0 := k3.cell 0 rfl
  have p1 := k3.cell 1 rfl
  have z0 := k4.cell 0 rfl
  have z1 := k4.cell 1 rfl
  have f0 := k4.free 0
  have f1 := k4.free 1
  have hrep := Own.high ho3
  have HN : Hid (¬ Nx.Fresh ⟨low, l⟩ x → Took (.returned (.tuple #[.agg #[.int .i64 low, .slice a1 n c1], .bool false])) ((u2.setCell ⟨w.heap.size + 1, 0, none⟩ (.int .i64 low)).setCell ⟨w.heap.size + 1, 1, none⟩ (.slice a1 n c1)) (w.heap.size ≤ ·) ⟨low, l⟩ V x ∧ Below w.heap.size w ((u2.setCell ⟨w.heap.size + 1, 0, none⟩ (.int .i64 low)).setCell ⟨w.heap.size + 1, 1, none⟩ (.slice a1 n c1))) := fun hf =>
    ⟨.inr ⟨hf, a1, n, c1, rfl, rowS.mono (Shape.all2 hrep (fun k hk _ => by omega) _ _) fun b hb _ => by omega⟩, bel_all2 hB2 (by omega) _ _⟩
  by_cases hR : Nx.Right ⟨low, l⟩
  · rw [hs2.is hR]
    by_cases hx1 : 2147483647 < x
    · clear hrep
      go_wp2
      refine ret_var Try.underlying24 Try.infoWin rfl rfl rfl rfl (k4.all2 _ _) rfl ?_
      exact HN.out fun hf => by have := hf.2.2.1; omega
    by_cases hx2 : x < low
    · clear hrep
      go_wp2
      refine ret_var Try.underlying24 Try.infoWin rfl rfl rfl rfl (k4.all2 _ _) rfl ?_
      exact HN.out fun hf => by have := hf.2.1; simp only at this; omega
    clear HN
    go_wp2_with fail
    refine (search a1 n c1 l x u2 (Shape.any hrep) hn hR.2.2.2.2).mono ?_
    rintro e u3 ⟨rfl, hb3⟩
    have ho5 := ho3.keep hb3
    have k5 := k3.keep hb3
    have k6 := k4.keep hb3
    have hB3 := bel_then hB2 hb3
    clear k3 k4 hB2 hb3 ho3 p0 p1 z0 z1 f0 f1 hrep
    have p0 := k5.cell 0 rfl
    have p1 := k5.cell 1 rfl
    have z0 := k6.cell 0 rfl
    have z1 := k6.cell 1 rfl
    have f0 := k6.free 0
    have f1 := k6.free 1
    by_cases hin : x ∈ l
    · have ec : l.contains x = true := by simp [hin]
      rw [ec]
      have hrep := Own.high ho5
      have HN : Hid (Took (.returned (.tuple #[.agg #[.int .i64 low, .slice a1 n c1], .bool false])) ((u3.setCell ⟨w.heap.size + 1, 0, none⟩ (.int .i64 low)).setCell ⟨w.heap.size + 1, 1, none⟩ (.slice a1 n c1)) (w.heap.size ≤ ·) ⟨low, l⟩ V x ∧ Below w.heap.size w ((u3.setCell ⟨w.heap.size + 1, 0, none⟩ (.int .i64 low)).setCell ⟨w.heap.size + 1, 1, none⟩ (.slice a1 n c1))) :=
        ⟨.inr ⟨fun hf => hf.2.2.2 hin, a1, n, c1, rfl, rowS.mono (Shape.all2 hrep (fun k hk _ => by omega) _ _) fun b hb _ => by omega⟩, bel_all2 hB3 (by omega) _ _⟩
      clear hrep
      go_wp2
      refine ret_var Try.underlying24 Try.infoWin rfl rfl rfl rfl (k6.all2 _ _) rfl ?_
      exact HN.out
    have ec : l.contains x = false := by simp [hin]
    rw [ec]
    have HF : Hid (Nx.Fresh ⟨low, l⟩ x) := ⟨hR, by show low ≤ x; omega, by omega, hin⟩
    have h32 : n ≤ 32 := by have := hR.2.2.1; simp only at this; omega
    have hlow0 : 0 ≤ low := hR.1
    have hlow1 : low ≤ 2147483647 := hR.2.1
    have HI : Hid (insAt l (l.countP (· < x)) x = Nx.ins x l) := Nx.ins_place hR.2.2.2.2 hin
    have hcnt : l.countP (· < x) ≤ n := by rw [← hl]; exact List.countP_le_length
    have HM : Hid (Small (Nx.ins x l)) := small_ins (right_small hR) ⟨by omega, by omega⟩
    have hlt0 : w.heap.size < u3.heap.size := k5.lt
    have hlt1 : w.heap.size + 1 < u3.heap.size := k6.lt
    have hnew : Box (u3.alloc (.cells #[.int .i64 x] 3)).drew u3.heap.size 3 #[.int .i64 x] := Box.new u3 _ _
    have hbn : Below u3.heap.size u3 (u3.alloc (.cells #[.int .i64 x] 3)).drew := (new_bel u3 _).drew
    have HC : Hid (Calls _ _ _ _ _) := insert a1 n c1 l x (l.countP (· < x)) u3.heap.size (w.heap.size + 2) _ (ho5.keep hbn) hnew (fun e => by have := (ho5.lt _ e.symm).2; omega) hcnt hn (by have := hbn.size; omega)
    have k7 := k5.keep hbn
    have k8 := k6.keep hbn
    have hB4 := bel_then hB3 hbn
    have HB : Hid (Below w.heap.size w (u3.alloc (.cells #[.int .i64 x] 3)).drew ∧ Box (u3.alloc (.cells #[.int .i64 x] 3)).drew w.heap.size 24 #[.int .i64 low, .slice a n c] ∧ Box (u3.alloc (.cells #[.int .i64 x] 3)).drew (w.heap.size + 1) 24 #[.int .i64 0, .slice none 0 0]) := ⟨hB4, k7, k8⟩
    have HL : Hid (l.length = n) := hl
    clear hR hin ec hnew hbn ho5 k7 k8 hB4 hB3 hs2 hl
    generalize l.countP (· < x) = cnt at *
    go_wp2
    go_region_with
      (first
        | (go_at_call 17; refine HC.out.mono ?_; rintro e u4 ⟨hb4, a4, c4, rfl, hr4⟩; have k9 := HB.out.2.1.below hb4 (by omega); have k10 := HB.out.2.2.below hb4 (by omega); have hB5 := HB.out.1.trans (hb4.mono (by omega)); have p0' := k9.cell 0 rfl; rw [HI.out] at hr4)
        | (go_at_call 16; refine (settle low a4 (n + 1) c4 (Nx.ins x l) u4 _ hr4 (by omega) ⟨hlow0, by omega⟩ HM.out V HV.out).mono ?_; rintro e u5 ⟨hb5, a5, n5, c5, rfl, hr5⟩; have k11 := k10.keep hb5; have hB6 := bel_then hB5 hb5; have y0 := k11.cell 0 rfl; have y1 := k11.cell 1 rfl; have g0 := k11.free 0; have g1 := k11.free 1))
    all_goals
      go_wp2
      refine ret_var Try.underlying24 Try.infoWin rfl rfl rfl rfl (k11.all2 _ _) rfl ?_
      exact ⟨.inl ⟨HF.out, a5, n5, c5, rfl, rowS.mono (Shape.all2 hr5 (fun k hk _ => by omega) _ _) fun b hb _ => by omega⟩, bel_all2 hB6 (by omega) _ _⟩
  · rw [hs2.not hR]
    clear hrep
    go_wp2
    refine ret_var Try.underlying24 Try.infoWin rfl rfl rfl rfl (k4.all2 _ _) rfl ?_
    exact HN.out fun hf => hR hf.1

end Go.Proofs.Ytlfbponacoombaa
