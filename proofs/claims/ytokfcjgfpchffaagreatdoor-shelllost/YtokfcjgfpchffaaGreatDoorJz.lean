/- 4 texts as one, in their order: FltK, FltL, FltM, FltN. -/
import Derived.Test.YtokfcjgfpchffaaGreatDoorFltI
import Derived.Test.YtokfcjgfpchffaaGreatDoorFltJ
import Derived.Test.YtokfcjgfpchffaaGreatDoorKi
import Derived.Test.YtokfcjgfpchffaaGreatDoorJy
import Derived.Test.YtokfcjgfpchffaaGreatDoorKp
import Derived.Test.YtokfcjgfpchffaaGreatDoorLm
import Derived.Test.YtokfcjgfpchffaaGreatDoorJk
import Derived.Test.YtokfcjgfpchffaaGreatDoorJh

/- What Deliver of package fleet does when called. -/
namespace Go.Proofs.YtokfcjgfpchffaaGreatDoor
open Go.ChangeShapes Go.WideShapes Go.ChangeAt Go.RowKit


/-- What holds of a fleet between the calls. -/
structure Alive (dim : Int) (ms : List Ly) (T : List (List Int)) (s : Ft.St) : Prop where
  m : Md.Right dim ms
  t : Md.TRight dim T
  i : Ft.Inv dim ms T s
  n : Ft.Lone s
theorem qs_same {ms : List Ly} {s s' : Ft.St} (h1 : s'.lay = s.lay) (h2 : s'.toks = s.toks) : Ft.qs ms s' = Ft.qs ms s := by
  unfold Ft.qs Ft.ps Ft.lyAt
  rw [h1, h2]
theorem qs_node {dim : Int} {ms : List Ly} {s : Ft.St} {m : Wx.Msg} (h : 1 ≤ m.to ∧ m.to ≤ 4) : Ft.qs ms (Ft.took dim ms s m) = Ft.qs ms s := by
  rw [Ft.took_node h rfl]
  cases Nd.work dim ms s.e s.h m.to (s.ls.getD (m.to - 1).toNat []) m with
  | none => rfl
  | some x => rfl
theorem qs_drop (ms : List Ly) (s : Ft.St) (k : Nat) : Ft.qs ms (Ft.drop s k) = Ft.qs ms s := rfl
theorem took_else {dim : Int} {ms : List Ly} {s : Ft.St} {m : Wx.Msg} (h0 : m.to ≠ 0) (h4 : ¬ m.to ≤ 4) : Ft.took dim ms s m = s := by
  unfold Ft.took
  rw [if_neg (fun h => h4 h.2), if_neg (fun h => h0 h.1)]
section
variable {O V : Nat → Prop} {w : World} {p : Nat} {dim : Int} {ms : List Ly} {s : Ft.St} {q : List Pt}
set_option maxRecDepth 100000 in
theorem fdeliver_out (H : FlAt O V w p dim ms s q) (hf : s.bag.length ≤ 200) (i : Int) (hi : ¬ (0 ≤ i ∧ i < (s.bag.length : Int))) :
    Calls Tryz.prog 21 #[.pointer (some ⟨p, 0, none⟩), .int .i64 i] w fun e w' => e = .returned (.int .i64 4) ∧ Below w.heap.size w w' := by
  have HT : Hid (Calls _ _ _ _ _) := ftake_out H hf i hi
  clear hf hi H
  go_enter Tryz.func21, Tryz.ntmps21
  go_wp2_with fail
  refine HT.out.mono ?_
  rintro e u1 ⟨rfl, hb1⟩
  have q4 : ((4 : Int) != 0) = true := rfl
  go_wp2
  go_ret
  exact ⟨rfl, hb1⟩
set_option maxRecDepth 100000 in
set_option maxHeartbeats 4000000 in
theorem fdeliver_in {T : List (List Int)} (H : FlAt O V w p dim ms s (Ft.qs ms s)) (hA : Alive dim ms T s) (k : Nat) (hk : k < s.bag.length) :
    Calls Tryz.prog 21 #[.pointer (some ⟨p, 0, none⟩), .int .i64 (k : Int)] w fun e w' => e = .returned (.int .i64 0) ∧ ∃ V', Mv V V' w w' ∧ FlAt O V' w' p dim ms (Ft.deliver dim ms s k) (Ft.qs ms (Ft.deliver dim ms s k)) := by
  obtain ⟨m, hm⟩ : ∃ m, s.bag.getD k Wx.zero = m := ⟨_, rfl⟩
  have HT : Hid (Calls _ _ _ _ _) := ftake_in H hA.i.few k hk m hm
  have hg : Ft.Good ms T s.lay m := by rw [← hm]; exact hA.i.bag _ (in_of hk _)
  have hdl : Ft.deliver dim ms s k = Ft.took dim ms (Ft.drop s k) m := by unfold Ft.deliver; rw [if_pos hk, hm]
  have hsz := enc_size m hg.1.2.2.2.1
  have htk := enc_take hg.1
  have HDL := hid hdl
  have HG := hid hg
  have HA : Hid (Alive dim ms T (Ft.drop s k)) := ⟨hA.m, hA.t, hA.i.drop k, hA.n⟩
  clear hg hdl hm hA hk H
  obtain ⟨x0, x1, x2, x3, x4, x5, x6, x7, x8, x9, l⟩ := m
  have HW : Hid (∀ u, Calls Tryz.prog 52 #[.string (enc ⟨x0, x1, x2, x3, x4, x5, x6, x7, x8, x9, l⟩)] u fun e w' => Below u.heap.size u w' ∧ ∃ ya yn yc, e = .returned (.tuple #[.agg #[.int .i64 x0, .int .i64 x1, .int .i64 x2, .int .i64 x3, .int .i64 x4, .int .i64 x5, .int .i64 x6, .int .i64 x7, .int .i64 x8, .int .i64 x9, .slice ya yn yc], .int .i64 0]) ∧ rowS.rep w' (u.heap.size ≤ ·) [.slice ya yn yc] l) := fun u => wtakeH _ (by unfold maxLen; omega) x0 x1 x2 x3 x4 x5 x6 x7 x8 x9 l 0 htk u
  have hto : 0 ≤ x2 := (HG.out.1.2.2.1 x2 (by simp [Wx.ten])).1
  clear htk hsz
  go_enter Tryz.func21, Tryz.ntmps21
  go_wp2_with fail
  refine HT.out.mono ?_
  rintro e u1 ⟨rfl, hm1, hat1⟩
  generalize enc ⟨x0, x1, x2, x3, x4, x5, x6, x7, x8, x9, l⟩ = t at *
  have HM1 := hid hm1
  have HAT1 := hid hat1
  have q0 : ((0 : Int) != 0) = false := rfl
  clear hm1 hat1 HT
  go_wp2_with fail
  refine (HW.out u1).mono ?_
  rintro e u2 ⟨hb2, ya, yn, yc, rfl, hr2⟩
  have hbn := new_bel u2 (.cells #[.int .i64 x0, .int .i64 x1, .int .i64 x2, .int .i64 x3, .int .i64 x4, .int .i64 x5, .int .i64 x6, .int .i64 x7, .int .i64 x8, .int .i64 x9, .slice ya yn yc] 100)
  have kx := Box.new u2 100 #[.int .i64 x0, .int .i64 x1, .int .i64 x2, .int .i64 x3, .int .i64 x4, .int .i64 x5, .int .i64 x6, .int .i64 x7, .int .i64 x8, .int .i64 x9, .slice ya yn yc]
  have hb3 := bel_then hb2 hbn
  have hat3 := HAT1.out.keep hb3
  have hm3 := HM1.out.bel hb3
  have hr2' : rowS.rep u2 (Out O V) [.slice ya yn yc] l := by
    obtain ⟨la, ln, lc, ha, hn, hc, a0, n0, c0, a1, n1, c1, a2, n2, c2, a3, n3, c3, fa, fn, fc, ta, tn, tc, qa, qn, qc, aa, an, ac, hO⟩ := HAT1.out.on
    exact out_new hO.r hr2
  have hr3 := Shape.below hr2' hbn
  have HM3 := hid hm3
  have HAT3 := hid hat3
  have HR3 := hid hr3
  clear hm3 hat3 hr3 hr2' hr2 hb3 hbn hb2 HM1 HAT1 HW
  go_upto_region 5 with fail
  generalize u2.alloc (.cells #[.int .i64 x0, .int .i64 x1, .int .i64 x2, .int .i64 x3, .int .i64 x4, .int .i64 x5, .int .i64 x6, .int .i64 x7, .int .i64 x8, .int .i64 x9, .slice ya yn yc] 100) = U at *
  have d0 := kx.cell 0 rfl
  have d1 := kx.cell 1 rfl
  have d2 := kx.cell 2 rfl
  have d3 := kx.cell 3 rfl
  have d4 := kx.cell 4 rfl
  have d5 := kx.cell 5 rfl
  have d6 := kx.cell 6 rfl
  have d7 := kx.cell 7 rfl
  have d8 := kx.cell 8 rfl
  have d9 := kx.cell 9 rfl
  have d10 := kx.cell 10 rfl
  rcases (by omega : x2 = 0 ∨ x2 = 1 ∨ x2 = 2 ∨ x2 = 3 ∨ x2 = 4 ∨ 4 < x2) with rfl | rfl | rfl | rfl | rfl | hx
  · have g0 : ((0 : Int) == 0) = true := rfl
    have HC : Hid (Calls _ _ _ _ _) := fhear (T := T) HAT3.out HA.out.i HA.out.m HA.out.t x0 x1 x3 x4 x5 x6 x7 x8 x9 ya yn yc l HR3.out HG.out
    go_wp2_with (go_at_call 53; refine HC.out.mono ?_; rintro e u5 ⟨rfl, V5, hm5, hat5⟩)
    go_ret
    rw [HDL.out]
    exact ⟨rfl, V5, HM3.out.trans hm5, hat5⟩
  · have g0 : ((1 : Int) == 0) = false := rfl
    have HC : Hid (Calls _ _ _ _ _) := fwork1 (T := T) HAT3.out HA.out.i HA.out.m HA.out.t HA.out.n x0 x1 x3 x4 x5 x6 x7 x8 x9 ya yn yc l (Shape.any HR3.out) HG.out
    go_wp2_with (go_at_call 54; refine HC.out.mono ?_; rintro e u5 ⟨rfl, hm5, hat5⟩)
    go_ret
    rw [HDL.out, qs_node (by show (1 : Int) ≤ 1 ∧ (1 : Int) ≤ 4; omega)]
    exact ⟨rfl, V, HM3.out.trans hm5, hat5⟩
  · have g0 : ((2 : Int) == 0) = false := rfl
    have HC : Hid (Calls _ _ _ _ _) := fwork2 (T := T) HAT3.out HA.out.i HA.out.m HA.out.t HA.out.n x0 x1 x3 x4 x5 x6 x7 x8 x9 ya yn yc l (Shape.any HR3.out) HG.out
    go_wp2_with (go_at_call 54; refine HC.out.mono ?_; rintro e u5 ⟨rfl, hm5, hat5⟩)
    go_ret
    rw [HDL.out, qs_node (by show (1 : Int) ≤ 2 ∧ (2 : Int) ≤ 4; omega)]
    exact ⟨rfl, V, HM3.out.trans hm5, hat5⟩
  · have g0 : ((3 : Int) == 0) = false := rfl
    have HC : Hid (Calls _ _ _ _ _) := fwork3 (T := T) HAT3.out HA.out.i HA.out.m HA.out.t HA.out.n x0 x1 x3 x4 x5 x6 x7 x8 x9 ya yn yc l (Shape.any HR3.out) HG.out
    go_wp2_with (go_at_call 54; refine HC.out.mono ?_; rintro e u5 ⟨rfl, hm5, hat5⟩)
    go_ret
    rw [HDL.out, qs_node (by show (1 : Int) ≤ 3 ∧ (3 : Int) ≤ 4; omega)]
    exact ⟨rfl, V, HM3.out.trans hm5, hat5⟩
  · have g0 : ((4 : Int) == 0) = false := rfl
    have HC : Hid (Calls _ _ _ _ _) := fwork4 (T := T) HAT3.out HA.out.i HA.out.m HA.out.t HA.out.n x0 x1 x3 x4 x5 x6 x7 x8 x9 ya yn yc l (Shape.any HR3.out) HG.out
    go_wp2_with (go_at_call 54; refine HC.out.mono ?_; rintro e u5 ⟨rfl, hm5, hat5⟩)
    go_ret
    rw [HDL.out, qs_node (by show (1 : Int) ≤ 4 ∧ (4 : Int) ≤ 4; omega)]
    exact ⟨rfl, V, HM3.out.trans hm5, hat5⟩
  · have g0 : (x2 == 0) = false := by rw [beq_eq_false_iff_ne]; omega
    have g4 : ¬ x2 ≤ 4 := by omega
    have HTK : Hid (Ft.took dim ms (Ft.drop s k) ⟨x0, x1, x2, x3, x4, x5, x6, x7, x8, x9, l⟩ = Ft.drop s k) := took_else (by show x2 ≠ 0; omega) g4
    go_wp2
    go_ret
    rw [HDL.out, HTK.out]
    exact ⟨rfl, V, HM3.out, HAT3.out⟩
end

end Go.Proofs.YtokfcjgfpchffaaGreatDoor

/- What New of package fleet does when called. -/
namespace Go.Proofs.YtokfcjgfpchffaaGreatDoor
open Go.ChangeShapes Go.WideShapes Go.ChangeAt Go.RowKit


/-- May a batch go out? -/
def May (dim : Int) (ms : List Ly) (e : Int) (h : List (List Int)) (T : List (List Int)) : Prop := Md.Right dim ms ∧ Md.TRight dim T ∧ Pl.Right e h ∧ ∀ l ∈ ms, l.2.1.length ≤ h.length
/-- What is handed in, in memory. -/
structure NewIn (I : Nat → Prop) (w : World) (a : Option Addr) (n c : Nat) (ms : List Ly) (pa : Option Addr) (pn pc : Nat) (h : List (List Int)) (b : Option Addr) (m d : Nat) (T : List (List Int)) : Prop where
  mm : lysS.rep w I [.slice a n c] ms
  pp : matS.rep w I [.slice pa pn pc] h
  tt : matS.rep w I [.slice b m d] T
  lt : ∀ b, I b → b < w.heap.size
  mn : n ≤ 1000
  mz : ∀ l ∈ ms, Md.LSized l
  ps : Ex.Sized h
  ts : Ex.Sized T
theorem NewIn.keep {I : Nat → Prop} {w w' : World} {a : Option Addr} {n c : Nat} {ms : List Ly} {pa : Option Addr} {pn pc : Nat} {h : List (List Int)} {b : Option Addr} {m d : Nat} {T : List (List Int)} (H : NewIn I w a n c ms pa pn pc h b m d T) (hb : Below w.heap.size w w') : NewIn I w' a n c ms pa pn pc h b m d T :=
  ⟨Shape.below H.mm hb, Shape.below H.pp hb, Shape.below H.tt hb, fun b hI => Nat.lt_of_lt_of_le (H.lt b hI) hb.size, H.mn, H.mz, H.ps, H.ts⟩
theorem start0_inv {dim : Int} {ms : List Ly} {T : List (List Int)} {e : Int} {h : List (List Int)} (hR : Md.Right dim ms) (hm : Pl.Right e h) (hw : ∀ l ∈ ms, l.2.1.length ≤ h.length) : Ft.Inv dim ms T (Ft.at0 ms ⟨e, h, [[], [], [], []], [], 0, T, []⟩ T 0) := by
  have h0 : 0 < ms.length := by have := hR.2.2.1; omega
  refine ⟨Nat.zero_le _, rfl, hm, hw, rfl, fun l hl x hx => ?_, fun m hx => (by cases hx), Nat.zero_le _, ?_, fun j v hv => ?_⟩
  · have hl' : l ∈ ([[], [], [], []] : List (List En)) := hl
    have : l = [] := by simpa using hl'
    rw [this] at hx; cases hx
  · show (if 0 < ms.length then _ else _ : List (Option (List Int))).length = if 0 < ms.length then (Md.parts (ms.getD 0 ly0) T).length else 0
    rw [if_pos h0, if_pos h0, List.length_replicate]
  · replace hv : (if 0 < ms.length then List.replicate (Md.parts (ms.getD 0 ly0) T).length (none : Option (List Int)) else [])[j]? = some (some v) := hv
    rw [if_pos h0] at hv
    have := List.eq_of_mem_replicate (List.mem_of_getElem? hv)
    cases this
theorem on_start {dim : Int} {ms : List Ly} {T : List (List Int)} (hR : Md.Right dim ms) (hT : Md.TRight dim T) (e : Int) (h : List (List Int)) : Ft.on ms (Ft.start ms e h T) = Ft.start ms e h T := by
  unfold Ft.on
  rw [if_neg (fun hc => Ft.start_settled hR hT e h hc.1 hc.2)]

theorem Mx.right_short {m : List (List Int)} {r c : Int} (h : Mx.Right m r c) (h1 : r ≤ 1000) (h2 : c ≤ 1000) : Pl.Short m := ⟨by have := h.1; omega, fun l hl => by have := (h.2 l hl).1; omega⟩
theorem Pl.right_short {e : Int} {h : List (List Int)} (hR : Pl.Right e h) : Pl.Short h := ⟨by have := hR.2.1; omega, fun l hl => by have := Pl.row_len (hR.2.2 l hl); omega⟩
theorem Md.tright_short {dim : Int} {T : List (List Int)} (hT : Md.TRight dim T) (hd : dim ≤ 8) : Pl.Short T := Mx.right_short hT.2.2 (by have := hT.2.1; omega) (by omega)
theorem Md.lright_short {l : Ly} {dim : Int} (h : Md.LRight l dim) (hd : dim ≤ 8) : l.2.1.length ≤ 1000 ∧ Pl.Short l.1 ∧ ∀ y ∈ l.2.1, Pl.Short y.1 ∧ Pl.Short y.2.1 := by
  obtain ⟨h1, h2, h3, h4, h5, h6⟩ := h
  refine ⟨by omega, Mx.right_short h3 (by omega) (by omega), fun x hx => ?_⟩
  obtain ⟨a1, a2, a3, a4⟩ := h6 x hx
  exact ⟨Mx.right_short a3 (by omega) (by omega), Mx.right_short a4 (by omega) (by omega)⟩
/-- A fleet, as New lays it. -/
theorem fl_new {I O : Nat → Prop} {u : World} {Z : Nat} {dim : Int} {a : Option Addr} {n c : Nat} {ms : List Ly} {ep : Int} {pa : Option Addr} {pn pc : Nat} {h : List (List Int)} {b : Option Addr} {m d : Nat} {T : List (List Int)} (hm : lysS.rep u (fun b => I b ∨ Z ≤ b) [.slice a n c] ms) (hh : matS.rep u (fun b => I b ∨ Z ≤ b) [.slice pa pn pc] h) (ht : matS.rep u (fun b => I b ∨ Z ≤ b) [.slice b m d] T)
    (hO : ∀ b, O b → b < Z ∧ ¬ I b) (hZ : Z ≤ u.heap.size) :
    FlAt O (fun b => b = u.heap.size) (u.alloc (.cells #[.int .i64 dim, .slice a n c, .int .i64 ep, .slice pa pn pc, .slice none 0 0, .slice none 0 0, .slice none 0 0, .slice none 0 0, .slice none 0 0, .int .i64 0, .slice b m d, .slice none 0 0, .slice none 0 0] 92)) u.heap.size dim ms ⟨ep, h, [[], [], [], []], [], 0, T, []⟩ [] := by
  have hbn := new_bel u (.cells #[.int .i64 dim, .slice a n c, .int .i64 ep, .slice pa pn pc, .slice none 0 0, .slice none 0 0, .slice none 0 0, .slice none 0 0, .slice none 0 0, .int .i64 0, .slice b m d, .slice none 0 0, .slice none 0 0] 92)
  have hout : ∀ b, (I b ∨ Z ≤ b) → b < u.heap.size → Out O (fun b => b = u.heap.size) b := fun b hb hlt => ⟨fun e => by have e2 : b = u.heap.size := e; omega, fun ho => hb.elim (hO b ho).2 (fun h => by have := (hO b ho).1; omega)⟩
  have hsz : (u.alloc (.cells #[.int .i64 dim, .slice a n c, .int .i64 ep, .slice pa pn pc, .slice none 0 0, .slice none 0 0, .slice none 0 0, .slice none 0 0, .slice none 0 0, .int .i64 0, .slice b m d, .slice none 0 0, .slice none 0 0] 92)).heap.size = u.heap.size + 1 := by simp
  exact ⟨a, n, c, pa, pn, pc, none, 0, 0, none, 0, 0, none, 0, 0, none, 0, 0, none, 0, 0, b, m, d, none, 0, 0, none, 0, 0, Box.new u _ _,
    ⟨fun b hb => by rw [hsz]; have e2 : b = u.heap.size := hb; omega, fun b hb => by rw [hsz]; have := (hO b hb).1; omega, fun b hb ho => by have e2 : b = u.heap.size := hb; have := (hO b ho).1; omega, rfl, Shape.below (Shape.mono _ hm hout) hbn, Shape.below (Shape.mono _ hh hout) hbn, rep_none _ _ _, rep_none _ _ _, rep_none _ _ _, rep_none _ _ _, rep_none _ _ _, Shape.below (Shape.mono _ ht hout) hbn, rep_none _ _ _, Own.nil _ _ _ _, fun b hb => by cases hb⟩⟩

set_option maxRecDepth 100000 in
set_option maxHeartbeats 2000000 in
theorem fnew_no {I : Nat → Prop} (dim : Int) (a : Option Addr) (n c : Nat) (ms : List Ly) (ep : Int) (pa : Option Addr) (pn pc : Nat) (h : List (List Int)) (b : Option Addr) (m d : Nat) (T : List (List Int)) (w : World) (H : NewIn I w a n c ms pa pn pc h b m d T) (hno : ¬ May dim ms ep h T) :
    Calls Tryz.prog 17 #[.agg #[.int .i64 dim, .slice a n c], .agg #[.int .i64 ep, .slice pa pn pc], .slice b m d] w fun e w' => e = .returned (.tuple #[.pointer none, .int .i64 1]) ∧ Below w.heap.size w w' := by
  have hB := bel_two w (.cells #[.int .i64 dim, .slice a n c] 41) (.cells #[.int .i64 ep, .slice pa pn pc] 50)
  have km := (Box.new w 41 #[.int .i64 dim, .slice a n c]).keep (new_bel _ (.cells #[.int .i64 ep, .slice pa pn pc] 50))
  have kp := Box.new (w.alloc (.cells #[.int .i64 dim, .slice a n c] 41)) 50 #[.int .i64 ep, .slice pa pn pc]
  have e1 : (w.alloc (.cells #[.int .i64 dim, .slice a n c] 41)).heap.size = w.heap.size + 1 := by simp
  rw [e1] at kp
  have H1 := H.keep hB
  clear e1
  have HC1 : Hid (Calls _ _ _ _ _) := mright a n c ms dim _ (Shape.any H1.mm) H.mn H.mz
  have hln := (sliceS_len H.pp).1
  have HNO := hid hno
  have HN := hid H1
  clear hno H H1
  go_enter Tryz.func17, Tryz.ntmps17
  go_upto_region 1 with fail
  generalize (w.alloc (.cells #[.int .i64 dim, .slice a n c] 41)).alloc (.cells #[.int .i64 ep, .slice pa pn pc] 50) = W at *
  have m0 := km.cell 0 rfl
  have m1 := km.cell 1 rfl
  go_wp2_with fail
  refine HC1.out.mono ?_
  rintro e u1 ⟨hs1, hb1⟩
  have hB1 := bel_then hB hb1
  have km1 := km.keep hb1
  have kp1 := kp.keep hb1
  clear m0 m1
  by_cases d1 : Md.Right dim ms
  case neg =>
    rw [hs1.not d1]
    clear d1 hs1 km kp km1 kp1
    go_wp2
    go_ret2
    exact ⟨rfl, hB1⟩
  rw [hs1.is d1]
  have D1 := hid d1
  have HC2 : Hid (Calls _ _ _ _ _) := mtokens a n c dim b m d T u1 (Shape.any (HN.out.keep hb1).tt) HN.out.ts
  have m0 := km1.cell 0 rfl
  have m1 := km1.cell 1 rfl
  clear hs1 d1 km kp
  go_wp2_with fail
  refine HC2.out.mono ?_
  rintro e u2 ⟨hs2, hb2⟩
  have hB2 := bel_then hB1 hb2
  have km2 := km1.keep hb2
  have kp2 := kp1.keep hb2
  clear m0 m1
  by_cases d2 : Md.TRight dim T
  case neg =>
    rw [hs2.not d2]
    clear d2 hs2 km1 kp1 km2 kp2
    go_wp2
    go_ret2
    exact ⟨rfl, hB2⟩
  rw [hs2.is d2]
  have D2 := hid d2
  have HC3 : Hid (Calls _ _ _ _ _) := pright ep pa pn pc h u2 (Shape.any (HN.out.keep (bel_then hb1 hb2)).pp) HN.out.ps
  have p0 := kp2.cell 0 rfl
  have p1 := kp2.cell 1 rfl
  clear hs2 d2 km1 kp1
  go_wp2_with fail
  refine HC3.out.mono ?_
  rintro e u3 ⟨hs3, hb3⟩
  have hB3 := bel_then hB2 hb3
  have km3 := km2.keep hb3
  have kp3 := kp2.keep hb3
  clear p0 p1
  by_cases d3 : Pl.Right ep h
  case neg =>
    rw [hs3.not d3]
    clear d3 hs3 km2 kp2 km3 kp3
    go_wp2
    go_ret2
    exact ⟨rfl, hB3⟩
  rw [hs3.is d3]
  have HC4 : Hid (Calls _ _ _ _ _) := fhasall dim a n c ms ep pa pn pc u3 (Shape.any (HN.out.keep (bel_then (bel_then hb1 hb2) hb3)).mm) HN.out.mn false ⟨fun h9 => (by cases h9), fun h9 => absurd ⟨D1.out, D2.out, d3, fun l hl => by rw [hln]; exact h9 l hl⟩ HNO.out⟩
  have p0 := kp3.cell 0 rfl
  have p1 := kp3.cell 1 rfl
  have m0 := km3.cell 0 rfl
  have m1 := km3.cell 1 rfl
  clear hs3 d3 km2 kp2 km3 kp3
  go_wp2_with fail
  refine HC4.out.mono ?_
  rintro e u4 ⟨rfl, hb4⟩
  have hB4 := bel_then hB3 hb4
  go_wp2
  go_ret2
  exact ⟨rfl, hB4⟩
set_option maxRecDepth 100000 in
set_option maxHeartbeats 4000000 in
theorem fnew {I O : Nat → Prop} (dim : Int) (a : Option Addr) (n c : Nat) (ms : List Ly) (ep : Int) (pa : Option Addr) (pn pc : Nat) (h : List (List Int)) (b : Option Addr) (m d : Nat) (T : List (List Int)) (w : World) (H : NewIn I w a n c ms pa pn pc h b m d T) (hO : ∀ b, O b → b < w.heap.size ∧ ¬ I b) (hyes : May dim ms ep h T) :
    Calls Tryz.prog 17 #[.agg #[.int .i64 dim, .slice a n c], .agg #[.int .i64 ep, .slice pa pn pc], .slice b m d] w fun e w' => Below w.heap.size w w' ∧ ∃ p V, e = .returned (.tuple #[.pointer (some ⟨p, 0, none⟩), .int .i64 0]) ∧ (∀ b, V b → w.heap.size ≤ b) ∧ FlAt O V w' p dim ms (Ft.start ms ep h T) (Ft.qs ms (Ft.start ms ep h T)) := by
  have hB := bel_two w (.cells #[.int .i64 dim, .slice a n c] 41) (.cells #[.int .i64 ep, .slice pa pn pc] 50)
  have km := (Box.new w 41 #[.int .i64 dim, .slice a n c]).keep (new_bel _ (.cells #[.int .i64 ep, .slice pa pn pc] 50))
  have kp := Box.new (w.alloc (.cells #[.int .i64 dim, .slice a n c] 41)) 50 #[.int .i64 ep, .slice pa pn pc]
  have e1 : (w.alloc (.cells #[.int .i64 dim, .slice a n c] 41)).heap.size = w.heap.size + 1 := by simp
  rw [e1] at kp
  have H1 := H.keep hB
  clear e1
  have hln := (sliceS_len H.pp).1
  have HC1 : Hid (Calls _ _ _ _ _) := mright a n c ms dim _ (Shape.any H1.mm) H.mn H.mz
  have HY := hid hyes
  have HN := hid H1
  have HOO := hid hO
  clear hyes H H1 hO
  go_enter Tryz.func17, Tryz.ntmps17
  go_upto_region 1 with fail
  generalize (w.alloc (.cells #[.int .i64 dim, .slice a n c] 41)).alloc (.cells #[.int .i64 ep, .slice pa pn pc] 50) = W at *
  have m0 := km.cell 0 rfl
  have m1 := km.cell 1 rfl
  go_wp2_with fail
  refine HC1.out.mono ?_
  rintro e u1 ⟨hs1, hb1⟩
  rw [hs1.is HY.out.1]
  have hB1 := bel_then hB hb1
  have km1 := km.keep hb1
  have kp1 := kp.keep hb1
  have HC2 : Hid (Calls _ _ _ _ _) := mtokens a n c dim b m d T u1 (Shape.any (HN.out.keep hb1).tt) HN.out.ts
  clear m0 m1
  have m0 := km1.cell 0 rfl
  have m1 := km1.cell 1 rfl
  clear hs1 km kp
  go_wp2_with fail
  refine HC2.out.mono ?_
  rintro e u2 ⟨hs2, hb2⟩
  rw [hs2.is HY.out.2.1]
  have hB2 := bel_then hB1 hb2
  have km2 := km1.keep hb2
  have kp2 := kp1.keep hb2
  have HC3 : Hid (Calls _ _ _ _ _) := pright ep pa pn pc h u2 (Shape.any (HN.out.keep (bel_then hb1 hb2)).pp) HN.out.ps
  clear m0 m1
  have p0 := kp2.cell 0 rfl
  have p1 := kp2.cell 1 rfl
  clear hs2 km1 kp1
  go_wp2_with fail
  refine HC3.out.mono ?_
  rintro e u3 ⟨hs3, hb3⟩
  rw [hs3.is HY.out.2.2.1]
  have hB3 := bel_then hB2 hb3
  have km3 := km2.keep hb3
  have kp3 := kp2.keep hb3
  have HC4 : Hid (Calls _ _ _ _ _) := fhasall dim a n c ms ep pa pn pc u3 (Shape.any (HN.out.keep (bel_then (bel_then hb1 hb2) hb3)).mm) HN.out.mn true ⟨fun _ l hl => by rw [← hln]; exact HY.out.2.2.2 l hl, fun _ => rfl⟩
  clear p0 p1
  have p0 := kp3.cell 0 rfl
  have p1 := kp3.cell 1 rfl
  have m0 := km3.cell 0 rfl
  have m1 := km3.cell 1 rfl
  clear hs3 km2 kp2
  go_wp2_with fail
  refine HC4.out.mono ?_
  rintro e u4 ⟨rfl, hb4⟩
  have hB4 := bel_then hB3 hb4
  have km4 := km3.keep hb4
  have kp4 := kp3.keep hb4
  have HN4 := hid (HN.out.keep (bel_then (bel_then (bel_then hb1 hb2) hb3) hb4))
  clear p0 p1 m0 m1 km3 kp3 HC1 HC2 HC3 HC4
  have hD : Below u4.heap.size u4 u4.drew := (Below.refl _ u4).drew
  have HM : Hid (∀ u, Below u4.heap.size u4 u → Calls Tryz.prog 44 #[.agg #[.int .i64 dim, .slice a n c]] u fun e w' => Below u.heap.size u w' ∧ ∃ a' c', e = .returned (.agg #[.int .i64 dim, .slice a' n c']) ∧ lysS.rep w' (fun b => I b ∨ u4.heap.size ≤ b) [.slice a' n c'] ms) := fun u hu =>
    (fmodel (P := I) dim a n c ms u (HN4.out.keep hu).mm (HN4.out.keep hu).lt HN.out.mn (fun x hx => Md.lright_short (HY.out.1.2.2.2.2 x hx) HY.out.1.2.1)).mono fun e w' ⟨h1, a', c', h2, h3⟩ => ⟨h1, a', c', h2, lysS.mono h3 fun b hb _ => hb.elim .inl (fun h => .inr (Nat.le_trans hu.size h))⟩
  have HP : Hid (∀ u, Below u4.heap.size u4 u → Calls Tryz.prog 45 #[.agg #[.int .i64 ep, .slice pa pn pc]] u fun e w' => Below u.heap.size u w' ∧ ∃ a' c', e = .returned (.agg #[.int .i64 ep, .slice a' pn c']) ∧ matS.rep w' (fun b => I b ∨ u4.heap.size ≤ b) [.slice a' pn c'] h) := fun u hu =>
    (fmap (P := I) ep pa pn pc h u (HN4.out.keep hu).pp (HN4.out.keep hu).lt (Pl.right_short HY.out.2.2.1)).mono fun e w' ⟨h1, a', c', h2, h3⟩ => ⟨h1, a', c', h2, matS.mono h3 fun b hb _ => hb.elim .inl (fun h => .inr (Nat.le_trans hu.size h))⟩
  have HT : Hid (∀ u, Below u4.heap.size u4 u → Calls Tryz.prog 46 #[.slice b m d] u fun e w' => Below u.heap.size u w' ∧ ∃ a' c', e = .returned (.slice a' m c') ∧ matS.rep w' (fun b => I b ∨ u4.heap.size ≤ b) [.slice a' m c'] T) := fun u hu =>
    (frows (P := I) b m d T u (HN4.out.keep hu).tt (HN4.out.keep hu).lt (Md.tright_short HY.out.2.1 HY.out.1.2.1)).mono fun e w' ⟨h1, a', c', h2, h3⟩ => ⟨h1, a', c', h2, matS.mono h3 fun b hb _ => hb.elim .inl (fun h => .inr (Nat.le_trans hu.size h))⟩
  have HSS : Hid (∀ u, Below u4.heap.size u4 u → u.cell? ⟨w.heap.size, 0, none⟩ = some (.int .i64 dim) ∧ u.cell? ⟨w.heap.size, 1, none⟩ = some (.slice a n c) ∧ u.cell? ⟨w.heap.size + 1, 0, none⟩ = some (.int .i64 ep) ∧ u.cell? ⟨w.heap.size + 1, 1, none⟩ = some (.slice pa pn pc)) := fun u hu => ⟨(km4.keep hu).cell 0 rfl, (km4.keep hu).cell 1 rfl, (kp4.keep hu).cell 0 rfl, (kp4.keep hu).cell 1 rfl⟩
  obtain ⟨i1, i2, i3, i4⟩ := HSS.out u4 (Below.refl _ _)
  clear km4 kp4
  go_wp2
  go_region_held3 (fun u => u.cell? ⟨w.heap.size, 0, none⟩ = some (.int .i64 dim) ∧ u.cell? ⟨w.heap.size, 1, none⟩ = some (.slice a n c) ∧ u.cell? ⟨w.heap.size + 1, 0, none⟩ = some (.int .i64 ep) ∧ u.cell? ⟨w.heap.size + 1, 1, none⟩ = some (.slice pa pn pc))
    (first
      | exact HSS.out _ (by first | with_reducible assumption | with_reducible exact Below.refl _ _ | (with_reducible refine bel_alloc ?_ _; with_reducible assumption))
      | go_keep)
    (first
      | (go_at_call 46; refine (HT.out _ hd6).mono ?_; rintro e u7 ⟨hb7, t', tc', rfl, hr7⟩; have hd7 := bel_then hd6 hb7)
      | (go_at_call 45; refine (HP.out _ hd5).mono ?_; rintro e u6 ⟨hb6, h', hc', rfl, hr6⟩; have hd6 := bel_then hd5 hb6)
      | (go_at_call 44; refine (HM.out _ hD).mono ?_; rintro e u5 ⟨hb5, l', lc', rfl, hr5⟩; have hd5 := bel_then hD hb5))
  all_goals
    have hB7 := bel_then hB4 hd7
    have hat := fl_new (I := I) (O := O) (Z := u4.heap.size) (dim := dim) (ep := ep) (Shape.below hr5 (bel_then hb6 hb7)) (Shape.below hr6 hb7) hr7 (fun b ho => ⟨by have := (HOO.out b ho).1; have := hB4.size; omega, (HOO.out b ho).2⟩) hd7.size
    have hV0 : ∀ b, b = u7.heap.size → w.heap.size ≤ b := fun b e => by rw [e]; exact hB7.size
    have hB8 := bel_alloc hB7 (.cells #[.int .i64 dim, .slice l' n lc', .int .i64 ep, .slice h' pn hc', .slice none 0 0, .slice none 0 0, .slice none 0 0, .slice none 0 0, .slice none 0 0, .int .i64 0, .slice t' m tc', .slice none 0 0, .slice none 0 0] 92)
    have HB8 := hid hB8
    have HV0 := hid hV0
    have HAT := hid hat
    clear hat hV0 hB8 hB7 hr5 hr6 hr7 hd5 hd6 hd7 hb5 hb6 hb7 i1 i2 i3 i4 HM HP HT HSS HN HN4 hB4 hb4 hD
    go_upto_region 4 with fail
    generalize u7.alloc (.cells #[.int .i64 dim, .slice l' n lc', .int .i64 ep, .slice h' pn hc', .slice none 0 0, .slice none 0 0, .slice none 0 0, .slice none 0 0, .slice none 0 0, .int .i64 0, .slice t' m tc', .slice none 0 0, .slice none 0 0] 92) = U at *
    have HC5 : Hid (Calls _ _ _ _ _) := fbegin (T := T) HAT.out ⟨HY.out.1, HY.out.2.1, start0_inv HY.out.1 HY.out.2.2.1 HY.out.2.2.2⟩
    go_wp2_with fail
    refine HC5.out.mono ?_
    rintro e u8 ⟨rfl, V8, hm8, hat8⟩
    have hat9 : FlAt O V8 u8 u7.heap.size dim ms (Ft.start ms ep h T) (Ft.qs ms (Ft.start ms ep h T)) := by
      have h9 := qs_enter ms ⟨ep, h, [[], [], [], []], [], 0, T, []⟩ T 0
      have h8 : Ft.qs ms (Ft.start ms ep h T) = Ft.qs ms (Ft.at0 ms ⟨ep, h, [[], [], [], []], [], 0, T, []⟩ T 0) := h9
      rw [h8]
      exact hat8
    have HC6 : Hid (Calls _ _ _ _ _) := fcomeon (T := T) hat9 (Ft.Inv.start HY.out.1 HY.out.2.1 HY.out.2.2.1 HY.out.2.2.2) HY.out.1 HY.out.2.1
    have HM8 := hid hm8
    clear hm8 hat8 hat9
    go_wp2_with (go_at_call 48; refine HC6.out.mono ?_; rintro e u9 ⟨rfl, V9, hm9, hat9⟩)
    go_ret2
    have hm := HM8.out.trans hm9
    rw [on_start HY.out.1 HY.out.2.1] at hat9
    exact ⟨hm.below HV0.out HB8.out.size HB8.out, u7.heap.size, V9, rfl, hm.base HV0.out HB8.out.size, hat9⟩

end Go.Proofs.YtokfcjgfpchffaaGreatDoor

/- What the document's May and the fixed answer of the statements of layer 19 are. -/
namespace Go.Proofs.YtokfcjgfpchffaaGreatDoor
open Go.ChangeShapes Go.WideShapes Go.ChangeAt Go.RowKit


end Go.Proofs.YtokfcjgfpchffaaGreatDoor

/- What is left alive by each act; the fixed answer of the statements of layer 19. -/
namespace Go.Proofs.YtokfcjgfpchffaaGreatDoor
open Go.ChangeShapes Go.WideShapes Go.ChangeAt Go.RowKit


section
variable {dim : Int} {ms : List Ly} {T : List (List Int)} {s : Ft.St}
theorem Alive.start {e : Int} {h : List (List Int)} (H : May dim ms e h T) : Alive dim ms T (Ft.start ms e h T) := ⟨H.1, H.2.1, Ft.Inv.start H.1 H.2.1 H.2.2.1 H.2.2.2, Ft.lone_start e h⟩
theorem Alive.deliver (H : Alive dim ms T s) (k : Nat) : Alive dim ms T (Ft.deliver dim ms s k) := ⟨H.m, H.t, H.i.deliver H.m H.t k, Ft.lone_deliver H.n k⟩
theorem Alive.ask (H : Alive dim ms T s) : Alive dim ms T (Ft.ask ms s) := ⟨H.m, H.t, H.i.ask H.m H.t, Ft.lone_ask H.n⟩
theorem Alive.drop (H : Alive dim ms T s) (k : Nat) : Alive dim ms T (Ft.drop s k) := ⟨H.m, H.t, H.i.drop k, H.n⟩
theorem Alive.twice (H : Alive dim ms T s) (k : Nat) : Alive dim ms T (Ft.twice s k) := ⟨H.m, H.t, H.i.twice k, by
  have := H.n
  unfold Ft.twice
  split
  · exact this
  · exact this⟩
theorem Alive.turned (H : Alive dim ms T s) {e : Int} {h : List (List Int)} (hm : Pl.Right e h) (hl : h.length = s.h.length) : Alive dim ms T (Ft.turned s e h) := ⟨H.m, H.t, H.i.turned hm hl, H.n⟩
theorem Alive.run (H : Alive dim ms T s) (k : Nat) : Alive dim ms T (Ft.run dim ms k s) := ⟨H.m, H.t, Ft.run_inv H.i H.m H.t k, Ft.lone_run H.n k⟩
theorem Alive.short (H : Alive dim ms T s) : Pl.Short s.toks := by
  rw [H.i.toks]
  exact Md.tright_short (Ft.tl_right H.m H.t _) H.m.2.1
theorem Alive.worked (H : Alive dim ms T s) : Ft.worked s ≤ 100000 := by
  have h1 := Ft.worked_few H.i H.m H.t H.n
  have h2 := H.m.2.2.2.1
  have h3 := H.t.2.1
  have h4 : ms.length * T.length ≤ 4 * 16 := Nat.mul_le_mul (by omega) (by omega)
  omega
end
section
variable {O V : Nat → Prop} {w : World} {p : Nat} {dim : Int} {ms : List Ly} {s : Ft.St} {q : List Pt}
theorem fdeliver0 {T : List (List Int)} (H : FlAt O V w p dim ms s (Ft.qs ms s)) (hA : Alive dim ms T s) (hk : s.bag ≠ []) :
    Calls Tryz.prog 21 #[.pointer (some ⟨p, 0, none⟩), .int .i64 0] w fun e w' => e = .returned (.int .i64 0) ∧ ∃ V', Mv V V' w w' ∧ FlAt O V' w' p dim ms (Ft.deliver dim ms s 0) (Ft.qs ms (Ft.deliver dim ms s 0)) :=
  fdeliver_in H hA 0 (List.length_pos_iff.2 hk)
theorem fdeliver0_no {T : List (List Int)} (H : FlAt O V w p dim ms s (Ft.qs ms s)) (hA : Alive dim ms T s) (hk : s.bag = []) :
    Calls Tryz.prog 21 #[.pointer (some ⟨p, 0, none⟩), .int .i64 0] w fun e w' => e = .returned (.int .i64 4) ∧ Below w.heap.size w w' :=
  fdeliver_out H hA.i.few 0 (by rw [hk]; simp)
end

/-! ### The fixed answer -/
theorem aw_may : May 1 [Md.lyA] 0 [[2]] [[7]] := ⟨Md.modA_right, Md.tokA_right, Pl.one_right (by omega) (by decide), fun l hl => by rw [List.mem_singleton.1 hl]; decide⟩
theorem aw_bag : (Ft.start [Md.lyA] 0 [[2]] [[7]]).bag.length = 1 := by decide +kernel
theorem aw_tot : Ft.tot [Md.lyA] [[7]] 1 = 1 := by decide +kernel
theorem aw_done : Md.forward [Md.lyA] [[7]] = [[14]] := by decide +kernel
theorem aw_run : (Ft.run 1 [Md.lyA] 2 (Ft.start [Md.lyA] 0 [[2]] [[7]])).lay = 1 ∧ Ft.worked (Ft.run 1 [Md.lyA] 2 (Ft.start [Md.lyA] 0 [[2]] [[7]])) = 1 ∧ (Ft.run 1 [Md.lyA] 2 (Ft.start [Md.lyA] 0 [[2]] [[7]])).bag = [] ∧ (Ft.run 1 [Md.lyA] 1 (Ft.start [Md.lyA] 0 [[2]] [[7]])).bag ≠ [] ∧ (Ft.run 1 [Md.lyA] 2 (Ft.start [Md.lyA] 0 [[2]] [[7]])).toks = [[14]] := by
  have h := Ft.counts (dim := 1) aw_may.1 aw_may.2.1 aw_may.2.2.1 aw_may.2.2.2 1 (by decide)
  rw [aw_tot] at h
  have ha := (Alive.start aw_may).run 2
  have hd := ha.i.done (by rw [h.1]; decide)
  exact ⟨h.1, h.2.1, h.2.2.2.1 rfl, h.2.2.2.2 1 (by omega), by rw [hd, aw_done]⟩
end Go.Proofs.YtokfcjgfpchffaaGreatDoor
