/- 3 texts as one, in their order: NodA, NodB, NodC. -/
import Derived.Test.YtokfcjgfpchffaaGreatDoorJl
import Derived.Test.YtokfcjgfpchffaaGreatDoorKa
import Derived.Test.YtokfcjgfpchffaaGreatDoorJk
import Derived.Test.YtokfcjgfpchffaaGreatDoorMdlA
import Derived.Test.YtokfcjgfpchffaaGreatDoorKi
import Derived.Test.YtokfcjgfpchffaaGreatDoorKe

/- What copied, reply, worked and canWork of package node do when called. -/
namespace Go.Proofs.YtokfcjgfpchffaaGreatDoor
open Go.ChangeShapes Go.WideShapes Go.ChangeAt Go.RowKit

/-! ### One cell of an element (no program in sight) -/
theorem flat_set_in {css : List (List Value)} {s : Nat} (h : ∀ c ∈ css, c.length = s) {j : Nat} (hj : j < css.length) {k : Nat} (hk : k < s) (v : Value) : (css.set j (css[j].set k v)).flatten = css.flatten.set (j * s + k) v := by
  induction css generalizing j with
  | nil => simp at hj
  | cons c css ih =>
    have h1 := h c (by simp)
    cases j with
    | zero =>
      rw [List.set_cons_zero, List.flatten_cons, List.flatten_cons, Nat.zero_mul, Nat.zero_add, List.set_append_left _ _ (by omega)]
      rfl
    | succ j =>
      rw [List.set_cons_succ, List.flatten_cons, List.flatten_cons, List.set_append_right _ _ (by rw [Nat.add_mul, Nat.one_mul]; omega), show (j + 1) * s + k - c.length = j * s + k by rw [Nat.add_mul, Nat.one_mul]; omega]
      have := ih (fun d hd => h d (by simp [hd])) (j := j) (by simpa using hj)
      rw [← this]
      rfl
/-- An entry's row is put in another place. -/
theorem Own.row5 {P : Nat → Prop} {w : World} {base g n c : Nat} {e : TypeId} {l : List En} (h : Own (inS enS P) w base e (.slice (some ⟨g, 0, none⟩) n c) l) {j : Nat} (hj : j < n) {p q r s : Int} {v : List Int} (hE : l.getD j en0 = en (ky p q r s) v) {A : Option Addr} {nv C : Nat} {F : Nat → Prop}
    (hx : rowS.rep w F [.slice A nv C] v) (hF : ∀ b, F b → b ≠ g ∧ P b) : Own (inS enS P) (w.setCell ⟨g, j * 5 + 4, none⟩ (.slice A nv C)) base e (.slice (some ⟨g, 0, none⟩) n c) l := by
  have hl := (sliceS_len h.is).1
  obtain ⟨css, hrow, hall⟩ := h
  subst hl
  have hlen := Shape.all_len hall
  have hjc : j < css.length := by rw [hall.1]; exact hj
  have hjx : enS.rep w (fun b => some b ≠ Value.ownBlock (.slice (some ⟨g, 0, none⟩) l.length c) ∧ P b) css[j] l[j] := hall.2 j css[j] l[j] (List.getElem?_eq_getElem hjc) (List.getElem?_eq_getElem hj)
  have e1 : l[j] = en (ky p q r s) v := by rw [← eget hj]; exact hE
  rw [e1] at hjx
  obtain ⟨p', q', r', s', v', nv', A', C', hx1, hv1, hcs, hr1⟩ := en_is hjx
  obtain ⟨hk, hv⟩ : ky p q r s = ky p' q' r' s' ∧ v = v' := by
    injection hx1 with a b
    injection b with b1 b2
    exact ⟨a, b1⟩
  obtain ⟨rfl, rfl, rfl, rfl⟩ := ky_eq.1 hk
  have hnew : css[j].set 4 (.slice A nv C) = [.int .i64 p, .int .i64 q, .int .i64 r, .int .i64 s, .slice A nv C] := by rw [hcs]; rfl
  refine ⟨css.set j (css[j].set 4 (.slice A nv C)), ?_, ?_⟩
  · rw [flat_set_in hlen hjc (by show 4 < 5; omega)]
    exact (hrow.stored (j * 5 + 4) _).1
  · rw [hnew]
    have k1 := Shape.all_set (j := j) (x := en (ky p q r s) v) hall (show (inS enS P).rep w _ _ _ from enS.mono (en_rep p q r s hx) fun b hb _ => ⟨fun h => (hF b hb).1 (Option.some.inj h), (hF b hb).2⟩)
    rw [← e1, List.set_getElem_self] at k1
    exact Shape.all_keep k1 fun b hb _ => Below.heap_setCell w _ _ b (fun h => hb (by rw [h]; rfl))

/-! ### copied -/
set_option maxRecDepth 100000 in
theorem nclone {P : Nat → Prop} (a : Option Addr) (n c : Nat) (l : List En) (w : World) (h : ensS.rep w P [.slice a n c] l) (hP : ∀ b, P b → b < w.heap.size) (hn : n ≤ 1000) :
    Calls Tryz.prog 165 #[.slice a n c] w fun e w' => Below w.heap.size w w' ∧ ∃ a' c', e = .returned (.slice a' n c') ∧ Own (inS enS P) w' w.heap.size 201 (.slice a' n c') l := by
  obtain ⟨i0, hi0, hi1, hi2, hi3⟩ := info_parts Tryz.infoEntry
  have q22 : ∀ (w : World) (a : Option Addr) (n c n' c' : Nat), (binOp .eql 88 (.slice a n c) (.slice none n' c')).run Tryz.prog w = .ok (.bool a.isNone) w := fun w a n c n' c' => Lib.run_eql_slice_nil w _ _ a n c n' c' Tryz.underlying88
  cases a with
  | none =>
    obtain ⟨rfl, rfl⟩ := ens_nil h
    clear h
    go_enter Tryz.func165, Tryz.ntmps165
    go_wp2
    go_ret
    exact ⟨Below.refl _ _, none, 0, rfl, Own.nil _ _ _ _⟩
  | some ad =>
    have hr0 : (sliceS (inS enS P)).rep w P [.slice (some ad) n c] l := by
      obtain ⟨a1, c1, css, h1, h2, h3, h4, h5⟩ := h
      exact ⟨a1, c1, css, h1, h2, h3, ⟨h4.1, fun j cs x hc hx => enS.mono (h4.2 j cs x hc hx) fun b hb _ => ⟨hb, hb⟩⟩, h5⟩
    have hr := Shape.below hr0 (new_bel w (.cells #[] 201))
    have HZ : Hid (([] : List En).length + n = n) := Nat.zero_add n
    have ho : Own (inS enS P) (w.alloc (.cells #[] 201)) w.heap.size 201 (.slice (some ⟨w.heap.size, 0, none⟩) 0 0) [] := Own.empty _ w _
    have hap : ∀ b, P b → some b ≠ Value.ownBlock (.slice (some ⟨w.heap.size, 0, none⟩) 0 0) := fun b hb => Own.apart ho (Nat.le_refl _) b (hP b hb)
    have hsm : ([] : List En).length + n ≤ 100000 := by rw [HZ.out]; omega
    have hsz : w.heap.size ≤ (w.alloc (.cells #[] 201)).heap.size := by simp
    clear h hr0
    go_enter Tryz.func165, Tryz.ntmps165
    go_wp2_with (at_builtin; (refine wpList_app (inS enS P) (by simp [Region.wanted]) (.tmp 5) (.tmp 6) 88 rfl w.heap.size 201 i0 (.agg #[.int .i64 0, .int .i64 0, .int .i64 0, .int .i64 0, .slice none 0 0]) 56 Tryz.underlying88 hi0 hi1 hi2 hi3 rfl (Nat.succ_pos 4) (by omega) (by rfl) ho (by rfl) hr hap hsm hsz ?_; intro a4 c4 u4 ho4 hg4 hb4 hat4; rw [HZ.out] at ho4 ⊢))
    go_ret
    exact ⟨(new_bel w _).trans hb4, a4, c4, rfl, ho4⟩

set_option maxRecDepth 100000 in
set_option maxHeartbeats 1000000 in
theorem ncopied {P : Nat → Prop} (a : Option Addr) (n c : Nat) (l : List En) (w : World) (h : ensS.rep w P [.slice a n c] l) (hP : ∀ b, P b → b < w.heap.size) (hs : Dx.Short l) :
    Calls Tryz.prog 134 #[.slice a n c] w fun e w' => Below w.heap.size w w' ∧ ∃ a' c', e = .returned (.slice a' n c') ∧ ensS.rep w' (fun b => P b ∨ w.heap.size ≤ b) [.slice a' n c'] l := by
  have hl := (sliceS_len h).1
  have hn : n ≤ 1000 := by have := hs.1; omega
  have HL : Hid (l.length = n) := hl
  have HS : Hid (Dx.Short l) := hs
  have HC : Hid (Calls _ _ _ _ _) := nclone a n c l w h hP hn
  clear h hs hl hP
  go_enter Tryz.func134, Tryz.ntmps134
  go_wp2_with fail
  refine HC.out.mono ?_
  rintro e u1 ⟨hb1, a1, cc, rfl, ho1⟩
  have HO : Hid (Own (inS enS (fun b => P b ∨ w.heap.size ≤ b)) u1 w.heap.size 201 (.slice a1 n cc) l) := by
    obtain ⟨css, h1, h2⟩ := ho1
    exact ⟨css, h1, h2.1, fun j d x hd hx => enS.mono (h2.2 j d x hd hx) fun b hb _ => ⟨hb.1, .inl hb.2⟩⟩
  clear ho1 HC
  go_wp2
  go_loopw [10] (fun i wr => ∃ k : Nat, k ≤ n ∧ i = .int .i64 k ∧ Own (inS enS (fun b => P b ∨ w.heap.size ≤ b)) wr w.heap.size 201 (.slice a1 n cc) l ∧ Below w.heap.size w wr) (fun i _ => n - (intOf i).toNat)
  case atStart => exact ⟨0, Nat.zero_le _, rfl, HO.out, hb1⟩
  case round =>
    clear HO hb1
    obtain ⟨k, hk, rfl, hown, hbel⟩ := hrel
    by_cases hlt : k < n
    · obtain ⟨g, rfl, hbg, hgl, _⟩ := hown.form (by omega)
      obtain ⟨b1, o1, p, q, r, s, v, nv, A, C, hab, hb1, hb2, hE, hnv, hrow, c0, c1, c2, c3, c4⟩ := en_at hown.plain hlt
      obtain ⟨rfl, rfl⟩ : g = b1 ∧ 0 = o1 := by cases hab; exact ⟨rfl, rfl⟩
      simp only [Nat.zero_add] at c0 c1 c2 c3 c4
      have hli : (k : Int) < (n : Int) := by omega
      have hk0 : (0 : Int) ≤ (k : Int) := by omega
      have hnv9 : nv ≤ 1000 := by have h7 := HS.out.row (j := k) (by rw [HL.out]; exact hlt); rw [hE] at h7; have h8 : v.length ≤ 1000 := h7; omega
      have HE : Hid (l.getD k en0 = en (ky p q r s) v) := hE
      have hbn := new_bel wr (.cells #[.int .i64 p, .int .i64 q, .int .i64 r, .int .i64 s, .slice A nv C] 201)
      have kb := Box.new wr 201 #[.int .i64 p, .int .i64 q, .int .i64 r, .int .i64 s, .slice A nv C]
      have hown1 := hown.keep hbn
      have hrow1 := Shape.any (Shape.below hrow hbn)
      have hB1 := bel_then hbel hbn
      have hsz : wr.heap.size < (wr.alloc (.cells #[.int .i64 p, .int .i64 q, .int .i64 r, .int .i64 s, .slice A nv C] 201)).heap.size := by simp
      clear hE hnv hrow hown hbel hbn hab
      go_upto_region 5 with fail
      clear c0 c1 c2 c3 c4
      generalize wr.alloc (.cells #[.int .i64 p, .int .i64 q, .int .i64 r, .int .i64 s, .slice A nv C] 201) = W at *
      have c4 := kb.cell 4 rfl
      have HC : Hid (Calls _ _ _ _ _) := clone A nv C v W hrow1 hnv9
      clear hrow1
      go_wp2_with (go_at_call 84; refine HC.out.mono ?_; rintro e u1 ⟨hb3, a3, c9, rfl, ho3⟩; have hown3 := hown1.keep hb3; obtain ⟨z4, y4⟩ := hown3.cellK hlt (i := 4) (by show 4 < 5; omega); have x4 : u1.cell? ⟨g, k * 5 + 4, none⟩ = some z4 := y4; clear y4; have f4 := hown3.freeK (k * 5 + 4))
      have hgW : g < W.heap.size := (hown1.lt g rfl).2
      have hst := hown3.row5 hlt HE.out ho3.high (fun b hb => by have h7 : W.heap.size ≤ b := hb; exact ⟨by omega, .inr (by omega)⟩)
      have hB5 := bel_put (i := k * 5 + 4) (bel_then hB1 hb3) hbg (.slice a3 nv c9)
      have HST : Hid _ := And.intro hst hB5
      clear hst hB5 ho3 hown3 hown1 hB1 HC x4 f4 c4 hb3 kb
      go_roundw
      case rel => exact ⟨k + 1, by omega, by go_num, HST.out.1, HST.out.2⟩
      case measure => simp [intOf]; omega
    · have hkn : k = n := by omega
      subst hkn
      have hli : ¬ (k : Int) < (k : Int) := by omega
      go_wp2
      go_ret
      exact ⟨hbel, _, _, rfl, hown.among (fun b hb => hb) (fun b hb _ _ => .inr hb)⟩

/-! ### reply -/
set_option maxRecDepth 100000 in
theorem nreply (x0 x1 x2 x3 x4 x5 x6 x7 x8 x9 : Int) (xa : Option Addr) (xn xc : Nat) (me ep : Int) (w : World) :
    Calls Tryz.prog 135 #[.agg #[.int .i64 x0, .int .i64 x1, .int .i64 x2, .int .i64 x3, .int .i64 x4, .int .i64 x5, .int .i64 x6, .int .i64 x7, .int .i64 x8, .int .i64 x9, .slice xa xn xc], .int .i64 me, .int .i64 ep] w fun e w' => e = .returned (.agg #[.int .i64 0, .int .i64 me, .int .i64 x1, .int .i64 x3, .int .i64 x4, .int .i64 x5, .int .i64 x6, .int .i64 x7, .int .i64 x8, .int .i64 ep, .slice none 0 0]) ∧ Below w.heap.size w w' := by
  have hB := bel_two w (.cells #[.int .i64 x0, .int .i64 x1, .int .i64 x2, .int .i64 x3, .int .i64 x4, .int .i64 x5, .int .i64 x6, .int .i64 x7, .int .i64 x8, .int .i64 x9, .slice xa xn xc] 100) (.cells #[.int .i64 0, .int .i64 0, .int .i64 0, .int .i64 0, .int .i64 0, .int .i64 0, .int .i64 0, .int .i64 0, .int .i64 0, .int .i64 0, .slice none 0 0] 100)
  have kx := (Box.new w 100 #[.int .i64 x0, .int .i64 x1, .int .i64 x2, .int .i64 x3, .int .i64 x4, .int .i64 x5, .int .i64 x6, .int .i64 x7, .int .i64 x8, .int .i64 x9, .slice xa xn xc]).keep (new_bel _ (.cells #[.int .i64 0, .int .i64 0, .int .i64 0, .int .i64 0, .int .i64 0, .int .i64 0, .int .i64 0, .int .i64 0, .int .i64 0, .int .i64 0, .slice none 0 0] 100))
  have kr := Box.new (w.alloc (.cells #[.int .i64 x0, .int .i64 x1, .int .i64 x2, .int .i64 x3, .int .i64 x4, .int .i64 x5, .int .i64 x6, .int .i64 x7, .int .i64 x8, .int .i64 x9, .slice xa xn xc] 100)) 100 #[.int .i64 0, .int .i64 0, .int .i64 0, .int .i64 0, .int .i64 0, .int .i64 0, .int .i64 0, .int .i64 0, .int .i64 0, .int .i64 0, .slice none 0 0]
  have e1 : (w.alloc (.cells #[.int .i64 x0, .int .i64 x1, .int .i64 x2, .int .i64 x3, .int .i64 x4, .int .i64 x5, .int .i64 x6, .int .i64 x7, .int .i64 x8, .int .i64 x9, .slice xa xn xc] 100)).heap.size = w.heap.size + 1 := by simp
  rw [e1] at kr
  clear e1
  go_enter Tryz.func135, Tryz.ntmps135
  go_upto_region 1 with fail
  generalize (w.alloc (.cells #[.int .i64 x0, .int .i64 x1, .int .i64 x2, .int .i64 x3, .int .i64 x4, .int .i64 x5, .int .i64 x6, .int .i64 x7, .int .i64 x8, .int .i64 x9, .slice xa xn xc] 100)).alloc (.cells #[.int .i64 0, .int .i64 0, .int .i64 0, .int .i64 0, .int .i64 0, .int .i64 0, .int .i64 0, .int .i64 0, .int .i64 0, .int .i64 0, .slice none 0 0] 100) = W at *
  have c0 := kx.cell 0 rfl
  have c1 := kx.cell 1 rfl
  have c2 := kx.cell 2 rfl
  have c3 := kx.cell 3 rfl
  have c4 := kx.cell 4 rfl
  have c5 := kx.cell 5 rfl
  have c6 := kx.cell 6 rfl
  have c7 := kx.cell 7 rfl
  have c8 := kx.cell 8 rfl
  have c9 := kx.cell 9 rfl
  have c10 := kx.cell 10 rfl
  have d0 := kr.cell 0 rfl
  have d1 := kr.cell 1 rfl
  have d2 := kr.cell 2 rfl
  have d3 := kr.cell 3 rfl
  have d4 := kr.cell 4 rfl
  have d5 := kr.cell 5 rfl
  have d6 := kr.cell 6 rfl
  have d7 := kr.cell 7 rfl
  have d8 := kr.cell 8 rfl
  have d9 := kr.cell 9 rfl
  have d10 := kr.cell 10 rfl
  have f0 := kr.free 0
  have f1 := kr.free 1
  have f2 := kr.free 2
  have f3 := kr.free 3
  have f4 := kr.free 4
  have f5 := kr.free 5
  have f6 := kr.free 6
  have f7 := kr.free 7
  have f8 := kr.free 8
  have f9 := kr.free 9
  have f10 := kr.free 10
  go_wp2
  refine ret_one Tryz.underlying100 Tryz.infoMsg rfl rfl rfl (kr.all11 _ _ _ _ _ _ _ _ _ _ _) rfl ?_
  exact ⟨rfl, bel_all11 hB (by omega) _ _ _ _ _ _ _ _ _ _ _⟩

end Go.Proofs.YtokfcjgfpchffaaGreatDoor

/- What worked and canWork of package node do when called. -/
namespace Go.Proofs.YtokfcjgfpchffaaGreatDoor
open Go.ChangeShapes Go.WideShapes Go.ChangeAt Go.RowKit

namespace Nd
/-- What is told of a key for which z would be worked out: the row y, the ledger L behind. -/
def Works (l : List En) (k : Ky) (z : List Int) (L : List En) (y : List Int) : Prop := (got l k = some y ∧ L = l) ∨ (got l k = none ∧ y = z ∧ L = l ++ [en k y])
theorem works_there (l : List En) (k : Ky) (z : List Int) : ∃ L y, Works l k z L y := by
  cases h : got l k with
  | some y => exact ⟨l, y, .inl ⟨h, rfl⟩⟩
  | none => exact ⟨_, z, .inr ⟨h, rfl, rfl⟩⟩
/-- May the node work on it (the map and the model aside)? -/
def Can (dim : Int) (ms : List Ly) (node : Int) (a : Wx.Msg) : Prop := Wx.right a ∧ a.kind = 1 ∧ a.to = node ∧ a.layer < (ms.length : Int) ∧ a.expert < ((lyOf ms a).2.1.length : Int) ∧ Md.TRight dim [a.vec]
theorem first_of_got {l : List En} {k : Ky} {y : List Int} (h : got l k = some y) : ∃ i, Dx.First l k i ∧ (l.getD i en0).2.1 = y := by
  rcases Dx.first_or_no l k with h1 | ⟨i, h1⟩
  · rw [got_no h1] at h; cases h
  · refine ⟨i, h1, ?_⟩
    rw [got_first h1] at h
    exact Option.some.inj h
end Nd

set_option maxRecDepth 100000 in
set_option maxHeartbeats 1000000 in
theorem nworked {P : Nat → Prop} (ai : Option Addr) (ni ci : Nat) (ao : Option Addr) (no co : Nat) (mi mo : List (List Int)) (la : Option Addr) (ln lc : Nat) (l : List En) (x0 x1 x2 x3 x4 x5 x6 x7 x8 x9 : Int) (xa : Option Addr) (xn xc : Nat) (v : List Int) (w : World)
    (hX : Exp w ai ni ci ao no co mi mo) (hi : Ex.Sized mi) (ho : Ex.Sized mo) (hl : ensS.rep w P [.slice la ln lc] l) (hP : ∀ b, P b → b < w.heap.size) (hs : Dx.Short l) (hv : rowS.rep w everywhere [.slice xa xn xc] v) (hxn : xn ≤ 1000) (hR : Ex.Right mi mo xn)
    (L : List En) (y : List Int) (hw : Nd.Works l (ky x4 x5 x6 x7) (Ex.run mi mo v) L y) (m : Nat) (hm : L.length = m) (ny : Nat) (hny : y.length = ny) :
    Calls Tryz.prog 137 #[.agg #[.slice ai ni ci, .slice ao no co], .slice la ln lc, .agg #[.int .i64 x0, .int .i64 x1, .int .i64 x2, .int .i64 x3, .int .i64 x4, .int .i64 x5, .int .i64 x6, .int .i64 x7, .int .i64 x8, .int .i64 x9, .slice xa xn xc]] w fun e w' => Below w.heap.size w w' ∧ ∃ a' c' b' d', e = .returned (.tuple #[.slice a' m c', .slice b' ny d']) ∧ ensS.rep w' (fun b => P b ∨ w.heap.size ≤ b) [.slice a' m c'] L ∧ rowS.rep w' (w.heap.size ≤ ·) [.slice b' ny d'] y := by
  have hll := (sliceS_len hl).1
  have hB := bel_alloc (bel_two w (.cells #[.slice ai ni ci, .slice ao no co] 34) (.cells #[.int .i64 x0, .int .i64 x1, .int .i64 x2, .int .i64 x3, .int .i64 x4, .int .i64 x5, .int .i64 x6, .int .i64 x7, .int .i64 x8, .int .i64 x9, .slice xa xn xc] 100)) (.cells #[.int .i64 x4, .int .i64 x5, .int .i64 x6, .int .i64 x7] 199)
  have ke := ((Box.new w 34 #[.slice ai ni ci, .slice ao no co]).keep (new_bel _ (.cells #[.int .i64 x0, .int .i64 x1, .int .i64 x2, .int .i64 x3, .int .i64 x4, .int .i64 x5, .int .i64 x6, .int .i64 x7, .int .i64 x8, .int .i64 x9, .slice xa xn xc] 100))).keep (new_bel _ (.cells #[.int .i64 x4, .int .i64 x5, .int .i64 x6, .int .i64 x7] 199))
  have kx := (Box.new (w.alloc (.cells #[.slice ai ni ci, .slice ao no co] 34)) 100 #[.int .i64 x0, .int .i64 x1, .int .i64 x2, .int .i64 x3, .int .i64 x4, .int .i64 x5, .int .i64 x6, .int .i64 x7, .int .i64 x8, .int .i64 x9, .slice xa xn xc]).keep (new_bel _ (.cells #[.int .i64 x4, .int .i64 x5, .int .i64 x6, .int .i64 x7] 199))
  have kk := Box.new ((w.alloc (.cells #[.slice ai ni ci, .slice ao no co] 34)).alloc (.cells #[.int .i64 x0, .int .i64 x1, .int .i64 x2, .int .i64 x3, .int .i64 x4, .int .i64 x5, .int .i64 x6, .int .i64 x7, .int .i64 x8, .int .i64 x9, .slice xa xn xc] 100)) 199 #[.int .i64 x4, .int .i64 x5, .int .i64 x6, .int .i64 x7]
  have e1 : (w.alloc (.cells #[.slice ai ni ci, .slice ao no co] 34)).heap.size = w.heap.size + 1 := by simp
  have e2 : ((w.alloc (.cells #[.slice ai ni ci, .slice ao no co] 34)).alloc (.cells #[.int .i64 x0, .int .i64 x1, .int .i64 x2, .int .i64 x3, .int .i64 x4, .int .i64 x5, .int .i64 x6, .int .i64 x7, .int .i64 x8, .int .i64 x9, .slice xa xn xc] 100)).heap.size = w.heap.size + 2 := by simp
  rw [e1] at kx
  rw [e2] at kk
  have hX1 := hX.below hB
  have hl1 := Shape.below hl hB
  have hv1 := Shape.below hv hB
  have HX : Hid (Exp _ ai ni ci ao no co mi mo) := hX1
  have HLL : Hid (l.length = ln) := hll
  have HI : Hid (Ex.Sized mi) := hi
  have HO : Hid (Ex.Sized mo) := ho
  have HS : Hid (Dx.Short l) := hs
  have HP : Hid (∀ b, P b → b < w.heap.size) := hP
  have HR : Hid (Ex.Right mi mo xn) := hR
  have HRL : Hid ((Ex.run mi mo v).length = xn) := by
    show _ = _
    exact Ex.run_length v hR
  have HM : Hid (L.length = m) := hm
  have HNY : Hid (y.length = ny) := hny
  clear hX hi ho hl hP hs hv hR hm hny hX1 e1 e2 hll
  rcases hw with ⟨hg, hL⟩ | ⟨hg, hy, hL⟩
  · obtain ⟨i, hfi, hiv⟩ := Nd.first_of_got hg
    have hmn : m = ln := by rw [← HM.out, hL, HLL.out]
    subst hmn
    subst hL
    have HF : Hid (Dx.First L (ky x4 x5 x6 x7) i ∧ (L.getD i en0).2.1 = y) := ⟨hfi, hiv⟩
    clear hg hfi hiv
    go_enter Tryz.func137, Tryz.ntmps137
    go_upto_region 2 with fail
    generalize World.alloc (World.alloc (World.alloc w _) _) (.cells #[.int .i64 x4, .int .i64 x5, .int .i64 x6, .int .i64 x7] 199) = W at *
    have hc : Hid (Calls _ _ _ _ _) := lfind_at la m lc L x4 x5 x6 x7 W (Shape.any hl1) HS.out i HF.out.1 y HF.out.2 ny HNY.out
    have k0 := kk.cell 0 rfl
    have k1 := kk.cell 1 rfl
    have k2 := kk.cell 2 rfl
    have k3 := kk.cell 3 rfl
    go_wp2_with fail
    refine hc.out.mono ?_
    rintro e u1 ⟨hb1, a1, c1, rfl, hr1⟩
    have hB1 := bel_then hB hb1
    have hcc : Hid (Calls _ _ _ _ _) := ncopied la m lc L u1 (Shape.below hl1 hb1) (fun b hb => by have := HP.out b hb; have := hB1.size; omega) HS.out
    clear hc k0 k1 k2 k3 ke kx kk hl1 hv1 HX
    go_wp2_with (go_at_call 134; refine hcc.out.mono ?_; rintro e u2 ⟨hb2, a2, c2, rfl, hr2⟩)
    go_ret2
    exact ⟨bel_then hB1 hb2, a2, c2, a1, c1, rfl, ensS.mono hr2 (fun b hb _ => hb.elim .inl fun h => .inr (Nat.le_trans hB1.size h)), rowS.mono (Shape.below hr1 hb2) fun b hb _ => Nat.le_trans hB.size hb⟩
  · subst hy
    have hny2 : ny = xn := by rw [← HNY.out, HRL.out]
    subst hny2
    have hmn : ln + 1 = m := by rw [← HM.out, hL, List.length_append, HLL.out]; rfl
    have HNO : Hid (Dx.No l (ky x4 x5 x6 x7)) := Nd.no_of_got hg
    have HL : Hid (l ++ [en (ky x4 x5 x6 x7) (Ex.run mi mo v)] = L) := hL.symm
    have HMN : Hid (ln + 1 = m) := hmn
    clear hg hL hmn
    generalize hyy : Ex.run mi mo v = y at *
    have HYY : Hid (Ex.run mi mo v = y) := hyy
    clear hyy
    go_enter Tryz.func137, Tryz.ntmps137
    go_upto_region 2 with fail
    generalize World.alloc (World.alloc (World.alloc w _) _) (.cells #[.int .i64 x4, .int .i64 x5, .int .i64 x6, .int .i64 x7] 199) = W at *
    have hc : Hid (Calls _ _ _ _ _) := lfind_no la ln lc l x4 x5 x6 x7 W (Shape.any hl1) (by have := HS.out.1; have := HLL.out; omega) HNO.out
    have k0 := kk.cell 0 rfl
    have k1 := kk.cell 1 rfl
    have k2 := kk.cell 2 rfl
    have k3 := kk.cell 3 rfl
    go_wp2_with fail
    refine hc.out.mono ?_
    rintro e u1 ⟨rfl, hb1⟩
    have hB1 := bel_then hB hb1
    have ke1 := ke.keep hb1
    have kx1 := kx.keep hb1
    have kk1 := kk.keep hb1
    have hl2 := Shape.below hl1 hb1
    have hcx : Hid (Calls _ _ _ _ _) := xrun_at ai ni ci ao no co mi mo xa ny xc v u1 (HX.out.below hb1) HI.out HO.out (Row.of_rep (Shape.below hv1 hb1)) (by omega)
    clear hc k0 k1 k2 k3 ke kx kk hl1 hv1 HX hb1 hB
    have p0 := ke1.cell 0 rfl
    have p1 := ke1.cell 1 rfl
    have p10 := kx1.cell 10 rfl
    go_wp2_with fail
    refine hcx.out.mono ?_
    rintro e u2 ⟨hg, hb2⟩
    obtain ⟨a2, c2, rfl, hr2⟩ := hg.yes HR.out
    rw [HYY.out] at hr2
    have hB2 := bel_then hB1 hb2
    have kk2 := kk1.keep hb2
    have hl3 := Shape.below hl2 hb2
    have hce : Hid (Calls _ _ _ _ _) := lenter_to la ln lc l x4 x5 x6 x7 a2 ny c2 y u2 (Shape.any hl3) HS.out (Shape.any hr2) (by omega) HNO.out m HMN.out L HL.out
    have HZ1 : Hid (w.heap.size ≤ u1.heap.size) := hB1.size
    clear hcx p0 p1 p10 ke1 kx1 kk1 hl2 hB1 hg hb2
    have k0 := kk2.cell 0 rfl
    have k1 := kk2.cell 1 rfl
    have k2 := kk2.cell 2 rfl
    have k3 := kk2.cell 3 rfl
    go_wp2_with (go_at_call 169; refine hce.out.mono ?_; rintro e u3 ⟨hb3, a3, c3, rfl, hr3⟩)
    go_ret2
    exact ⟨bel_then hB2 hb3, a3, c3, a2, c2, rfl, ensS.mono hr3 (fun b hb _ => .inr (Nat.le_trans hB2.size hb)), rowS.mono (Shape.below hr2 hb3) fun b hb _ => Nat.le_trans HZ1.out hb⟩

end Go.Proofs.YtokfcjgfpchffaaGreatDoor

/- What canWork of package node does when called. -/
namespace Go.Proofs.YtokfcjgfpchffaaGreatDoor
open Go.ChangeShapes Go.WideShapes Go.ChangeAt Go.RowKit

/-- A function whose results are one, a struct in a variable, and one more. -/
theorem ret_mid {P : Program} {fn : Func} {R : Ending → World → Prop} {a : Act} {u : World} {b : Nat} {t : TypeId} {fs : Array Field} {cs : Array Value} {p q r : Tmp} {v1 v3 : Value} {k : Nat} (hu : P.underlying t = some (.struct fs)) (hi : (P.info? t).map (·.size) = some k)
    (hres : fn.results = #[.tmp q, .cell p t, .tmp r]) (hd : a.defers = []) (hp : a.tmps.getD p undef = .pointer (some ⟨b, 0, none⟩)) (hq : a.tmps.getD q undef = v1) (hr : a.tmps.getD r undef = v3) (hB : Box u b t cs) (hk : cs.size = k) (hR : R (.returned (.tuple #[v1, .agg cs, v3])) u) : bodyPost P fn R .ret a u := by
  have hld := run_loadVar_row (P := P) u b t t cs (0, 0) _ hB hu rfl (by rw [hi, hk])
  refine bodyPost_ret (v := .tuple #[v1, .agg cs, v3]) ?_ hd hR
  have hp' : a.tmps[p]?.getD undef = .pointer (some ⟨b, 0, none⟩) := by simpa using hp
  have hq' : a.tmps[q]?.getD undef = v1 := by simpa using hq
  have hr' : a.tmps[r]?.getD undef = v3 := by simpa using hr
  simp only [results, hres]
  simp [asAddr, hp', hq', hr', hld]

set_option maxRecDepth 100000 in
set_option maxHeartbeats 1000000 in
theorem ncan (dim : Int) (a : Option Addr) (n c : Nat) (ls : List Ly) (me : Int) (x0 x1 x2 x3 x4 x5 x6 x7 x8 x9 : Int) (xa : Option Addr) (xn xc : Nat) (v : List Int) (w : World)
    (h : lysS.rep w everywhere [.slice a n c] ls) (hv : rowS.rep w everywhere [.slice xa xn xc] v) (hxn : xn ≤ 1000) :
    Calls Tryz.prog 133 #[.agg #[.int .i64 dim, .slice a n c], .int .i64 me, .agg #[.int .i64 x0, .int .i64 x1, .int .i64 x2, .int .i64 x3, .int .i64 x4, .int .i64 x5, .int .i64 x6, .int .i64 x7, .int .i64 x8, .int .i64 x9, .slice xa xn xc]] w fun e w' => Says e (Nd.Can dim ls me ⟨x0, x1, x2, x3, x4, x5, x6, x7, x8, x9, v⟩) ∧ Below w.heap.size w w' := by
  have hl := (sliceS_len h).1
  have hB := bel_two w (.cells #[.int .i64 dim, .slice a n c] 41) (.cells #[.int .i64 x0, .int .i64 x1, .int .i64 x2, .int .i64 x3, .int .i64 x4, .int .i64 x5, .int .i64 x6, .int .i64 x7, .int .i64 x8, .int .i64 x9, .slice xa xn xc] 100)
  have km := (Box.new w 41 #[.int .i64 dim, .slice a n c]).keep (new_bel _ (.cells #[.int .i64 x0, .int .i64 x1, .int .i64 x2, .int .i64 x3, .int .i64 x4, .int .i64 x5, .int .i64 x6, .int .i64 x7, .int .i64 x8, .int .i64 x9, .slice xa xn xc] 100))
  have kx := Box.new (w.alloc (.cells #[.int .i64 dim, .slice a n c] 41)) 100 #[.int .i64 x0, .int .i64 x1, .int .i64 x2, .int .i64 x3, .int .i64 x4, .int .i64 x5, .int .i64 x6, .int .i64 x7, .int .i64 x8, .int .i64 x9, .slice xa xn xc]
  have e1 : (w.alloc (.cells #[.int .i64 dim, .slice a n c] 41)).heap.size = w.heap.size + 1 := by simp
  rw [e1] at kx
  have h1 := Shape.below h hB
  have hv1 := Shape.below hv hB
  have HL : Hid (ls.length = n) := hl
  have HLV : Hid (v.length = xn) := (sliceS_len hv).1
  have HC : Hid (Nd.Can dim ls me ⟨x0, x1, x2, x3, x4, x5, x6, x7, x8, x9, v⟩ ↔ Wx.right ⟨x0, x1, x2, x3, x4, x5, x6, x7, x8, x9, v⟩ ∧ x0 = 1 ∧ x2 = me ∧ x5 < (n : Int) ∧ x8 < ((ls.getD x5.toNat ly0).2.1.length : Int) ∧ Md.TRight dim [v]) := by
    show _ ↔ _
    rw [← hl]
    exact Iff.rfl
  clear h hv hl e1
  generalize Nd.Can dim ls me ⟨x0, x1, x2, x3, x4, x5, x6, x7, x8, x9, v⟩ = R at *
  go_enter Tryz.func133, Tryz.ntmps133
  go_upto_region 1 with fail
  generalize World.alloc (World.alloc w _) _ = W at *
  have c0 := kx.cell 0 rfl
  have c1 := kx.cell 1 rfl
  have c2 := kx.cell 2 rfl
  have c3 := kx.cell 3 rfl
  have c4 := kx.cell 4 rfl
  have c5 := kx.cell 5 rfl
  have c6 := kx.cell 6 rfl
  have c7 := kx.cell 7 rfl
  have c8 := kx.cell 8 rfl
  have c9 := kx.cell 9 rfl
  have c10 := kx.cell 10 rfl
  have hcw : Hid (Calls _ _ _ _ _) := wright x0 x1 x2 x3 x4 x5 x6 x7 x8 x9 xa xn xc v W (Row.of_rep hv1)
  go_wp2_with fail
  refine hcw.out.mono ?_
  rintro e u1 ⟨hs, hb1⟩
  have hB1 := bel_then hB hb1
  have km1 := km.keep hb1
  have kx1 := kx.keep hb1
  have h2 := Shape.below h1 hb1
  have hv2 := Shape.below hv1 hb1
  clear c0 c1 c2 c3 c4 c5 c6 c7 c8 c9 c10 hcw hb1 h1 hv1 km kx hB
  by_cases hR : Wx.right ⟨x0, x1, x2, x3, x4, x5, x6, x7, x8, x9, v⟩
  case neg =>
    rw [hs.not hR]
    clear hs
    go_wp2
    go_ret
    exact ⟨Says.no fun h => hR (HC.out.1 h).1, hB1⟩
  rw [hs.is hR]
  have h50 : 0 ≤ x5 := (hR.2.2.1 x5 (by simp [Wx.ten])).1
  have h80 : 0 ≤ x8 := (hR.2.2.1 x8 (by simp [Wx.ten])).1
  have HR : Hid (Wx.right ⟨x0, x1, x2, x3, x4, x5, x6, x7, x8, x9, v⟩) := hR
  clear hs hR
  have c0 := kx1.cell 0 rfl
  have c2 := kx1.cell 2 rfl
  by_cases hk : x0 = 1
  case neg =>
    have q : (x0 != 1) = true := by rw [bne_iff_ne]; exact hk
    have HK : Hid (¬ x0 = 1) := hk
    clear hk
    go_wp2
    go_ret
    exact ⟨Says.no fun h => HK.out (HC.out.1 h).2.1, hB1⟩
  have q0 : (x0 != 1) = false := by rw [bne_eq_false_iff_eq]; exact hk
  have HK : Hid (x0 = 1) := hk
  clear hk
  by_cases hm : x2 = me
  case neg =>
    have q : (x2 != me) = true := by rw [bne_iff_ne]; exact hm
    have HN : Hid (¬ x2 = me) := hm
    clear hm
    go_wp2
    go_ret
    exact ⟨Says.no fun h => HN.out (HC.out.1 h).2.2.1, hB1⟩
  have q2 : (x2 != me) = false := by rw [bne_eq_false_iff_eq]; exact hm
  have HM : Hid (x2 = me) := hm
  clear hm
  obtain ⟨k, rfl⟩ : ∃ k : Nat, x5 = (k : Int) := ⟨x5.toNat, by omega⟩
  have ht : ((k : Int)).toNat = k := rfl
  have hne9 : Nonempty (Later u1) := Later.there u1
  have d1 : ∀ x : Later u1, x.u.cell? ⟨w.heap.size, 1, none⟩ = _ := fun x => x.cell (km1.cell 1 rfl)
  have d5 : ∀ x : Later u1, x.u.cell? ⟨w.heap.size + 1, 5, none⟩ = _ := fun x => x.cell (kx1.cell 5 rfl)
  have d8 : ∀ x : Later u1, x.u.cell? ⟨w.heap.size + 1, 8, none⟩ = _ := fun x => x.cell (kx1.cell 8 rfl)
  by_cases hlt : k < n
  case neg =>
    have HN : Hid (¬ k < n) := hlt
    go_wp2
    have g1 : decide (n ≤ k) = true := by rw [decide_eq_true_iff]; omega
    refine region_later (by kernel_rfl) (by kernel_rfl) ?_
    repeat (go_big_quiet_step (fail))
    refine wpQuiet_nil ?_
    intro x9
    obtain ⟨W9, hb9⟩ := x9
    go_wp2
    go_ret
    exact ⟨Says.no fun h => HN.out (by have := (HC.out.1 h).2.2.2.1; omega), bel_then hB1 hb9⟩
  obtain ⟨b, off, ag, ng, cg, ax, nx, cx, g, xs, cap, rfl, hbb, hE, hg, hx, e0, e1, e2⟩ := ly_there h2 hlt
  have HX : Hid (xs.length = nx) := (sliceS_len hx).1
  have HE : Hid (ls.getD k ly0 = (g, xs, cap, ())) := hE
  have f1 : ∀ x : Later u1, x.u.cell? ⟨b, off + k * 3 + 1, none⟩ = _ := fun x => x.cell e1
  have hk0 : (0 : Int) ≤ (k : Int) := by omega
  have hkn : (k : Int) < (n : Int) := by omega
  clear e0 e1 e2 hE hg hx
  by_cases hlx : x8 < (nx : Int)
  case neg =>
    have HN : Hid (¬ x8 < (nx : Int)) := hlx
    go_wp2
    have g1 : decide (n ≤ k) = false := by rw [decide_eq_false_iff_not]; omega
    have g2 : decide ((nx : Int) ≤ x8) = true := by rw [decide_eq_true_iff]; omega
    refine region_later (by kernel_rfl) (by kernel_rfl) ?_
    repeat (go_big_quiet_step (fail))
    refine wpQuiet_nil ?_
    intro x9
    obtain ⟨W9, hb9⟩ := x9
    go_wp2
    go_ret
    exact ⟨Says.no fun h => by have h7 := (HC.out.1 h).2.2.2.2.1; rw [ht, HE.out] at h7; have h8 : x8 < (xs.length : Int) := h7; rw [HX.out] at h8; have := HN.out; omega, bel_then hB1 hb9⟩
  have HG : Hid (x8 < (nx : Int)) := hlx
  go_wp2
  have g1 : decide (n ≤ k) = false := by rw [decide_eq_false_iff_not]; omega
  have g2 : decide ((nx : Int) ≤ x8) = false := by rw [decide_eq_false_iff_not]; have := HG.out; omega
  refine region_later (by kernel_rfl) (by kernel_rfl) ?_
  repeat (go_big_quiet_step (fail))
  refine wpQuiet_nil ?_
  intro x9
  obtain ⟨W9, hb9⟩ := x9
  have hB9 := bel_then hB1 hb9
  have km9 := km1.keep hb9
  have kx9 := kx1.keep hb9
  have hr9 := rows_one (Shape.below hv2 hb9)
  have hbn := new_bel W9 (.cells #[.slice xa xn xc] 31)
  have hct : Hid (Calls _ _ _ _ _) := mtokens (some ⟨b, off, none⟩) n c dim _ 1 1 [v] _ hr9 ⟨by simp, fun l hl => by rw [List.mem_singleton.1 hl, HLV.out]; omega⟩
  have p0 := km9.cell 0 rfl
  have p1 := km9.cell 1 rfl
  have p10 := kx9.cell 10 rfl
  clear km1 kx1 h2 hv2 c0 c2 q0 q2 d1 d5 d8 f1 g1 g2 hlx hr9
  go_wp2_with fail
  refine hct.out.mono ?_
  rintro e u5 ⟨hs, hb5⟩
  have HB : Hid (Below w.heap.size w u5) := bel_then (bel_then hB9 hbn) hb5
  by_cases hT : Md.TRight dim [v]
  · rw [hs.is hT]
    go_wp2
    go_ret
    exact ⟨Says.yes (HC.out.2 ⟨HR.out, HK.out, HM.out, by omega, by rw [ht, HE.out]; show x8 < (xs.length : Int); rw [HX.out]; exact HG.out, hT⟩), HB.out⟩
  · rw [hs.not hT]
    go_wp2
    go_ret
    exact ⟨Says.no fun h => hT (HC.out.1 h).2.2.2.2.2, HB.out⟩

end Go.Proofs.YtokfcjgfpchffaaGreatDoor
