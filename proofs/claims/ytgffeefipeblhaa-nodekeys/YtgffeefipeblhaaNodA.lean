/- What copied, reply, worked and canWork of package node do when called. -/
import Derived.Test.YtgffeefipeblhaaLedC
import Derived.Test.YtgffeefipeblhaaJa
import Derived.Test.YtgffeefipeblhaaNd
import Derived.Test.YtgffeefipeblhaaMdlA
import Derived.Test.YtgffeefipeblhaaWireC
import Derived.Test.YtgffeefipeblhaaLits
namespace Go.Proofs.Ytgffeefipeblhaa
open Go.ChangeShapes Go.WideShapes Go.ChangeAt Go.RowKit

/-! ### One cell of an element (no program in sight) -/
theorem flat_set_in {css : List (List Value)} {s : Nat} (h : ∀ c ∈ css, c.length = s) {j : Nat} (hj : j < css.length) {k : Nat} (hk : k < s) (v : Value) : (css.set j (css[j].set k v)).flatten = css.flatten.set (j * s + k) v := by
  induction css generalizing j with
  | nil => simp at hj
  | cons c css ih =>
    have h1 := h c (by simp)
    cases j with
    | zero =>
      rw [List.set_cons_zero, List.flatten_cons, List.flatten_cons, Nat.zero_mul, Nat.zero_add, List.set_append_left _ _ (by omega)]
      rfl
    | succ j =>
      rw [List.set_cons_succ, List.flatten_cons, List.flatten_cons, List.set_append_right _ _ (by rw [Nat.add_mul, Nat.one_mul]; omega), show (j + 1) * s + k - c.length = j * s + k by rw [Nat.add_mul, Nat.one_mul]; omega]
      have := ih (fun d hd => h d (by simp [hd])) (j := j) (by simpa using hj)
      rw [← this]
      rfl
/-- An entry's row is put in another place. -/
theorem Own.row5 {P : Nat → Prop} {w : World} {base g n c : Nat} {e : TypeId} {l : List En} (h : Own (inS enS P) w base e (.slice (some ⟨g, 0, none⟩) n c) l) {j : Nat} (hj : j < n) {p q r s : Int} {v : List Int} (hE : l.getD j en0 = en (ky p q r s) v) {A : Option Addr} {nv C : Nat} {F : Nat → Prop}
    (hx : rowS.rep w F [.slice A nv C] v) (hF : ∀ b, F b → b ≠ g ∧ P b) : Own (inS enS P) (w.setCell ⟨g, j * 5 + 4, none⟩ (.slice A nv C)) base e (.slice (some ⟨g, 0, none⟩) n c) l := by
  have hl := (sliceS_len h.is).1
  obtain ⟨css, hrow, hall⟩ := h
  subst hl
  have hlen := Shape.all_len hall
  have hjc : j < css.length := by rw [hall.1]; exact hj
  have hjx : enS.rep w (fun b => some b ≠ Value.ownBlock (.slice (some ⟨g, 0, none⟩) l.length c) ∧ P b) css[j] l[j] := hall.2 j css[j] l[j] (List.getElem?_eq_getElem hjc) (List.getElem?_eq_getElem hj)
  have e1 : l[j] = en (ky p q r s) v := by rw [← eget hj]; exact hE
  rw [e1] at hjx
  obtain ⟨p', q', r', s', v', nv', A', C', hx1, hv1, hcs, hr1⟩ := en_is hjx
  obtain ⟨hk, hv⟩ : ky p q r s = ky p' q' r' s' ∧ v = v' := by
    injection hx1 with a b
    injection b with b1 b2
    exact ⟨a, b1⟩
  obtain ⟨rfl, rfl, rfl, rfl⟩ := ky_eq.1 hk
  have hnew : css[j].set 4 (.slice A nv C) = [.int .i64 p, .int .i64 q, .int .i64 r, .int .i64 s, .slice A nv C] := by rw [hcs]; rfl
  refine ⟨css.set j (css[j].set 4 (.slice A nv C)), ?_, ?_⟩
  · rw [flat_set_in hlen hjc (by show 4 < 5; omega)]
    exact (hrow.stored (j * 5 + 4) _).1
  · rw [hnew]
    have k1 := Shape.all_set (j := j) (x := en (ky p q r s) v) hall (show (inS enS P).rep w _ _ _ from enS.mono (en_rep p q r s hx) fun b hb _ => ⟨fun h => (hF b hb).1 (Option.some.inj h), (hF b hb).2⟩)
    rw [← e1, List.set_getElem_self] at k1
    exact Shape.all_keep k1 fun b hb _ => Below.heap_setCell w _ _ b (fun h => hb (by rw [h]; rfl))

/-! ### copied -/
set_option maxRecDepth 100000 in
theorem nclone {P : Nat → Prop} (a : Option Addr) (n c : Nat) (l : List En) (w : World) (h : ensS.rep w P [.slice a n c] l) (hP : ∀ b, P b → b < w.heap.size) (hn : n ≤ 1000) :
    Calls Try.prog 36 #[.slice a n c] w fun e w' => Below w.heap.size w w' ∧ ∃ a' c', e = .returned (.slice a' n c') ∧ Own (inS enS P) w' w.heap.size 39 (.slice a' n c') l := by
  obtain ⟨i0, hi0, hi1, hi2, hi3⟩ := info_parts Try.infoEntry
  have q22 : ∀ (w : World) (a : Option Addr) (n c n' c' : Nat), (binOp .eql 28 (.slice a n c) (.slice none n' c')).run Try.prog w = .ok (.bool a.isNone) w := fun w a n c n' c' => Lib.run_eql_slice_nil w _ _ a n c n' c' Try.underlying28
  cases a with
  | none =>
    obtain ⟨rfl, rfl⟩ := ens_nil h
    clear h
    go_enter Try.func36, Try.ntmps36
    go_wp2
    go_ret
    exact ⟨Below.refl _ _, none, 0, rfl, Own.nil _ _ _ _⟩
  | some ad =>
    have hr0 : (sliceS (inS enS P)).rep w P [.slice (some ad) n c] l := by
      obtain ⟨a1, c1, css, h1, h2, h3, h4, h5⟩ := h
      exact ⟨a1, c1, css, h1, h2, h3, ⟨h4.1, fun j cs x hc hx => enS.mono (h4.2 j cs x hc hx) fun b hb _ => ⟨hb, hb⟩⟩, h5⟩
    have hr := Shape.below hr0 (new_bel w (.cells #[] 39))
    have HZ : Hid (([] : List En).length + n = n) := Nat.zero_add n
    have ho : Own (inS enS P) (w.alloc (.cells #[] 39)) w.heap.size 39 (.slice (some ⟨w.heap.size, 0, none⟩) 0 0) [] := Own.empty _ w _
    have hap : ∀ b, P b → some b ≠ Value.ownBlock (.slice (some ⟨w.heap.size, 0, none⟩) 0 0) := fun b hb => Own.apart ho (Nat.le_refl _) b (hP b hb)
    have hsm : ([] : List En).length + n ≤ 100000 := by rw [HZ.out]; omega
    have hsz : w.heap.size ≤ (w.alloc (.cells #[] 39)).heap.size := by simp
    clear h hr0
    go_enter Try.func36, Try.ntmps36
    go_wp2_with (at_builtin; (refine wpList_app (inS enS P) (by simp [Region.wanted]) (.tmp 5) (.tmp 6) 28 rfl w.heap.size 39 i0 (.agg #[.int .i64 0, .int .i64 0, .int .i64 0, .int .i64 0, .slice none 0 0]) 56 Try.underlying28 hi0 hi1 hi2 hi3 rfl (Nat.succ_pos 4) (by omega) (by rfl) ho (by rfl) hr hap hsm hsz ?_; intro a4 c4 u4 ho4 hg4 hb4 hat4; rw [HZ.out] at ho4 ⊢))
    go_ret
    exact ⟨(new_bel w _).trans hb4, a4, c4, rfl, ho4⟩

set_option maxRecDepth 100000 in
set_option maxHeartbeats 1000000 in
theorem ncopied {P : Nat → Prop} (a : Option Addr) (n c : Nat) (l : List En) (w : World) (h : ensS.rep w P [.slice a n c] l) (hP : ∀ b, P b → b < w.heap.size) (hs : Dx.Short l) :
    Calls Try.prog 19 #[.slice a n c] w fun e w' => Below w.heap.size w w' ∧ ∃ a' c', e = .returned (.slice a' n c') ∧ ensS.rep w' (fun b => P b ∨ w.heap.size ≤ b) [.slice a' n c'] l := by
  have hl := (sliceS_len h).1
  have hn : n ≤ 1000 := by have := hs.1; omega
  have HL : Hid (l.length = n) := hl
  have HS : Hid (Dx.Short l) := hs
  have HC : Hid (Calls _ _ _ _ _) := nclone a n c l w h hP hn
  clear h hs hl hP
  go_enter Try.func19, Try.ntmps19
  go_wp2_with fail
  refine HC.out.mono ?_
  rintro e u1 ⟨hb1, a1, cc, rfl, ho1⟩
  have HO : Hid (Own (inS enS (fun b => P b ∨ w.heap.size ≤ b)) u1 w.heap.size 39 (.slice a1 n cc) l) := by
    obtain ⟨css, h1, h2⟩ := ho1
    exact ⟨css, h1, h2.1, fun j d x hd hx => enS.mono (h2.2 j d x hd hx) fun b hb _ => ⟨hb.1, .inl hb.2⟩⟩
  clear ho1 HC
  go_wp2
  go_loopw [10] (fun i wr => ∃ k : Nat, k ≤ n ∧ i = .int .i64 k ∧ Own (inS enS (fun b => P b ∨ w.heap.size ≤ b)) wr w.heap.size 39 (.slice a1 n cc) l ∧ Below w.heap.size w wr) (fun i _ => n - (intOf i).toNat)
  case atStart => exact ⟨0, Nat.zero_le _, rfl, HO.out, hb1⟩
  case round =>
    clear HO hb1
    obtain ⟨k, hk, rfl, hown, hbel⟩ := hrel
    by_cases hlt : k < n
    · obtain ⟨g, rfl, hbg, hgl, _⟩ := hown.form (by omega)
      obtain ⟨b1, o1, p, q, r, s, v, nv, A, C, hab, hb1, hb2, hE, hnv, hrow, c0, c1, c2, c3, c4⟩ := en_at hown.plain hlt
      obtain ⟨rfl, rfl⟩ : g = b1 ∧ 0 = o1 := by cases hab; exact ⟨rfl, rfl⟩
      simp only [Nat.zero_add] at c0 c1 c2 c3 c4
      have hli : (k : Int) < (n : Int) := by omega
      have hk0 : (0 : Int) ≤ (k : Int) := by omega
      have hnv9 : nv ≤ 1000 := by have h7 := HS.out.row (j := k) (by rw [HL.out]; exact hlt); rw [hE] at h7; have h8 : v.length ≤ 1000 := h7; omega
      have HE : Hid (l.getD k en0 = en (ky p q r s) v) := hE
      have hbn := new_bel wr (.cells #[.int .i64 p, .int .i64 q, .int .i64 r, .int .i64 s, .slice A nv C] 39)
      have kb := Box.new wr 39 #[.int .i64 p, .int .i64 q, .int .i64 r, .int .i64 s, .slice A nv C]
      have hown1 := hown.keep hbn
      have hrow1 := Shape.any (Shape.below hrow hbn)
      have hB1 := bel_then hbel hbn
      have hsz : wr.heap.size < (wr.alloc (.cells #[.int .i64 p, .int .i64 q, .int .i64 r, .int .i64 s, .slice A nv C] 39)).heap.size := by simp
      clear hE hnv hrow hown hbel hbn hab
      go_upto_region 5 with fail
      clear c0 c1 c2 c3 c4
      generalize wr.alloc (.cells #[.int .i64 p, .int .i64 q, .int .i64 r, .int .i64 s, .slice A nv C] 39) = W at *
      have c4 := kb.cell 4 rfl
      have HC : Hid (Calls _ _ _ _ _) := clone A nv C v W hrow1 hnv9
      clear hrow1
      go_wp2_with (go_at_call 37; refine HC.out.mono ?_; rintro e u1 ⟨hb3, a3, c9, rfl, ho3⟩; have hown3 := hown1.keep hb3; obtain ⟨z4, y4⟩ := hown3.cellK hlt (i := 4) (by show 4 < 5; omega); have x4 : u1.cell? ⟨g, k * 5 + 4, none⟩ = some z4 := y4; clear y4; have f4 := hown3.freeK (k * 5 + 4))
      have hgW : g < W.heap.size := (hown1.lt g rfl).2
      have hst := hown3.row5 hlt HE.out ho3.high (fun b hb => by have h7 : W.heap.size ≤ b := hb; exact ⟨by omega, .inr (by omega)⟩)
      have hB5 := bel_put (i := k * 5 + 4) (bel_then hB1 hb3) hbg (.slice a3 nv c9)
      have HST : Hid _ := And.intro hst hB5
      clear hst hB5 ho3 hown3 hown1 hB1 HC x4 f4 c4 hb3 kb
      go_roundw
      case rel => exact ⟨k + 1, by omega, by go_num, HST.out.1, HST.out.2⟩
      case measure => simp [intOf]; omega
    · have hkn : k = n := by omega
      subst hkn
      have hli : ¬ (k : Int) < (k : Int) := by omega
      go_wp2
      go_ret
      exact ⟨hbel, _, _, rfl, hown.among (fun b hb => hb) (fun b hb _ _ => .inr hb)⟩

/-! ### reply -/
set_option maxRecDepth 100000 in
theorem nreply (x0 x1 x2 x3 x4 x5 x6 x7 x8 x9 : Int) (xa : Option Addr) (xn xc : Nat) (me ep : Int) (w : World) :
    Calls Try.prog 20 #[.agg #[.int .i64 x0, .int .i64 x1, .int .i64 x2, .int .i64 x3, .int .i64 x4, .int .i64 x5, .int .i64 x6, .int .i64 x7, .int .i64 x8, .int .i64 x9, .slice xa xn xc], .int .i64 me, .int .i64 ep] w fun e w' => e = .returned (.agg #[.int .i64 0, .int .i64 me, .int .i64 x1, .int .i64 x3, .int .i64 x4, .int .i64 x5, .int .i64 x6, .int .i64 x7, .int .i64 x8, .int .i64 ep, .slice none 0 0]) ∧ Below w.heap.size w w' := by
  have hB := bel_two w (.cells #[.int .i64 x0, .int .i64 x1, .int .i64 x2, .int .i64 x3, .int .i64 x4, .int .i64 x5, .int .i64 x6, .int .i64 x7, .int .i64 x8, .int .i64 x9, .slice xa xn xc] 31) (.cells #[.int .i64 0, .int .i64 0, .int .i64 0, .int .i64 0, .int .i64 0, .int .i64 0, .int .i64 0, .int .i64 0, .int .i64 0, .int .i64 0, .slice none 0 0] 31)
  have kx := (Box.new w 31 #[.int .i64 x0, .int .i64 x1, .int .i64 x2, .int .i64 x3, .int .i64 x4, .int .i64 x5, .int .i64 x6, .int .i64 x7, .int .i64 x8, .int .i64 x9, .slice xa xn xc]).keep (new_bel _ (.cells #[.int .i64 0, .int .i64 0, .int .i64 0, .int .i64 0, .int .i64 0, .int .i64 0, .int .i64 0, .int .i64 0, .int .i64 0, .int .i64 0, .slice none 0 0] 31))
  have kr := Box.new (w.alloc (.cells #[.int .i64 x0, .int .i64 x1, .int .i64 x2, .int .i64 x3, .int .i64 x4, .int .i64 x5, .int .i64 x6, .int .i64 x7, .int .i64 x8, .int .i64 x9, .slice xa xn xc] 31)) 31 #[.int .i64 0, .int .i64 0, .int .i64 0, .int .i64 0, .int .i64 0, .int .i64 0, .int .i64 0, .int .i64 0, .int .i64 0, .int .i64 0, .slice none 0 0]
  have e1 : (w.alloc (.cells #[.int .i64 x0, .int .i64 x1, .int .i64 x2, .int .i64 x3, .int .i64 x4, .int .i64 x5, .int .i64 x6, .int .i64 x7, .int .i64 x8, .int .i64 x9, .slice xa xn xc] 31)).heap.size = w.heap.size + 1 := by simp
  rw [e1] at kr
  clear e1
  go_enter Try.func20, Try.ntmps20
  go_upto_region 1 with fail
  generalize (w.alloc (.cells #[.int .i64 x0, .int .i64 x1, .int .i64 x2, .int .i64 x3, .int .i64 x4, .int .i64 x5, .int .i64 x6, .int .i64 x7, .int .i64 x8, .int .i64 x9, .slice xa xn xc] 31)).alloc (.cells #[.int .i64 0, .int .i64 0, .int .i64 0, .int .i64 0, .int .i64 0, .int .i64 0, .int .i64 0, .int .i64 0, .int .i64 0, .int .i64 0, .slice none 0 0] 31) = W at *
  have c0 := kx.cell 0 rfl
  have c1 := kx.cell 1 rfl
  have c2 := kx.cell 2 rfl
  have c3 := kx.cell 3 rfl
  have c4 := kx.cell 4 rfl
  have c5 := kx.cell 5 rfl
  have c6 := kx.cell 6 rfl
  have c7 := kx.cell 7 rfl
  have c8 := kx.cell 8 rfl
  have c9 := kx.cell 9 rfl
  have c10 := kx.cell 10 rfl
  have d0 := kr.cell 0 rfl
  have d1 := kr.cell 1 rfl
  have d2 := kr.cell 2 rfl
  have d3 := kr.cell 3 rfl
  have d4 := kr.cell 4 rfl
  have d5 := kr.cell 5 rfl
  have d6 := kr.cell 6 rfl
  have d7 := kr.cell 7 rfl
  have d8 := kr.cell 8 rfl
  have d9 := kr.cell 9 rfl
  have d10 := kr.cell 10 rfl
  have f0 := kr.free 0
  have f1 := kr.free 1
  have f2 := kr.free 2
  have f3 := kr.free 3
  have f4 := kr.free 4
  have f5 := kr.free 5
  have f6 := kr.free 6
  have f7 := kr.free 7
  have f8 := kr.free 8
  have f9 := kr.free 9
  have f10 := kr.free 10
  go_wp2
  refine ret_one Try.underlying31 Try.infoMsg rfl rfl rfl (kr.all11 _ _ _ _ _ _ _ _ _ _ _) rfl ?_
  exact ⟨rfl, bel_all11 hB (by omega) _ _ _ _ _ _ _ _ _ _ _⟩

end Go.Proofs.Ytgffeefipeblhaa
