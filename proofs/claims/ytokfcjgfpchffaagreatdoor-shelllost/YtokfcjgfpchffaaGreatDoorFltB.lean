/- What the copies that New of package fleet makes are. -/
import Derived.Test.YtokfcjgfpchffaaGreatDoorKe
import Derived.Test.YtokfcjgfpchffaaGreatDoorKb
import Derived.Test.YtokfcjgfpchffaaGreatDoorKa
import Derived.Test.YtokfcjgfpchffaaGreatDoorMdlA
import Derived.Test.YtokfcjgfpchffaaGreatDoorJn
import Derived.Test.YtokfcjgfpchffaaGreatDoorKp
namespace Go.Proofs.YtokfcjgfpchffaaGreatDoor
open Go.ChangeShapes Go.WideShapes Go.ChangeAt Go.RowKit


theorem Tryz.infoXp3 : (Tryz.prog.info? 34).map (fun i => (i.zero, i.size, i.bytes)) = some (some (.agg #[.slice none 0 0, .slice none 0 0]), 2, 48) := by kernel_rfl
theorem Tryz.infoLy3 : (Tryz.prog.info? 37).map (fun i => (i.zero, i.size, i.bytes)) = some (some (.agg #[.slice none 0 0, .slice none 0 0, .int .i64 0]), 3, 56) := by kernel_rfl
theorem Tryz.infoMap2 : (Tryz.prog.info? 50).map (·.size) = some 2 := by kernel_rfl
theorem Tryz.infoModel2 : (Tryz.prog.info? 41).map (·.size) = some 2 := by kernel_rfl

theorem slice_nil {α : Type} {A : Shape α} {w : World} {F : Nat → Prop} {n c : Nat} {l : List α} (h : (sliceS A).rep w F [.slice none n c] l) (hs : 0 < A.size) : n = 0 ∧ l = [] := by
  have hl := (sliceS_len h).1
  have h0 : n = 0 := by
    rcases Nat.eq_zero_or_pos n with h0 | h0
    · exact h0
    · obtain ⟨b, off, cs, ha, _⟩ := sliceS_at h hs (j := 0) (by omega)
      cases ha
  exact ⟨h0, List.eq_nil_of_length_eq_zero (by omega)⟩
theorem set_same {α : Type} {l : List α} {k : Nat} (h : k < l.length) {x : α} (d : α) (hx : l.getD k d = x) : l.set k x = l := by
  rw [List.getD_eq_getElem?_getD, List.getElem?_eq_getElem h] at hx
  have hx' : l[k] = x := hx
  rw [← hx', List.set_getElem_self]
/-- One cell of an element is stored, and the element reads as it did. -/
theorem Own.part {α : Type} {A : Shape α} {w : World} {base g n c : Nat} {e : TypeId} {l : List α} (h : Own A w base e (.slice (some ⟨g, 0, none⟩) n c) l) {j : Nat} (hj : j < n) {x d : α} (hE : l.getD j d = x) {k : Nat} (hk : k < A.size) {v : Value}
    (hx : ∀ cs, A.rep w (fun b => some b ≠ Value.ownBlock (.slice (some ⟨g, 0, none⟩) n c)) cs x → A.rep w (fun b => some b ≠ Value.ownBlock (.slice (some ⟨g, 0, none⟩) n c)) (cs.set k v) x) : Own A (w.setCell ⟨g, j * A.size + k, none⟩ v) base e (.slice (some ⟨g, 0, none⟩) n c) l := by
  have hl := (sliceS_len h.is).1
  obtain ⟨css, hrow, hall⟩ := h
  subst hl
  have hlen := Shape.all_len hall
  have hjc : j < css.length := by rw [hall.1]; exact hj
  have e1 : l[j] = x := by rw [← hE, List.getD_eq_getElem?_getD, List.getElem?_eq_getElem hj]; rfl
  have hjx := hall.2 j css[j] l[j] (List.getElem?_eq_getElem hjc) (List.getElem?_eq_getElem hj)
  rw [e1] at hjx
  refine ⟨css.set j (css[j].set k v), ?_, ?_⟩
  · rw [flat_set_in hlen hjc hk]
    exact (hrow.stored (j * A.size + k) _).1
  · have k1 := Shape.all_set (j := j) hall (hx _ hjx)
    rw [← e1, List.set_getElem_self] at k1
    exact Shape.all_keep k1 fun b hb _ => Below.heap_setCell w _ _ b (fun h => hb (by rw [h]; rfl))

/-- An element of a slice that the call owns: its cells, and that it leads elsewhere. -/
theorem Own.elem {α : Type} {A : Shape α} {P : Nat → Prop} {w : World} {base g n c : Nat} {e : TypeId} {l : List α} (h : Own (inS A P) w base e (.slice (some ⟨g, 0, none⟩) n c) l) {j : Nat} (hj : j < n) {x d : α} (hE : l.getD j d = x) :
    ∃ cs, A.rep w (fun b => b ≠ g ∧ P b ∧ b < w.heap.size) cs x ∧ ∀ i v, cs[i]? = some v → w.cell? ⟨g, j * A.size + i, none⟩ = some v := by
  have hl := (sliceS_len h.is).1
  obtain ⟨css, hrow, hall⟩ := h
  subst hl
  have hlen := Shape.all_len hall
  have hjc : j < css.length := by rw [hall.1]; exact hj
  have e1 : l[j] = x := by rw [← hE, List.getD_eq_getElem?_getD, List.getElem?_eq_getElem hj]; rfl
  have hjx : A.rep w (fun b => some b ≠ Value.ownBlock (.slice (some ⟨g, 0, none⟩) l.length c) ∧ P b) css[j] l[j] := hall.2 j css[j] l[j] (List.getElem?_eq_getElem hjc) (List.getElem?_eq_getElem hj)
  rw [e1] at hjx
  have hfl : css.flatten.length = l.length * A.size := by rw [flat_len hlen, hall.1]; rfl
  refine ⟨css[j], A.mono hjx fun b hb hlt => ⟨fun h => hb.1 (by rw [h]; rfl), hb.2, hlt⟩, fun i v hv => ?_⟩
  have hi : i < A.size := by rw [← A.len hjx]; exact (List.getElem?_eq_some_iff.1 hv).1
  have hlt : j * A.size + i < l.length * A.size := by
    have h2 := Nat.mul_le_mul_right A.size (show j + 1 ≤ l.length from hj)
    rw [Nat.add_mul, Nat.one_mul] at h2
    omega
  rw [hrow.cellAt _ hlt]
  have h3 := flat_get hlen j i hi
  rw [List.getElem?_eq_getElem hjc] at h3
  exact h3.trans hv

set_option maxRecDepth 100000 in
set_option maxHeartbeats 1000000 in
theorem fcloneX {P : Nat → Prop} (a : Option Addr) (n c : Nat) (l : List Xp) (w : World) (h : (sliceS xpS).rep w P [.slice a n c] l) (hP : ∀ b, P b → b < w.heap.size) (hn : n ≤ 1000) :
    Calls Tryz.prog 119 #[.slice a n c] w fun e w' => Below w.heap.size w w' ∧ ∃ a' c', e = .returned (.slice a' n c') ∧ Own (inS xpS P) w' w.heap.size 34 (.slice a' n c') l := by
  obtain ⟨i0, hi0, hi1, hi2, hi3⟩ := info_parts Tryz.infoXp3
  have q22 : ∀ (w : World) (a : Option Addr) (n c n' c' : Nat), (binOp .eql 35 (.slice a n c) (.slice none n' c')).run Tryz.prog w = .ok (.bool a.isNone) w := fun w a n c n' c' => Lib.run_eql_slice_nil w _ _ a n c n' c' Tryz.underlying35
  cases a with
  | none =>
    obtain ⟨rfl, rfl⟩ := slice_nil h (Nat.succ_pos _)
    clear h
    go_enter Tryz.func119, Tryz.ntmps119
    go_wp2
    go_ret
    exact ⟨Below.refl _ _, none, 0, rfl, Own.nil _ _ _ _⟩
  | some ad =>
    have hr0 : (sliceS (inS xpS P)).rep w P [.slice (some ad) n c] l := by
      obtain ⟨a1, c1, css, h1, h2, h3, h4, h5⟩ := h
      exact ⟨a1, c1, css, h1, h2, h3, ⟨h4.1, fun j cs x hc hx => xpS.mono (h4.2 j cs x hc hx) fun b hb _ => ⟨hb, hb⟩⟩, h5⟩
    have hr := Shape.below hr0 (new_bel w (.cells #[] 34))
    have HZ : Hid (([] : List Xp).length + n = n) := Nat.zero_add n
    have ho : Own (inS xpS P) (w.alloc (.cells #[] 34)) w.heap.size 34 (.slice (some ⟨w.heap.size, 0, none⟩) 0 0) [] := Own.empty _ w _
    have hap : ∀ b, P b → some b ≠ Value.ownBlock (.slice (some ⟨w.heap.size, 0, none⟩) 0 0) := fun b hb => Own.apart ho (Nat.le_refl _) b (hP b hb)
    have hsm : ([] : List Xp).length + n ≤ 100000 := by rw [HZ.out]; omega
    have hsz : w.heap.size ≤ (w.alloc (.cells #[] 34)).heap.size := by simp
    clear h hr0
    go_enter Tryz.func119, Tryz.ntmps119
    go_wp2_with (at_builtin; (refine wpList_app (inS xpS P) (by simp [Region.wanted]) (.tmp 5) (.tmp 6) 35 rfl w.heap.size 34 i0 (.agg #[.slice none 0 0, .slice none 0 0]) 48 Tryz.underlying35 hi0 hi1 hi2 hi3 rfl (Nat.succ_pos _) (by omega) (by rfl) ho (by rfl) hr hap hsm hsz ?_; intro a4 c4 u4 ho4 hg4 hb4 hat4; rw [HZ.out] at ho4 ⊢))
    go_ret
    exact ⟨(new_bel w _).trans hb4, a4, c4, rfl, ho4⟩

set_option maxRecDepth 100000 in
set_option maxHeartbeats 1000000 in
theorem fcloneL {P : Nat → Prop} (a : Option Addr) (n c : Nat) (l : List Ly) (w : World) (h : (sliceS lyS).rep w P [.slice a n c] l) (hP : ∀ b, P b → b < w.heap.size) (hn : n ≤ 1000) :
    Calls Tryz.prog 81 #[.slice a n c] w fun e w' => Below w.heap.size w w' ∧ ∃ a' c', e = .returned (.slice a' n c') ∧ Own (inS lyS P) w' w.heap.size 37 (.slice a' n c') l := by
  obtain ⟨i0, hi0, hi1, hi2, hi3⟩ := info_parts Tryz.infoLy3
  have q22 : ∀ (w : World) (a : Option Addr) (n c n' c' : Nat), (binOp .eql 39 (.slice a n c) (.slice none n' c')).run Tryz.prog w = .ok (.bool a.isNone) w := fun w a n c n' c' => Lib.run_eql_slice_nil w _ _ a n c n' c' Tryz.underlying39
  cases a with
  | none =>
    obtain ⟨rfl, rfl⟩ := slice_nil h (Nat.succ_pos _)
    clear h
    go_enter Tryz.func81, Tryz.ntmps81
    go_wp2
    go_ret
    exact ⟨Below.refl _ _, none, 0, rfl, Own.nil _ _ _ _⟩
  | some ad =>
    have hr0 : (sliceS (inS lyS P)).rep w P [.slice (some ad) n c] l := by
      obtain ⟨a1, c1, css, h1, h2, h3, h4, h5⟩ := h
      exact ⟨a1, c1, css, h1, h2, h3, ⟨h4.1, fun j cs x hc hx => lyS.mono (h4.2 j cs x hc hx) fun b hb _ => ⟨hb, hb⟩⟩, h5⟩
    have hr := Shape.below hr0 (new_bel w (.cells #[] 37))
    have HZ : Hid (([] : List Ly).length + n = n) := Nat.zero_add n
    have ho : Own (inS lyS P) (w.alloc (.cells #[] 37)) w.heap.size 37 (.slice (some ⟨w.heap.size, 0, none⟩) 0 0) [] := Own.empty _ w _
    have hap : ∀ b, P b → some b ≠ Value.ownBlock (.slice (some ⟨w.heap.size, 0, none⟩) 0 0) := fun b hb => Own.apart ho (Nat.le_refl _) b (hP b hb)
    have hsm : ([] : List Ly).length + n ≤ 100000 := by rw [HZ.out]; omega
    have hsz : w.heap.size ≤ (w.alloc (.cells #[] 37)).heap.size := by simp
    clear h hr0
    go_enter Tryz.func81, Tryz.ntmps81
    go_wp2_with (at_builtin; (refine wpList_app (inS lyS P) (by simp [Region.wanted]) (.tmp 5) (.tmp 6) 39 rfl w.heap.size 37 i0 (.agg #[.slice none 0 0, .slice none 0 0, .int .i64 0]) 56 Tryz.underlying39 hi0 hi1 hi2 hi3 rfl (Nat.succ_pos _) (by omega) (by rfl) ho (by rfl) hr hap hsm hsz ?_; intro a4 c4 u4 ho4 hg4 hb4 hat4; rw [HZ.out] at ho4 ⊢))
    go_ret
    exact ⟨(new_bel w _).trans hb4, a4, c4, rfl, ho4⟩

set_option maxRecDepth 100000 in
set_option maxHeartbeats 1000000 in
theorem frows {P : Nat → Prop} (a : Option Addr) (n c : Nat) (l : List (List Int)) (w : World) (h : matS.rep w P [.slice a n c] l) (hP : ∀ b, P b → b < w.heap.size) (hs : Pl.Short l) :
    Calls Tryz.prog 46 #[.slice a n c] w fun e w' => Below w.heap.size w w' ∧ ∃ a' c', e = .returned (.slice a' n c') ∧ matS.rep w' (fun b => P b ∨ w.heap.size ≤ b) [.slice a' n c'] l := by
  have hl := (sliceS_len h).1
  have hn : n ≤ 1000 := by have := hs.1; omega
  have HL : Hid (l.length = n) := hl
  have HS : Hid (Pl.Short l) := hs
  have HC : Hid (Calls _ _ _ _ _) := cloneM a n c l w h hP hn
  clear h hs hl hP
  go_enter Tryz.func46, Tryz.ntmps46
  go_wp2_with fail
  refine HC.out.mono ?_
  rintro e u1 ⟨hb1, a1, cc, rfl, ho1⟩
  have HO : Hid (Own (inS rowS (fun b => P b ∨ w.heap.size ≤ b)) u1 w.heap.size 31 (.slice a1 n cc) l) := ho1.wider fun b hb => .inl hb
  clear ho1 HC
  go_wp2
  go_loopw [10] (fun i wr => ∃ k : Nat, k ≤ n ∧ i = .int .i64 k ∧ Own (inS rowS (fun b => P b ∨ w.heap.size ≤ b)) wr w.heap.size 31 (.slice a1 n cc) l ∧ Below w.heap.size w wr) (fun i _ => n - (intOf i).toNat)
  case atStart => exact ⟨0, Nat.zero_le _, rfl, HO.out, hb1⟩
  case round =>
    clear HO hb1
    obtain ⟨k, hk, rfl, hown, hbel⟩ := hrel
    by_cases hlt : k < n
    · obtain ⟨g, rfl, hbg, hgl, _⟩ := hown.form (by omega)
      obtain ⟨b1, o1, A, C, he, _, c0, hr⟩ := mat_at hown.plain hlt
      injection he with he; injection he with hx1 hx2 _; subst hx1; subst hx2
      rw [Nat.zero_add] at c0
      have hli : (k : Int) < (n : Int) := by omega
      have hk0 : (0 : Int) ≤ (k : Int) := by omega
      have hkl : k < l.length := by have := HL.out; omega
      have hq : (l.getD k []).length ≤ 1000 := HS.out.2 _ (Mx.getD_mem l k hkl)
      have HC : Hid (Calls _ _ _ _ _) := clone A _ C _ wr (Shape.any hr) hq
      obtain ⟨v, hv⟩ : ∃ v, l.getD k [] = v := ⟨_, rfl⟩
      have HSS : Hid (l.set k v = l) := set_same hkl [] hv
      rw [hv] at c0 HC
      clear hr hq hv
      go_wp2_with fail
      refine HC.out.mono ?_
      rintro e u2 ⟨hb2, a2, c2, rfl, ho2⟩
      obtain ⟨⟨z0, x0⟩, f0, hst⟩ := (hown.keep hb2).store rfl hlt (inS_of (P := fun b => P b ∨ w.heap.size ≤ b) ho2.high (fun b (hb : wr.heap.size ≤ b) => .inr (by have := hbel.size; omega))) (fun b (hb : wr.heap.size ≤ b) => by omega)
      rw [HSS.out] at hst
      have HST : Hid _ := And.intro hst (bel_put (i := k) (bel_then hbel hb2) hbg (.slice a2 v.length c2))
      clear hst hown hb2 hbel ho2 HC c0
      go_wp2
      go_roundw
      case rel => exact ⟨k + 1, by omega, by go_num, HST.out.1, HST.out.2⟩
      case measure => simp [intOf]; omega
    · have hkn : k = n := by omega
      subst hkn
      have hli : ¬ (k : Int) < (k : Int) := by omega
      have hR := hown.among (Q := fun b => P b ∨ w.heap.size ≤ b) (fun _ hb => hb) (fun b hb _ _ => .inr hb)
      go_wp2
      go_ret
      exact ⟨hbel, _, _, rfl, hR⟩

set_option maxRecDepth 100000 in
set_option maxHeartbeats 1000000 in
theorem fmap {P : Nat → Prop} (ep : Int) (a : Option Addr) (n c : Nat) (l : List (List Int)) (w : World) (h : matS.rep w P [.slice a n c] l) (hP : ∀ b, P b → b < w.heap.size) (hs : Pl.Short l) :
    Calls Tryz.prog 45 #[.agg #[.int .i64 ep, .slice a n c]] w fun e w' => Below w.heap.size w w' ∧ ∃ a' c', e = .returned (.agg #[.int .i64 ep, .slice a' n c']) ∧ matS.rep w' (fun b => P b ∨ w.heap.size ≤ b) [.slice a' n c'] l := by
  have hB := bel_two w (.cells #[.int .i64 ep, .slice a n c] 50) (.cells #[.int .i64 0, .slice none 0 0] 50)
  have kp := (Box.new w 50 #[.int .i64 ep, .slice a n c]).keep (new_bel _ (.cells #[.int .i64 0, .slice none 0 0] 50))
  have kr := Box.new (w.alloc (.cells #[.int .i64 ep, .slice a n c] 50)) 50 #[.int .i64 0, .slice none 0 0]
  have e1 : (w.alloc (.cells #[.int .i64 ep, .slice a n c] 50)).heap.size = w.heap.size + 1 := by simp
  have e2 : ((w.alloc (.cells #[.int .i64 ep, .slice a n c] 50)).alloc (.cells #[.int .i64 0, .slice none 0 0] 50)).heap.size = w.heap.size + 2 := by simp
  rw [e1] at kr
  have hm := Shape.below h hB
  have HP : Hid (∀ b, P b → b < w.heap.size) := hP
  have HS : Hid (Pl.Short l) := hs
  clear h hs hP
  go_enter Tryz.func45, Tryz.ntmps45
  go_upto_region 1 with fail
  generalize (w.alloc (.cells #[.int .i64 ep, .slice a n c] 50)).alloc (.cells #[.int .i64 0, .slice none 0 0] 50) = W at *
  have hD : Below W.heap.size W W.drew := (Below.refl _ W).drew
  have HC : Hid (Calls _ _ _ _ _) := frows a n c l W.drew (Shape.below hm hD) (fun b hb => by have := HP.out b hb; show b < W.heap.size; omega) HS.out
  have c0 := kp.cell 0 rfl
  have c1 := kp.cell 1 rfl
  clear hm
  go_region_with
    (go_at_call 46; refine HC.out.mono ?_; rintro e u3 ⟨hb3, a3, c3, rfl, hr3⟩; have hd3 := bel_then hD hb3; have d0 := (kp.keep hd3).cell 0 rfl; have f0 := (kr.keep hd3).free 0; have f1 := (kr.keep hd3).free 1; have g0 := (kr.keep hd3).cell 0 rfl; have g1 := (kr.keep hd3).cell 1 rfl)
  all_goals
    have kr3 := kr.keep hd3
    have hB3 := bel_then hB hd3
    have hr4 : matS.rep u3 (fun b => P b ∨ w.heap.size + 2 ≤ b) [.slice a3 n c3] l := matS.mono hr3 fun b hb _ => hb.elim .inl (fun h => .inr (by have h7 : W.heap.size ≤ b := h; omega))
    have HR : Hid _ := And.intro kr3 (And.intro hB3 hr4)
    clear hr3 hr4 kr3 hB3 HC
    go_wp2
    refine ret_one Tryz.underlying50 Tryz.infoMap2 rfl rfl rfl (Box.all2 HR.out.1 _ _) rfl ?_
    exact ⟨bel_all2 HR.out.2.1 (Nat.le_succ _) _ _, a3, c3, rfl, matS.mono (Shape.all2 HR.out.2.2 (fun k hk hlt => hk.elim (fun h => by have := HP.out k h; omega) (fun h => by omega)) _ _) fun b hb _ => hb.elim .inl (fun h => .inr (by omega))⟩

set_option maxRecDepth 100000 in
set_option maxHeartbeats 2000000 in
theorem fexperts {P : Nat → Prop} (a : Option Addr) (n c : Nat) (l : List Xp) (w : World) (h : xpsS.rep w P [.slice a n c] l) (hP : ∀ b, P b → b < w.heap.size) (hn : n ≤ 1000) (hs : ∀ x ∈ l, Pl.Short x.1 ∧ Pl.Short x.2.1) :
    Calls Tryz.prog 82 #[.slice a n c] w fun e w' => Below w.heap.size w w' ∧ ∃ a' c', e = .returned (.slice a' n c') ∧ xpsS.rep w' (fun b => P b ∨ w.heap.size ≤ b) [.slice a' n c'] l := by
  have hl := (sliceS_len h).1
  have HL : Hid (l.length = n) := hl
  have HS : Hid (∀ x ∈ l, Pl.Short x.1 ∧ Pl.Short x.2.1) := hs
  have HP : Hid (∀ b, P b → b < w.heap.size) := hP
  have HC : Hid (Calls _ _ _ _ _) := fcloneX a n c l w h hP hn
  have HF : Hid (∀ (Q : Nat → Prop) (a : Option Addr) (n c : Nat) (l : List (List Int)) (w : World) (_ : matS.rep w Q [.slice a n c] l) (_ : ∀ b, Q b → b < w.heap.size) (_ : Pl.Short l), Calls Tryz.prog 46 #[.slice a n c] w fun e w' => Below w.heap.size w w' ∧ ∃ a' c', e = .returned (.slice a' n c') ∧ matS.rep w' (fun b => Q b ∨ w.heap.size ≤ b) [.slice a' n c'] l) := fun Q a n c l w h h2 h3 => frows a n c l w h h2 h3
  clear h hs hl hP
  go_enter Tryz.func82, Tryz.ntmps82
  go_wp2_with fail
  refine HC.out.mono ?_
  rintro e u1 ⟨hb1, a1, cc, rfl, ho1⟩
  have HO : Hid (Own (inS xpS (fun b => P b ∨ w.heap.size ≤ b)) u1 w.heap.size 34 (.slice a1 n cc) l) := ho1.wider fun b hb => .inl hb
  clear ho1 HC
  go_wp2
  go_loopw [10] (fun i wr => ∃ k : Nat, k ≤ n ∧ i = .int .i64 k ∧ Own (inS xpS (fun b => P b ∨ w.heap.size ≤ b)) wr w.heap.size 34 (.slice a1 n cc) l ∧ Below w.heap.size w wr) (fun i _ => n - (intOf i).toNat)
  case atStart => exact ⟨0, Nat.zero_le _, rfl, HO.out, hb1⟩
  case round =>
    clear HO hb1
    obtain ⟨k, hk, rfl, hown, hbel⟩ := hrel
    by_cases hlt : k < n
    · obtain ⟨g, rfl, hbg, hgl, _⟩ := hown.form (by omega)
      have hli : (k : Int) < (n : Int) := by omega
      have hk0 : (0 : Int) ≤ (k : Int) := by omega
      have hkl : k < l.length := by have := HL.out; omega
      obtain ⟨x, hx⟩ : ∃ x, l.getD k xp0 = x := ⟨_, rfl⟩
      obtain ⟨mi, mo, _⟩ := x
      obtain ⟨cs, hcs, hcc⟩ := hown.elem hlt hx
      obtain ⟨ai, ni, ci, ao, no, co, rfl, hri, hro⟩ := xp_is hcs
      have c0 : wr.cell? ⟨g, k * 2, none⟩ = some (.slice ai ni ci) := hcc 0 _ rfl
      have c1 : wr.cell? ⟨g, k * 2 + 1, none⟩ = some (.slice ao no co) := hcc 1 _ rfl
      have hE : l.getD k xp0 = (mi, mo, ()) := hx
      have hsz := HS.out _ (in_of hkl xp0)
      rw [hE] at hsz
      have HSS : Hid (l.set k (mi, mo, ()) = l) := set_same hkl xp0 hE
      have hbn := new_bel wr (.cells #[.slice ai ni ci, .slice ao no co] 34)
      have kb := Box.new wr 34 #[.slice ai ni ci, .slice ao no co]
      have hown1 := hown.keep hbn
      have hB1 := bel_then hbel hbn
      have hri1 := Shape.below hri hbn
      have hro1 := Shape.below hro hbn
      have hszw : (wr.alloc (.cells #[.slice ai ni ci, .slice ao no co] 34)).heap.size = wr.heap.size + 1 := by simp
      have HW : Hid (w.heap.size ≤ wr.heap.size) := hbel.size
      clear hE hown hbel hbn hri hro hx hcs hcc
      go_upto_region 5 with fail
      clear c0 c1
      generalize wr.alloc (.cells #[.slice ai ni ci, .slice ao no co] 34) = W at *
      have c0 := kb.cell 0 rfl
      have c1 := kb.cell 1 rfl
      have hD : Below W.heap.size W W.drew := (Below.refl _ W).drew
      have HRI : Hid (matS.rep W (fun b => b ≠ g ∧ (P b ∨ w.heap.size ≤ b) ∧ b < wr.heap.size) [.slice ai ni ci] mi ∧ Pl.Short mi) := ⟨hri1, hsz.1⟩
      have HRO : Hid (matS.rep W (fun b => b ≠ g ∧ (P b ∨ w.heap.size ≤ b) ∧ b < wr.heap.size) [.slice ao no co] mo ∧ Pl.Short mo) := ⟨hro1, hsz.2⟩
      have HWs : Hid (W.heap.size = wr.heap.size + 1) := hszw
      clear hri1 hro1 hsz hszw
      go_region_held3 (fun w' => w'.cell? ⟨wr.heap.size, 0, none⟩ = some (.slice ai ni ci) ∧ w'.cell? ⟨wr.heap.size, 1, none⟩ = some (.slice ao no co))
        (first
          | exact ⟨(((kb.keep hd4).other (b2 := g) (i := k * 2) _ (by omega)).other (b2 := g) (i := k * 2 + 1) _ (by omega)).cell 0 rfl, (((kb.keep hd4).other (b2 := g) (i := k * 2) _ (by omega)).other (b2 := g) (i := k * 2 + 1) _ (by omega)).cell 1 rfl⟩
          | exact ⟨(kb.keep hd4).cell 0 rfl, (kb.keep hd4).cell 1 rfl⟩
          | exact ⟨(kb.keep hd3).cell 0 rfl, (kb.keep hd3).cell 1 rfl⟩
          | exact ⟨(kb.keep hD).cell 0 rfl, (kb.keep hD).cell 1 rfl⟩
          | exact ⟨kb.cell 0 rfl, kb.cell 1 rfl⟩
          | go_keep)
        (first
        | (go_at_call 46; refine (HF.out _ ao no co mo u3 (Shape.below HRO.out.1 hd3) (fun b hb => by have := hd3.size; have := HWs.out; omega) HRO.out.2).mono ?_; rintro e u4 ⟨hb4, a4, c4, rfl, hr4⟩; have hd4 := bel_then hd3 hb4; have hown4 := hown1.keep hd4; obtain ⟨z0, y0⟩ := hown4.cellK hlt (i := 0) (by show 0 < 2; omega); obtain ⟨z1, y1⟩ := hown4.cellK hlt (i := 1) (by show 1 < 2; omega); have x0 : u4.cell? ⟨g, k * 2, none⟩ = some z0 := y0; have x1 : u4.cell? ⟨g, k * 2 + 1, none⟩ = some z1 := y1; clear y0 y1; have f0 := hown4.freeK (k * 2); have f1 := hown4.freeK (k * 2 + 1))
        | (go_at_call 46; refine (HF.out _ ai ni ci mi W.drew (Shape.below HRI.out.1 hD) (fun b hb => by have := HWs.out; show b < W.heap.size; omega) HRI.out.2).mono ?_; rintro e u3 ⟨hb3, a3, c3, rfl, hr3⟩; have hd3 := bel_then hD hb3))
      all_goals
        have hri4 := Shape.below hr3 hb4
        have hin : (inS xpS (fun b => P b ∨ w.heap.size ≤ b)).rep u4 (fun b => (b ≠ g ∧ (P b ∨ w.heap.size ≤ b) ∧ b < wr.heap.size) ∨ W.heap.size ≤ b) [.slice a3 ni c3, .slice a4 no c4] (mi, mo, ()) :=
          inS_of (xp_rep (matS.mono hri4 fun b hb _ => hb.elim .inl (fun h => .inr h)) (matS.mono hr4 fun b hb _ => hb.elim .inl (fun h => .inr (Nat.le_trans (show W.heap.size ≤ u3.heap.size from hd3.size) h)))) (fun b hb => hb.elim (fun h => h.2.1) (fun h => .inr (by have := HWs.out; have := HW.out; omega)))
        have hst := hown4.storeK hlt hin (fun b hb => hb.elim (fun h => h.1) (fun h => by have := HWs.out; omega))
        rw [HSS.out] at hst
        have HST : Hid _ := And.intro hst (bel_run (vs := [.slice a3 ni c3, .slice a4 no c4]) (i := k * 2) (bel_then hB1 hd4) hbg)
        clear hst hown4 hown1 hB1 hd4 hd3 hb4 hb3 hr3 hr4 hri4 x0 x1 f0 f1
        go_wp2
        go_roundw
        case rel => exact ⟨k + 1, by omega, by go_num, HST.out.1, HST.out.2⟩
        case measure => simp [intOf]; omega
    · have hkn : k = n := by omega
      subst hkn
      have hli : ¬ (k : Int) < (k : Int) := by omega
      have hR := hown.among (Q := fun b => P b ∨ w.heap.size ≤ b) (fun _ hb => hb) (fun b hb _ _ => .inr hb)
      go_wp2
      go_ret
      exact ⟨hbel, _, _, rfl, hR⟩

set_option maxRecDepth 100000 in
set_option maxHeartbeats 4000000 in
theorem fmodel {P : Nat → Prop} (dim : Int) (a : Option Addr) (n c : Nat) (l : List Ly) (w : World) (h : lysS.rep w P [.slice a n c] l) (hP : ∀ b, P b → b < w.heap.size) (hn : n ≤ 1000) (hs : ∀ x ∈ l, x.2.1.length ≤ 1000 ∧ Pl.Short x.1 ∧ ∀ y ∈ x.2.1, Pl.Short y.1 ∧ Pl.Short y.2.1) :
    Calls Tryz.prog 44 #[.agg #[.int .i64 dim, .slice a n c]] w fun e w' => Below w.heap.size w w' ∧ ∃ a' c', e = .returned (.agg #[.int .i64 dim, .slice a' n c']) ∧ lysS.rep w' (fun b => P b ∨ w.heap.size ≤ b) [.slice a' n c'] l := by
  have hl := (sliceS_len h).1
  have HL : Hid (l.length = n) := hl
  have HS : Hid (∀ x ∈ l, x.2.1.length ≤ 1000 ∧ Pl.Short x.1 ∧ ∀ y ∈ x.2.1, Pl.Short y.1 ∧ Pl.Short y.2.1) := hs
  have hB := bel_two w (.cells #[.int .i64 dim, .slice a n c] 41) (.cells #[.int .i64 0, .slice none 0 0] 41)
  have kp := (Box.new w 41 #[.int .i64 dim, .slice a n c]).keep (new_bel _ (.cells #[.int .i64 0, .slice none 0 0] 41))
  have kr := Box.new (w.alloc (.cells #[.int .i64 dim, .slice a n c] 41)) 41 #[.int .i64 0, .slice none 0 0]
  have e1 : (w.alloc (.cells #[.int .i64 dim, .slice a n c] 41)).heap.size = w.heap.size + 1 := by simp
  have e2 : ((w.alloc (.cells #[.int .i64 dim, .slice a n c] 41)).alloc (.cells #[.int .i64 0, .slice none 0 0] 41)).heap.size = w.heap.size + 2 := by simp
  rw [e1] at kr
  have hm := Shape.below h hB
  have HP : Hid (∀ b, P b → b < w.heap.size) := hP
  have HF : Hid (∀ (Q : Nat → Prop) (a : Option Addr) (n c : Nat) (l : List (List Int)) (w : World) (_ : matS.rep w Q [.slice a n c] l) (_ : ∀ b, Q b → b < w.heap.size) (_ : Pl.Short l), Calls Tryz.prog 46 #[.slice a n c] w fun e w' => Below w.heap.size w w' ∧ ∃ a' c', e = .returned (.slice a' n c') ∧ matS.rep w' (fun b => Q b ∨ w.heap.size ≤ b) [.slice a' n c'] l) := fun Q a n c l w h h2 h3 => frows a n c l w h h2 h3
  have HX : Hid (∀ (Q : Nat → Prop) (a : Option Addr) (n c : Nat) (l : List Xp) (w : World) (_ : xpsS.rep w Q [.slice a n c] l) (_ : ∀ b, Q b → b < w.heap.size) (_ : n ≤ 1000) (_ : ∀ x ∈ l, Pl.Short x.1 ∧ Pl.Short x.2.1), Calls Tryz.prog 82 #[.slice a n c] w fun e w' => Below w.heap.size w w' ∧ ∃ a' c', e = .returned (.slice a' n c') ∧ xpsS.rep w' (fun b => Q b ∨ w.heap.size ≤ b) [.slice a' n c'] l) := fun Q a n c l w h h2 h3 h4 => fexperts a n c l w h h2 h3 h4
  clear h hs hP hl
  go_enter Tryz.func44, Tryz.ntmps44
  go_upto_region 1 with fail
  generalize (w.alloc (.cells #[.int .i64 dim, .slice a n c] 41)).alloc (.cells #[.int .i64 0, .slice none 0 0] 41) = W at *
  have HC : Hid (Calls _ _ _ _ _) := fcloneL a n c l W hm (fun b hb => by have := HP.out b hb; omega) hn
  have c0 := kp.cell 0 rfl
  have c1 := kp.cell 1 rfl
  clear hm
  go_wp2_with fail
  refine HC.out.mono ?_
  rintro e u1 ⟨hb1, a1, cc, rfl, ho1⟩
  have HO : Hid (Own (inS lyS (fun b => P b ∨ W.heap.size ≤ b)) u1 W.heap.size 37 (.slice a1 n cc) l) := ho1.wider fun b hb => .inl hb
  have HK : Hid (Box W w.heap.size 41 #[.int .i64 dim, .slice a n c] ∧ Box W (w.heap.size + 1) 41 #[.int .i64 0, .slice none 0 0] ∧ Below w.heap.size w W) := ⟨kp, kr, hB⟩
  clear ho1 HC c0 c1 kp kr hB
  go_wp2
  go_loopw [11] (fun i wr => ∃ k : Nat, k ≤ n ∧ i = .int .i64 k ∧ Own (inS lyS (fun b => P b ∨ W.heap.size ≤ b)) wr W.heap.size 37 (.slice a1 n cc) l ∧ Below W.heap.size W wr) (fun i _ => n - (intOf i).toNat)
  case atStart => exact ⟨0, Nat.zero_le _, rfl, HO.out, hb1⟩
  case round =>
    clear HO hb1
    obtain ⟨k, hk, rfl, hown, hbel⟩ := hrel
    by_cases hlt : k < n
    · obtain ⟨g, rfl, hbg, hgl, _⟩ := hown.form (by omega)
      have hli : (k : Int) < (n : Int) := by omega
      have hk0 : (0 : Int) ≤ (k : Int) := by omega
      have hkl : k < l.length := by have := HL.out; omega
      obtain ⟨x, hx⟩ : ∃ x, l.getD k ly0 = x := ⟨_, rfl⟩
      obtain ⟨G, xs, cap, _⟩ := x
      obtain ⟨cs, hcs, hcc⟩ := hown.elem hlt hx
      obtain ⟨ag, ng, cg, ax, nx, cx, rfl, hrg, hrx⟩ := ly_is hcs
      have c0 : wr.cell? ⟨g, k * 3, none⟩ = some (.slice ag ng cg) := hcc 0 _ rfl
      have c1 : wr.cell? ⟨g, k * 3 + 1, none⟩ = some (.slice ax nx cx) := hcc 1 _ rfl
      have c2 : wr.cell? ⟨g, k * 3 + 2, none⟩ = some (.int .i64 cap) := hcc 2 _ rfl
      have hE : l.getD k ly0 = (G, xs, cap, ()) := hx
      have hsz := HS.out _ (in_of hkl ly0)
      rw [hE] at hsz
      have HE : Hid (l.getD k ly0 = (G, xs, cap, ())) := hE
      have hnx := (sliceS_len hrx).1
      have hbn := new_bel wr (.cells #[.slice ag ng cg, .slice ax nx cx, .int .i64 cap] 37)
      have kb := Box.new wr 37 #[.slice ag ng cg, .slice ax nx cx, .int .i64 cap]
      have hown1 := hown.keep hbn
      have hB1 := bel_then hbel hbn
      have hrg1 := Shape.below hrg hbn
      have hrx1 := Shape.below hrx hbn
      have hszw : (wr.alloc (.cells #[.slice ag ng cg, .slice ax nx cx, .int .i64 cap] 37)).heap.size = wr.heap.size + 1 := by simp
      have HW : Hid (W.heap.size ≤ wr.heap.size) := hbel.size
      clear hE hown hbel hbn hrg hrx hx hcs hcc
      go_upto_region 5 with fail
      clear c0 c1 c2
      generalize wr.alloc (.cells #[.slice ag ng cg, .slice ax nx cx, .int .i64 cap] 37) = Z at *
      have HC1 : Hid (Calls _ _ _ _ _) := HF.out (fun b => b ≠ g ∧ (P b ∨ W.heap.size ≤ b) ∧ b < wr.heap.size) ag ng cg G Z hrg1 (fun b hb => by omega) hsz.2.1
      have c0 := kb.cell 0 rfl
      clear hrg1
      go_upto_region 6 with (go_at_call 46; refine HC1.out.mono ?_; rintro e u3 ⟨hb3, a3, c3, rfl, hr3⟩; have hown3 := hown1.keep hb3; obtain ⟨z0, y0⟩ := hown3.cellK hlt (i := 0) (by show 0 < 3; omega); have x0 : u3.cell? ⟨g, k * 3, none⟩ = some z0 := y0; clear y0; have f0 := hown3.freeK (k * 3))
      have hst : Own (inS lyS (fun b => P b ∨ W.heap.size ≤ b)) (u3.setCell ⟨g, k * 3, none⟩ (.slice a3 ng c3)) W.heap.size 37 (.slice (some ⟨g, 0, none⟩) n cc) l := by
        refine hown3.part (A := inS lyS (fun b => P b ∨ W.heap.size ≤ b)) hlt (k := 0) (v := .slice a3 ng c3) HE.out (by show 0 < 3; omega) fun cs hcs => ?_
        obtain ⟨ag', ng', cg', ax', nx', cx', rfl, h1, h2⟩ := ly_is hcs
        refine ly_rep _ (matS.mono hr3 fun b hb _ => hb.elim (fun h => ⟨fun e => h.1 (Option.some.inj e), h.2.1⟩) (fun h => ⟨fun e => by have e2 : b = g := Option.some.inj e; omega, .inr (by have := HW.out; omega)⟩)) h2
      have kb3 := (kb.keep hb3).other (b2 := g) (i := k * 3) (.slice a3 ng c3) (by omega)
      have hB3 := bel_put (i := k * 3) (bel_then hB1 hb3) hbg (.slice a3 ng c3)
      have hrx3 : xpsS.rep (u3.setCell ⟨g, k * 3, none⟩ (.slice a3 ng c3)) (fun b => b ≠ g ∧ (P b ∨ W.heap.size ≤ b) ∧ b < wr.heap.size) [.slice ax nx cx] xs := Shape.keep _ (Shape.below hrx1 hb3) fun b hb _ => Below.heap_setCell u3 _ _ b hb.1
      have hs3 : wr.heap.size + 1 ≤ (u3.setCell ⟨g, k * 3, none⟩ (.slice a3 ng c3)).heap.size := by have := hb3.size; simp; omega
      clear hown3 hown1 kb hB1 hrx1 hr3 x0 f0 c0 HC1
      generalize u3.setCell ⟨g, k * 3, none⟩ (.slice a3 ng c3) = Y at *
      have HC2 : Hid (Calls _ _ _ _ _) := HX.out (fun b => b ≠ g ∧ (P b ∨ W.heap.size ≤ b) ∧ b < wr.heap.size) ax nx cx xs Y hrx3 (fun b hb => by omega) (by have h7 : xs.length ≤ 1000 := hsz.1; omega) hsz.2.2
      have c1 := kb3.cell 1 rfl
      clear hrx3
      go_upto_region 7 with (go_at_call 82; refine HC2.out.mono ?_; rintro e u4 ⟨hb4, a4, c4, rfl, hr4⟩; have hown4 := hst.keep hb4; obtain ⟨z1, y1⟩ := hown4.cellK hlt (i := 1) (by show 1 < 3; omega); have x1 : u4.cell? ⟨g, k * 3 + 1, none⟩ = some z1 := y1; clear y1; have f1 := hown4.freeK (k * 3 + 1))
      have hst4 : Own (inS lyS (fun b => P b ∨ W.heap.size ≤ b)) (u4.setCell ⟨g, k * 3 + 1, none⟩ (.slice a4 nx c4)) W.heap.size 37 (.slice (some ⟨g, 0, none⟩) n cc) l := by
        refine hown4.part (A := inS lyS (fun b => P b ∨ W.heap.size ≤ b)) hlt (k := 1) (v := .slice a4 nx c4) HE.out (by show 1 < 3; omega) fun cs hcs => ?_
        obtain ⟨ag', ng', cg', ax', nx', cx', rfl, h1, h2⟩ := ly_is hcs
        refine ly_rep _ h1 (xpsS.mono hr4 fun b hb _ => hb.elim (fun h => ⟨fun e => h.1 (Option.some.inj e), h.2.1⟩) (fun h => ⟨fun e => by have e2 : b = g := Option.some.inj e; omega, .inr (by have := HW.out; omega)⟩))
      have HST : Hid _ := And.intro hst4 (bel_put (i := k * 3 + 1) (bel_then hB3 hb4) hbg (.slice a4 nx c4))
      clear hst hst4 hown4 hB3 hb4 hr4 x1 f1 c1 HC2 kb3
      go_wp2
      go_roundw
      case rel => exact ⟨k + 1, by omega, by go_num, HST.out.1, HST.out.2⟩
      case measure => simp [intOf]; omega
    · have hkn : k = n := by omega
      subst hkn
      have hli : ¬ (k : Int) < (k : Int) := by omega
      have hR := hown.among (Q := fun b => P b ∨ W.heap.size ≤ b) (fun _ hb => hb) (fun b hb _ _ => .inr hb)
      have kp := HK.out.1.keep hbel
      have kr := HK.out.2.1.keep hbel
      have hB3 := bel_then HK.out.2.2 hbel
      have d0 := kp.cell 0 rfl
      have f0 := kr.free 0
      have f1 := kr.free 1
      have g0 := kr.cell 0 rfl
      have g1 := kr.cell 1 rfl
      have HR : Hid _ := And.intro kr (And.intro hB3 hR)
      clear hR hown kp kr hB3 hbel
      go_wp2
      refine ret_one Tryz.underlying41 Tryz.infoModel2 rfl rfl rfl (Box.all2 HR.out.1 _ _) rfl ?_
      exact ⟨bel_all2 HR.out.2.1 (Nat.le_succ _) _ _, a1, cc, rfl, lysS.mono (Shape.all2 HR.out.2.2 (fun k hk hlt => hk.elim (fun h => by have := HP.out k h; omega) (fun h => by omega)) _ _) fun b hb _ => hb.elim .inl (fun h => .inr (by omega))⟩

end Go.Proofs.YtokfcjgfpchffaaGreatDoor
