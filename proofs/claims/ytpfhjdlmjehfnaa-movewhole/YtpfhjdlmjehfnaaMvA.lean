/- What slices.Clone and slices.Contains of bools, slices.Clone of texts, and copied, mapCopied, rightNode and canLeave of package move do when called. -/
import Derived.Test.YtpfhjdlmjehfnaaMq
import Derived.Test.YtpfhjdlmjehfnaaPlcB
import Derived.Test.YtpfhjdlmjehfnaaBagA
import Derived.Test.YtpfhjdlmjehfnaaAk
import Derived.Test.YtpfhjdlmjehfnaaTk
import Derived.Test.YtpfhjdlmjehfnaaRk
namespace Go.Proofs.Ytpfhjdlmjehfnaa
open Go.ChangeShapes Go.WideShapes Go.ChangeAt Go.RowKit


theorem hidL {p : Prop} (h : p) : Hid p := h
/-! ### Variables of seven cells -/
theorem Box.all7 {u : World} {b : Nat} {t : TypeId} {p0 p1 p2 p3 p4 p5 p6 : Value} (h : Box u b t #[p0, p1, p2, p3, p4, p5, p6]) (v0 v1 v2 v3 v4 v5 v6 : Value) : Box (((((((u.setCell ⟨b, 0, none⟩ v0).setCell ⟨b, 1, none⟩ v1).setCell ⟨b, 2, none⟩ v2).setCell ⟨b, 3, none⟩ v3).setCell ⟨b, 4, none⟩ v4).setCell ⟨b, 5, none⟩ v5).setCell ⟨b, 6, none⟩ v6) b t #[v0, v1, v2, v3, v4, v5, v6] := by
  have := ((((((h.set 0 v0).set 1 v1).set 2 v2).set 3 v3).set 4 v4).set 5 v5).set 6 v6
  simp only [List.setIfInBounds_toArray, List.set_cons_zero, List.set_cons_succ] at this
  exact this
theorem Box.all7_other {u : World} {b b2 : Nat} {t : TypeId} {cs : Array Value} (h : Box u b t cs) (hne : b ≠ b2) (v0 v1 v2 v3 v4 v5 v6 : Value) : Box (((((((u.setCell ⟨b2, 0, none⟩ v0).setCell ⟨b2, 1, none⟩ v1).setCell ⟨b2, 2, none⟩ v2).setCell ⟨b2, 3, none⟩ v3).setCell ⟨b2, 4, none⟩ v4).setCell ⟨b2, 5, none⟩ v5).setCell ⟨b2, 6, none⟩ v6) b t cs := ((((((h.other v0 hne).other v1 hne).other v2 hne).other v3 hne).other v4 hne).other v5 hne).other v6 hne
theorem bel_all7 {B : Nat} {a u : World} (h : Below B a u) {b : Nat} (hb : B ≤ b) (v0 v1 v2 v3 v4 v5 v6 : Value) : Below B a (((((((u.setCell ⟨b, 0, none⟩ v0).setCell ⟨b, 1, none⟩ v1).setCell ⟨b, 2, none⟩ v2).setCell ⟨b, 3, none⟩ v3).setCell ⟨b, 4, none⟩ v4).setCell ⟨b, 5, none⟩ v5).setCell ⟨b, 6, none⟩ v6) := bel_put (bel_put (bel_put (bel_put (bel_put (bel_put (bel_put h hb v0) hb v1) hb v2) hb v3) hb v4) hb v5) hb v6
theorem grown_all7 (u : World) (b : Nat) (v0 v1 v2 v3 v4 v5 v6 : Value) : u.grownBy (((((((u.setCell ⟨b, 0, none⟩ v0).setCell ⟨b, 1, none⟩ v1).setCell ⟨b, 2, none⟩ v2).setCell ⟨b, 3, none⟩ v3).setCell ⟨b, 4, none⟩ v4).setCell ⟨b, 5, none⟩ v5).setCell ⟨b, 6, none⟩ v6) (some b) := grown_then (grown_then (grown_then (grown_then (grown_then (grown_then (grown_then (grown_refl u (some b)) (grown_set _ b 0 v0)) (grown_set _ b 1 v1)) (grown_set _ b 2 v2)) (grown_set _ b 3 v3)) (grown_set _ b 4 v4)) (grown_set _ b 5 v5)) (grown_set _ b 6 v6)
theorem rep_all7 {α : Type} {A : Shape α} {u : World} {F : Nat → Prop} {cs : List Value} {x : α} (h : A.rep u F cs x) {b : Nat} (hF : ∀ k, F k → k ≠ b) (v0 v1 v2 v3 v4 v5 v6 : Value) : A.rep (((((((u.setCell ⟨b, 0, none⟩ v0).setCell ⟨b, 1, none⟩ v1).setCell ⟨b, 2, none⟩ v2).setCell ⟨b, 3, none⟩ v3).setCell ⟨b, 4, none⟩ v4).setCell ⟨b, 5, none⟩ v5).setCell ⟨b, 6, none⟩ v6) F cs x :=
  A.keep h fun k hk hlt => (grown_all7 u b v0 v1 v2 v3 v4 v5 v6).block k hlt (fun e => hF k hk (Option.some.inj e))

theorem Try.infoBool : (Try.prog.info? 4).map (fun i => (i.zero, i.size, i.bytes)) = some (some (.bool false), 1, 1) := by kernel_rfl
theorem Try.infoMove : (Try.prog.info? 30).map (·.size) = some 7 := by kernel_rfl
theorem Try.infoMoveR : (Try.prog.info? 34).map (·.size) = some 7 := by kernel_rfl
abbrev bitsS : Shape (List Bool) := sliceS boolS
theorem plain_bool : Plain boolS := fun h => h
theorem slice_none {α : Type} {A : Shape α} {w : World} {F : Nat → Prop} {n c : Nat} {l : List α} (h : (sliceS A).rep w F [.slice none n c] l) (hs : 0 < A.size) : n = 0 ∧ l = [] := by
  have hl := (sliceS_len h).1
  have h0 : n = 0 := by
    by_cases h0 : 0 < n
    · obtain ⟨b, off, cs, hb, _⟩ := sliceS_at h hs (j := 0) (by omega)
      cases hb
    · omega
  subst h0
  exact ⟨rfl, List.eq_nil_of_length_eq_zero hl⟩
theorem bit_at {w : World} {F : Nat → Prop} {a : Option Addr} {n c : Nat} {l : List Bool} (h : bitsS.rep w F [.slice a n c] l) {j : Nat} (hj : j < n) :
    ∃ b off, a = some ⟨b, off, none⟩ ∧ F b ∧ b < w.heap.size ∧ w.cell? ⟨b, off + j, none⟩ = some (.bool (l.getD j false)) := by
  have hl := (sliceS_len h).1
  obtain ⟨b, off, cs, ha, hF, hb, hc, hr⟩ := sliceS_at h (by exact Nat.one_pos) (j := j) (by omega)
  have hr' : cs = [.bool (l[j]'(by omega))] := hr
  subst hr'
  have h0 := hc 0 _ rfl
  rw [show off + (j * boolS.size + 0) = off + j by show off + (j * 1 + 0) = off + j; omega] at h0
  refine ⟨b, off, ha, hF, hb, ?_⟩
  rw [h0, List.getD_eq_getElem?_getD, List.getElem?_eq_getElem (by omega)]; rfl

theorem rep_draw {α : Type} {A : Shape α} {w : World} {F : Nat → Prop} {cs : List Value} {x : α} (h : A.rep w F cs x) : A.rep w.drew F cs x := A.keep h fun _ _ _ => rfl

/-! ### Clone -/
set_option maxRecDepth 100000 in
theorem cloneB (a : Option Addr) (n c : Nat) (l : List Bool) (w : World) (h : (sliceS boolS).rep w everywhere [.slice a n c] l) (hn : n ≤ 1000) :
    Calls Try.prog 49 #[.slice a n c] w fun e w' => Below w.heap.size w w' ∧ ∃ a' c', e = .returned (.slice a' n c') ∧ Own boolS w' w.heap.size 4 (.slice a' n c') l := by
  obtain ⟨i0, hi0, hi1, hi2, hi3⟩ := info_parts Try.infoBool
  have q22 : ∀ (w : World) (a : Option Addr) (n c n' c' : Nat), (binOp .eql 27 (.slice a n c) (.slice none n' c')).run Try.prog w = .ok (.bool a.isNone) w := fun w a n c n' c' => Lib.run_eql_slice_nil w _ _ a n c n' c' Try.underlying27
  cases a with
  | none =>
    obtain ⟨rfl, rfl⟩ := slice_none h Nat.one_pos
    clear h
    go_enter Try.func49, Try.ntmps49
    go_wp2
    go_ret
    exact ⟨Below.refl _ _, none, 0, rfl, Own.nil _ _ _ _⟩
  | some ad =>
    have hr := Shape.now (Shape.low h) (new_bel w (.cells #[] 4))
    have HZ : Hid (([] : List Bool).length + n = n) := Nat.zero_add n
    have ho : Own boolS (w.alloc (.cells #[] 4)) w.heap.size 4 (.slice (some ⟨w.heap.size, 0, none⟩) 0 0) [] := Own.empty _ w _
    have hap := Own.apart ho (Nat.le_refl _)
    have hsm : ([] : List Bool).length + n ≤ 100000 := by rw [HZ.out]; omega
    have hsz : w.heap.size ≤ (w.alloc (.cells #[] 4)).heap.size := by simp
    clear h
    go_enter Try.func49, Try.ntmps49
    go_wp2_with (at_builtin; (refine wpList_app boolS (by simp [Region.wanted]) (.tmp 5) (.tmp 6) 27 rfl w.heap.size 4 i0 (.bool false) 1 Try.underlying27 hi0 hi1 hi2 hi3 rfl Nat.one_pos (by omega) (by rfl) ho (by rfl) hr (fun b hb => hap b hb) hsm hsz ?_; intro a4 c4 u4 ho4 hg4 hb4 hat4; rw [HZ.out] at ho4 ⊢))
    go_ret
    exact ⟨(new_bel w _).trans hb4, a4, c4, rfl, ho4⟩
set_option maxRecDepth 100000 in
theorem cloneT (a : Option Addr) (n c : Nat) (l : List ByteArray) (w : World) (h : (sliceS strS).rep w everywhere [.slice a n c] l) (hn : n ≤ 1000) :
    Calls Try.prog 50 #[.slice a n c] w fun e w' => Below w.heap.size w w' ∧ ∃ a' c', e = .returned (.slice a' n c') ∧ Own strS w' w.heap.size 9 (.slice a' n c') l := by
  obtain ⟨i0, hi0, hi1, hi2, hi3⟩ := info_parts Try.infoText
  have q22 : ∀ (w : World) (a : Option Addr) (n c n' c' : Nat), (binOp .eql 28 (.slice a n c) (.slice none n' c')).run Try.prog w = .ok (.bool a.isNone) w := fun w a n c n' c' => Lib.run_eql_slice_nil w _ _ a n c n' c' Try.underlying28
  cases a with
  | none =>
    obtain ⟨rfl, rfl⟩ := slice_none h Nat.one_pos
    clear h
    go_enter Try.func50, Try.ntmps50
    go_wp2
    go_ret
    exact ⟨Below.refl _ _, none, 0, rfl, Own.nil _ _ _ _⟩
  | some ad =>
    have hr := Shape.now (Shape.low h) (new_bel w (.cells #[] 9))
    have HZ : Hid (([] : List ByteArray).length + n = n) := Nat.zero_add n
    have ho : Own strS (w.alloc (.cells #[] 9)) w.heap.size 9 (.slice (some ⟨w.heap.size, 0, none⟩) 0 0) [] := Own.empty _ w _
    have hap := Own.apart ho (Nat.le_refl _)
    have hsm : ([] : List ByteArray).length + n ≤ 100000 := by rw [HZ.out]; omega
    have hsz : w.heap.size ≤ (w.alloc (.cells #[] 9)).heap.size := by simp
    clear h
    go_enter Try.func50, Try.ntmps50
    go_wp2_with (at_builtin; (refine wpList_app strS (by simp [Region.wanted]) (.tmp 5) (.tmp 6) 28 rfl w.heap.size 9 i0 (.string noText) 16 Try.underlying28 hi0 hi1 hi2 hi3 rfl Nat.one_pos (by omega) (by rfl) ho (by rfl) hr (fun b hb => hap b hb) hsm hsz ?_; intro a4 c4 u4 ho4 hg4 hb4 hat4; rw [HZ.out] at ho4 ⊢))
    go_ret
    exact ⟨(new_bel w _).trans hb4, a4, c4, rfl, ho4⟩

/-! ### Contains -/
set_option maxRecDepth 100000 in
theorem indexB (a : Option Addr) (n c : Nat) (l : List Bool) (v : Bool) (w : World) (h : bitsS.rep w everywhere [.slice a n c] l) (hn : n ≤ 1000) (hv : l.contains false = v) :
    Calls Try.prog 51 #[.slice a n c, .bool false] w fun e w' => (∃ k : Int, e = .returned (.int .i64 k) ∧ (v = true ↔ 0 ≤ k) ∧ -1 ≤ k) ∧ w' = w := by
  have HL : Hid (l.length = n) := (sliceS_len h).1
  have HV : Hid (l.contains false = v) := hv
  have HH : Hid (bitsS.rep w everywhere [.slice a n c] l) := h
  clear h hv
  go_enter Try.func51, Try.ntmps51
  go_wp2
  go_loopw [8] (fun i wr => ∃ k : Nat, k ≤ n ∧ i = .int .i64 k ∧ Hid (∀ j, j < k → l.getD j false = true) ∧ wr = w) (fun i _ => n - (intOf i).toNat)
  case atStart => exact ⟨0, Nat.zero_le _, rfl, fun j hj => absurd hj (Nat.not_lt_zero _), rfl⟩
  case round =>
    obtain ⟨k, hk, rfl, HJ, hww⟩ := hrel
    replace hww := hww.symm
    subst hww
    by_cases hlt : k < n
    · obtain ⟨b1, o1, rfl, _, _, hc⟩ := bit_at HH.out hlt
      have hli : (k : Int) < (n : Int) := by omega
      cases hx : l.getD k false with
      | false =>
        rw [hx] at hc
        have HX : Hid (l.getD k false = false) := hx
        clear hx
        go_wp2
        go_ret
        refine ⟨⟨k, rfl, ⟨fun _ => by omega, fun _ => ?_⟩, by omega⟩, rfl⟩
        rw [← HV.out, List.contains_iff_mem]
        have h9 := HX.out
        rw [List.getD_eq_getElem?_getD, List.getElem?_eq_getElem (by have := HL.out; omega)] at h9
        have h8 : l[k]'(by have := HL.out; omega) = false := h9
        rw [← h8]
        exact List.getElem_mem _
      | true =>
        rw [hx] at hc
        have HX : Hid (l.getD k false = true) := hx
        clear hx
        go_wp2
        go_roundw
        case rel => exact ⟨k + 1, by omega, by go_num, fun j hj => (Nat.lt_succ_iff_lt_or_eq.1 hj).elim (fun h => HJ.out j h) (fun h => by rw [h]; exact HX.out), (by trivial)⟩
        case measure => simp [intOf]; omega
    · have hkn : k = n := by omega
      subst hkn
      have hli : ¬ (k : Int) < (k : Int) := by omega
      go_wp2
      go_ret
      refine ⟨⟨-1, rfl, ⟨fun hv => ?_, fun h => by omega⟩, by omega⟩, rfl⟩
      rw [← HV.out, List.contains_iff_mem] at hv
      obtain ⟨j, hj, he⟩ := List.mem_iff_getElem.1 hv
      have h9 := HJ.out j (by have := HL.out; omega)
      rw [List.getD_eq_getElem?_getD, List.getElem?_eq_getElem hj] at h9
      have h8 : l[j] = true := h9
      rw [he] at h8
      cases h8
set_option maxRecDepth 100000 in
theorem containsB (a : Option Addr) (n c : Nat) (l : List Bool) (v : Bool) (w : World) (h : bitsS.rep w everywhere [.slice a n c] l) (hn : n ≤ 1000) (hv : l.contains false = v) :
    Calls Try.prog 36 #[.slice a n c, .bool false] w fun e w' => e = .returned (.bool v) ∧ w' = w := by
  have HI : Hid (Calls _ _ _ _ _) := indexB a n c l v w h hn hv
  clear h hv
  go_enter Try.func36, Try.ntmps36
  go_wp2_with fail
  refine HI.out.mono ?_
  rintro e u ⟨⟨k, rfl, hk, hk1⟩, hu⟩
  subst hu
  clear HI
  cases v with
  | true =>
    have h0 : 0 ≤ k := hk.1 rfl
    clear hk hk1
    go_wp2
    go_ret
    exact ⟨rfl, rfl⟩
  | false =>
    have h0 : ¬ 0 ≤ k := fun h => by cases hk.2 h
    have hd : decide (0 ≤ k) = false := by simp only [h0, decide_false]
    clear hk hk1
    go_wp2
    go_ret
    exact ⟨rfl, rfl⟩

/-- A row is put in its place. -/
theorem Own.rowM {P : Nat → Prop} {w : World} {base g n c : Nat} {e : TypeId} {l : List (List Int)} (h : Own (inS rowS P) w base e (.slice (some ⟨g, 0, none⟩) n c) l) {j : Nat} (hj : j < n) {v : List Int} (hE : l.getD j [] = v) {A : Option Addr} {nv C : Nat} {F : Nat → Prop}
    (hx : rowS.rep w F [.slice A nv C] v) (hF : ∀ b, F b → b ≠ g ∧ P b) : (∃ z, w.cell? ⟨g, j, none⟩ = some z) ∧ w.frozen? ⟨g, j, none⟩ = false ∧ Own (inS rowS P) (w.setCell ⟨g, j, none⟩ (.slice A nv C)) base e (.slice (some ⟨g, 0, none⟩) n c) l := by
  have hl := (sliceS_len h.is).1
  obtain ⟨h7, h8, h9⟩ := Own.store (A := inS rowS P) (v := .slice A nv C) (x := v) (F := F) rfl h hj (inS_of hx fun b hb => (hF b hb).2) (fun b hb => (hF b hb).1)
  refine ⟨h7, h8, ?_⟩
  rw [← hE, List.getD_eq_getElem?_getD, List.getElem?_eq_getElem (by omega)] at h9
  have e1 : l.set j (some (l[j]'(by omega))).get! = l := List.set_getElem_self (by omega)
  exact e1 ▸ h9

/-! ### copied -/
set_option maxRecDepth 100000 in
set_option maxHeartbeats 1000000 in
theorem mcopied (x f t p s : Int) (ha : Option Addr) (hn hc : Nat) (ga : Option Addr) (gn gc : Nat) (H : List Bool) (G : List ByteArray) (w : World) (hH : bitsS.rep w everywhere [.slice ha hn hc] H) (hG : bagS.rep w everywhere [.slice ga gn gc] G) (hn1 : hn ≤ 1000) (gn1 : gn ≤ 1000) :
    Calls Try.prog 35 #[.agg #[.int .i64 x, .int .i64 f, .int .i64 t, .int .i64 p, .int .i64 s, .slice ha hn hc, .slice ga gn gc]] w fun r w' => Below w.heap.size w w' ∧ ∃ h2 d2 g2 e2 N, r = .returned (.agg #[.int .i64 x, .int .i64 f, .int .i64 t, .int .i64 p, .int .i64 s, .slice h2 hn d2, .slice g2 gn e2]) ∧ Own boolS w' w.heap.size 4 (.slice h2 hn d2) H ∧ Own strS w' N 9 (.slice g2 gn e2) G ∧ w.heap.size ≤ N ∧ ∀ b, Value.ownBlock (.slice h2 hn d2) = some b → b < N := by
  have hB := bel_two w (.cells #[.int .i64 x, .int .i64 f, .int .i64 t, .int .i64 p, .int .i64 s, .slice ha hn hc, .slice ga gn gc] 30) (.cells #[.int .i64 0, .int .i64 0, .int .i64 0, .int .i64 0, .int .i64 0, .slice none 0 0, .slice none 0 0] 30)
  have kp := (Box.new w 30 #[.int .i64 x, .int .i64 f, .int .i64 t, .int .i64 p, .int .i64 s, .slice ha hn hc, .slice ga gn gc]).keep (new_bel _ (.cells #[.int .i64 0, .int .i64 0, .int .i64 0, .int .i64 0, .int .i64 0, .slice none 0 0, .slice none 0 0] 30))
  have kr := Box.new (w.alloc (.cells #[.int .i64 x, .int .i64 f, .int .i64 t, .int .i64 p, .int .i64 s, .slice ha hn hc, .slice ga gn gc] 30)) 30 #[.int .i64 0, .int .i64 0, .int .i64 0, .int .i64 0, .int .i64 0, .slice none 0 0, .slice none 0 0]
  have e1 : (w.alloc (.cells #[.int .i64 x, .int .i64 f, .int .i64 t, .int .i64 p, .int .i64 s, .slice ha hn hc, .slice ga gn gc] 30)).heap.size = w.heap.size + 1 := by simp
  have e2 : ((w.alloc (.cells #[.int .i64 x, .int .i64 f, .int .i64 t, .int .i64 p, .int .i64 s, .slice ha hn hc, .slice ga gn gc] 30)).alloc (.cells #[.int .i64 0, .int .i64 0, .int .i64 0, .int .i64 0, .int .i64 0, .slice none 0 0, .slice none 0 0] 30)).heap.size = w.heap.size + 2 := by simp
  rw [e1] at kr
  have HC1 : Hid (Calls _ _ _ _ _) := cloneB ha hn hc H _ (Shape.below hH hB) hn1
  have HG : Hid (∀ u, Below w.heap.size w u → bagS.rep u everywhere [.slice ga gn gc] G) := fun u hu => Shape.below hG hu
  have HE2 := hidL e2
  clear hH hG e1 e2
  go_enter Try.func35, Try.ntmps35
  go_upto_region 1 with fail
  generalize (w.alloc (.cells #[.int .i64 x, .int .i64 f, .int .i64 t, .int .i64 p, .int .i64 s, .slice ha hn hc, .slice ga gn gc] 30)).alloc (.cells #[.int .i64 0, .int .i64 0, .int .i64 0, .int .i64 0, .int .i64 0, .slice none 0 0, .slice none 0 0] 30) = W at *
  have c5 := kp.cell 5 rfl
  go_upto_region 2 with (go_at_call 49; refine HC1.out.mono ?_; rintro r u1 ⟨hb1, a1, c1, rfl, ho1⟩; have kp1 := kp.keep hb1; clear c5; have c5 := kp1.cell 5 rfl; have f5 := kp1.free 5)
  have k2 : Box (u1.setCell ⟨w.heap.size, 5, none⟩ (.slice a1 hn c1)) w.heap.size 30 #[.int .i64 x, .int .i64 f, .int .i64 t, .int .i64 p, .int .i64 s, .slice a1 hn c1, .slice ga gn gc] := kp1.set 5 _
  have kr2 := (kr.keep hb1).other (b2 := w.heap.size) (i := 5) (.slice a1 hn c1) (by omega)
  have hB2 := bel_put (i := 5) (bel_then hB hb1) (Nat.le_refl w.heap.size) (.slice a1 hn c1)
  have hlt : ∀ b, Value.ownBlock (.slice a1 hn c1) = some b → b < (u1.setCell ⟨w.heap.size, 5, none⟩ (.slice a1 hn c1)).heap.size := fun b hb => by rw [World.size_setCell]; exact (ho1.lt b hb).2
  have ho2 := (ho1.still plain_bool (grown_set u1 w.heap.size 5 (.slice a1 hn c1)) (fun b hb h => by have := (ho1.lt b hb).1; have := HE2.out; have := Option.some.inj h; omega)).lower (show w.heap.size + 2 ≤ W.heap.size by have := HE2.out; omega)
  have HC2 : Hid (Calls _ _ _ _ _) := cloneT ga gn gc G _ (HG.out _ hB2) gn1
  clear c5 f5 kp1 kp kr hb1 hB HC1 ho1
  generalize u1.setCell ⟨w.heap.size, 5, none⟩ (.slice a1 hn c1) = W2 at *
  have hs2 : w.heap.size + 2 ≤ W2.heap.size := by have := kr2.lt; omega
  have HLT := hidL hlt
  clear hlt
  have c6 := k2.cell 6 rfl
  go_upto_region 3 with (go_at_call 50; refine HC2.out.mono ?_; rintro r u3 ⟨hb3, a3, c3, rfl, ho3⟩; have kp3 := k2.keep hb3; clear c6; have c6 := kp3.cell 6 rfl; have f6 := kp3.free 6)
  have k4 : Box (u3.setCell ⟨w.heap.size, 6, none⟩ (.slice a3 gn c3)) w.heap.size 30 #[.int .i64 x, .int .i64 f, .int .i64 t, .int .i64 p, .int .i64 s, .slice a1 hn c1, .slice a3 gn c3] := kp3.set 6 _
  have kr4 := (kr2.keep hb3).other (b2 := w.heap.size) (i := 6) (.slice a3 gn c3) (by omega)
  have hB4 := bel_put (i := 6) (bel_then hB2 hb3) (Nat.le_refl w.heap.size) (.slice a3 gn c3)
  have ho4 := (ho2.keep hb3).still plain_bool (grown_set u3 w.heap.size 6 (.slice a3 gn c3)) (fun b hb h => by have := (ho2.lt b hb).1; have := Option.some.inj h; omega)
  have ho5 := ho3.still plain_str (grown_set u3 w.heap.size 6 (.slice a3 gn c3)) (fun b hb h => by have := (ho3.lt b hb).1; have := Option.some.inj h; omega)
  clear c6 f6 kp3 k2 kr2 hb3 hB2 HC2 ho2 ho3
  generalize u3.setCell ⟨w.heap.size, 6, none⟩ (.slice a3 gn c3) = W4 at *
  have HO := hidL (And.intro ho4 (And.intro ho5 (And.intro hB4 hs2)))
  clear ho4 ho5 hB4 hs2
  have c0 := k4.cell 0 rfl; have c1 := k4.cell 1 rfl; have c2 := k4.cell 2 rfl; have c3 := k4.cell 3 rfl; have c4 := k4.cell 4 rfl; have c5 := k4.cell 5 rfl; have c6 := k4.cell 6 rfl
  have d0 := kr4.cell 0 rfl; have d1 := kr4.cell 1 rfl; have d2 := kr4.cell 2 rfl; have d3 := kr4.cell 3 rfl; have d4 := kr4.cell 4 rfl; have d5 := kr4.cell 5 rfl; have d6 := kr4.cell 6 rfl
  have f0 := kr4.free 0; have f1 := kr4.free 1; have f2 := kr4.free 2; have f3 := kr4.free 3; have f4 := kr4.free 4; have f5 := kr4.free 5; have f6 := kr4.free 6
  go_wp2
  refine ret_one Try.underlying30 Try.infoMove rfl rfl rfl (kr4.all7 _ _ _ _ _ _ _) rfl ?_
  obtain ⟨ho4, ho5, hB4, hs2⟩ := HO.out
  refine ⟨bel_all7 hB4 (by omega) _ _ _ _ _ _ _, a1, _, a3, _, W2.heap.size, rfl, ?_, ?_, by omega, HLT.out⟩
  · exact (ho4.still plain_bool (grown_all7 _ (w.heap.size + 1) _ _ _ _ _ _ _) fun b hb h => by have := (ho4.lt b hb).1; have := Option.some.inj h; omega).lower (by omega)
  · exact ho5.still plain_str (grown_all7 _ (w.heap.size + 1) _ _ _ _ _ _ _) fun b hb h => by have := (ho5.lt b hb).1; have := Option.some.inj h; omega

/-! ### rightNode, canLeave -/
set_option maxRecDepth 100000 in
theorem mnode (n : Int) (w : World) : Calls Try.prog 30 #[.int .i64 n] w fun r w' => Says r (1 ≤ n ∧ n ≤ 4) ∧ w' = w := by
  by_cases h1 : 1 ≤ n
  · by_cases h2 : n ≤ 4
    · go_enter Try.func30, Try.ntmps30
      go_wp2
      go_ret
      exact ⟨Says.yes (by omega), rfl⟩
    · go_enter Try.func30, Try.ntmps30
      go_wp2
      go_ret
      exact ⟨Says.no (by omega), rfl⟩
  · go_enter Try.func30, Try.ntmps30
    go_wp2
    go_ret
    exact ⟨Says.no (by omega), rfl⟩
set_option maxRecDepth 100000 in
theorem mleave (e : Int) (a : Option Addr) (n c : Nat) (m : List (List Int)) (x y : Int) (w : World) (h : matS.rep w everywhere [.slice a n c] m) (hz : Ex.Sized m) :
    Calls Try.prog 29 #[.agg #[.int .i64 e, .slice a n c], .int .i64 x, .int .i64 y] w fun r w' => Says r (Pl.Right e m ∧ Pl.Holds m x y) ∧ Below w.heap.size w w' := by
  have hB := new_bel w (.cells #[.int .i64 e, .slice a n c] 24)
  have kb := Box.new w 24 #[.int .i64 e, .slice a n c]
  have c0 := kb.cell 0 rfl
  have c1 := kb.cell 1 rfl
  have h1 := Shape.below h hB
  have HZ := hidL hz
  have HB := hidL hB
  by_cases hR : Pl.Right e m
  · have HC : Hid (Calls _ _ _ _ _) := pright_tell e a n c m _ h1 hz true (tell_yes hR)
    have HR := hidL hR
    have HM : Hid (∀ u, Below w.heap.size w u → matS.rep u everywhere [.slice a n c] m) := fun u hu => Shape.below h hu
    clear hR h h1 hz hB
    go_enter Try.func29, Try.ntmps29
    go_upto_region 1 with fail
    generalize w.alloc (.cells #[.int .i64 e, .slice a n c] 24) = W at *
    obtain ⟨v, hv⟩ : ∃ v, tell (Pl.Holds m x y) = v := ⟨_, rfl⟩
    have HV := hidL hv
    clear hv
    go_wp2_with (first
      | (go_at_call 46; refine HC.out.mono ?_; rintro r u1 ⟨rfl, hb1⟩; have k1 := kb.keep hb1; have d0 := k1.cell 0 rfl; have d1 := k1.cell 1 rfl; have HB1 := hidL (bel_then HB.out hb1))
      | (go_at_call 27; refine (pholds e a n c m x y v _ (HM.out _ HB1.out) HZ.out HV.out).mono ?_; rintro r u2 ⟨rfl, hb2⟩))
    go_ret
    refine ⟨?_, bel_then HB1.out hb2⟩
    have h9 := HV.out
    by_cases hh : Pl.Holds m x y
    · rw [tell_yes hh] at h9
      rw [← h9]
      exact Says.yes ⟨HR.out, hh⟩
    · rw [tell_no hh] at h9
      rw [← h9]
      exact Says.no fun h => hh h.2
  · have HC : Hid (Calls _ _ _ _ _) := pright_tell e a n c m _ h1 hz false (tell_no hR)
    have HR := hidL hR
    clear hR h h1 hz hB
    go_enter Try.func29, Try.ntmps29
    go_upto_region 1 with fail
    generalize w.alloc (.cells #[.int .i64 e, .slice a n c] 24) = W at *
    go_wp2_with (go_at_call 46; refine HC.out.mono ?_; rintro r u1 ⟨rfl, hb1⟩)
    go_ret
    exact ⟨Says.no fun h => HR.out h.1, bel_then HB.out hb1⟩

/-! ### mapCopied -/
set_option maxRecDepth 100000 in
set_option maxHeartbeats 1000000 in
theorem mmap {F : Nat → Prop} (e : Int) (a : Option Addr) (n c : Nat) (m : List (List Int)) (w : World) (h : matS.rep w F [.slice a n c] m) (hs : Pl.Short m) :
    Calls Try.prog 38 #[.agg #[.int .i64 e, .slice a n c]] w fun r w' => Below w.heap.size w w' ∧ ∃ a' c', r = .returned (.agg #[.int .i64 e, .slice a' n c']) ∧ matS.rep w' (fun b => F b ∨ w.heap.size ≤ b) [.slice a' n c'] m := by
  have hl := (sliceS_len h).1
  have hn : n ≤ 1000 := by have := hs.1; omega
  have HL := hidL hl
  have HS := hidL hs
  have hB := bel_two w (.cells #[.int .i64 e, .slice a n c] 24) (.cells #[.int .i64 0, .slice none 0 0] 24)
  have kp := (Box.new w 24 #[.int .i64 e, .slice a n c]).keep (new_bel _ (.cells #[.int .i64 0, .slice none 0 0] 24))
  have kr := Box.new (w.alloc (.cells #[.int .i64 e, .slice a n c] 24)) 24 #[.int .i64 0, .slice none 0 0]
  have e1 : (w.alloc (.cells #[.int .i64 e, .slice a n c] 24)).heap.size = w.heap.size + 1 := by simp
  have e2 : ((w.alloc (.cells #[.int .i64 e, .slice a n c] 24)).alloc (.cells #[.int .i64 0, .slice none 0 0] 24)).heap.size = w.heap.size + 2 := by simp
  rw [e1] at kr
  have c1 := kp.cell 1 rfl
  have hcl := cloneM a n c m _ (Shape.below (matS.mono h (F' := fun b => F b ∧ b < w.heap.size) fun b hb hlt => ⟨hb, hlt⟩) hB) (fun b hb => by have := hb.2; rw [e2]; omega) hn
  rw [e2] at hcl
  have HC : Hid (Calls _ _ _ _ _) := hcl
  have HE2 := hidL e2
  clear h hs hl hcl e1 e2
  go_enter Try.func38, Try.ntmps38
  go_wp2_with fail
  generalize (w.alloc (.cells #[.int .i64 e, .slice a n c] 24)).alloc (.cells #[.int .i64 0, .slice none 0 0] 24) = W at *
  refine HC.out.mono ?_
  rintro r u1 ⟨hb1, a1, cc, rfl, ho1⟩
  have hb1' : Below W.heap.size W u1 := by rw [HE2.out]; exact hb1
  have HO : Hid (Own (inS rowS (fun b => (F b ∧ b < w.heap.size) ∨ w.heap.size + 2 ≤ b)) u1 (w.heap.size + 2) 67 (.slice a1 n cc) m) := ho1.wider fun b hb => .inl hb
  have kp1 := kp.keep hb1'
  have kr1 := kr.keep hb1'
  have hB1 := hB.trans (hb1'.mono hB.size)
  clear ho1 hb1 hb1' HC c1 kp kr hB
  go_wp2
  go_loopw [11] (fun i wr => ∃ k : Nat, k ≤ n ∧ i = .int .i64 k ∧ Own (inS rowS (fun b => (F b ∧ b < w.heap.size) ∨ w.heap.size + 2 ≤ b)) wr (w.heap.size + 2) 67 (.slice a1 n cc) m ∧ Below w.heap.size w wr ∧ Box wr w.heap.size 24 #[.int .i64 e, .slice a n c] ∧ Box wr (w.heap.size + 1) 24 #[.int .i64 0, .slice none 0 0]) (fun i _ => n - (intOf i).toNat)
  case atStart => exact ⟨0, Nat.zero_le _, rfl, HO.out, hB1, kp1, kr1⟩
  case round =>
    clear HO hB1 kp1 kr1
    obtain ⟨k, hk, rfl, hown, hbel, kp, kr⟩ := hrel
    by_cases hlt : k < n
    · obtain ⟨g, rfl, hbg, hgl, _⟩ := hown.form (by omega)
      obtain ⟨b1, o1, A, C, hab, _, hc, hr⟩ := mat_at hown.plain hlt
      obtain ⟨rfl, rfl⟩ : g = b1 ∧ 0 = o1 := by cases hab; exact ⟨rfl, rfl⟩
      simp only [Nat.zero_add] at hc
      have hli : (k : Int) < (n : Int) := by omega
      have hk0 : (0 : Int) ≤ (k : Int) := by omega
      have hq : (m.getD k []).length ≤ 1000 := HS.out.2 _ (Mx.getD_mem m k (by have := HL.out; omega))
      have hkrl := kr.lt
      have HC : Hid (Calls _ _ _ _ _) := clone A _ C _ wr (Shape.any hr) hq
      obtain ⟨q, hqq⟩ : ∃ q, (m.getD k []).length = q := ⟨_, rfl⟩
      obtain ⟨v, hvv⟩ : ∃ v, m.getD k [] = v := ⟨_, rfl⟩
      have HE := hidL hvv
      have HQ : Hid ((m.getD k []).length = q) := hqq
      rw [hqq, hvv] at HC
      rw [hqq] at hc
      clear hr hq hqq hvv hab
      go_wp2_with (go_at_call 54; refine HC.out.mono ?_; rintro r u2 ⟨hb2, a2, c2, rfl, ho2⟩; obtain ⟨⟨z4, x4⟩, f4, hst⟩ := (hown.keep hb2).rowM hlt HE.out ho2.high (fun b hb => by have h7 : wr.heap.size ≤ b := hb; exact ⟨by omega, .inr (by omega)⟩))
      have HST := hidL (And.intro hst (And.intro (bel_put (i := k) (bel_then hbel hb2) (by omega : w.heap.size ≤ g) (.slice a2 q c2)) (And.intro ((kp.keep hb2).other (i := k) (b2 := g) (.slice a2 q c2) (by omega)) ((kr.keep hb2).other (i := k) (b2 := g) (.slice a2 q c2) (by omega)))))
      clear hst x4 f4 ho2 hb2 hown kp kr hbel HC hc
      go_roundw
      case rel => exact ⟨k + 1, by omega, by go_num, HST.out.1, HST.out.2.1, HST.out.2.2.1, HST.out.2.2.2⟩
      case measure => simp [intOf]; omega
    · have hkn : k = n := by omega
      subst hkn
      have hli : ¬ (k : Int) < (k : Int) := by omega
      have c0 := kp.cell 0 rfl
      have d0 := kr.cell 0 rfl
      have d1 := kr.cell 1 rfl
      have f0 := kr.free 0
      have f1 := kr.free 1
      have HM := hidL ((hown.among (Q := fun b => (F b ∧ b < w.heap.size) ∨ w.heap.size + 2 ≤ b) (fun b hb => hb) (fun b hb _ _ => .inr hb)))
      clear hown
      go_wp2
      refine ret_one Try.underlying24 Try.infoMap rfl rfl rfl (kr.all2 _ _) rfl ?_
      exact ⟨bel_all2 hbel (by omega) _ _, a1, cc, rfl, matS.mono (Shape.all2 HM.out (fun k hk _ => hk.elim (fun h => by omega) (fun h => by omega)) _ _) (fun b hb _ => hb.elim (fun h => .inl h.1) (fun h => .inr (by omega)))⟩

end Go.Proofs.Ytpfhjdlmjehfnaa
