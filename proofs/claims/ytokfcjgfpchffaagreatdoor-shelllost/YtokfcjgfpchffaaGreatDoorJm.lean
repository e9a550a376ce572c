/- 3 texts as one, in their order: Sm, MatA, MatB. -/
import Derived.Test.YtokfcjgfpchffaaGreatDoorKe
import Derived.Test.YtokfcjgfpchffaaGreatDoorKb
import Derived.Test.YtokfcjgfpchffaaGreatDoorKv
import Derived.Test.YtokfcjgfpchffaaGreatDoorKa

/- What the document's Small of rows of rows does when called. -/
namespace Go.Proofs.YtokfcjgfpchffaaGreatDoor
open Go.ChangeShapes Go.WideShapes Go.ChangeAt Go.RowKit


end Go.Proofs.YtokfcjgfpchffaaGreatDoor

/- What the functions of package mat and the document's answers for layer 3 do when called (first part: those that only read). -/
namespace Go.Proofs.YtokfcjgfpchffaaGreatDoor
open Go.ChangeShapes Go.WideShapes Go.ChangeAt Go.RowKit


set_option maxRecDepth 100000 in
theorem within (a : Option Addr) (n ca : Nat) (l : List Int) (w : World) (ha : Row .i64 w a n l) (hn : n ≤ 100000) :
    Calls Tryz.prog 117 #[.slice a n ca] w fun e w' => Says e (Mx.In l) ∧ w' = w := by
  have HL : Hid (l.length = n) := ha.len
  go_enter Tryz.func117, Tryz.ntmps117
  go_wp2
  go_loopw [7] (fun i wr => ∃ k : Nat, k ≤ n ∧ i = .int .i64 k ∧ wr = w ∧ Hid (∀ x ∈ l.take k, Fx.hold x = x)) (fun i _ => n - (intOf i).toNat)
  case atStart => exact ⟨0, Nat.zero_le _, rfl, rfl, Mx.all_zero⟩
  case round =>
    obtain ⟨k, hk, rfl, rfl, HI⟩ := hrel
    by_cases hlt : k < n
    · obtain ⟨b1, o1, rfl, hb1, hc1⟩ := ha.at hlt
      have hli : (k : Int) < (n : Int) := by omega
      have HM : Hid (l.getD k 0 ∈ l) := Mx.num_mem l k (by have := HL.out; omega)
      have HS : Hid (Fx.hold (l.getD k 0) = l.getD k 0 → ∀ x ∈ l.take (k + 1), Fx.hold x = x) := fun h => Mx.all_succ (by have := HL.out; omega) HI.out h
      generalize l.getD k 0 = x at *
      by_cases hx : Fx.hold x = x
      · have hne : (Fx.hold x != x) = false := by simp [hx]
        have HX : Hid (Fx.hold x = x) := hx
        clear hx
        go_wp2_with (go_at_call 154; refine by_same (hold _ _) ?_)
        go_roundw
        case rel => exact ⟨k + 1, by omega, by go_num, by trivial, HS.out HX.out⟩
        case measure => simp [intOf]; omega
      · have hne : (Fx.hold x != x) = true := by simp [hx]
        have HX : Hid (¬ Fx.hold x = x) := hx
        clear hx
        go_wp2_with (go_at_call 154; refine by_same (hold _ _) ?_)
        go_ret
        exact ⟨Says.no (fun h => HX.out (h x HM.out)), rfl⟩
    · go_wp2
      go_ret
      exact ⟨Says.yes (Mx.all_full (by have := HL.out; omega) HI.out), rfl⟩

set_option maxRecDepth 100000 in
theorem right (a : Option Addr) (n c : Nat) (m : List (List Int)) (F : Nat → Prop) (rows columns : Int) (w : World) (hm : matS.rep w F [.slice a n c] m) (hn : n ≤ 100000) (hs : ∀ l ∈ m, l.length ≤ 100000) :
    Calls Tryz.prog 77 #[.slice a n c, .int .i64 rows, .int .i64 columns] w fun e w' => Says e (Mx.Right m rows columns) ∧ w' = w := by
  obtain ⟨hl, hc1, hc2⟩ := sliceS_len hm
  have HL : Hid (m.length = n) := hl
  have HSZ : Hid (∀ l ∈ m, l.length ≤ 100000) := hs
  clear hl hs
  by_cases hrw : (n : Int) = rows
  case neg =>
    have e0 : ((n : Int) != rows) = true := by simp [hrw]
    have HR : Hid (¬ (n : Int) = rows) := hrw
    clear hrw
    go_enter Tryz.func77, Tryz.ntmps77
    go_wp2
    go_ret
    exact ⟨Says.no (fun h => by have := HR.out; have := h.1; have := HL.out; omega), rfl⟩
  case pos =>
  have e0 : ((n : Int) != rows) = false := by simp [hrw]
  have HR : Hid ((n : Int) = rows) := hrw
  clear hrw
  go_enter Tryz.func77, Tryz.ntmps77
  go_wp2
  go_loopw [15] (fun i wr => ∃ k : Nat, k ≤ n ∧ i = .int .i64 k ∧ wr = w ∧ Hid (∀ l ∈ m.take k, (l.length : Int) = columns ∧ Mx.In l)) (fun i _ => n - (intOf i).toNat)
  case atStart => exact ⟨0, Nat.zero_le _, rfl, rfl, Mx.all_zero⟩
  case round =>
    obtain ⟨k, hk, rfl, rfl, HI⟩ := hrel
    by_cases hlt : k < n
    · obtain ⟨b1, o1, A, C, rfl, hb1, hcell, hr⟩ := mat_at hm hlt
      have hrow := Row.of_rep hr
      have hli : (k : Int) < (n : Int) := by omega
      have HM : Hid (m.getD k [] ∈ m) := Mx.getD_mem m k (by have := HL.out; omega)
      have HS : Hid ((((m.getD k []).length : Int) = columns ∧ Mx.In (m.getD k [])) → ∀ l ∈ m.take (k + 1), (l.length : Int) = columns ∧ Mx.In l) := fun h => Mx.all_succ (by have := HL.out; omega) HI.out h
      have hsz := HSZ.out _ HM.out
      clear hr
      generalize m.getD k [] = r at *
      by_cases hr : (r.length : Int) = columns
      · have e1 : ((r.length : Int) != columns) = false := by simp [hr]
        have HX : Hid ((r.length : Int) = columns) := hr
        clear hr
        go_wp2_with fail
        refine (within A r.length C r _ hrow hsz).mono ?_
        rintro e w' ⟨⟨b, rfl, hb⟩, rfl⟩
        cases b with
        | true =>
          have HB : Hid (Mx.In r) := hb.1 rfl
          clear hb
          go_wp2
          go_roundw
          case rel => exact ⟨k + 1, by omega, by go_num, by trivial, HS.out ⟨HX.out, HB.out⟩⟩
          case measure => simp [intOf]; omega
        | false =>
          have HB : Hid (¬ Mx.In r) := fun h => by have := hb.2 h; cases this
          clear hb
          go_wp2
          go_ret
          exact ⟨Says.no (fun h => HB.out (h.2 r HM.out).2), rfl⟩
      · have e1 : ((r.length : Int) != columns) = true := by simp [hr]
        have HX : Hid (¬ (r.length : Int) = columns) := hr
        clear hr
        go_wp2
        go_ret
        exact ⟨Says.no (fun h => HX.out (h.2 r HM.out).1), rfl⟩
    · go_wp2
      go_ret
      exact ⟨Says.yes (⟨by have := HL.out; have := HR.out; omega, Mx.all_full (by have := HL.out; omega) HI.out⟩), rfl⟩

end Go.Proofs.YtokfcjgfpchffaaGreatDoor

/- What the functions of package mat and the document's answers for layer 3 do when called (second part: the document's Right, and Apply of both). -/
namespace Go.Proofs.YtokfcjgfpchffaaGreatDoor
open Go.ChangeShapes Go.WideShapes Go.ChangeAt Go.RowKit

/-- The same as Gives, and where the answer lies. -/
def GivesAt (B : Nat) (e : Ending) (w' : World) (n : Nat) (l : List Int) (p : Prop) : Prop :=
  (p ∧ ∃ a c, e = .returned (.tuple #[.slice a n c, .bool true]) ∧ rowS.rep w' (B ≤ ·) [.slice a n c] l) ∨ (¬ p ∧ e = .returned (.tuple #[.slice none 0 0, .bool false]))
theorem GivesAt.gives {B : Nat} {e : Ending} {w' : World} {n : Nat} {l : List Int} {p : Prop} (h : GivesAt B e w' n l p) : Gives e w' n l p := by
  rcases h with ⟨hp, a, c, he, hr⟩ | ⟨hp, he⟩
  · exact .inl ⟨hp, a, c, he, Shape.any hr⟩
  · exact .inr ⟨hp, he⟩
theorem GivesAt.yes {B : Nat} {e : Ending} {w' : World} {n : Nat} {l : List Int} {p : Prop} (h : GivesAt B e w' n l p) (hp : p) : ∃ a c, e = .returned (.tuple #[.slice a n c, .bool true]) ∧ rowS.rep w' (B ≤ ·) [.slice a n c] l := by
  rcases h with ⟨_, a, c, he, hr⟩ | ⟨hn, _⟩
  · exact ⟨a, c, he, hr⟩
  · exact absurd hp hn
theorem row_high {w : World} {base : Nat} {e : TypeId} {v : Value} {n : Nat} {l : List Int} (h : w.ownsRow base e 1 v n (l.map (Value.int .i64))) : ∃ a c, v = .slice a n c ∧ rowS.rep w (base ≤ ·) [.slice a n c] l := by
  have hl : l.length = n := by simpa using h.1
  subst hl
  obtain ⟨a, c, hv, _⟩ := (Own.of_row h).rep
  subst hv
  exact ⟨a, c, rfl, (Own.of_row h).high⟩


set_option maxRecDepth 100000 in
theorem mapply_at (a b : Option Addr) (n c nv cb : Nat) (m : List (List Int)) (v : List Int) (F : Nat → Prop) (w : World) (hm : matS.rep w F [.slice a n c] m) (hv : Row .i64 w b nv v) (hn : n ≤ 100000) (hnv : nv ≤ 100000) :
    Calls Tryz.prog 181 #[.slice a n c, .slice b nv cb] w fun e w' => GivesAt w.heap.size e w' n (Mx.app m v) (Mx.Fits m nv) ∧ Below w.heap.size w w' := by
  obtain ⟨i0, hi, hz0, hz1, hz2⟩ := info_parts Tryz.infoInt
  obtain ⟨hl, hc1, hc2⟩ := sliceS_len hm
  have HL : Hid (m.length = n) := hl
  clear hl
  go_enter Tryz.func181, Tryz.ntmps181
  go_wp2_with (at_make; refine wpList_make_own _ rfl _ _ 31 rfl w.heap.size 3 i0 (.int .i64 0) 1 Tryz.underlying31 hi hz0 hz1 _ _ _ n rfl rfl (by rfl) ?b2 ?b3 (Nat.le_refl _) ?_)
  case b2 => rw [hz2]; omega
  case b3 => unfold maxLen; omega
  intro w1 hown hgrow
  have hb1 : Below w.heap.size w w1 := (Below.refl _ _).grown hgrow (Nat.le_refl _) (fun _ h => by cases h)
  clear hgrow
  go_wp2
  go_loopw [6, 16] (fun d i wr => ∃ k : Nat, k ≤ n ∧ i = .int .i64 k ∧ wr.ownsRow w.heap.size 3 1 d k ((Mx.app (m.take k) v).map (Value.int .i64)) ∧ Below w.heap.size w wr ∧ Hid (∀ l ∈ m.take k, l.length = nv)) (fun _ i _ => n - (intOf i).toNat)
  case atStart => exact ⟨0, Nat.zero_le _, rfl, hown, hb1, Mx.all_zero⟩
  case round =>
    clear hown hb1
    obtain ⟨k, hk, rfl, hown, hbel, HI⟩ := hrel
    by_cases hlt : k < n
    · obtain ⟨b1, o1, A, C, rfl, hb1, hcell, hr⟩ := mat_at hm hlt
      have hrow := (Row.of_rep hr).keep hbel
      have hvr := hv.keep hbel
      have hd1 := (hbel.cell (by exact hb1)).trans hcell
      have hli : (k : Int) < (n : Int) := by omega
      have HM : Hid (m.getD k [] ∈ m) := Mx.getD_mem m k (by have := HL.out; omega)
      have HS : Hid ((m.getD k []).length = nv → ∀ l ∈ m.take (k + 1), l.length = nv) := fun h => Mx.all_succ (by have := HL.out; omega) HI.out h
      have HA : Hid (Mx.app (m.take (k + 1)) v = Mx.app (m.take k) v ++ [Vx.dot (m.getD k []) v]) := Mx.app_succ m v k (by have := HL.out; omega)
      clear hr hcell
      generalize m.getD k [] = r at *
      by_cases hr : r.length = nv
      · subst hr
        go_wp2_with fail
        refine (vdot A b r.length C cb r v _ hrow hvr (by omega)).mono ?_
        rintro e w2 ⟨rfl, hb2⟩
        have hown2 := own_below hown hb2
        have hbel2 := bel_then hbel hb2
        clear hown hbel hb2 hrow hvr hd1
        generalize Vx.dot r v = x at *
        go_wp2_with (first
          | (at_builtin; refine wpList_append_own _ rfl _ _ 31 rfl w.heap.size 3 i0 (.int .i64 0) 1 8 Tryz.underlying31 hi hz0 hz1 hz2 rfl (by decide) _ _ _ rfl (hown2.alloc _) ⟨w2.heap.size, 0, none⟩ 1 1 [.int .i64 x] rfl rfl ?c1 ?c2 ?c3 ?c4 ?c5 ?_)
          | fail)
        case c1 =>
          intro j u hj
          match j, hj with
          | 0, hj => simp at hj; subst hj; simp [Addr.add]
        case c2 => intro u hu; simp at hu; subst hu; rfl
        case c3 => unfold maxLen; omega
        case c4 => omega
        case c5 => have := hbel2.size; simp; omega
        intro v' w3 hown' hgrow _
        have hb' : Below w.heap.size w w3 := (hbel2.alloc hbel2.size _).grown hgrow (by have := hbel2.size; simp; omega) (fun g hg => (hown2.lt g hg).1)
        have ho' := own_snoc hown' HA.out
        clear hown' hgrow hown2
        go_wp2
        go_roundw
        case rel => exact ⟨k + 1, by omega, by go_num, ho', hb', HS.out (by trivial)⟩
        case measure => simp [intOf]; omega
      · have HX : Hid (¬ r.length = nv) := hr
        go_wp2_with fail
        refine (vdot_no A b r.length nv C cb _ hr).mono ?_
        rintro e w2 ⟨rfl, hb2⟩
        have hbel2 := bel_then hbel hb2
        go_wp2
        go_ret2
        exact ⟨.inr ⟨fun h => HX.out (h r HM.out), rfl⟩, hbel2⟩
    · have hkn : k = n := by omega
      subst hkn
      have e1 : m.take k = m := List.take_of_length_le (by have := HL.out; omega)
      rw [e1] at hown HI
      clear e1
      obtain ⟨a', c', rfl, hrep⟩ := row_high hown
      go_wp2
      go_ret2
      exact ⟨.inl ⟨HI.out, a', c', rfl, hrep⟩, hbel⟩
theorem mapply (a b : Option Addr) (n c nv cb : Nat) (m : List (List Int)) (v : List Int) (F : Nat → Prop) (w : World) (hm : matS.rep w F [.slice a n c] m) (hv : Row .i64 w b nv v) (hn : n ≤ 100000) (hnv : nv ≤ 100000) :
    Calls Tryz.prog 181 #[.slice a n c, .slice b nv cb] w fun e w' => Gives e w' n (Mx.app m v) (Mx.Fits m nv) ∧ Below w.heap.size w w' :=
  (mapply_at a b n c nv cb m v F w hm hv hn hnv).mono fun _ _ ⟨h, hb⟩ => ⟨h.gives, hb⟩

set_option maxRecDepth 100000 in
theorem rapply_at (a b : Option Addr) (n c nv cb : Nat) (m : List (List Int)) (v : List Int) (F : Nat → Prop) (w : World) (hm : matS.rep w F [.slice a n c] m) (hv : Row .i64 w b nv v) (hn : n ≤ 100000) (hnv : nv ≤ 100000) :
    Calls Tryz.prog 73 #[.slice a n c, .slice b nv cb] w fun e w' => GivesAt w.heap.size e w' n (Mx.app m v) (Mx.Fits m nv) ∧ Below w.heap.size w w' := by
  obtain ⟨i0, hi, hz0, hz1, hz2⟩ := info_parts Tryz.infoInt
  obtain ⟨hl, hc1, hc2⟩ := sliceS_len hm
  have HL : Hid (m.length = n) := hl
  clear hl
  go_enter Tryz.func73, Tryz.ntmps73
  go_wp2
  go_loopw [6, 7] (fun d i wr => ∃ k : Nat, k ≤ n ∧ i = .int .i64 k ∧ wr.ownsRow w.heap.size 3 1 d k ((Mx.app (m.take k) v).map (Value.int .i64)) ∧ Below w.heap.size w wr ∧ Hid (∀ l ∈ m.take k, l.length = nv)) (fun _ i _ => n - (intOf i).toNat)
  case atStart => exact ⟨0, Nat.zero_le _, rfl, World.ownsRow_nil _ _ _ _, Below.refl _ _, Mx.all_zero⟩
  case round =>
    obtain ⟨k, hk, rfl, hown, hbel, HI⟩ := hrel
    by_cases hlt : k < n
    · obtain ⟨b1, o1, A, C, rfl, hb1, hcell, hr⟩ := mat_at hm hlt
      have hrow := (Row.of_rep hr).keep hbel
      have hvr := hv.keep hbel
      have hd1 := (hbel.cell (by exact hb1)).trans hcell
      have hli : (k : Int) < (n : Int) := by omega
      have HM : Hid (m.getD k [] ∈ m) := Mx.getD_mem m k (by have := HL.out; omega)
      have HS : Hid ((m.getD k []).length = nv → ∀ l ∈ m.take (k + 1), l.length = nv) := fun h => Mx.all_succ (by have := HL.out; omega) HI.out h
      have HA : Hid (Mx.app (m.take (k + 1)) v = Mx.app (m.take k) v ++ [Vx.dot (m.getD k []) v]) := Mx.app_succ m v k (by have := HL.out; omega)
      clear hr hcell
      generalize m.getD k [] = r at *
      by_cases hr : r.length = nv
      · subst hr
        have e1 : ((r.length : Int) != (r.length : Int)) = false := by simp
        go_wp2_with fail
        refine (rdot A b r.length C cb r v _ hrow hvr (by omega)).mono ?_
        rintro e w2 ⟨rfl, hb2⟩
        have hown2 := own_below hown hb2
        have hbel2 := bel_then hbel hb2
        clear hown hbel hb2 hrow hvr hd1
        generalize Vx.dot r v = x at *
        go_wp2_with (first
          | (at_builtin; refine wpList_append_own _ rfl _ _ 31 rfl w.heap.size 3 i0 (.int .i64 0) 1 8 Tryz.underlying31 hi hz0 hz1 hz2 rfl (by decide) _ _ _ rfl (hown2.alloc _) ⟨w2.heap.size, 0, none⟩ 1 1 [.int .i64 x] rfl rfl ?c1 ?c2 ?c3 ?c4 ?c5 ?_)
          | fail)
        case c1 =>
          intro j u hj
          match j, hj with
          | 0, hj => simp at hj; subst hj; simp [Addr.add]
        case c2 => intro u hu; simp at hu; subst hu; rfl
        case c3 => unfold maxLen; omega
        case c4 => omega
        case c5 => have := hbel2.size; simp; omega
        intro v' w3 hown' hgrow _
        have hb' : Below w.heap.size w w3 := (hbel2.alloc hbel2.size _).grown hgrow (by have := hbel2.size; simp; omega) (fun g hg => (hown2.lt g hg).1)
        have ho' := own_snoc hown' HA.out
        clear hown' hgrow hown2
        go_wp2
        go_roundw
        case rel => exact ⟨k + 1, by omega, by go_num, ho', hb', HS.out (by trivial)⟩
        case measure => simp [intOf]; omega
      · have HX : Hid (¬ r.length = nv) := hr
        have e1 : ((r.length : Int) != (nv : Int)) = true := by rw [bne_iff_ne]; omega
        go_wp2
        go_ret2
        exact ⟨.inr ⟨fun h => HX.out (h r HM.out), rfl⟩, hbel⟩
    · have hkn : k = n := by omega
      subst hkn
      have e1 : m.take k = m := List.take_of_length_le (by have := HL.out; omega)
      rw [e1] at hown HI
      clear e1
      obtain ⟨a', c', rfl, hrep⟩ := row_high hown
      go_wp2
      go_ret2
      exact ⟨.inl ⟨HI.out, a', c', rfl, hrep⟩, hbel⟩
theorem rapply (a b : Option Addr) (n c nv cb : Nat) (m : List (List Int)) (v : List Int) (F : Nat → Prop) (w : World) (hm : matS.rep w F [.slice a n c] m) (hv : Row .i64 w b nv v) (hn : n ≤ 100000) (hnv : nv ≤ 100000) :
    Calls Tryz.prog 73 #[.slice a n c, .slice b nv cb] w fun e w' => Gives e w' n (Mx.app m v) (Mx.Fits m nv) ∧ Below w.heap.size w w' :=
  (rapply_at a b n c nv cb m v F w hm hv hn hnv).mono fun _ _ ⟨h, hb⟩ => ⟨h.gives, hb⟩

end Go.Proofs.YtokfcjgfpchffaaGreatDoor
