/- Sums of two rows, and where they lie: the program's and the document's Add once more; rows apart from a slice of rows; lists of rows that are added to. -/
import Derived.Test.YtfidgcanolegfaaGreatMdlB
namespace Go.Proofs.YtfidgcanolegfaaGreat
open Go.ChangeShapes Go.WideShapes Go.ChangeAt Go.RowKit

set_option maxRecDepth 100000 in
theorem raddH (a b : Option Addr) (n ca cb : Nat) (la lb : List Int) (w : World) (ha : Row .i64 w a n la) (hb : Row .i64 w b n lb) (hn : n ≤ 100000) :
    Calls Tryz.prog 51 #[.slice a n ca, .slice b n cb] w fun e w' => ∃ a' c', e = .returned (.slice a' n c') ∧ rowS.rep w' (w.heap.size ≤ ·) [.slice a' n c'] (Vx.add la lb) ∧ Below w.heap.size w w' := by
  obtain ⟨i0, hi, hz0, hz1, hz2⟩ := info_parts Tryz.infoInt
  have HA : Hid (la.length = n) := ha.len
  have HB : Hid (lb.length = n) := hb.len
  go_enter Tryz.func51, Tryz.ntmps51
  go_wp2
  go_loopw [5, 6] (fun v i wr => ∃ j : Nat, j ≤ n ∧ i = .int .i64 j ∧ wr.ownsRow w.heap.size 3 1 v j ((Vx.add (la.take j) (lb.take j)).map (Value.int .i64)) ∧ Below w.heap.size w wr) (fun _ i _ => n - (intOf i).toNat)
  case atStart => exact ⟨0, Nat.zero_le _, rfl, World.ownsRow_nil _ _ _ _, Below.refl _ _⟩
  case round =>
    obtain ⟨j, hj, rfl, hown, hbel⟩ := hrel
    by_cases hlt : j < n
    · obtain ⟨b1, o1, rfl, hb1, hc1⟩ := ha.at hlt
      obtain ⟨b2, o2, rfl, hb2, hc2⟩ := hb.at hlt
      have hd1 : wr.cell? ⟨b1, o1 + j, none⟩ = some (.int .i64 (la.getD j 0)) := (hbel.cell (by exact hb1)).trans hc1
      have hd2 : wr.cell? ⟨b2, o2 + j, none⟩ = some (.int .i64 (lb.getD j 0)) := (hbel.cell (by exact hb2)).trans hc2
      have hj0 : (0 : Int) ≤ (j : Int) := Int.natCast_nonneg _
      have hli : (j : Int) < (n : Int) := by omega
      have HS : Hid (Vx.add (la.take (j + 1)) (lb.take (j + 1)) = Vx.add (la.take j) (lb.take j) ++ [Fx.hold (IntKind.i64.wrap (Fx.hold (la.getD j 0) + Fx.hold (lb.getD j 0)))]) := by
        show _ = _
        rw [wrap_sum]; exact Vx.add_succ la lb j (by have := HA.out; omega) (by have := HB.out; omega)
      clear hc1 hc2
      generalize la.getD j 0 = x at *
      generalize lb.getD j 0 = y at *
      have l1 := Fx.hold_lo x; have l2 := Fx.hold_hi x; have l3 := Fx.hold_lo y; have l4 := Fx.hold_hi y
      have hsz := hbel.size
      have hne : ∀ g, g < w.heap.size → some g ≠ u5.ownBlock := fun g hg h => by have := (hown.lt g h.symm).1; omega
      have hne1 := hne b1 hb1; have hne2 := hne b2 hb2
      clear hne
      go_wp2
      go_region_held3 (fun w' => w'.cell? ⟨b1, o1 + j, none⟩ = some (.int .i64 x) ∧ w'.cell? ⟨b2, o2 + j, none⟩ = some (.int .i64 y))
        (first
          | go_keep
          | (go_split_ands
             refine ⟨?_, ?_⟩
             · (rw [hgrow.cell_far _ (by simp; omega) hne1]; assumption)
             · (rw [hgrow.cell_far _ (by simp; omega) hne2]; assumption)))
        (first
          | (go_at_call 85; refine by_same (rhold _ _) ?_)
          | (refine step_append_lies _ (by rfl) _ _ _ (by rfl) w.heap.size 3 i0 _ 1 8 Tryz.underlying42 hi hz0 hz1 hz2 rfl (by omega) _ _ _ (by rfl) ((hown.alloc _).drew) ⟨wr.heap.size, 0, none⟩ 1 1 [.int .i64 (Fx.hold (IntKind.i64.wrap (Fx.hold x + Fx.hold y)))] (by rfl) (by rfl) (World.news_of_block (cs := #[.int .i64 (Fx.hold (IntKind.i64.wrap (Fx.hold x + Fx.hold y)))]) (t := 3) (fr := (0, 0)) (heap_alloc_new wr _)) (by simp [Value.oneCell']) (by omega) (by unfold maxLen; omega) (by omega) (by simp; omega) (wr.heap.size + 1) (by simp) ?_; intro gg cap w1 hown1 hgrow hat hlt1))
      have hb' : Below w.heap.size w w1 := (hbel.alloc hbel.size _).drew.grown hgrow (by simp; omega) (fun g hg => (hown.lt g hg).1)
      have ho' := own_snoc hown1 HS.out
      clear hown1 hgrow hown
      go_wp2
      go_roundw
      case rel => exact ⟨j + 1, by omega, by go_num, ho', hb'⟩
      case measure => simp [intOf]; omega
    · have hkn : j = n := by omega
      subst hkn
      have e1 : la.take j = la := List.take_of_length_le (by have := HA.out; omega)
      have e2 : lb.take j = lb := List.take_of_length_le (by have := HB.out; omega)
      rw [e1, e2] at hown
      clear e1 e2
      obtain ⟨a', c', rfl, hcm, hrow⟩ := Row.of_owns hown
      have hrep := rep_high hown
      go_wp2
      go_ret
      exact ⟨a', c', rfl, hrep, hbel⟩

set_option maxRecDepth 100000 in
theorem vaddH (a b : Option Addr) (n ca cb : Nat) (la lb : List Int) (w : World) (ha : Row .i64 w a n la) (hb : Row .i64 w b n lb) (hn : n ≤ 100000) :
    Calls Tryz.prog 118 #[.slice a n ca, .slice b n cb] w fun e w' => ∃ a' c', e = .returned (.tuple #[.slice a' n c', .bool true]) ∧ rowS.rep w' (w.heap.size ≤ ·) [.slice a' n c'] (Vx.add la lb) ∧ Below w.heap.size w w' := by
  have hmf : ∀ (fn : Fn) (first cap : Array Value) (w : World), (Instr.makeFunc fn first cap).run Tryz.prog w = .ok (.func fn first cap) w := fun _ _ _ _ => rfl
  have h0 : Below w.heap.size w (w.alloc (.cells #[.slice none 0 0] 42)) := (Below.refl _ _).alloc (Nat.le_refl _) _
  have hc : (w.alloc (.cells #[.slice none 0 0] 42)).cell? ⟨w.heap.size, 0, none⟩ = some (.slice none 0 0) := by
    rw [World.cell?_alloc_at _ _ _ _ rfl]; rfl
  have hf : (w.alloc (.cells #[.slice none 0 0] 42)).frozen? ⟨w.heap.size, 0, none⟩ = false := World.frozen?_alloc_at _ _ _ _ rfl
  go_enter Tryz.func118, Tryz.ntmps118
  go_wp2_with fail
  refine (pairs_add a b n ca cb la lb w (w.alloc (.cells #[.slice none 0 0] 42)) w.heap.size ha hb hn h0 (Nat.le_refl _) (by simp) hc hf).mono ?_
  rintro e w1 ⟨rfl, hb1, v, hc1, hown⟩
  obtain ⟨a', c', rfl, hcm, hrow⟩ := Row.of_owns hown
  have hrep := rowS.mono (rep_high hown) (fun b (hb : w.heap.size + 1 ≤ b) _ => (by omega : w.heap.size ≤ b))
  go_wp2
  go_ret2
  exact ⟨a', c', rfl, hrep, hb1⟩


/-- A row lies in no block that is a slice of rows. -/
theorem Own.off {w : World} {base : Nat} {e : TypeId} {g n : Nat} {xs : List (List Int)} (h : Own rowS w base e (.slice (some ⟨g, 0, none⟩) n n) xs) {a : Option Addr} {m c : Nat} {l : List Int} {F : Nat → Prop} (hr : rowS.rep w F [.slice a m c] l) : rowS.rep w (fun b => b ≠ g) [.slice a m c] l := by
  have hl := (sliceS_len h.is).1
  obtain ⟨css, ⟨_, h1⟩, hall⟩ := h
  have hones : ∀ v ∈ css.flatten, ∃ a n c, v = .slice a n c := by
    intro v hv
    obtain ⟨d, hd, hvd⟩ := List.mem_flatten.1 hv
    obtain ⟨j, hj⟩ := List.getElem?_of_mem hd
    have hjl : j < css.length := (List.getElem?_eq_some_iff.1 hj).1
    obtain ⟨a, c, _, rfl, _⟩ := hall.2 j d _ hj (List.getElem?_eq_getElem (by rw [← hall.1]; exact hjl))
    exact ⟨_, _, _, List.mem_singleton.1 hvd⟩
  rcases h1 with ⟨he, h0⟩ | ⟨g', cap, cur, he, hb, hg, hnc, hcm, hcs, htake⟩
  · cases he
  · cases he
    obtain ⟨hm, hc1, hc2⟩ := sliceS_len hr
    by_cases h0 : m = 0
    · subst h0
      have := List.eq_nil_of_length_eq_zero hm
      subst this
      exact ⟨a, c, [], rfl, hc1, hc2, Shape.all_nil, .inl rfl⟩
    · refine (Row.of_rep hr).rep hc1 hc2 fun b off hb hbg => ?_
      subst hb
      subst hbg
      obtain ⟨b2, o2, he, _, hc⟩ := (Row.of_rep hr).at (j := 0) (by omega)
      cases he
      rw [cell_of_row w b (off + 0) cur e (0, 0) hg] at hc
      have hmem : Value.int .i64 (l.getD 0 0) ∈ css.flatten := by
        rw [← htake, List.take_of_length_le (by rw [Array.length_toList, hcs, hl]; exact Nat.le_refl _)]
        have h7 : cur.toList[off + 0]? = some (.int .i64 (l.getD 0 0)) := by simpa using hc
        exact List.mem_of_getElem? h7
      obtain ⟨_, _, _, h9⟩ := hones _ hmem
      cases h9

namespace Md
/-- The first k parts are added. -/
def combTo (ts : List (List Int)) (ps : List Pt) (zs : List (List Int)) (k : Nat) : List (List Int) := puts ts ((ps.zip zs).take k)
section
variable {ts zs : List (List Int)} {ps : List Pt} {k : Nat}
theorem combTo_zero (ts : List (List Int)) (ps : List Pt) (zs : List (List Int)) : combTo ts ps zs 0 = ts := by simp [combTo, puts]
theorem combTo_len (ts : List (List Int)) (ps : List Pt) (zs : List (List Int)) (k : Nat) : (combTo ts ps zs k).length = ts.length := puts_len _ _
theorem combTo_no (h : zs.length ≤ k) : combTo ts ps zs (k + 1) = combTo ts ps zs k := by
  unfold combTo
  rw [List.take_of_length_le (by rw [List.length_zip]; omega), List.take_of_length_le (by rw [List.length_zip]; omega)]
theorem combTo_yes (hp : k < ps.length) (ha : k < zs.length) : combTo ts ps zs (k + 1) = put (combTo ts ps zs k) (ps.getD k pt0) (zs.getD k []) := by
  unfold combTo
  have hz : k < (ps.zip zs).length := by rw [List.length_zip]; omega
  rw [List.take_succ_eq_append_getElem hz, puts_snoc, List.getElem_zip, get_of hp, get_of ha]
theorem combTo_all : combTo ts ps zs ps.length = combine ts ps zs := by
  unfold combTo combine
  rw [List.take_of_length_le (by rw [List.length_zip]; omega)]
theorem put_no {o : List (List Int)} {p : Pt} {a : List Int} (h : ¬ (0 ≤ p.1 ∧ p.1 < (o.length : Int) ∧ (o.getD p.1.toNat []).length = a.length)) : put o p a = o := by unfold put; rw [if_neg h]
theorem put_yes {o : List (List Int)} {t : Nat} {r x k : Int} {a : List Int} (h1 : t < o.length) (h2 : (o.getD t []).length = a.length) : put o (pt t r x k) a = o.set t (Vx.add (o.getD t []) (Vx.scale a k)) := by
  unfold put
  rw [if_pos ⟨by show (0 : Int) ≤ (t : Int); omega, by show (t : Int) < _; omega, h2⟩]
  rfl
theorem put_sized {N : Nat} {o : List (List Int)} {p : Pt} {a : List Int} (h : ∀ v ∈ o, v.length ≤ N) : ∀ v ∈ put o p a, v.length ≤ N := by
  unfold put
  split
  · rename_i hc
    intro v hv
    rcases List.mem_or_eq_of_mem_set hv with hv | rfl
    · exact h v hv
    · rw [Vx.add_length _ _ (by rw [Vx.scale_length, hc.2.2])]
      exact h _ (Mx.getD_mem o _ (by omega))
  · exact h
theorem puts_sized {N : Nat} (xs : List (Pt × List Int)) {o : List (List Int)} (h : ∀ v ∈ o, v.length ≤ N) : ∀ v ∈ puts o xs, v.length ≤ N := by
  induction xs generalizing o with
  | nil => exact h
  | cons x xs ih => exact ih (o := put o x.1 x.2) (put_sized h)
theorem combTo_sized {N : Nat} (h : ∀ v ∈ ts, v.length ≤ N) : ∀ v ∈ combTo ts ps zs k, v.length ≤ N := puts_sized _ h
end
end Md

end Go.Proofs.YtfidgcanolegfaaGreat
