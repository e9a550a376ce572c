/- Models in memory (no program in sight): experts in two cells, layers in three, parts in four, in slices. -/
import Derived.Test.YtmechoeoaadfeaaStruct
import Derived.Test.YtmechoeoaadfeaaSlot
import Derived.Test.YtmechoeoaadfeaaMe
namespace Go.Proofs.Ytmechoeoaadfeaa
open Go.ChangeShapes Go.WideShapes Go.ChangeAt Go.RowKit

abbrev xpS : Shape Xp := consS matS (consS matS noneS)
abbrev xpsS : Shape (List Xp) := sliceS xpS
abbrev lyS : Shape Ly := consS matS (consS xpsS (consS (intS .i64) noneS))
abbrev lysS : Shape (List Ly) := sliceS lyS
abbrev ptS : Shape Pt := consS (intS .i64) (consS (intS .i64) (consS (intS .i64) (consS (intS .i64) noneS)))
abbrev ptsS : Shape (List Pt) := sliceS ptS

theorem get_of {α : Type} {l : List α} {j : Nat} (h : j < l.length) (d : α) : l.getD j d = l[j] := by rw [List.getD_eq_getElem?_getD, List.getElem?_eq_getElem h]; rfl
theorem in_of {α : Type} {l : List α} {j : Nat} (h : j < l.length) (d : α) : l.getD j d ∈ l := by rw [get_of h]; exact List.getElem_mem h

section
variable {w : World} {F : Nat → Prop} {a : Option Addr} {n c : Nat}

theorem xp_is {cs : List Value} {x : Xp} (h : xpS.rep w F cs x) : ∃ ai ni ci ao no co, cs = [.slice ai ni ci, .slice ao no co] ∧ matS.rep w F [.slice ai ni ci] x.1 ∧ matS.rep w F [.slice ao no co] x.2.1 := by
  obtain ⟨ai, ni, ci, d, rfl, h1, h2⟩ := consS_slice h
  obtain ⟨ao, no, co, d', rfl, h3, h4⟩ := consS_slice h2
  rw [noneS_nil h4]
  exact ⟨ai, ni, ci, ao, no, co, rfl, h1, h3⟩
theorem xp_rep {ai : Option Addr} {ni ci : Nat} {ao : Option Addr} {no co : Nat} {mi mo : List (List Int)} (hi : matS.rep w F [.slice ai ni ci] mi) (ho : matS.rep w F [.slice ao no co] mo) : xpS.rep w F [.slice ai ni ci, .slice ao no co] (mi, mo, ()) :=
  ⟨[_], [_], rfl, hi, [_], [], rfl, ho, rfl⟩
/-- Expert j. -/
theorem xp_at {xs : List Xp} (h : xpsS.rep w F [.slice a n c] xs) {j : Nat} (hj : j < n) :
    ∃ b off ai ni ci ao no co, a = some ⟨b, off, none⟩ ∧ F b ∧ b < w.heap.size ∧ matS.rep w F [.slice ai ni ci] (xs.getD j xp0).1 ∧ matS.rep w F [.slice ao no co] (xs.getD j xp0).2.1 ∧
      w.cell? ⟨b, off + j * 2, none⟩ = some (.slice ai ni ci) ∧ w.cell? ⟨b, off + j * 2 + 1, none⟩ = some (.slice ao no co) := by
  have hl := (sliceS_len h).1
  obtain ⟨b, off, cs, ha, hF, hb, hc, hr⟩ := sliceS_at h (by show 0 < 2; omega) (j := j) (by omega)
  rw [get_of (by omega)]
  obtain ⟨ai, ni, ci, ao, no, co, rfl, h1, h2⟩ := xp_is hr
  exact ⟨b, off, ai, ni, ci, ao, no, co, ha, hF, hb, h1, h2, hc 0 _ rfl, hc 1 _ rfl⟩

theorem ly_is {cs : List Value} {x : Ly} (h : lyS.rep w F cs x) : ∃ ag ng cg ax nx cx, cs = [.slice ag ng cg, .slice ax nx cx, .int .i64 x.2.2.1] ∧ matS.rep w F [.slice ag ng cg] x.1 ∧ xpsS.rep w F [.slice ax nx cx] x.2.1 := by
  obtain ⟨ag, ng, cg, d, rfl, h1, h2⟩ := consS_slice h
  obtain ⟨ax, nx, cx, d', rfl, h3, h4⟩ := consS_slice h2
  obtain ⟨d'', rfl, h5⟩ := consS_int h4
  rw [noneS_nil h5]
  exact ⟨ag, ng, cg, ax, nx, cx, rfl, h1, h3⟩
theorem ly_rep {ag : Option Addr} {ng cg : Nat} {ax : Option Addr} {nx cx : Nat} {g : List (List Int)} {xs : List Xp} (cap : Int) (hg : matS.rep w F [.slice ag ng cg] g) (hx : xpsS.rep w F [.slice ax nx cx] xs) : lyS.rep w F [.slice ag ng cg, .slice ax nx cx, .int .i64 cap] (g, xs, cap, ()) :=
  ⟨[_], [_, _], rfl, hg, [_], [_], rfl, hx, [_], [], rfl, rfl, rfl⟩
/-- Layer j. -/
theorem ly_at {ls : List Ly} (h : lysS.rep w F [.slice a n c] ls) {j : Nat} (hj : j < n) :
    ∃ b off ag ng cg ax nx cx, a = some ⟨b, off, none⟩ ∧ F b ∧ b < w.heap.size ∧ matS.rep w F [.slice ag ng cg] (ls.getD j ly0).1 ∧ xpsS.rep w F [.slice ax nx cx] (ls.getD j ly0).2.1 ∧
      w.cell? ⟨b, off + j * 3, none⟩ = some (.slice ag ng cg) ∧ w.cell? ⟨b, off + j * 3 + 1, none⟩ = some (.slice ax nx cx) ∧ w.cell? ⟨b, off + j * 3 + 2, none⟩ = some (.int .i64 (ls.getD j ly0).2.2.1) := by
  have hl := (sliceS_len h).1
  obtain ⟨b, off, cs, ha, hF, hb, hc, hr⟩ := sliceS_at h (by show 0 < 3; omega) (j := j) (by omega)
  rw [get_of (by omega)]
  obtain ⟨ag, ng, cg, ax, nx, cx, rfl, h1, h2⟩ := ly_is hr
  exact ⟨b, off, ag, ng, cg, ax, nx, cx, ha, hF, hb, h1, h2, hc 0 _ rfl, hc 1 _ rfl, hc 2 _ rfl⟩

theorem pt_is {cs : List Value} {x : Pt} (h : ptS.rep w F cs x) : cs = [.int .i64 x.1, .int .i64 x.2.1, .int .i64 x.2.2.1, .int .i64 x.2.2.2.1] := by
  obtain ⟨d1, rfl, h1⟩ := consS_int h
  obtain ⟨d2, rfl, h2⟩ := consS_int h1
  obtain ⟨d3, rfl, h3⟩ := consS_int h2
  obtain ⟨d4, rfl, h4⟩ := consS_int h3
  rw [noneS_nil h4]
theorem pt_rep (w : World) (F : Nat → Prop) (t r e k : Int) : ptS.rep w F [.int .i64 t, .int .i64 r, .int .i64 e, .int .i64 k] (pt t r e k) := ⟨[_], [_, _, _], rfl, rfl, [_], [_, _], rfl, rfl, [_], [_], rfl, rfl, [_], [], rfl, rfl, rfl⟩
/-- Part j. -/
theorem pt_at {ps : List Pt} (h : ptsS.rep w F [.slice a n c] ps) {j : Nat} (hj : j < n) :
    ∃ b off, a = some ⟨b, off, none⟩ ∧ F b ∧ b < w.heap.size ∧ w.cell? ⟨b, off + j * 4, none⟩ = some (.int .i64 (ps.getD j pt0).1) ∧ w.cell? ⟨b, off + j * 4 + 1, none⟩ = some (.int .i64 (ps.getD j pt0).2.1) ∧
      w.cell? ⟨b, off + j * 4 + 2, none⟩ = some (.int .i64 (ps.getD j pt0).2.2.1) ∧ w.cell? ⟨b, off + j * 4 + 3, none⟩ = some (.int .i64 (ps.getD j pt0).2.2.2.1) := by
  have hl := (sliceS_len h).1
  obtain ⟨b, off, cs, ha, hF, hb, hc, hr⟩ := sliceS_at h (by show 0 < 4; omega) (j := j) (by omega)
  rw [get_of (by omega)]
  have hcs := pt_is hr
  subst hcs
  exact ⟨b, off, ha, hF, hb, hc 0 _ rfl, hc 1 _ rfl, hc 2 _ rfl, hc 3 _ rfl⟩
end

namespace Md
/-- The first k of the layers, one more. -/
theorem take_ly {ls : List Ly} {k : Nat} (h : k < ls.length) : ls.take (k + 1) = ls.take k ++ [ls.getD k ly0] := by rw [List.take_succ_eq_append_getElem h, get_of h]
theorem take_xp {xs : List Xp} {k : Nat} (h : k < xs.length) : xs.take (k + 1) = xs.take k ++ [xs.getD k xp0] := by rw [List.take_succ_eq_append_getElem h, get_of h]
theorem take_pt {ps : List Pt} {k : Nat} (h : k < ps.length) : ps.take (k + 1) = ps.take k ++ [ps.getD k pt0] := by rw [List.take_succ_eq_append_getElem h, get_of h]
theorem forward_next {ls : List Ly} {k : Nat} (h : k < ls.length) (ts : List (List Int)) : forward (ls.take (k + 1)) ts = step (ls.getD k ly0) (forward (ls.take k) ts) := by rw [take_ly h, forward_snoc]
theorem many_next {ps : List Pt} {k : Nat} (h : k < ps.length) (e : Int) : many (ps.take (k + 1)) e = many (ps.take k) e + (if (ps.getD k pt0).2.2.1 = e then 1 else 0) := by
  rw [take_pt h, many_append]
  congr 1
  unfold many
  by_cases c : (ps.getD k pt0).2.2.1 = e
  · rw [if_pos c, List.filter_cons_of_pos (by simpa using c)]; rfl
  · rw [if_neg c, List.filter_cons_of_neg (by simpa using c)]; rfl
/-- The sums of one token, along the parts. -/
def along (l : Ly) (ts : List (List Int)) (t : Nat) (ps : List Pt) : List Int := (ps.filter fun p => p.1 == (t : Int)).foldl (grow l (ts.getD t [])) (ts.getD t [])
theorem along_nil (l : Ly) (ts : List (List Int)) (t : Nat) : along l ts t [] = ts.getD t [] := rfl
theorem along_yes {l : Ly} {ts : List (List Int)} {t : Nat} {ps : List Pt} {k : Nat} (h : k < ps.length) (e : (ps.getD k pt0).1 = (t : Int)) : along l ts t (ps.take (k + 1)) = grow l (ts.getD t []) (along l ts t (ps.take k)) (ps.getD k pt0) := by
  unfold along
  rw [take_pt h, List.filter_append, List.foldl_append, List.filter_cons_of_pos (by simpa using e)]
  rfl
theorem along_no {l : Ly} {ts : List (List Int)} {t : Nat} {ps : List Pt} {k : Nat} (h : k < ps.length) (e : (ps.getD k pt0).1 ≠ (t : Int)) : along l ts t (ps.take (k + 1)) = along l ts t (ps.take k) := by
  unfold along
  rw [take_pt h, List.filter_append, List.filter_cons_of_neg (by simpa using e), List.filter_nil, List.append_nil]
theorem along_all (l : Ly) {ts : List (List Int)} {t : Nat} (h : t < ts.length) : along l ts t (parts l ts) = out l ts t := by
  unfold along
  rw [filter_parts l h]
  rfl
theorem along_len {dim : Int} {l : Ly} {ts : List (List Int)} (hl : LRight l dim) (ht : TRight dim ts) {t : Nat} (h : t < ts.length) (k : Nat) : (along l ts t ((parts l ts).take k)).length = (ts.getD t []).length := by
  have h1 := ht.row h
  refine (grows hl h1.1 _ (fun p hp => ?_) (ts.getD t []) rfl h1.2).1
  have hm := List.mem_of_mem_take (List.mem_filter.1 hp).1
  have := part_fits hm
  exact ⟨this.2.2.1, this.2.2.2⟩
end Md

end Go.Proofs.Ytmechoeoaadfeaa
