/- What the walks take besides the library (no program in sight): rows that are made, filled, appended; what a callee tells; slices that the call owns; regions that draw their order, by one walk over the worlds that come of the first by new memory alone. -/
import Derived.Test.YtpfhjdlmjehfnaaShape
import Derived.OwnWalk
import Derived.Deep.OwnRows
import Derived.Deep.AppendLies
import Derived.Deep.RegionWith
import Derived.Deep.RegionLaw
import Derived.Deep.RegionHeld3
import Derived.Deep.DrawnRows
import Derived.Deep.CutRange
import Derived.Deep.QuietTactic
import Derived.BigQuiet
namespace Go.Proofs.Ytpfhjdlmjehfnaa
open Go.ChangeShapes Go.WideShapes Go.ChangeAt Go.RowKit

theorem ret_int {k : IntKind} {a b : Int} (h : a = b) : Ending.returned (.int k a) = .returned (.int k b) := by rw [h]

/-- One number more at the end of a row that the call owns. -/
theorem own_snoc {w1 : World} {base n : Nat} {e : TypeId} {v' : Value} {l l' : List Int} {x : Int} (h : w1.ownsRow base e 1 v' (n + 1) (l.map (Value.int .i64) ++ [.int .i64 x])) (he : l' = l ++ [x]) :
    w1.ownsRow base e 1 v' (n + 1) (l'.map (Value.int .i64)) := by rw [he, List.map_append]; exact h

/-- A row that is filled from its head: the first k numbers are there, the rest are 0. -/
def fill (done : List Int) (n : Nat) : List Int := done ++ List.replicate (n - done.length) 0
theorem fill_length (done : List Int) (n : Nat) (h : done.length ≤ n) : (fill done n).length = n := by simp [fill]; omega
theorem fill_full (done : List Int) (n : Nat) (h : done.length = n) : fill done n = done := by simp [fill, h]
theorem fill_set (done : List Int) (n : Nat) (x : Int) (h : done.length < n) : (fill done n).set done.length x = fill (done ++ [x]) n := by
  unfold fill
  rw [List.set_append_right _ _ (Nat.le_refl _), Nat.sub_self, List.append_assoc]
  congr 1
  rw [show n - done.length = (n - (done ++ [x]).length) + 1 by simp; omega, List.replicate_succ, List.set_cons_zero]
  rfl
theorem fill_zero (n : Nat) : (madeCells #[.int .i64 0] n).toList = (fill [] n).map (Value.int .i64) := by
  apply List.ext_getElem
  · simp [fill, madeCells]
  · intro i h1 h2
    simp [fill, madeCells, Nat.mod_one]
theorem fill_get (done : List Int) (n k : Nat) (h : k < n) (hd : done.length ≤ n) : ∃ z, ((fill done n).map (Value.int .i64))[k]? = some (.int .i64 z) := by
  refine ⟨(fill done n)[k]'(by rw [fill_length _ _ hd]; exact h), ?_⟩
  rw [List.getElem?_map, List.getElem?_eq_getElem (by rw [fill_length _ _ hd]; exact h)]; rfl

theorem bel_then {w w1 w2 : World} (h : Below w.heap.size w w1) (k : Below w1.heap.size w1 w2) : Below w.heap.size w w2 := h.trans (k.mono h.size)

/-- A row that a literal has just laid. -/
theorem Row.lit {e : TypeId} (w : World) (cs : Array Value) (l : List Int) (hc : cs.toList = l.map (Value.int .i64)) : Row .i64 (w.alloc (.cells cs e)) (some ⟨w.heap.size, 0, none⟩) l.length l :=
  Row.of_block (heap_alloc_new w _) hc

theorem Row.made {e : TypeId} (w : World) (n : Nat) : Row .i64 (w.alloc (.cells (madeCells #[.int .i64 0] n) e)) (some ⟨w.heap.size, 0, none⟩) n (List.replicate n 0) := by
  have h := Row.of_block (k := .i64) (l := fill [] n) (heap_alloc_new w (.cells (madeCells #[.int .i64 0] n) e)) (fill_zero n)
  simpa [fill] using h

theorem run_append_row {P : Program} {w : World} {k : IntKind} (base : Nat) (t ty e : TypeId) (i : TypeInfo) (z : Value) (bytes : Nat) (ht : P.underlying t = some (.slice e)) (hi : P.info? e = some i) (hz : i.zero = some z)
    (hsize : i.size = 1) (hby : i.bytes = bytes) (hzs : z.cells.size = 1) (v : Value) (n : Nat) (xs : List Value) (hown : w.ownsRow base e 1 v n xs) (a : Option Addr) (m c : Nat) (l : List Int) (hr : Row k w a m l)
    (h63 : n + m ≤ maxLen) (hbytes : (n + m) * bytes ≤ 140737488355328) (hbase : base ≤ w.heap.size) :
    ∃ v' w', (Builtin.append_ #[t, t] ty #[v, .slice a m c]).run P w = .ok v' w' ∧ w'.ownsRow base e 1 v' (n + m) (xs ++ l.map (Value.int k)) ∧ w.grownBy w' v.ownBlock := by
  cases a with
  | none =>
    have hm : m = 0 := by
      rcases hr.2 with h | ⟨b, off, h, _⟩
      · exact h
      · cases h
    subst hm
    have hl : l = [] := List.eq_nil_of_length_eq_zero hr.1
    subst hl
    refine ⟨v, w, ?_, by simpa using hown, ⟨rfl, rfl, rfl, Nat.le_refl _, fun _ _ _ => rfl⟩⟩
    rcases hown.2 with ⟨rfl, rfl⟩ | ⟨g, cap, cur, rfl, _, _, hnc, _⟩
    · simp [Builtin.append_, run_underlying ht, sizeOf, typeInfo, hi, Builtin.lenOf, Builtin.firstCells]
    · simp [Builtin.append_, run_underlying ht, sizeOf, typeInfo, hi, Builtin.lenOf, Builtin.firstCells, hnc, storeCells]
  | some ad =>
    have hnews : ∀ j u, (l.map (Value.int k))[j]? = some u → w.cell? (ad.add j) = some u := by
      intro j u hu
      rw [List.getElem?_map, Option.map_eq_some_iff] at hu
      obtain ⟨x, hx, rfl⟩ := hu
      have hj : j < l.length := (List.getElem?_eq_some_iff.1 hx).1
      obtain ⟨b, off, hb, _, hc⟩ := hr.at (j := j) (by rw [← hr.1]; exact hj)
      obtain rfl : ad = ⟨b, off, none⟩ := by simpa using hb
      have hadd : (⟨b, off, none⟩ : Addr).add j = ⟨b, off + j, none⟩ := by unfold Addr.add; split <;> simp_all
      rw [hadd, hc, List.getD_eq_getElem?_getD, hx]; rfl
    obtain ⟨v', w', h1, h2, h3, _⟩ := run_append_own (P := P) w base t ty e i z 1 bytes ht hi hz hsize hby hzs (by omega) v n xs hown ad m c (l.map (Value.int k)) (by simp [hr.1]) hnews
      (by intro u hu; obtain ⟨x, _, rfl⟩ := List.mem_map.1 hu; rfl) h63 hbytes hbase
    exact ⟨v', w', h1, h2, h3⟩

theorem wpList_append_row {P : Program} {w : World} {k : IntKind} {ops : Array Oper} {rest : List Oper} {o : Oper} {a : Act} {Q : Exit → Act → World → Prop} (hgd : o.guard = none) (s x : Operand) (t : TypeId)
    (ho : o.op = .call { callee := .builtin .append, args := #[s, x], argTypes := #[t, t] })
    (base : Nat) (e : TypeId) (i : TypeInfo) (z : Value) (bytes : Nat) (ht : P.underlying t = some (.slice e)) (hi : P.info? e = some i) (hz : i.zero = some z)
    (hsize : i.size = 1) (hby : i.bytes = bytes) (hzs : z.cells.size = 1) (v : Value) (n : Nat) (xs : List Value) (hs : a.eval s = v) (hown : w.ownsRow base e 1 v n xs)
    (ad : Option Addr) (m c : Nat) (l : List Int) (hx : a.eval x = .slice ad m c) (hr : Row k w ad m l)
    (h63 : n + m ≤ maxLen) (hbytes : (n + m) * bytes ≤ 140737488355328) (hbase : base ≤ w.heap.size)
    (h : ∀ v' w', w'.ownsRow base e 1 v' (n + m) (xs ++ l.map (Value.int k)) → w.grownBy w' v.ownBlock → wpList P ops Q rest (a.put o.dst v') w') : wpList P ops Q (o :: rest) a w := by
  refine wpList_plain hgd fun K hK => ?_
  obtain ⟨v', w', hrun, h2, h3⟩ := run_append_row (P := P) (w := w) base t o.type e i z bytes ht hi hz hsize hby hzs v n xs hown ad m c l hr h63 hbytes hbase
  unfold Oper.wp
  simp [execOp, ho, resolve, invoke, builtin, hs, hx, hrun, Result.andThen]
  exact hK _ _ (h v' w' h2 h3)

theorem wpList_append_rows {P : Program} {w : World} {ops : Array Oper} {rest : List Oper} {o : Oper} {a : Act} {Q : Exit → Act → World → Prop} (hw : Region.wanted o (yielded ops a.tmps) = true) (s x : Operand) (t : TypeId)
    (ho : o.op = .call { callee := .builtin .append, args := #[s, x], argTypes := #[t, t] })
    (base : Nat) (e : TypeId) (i : TypeInfo) (ht : P.underlying t = some (.slice e)) (hi : P.info? e = some i) (hz : i.zero = some (.int .i64 0))
    (hsize : i.size = 1) (hby : i.bytes = 8) (v : Value) (n : Nat) (l1 : List Int) (hs : a.eval s = v) (hown : w.ownsRow base e 1 v n (l1.map (Value.int .i64)))
    (ad : Option Addr) (m c : Nat) (l : List Int) (hx : a.eval x = .slice ad m c) (hr : Row .i64 w ad m l)
    (hsm : n + m ≤ 100000) (hbase : base ≤ w.heap.size)
    (h : ∀ a' c' w', w'.ownsRow base e 1 (.slice a' (n + m) c') (n + m) ((l1 ++ l).map (Value.int .i64)) → Row .i64 w' a' (n + m) (l1 ++ l) → Below base w w' → wpList P ops Q rest (a.put o.dst (.slice a' (n + m) c')) w') : wpList P ops Q (o :: rest) a w := by
  refine wpList_step fun K hK => ?_
  rw [if_pos hw]
  obtain ⟨v', w', hrun, h2, h3⟩ := run_append_row (P := P) (w := w) base t o.type e i (.int .i64 0) 8 ht hi hz hsize hby rfl v n _ hown ad m c l hr (by unfold maxLen; omega) (by omega) hbase
  rw [← List.map_append] at h2
  obtain ⟨a', c', rfl, _, hrow⟩ := Row.of_owns h2
  have hb : Below base w w' := (Below.refl _ _).grown h3 hbase (fun g hg => (hown.lt g hg).1)
  unfold Oper.wp
  simp [execOp, ho, resolve, invoke, builtin, hs, hx, hrun, Result.andThen]
  exact hK _ _ (h a' c' w' h2 hrow hb)

theorem new_below (w : World) (o : Obj) : Below w.heap.size w (w.alloc o) := (Below.refl _ _).alloc (Nat.le_refl _) o

theorem own_empty {e : TypeId} (w : World) : (w.alloc (.cells #[] e)).ownsRow w.heap.size e 1 (.slice (some ⟨w.heap.size, 0, none⟩) 0 0) 0 (([] : List Int).map (Value.int .i64)) :=
  World.ownsRow_made w #[] 0 (Nat.le_refl _) (by simp [maxLen]) rfl

/-- It returns a bool: whether p. -/
def Says (e : Ending) (p : Prop) : Prop := ∃ b, e = .returned (.bool b) ∧ (b = true ↔ p)
theorem Says.yes {p : Prop} (h : p) : Says (.returned (.bool true)) p := ⟨true, rfl, by simp [h]⟩
theorem Says.no {p : Prop} (h : ¬ p) : Says (.returned (.bool false)) p := ⟨false, rfl, by simp [h]⟩
theorem Says.is {e : Ending} {p : Prop} (h : Says e p) (hp : p) : e = .returned (.bool true) := by
  obtain ⟨b, rfl, hb⟩ := h; rw [hb.2 hp]
theorem Says.not {e : Ending} {p : Prop} (h : Says e p) (hp : ¬ p) : e = .returned (.bool false) := by
  obtain ⟨b, rfl, hb⟩ := h
  cases b with
  | true => exact absurd (hb.1 rfl) hp
  | false => rfl

theorem mat_at {w : World} {F : Nat → Prop} {a : Option Addr} {n c : Nat} {m : List (List Int)} (h : matS.rep w F [.slice a n c] m) {j : Nat} (hj : j < n) :
    ∃ b off A C, a = some ⟨b, off, none⟩ ∧ b < w.heap.size ∧ w.cell? ⟨b, off + j, none⟩ = some (.slice A (m.getD j []).length C) ∧ rowS.rep w F [.slice A (m.getD j []).length C] (m.getD j []) := by
  have hl := (sliceS_len h).1
  have hjl : j < m.length := by omega
  obtain ⟨b, off, cs, ha, _, hb, hc, hr⟩ := sliceS_at h (by exact Nat.one_pos) hjl
  have e : m.getD j [] = m[j] := by rw [List.getD_eq_getElem?_getD, List.getElem?_eq_getElem hjl]; rfl
  rw [e]
  obtain ⟨A, C, css, rfl, h1, h2, h3, h4⟩ := hr
  refine ⟨b, off, A, C, ha, hb, ?_, A, C, css, rfl, h1, h2, h3, h4⟩
  have := hc 0 _ rfl
  rwa [show off + (j * rowS.size + 0) = off + j by show off + (j * 1 + 0) = off + j; omega] at this

theorem own_below {w w' : World} {B e size n : Nat} {v : Value} {xs : List Value} (h : w.ownsRow B e size v n xs) (hb : Below w.heap.size w w') : w'.ownsRow B e size v n xs :=
  h.kept (row := none) ⟨hb.os, hb.tape, hb.output, hb.size, fun j hj _ => hb.block j hj⟩ (by cases hv : v.ownBlock <;> simp)
theorem Own.of_row {k : IntKind} {w : World} {base : Nat} {e : TypeId} {v : Value} {l : List Int} (h : w.ownsRow base e 1 v l.length (l.map (Value.int k))) : Own (intS k) w base e v l :=
  ⟨l.map fun x => [.int k x], by rw [ints_flat]; exact h, ints_all _ _ _ _⟩
theorem rep_of_row {k : IntKind} {w : World} {base : Nat} {e : TypeId} {v : Value} {n : Nat} {l : List Int} (h : w.ownsRow base e 1 v n (l.map (Value.int k))) :
    ∃ a c, v = .slice a n c ∧ (sliceS (intS k)).rep w everywhere [.slice a n c] l := by
  have hl : l.length = n := by simpa using h.1
  subst hl
  exact (Own.of_row h).rep

/-- It returns the n numbers l and true if p, else nothing and false. -/
def Gives (e : Ending) (w' : World) (n : Nat) (l : List Int) (p : Prop) : Prop :=
  (p ∧ ∃ a c, e = .returned (.tuple #[.slice a n c, .bool true]) ∧ rowS.rep w' everywhere [.slice a n c] l) ∨ (¬ p ∧ e = .returned (.tuple #[.slice none 0 0, .bool false]))

/-- Rows that a literal has just laid. -/
theorem rep_lit {α : Type} {A : Shape α} {w : World} {F : Nat → Prop} (css : List (List Value)) (xs : List α) (e : TypeId) (h : A.all w F css xs) (hm : xs.length ≤ maxLen) :
    (sliceS A).rep (w.alloc (.cells css.flatten.toArray e)) everywhere [.slice (some ⟨w.heap.size, 0, none⟩) xs.length xs.length] xs := by
  refine ⟨_, _, css, rfl, Nat.le_refl _, hm, Shape.all_mono (Shape.all_keep h fun b _ hlt => Below.heap_alloc w _ b hlt) (fun _ _ _ => trivial), .inr ⟨w.heap.size, 0, rfl, trivial, by simp, fun j v hv => ?_⟩⟩
  rw [cell_of_row _ w.heap.size (0 + j) css.flatten.toArray e (0, 0) (heap_alloc_new w _)]
  simpa using hv
theorem row_lit (w : World) (l : List Int) (e : TypeId) (hm : l.length ≤ maxLen) : rowS.rep (w.alloc (.cells (l.map (Value.int .i64)).toArray e)) everywhere [.slice (some ⟨w.heap.size, 0, none⟩) l.length l.length] l := by
  have h := rep_lit (l.map fun x => [Value.int .i64 x]) l e (ints_all .i64 w everywhere l) hm
  rw [ints_flat] at h
  exact h
theorem rep_none {α : Type} (A : Shape α) (w : World) (F : Nat → Prop) : (sliceS A).rep w F [.slice none 0 0] [] := ⟨none, 0, [], rfl, Nat.le_refl _, Nat.zero_le _, Shape.all_nil, .inl rfl⟩

theorem bel_alloc {w w' : World} (h : Below w.heap.size w w') (o : Obj) : Below w.heap.size w (w'.alloc o) := h.alloc h.size o
theorem new_bel (w : World) (o : Obj) : Below w.heap.size w (w.alloc o) := (Below.refl _ _).alloc (Nat.le_refl _) o

/-- Whether p, as a bool. -/
noncomputable def tell (p : Prop) : Bool := @decide p (Classical.propDecidable p)
theorem tell_yes {p : Prop} (h : p) : tell p = true := by unfold tell; simp [h]
theorem tell_no {p : Prop} (h : ¬ p) : tell p = false := by unfold tell; simp [h]
theorem tell_iff {p q : Prop} (h : p ↔ q) : tell p = tell q := by
  by_cases hp : p
  · rw [tell_yes hp, tell_yes (h.1 hp)]
  · rw [tell_no hp, tell_no (fun hq => hp (h.2 hq))]
theorem Says.form {e : Ending} {p : Prop} (h : Says e p) : e = .returned (.bool (tell p)) := by
  by_cases hp : p
  · rw [tell_yes hp]; exact h.is hp
  · rw [tell_no hp]; exact h.not hp

theorem by_says {P : Program} {f : FuncId} {args : Array Value} {w : World} {p : Prop} {Q : Ending → World → Prop} (h : Calls P f args w fun e w' => Says e p ∧ w' = w) (hy : p → Q (.returned (.bool true)) w) (hn : ¬ p → Q (.returned (.bool false)) w) : Calls P f args w Q :=
  h.mono (by
    rintro e w' ⟨hs, rfl⟩
    by_cases hp : p
    · rw [hs.is hp]; exact hy hp
    · rw [hs.not hp]; exact hn hp)
theorem by_form {P : Program} {f : FuncId} {args : Array Value} {w : World} {p : Prop} {Q : Ending → World → Prop} (h : Calls P f args w fun e w' => Says e p ∧ w' = w) (hq : Q (.returned (.bool (tell p))) w) : Calls P f args w Q :=
  h.mono (by rintro e w' ⟨hs, rfl⟩; rw [hs.form]; exact hq)

/-- What Apply answers, as one form for both its ways. -/
noncomputable def outLen (p : Prop) (n : Nat) : Nat := @ite _ p (Classical.propDecidable p) n 0
noncomputable def outRow (p : Prop) (l : List Int) : List Int := @ite _ p (Classical.propDecidable p) l []
theorem outLen_le (p : Prop) (n : Nat) : outLen p n ≤ n := by unfold outLen; split <;> omega
theorem Gives.form {e : Ending} {w' : World} {n : Nat} {l : List Int} {p : Prop} (h : Gives e w' n l p) :
    ∃ a c, e = .returned (.tuple #[.slice a (outLen p n) c, .bool (tell p)]) ∧ rowS.rep w' everywhere [.slice a (outLen p n) c] (outRow p l) := by
  rcases h with ⟨hp, a, c, he, hr⟩ | ⟨hp, he⟩
  · refine ⟨a, c, ?_, ?_⟩
    · rw [tell_yes hp]; unfold outLen; rw [if_pos hp]; exact he
    · unfold outLen outRow; rw [if_pos hp, if_pos hp]; exact hr
  · refine ⟨none, 0, ?_, ?_⟩
    · rw [tell_no hp]; unfold outLen; rw [if_neg hp]; exact he
    · unfold outLen outRow; rw [if_neg hp, if_neg hp]; exact rep_none _ _ _

/-- What came in is there in whatever world comes of the first. -/
theorem Shape.now {α : Type} {A : Shape α} {w u : World} {cs : List Value} {x : α} (h : A.rep w (· < w.heap.size) cs x) (hb : Below w.heap.size w u) : A.rep u (· < w.heap.size) cs x :=
  A.keep h fun b hlt _ => hb.block b hlt

theorem Own.empty {α : Type} (A : Shape α) (w : World) (e : TypeId) : Own A (w.alloc (.cells #[] e)) w.heap.size e (.slice (some ⟨w.heap.size, 0, none⟩) 0 0) [] :=
  ⟨[], World.ownsRow_made w #[] 0 (Nat.le_refl _) (by simp [maxLen]) (by simp), Shape.all_nil⟩

theorem Own.is {α : Type} {A : Shape α} {w : World} {base : Nat} {e : TypeId} {a : Option Addr} {n c : Nat} {xs : List α} (h : Own A w base e (.slice a n c) xs) : (sliceS A).rep w everywhere [.slice a n c] xs := by
  obtain ⟨a', c', he, hr⟩ := h.rep
  cases he
  exact hr
theorem Gives.yes {e : Ending} {w' : World} {n : Nat} {l : List Int} {p : Prop} (h : Gives e w' n l p) (hp : p) : ∃ a c, e = .returned (.tuple #[.slice a n c, .bool true]) ∧ rowS.rep w' everywhere [.slice a n c] l := by
  rcases h with ⟨_, h⟩ | ⟨hn, _⟩
  · exact h
  · exact absurd hp hn
theorem Gives.no {e : Ending} {w' : World} {n : Nat} {l : List Int} {p : Prop} (h : Gives e w' n l p) (hp : ¬ p) : e = .returned (.tuple #[.slice none 0 0, .bool false]) := by
  rcases h with ⟨hy, _⟩ | ⟨_, h⟩
  · exact absurd hy hp
  · exact h

/-- A world that comes of w by new memory alone. -/
structure Later (w : World) where
  u : World
  h : Below w.heap.size w u

theorem Later.there (w : World) : Nonempty (Later w) := ⟨⟨w, Below.refl _ w⟩⟩
theorem Later.cell {w : World} {p : Addr} {v : Value} (hc : w.cell? p = some v) (x : Later w) : x.u.cell? p = some v := (x.h.cell (World.block_lt_of_cell? w _ hc)).trans hc
theorem Later.call {P : Program} {f : FuncId} {args : Array Value} {w : World} {v : Value} {x : Later w} (h : Calls P f args x.u fun e w' => e = .returned v ∧ Below x.u.heap.size x.u w') :
    Calls P f args x.u fun e w'' => e = .returned v ∧ ∃ y : Later w, w'' = y.u :=
  h.mono fun _ w'' ⟨he, hb⟩ => ⟨he, ⟨w'', x.h.trans (hb.mono x.h.size)⟩, rfl⟩
theorem Later.same {P : Program} {f : FuncId} {args : Array Value} {w : World} {v : Value} {x : Later w} (h : Calls P f args x.u fun e w' => e = .returned v ∧ w' = x.u) :
    Calls P f args x.u fun e w'' => e = .returned v ∧ ∃ y : Later w, w'' = y.u :=
  h.mono fun _ _ ⟨he, hb⟩ => ⟨he, x, hb⟩

theorem region_later {P : Program} {id : Nat} {Q : Exit → Act → World → Prop} {a : Act} {w : World} {l : List Oper} (hm : P.follows .mixedOrders = true) (hB : Region.lexB .any l.toArray = true)
    (h : wpQuiet P l.toArray (fun w' => ∃ x : Later w, w' = x.u) (fun a' => ∀ x : Later w, Q .normal a' x.u) l a) : (Code.region id l.toArray true).wp P Q a w := by
  refine wp_region_quiet (C := fun w' => ∃ x : Later w, w' = x.u) hm hB ⟨⟨_, (Below.refl _ w).drew⟩, rfl⟩ ?_
  have e : (fun a' => ∀ w', (∃ x : Later w, w' = x.u) → Q .normal a' w') = fun a' => ∀ x : Later w, Q .normal a' x.u := by
    funext a'
    apply propext
    constructor
    · intro h x; exact h _ ⟨x, rfl⟩
    · rintro h w' ⟨x, rfl⟩; exact h x
  rw [e]
  simpa using h

/-! ### A store into a slice that the call owns -/
theorem Own.form {α : Type} {A : Shape α} {w : World} {base : Nat} {e : TypeId} {a : Option Addr} {n c : Nat} {xs : List α} (h : Own A w base e (.slice a n c) xs) (hn : 0 < n) : ∃ g, a = some ⟨g, 0, none⟩ ∧ base ≤ g ∧ g < w.heap.size ∧ xs.length = n := by
  have hl := (sliceS_len h.is).1
  obtain ⟨css, ⟨_, h1⟩, _⟩ := h
  rcases h1 with ⟨he, h0⟩ | ⟨g, cap, cur, he, hb, hg, _⟩
  · omega
  · cases he
    exact ⟨g, rfl, hb, (Array.getElem?_eq_some_iff.1 hg).1, hl⟩
theorem flat_set1 {css : List (List Value)} (h : ∀ c ∈ css, c.length = 1) (j : Nat) (v : Value) : (css.set j [v]).flatten = css.flatten.set j v := by
  induction css generalizing j with
  | nil => simp
  | cons c css ih =>
    have h1 := h c (by simp)
    have h2 := ih fun d hd => h d (by simp [hd])
    obtain ⟨u, rfl⟩ : ∃ u, c = [u] := List.length_eq_one_iff.1 h1
    cases j with
    | zero => simp
    | succ j => simp [h2 j]
theorem Own.store {α : Type} {A : Shape α} {w : World} {base : Nat} {e : TypeId} {g n c : Nat} {xs : List α} (hs : A.size = 1) (h : Own A w base e (.slice (some ⟨g, 0, none⟩) n c) xs) {j : Nat} (hj : j < n) {v : Value} {x : α} {F : Nat → Prop} (hx : A.rep w F [v] x) (hF : ∀ b, F b → b ≠ g) :
    (∃ z, w.cell? ⟨g, j, none⟩ = some z) ∧ w.frozen? ⟨g, j, none⟩ = false ∧ Own A (w.setCell ⟨g, j, none⟩ v) base e (.slice (some ⟨g, 0, none⟩) n c) (xs.set j x) := by
  have hl := (sliceS_len h.is).1
  obtain ⟨css, hrow, hall⟩ := h
  subst hl
  have hlen := Shape.all_len hall
  rw [hs] at hlen
  have hfl : css.flatten.length = xs.length := by rw [flat_len hlen, hall.1, Nat.mul_one]
  refine ⟨⟨css.flatten[j]'(by omega), ?_⟩, hrow.frozenAt j, css.set j [v], ?_, ?_⟩
  · rw [hrow.cellAt j (by rw [hs, Nat.mul_one]; exact hj)]; exact List.getElem?_eq_getElem (by omega)
  · rw [flat_set1 hlen, List.length_set]; exact (hrow.stored j v).1
  · have k1 := Shape.all_set (j := j) hall (A.mono hx fun b hb _ => show some b ≠ Value.ownBlock (.slice (some ⟨g, 0, none⟩) xs.length c) from fun e => hF b hb (by injection e))
    exact Shape.all_keep k1 fun b hb _ => Below.heap_setCell w _ v b (fun e => hb (by rw [e]; rfl))

/-- A row of numbers that the call owns, among its own blocks. -/
theorem rep_high {k : IntKind} {w : World} {base : Nat} {e : TypeId} {a : Option Addr} {n c : Nat} {l : List Int} (h : w.ownsRow base e 1 (.slice a n c) n (l.map (Value.int k))) : (sliceS (intS k)).rep w (base ≤ ·) [.slice a n c] l := by
  obtain ⟨a', c', he, hr⟩ := rep_of_row h
  cases he
  obtain ⟨hl, hc, hm⟩ := sliceS_len hr
  refine (Row.of_rep hr).rep hc hm (fun b off hb => ?_)
  subst hb
  exact (h.lt b rfl).1

/-! ### Numbers that are appended -/
/-- A row of numbers stays where another one grows. -/
theorem Own.other {k : IntKind} {w w' : World} {base : Nat} {e : TypeId} {v : Value} {xs : List Int} {u : Option Nat} (h : Own (intS k) w base e v xs) (hg : w.grownBy w' u) (hne : ∀ b, v.ownBlock = some b → u ≠ some b) : Own (intS k) w' base e v xs := by
  obtain ⟨css, h1, h2⟩ := h
  refine ⟨css, h1.kept hg ?_, h2.1, fun j c x hc hx => h2.2 j c x hc hx⟩
  cases hv : v.ownBlock with
  | none => exact .inl rfl
  | some b => exact .inr (fun c => hne b hv c.symm)
/-- The number that 'append(v, x)' appends: in a block of its own. -/
theorem Own.src {k : IntKind} {w : World} {base : Nat} {e : TypeId} {v : Value} {xs : List Int} (x : Int) (h : Own (intS k) w base e v xs) :
    (sliceS (intS k)).rep (w.alloc (.cells #[.int k x] e)) (fun b => False ∨ b = w.heap.size) [.slice (some ⟨w.heap.size, 0, none⟩) 1 1] [x] ∧ ∀ b, (False ∨ b = w.heap.size) → some b ≠ v.ownBlock := by
  refine ⟨rep_at (cs := [.int k x]) (F := fun _ => False) rfl (heap_new _ _ _ rfl), fun b hb h' => ?_⟩
  have := (h.lt b h'.symm).2
  rcases hb with hf | rfl
  · exact hf
  · omega
/-! 'append(append([]int{}, l...), x)' in a region that draws its order: the empty one is laid, l appended, x laid (1); the empty one, x, l appended (2); x, the empty one, l appended (3). -/
namespace Lay
variable {k : IntKind} {e : TypeId}
theorem b1 (w : World) (e : TypeId) : Below w.heap.size w (w.alloc (.cells #[] e)).drew := (new_bel _ _).drew
theorem b2 (w : World) (e : TypeId) (v : Value) : Below w.heap.size w ((w.alloc (.cells #[] e)).alloc (.cells #[v] e)).drew := (bel_alloc (new_bel _ _) _).drew
theorem b3 (w : World) (e : TypeId) (v : Value) : Below w.heap.size w ((w.alloc (.cells #[v] e)).alloc (.cells #[] e)).drew := (bel_alloc (new_bel _ _) _).drew
theorem own1 {α : Type} (A : Shape α) (w : World) (e : TypeId) : Own A (w.alloc (.cells #[] e)).drew w.heap.size e (.slice (some ⟨w.heap.size, 0, none⟩) 0 0) [] :=
  Own.of_empty _ (heap_new w (.cells #[] e) _ rfl) (Nat.le_refl _)
theorem own2 {α : Type} (A : Shape α) (w : World) (e : TypeId) (v : Value) : Own A ((w.alloc (.cells #[] e)).alloc (.cells #[v] e)).drew w.heap.size e (.slice (some ⟨w.heap.size, 0, none⟩) 0 0) [] :=
  Own.of_empty _ (heap_old (w.alloc (.cells #[] e)) _ _ _ (by simp) (heap_new w (.cells #[] e) _ rfl)) (Nat.le_refl _)
theorem own3 {α : Type} (A : Shape α) (w : World) (e : TypeId) (v : Value) : Own A ((w.alloc (.cells #[v] e)).alloc (.cells #[] e)).drew w.heap.size e (.slice (some ⟨w.heap.size + 1, 0, none⟩) 0 0) [] :=
  Own.of_empty _ (heap_new (w.alloc (.cells #[v] e)) (.cells #[] e) _ (by simp)) (Nat.le_succ _)
theorem src_old {W u : World} {x : Int} {g h : Nat} {v' : Value} (hL : W.heap[g]? = some (.cells #[.int k x] e (0, 0)))
    (hg : W.grownBy u (some h)) (hgh : g ≠ h) (hat : v'.ownBlock = some h ∨ v'.ownBlock = some W.heap.size) :
    (sliceS (intS k)).rep u (fun b => False ∨ b = g) [.slice (some ⟨g, 0, none⟩) 1 1] [x] ∧ ∀ b, (False ∨ b = g) → some b ≠ v'.ownBlock := by
  have hgl : g < W.heap.size := (Array.getElem?_eq_some_iff.1 hL).1
  refine ⟨rep_at (cs := [.int k x]) (F := fun _ => False) rfl ((hg.block g hgl (fun e => hgh (Option.some.inj e))).trans hL), fun b hb hv => ?_⟩
  rcases hb with hf | rfl
  · exact hf
  · rcases hat with e | e
    · rw [e] at hv; exact hgh (Option.some.inj hv)
    · rw [e] at hv; have := Option.some.inj hv; omega
theorem src2 {w u : World} {x : Int} {v' : Value} (hg : ((w.alloc (.cells #[] e)).alloc (.cells #[.int k x] e)).drew.grownBy u (Value.ownBlock (.slice (some ⟨w.heap.size, 0, none⟩) 0 0)))
    (hat : v'.ownBlock = Value.ownBlock (.slice (some ⟨w.heap.size, 0, none⟩) 0 0) ∨ v'.ownBlock = some ((w.alloc (.cells #[] e)).alloc (.cells #[.int k x] e)).drew.heap.size) :
    (sliceS (intS k)).rep u (fun b => False ∨ b = w.heap.size + 1) [.slice (some ⟨w.heap.size + 1, 0, none⟩) 1 1] [x] ∧ ∀ b, (False ∨ b = w.heap.size + 1) → some b ≠ v'.ownBlock :=
  src_old (W := ((w.alloc (.cells #[] e)).alloc (.cells #[.int k x] e)).drew) (h := w.heap.size) (heap_new (w.alloc (.cells #[] e)) (.cells #[.int k x] e) _ (by simp)) hg (by omega) hat
theorem src3 {w u : World} {x : Int} {v' : Value} (hg : ((w.alloc (.cells #[.int k x] e)).alloc (.cells #[] e)).drew.grownBy u (Value.ownBlock (.slice (some ⟨w.heap.size + 1, 0, none⟩) 0 0)))
    (hat : v'.ownBlock = Value.ownBlock (.slice (some ⟨w.heap.size + 1, 0, none⟩) 0 0) ∨ v'.ownBlock = some ((w.alloc (.cells #[.int k x] e)).alloc (.cells #[] e)).drew.heap.size) :
    (sliceS (intS k)).rep u (fun b => False ∨ b = w.heap.size) [.slice (some ⟨w.heap.size, 0, none⟩) 1 1] [x] ∧ ∀ b, (False ∨ b = w.heap.size) → some b ≠ v'.ownBlock :=
  src_old (W := ((w.alloc (.cells #[.int k x] e)).alloc (.cells #[] e)).drew) (h := w.heap.size + 1) (heap_old (w.alloc (.cells #[.int k x] e)) _ (.cells #[] e) _ (by simp) (heap_new w (.cells #[.int k x] e) _ rfl)) hg (by omega) hat
end Lay

end Go.Proofs.Ytpfhjdlmjehfnaa
