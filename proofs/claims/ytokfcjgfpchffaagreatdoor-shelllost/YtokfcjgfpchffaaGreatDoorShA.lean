/- The library's contracts as a script meets them; a strings.Builder beside a fleet. -/
import Derived.Test.YtokfcjgfpchffaaGreatDoorShL
import Derived.Test.YtokfcjgfpchffaaGreatDoorKx
import Derived.Test.YtokfcjgfpchffaaGreatDoorSl
import Derived.Test.YtokfcjgfpchffaaGreatDoorKf
import Derived.Lib.SmallJoins
namespace Go.Proofs.YtokfcjgfpchffaaGreatDoor
open Go.ChangeShapes Go.WideShapes Go.ChangeAt Go.RowKit

/-! ### What start-up lays -/
/-- The powers of ten, and some number where package bytealg keeps its bound. -/
structure Env (w : World) : Prop where
  tab : Lib.TabIs Tryz.prog w "internal/strconv.uint64pow10" .u64 Lib.pow10Tab
  max : ∃ m, w.cell? ⟨Tryz.lays145_ren.g 1, 0, none⟩ = some (.int .i64 m)
theorem tab_named : (Tryz.prog.globalNamed "internal/strconv.uint64pow10").isSome = true := by kernel_rfl
theorem Env.keep {w u : World} (h : Env w) (hb : Below w.heap.size w u) : Env u := by
  obtain ⟨g, hg⟩ := Option.isSome_iff_exists.1 tab_named
  obtain ⟨m, hm⟩ := h.max
  exact ⟨Joins.tab_stays hg h.tab hb (Nat.le_refl _), m, (hb.cell (World.block_lt_of_cell? w _ hm)).trans hm⟩

/-! ### Cut, SplitN, Itoa -/
theorem bel_draws (w : World) (n : Nat) : Below w.heap.size w (w.drewN n) := Joins.below_draws _ w n
theorem bel_grow (w : World) (os : Array Obj) : Below w.heap.size w (Go.Sort.grow w os) := ⟨rfl, rfl, rfl, by simp, fun b hb => by
  show (w.heap ++ os)[b]? = _
  rw [Array.getElem?_append_left hb]⟩
theorem scut (s : ByteArray) (hs : s.size ≤ 1000000) (w : World) (hE : Env w) :
    Calls Tryz.prog 30 #[.string s, .string ⟨#[10]⟩] w fun e w' => e = .returned (.tuple #[.string ⟨(Lib.cut s.data.toList [10]).1.toArray⟩, .string ⟨(Lib.cut s.data.toList [10]).2.1.toArray⟩, .bool (Lib.cut s.data.toList [10]).2.2]) ∧ Below w.heap.size w w' := by
  obtain ⟨m, hm⟩ := hE.max
  refine (Any.strings_Cut Tryz.lays145 s ⟨#[10]⟩ m w (by omega) hm).mono ?_
  rintro e w' ⟨he, n, rfl⟩
  exact ⟨he, bel_draws w n⟩
theorem sitoa (n : Nat) (hn : n ≤ 1000000000000) (w : World) (hE : Env w) :
    Calls Tryz.prog 68 #[.int .i64 (n : Int)] w fun e w' => e = .returned (.string ⟨(Sh.dig n).toArray⟩) ∧ Below w.heap.size w w' := by
  refine (Any.strconv_Itoa Tryz.laysM171 (n : Int) (by omega) (by omega) w hE.tab).mono ?_
  rintro e w' ⟨rfl, k, os, rfl⟩
  refine ⟨by rw [Sc.itoa_is], bel_then (bel_draws w k) (bel_grow _ os)⟩
/-- Texts that lie in a new block. -/
theorem texts_new (w : World) (l : List ByteArray) (n : Nat) (hl : l.length ≤ n) (hn : n ≤ maxLen) : bagS.rep (w.alloc (.cells (Lib.cellsOf l n) 9)) (w.heap.size ≤ ·) [.slice (some ⟨w.heap.size, 0, none⟩) l.length n] l := by
  refine ⟨_, n, l.map fun x => [.string x], rfl, hl, hn, ⟨by rw [List.length_map], fun j d x hd hx => ?_⟩, .inr ⟨w.heap.size, 0, rfl, Nat.le_refl _, by simp, fun i u hu => ?_⟩⟩
  · rw [List.getElem?_map, hx] at hd
    exact (Option.some.inj hd).symm
  · have hf : (l.map fun x => [Value.string x]).flatten = l.map Value.string := by
      clear hl hu
      induction l with
      | nil => rfl
      | cons x r ih => rw [List.map_cons, List.flatten_cons, ih]; rfl
    rw [hf] at hu
    have hi := (List.getElem?_eq_some_iff.1 hu).1
    rw [Nat.zero_add, Joins.cell_of_block (heap_alloc_new w _) i]
    unfold Lib.cellsOf
    rw [List.getElem?_toArray, List.getElem?_append_left hi]
    exact hu
theorem ssplit (s : ByteArray) (hs : s.size ≤ 1000000) (w : World) (hE : Env w) (k : Nat) (hk : (Sc.words s.data.toList).length = k) :
    Calls Tryz.prog 62 #[.string s, .string ⟨#[32]⟩, .int .i64 3] w fun e w' => Below w.heap.size w w' ∧ ∃ a c, e = .returned (.slice a k c) ∧ bagS.rep w' (w.heap.size ≤ ·) [.slice a k c] (Sh.texts (Sc.words s.data.toList)) := by
  obtain ⟨m, hm⟩ := hE.max
  refine (Any.strings_SplitN Tryz.lays147 (by kernel_rfl) s ⟨#[32]⟩ 3 m w (by omega) hm (by decide) (by decide) (by decide)).mono ?_
  rintro e w' ⟨rfl, rfl⟩
  have hd := Lib.splitB_data ⟨#[32]⟩ 0 (min 3 (s.size + 1) - 1) s
  have hw : Sc.words s.data.toList = (Lib.splitB ⟨#[32]⟩ 0 (min 3 (s.size + 1) - 1) s).map (·.data.toList) := by
    rw [hd, show s.size = s.data.toList.length from (list_size s).symm]
    rfl
  have ht : Sh.texts (Sc.words s.data.toList) = Lib.splitB ⟨#[32]⟩ 0 (min 3 (s.size + 1) - 1) s := by
    rw [hw]
    unfold Sh.texts
    rw [List.map_map]
    exact (List.map_congr_left (fun x _ => text_of x)).trans (List.map_id _)
  have hlen : (Lib.splitB ⟨#[32]⟩ 0 (min 3 (s.size + 1) - 1) s).length = k := by rw [← hk, hw, List.length_map]
  have hle := Lib.splitB_length_le ⟨#[32]⟩ 0 (min 3 (s.size + 1) - 1) s
  have hr := texts_new w (Lib.splitB ⟨#[32]⟩ 0 (min 3 (s.size + 1) - 1) s) (min 3 (s.size + 1)) (by omega) (by unfold maxLen; omega)
  rw [ht]
  rw [hlen] at hr ⊢
  exact ⟨new_bel w _, _, _, rfl, hr⟩

/-! ### A Builder -/
/-- A builder at b that holds the bytes l; it, and its buffer, are among O. -/
def BldP (O : Nat → Prop) (B b : Nat) (p : Value) (l : List UInt8) (w : World) : Prop :=
  O b ∧ B ≤ b ∧ ∃ v, w.heap[b]? = some (.cells #[p, v] 62 (0, 0)) ∧ w.ownsRow B 5 1 v l.length (Lib.byteCells l) ∧ v.ownBlock ≠ some b ∧ ∀ g, v.ownBlock = some g → O g
def Bld (O : Nat → Prop) (B b : Nat) (l : List UInt8) (w : World) : Prop := BldP O B b (.pointer none) l w ∨ BldP O B b (.pointer (some ⟨b, 0, none⟩)) l w
section
variable {O V V' : Nat → Prop} {B b : Nat} {p : Value} {l : List UInt8} {w w' : World}
theorem BldP.at (h : BldP O B b p l w) : Lib.BuilderAt 62 5 B b p (Lib.byteCells l) w := by
  obtain ⟨_, h1, v, h2, h3, h4, _⟩ := h
  exact ⟨h1, v, h2, by rw [Lib.byteCells_length]; exact h3, h4⟩
theorem Bld.is (h : Bld O B b l w) : Lib.IsBuilder 62 5 B b (Lib.byteCells l) w := h.elim (fun h => .inl h.at) (fun h => .inr h.at)
/-- Whatever writes nothing of O leaves it. -/
theorem BldP.move (h : BldP O B b p l w) (hm : Mv V V' w w') (hd : ∀ x, O x → ¬ V x) : BldP O B b p l w' := by
  have hlt := h.at.lt
  obtain ⟨h0, h1, v, h2, h3, h4, h5⟩ := h
  refine ⟨h0, h1, v, (hm.block b hlt (hd b h0)).trans h2, ⟨h3.1, ?_⟩, h4, h5⟩
  rcases h3.2 with k | ⟨g, cap, cur, he, hb, hg, rest⟩
  · exact .inl k
  · refine .inr ⟨g, cap, cur, he, hb, ?_, rest⟩
    have hgl : g < w.heap.size := (Array.getElem?_eq_some_iff.1 hg).1
    rw [hm.block g hgl (hd g (h5 g (by rw [he]; rfl)))]
    exact hg
theorem Bld.move (h : Bld O B b l w) (hm : Mv V V' w w') (hd : ∀ x, O x → ¬ V x) : Bld O B b l w' := h.elim (fun h => .inl (h.move hm hd)) (fun h => .inr (h.move hm hd))
theorem Bld.keep (h : Bld O B b l w) (hb : Below w.heap.size w w') : Bld O B b l w' := h.move (V := fun _ => False) (.of_bel hb) (fun _ _ hf => hf)
theorem Bld.new (w : World) (hB : B ≤ w.heap.size) : Bld (fun x => x = w.heap.size) B w.heap.size [] (w.alloc (.cells #[.pointer none, .slice none 0 0] 62)) :=
  .inl ⟨rfl, hB, _, heap_alloc_new w _, World.ownsRow_nil _ _ _ _, by simp [Value.ownBlock], fun g hg => by simp [Value.ownBlock] at hg⟩
theorem bcheck (h : Bld O B b l w) : Calls Tryz.prog 67 #[.pointer (some ⟨b, 0, none⟩)] w fun e w' => e = .returned (.tuple #[]) ∧ Mv O O w w' ∧ BldP O B b (.pointer (some ⟨b, 0, none⟩)) l w' := by
  rcases h with h | h
  · have k := h.at
    refine (Any.Builder_copyCheck_fresh Tryz.laysB Tryz.extraB.toX72 b w k.cell0 k.shape k.frozen0).mono ?_
    rintro e w' ⟨rfl, rfl⟩
    obtain ⟨h0, h1, v, h2, h3, h4, h5⟩ := h
    refine ⟨rfl, (Mv.refl O w).set h0 _, h0, h1, v, ?_, ?_, h4, h5⟩
    · simp [World.setCell, Array.getElem?_modify, h2]
    · exact h3.kept (row := some b) ⟨rfl, rfl, rfl, by simp [World.setCell], fun k _ hk => Below.heap_setCell _ _ _ _ (fun e => hk (by simp [e]))⟩ (Or.inr h4)
  · refine (Any.Builder_copyCheck_used Tryz.laysB Tryz.extraB.toX72 b w h.at.cell0).mono ?_
    rintro e w' ⟨rfl, rfl⟩
    exact ⟨rfl, Mv.refl O _, h⟩
theorem Mv.grown {row : Option Nat} (hg : w.grownBy w' row) (ho : ∀ x, row = some x → O x) {r : Option Nat} (hr : ∀ g, r = some g → O g ∨ w.heap.size ≤ g) : Mv O (fun x => O x ∨ r = some x) w w' :=
  ⟨hg.os, hg.tape, hg.output, hg.size, fun x hx hn => hg.block x hx (fun e => hn (ho x e.symm)), fun _ h => .inl h, fun x h => h.elim .inl (fun h => hr x h)⟩
/-- A new buffer laid into the builder. -/
theorem BldP.put {v v' : Value} {l' : List UInt8} {w2 : World} (h0 : O b) (h1 : B ≤ b) (hb2 : w2.heap[b]? = some (.cells #[p, v] 62 (0, 0))) (hown : w2.ownsRow B 5 1 v' l'.length (Lib.byteCells l')) (ho : ∀ g, v'.ownBlock = some g → O g) : BldP O B b p l' (w2.setCell ⟨b, 1, none⟩ v') := by
  have hne := Lib.ownBlock_ne hown hb2 Tryz.extraB.neB5
  refine ⟨h0, h1, v', ?_, ?_, hne, ho⟩
  · simp [World.setCell, Array.getElem?_modify, hb2]
  · exact hown.kept (row := some b) ⟨rfl, rfl, rfl, by simp [World.setCell], fun k _ hk => Below.heap_setCell _ _ _ _ (fun e => hk (by simp [e]))⟩ (Or.inr hne)
end
theorem byteCells_app (l m : List UInt8) : Lib.byteCells l ++ Lib.byteCells m = Lib.byteCells (l ++ m) := by unfold Lib.byteCells; rw [List.map_append]
theorem strCells_is (s : ByteArray) : Lib.strCells s = Lib.byteCells s.data.toList := rfl

/-! ### What is written -/
/-- Where 'append(b, s...)' leaves its answer. -/
theorem string_where {P : Program} {w w' : World} {base : Nat} {t u ty e : TypeId} {i : TypeInfo} (ht : P.underlying t = some (.slice e)) (hu : P.underlying u = some .string) (hi : P.info? e = some i) (hz : i.zero = some (.int .u8 0)) (hsize : i.size = 1) (hby : i.bytes = 1)
    {v v' : Value} {n : Nat} {xs : List Value} (hown : w.ownsRow base e 1 v n xs) (s : ByteArray) (hb : n + s.size ≤ 140737488355328) (hr : (Builtin.append_ #[t, u] ty #[v, .string s]).run P w = .ok v' w') : v'.ownBlock = v.ownBlock ∨ v'.ownBlock = some w.heap.size := by
  have hxl : xs.length = n := by simpa using hown.1
  rcases hown.2 with ⟨rfl, rfl⟩ | ⟨g, cap, cur, rfl, hbg, hg, hnc, hcm, hcs, htake⟩
  · by_cases hm : s.size = 0
    · have hn : Lib.strCells s = [] := List.eq_nil_of_length_eq_zero (by rw [Lib.strCells_length]; exact hm)
      have hf := Lib.run_firstCells_string (P := P) w 1 s
      rw [hm] at hf
      have h0 : (Builtin.append_ #[t, u] ty #[.slice none 0 0, .string s]).run P w = .ok (.slice none 0 0) w := by
        simp [Builtin.append_, run_underlying ht, run_underlying hu, sizeOf, typeInfo, hi, hsize, Builtin.lenOf, hm, hf]
      rw [h0] at hr
      simp only [Result.ok.injEq] at hr
      rw [← hr.1]
      exact .inl rfl
    · have h0 := run_append_nil_string (P := P) w t u ty e i (.int .u8 0) ht hu hi hz s (by omega) (by omega) (by rw [hby]; omega)
      rw [h0] at hr
      simp only [Result.ok.injEq] at hr
      rw [← hr.1]
      exact .inr rfl
  · by_cases hroom : n + s.size ≤ cap
    · have hcs' : cur.size = cap := by simpa using hcs
      have h0 := Lib.run_append_room_string (P := P) w t u ty e i ht hu hi hsize g n cap cur hg s hroom (by omega)
      rw [h0] at hr
      simp only [Result.ok.injEq] at hr
      rw [← hr.1]
      exact .inl rfl
    · have holds : ∀ j u, xs[j]? = some u → w.cell? ((⟨g, 0, none⟩ : Addr).add j) = some u := hown.cells (g := g) rfl
      have h0 := Lib.run_append_grow_string (P := P) w t u ty e i (.int .u8 0) ht hu hi hz ⟨g, 0, none⟩ n cap xs (by rw [hsize]; simpa using hxl) holds s (by omega) (by omega) (by rw [hby]; exact growslice_fits (by omega) (by omega))
      rw [h0] at hr
      simp only [Result.ok.injEq] at hr
      rw [← hr.1]
      exact .inr rfl
theorem wpList_str_at {P : Program} {w : World} {ops : Array Oper} {rest : List Oper} {o : Oper} {a : Act} {Q : Exit → Act → World → Prop} (hgd : o.guard = none) (sl x : Operand) (t u : TypeId)
    (ho : o.op = .call { callee := .builtin .append, args := #[sl, x], argTypes := #[t, u] })
    (base : Nat) (e : TypeId) (i : TypeInfo) (ht : P.underlying t = some (.slice e)) (hu : P.underlying u = some .string) (hi : P.info? e = some i) (hz : i.zero = some (.int .u8 0)) (hsize : i.size = 1) (hby : i.bytes = 1)
    (v : Value) (n : Nat) (xs : List Value) (hs : a.eval sl = v) (hown : w.ownsRow base e 1 v n xs) (s : ByteArray) (hx : a.eval x = .string s)
    (hbytes : n + s.size ≤ 140737488355328) (hbase : base ≤ w.heap.size)
    (h : ∀ A N C w', w'.ownsRow base e 1 (.slice A N C) (n + s.size) (xs ++ Lib.strCells s) → w.grownBy w' v.ownBlock → (Value.ownBlock (.slice A N C) = v.ownBlock ∨ Value.ownBlock (.slice A N C) = some w.heap.size) → wpList P ops Q rest (a.put o.dst (.slice A N C)) w') : wpList P ops Q (o :: rest) a w := by
  refine wpList_plain hgd fun K hK => ?_
  obtain ⟨v', w', hr, h2, h3, _⟩ := Lib.run_append_own_string (P := P) w base t u o.type e i ht hu hi hz hsize hby v n xs hown s (by unfold maxLen; omega) hbytes hbase
  have h5 := string_where ht hu hi hz hsize hby hown s hbytes hr
  obtain ⟨A, N, C, rfl⟩ : ∃ A N C, v' = .slice A N C := by
    rcases h2.2 with ⟨hv, _⟩ | ⟨g, cap, cur, hv, _⟩
    · exact ⟨_, _, _, hv⟩
    · exact ⟨_, _, _, hv⟩
  unfold Oper.wp execOp
  simp only [ho, resolve, invoke, builtin, Sem.run_bind, Sem.run_pure, Result.andThen_ok, List.map_toArray, List.map_cons, List.map_nil, hs, hx, hr]
  exact hK _ _ (h A N C w' h2 h3 h5)
theorem wpList_one_at {P : Program} {w : World} {ops : Array Oper} {rest : List Oper} {o : Oper} {a : Act} {Q : Exit → Act → World → Prop} (hgd : o.guard = none) (sl x : Operand) (t : TypeId)
    (ho : o.op = .call { callee := .builtin .append, args := #[sl, x], argTypes := #[t, t] })
    (base : Nat) (e : TypeId) (i : TypeInfo) (ht : P.underlying t = some (.slice e)) (hi : P.info? e = some i) (hz : i.zero = some (.int .u8 0)) (hsize : i.size = 1) (hby : i.bytes = 1)
    (v : Value) (n : Nat) (xs : List Value) (hs : a.eval sl = v) (hown : w.ownsRow base e 1 v n xs) (g c : Nat) (k : Int) (hx : a.eval x = .slice (some ⟨g, 0, none⟩) 1 c) (hk : w.cell? ⟨g, 0, none⟩ = some (.int .u8 k))
    (hbytes : n + 1 ≤ 140737488355328) (hbase : base ≤ w.heap.size)
    (h : ∀ A N C w', w'.ownsRow base e 1 (.slice A N C) (n + 1) (xs ++ [.int .u8 k]) → w.grownBy w' v.ownBlock → (Value.ownBlock (.slice A N C) = v.ownBlock ∨ Value.ownBlock (.slice A N C) = some w.heap.size) → wpList P ops Q rest (a.put o.dst (.slice A N C)) w') : wpList P ops Q (o :: rest) a w := by
  refine wpList_plain hgd fun K hK => ?_
  obtain ⟨v', w', hr, h2, h3, _, h5⟩ := run_append_own_at (P := P) w base t o.type e i (.int .u8 0) 1 1 ht hi hz hsize hby rfl (by decide) v n xs hown ⟨g, 0, none⟩ 1 c [.int .u8 k] rfl (fun j u hj => by
    match j, hj with
    | 0, hj => simp at hj; subst hj; rw [Addr.add_lit]; exact hk) (fun u hu => by simp at hu; subst hu; rfl) (by unfold maxLen; omega) (by omega) hbase
  obtain ⟨A, N, C, rfl⟩ : ∃ A N C, v' = .slice A N C := by
    rcases h2.2 with ⟨hv, _⟩ | ⟨g, cap, cur, hv, _⟩
    · exact ⟨_, _, _, hv⟩
    · exact ⟨_, _, _, hv⟩
  unfold Oper.wp execOp
  simp only [ho, resolve, invoke, builtin, Sem.run_bind, Sem.run_pure, Result.andThen_ok, List.map_toArray, List.map_cons, List.map_nil, hs, hx, hr]
  exact hK _ _ (h A N C w' h2 h3 h5)
section
variable {O V V' : Nat → Prop} {B b : Nat} {p : Value} {l : List UInt8} {w w' : World}
set_option maxRecDepth 100000 in
set_option maxHeartbeats 2000000 in
theorem bwrites (h : Bld O B b l w) (s : ByteArray) (hlen : l.length + s.size ≤ 140737488355328) (hB : B ≤ w.heap.size) (hlo : ∀ x, O x → x < w.heap.size) :
    Calls Tryz.prog 32 #[.pointer (some ⟨b, 0, none⟩), .string s] w fun e w' => e = .returned (.tuple #[.int .i64 (s.size : Nat), .nilIface]) ∧ ∃ O', Mv O O' w w' ∧ Bld O' B b (l ++ s.data.toList) w' ∧ ∀ x, O' x → x < w'.heap.size := by
  have HC := hid (bcheck h)
  have HLO := hid hlo
  clear hlo
  obtain ⟨i0, hi, hz0, hz1, hz2⟩ := info_parts Tryz.extraB.infoByte
  have HCC : Hid (Calls _ _ _ _ _) := HC.out
  go_enter Tryz.func32, Tryz.ntmps32
  go_wp2_with fail
  refine HCC.out.mono ?_
  rintro e w1 ⟨rfl, hm, h0, h1, v, h2, h3, h4, h5⟩
  have c0 : w1.cell? ⟨b, 0, none⟩ = some (.pointer (some ⟨b, 0, none⟩)) := by rw [Lib.cell_of_heap h2]; rfl
  have c1 : w1.cell? ⟨b, 1, none⟩ = some v := by rw [Lib.cell_of_heap h2]; rfl
  have hsz : B ≤ w1.heap.size := Nat.le_trans hB hm.size
  have hlt : b < w1.heap.size := (Array.getElem?_eq_some_iff.1 h2).1
  have HM := hid (And.intro hm (And.intro h0 (And.intro h1 (And.intro h2 (And.intro h3 (And.intro h4 h5))))))
  have hbytes : l.length + s.size ≤ 140737488355328 := hlen
  clear hm h0 h1 h2 h4 h5 HC HCC
  go_wp2_with (at_builtin; refine wpList_str_at rfl _ _ 43 9 rfl B 5 i0 Tryz.underlying43 Tryz.underlying9 hi hz0 hz1 hz2 _ _ _ rfl h3 s rfl hbytes hsz ?_)
  intro A N C w2 hown' hgrow hwhere
  have hb2 : w2.heap[b]? = some (.cells #[.pointer (some ⟨b, 0, none⟩), v] 62 (0, 0)) := by
    rw [hgrow.block b hlt (fun e => HM.out.2.2.2.2.2.1 e.symm)]
    exact HM.out.2.2.2.1
  have d0 : w2.cell? ⟨b, 0, none⟩ = some (.pointer (some ⟨b, 0, none⟩)) := by rw [Lib.cell_of_heap hb2]; rfl
  have d1 : w2.cell? ⟨b, 1, none⟩ = some v := by rw [Lib.cell_of_heap hb2]; rfl
  have f1 : w2.frozen? ⟨b, 1, none⟩ = false := Lib.frozen_of_heap hb2 1
  have hO : ∀ g, Value.ownBlock (.slice A N C) = some g → O g ∨ w1.heap.size ≤ g := fun g hg => by
    rcases hwhere with k | k
    · exact .inl (HM.out.2.2.2.2.2.2 g (k.symm.trans hg))
    · rw [k] at hg
      exact .inr (by rw [← Option.some.inj hg]; exact Nat.le_refl _)
  have hMv := HM.out.1.trans (Mv.grown hgrow HM.out.2.2.2.2.2.2 hO)
  have hcat : Lib.byteCells l ++ Lib.strCells s = Lib.byteCells (l ++ s.data.toList) := byteCells_app l s.data.toList
  have hll : l.length + s.size = (l ++ s.data.toList).length := by rw [List.length_append, list_size]
  rw [hcat, hll] at hown'
  have hlo2 : ∀ x, (O x ∨ Value.ownBlock (.slice A N C) = some x) → x < w2.heap.size := fun x hx => hx.elim (fun h9 => Nat.lt_of_lt_of_le (HLO.out x h9) hMv.size) (fun h9 => (hown'.lt x h9).2)
  have HL2 := hid hlo2
  clear hlo2
  have HF := hid (And.intro hMv (And.intro hown' hb2))
  clear hMv hown' hb2 hgrow hwhere hO hcat hll c0 c1 h3
  go_wp2
  go_ret2
  refine ⟨rfl, _, HF.out.1.set (.inl HM.out.2.1) _, .inr (BldP.put (.inl HM.out.2.1) HM.out.2.2.1 HF.out.2.2 HF.out.2.1 fun g hg => .inr hg), fun x hx => by have h9 := HL2.out x hx; simpa [World.setCell] using h9⟩
set_option maxRecDepth 100000 in
set_option maxHeartbeats 2000000 in
theorem bwriteb (h : Bld O B b l w) (x : UInt8) (hlen : l.length + 1 ≤ 140737488355328) (hB : B ≤ w.heap.size) (hlo : ∀ x, O x → x < w.heap.size) :
    Calls Tryz.prog 34 #[.pointer (some ⟨b, 0, none⟩), .int .u8 (x.toNat : Nat)] w fun e w' => e = .returned .nilIface ∧ ∃ O', Mv O O' w w' ∧ Bld O' B b (l ++ [x]) w' ∧ ∀ x, O' x → x < w'.heap.size := by
  have HC := hid (bcheck h)
  have HLO := hid hlo
  clear hlo
  obtain ⟨i0, hi, hz0, hz1, hz2⟩ := info_parts Tryz.extraB.infoByte
  have HCC : Hid (Calls _ _ _ _ _) := HC.out
  go_enter Tryz.func34, Tryz.ntmps34
  go_wp2_with fail
  refine HCC.out.mono ?_
  rintro e w1 ⟨rfl, hm, h0, h1, v, h2, h3, h4, h5⟩
  have c0 : w1.cell? ⟨b, 0, none⟩ = some (.pointer (some ⟨b, 0, none⟩)) := by rw [Lib.cell_of_heap h2]; rfl
  have c1 : w1.cell? ⟨b, 1, none⟩ = some v := by rw [Lib.cell_of_heap h2]; rfl
  have hsz : B ≤ (w1.alloc (.cells #[.int .u8 (x.toNat : Nat)] 5)).heap.size := by have := hm.size; simp; omega
  have hlt : b < w1.heap.size := (Array.getElem?_eq_some_iff.1 h2).1
  have hnew := Joins.cell_of_block (heap_alloc_new w1 (.cells #[.int .u8 (x.toNat : Nat)] 5)) 0
  have h3a := h3.alloc (.cells #[.int .u8 (x.toNat : Nat)] 5)
  have HM := hid (And.intro hm (And.intro h0 (And.intro h1 (And.intro h2 (And.intro h4 h5)))))
  have hbytes : l.length + 1 ≤ 140737488355328 := hlen
  clear hm h0 h1 h2 h4 h5 HC HCC h3
  go_wp2_with (at_builtin; refine wpList_one_at rfl _ _ 43 rfl B 5 i0 Tryz.underlying43 hi hz0 hz1 hz2 _ _ _ rfl h3a _ _ _ rfl hnew hbytes hsz ?_)
  intro A N C w2 hown' hgrow hwhere
  have hb2 : w2.heap[b]? = some (.cells #[.pointer (some ⟨b, 0, none⟩), v] 62 (0, 0)) := by
    rw [hgrow.block b (by simp; omega) (fun e => HM.out.2.2.2.2.1 e.symm), Lib.alloc_old w1 _ b hlt]
    exact HM.out.2.2.2.1
  have d0 : w2.cell? ⟨b, 0, none⟩ = some (.pointer (some ⟨b, 0, none⟩)) := by rw [Lib.cell_of_heap hb2]; rfl
  have d1 : w2.cell? ⟨b, 1, none⟩ = some v := by rw [Lib.cell_of_heap hb2]; rfl
  have f1 : w2.frozen? ⟨b, 1, none⟩ = false := Lib.frozen_of_heap hb2 1
  have hO : ∀ g, Value.ownBlock (.slice A N C) = some g → O g ∨ (w1.alloc (.cells #[.int .u8 (x.toNat : Nat)] 5)).heap.size ≤ g := fun g hg => by
    rcases hwhere with k | k
    · exact .inl (HM.out.2.2.2.2.2 g (k.symm.trans hg))
    · rw [k] at hg
      exact .inr (by have h9 := Option.some.inj hg; simp at h9 ⊢; omega)
  have hMv := (HM.out.1.bel (new_bel w1 (.cells #[.int .u8 (x.toNat : Nat)] 5))).trans (Mv.grown hgrow HM.out.2.2.2.2.2 hO)
  have hcat : Lib.byteCells l ++ [.int .u8 (x.toNat : Nat)] = Lib.byteCells (l ++ [x]) := byteCells_app l [x]
  have hll : l.length + 1 = (l ++ [x]).length := by rw [List.length_append]; rfl
  rw [hcat, hll] at hown'
  have hlo2 : ∀ x, (O x ∨ Value.ownBlock (.slice A N C) = some x) → x < w2.heap.size := fun x hx => hx.elim (fun h9 => Nat.lt_of_lt_of_le (HLO.out x h9) hMv.size) (fun h9 => (hown'.lt x h9).2)
  have HL2 := hid hlo2
  clear hlo2
  have HF := hid (And.intro hMv (And.intro hown' hb2))
  clear hMv hown' hb2 hgrow hwhere hO hcat hll c0 c1 h3a hnew
  go_wp2
  go_ret
  refine ⟨rfl, _, HF.out.1.set (.inl HM.out.2.1) _, .inr (BldP.put (.inl HM.out.2.1) HM.out.2.2.1 HF.out.2.2 HF.out.2.1 fun g hg => .inr hg), fun x hx => by have h9 := HL2.out x hx; simpa [World.setCell] using h9⟩
theorem bstring (h : Bld O B b l w) (hB : B ≤ w.heap.size) :
    Calls Tryz.prog 35 #[.pointer (some ⟨b, 0, none⟩)] w fun e w' => e = .returned (.string ⟨l.toArray⟩) ∧ Below B w w' :=
  Any.Builder_String_any Tryz.laysS Tryz.extraB B b l w h.is hB
end

end Go.Proofs.YtokfcjgfpchffaaGreatDoor
