/- Slices that grow: an append with letters for the new length and the new list, and what is owned beside it (no program in sight; out of MdlB and MdlZ). -/
import Derived.Test.YtpfhjdlmjehfnaaDx
namespace Go.Proofs.Ytpfhjdlmjehfnaa
open Go.ChangeShapes Go.WideShapes Go.ChangeAt Go.RowKit

/-- 'append(v, x...)' in a walk, the new length and the new list under names of one's own. -/
theorem wpList_appK {α : Type} (A : Shape α) {P : Program} {w : World} {ops : Array Oper} {rest : List Oper} {o : Oper} {act : Act} {Q : Exit → Act → World → Prop} (hw : Region.wanted o (yielded ops act.tmps) = true) (s x : Operand) (t : TypeId)
    (ho : o.op = .call { callee := .builtin .append, args := #[s, x], argTypes := #[t, t] })
    (base : Nat) (e : TypeId) (i : TypeInfo) (z : Value) (bytes : Nat) (ht : P.underlying t = some (.slice e)) (hi : P.info? e = some i) (hz : i.zero = some z)
    (hsize : i.size = A.size) (hby : i.bytes = bytes) (hzs : z.cells.size = A.size) (hsz : 0 < A.size) (hbl : bytes ≤ 1000) {v : Value} {xs : List α} (hs : act.eval s = v) (hown : Own A w base e v xs)
    {a : Option Addr} {m c : Nat} (hx : act.eval x = .slice a m c) {ys : List α} {F : Nat → Prop} (hr : (sliceS A).rep w F [.slice a m c] ys) (hF : ∀ b, F b → some b ≠ v.ownBlock)
    (hsm : xs.length + m ≤ 100000) (hbase : base ≤ w.heap.size) (k : Nat) (hk : xs.length + m = k) (zs : List α) (hcat : xs ++ ys = zs)
    (h : ∀ a' c' w', Own A w' base e (.slice a' k c') zs → w.grownBy w' v.ownBlock → Below base w w' → (Value.ownBlock (.slice a' k c') = v.ownBlock ∨ Value.ownBlock (.slice a' k c') = some w.heap.size) →
      wpList P ops Q rest (act.put o.dst (.slice a' k c')) w') : wpList P ops Q (o :: rest) act w := by
  subst hk
  subst hcat
  exact wpList_app A hw s x t ho base e i z bytes ht hi hz hsize hby hzs hsz hbl hs hown hx hr hF hsm hbase h


section
variable {α : Type} {A : Shape α} {P : Nat → Prop} {w w' : World} {base : Nat} {e : TypeId} {xs : List α}
/-- It stays where another block alone is written. -/
theorem Own.aside {v : Value} (h : Own (inS A P) w base e v xs) {M : Nat} (hg : w.grownBy w' (some M)) (hP : ∀ b, P b → b ≠ M) (hv : v.ownBlock ≠ some M) : Own (inS A P) w' base e v xs := by
  obtain ⟨css, h1, h2⟩ := h
  refine ⟨css, h1.kept hg ?_, h2.1, fun j c x hc hx => A.keep (h2.2 j c x hc hx) fun b hb hlt => hg.block b hlt (fun h => hP b hb.2 (Option.some.inj h))⟩
  cases hb : v.ownBlock with
  | none => exact .inl rfl
  | some b => exact .inr (fun c => hv (by rw [hb, c]))
/-- Where it lies. -/
theorem Own.among {a : Option Addr} {n c : Nat} {Q : Nat → Prop} (h : Own (inS A P) w base e (.slice a n c) xs) (h1 : ∀ b, P b → Q b) (h2 : ∀ b, base ≤ b → b < w.heap.size → Value.ownBlock (.slice a n c) = some b → Q b) : (sliceS A).rep w Q [.slice a n c] xs := by
  obtain ⟨css, ⟨hl, k1⟩, k2⟩ := h
  have k3 : A.all w Q css xs := ⟨k2.1, fun j c x hc hx => A.mono (k2.2 j c x hc hx) fun b hb _ => h1 b hb.2⟩
  rcases k1 with ⟨he, h0⟩ | ⟨g, cap, cur, he, hb, hg, hnc, hcm, hcs, htake⟩
  · cases he
    have hx := List.eq_nil_of_length_eq_zero h0
    subst hx
    exact rep_none _ _ _
  · cases he
    have hgl : g < w.heap.size := (Array.getElem?_eq_some_iff.1 hg).1
    refine ⟨some ⟨g, 0, none⟩, c, css, rfl, hnc, hcm, k3, .inr ⟨g, 0, rfl, h2 g hb hgl rfl, hgl, fun j u hu => ?_⟩⟩
    rw [cell_of_row w g (0 + j) cur e (0, 0) hg]
    have hj := (List.getElem?_eq_some_iff.1 hu).1
    rw [← htake, List.getElem?_take] at hu
    split at hu
    · simpa using hu
    · cases hu
theorem Own.plain {a : Option Addr} {n c : Nat} (h : Own (inS A P) w base e (.slice a n c) xs) : (sliceS A).rep w everywhere [.slice a n c] xs := h.among (fun _ _ => trivial) (fun _ _ _ _ => trivial)
/-- One element that 'append(v, x)' appends: in a block of its own. -/
theorem Own.esrc {v : Value} {F : Nat → Prop} {cs : List Value} {x : α} (h : Own A w base e v xs) (hx : A.rep w F cs x) (hF : ∀ b, F b → some b ≠ v.ownBlock) :
    (sliceS A).rep (w.alloc (.cells cs.toArray e)) (fun b => (F b ∧ b < w.heap.size) ∨ b = w.heap.size) [.slice (some ⟨w.heap.size, 0, none⟩) 1 1] [x] ∧ ∀ b, ((F b ∧ b < w.heap.size) ∨ b = w.heap.size) → some b ≠ v.ownBlock := by
  refine ⟨rep_one hx, fun b hb h' => ?_⟩
  rcases hb with hf | rfl
  · exact hF b hf.1 h'
  · have := (h.lt _ h'.symm).2; omega
end
def fillD {α : Type} (d : α) (l : List α) (k : Nat) : List α := l.take k ++ List.replicate (l.length - k) d
theorem fillD_zero {α : Type} (d : α) (l : List α) : fillD d l 0 = List.replicate l.length d := by simp [fillD]
theorem fillD_all {α : Type} (d : α) (l : List α) : fillD d l l.length = l := by simp [fillD]
theorem fillD_set {α : Type} {d : α} {l : List α} {k : Nat} (h : k < l.length) {x : α} (hx : l.getD k d = x) : (fillD d l k).set k x = fillD d l (k + 1) := by
  unfold fillD
  have hk : (l.take k).length = k := by rw [List.length_take]; omega
  rw [List.set_append_right _ _ (by omega), hk, Nat.sub_self, List.take_succ_eq_append_getElem h, List.append_assoc]
  congr 1
  rw [show l.length - k = (l.length - (k + 1)) + 1 by omega, List.replicate_succ, List.set_cons_zero, ← hx, List.getD_eq_getElem?_getD, List.getElem?_eq_getElem h]
  rfl
/-- What 'make([][]int, n)' lays. -/
theorem Own.rows_made {w : World} {base g n c : Nat} {e : TypeId} (h : w.ownsRow base e 1 (.slice (some ⟨g, 0, none⟩) n c) n (madeCells #[.slice none 0 0] n).toList) : Own rowS w base e (.slice (some ⟨g, 0, none⟩) n c) (List.replicate n []) :=
  Own.made (A := rowS) (z := [.slice none 0 0]) (by show 0 < 1; omega) rfl (by show w.ownsRow base e 1 _ n (madeCells #[.slice none 0 0] (n * 1)).toList; rw [Nat.mul_one]; exact h) (fun F => rep_none _ _ _)

end Go.Proofs.Ytpfhjdlmjehfnaa
