/- The law of 'append' of a whole row, as the walk of VecParts takes it, and the sums of little numbers. -/
import Derived.Test.YtkbflhllojpgkaaVz
namespace Go.Proofs.Ytkbflhllojpgkaa
open Go.ChangeShapes Go.WideShapes Go.ChangeAt Go.RowKit

theorem wpList_append_rows {P : Program} {w : World} {ops : Array Oper} {rest : List Oper} {o : Oper} {a : Act} {Q : Exit → Act → World → Prop} (hw : Region.wanted o (yielded ops a.tmps) = true) (s x : Operand) (t : TypeId)
    (ho : o.op = .call { callee := .builtin .append, args := #[s, x], argTypes := #[t, t] })
    (base : Nat) (e : TypeId) (i : TypeInfo) (ht : P.underlying t = some (.slice e)) (hi : P.info? e = some i) (hz : i.zero = some (.int .i64 0))
    (hsize : i.size = 1) (hby : i.bytes = 8) (v : Value) (n : Nat) (l1 : List Int) (hs : a.eval s = v) (hown : w.ownsRow base e 1 v n (l1.map (Value.int .i64)))
    (ad : Option Addr) (m c : Nat) (l : List Int) (hx : a.eval x = .slice ad m c) (hr : Row .i64 w ad m l)
    (hsm : n + m ≤ 100000) (hbase : base ≤ w.heap.size)
    (h : ∀ a' c' w', w'.ownsRow base e 1 (.slice a' (n + m) c') (n + m) ((l1 ++ l).map (Value.int .i64)) → Row .i64 w' a' (n + m) (l1 ++ l) → Below base w w' → wpList P ops Q rest (a.put o.dst (.slice a' (n + m) c')) w') : wpList P ops Q (o :: rest) a w := by
  refine wpList_step fun K hK => ?_
  rw [if_pos hw]
  obtain ⟨v', w', hrun, h2, h3⟩ := run_append_row (P := P) (w := w) base t o.type e i (.int .i64 0) 8 ht hi hz hsize hby rfl v n _ hown ad m c l hr (by unfold maxLen; omega) (by omega) hbase
  rw [← List.map_append] at h2
  obtain ⟨a', c', rfl, _, hrow⟩ := Row.of_owns h2
  have hb : Below base w w' := (Below.refl _ _).grown h3 hbase (fun g hg => (hown.lt g hg).1)
  unfold Oper.wp
  simp [execOp, ho, resolve, invoke, builtin, hs, hx, hrun, Result.andThen]
  exact hK _ _ (h a' c' w' h2 hrow hb)

theorem new_below (w : World) (o : Obj) : Below w.heap.size w (w.alloc o) := (Below.refl _ _).alloc (Nat.le_refl _) o

theorem own_empty (w : World) : (w.alloc (.cells #[] 3)).ownsRow w.heap.size 3 1 (.slice (some ⟨w.heap.size, 0, none⟩) 0 0) 0 (([] : List Int).map (Value.int .i64)) :=
  World.ownsRow_made w #[] 0 (Nat.le_refl _) (by simp [maxLen]) rfl

namespace Vx
/-- Numbers below 16 One. -/
def Little (l : List Int) : Prop := ∀ x ∈ l, -1048575 ≤ x ∧ x ≤ 1048575
theorem little_little (l : List Int) : Little (little l) := by
  intro x hx
  obtain ⟨n, _, rfl⟩ := List.mem_map.1 hx
  by_cases h : 0 ≤ n
  · have h1 := Int.tmod_nonneg (b := 1048576) h
    have h2 := Int.tmod_lt_of_pos n (b := 1048576) (by omega)
    omega
  · have e : n.tmod 1048576 = -((-n).tmod 1048576) := by rw [Int.neg_tmod]; omega
    have h1 := Int.tmod_nonneg (a := -n) (b := 1048576) (by omega)
    have h2 := Int.tmod_lt_of_pos (-n) (b := 1048576) (by omega)
    omega
def sums : List Int → List Int → Int
  | x :: a, y :: b => Fx.mul x y + sums a b
  | _, _ => 0
theorem mul_little {x y : Int} (hx : -1048575 ≤ x ∧ x ≤ 1048575) (hy : -1048575 ≤ y ∧ y ≤ 1048575) : -16777216 ≤ Fx.mul x y ∧ Fx.mul x y ≤ 16777216 := by
  have ex : Fx.hold x = x := Fx.hold_id (by omega) (by omega)
  have ey : Fx.hold y = y := Fx.hold_id (by omega) (by omega)
  have hp : -1099511627776 ≤ x * y ∧ x * y ≤ 1099511627776 := by
    have h1 : x.natAbs ≤ 1048576 := by omega
    have h2 : y.natAbs ≤ 1048576 := by omega
    have h : (x * y).natAbs ≤ 1048576 * 1048576 := by rw [Int.natAbs_mul]; exact Nat.mul_le_mul h1 h2
    omega
  have hq : -16777216 ≤ (x * y).tdiv 65536 ∧ (x * y).tdiv 65536 ≤ 16777216 := by
    by_cases h : 0 ≤ x * y
    · rw [Int.tdiv_eq_ediv_of_nonneg h]; omega
    · have e : x * y = -(-(x * y)) := by omega
      rw [e, Int.neg_tdiv, Int.tdiv_eq_ediv_of_nonneg (by omega)]; omega
  unfold Fx.mul
  rw [ex, ey, Fx.hold_id (by omega) (by omega)]
  exact hq
theorem sums_bd (a b : List Int) (ha : Little a) (hb : Little b) : -(16777216 * a.length) ≤ sums a b ∧ sums a b ≤ 16777216 * a.length := by
  induction a generalizing b with
  | nil => cases b <;> simp [sums]
  | cons x a ih => cases b with
    | nil => simp [sums]; omega
    | cons y b =>
      have h := ih b (fun z hz => ha z (by simp [hz])) (fun z hz => hb z (by simp [hz]))
      have hm := mul_little (ha x (by simp)) (hb y (by simp))
      simp only [sums, List.length_cons]
      omega
theorem dotFrom_little (s : Int) (a b : List Int) (ha : Little a) (hb : Little b) (h1 : -(2147483647 - 16777216 * a.length) ≤ s) (h2 : s ≤ 2147483647 - 16777216 * a.length) : dotFrom s a b = s + sums a b := by
  induction a generalizing s b with
  | nil => cases b <;> simp [dotFrom, sums]
  | cons x a ih => cases b with
    | nil => simp [dotFrom, sums]
    | cons y b =>
      have hm := mul_little (ha x (by simp)) (hb y (by simp))
      simp only [List.length_cons] at h1 h2
      have e : Fx.add s (Fx.mul x y) = s + Fx.mul x y := by
        unfold Fx.add
        rw [Fx.hold_id (n := s) (by omega) (by omega), Fx.hold_id (n := Fx.mul x y) (by omega) (by omega), Fx.hold_id (by omega) (by omega)]
      show dotFrom (Fx.add s (Fx.mul x y)) a b = s + (Fx.mul x y + sums a b)
      rw [e, ih _ b (fun z hz => ha z (by simp [hz])) (fun z hz => hb z (by simp [hz])) (by omega) (by omega)]
      omega
theorem dot_little (a b : List Int) (ha : Little a) (hb : Little b) (h : a.length ≤ 100) : dot a b = sums a b := by
  have := dotFrom_little 0 a b ha hb (by omega) (by omega)
  unfold dot; omega
theorem sums_append (a b c d : List Int) (h : a.length = b.length) : sums (a ++ c) (b ++ d) = sums a b + sums c d := by
  induction a generalizing b with
  | nil => cases b with
    | nil => simp [sums]
    | cons _ _ => simp at h
  | cons x a ih => cases b with
    | nil => simp at h
    | cons y b =>
      have := ih b (by simpa using h)
      simp only [List.cons_append, sums]
      omega
theorem Little.append {a b : List Int} (ha : Little a) (hb : Little b) : Little (a ++ b) := by
  intro x hx
  rcases List.mem_append.1 hx with h | h
  · exact ha x h
  · exact hb x h
theorem dot_parts (a b c d : List Int) (ha : Little a) (hb : Little b) (hc : Little c) (hd : Little d) (h : a.length = b.length) (h1 : a.length ≤ 8) (h2 : c.length ≤ 8) :
    dot (a ++ c) (b ++ d) = dot a b + dot c d ∧ -1000000000 ≤ dot a b ∧ dot a b ≤ 1000000000 ∧ -1000000000 ≤ dot c d ∧ dot c d ≤ 1000000000 := by
  rw [dot_little _ _ (ha.append hc) (hb.append hd) (by simp; omega), dot_little a b ha hb (by omega), dot_little c d hc hd (by omega), sums_append _ _ _ _ h]
  have := sums_bd a b ha hb
  have := sums_bd c d hc hd
  omega
theorem add_append (a b c d : List Int) (h : a.length = b.length) : add (a ++ c) (b ++ d) = add a b ++ add c d := List.zipWith_append h
end Vx
end Go.Proofs.Ytkbflhllojpgkaa
