/- Numbers in four bytes, bytes that grow (no function of a layer in sight; out of WireA, WireB, WireD). -/
import Derived.Test.YtokkhkhipgopbaaCrcB
import Derived.Test.YtokkhkhipgopbaaWx
import Derived.Test.YtokkhkhipgopbaaJa
namespace Go.Proofs.Ytokkhkhipgopbaa
open Go.ChangeShapes Go.WideShapes Go.ChangeAt Go.RowKit

theorem i64_or_nat (a b : Nat) (ha : a < 4294967296) (hb : b < 4294967296) : bits .or .i64 (a : Int) (b : Int) = ((a ||| b : Nat) : Int) := by
  have hx : a ||| b < 2 ^ 32 := Nat.or_lt_two_pow (by omega) (by omega)
  show IntKind.i64.wrap ((BitVec.ofInt 64 (a : Int) ||| BitVec.ofInt 64 (b : Int)).toNat : Int) = _
  rw [BitVec.toNat_or, ofInt_u64 a (by omega), ofInt_u64 b (by omega), IntKind.wrap_i64]
  omega

theorem or1 (x y : UInt8) : bits .or .i64 (x.toNat : Nat) ((y.toNat : Nat) * 256 : Int) = (x.toNat : Nat) + 256 * (y.toNat : Nat) := by
  have hx := x.toNat_lt
  have hy := y.toNat_lt
  rw [show ((y.toNat : Nat) * 256 : Int) = ((256 * y.toNat : Nat) : Int) by omega, i64_or_nat _ _ (by omega) (by omega), Nat.or_comm, nat_join 8 _ _ (by omega) (by omega)]
  omega

theorem or2 (x y z : UInt8) : bits .or .i64 ((x.toNat : Nat) + 256 * (y.toNat : Nat)) ((z.toNat : Nat) * 65536 : Int) = (x.toNat : Nat) + 256 * (y.toNat : Nat) + 65536 * (z.toNat : Nat) := by
  have hx := x.toNat_lt
  have hy := y.toNat_lt
  have hz := z.toNat_lt
  rw [show ((z.toNat : Nat) * 65536 : Int) = ((65536 * z.toNat : Nat) : Int) by omega, show ((x.toNat : Nat) + 256 * (y.toNat : Nat) : Int) = ((x.toNat + 256 * y.toNat : Nat) : Int) by omega, i64_or_nat _ _ (by omega) (by omega), Nat.or_comm, nat_join 16 _ _ (by omega) (by omega)]
  omega

theorem or3 (x y z u : UInt8) : bits .or .i64 ((x.toNat : Nat) + 256 * (y.toNat : Nat) + 65536 * (z.toNat : Nat)) ((u.toNat : Nat) * 16777216 : Int) = (x.toNat : Nat) + 256 * (y.toNat : Nat) + 65536 * (z.toNat : Nat) + 16777216 * (u.toNat : Nat) := by
  have hx := x.toNat_lt
  have hy := y.toNat_lt
  have hz := z.toNat_lt
  have hu := u.toNat_lt
  rw [show ((u.toNat : Nat) * 16777216 : Int) = ((16777216 * u.toNat : Nat) : Int) by omega, show ((x.toNat : Nat) + 256 * (y.toNat : Nat) + 65536 * (z.toNat : Nat) : Int) = ((x.toNat + 256 * y.toNat + 65536 * z.toNat : Nat) : Int) by omega,
    i64_or_nat _ _ (by omega) (by omega), Nat.or_comm, nat_join 24 _ _ (by omega) (by omega)]
  omega

theorem at4_is (s : ByteArray) {i : Nat} (h : i + 3 < s.size) : Wx.at4 s.data.toList i = (s[i]).toNat + 256 * (s[i + 1]).toNat + 65536 * (s[i + 2]).toNat + 16777216 * (s[i + 3]).toNat := by
  have e : ∀ k (hk : k < s.size), s.data.toList.getD k 0 = s[k] := by
    intro k hk
    have hk2 : k < s.data.toList.length := by rw [Array.length_toList]; exact hk
    rw [List.getD_eq_getElem?_getD, List.getElem?_eq_getElem hk2]
    rfl
  unfold Wx.at4
  rw [e i (by omega), e (i + 1) (by omega), e (i + 2) (by omega), e (i + 3) (by omega)]

/-- A place at which four bytes of a string stand. -/
structure Four (s : ByteArray) (i : Int) (k : Nat) : Prop where
  eq : i = (k : Int)
  le : k + 3 < s.size
  fit : s.size ≤ maxLen

/-- A variable's cell, in whatever world comes of that in which it was laid. -/
theorem box_cell {w u : World} {cs : Array Value} {t : TypeId} (hb : Below (w.alloc (.cells cs t)).heap.size (w.alloc (.cells cs t)) u) (i : Nat) {v : Value} (hv : cs[i]? = some v) : u.cell? ⟨w.heap.size, i, none⟩ = some v := by
  refine (hb.cell (p := ⟨w.heap.size, i, none⟩) (by simp)).trans ?_
  rw [cell_of_row _ w.heap.size i cs t (0, 0) (heap_alloc_new w _)]
  exact hv

theorem Try.infoByte : (Try.prog.info? 5).map (fun i => (i.zero, i.size, i.bytes)) = some (some (.int .u8 0), 1, 1) := by kernel_rfl

/-- The call owns the slice v of the bytes l. -/
def OwnB (w : World) (base : Nat) (v : Value) (l : List UInt8) : Prop := w.ownsRow base 5 1 v l.length (l.map fun b => Value.int .u8 (b.toNat : Nat))

theorem OwnB.nil (w : World) (base : Nat) : OwnB w base (.slice none 0 0) [] := World.ownsRow_nil _ _ _ _

theorem OwnB.keep {w w' : World} {base : Nat} {v : Value} {l : List UInt8} (h : OwnB w base v l) (hb : Below w.heap.size w w') : OwnB w' base v l := own_below h hb

theorem OwnB.form {w : World} {base : Nat} {v : Value} {l : List UInt8} (h : OwnB w base v l) : ∃ a c, v = .slice a l.length c := by
  rcases h.2 with ⟨rfl, h0⟩ | ⟨g, cap, cur, rfl, _⟩
  · exact ⟨none, 0, by rw [h0]⟩
  · exact ⟨_, _, rfl⟩

theorem OwnB.back {w : World} {base : Nat} {v : Value} {l : List UInt8} (h : OwnB w base v l) (hl : 0 < l.length) : (convert 50 9 v).run Try.prog w = .ok (.string ⟨l.toArray⟩) w := by
  rcases h.2 with ⟨rfl, h0⟩ | ⟨g, cap, cur, rfl, hb, hg, hnc, hcm, hcs, htake⟩
  · omega
  · refine run_convert_bytes_back (P := Try.prog) w 50 9 5 ⟨g, 0, none⟩ cap l Try.underlying50 Try.underlying5 Try.underlying9 fun j hj => ?_
    rw [show (⟨g, 0, none⟩ : Addr).add j = ⟨g, j, none⟩ by unfold Addr.add; split <;> simp_all, cell_of_row w g j cur 5 (0, 0) hg]
    have hx : (cur.toList.take (l.length * 1))[j]? = (l.map fun b => Value.int .u8 (b.toNat : Nat))[j]? := by rw [htake]
    rw [List.getElem?_take, if_pos (by omega), List.getElem?_map, List.getElem?_eq_getElem hj] at hx
    simpa using hx

theorem toNat_mod {m : Nat} : (UInt8.ofNat (m % 256)).toNat = m % 256 := Wx.ofNat_toNat _ (by omega)

theorem four_src (w : World) (y0 y1 y2 y3 : Nat) : (∀ j u, [Value.int .u8 (y0 : Int), .int .u8 (y1 : Int), .int .u8 (y2 : Int), .int .u8 (y3 : Int)][j]? = some u → (w.alloc (.cells #[.int .u8 (y0 : Int), .int .u8 (y1 : Int), .int .u8 (y2 : Int), .int .u8 (y3 : Int)] 5)).cell? ((⟨w.heap.size, 0, none⟩ : Addr).add j) = some u) ∧
    ∀ u ∈ [Value.int .u8 (y0 : Int), .int .u8 (y1 : Int), .int .u8 (y2 : Int), .int .u8 (y3 : Int)], u.oneCell' = true := by
  constructor
  · intro j u hu
    rw [Addr.add_lit, cell_of_row _ w.heap.size (0 + j) _ 5 (0, 0) (heap_alloc_new w _)]
    simpa using hu
  · intro u hu
    simp only [List.mem_cons, List.not_mem_nil, or_false] at hu
    rcases hu with rfl | rfl | rfl | rfl <;> rfl

theorem F_snoc (l : List Int) (k : Nat) (h : k < l.length) : Wx.F ((l.take (k + 1)).map Wx.un) = Wx.F ((l.take k).map Wx.un) ++ Wx.four (Wx.un (l.getD k 0)) := by
  rw [take_snoc l k h, List.map_append, Wx.F_append]; congr 1

theorem F_take_len (l : List Int) (k : Nat) (h : k ≤ l.length) : (Wx.F ((l.take k).map Wx.un)).length = 4 * k := by rw [Wx.F_len, List.length_map, List.length_take]; omega

/-- A slice that a literal has just laid. -/
theorem Own.lit {k : IntKind} (w : World) (e : TypeId) (l : List Int) {base : Nat} (hb : base ≤ w.heap.size) (hm : l.length ≤ maxLen) : Own (intS k) (w.alloc (.cells (l.map (Value.int k)).toArray e)) base e (.slice (some ⟨w.heap.size, 0, none⟩) l.length l.length) l := by
  refine Own.of_row ⟨by simp, .inr ⟨w.heap.size, l.length, (l.map (Value.int k)).toArray, rfl, hb, heap_alloc_new w _, Nat.le_refl _, hm, by simp, ?_⟩⟩
  rw [Nat.mul_one]
  exact List.take_of_length_le (by simp)

theorem four_back (w : World) (m : Nat) : (convert 50 9 (.slice (some ⟨w.heap.size, 0, none⟩) 4 4)).run Try.prog (w.alloc (.cells #[.int .u8 ((m % 256 : Nat) : Int), .int .u8 ((m / 256 % 256 : Nat) : Int), .int .u8 ((m / 65536 % 256 : Nat) : Int), .int .u8 ((m / 16777216 % 256 : Nat) : Int)] 5)) =
    .ok (.string ⟨(Wx.four m).toArray⟩) (w.alloc (.cells #[.int .u8 ((m % 256 : Nat) : Int), .int .u8 ((m / 256 % 256 : Nat) : Int), .int .u8 ((m / 65536 % 256 : Nat) : Int), .int .u8 ((m / 16777216 % 256 : Nat) : Int)] 5)) := by
  refine run_convert_bytes_back (P := Try.prog) _ 50 9 5 ⟨w.heap.size, 0, none⟩ 4 (Wx.four m) Try.underlying50 Try.underlying5 Try.underlying9 fun j hj => ?_
  rw [show (⟨w.heap.size, 0, none⟩ : Addr).add j = ⟨w.heap.size, j, none⟩ by unfold Addr.add; split <;> simp_all, cell_of_row _ w.heap.size j _ 5 (0, 0) (heap_alloc_new w _)]
  have h4 : j < 4 := hj
  rcases (by omega : j = 0 ∨ j = 1 ∨ j = 2 ∨ j = 3) with rfl | rfl | rfl | rfl
  · show some (Value.int .u8 ((m % 256 : Nat) : Int)) = some (.int .u8 (((UInt8.ofNat (m % 256)).toNat : Nat) : Int)); rw [toNat_mod]
  · show some (Value.int .u8 ((m / 256 % 256 : Nat) : Int)) = some (.int .u8 (((UInt8.ofNat (m / 256 % 256)).toNat : Nat) : Int)); rw [toNat_mod]
  · show some (Value.int .u8 ((m / 65536 % 256 : Nat) : Int)) = some (.int .u8 (((UInt8.ofNat (m / 65536 % 256)).toNat : Nat) : Int)); rw [toNat_mod]
  · show some (Value.int .u8 ((m / 16777216 % 256 : Nat) : Int)) = some (.int .u8 (((UInt8.ofNat (m / 16777216 % 256)).toNat : Nat) : Int)); rw [toNat_mod]

end Go.Proofs.Ytokkhkhipgopbaa
