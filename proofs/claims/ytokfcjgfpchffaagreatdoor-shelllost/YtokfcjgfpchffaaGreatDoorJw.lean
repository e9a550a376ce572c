/- 3 texts as one, in their order: CrcA, CrcB, Wk. -/
import Derived.Test.YtokfcjgfpchffaaGreatDoorKe
import Derived.Test.YtokfcjgfpchffaaGreatDoorKc
import Derived.Laws.BitsAllLaws
import Derived.Laws.Concat
import Derived.Laws.IdiomStrings
import Derived.Test.YtokfcjgfpchffaaGreatDoorKa

/- What the functions of package crc, the document's answers for layer 6, and the laws' fixed answer do when called: the sums of Cx, the world as it was. -/
namespace Go.Proofs.YtokfcjgfpchffaaGreatDoor
open Go.ChangeShapes Go.WideShapes Go.ChangeAt Go.RowKit

theorem odd_and {x : Nat} (hx : x < 4294967296) (h : x % 2 = 1) : bits .and .u32 (x : Int) 1 = 1 := by
  have := u32_and_nat x 1 hx (by omega)
  rw [Nat.and_one_is_mod, h] at this
  exact this
theorem even_and {x : Nat} (hx : x < 4294967296) (h : ¬ x % 2 = 1) : bits .and .u32 (x : Int) 1 = 0 := by
  have := u32_and_nat x 1 hx (by omega)
  rw [Nat.and_one_is_mod, show x % 2 = 0 by omega] at this
  exact this
theorem laid {x : Nat} (hx : x < 4294967296) (h : x % 2 = 1) : bits .xor .u32 ((x : Int) / 2) 3988292384 = (Cx.step x : Nat) := by
  have := u32_xor_nat (x / 2) 3988292384 (by omega) (by omega)
  rw [Cx.step_odd h, ← this]
  rfl

set_option maxRecDepth 100000 in
theorem eight (c : Nat) (hc : c < 4294967296) (w : World) : Calls Tryz.prog 128 #[.int .u32 (c : Int)] w fun e w' => e = .returned (.int .u32 (Cx.steps 8 c : Nat)) ∧ w' = w := by
  go_enter Tryz.func128, Tryz.ntmps128
  go_wp2
  go_loopw [0, 4] (fun s i wr => ∃ (k : Nat), k ≤ 8 ∧ i = .int .i64 k ∧ s = .int .u32 (Cx.steps k c : Nat) ∧ wr = w) (fun _ i _ => 8 - (intOf i).toNat)
  case atStart => exact ⟨0, by omega, rfl, rfl, rfl⟩
  case round =>
    obtain ⟨k, hk, rfl, rfl, hww⟩ := hrel
    replace hww := hww.symm
    subst hww
    have hx := Cx.steps_lt hc k
    by_cases hlt : k < 8
    · have hli : (k : Int) < 8 := by omega
      have HS : Hid (Cx.steps (k + 1) c = Cx.step (Cx.steps k c)) := rfl
      generalize Cx.steps k c = x at *
      by_cases ho : x % 2 = 1
      · have e1 := odd_and hx ho
        have e2 := laid hx ho
        go_wp2
        go_roundw
        case rel => exact ⟨k + 1, by omega, by go_num, by rw [HS.out], by trivial⟩
        case measure => simp [intOf]; omega
      · have e1 := even_and hx ho
        have HE : Hid (Cx.step x = x / 2) := Cx.step_even ho
        go_wp2
        go_roundw
        case rel => exact ⟨k + 1, by omega, by go_num, by rw [HS.out, HE.out]; rfl, by trivial⟩
        case measure => simp [intOf]; omega
    · have hkn : k = 8 := by omega
      subst hkn
      go_wp2
      go_ret
      exact ⟨rfl, rfl⟩

def crc (s : ByteArray) : Nat := Cx.sum s.data.toList
theorem crc_lt (s : ByteArray) : crc s < 4294967296 := Cx.sum_lt _
theorem take_run (s : ByteArray) {k : Nat} (h : k < s.size) : Cx.run 4294967295 (s.data.toList.take (k + 1)) = Cx.byte (Cx.run 4294967295 (s.data.toList.take k)) (s[k]).toNat := by
  have hl : k < s.data.toList.length := by rw [Array.length_toList]; exact h
  rw [List.take_succ_eq_append_getElem hl, Cx.run_append, Cx.run_cons, Cx.run_nil]
  rfl
/-- The sum of a string. -/
theorem take_all (s : ByteArray) : Cx.run 4294967295 (s.data.toList.take s.size) ^^^ 4294967295 = crc s := by
  rw [List.take_of_length_le (by rw [Array.length_toList]; exact Nat.le_refl _)]; rfl

set_option maxRecDepth 100000 in
theorem csum (s : ByteArray) (hs : s.size ≤ maxLen) (w : World) : Calls Tryz.prog 92 #[.string s] w fun e w' => e = .returned (.int .i64 (crc s : Nat)) ∧ w' = w := by
  have hm : s.size ≤ 9223372036854775807 := hs
  go_enter Tryz.func92, Tryz.ntmps92
  go_wp2
  go_loopw [3, 7] (fun v i wr => ∃ (k : Nat), k ≤ s.size ∧ i = .int .i64 k ∧ v = .int .u32 (Cx.run 4294967295 (s.data.toList.take k) : Nat) ∧ wr = w) (fun _ i _ => s.size - (intOf i).toNat)
  case atStart => exact ⟨0, by omega, rfl, rfl, rfl⟩
  case round =>
    obtain ⟨k, hk, rfl, rfl, hww⟩ := hrel
    replace hww := hww.symm
    subst hww
    have hx : Cx.run 4294967295 (s.data.toList.take k) < 4294967296 := Cx.run_lt (by omega) _
    by_cases hlt : k < s.size
    · have hli : (k : Int) < (s.size : Int) := by omega
      have HS : Hid _ := take_run s hlt
      generalize Cx.run 4294967295 (s.data.toList.take k) = x at *
      have hb := (s[k]).toNat_lt
      have e1 := u32_xor_nat x (s[k]).toNat hx (by omega)
      have hE := eight (x ^^^ (s[k]).toNat) (Cx.xor_lt hx (by omega)) w
      go_wp2_with (go_at_call 128; refine by_same hE ?_)
      go_roundw
      case rel => exact ⟨k + 1, by omega, by go_num, by rw [HS.out]; rfl, by trivial⟩
      case measure => simp [intOf]; omega
    · have hkn : k = s.size := by omega
      subst hkn
      have e1 : bits .xor .u32 ((Cx.run 4294967295 (s.data.toList.take s.size) : Nat) : Int) 4294967295 = (crc s : Nat) := by rw [← take_all]; exact u32_xor_nat _ 4294967295 hx (by omega)
      have hc := crc_lt s
      go_wp2
      go_ret
      exact ⟨rfl, rfl⟩

/-! ### The document's -/


end Go.Proofs.YtokfcjgfpchffaaGreatDoor

/- Bytes that a conversion of a string has laid, stores into them, and the string that they are again. -/
namespace Go.Proofs.YtokfcjgfpchffaaGreatDoor
open Go.ChangeShapes Go.WideShapes Go.ChangeAt Go.RowKit

/-- From the head of block b on lie the bytes l, and they may be written. -/
def Bytes (u : World) (b : Nat) (l : List UInt8) : Prop := ∀ j (h : j < l.length), u.cell? ⟨b, j, none⟩ = some (.int .u8 (l[j].toNat : Nat)) ∧ u.frozen? ⟨b, j, none⟩ = false

theorem Bytes.store {u : World} {b : Nat} {l : List UInt8} (h : Bytes u b l) {j : Nat} (hj : j < l.length) (v : UInt8) : Bytes (u.setCell ⟨b, j, none⟩ (.int .u8 (v.toNat : Nat))) b (l.set j v) := by
  intro i hi
  have hi2 : i < l.length := by simpa using hi
  constructor
  · by_cases hij : j = i
    · subst hij
      rw [World.cell?_setCell_same _ _ _ (h j hj).1, List.getElem_set_self]
    · rw [World.cell?_setCell_other _ _ _ _ (by simp <;> omega), List.getElem_set_ne hij]
      exact (h i hi2).1
  · rw [World.frozen?_setCell]; exact (h i hi2).2

theorem Bytes.back {u : World} {b : Nat} {l : List UInt8} (h : Bytes u b l) (cap : Nat) : (convert 43 9 (.slice (some ⟨b, 0, none⟩) l.length cap)).run Tryz.prog u = .ok (.string ⟨l.toArray⟩) u := by
  refine run_convert_bytes_back (P := Tryz.prog) u 43 9 5 ⟨b, 0, none⟩ cap l Tryz.underlying43 Tryz.underlying5 Tryz.underlying9 fun j hj => ?_
  rw [show (⟨b, 0, none⟩ : Addr).add j = ⟨b, j, none⟩ by unfold Addr.add; split <;> simp_all]
  exact (h j hj).1

/-- A string that can be read. -/
structure Fits (s : ByteArray) : Prop where
  le : s.size ≤ maxLen
/-- 'string([]byte{x})': a block of one byte, and the string that it is. -/
theorem one_back {W : World} {b : Nat} {x : UInt8} (h : W.heap[b]? = some (.cells #[.int .u8 (x.toNat : Nat)] 5 (0, 0))) : (convert 43 9 (.slice (some ⟨b, 0, none⟩) 1 1)).run Tryz.prog W = .ok (.string ⟨#[x]⟩) W := by
  refine run_convert_bytes_back (P := Tryz.prog) W 43 9 5 ⟨b, 0, none⟩ 1 [x] Tryz.underlying43 Tryz.underlying5 Tryz.underlying9 fun j hj => ?_
  rw [show (⟨b, 0, none⟩ : Addr).add j = ⟨b, j, none⟩ by unfold Addr.add; split <;> simp_all, cell_of_row W b j _ _ _ h]
  match j, hj with
  | 0, _ => rfl
end Go.Proofs.YtokfcjgfpchffaaGreatDoor

/- Numbers in four bytes, bytes that grow (no function of a layer in sight; out of WireA, WireB, WireD). -/
namespace Go.Proofs.YtokfcjgfpchffaaGreatDoor
open Go.ChangeShapes Go.WideShapes Go.ChangeAt Go.RowKit

theorem i64_or_nat (a b : Nat) (ha : a < 4294967296) (hb : b < 4294967296) : bits .or .i64 (a : Int) (b : Int) = ((a ||| b : Nat) : Int) := by
  have hx : a ||| b < 2 ^ 32 := Nat.or_lt_two_pow (by omega) (by omega)
  show IntKind.i64.wrap ((BitVec.ofInt 64 (a : Int) ||| BitVec.ofInt 64 (b : Int)).toNat : Int) = _
  rw [BitVec.toNat_or, ofInt_u64 a (by omega), ofInt_u64 b (by omega), IntKind.wrap_i64]
  omega

theorem or1 (x y : UInt8) : bits .or .i64 (x.toNat : Nat) ((y.toNat : Nat) * 256 : Int) = (x.toNat : Nat) + 256 * (y.toNat : Nat) := by
  have hx := x.toNat_lt
  have hy := y.toNat_lt
  rw [show ((y.toNat : Nat) * 256 : Int) = ((256 * y.toNat : Nat) : Int) by omega, i64_or_nat _ _ (by omega) (by omega), Nat.or_comm, nat_join 8 _ _ (by omega) (by omega)]
  omega

theorem or2 (x y z : UInt8) : bits .or .i64 ((x.toNat : Nat) + 256 * (y.toNat : Nat)) ((z.toNat : Nat) * 65536 : Int) = (x.toNat : Nat) + 256 * (y.toNat : Nat) + 65536 * (z.toNat : Nat) := by
  have hx := x.toNat_lt
  have hy := y.toNat_lt
  have hz := z.toNat_lt
  rw [show ((z.toNat : Nat) * 65536 : Int) = ((65536 * z.toNat : Nat) : Int) by omega, show ((x.toNat : Nat) + 256 * (y.toNat : Nat) : Int) = ((x.toNat + 256 * y.toNat : Nat) : Int) by omega, i64_or_nat _ _ (by omega) (by omega), Nat.or_comm, nat_join 16 _ _ (by omega) (by omega)]
  omega

theorem or3 (x y z u : UInt8) : bits .or .i64 ((x.toNat : Nat) + 256 * (y.toNat : Nat) + 65536 * (z.toNat : Nat)) ((u.toNat : Nat) * 16777216 : Int) = (x.toNat : Nat) + 256 * (y.toNat : Nat) + 65536 * (z.toNat : Nat) + 16777216 * (u.toNat : Nat) := by
  have hx := x.toNat_lt
  have hy := y.toNat_lt
  have hz := z.toNat_lt
  have hu := u.toNat_lt
  rw [show ((u.toNat : Nat) * 16777216 : Int) = ((16777216 * u.toNat : Nat) : Int) by omega, show ((x.toNat : Nat) + 256 * (y.toNat : Nat) + 65536 * (z.toNat : Nat) : Int) = ((x.toNat + 256 * y.toNat + 65536 * z.toNat : Nat) : Int) by omega,
    i64_or_nat _ _ (by omega) (by omega), Nat.or_comm, nat_join 24 _ _ (by omega) (by omega)]
  omega

theorem at4_is (s : ByteArray) {i : Nat} (h : i + 3 < s.size) : Wx.at4 s.data.toList i = (s[i]).toNat + 256 * (s[i + 1]).toNat + 65536 * (s[i + 2]).toNat + 16777216 * (s[i + 3]).toNat := by
  have e : ∀ k (hk : k < s.size), s.data.toList.getD k 0 = s[k] := by
    intro k hk
    have hk2 : k < s.data.toList.length := by rw [Array.length_toList]; exact hk
    rw [List.getD_eq_getElem?_getD, List.getElem?_eq_getElem hk2]
    rfl
  unfold Wx.at4
  rw [e i (by omega), e (i + 1) (by omega), e (i + 2) (by omega), e (i + 3) (by omega)]

/-- A place at which four bytes of a string stand. -/
structure Four (s : ByteArray) (i : Int) (k : Nat) : Prop where
  eq : i = (k : Int)
  le : k + 3 < s.size
  fit : s.size ≤ maxLen

/-- A variable's cell, in whatever world comes of that in which it was laid. -/
theorem box_cell {w u : World} {cs : Array Value} {t : TypeId} (hb : Below (w.alloc (.cells cs t)).heap.size (w.alloc (.cells cs t)) u) (i : Nat) {v : Value} (hv : cs[i]? = some v) : u.cell? ⟨w.heap.size, i, none⟩ = some v := by
  refine (hb.cell (p := ⟨w.heap.size, i, none⟩) (by simp)).trans ?_
  rw [cell_of_row _ w.heap.size i cs t (0, 0) (heap_alloc_new w _)]
  exact hv

theorem Tryz.infoByte : (Tryz.prog.info? 5).map (fun i => (i.zero, i.size, i.bytes)) = some (some (.int .u8 0), 1, 1) := by kernel_rfl

/-- The call owns the slice v of the bytes l. -/
def OwnB (w : World) (base : Nat) (v : Value) (l : List UInt8) : Prop := w.ownsRow base 5 1 v l.length (l.map fun b => Value.int .u8 (b.toNat : Nat))

theorem OwnB.nil (w : World) (base : Nat) : OwnB w base (.slice none 0 0) [] := World.ownsRow_nil _ _ _ _

theorem OwnB.keep {w w' : World} {base : Nat} {v : Value} {l : List UInt8} (h : OwnB w base v l) (hb : Below w.heap.size w w') : OwnB w' base v l := own_below h hb

theorem OwnB.form {w : World} {base : Nat} {v : Value} {l : List UInt8} (h : OwnB w base v l) : ∃ a c, v = .slice a l.length c := by
  rcases h.2 with ⟨rfl, h0⟩ | ⟨g, cap, cur, rfl, _⟩
  · exact ⟨none, 0, by rw [h0]⟩
  · exact ⟨_, _, rfl⟩

theorem OwnB.back {w : World} {base : Nat} {v : Value} {l : List UInt8} (h : OwnB w base v l) (hl : 0 < l.length) : (convert 43 9 v).run Tryz.prog w = .ok (.string ⟨l.toArray⟩) w := by
  rcases h.2 with ⟨rfl, h0⟩ | ⟨g, cap, cur, rfl, hb, hg, hnc, hcm, hcs, htake⟩
  · omega
  · refine run_convert_bytes_back (P := Tryz.prog) w 43 9 5 ⟨g, 0, none⟩ cap l Tryz.underlying43 Tryz.underlying5 Tryz.underlying9 fun j hj => ?_
    rw [show (⟨g, 0, none⟩ : Addr).add j = ⟨g, j, none⟩ by unfold Addr.add; split <;> simp_all, cell_of_row w g j cur 5 (0, 0) hg]
    have hx : (cur.toList.take (l.length * 1))[j]? = (l.map fun b => Value.int .u8 (b.toNat : Nat))[j]? := by rw [htake]
    rw [List.getElem?_take, if_pos (by omega), List.getElem?_map, List.getElem?_eq_getElem hj] at hx
    simpa using hx

theorem toNat_mod {m : Nat} : (UInt8.ofNat (m % 256)).toNat = m % 256 := Wx.ofNat_toNat _ (by omega)

theorem four_src (w : World) (y0 y1 y2 y3 : Nat) : (∀ j u, [Value.int .u8 (y0 : Int), .int .u8 (y1 : Int), .int .u8 (y2 : Int), .int .u8 (y3 : Int)][j]? = some u → (w.alloc (.cells #[.int .u8 (y0 : Int), .int .u8 (y1 : Int), .int .u8 (y2 : Int), .int .u8 (y3 : Int)] 5)).cell? ((⟨w.heap.size, 0, none⟩ : Addr).add j) = some u) ∧
    ∀ u ∈ [Value.int .u8 (y0 : Int), .int .u8 (y1 : Int), .int .u8 (y2 : Int), .int .u8 (y3 : Int)], u.oneCell' = true := by
  constructor
  · intro j u hu
    rw [Addr.add_lit, cell_of_row _ w.heap.size (0 + j) _ 5 (0, 0) (heap_alloc_new w _)]
    simpa using hu
  · intro u hu
    simp only [List.mem_cons, List.not_mem_nil, or_false] at hu
    rcases hu with rfl | rfl | rfl | rfl <;> rfl

theorem F_snoc (l : List Int) (k : Nat) (h : k < l.length) : Wx.F ((l.take (k + 1)).map Wx.un) = Wx.F ((l.take k).map Wx.un) ++ Wx.four (Wx.un (l.getD k 0)) := by
  rw [take_snoc l k h, List.map_append, Wx.F_append]; congr 1

theorem F_take_len (l : List Int) (k : Nat) (h : k ≤ l.length) : (Wx.F ((l.take k).map Wx.un)).length = 4 * k := by rw [Wx.F_len, List.length_map, List.length_take]; omega

/-- A slice that a literal has just laid. -/
theorem Own.lit {k : IntKind} (w : World) (e : TypeId) (l : List Int) {base : Nat} (hb : base ≤ w.heap.size) (hm : l.length ≤ maxLen) : Own (intS k) (w.alloc (.cells (l.map (Value.int k)).toArray e)) base e (.slice (some ⟨w.heap.size, 0, none⟩) l.length l.length) l := by
  refine Own.of_row ⟨by simp, .inr ⟨w.heap.size, l.length, (l.map (Value.int k)).toArray, rfl, hb, heap_alloc_new w _, Nat.le_refl _, hm, by simp, ?_⟩⟩
  rw [Nat.mul_one]
  exact List.take_of_length_le (by simp)

end Go.Proofs.YtokfcjgfpchffaaGreatDoor
