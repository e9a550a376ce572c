/- strings.Join: the library's contract, laid at the program; Join and Cut of package chunk. -/
import Derived.Test.YtpfhjdlmjehfnaaBase
import Derived.Test.YtpfhjdlmjehfnaaBagA
import Derived.Test.YtpfhjdlmjehfnaaCk
import Derived.Shelf.Strings.OnBuilder
namespace Go.Proofs.Ytpfhjdlmjehfnaa
open Go.ChangeShapes Go.WideShapes Go.ChangeAt Go.RowKit

def renJoin : Go.Shelf.Ren := ⟨fun | 156 => 52 | 165 => 61 | 166 => 62 | 169 => 63 | 240 => 66 | 241 => 67 | 276 => 69 | 277 => 70 | n => n, fun | 31 => 28 | 9 => 9 | 3 => 3 | 4 => 4 | 0 => 0 | 20 => 20 | 72 => 99 | 76 => 103 | 70 => 97 | 37 => 62 | 75 => 102 | 127 => 106 | 164 => 108 | 5 => 5 | 80 => 105 | n => n, fun | n => n⟩
theorem laysJoin : Go.Proofs.Lays.n156 Try.prog renJoin := {
  mixed := by kernel_rfl
  f156 := Try.func52.trans (congrArg some (by kernel_rfl))
  f165 := Try.func61.trans (congrArg some (by kernel_rfl))
  f166 := Try.func62.trans (congrArg some (by kernel_rfl))
  f169 := Try.func63.trans (congrArg some (by kernel_rfl))
  f240 := Try.func66.trans (congrArg some (by kernel_rfl))
  f241 := Try.func67.trans (congrArg some (by kernel_rfl))
  f276 := Try.func69.trans (congrArg some (by kernel_rfl))
  f277 := Try.func70.trans (congrArg some (by kernel_rfl))
  t0 := Try.underlying0
  a0 := Try.isAgg0
  z0 := Try.sizeOf0
  v0 := Try.zeroValue0
  t3 := Try.underlying3
  a3 := Try.isAgg3
  z3 := Try.sizeOf3
  v3 := Try.zeroValue3
  t4 := Try.underlying4
  a4 := Try.isAgg4
  z4 := Try.sizeOf4
  v4 := Try.zeroValue4
  t9 := Try.underlying9
  a9 := Try.isAgg9
  z9 := Try.sizeOf9
  v9 := Try.zeroValue9
  t20 := Try.underlying20
  a20 := Try.isAgg20
  z20 := Try.sizeOf20
  v20 := Try.zeroValue20
  t31 := Try.underlying28
  a31 := Try.isAgg28
  z31 := Try.sizeOf28
  v31 := Try.zeroValue28
  t37 := Try.underlying62
  a37 := Try.isAgg62
  z37 := Try.sizeOf62
  v37 := Try.zeroValue62
  t70 := Try.underlying97
  a70 := Try.isAgg97
  z70 := Try.sizeOf97
  v70 := Try.zeroValue97
  t72 := Try.underlying99
  a72 := Try.isAgg99
  z72 := Try.sizeOf99
  v72 := Try.zeroValue99
  t75 := Try.underlying102
  a75 := Try.isAgg102
  z75 := Try.sizeOf102
  v75 := Try.zeroValue102
  t76 := Try.underlying103
  a76 := Try.isAgg103
  z76 := Try.sizeOf103
  v76 := Try.zeroValue103
  t127 := Try.underlying106
  a127 := Try.isAgg106
  z127 := Try.sizeOf106
  v127 := Try.zeroValue106
  t164 := Try.underlying108
  a164 := Try.isAgg108
  z164 := Try.sizeOf108
  v164 := Try.zeroValue108 }
theorem extraJoin : Go.Proofs.Builder.Extra Try.prog renJoin := {
  sizeBuilder := by kernel_rfl
  liesBuilder := by kernel_rfl
  t5 := Try.underlying5
  a5 := Try.isAgg5
  z5 := Try.sizeOf5
  v5 := Try.zeroValue5
  infoByte := by kernel_rfl
  cellsByte := by kernel_rfl
  sizeByte := by kernel_rfl
  neB5 := by decide }

/-- Texts as lists of bytes. -/
def lists (xs : List ByteArray) : List (List UInt8) := xs.map (·.data.toList)
def texts (l : List (List UInt8)) : List ByteArray := l.map fun x => ⟨x.toArray⟩
theorem lists_texts (l : List (List UInt8)) : lists (texts l) = l := by
  unfold lists texts
  rw [List.map_map]
  exact (List.map_congr_left (fun x _ => by simp)).trans (List.map_id l)
theorem texts_len (l : List (List UInt8)) : (texts l).length = l.length := by unfold texts; rw [List.length_map]
theorem join_bare (xs : List (List UInt8)) : Lib.join xs [] = xs.flatten := by
  cases xs with
  | nil => rfl
  | cons x r =>
    rw [Lib.join_cons]
    unfold Lib.joinTail
    rw [List.flatten_cons]
    congr 2
    exact (List.map_congr_left (fun x _ => by simp)).trans (List.map_id r)

theorem sjoin (a : Option Addr) (n c : Nat) (xs : List ByteArray) (F : Nat → Prop) (w : World) (h : bagS.rep w F [.slice a n c] xs) (hn : n ≤ 100000) (hl : (lists xs).flatten.length ≤ 100000) :
    Calls Try.prog 52 #[.slice a n c, .string ⟨#[]⟩] w fun e w' => e = .returned (.string ⟨(lists xs).flatten.toArray⟩) ∧ Below w.heap.size w w' := by
  obtain ⟨hlen, hc1, hc2⟩ := sliceS_len h
  obtain ⟨_, h2⟩ := Texts.of_rep h
  rcases h2 with h0 | ⟨b, off, rfl, hc⟩
  · subst h0
    have hnil := List.eq_nil_of_length_eq_zero hlen
    subst hnil
    exact (Any.strings_Join_none laysJoin extraJoin a c ⟨#[]⟩ w).mono (by rintro e w' ⟨rfl, rfl⟩; exact ⟨rfl, Below.refl _ _⟩)
  · by_cases h0 : n = 0
    · subst h0
      have hnil := List.eq_nil_of_length_eq_zero hlen
      subst hnil
      exact (Any.strings_Join_none laysJoin extraJoin _ c ⟨#[]⟩ w).mono (by rintro e w' ⟨rfl, rfl⟩; exact ⟨rfl, Below.refl _ _⟩)
    · have hcell : ∀ (j : Nat) x, xs[j]? = some x → w.cell? ⟨b, off + j, none⟩ = some (.string x) := fun j x hx => by
        have hj : j < n := by have := (List.getElem?_eq_some_iff.1 hx).1; omega
        rw [hc j hj, List.getD_eq_getElem?_getD, hx]
        rfl
      have hb : b < w.heap.size := World.block_lt_of_cell? w _ (hc 0 (by omega))
      have hJ : Lib.join (xs.map (·.data.toList)) (ByteArray.mk #[]).data.toList = (lists xs).flatten := join_bare _
      have key := Any.strings_Join laysJoin extraJoin b off c xs ⟨#[]⟩ w hcell hb (by omega) (by omega) (by rw [hJ]; omega)
      rw [hlen, hJ] at key
      exact key

set_option maxRecDepth 100000 in
theorem kjoin (a : Option Addr) (n c : Nat) (xs : List ByteArray) (F : Nat → Prop) (w : World) (h : bagS.rep w F [.slice a n c] xs) (hn : n ≤ 100000) (hl : (lists xs).flatten.length ≤ 100000) :
    Calls Try.prog 37 #[.slice a n c] w fun e w' => e = .returned (.string ⟨(lists xs).flatten.toArray⟩) ∧ Below w.heap.size w w' := by
  have HC := sjoin a n c xs F w h hn hl
  clear h hl
  generalize (lists xs).flatten = l at *
  go_enter Try.func37, Try.ntmps37
  go_wp2_with fail
  refine HC.mono ?_
  rintro e u ⟨rfl, hb⟩
  go_wp2
  go_ret
  exact ⟨rfl, hb⟩

end Go.Proofs.Ytpfhjdlmjehfnaa
