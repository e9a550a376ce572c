/- 2 texts as one, in their order: Sh, Tk. -/
import Derived.Test.YtokfcjgfpchffaaGreatDoorKc
import Derived.Test.YtokfcjgfpchffaaGreatDoorKe
import Derived.Test.YtokfcjgfpchffaaGreatDoorKa
import Derived.Laws.IdiomStrings

/- Scripts as lists of bytes: pieces, numbers, digits (no program in sight). -/
namespace Go.Proofs.YtokfcjgfpchffaaGreatDoor.Sh
open Go.Proofs.YtokfcjgfpchffaaGreatDoor

/-- The pieces between the bytes c. -/
def pieces (c : UInt8) : List UInt8 → List (List UInt8)
  | [] => [[]]
  | x :: r => if x = c then [] :: pieces c r else
    match pieces c r with
    | [] => [[x]]
    | p :: ps => (x :: p) :: ps
theorem pieces_ne (c : UInt8) (l : List UInt8) : pieces c l ≠ [] := by
  cases l with
  | nil => simp [pieces]
  | cons x r =>
    unfold pieces
    split
    · simp
    · split <;> simp
theorem pieces_hit (c : UInt8) (r : List UInt8) : pieces c (c :: r) = [] :: pieces c r := by
  rw [pieces, if_pos rfl]
theorem pieces_miss {c x : UInt8} (h : x ≠ c) {r p : List UInt8} {ps : List (List UInt8)} (hp : pieces c r = p :: ps) : pieces c (x :: r) = (x :: p) :: ps := by
  rw [pieces, if_neg h, hp]
theorem pieces_none {c : UInt8} : ∀ {p : List UInt8}, (∀ x ∈ p, x ≠ c) → pieces c p = [p] := by
  intro p
  induction p with
  | nil => intro _; rfl
  | cons x r ih =>
    intro h
    exact pieces_miss (h x List.mem_cons_self) (ih (fun y hy => h y (List.mem_cons_of_mem _ hy)))
theorem pieces_cut {c : UInt8} {r : List UInt8} : ∀ {p : List UInt8}, (∀ x ∈ p, x ≠ c) → pieces c (p ++ c :: r) = p :: pieces c r := by
  intro p
  induction p with
  | nil => intro _; exact pieces_hit c r
  | cons x q ih =>
    intro h
    exact pieces_miss (h x List.mem_cons_self) (ih (fun y hy => h y (List.mem_cons_of_mem _ hy)))
theorem pieces_len (c : UInt8) (l : List UInt8) : (pieces c l).length ≤ l.length + 1 := by
  induction l with
  | nil => simp [pieces]
  | cons x r ih =>
    unfold pieces
    split
    · simp; omega
    · split
      · simp
      · rename_i p ps hp
        rw [hp] at ih
        simp at ih ⊢
        omega
/-- What is at hand when i bytes of l were read: the pieces that are whole, and that there is none of c from 'start' on. -/
structure At (c : UInt8) (l : List UInt8) (i start : Nat) (out : List (List UInt8)) : Prop where
  here : start ≤ i
  in' : i ≤ l.length
  all : pieces c l = out ++ pieces c (l.drop start)
  no : ∀ x ∈ (l.drop start).take (i - start), x ≠ c
theorem At.start (c : UInt8) (l : List UInt8) : At c l 0 0 [] := ⟨Nat.le_refl _, Nat.zero_le _, by simp, by simp⟩
theorem At.step {c : UInt8} {l : List UInt8} {i start : Nat} {out : List (List UInt8)} (h : At c l i start out) (hi : i < l.length) (hc : l[i] ≠ c) : At c l (i + 1) start out := by
  refine ⟨by have := h.here; omega, hi, h.all, fun x hx => ?_⟩
  have h0 := h.here
  rw [show i + 1 - start = (i - start) + 1 by omega, List.take_succ_eq_append_getElem (by rw [List.length_drop]; omega)] at hx
  rcases List.mem_append.1 hx with h1 | h1
  · exact h.no x h1
  · rw [List.mem_singleton.1 h1, List.getElem_drop]
    have e : start + (i - start) = i := by omega
    simp only [e]
    exact hc
theorem At.split {c : UInt8} {l : List UInt8} {i start : Nat} {out : List (List UInt8)} (h : At c l i start out) (hi : i < l.length) (hc : l[i] = c) : At c l (i + 1) (i + 1) (out ++ [(l.drop start).take (i - start)]) := by
  have h0 := h.here
  refine ⟨Nat.le_refl _, hi, ?_, by simp⟩
  have hd : l.drop start = (l.drop start).take (i - start) ++ c :: l.drop (i + 1) := by
    have h1 := (List.take_append_drop (i - start) (l.drop start)).symm
    rw [List.drop_drop, show start + (i - start) = i by omega, List.drop_eq_getElem_cons hi, hc] at h1
    exact h1
  rw [h.all, List.append_assoc]
  congr 1
  conv => lhs; rw [hd]
  rw [pieces_cut h.no]
  rfl
theorem At.done {c : UInt8} {l : List UInt8} {start : Nat} {out : List (List UInt8)} (h : At c l l.length start out) : pieces c l = out ++ [(l.drop start).take (l.length - start)] := by
  have hd : (l.drop start).take (l.length - start) = l.drop start := List.take_of_length_le (by rw [List.length_drop]; exact Nat.le_refl _)
  rw [h.all, hd]
  congr 1
  refine pieces_none ?_
  have := h.no
  rw [hd] at this
  exact this

/-- The decimal digits of a number. -/
def dig (n : Nat) : List UInt8 := if h : n ≤ 9 then [UInt8.ofNat (48 + n)] else dig (n / 10) ++ [UInt8.ofNat (48 + n % 10)]
decreasing_by omega
theorem dig_low {n : Nat} (h : n ≤ 9) : dig n = [UInt8.ofNat (48 + n)] := by rw [dig, dif_pos h]
theorem dig_high {n : Nat} (h : ¬ n ≤ 9) : dig n = dig (n / 10) ++ [UInt8.ofNat (48 + n % 10)] := by rw [dig, dif_neg h]

def isDig (x : UInt8) : Prop := 48 ≤ x.toNat ∧ x.toNat ≤ 57
instance (x : UInt8) : Decidable (isDig x) := by unfold isDig; infer_instance
/-- What digits make. -/
def val (l : List UInt8) : Nat := l.foldl (fun n x => 10 * n + (x.toNat - 48)) 0
theorem val_snoc (l : List UInt8) (x : UInt8) : val (l ++ [x]) = 10 * val l + (x.toNat - 48) := by unfold val; rw [List.foldl_append]; rfl
/-- Is it written as a number? -/
def Num (l : List UInt8) : Prop := l ≠ [] ∧ l.length ≤ 9 ∧ (l.length = 1 ∨ l.getD 0 0 ≠ 48) ∧ ∀ x ∈ l, isDig x
theorem val_lt {l : List UInt8} (h : ∀ x ∈ l, isDig x) : val l < 10 ^ l.length := by
  obtain ⟨r, hr⟩ : ∃ r, r = l.reverse := ⟨_, rfl⟩
  have hl : l = r.reverse := by rw [hr, List.reverse_reverse]
  subst hl
  clear hr
  induction r with
  | nil => simp [val]
  | cons x r ih =>
    rw [List.reverse_cons] at h ⊢
    rw [val_snoc, List.length_append, Nat.pow_add]
    have h1 := ih (fun y hy => h y (List.mem_append_left _ hy))
    have h2 := (h x (by simp)).2
    have h3 : (10 : Nat) ^ [x].length = 10 := rfl
    rw [h3]
    omega

end Go.Proofs.YtokfcjgfpchffaaGreatDoor.Sh

/- Texts that are cut, and texts that are none. -/
namespace Go.Proofs.YtokfcjgfpchffaaGreatDoor
open Go.ChangeShapes Go.WideShapes Go.ChangeAt Go.RowKit

theorem str_none {S : ByteArray} (h : S.size = 0) : (S.toList == ([] : List UInt8)) = true := by
  have : S.toList.length = 0 := by rw [ByteArray.toList_eq, Array.length_toList]; exact h
  rw [List.eq_nil_of_length_eq_zero this]; rfl
/-- A string's beginning. -/
theorem cut_to (s : ByteArray) {j : Nat} (h : j ≤ s.size) : ∃ D : ByteArray, (∀ w : World, (Instr.slice 9 (.string s) none (some (.int .i64 (j : Int))) none).run Tryz.prog w = .ok (.string D) w) ∧ D.data.toList = s.data.toList.take j ∧ D.size = j := by
  refine ⟨s.extract 0 j, fun w => ?_, ?_, ?_⟩
  · have hj : 0 ≤ (j : Int) ∧ (j : Int) ≤ (s.size : Int) := ⟨by omega, by omega⟩
    simp [Instr.slice, Instr.sliceBounds, Instr.sliceBound, asIntOf, run_underlying Tryz.underlying9, hj]
    intro hc
    omega
  · have e : s = ByteArray.mk s.data.toList.toArray := by cases s; simp
    conv => lhs; rw [e, ByteArray.extract_mk]
    show (List.take (j - 0) (List.drop 0 s.data.toList)).toArray.toList = _
    rw [List.toList_toArray, Nat.sub_zero, List.drop_zero]
  · rw [ByteArray.size_extract]; omega

theorem str_some {S : ByteArray} (h : S.size ≠ 0) : (S.toList == ([] : List UInt8)) = false := by
  have : S.toList.length ≠ 0 := by rw [ByteArray.toList_eq, Array.length_toList]; exact h
  cases hq : S.toList with
  | nil => rw [hq] at this; exact absurd rfl this
  | cons x l => rfl

/-- A string's end. -/
theorem cut_from (s : ByteArray) {j : Nat} (h : j ≤ s.size) : ∃ D : ByteArray, (∀ w : World, (Instr.slice 9 (.string s) (some (.int .i64 (j : Int))) none none).run Tryz.prog w = .ok (.string D) w) ∧ D.data.toList = s.data.toList.drop j ∧ D.size = s.size - j := by
  refine ⟨s.extract j s.size, fun w => ?_, ?_, ?_⟩
  · have hj : 0 ≤ (j : Int) ∧ (j : Int) ≤ (s.size : Int) := ⟨by omega, by omega⟩
    simp [Instr.slice, Instr.sliceBounds, Instr.sliceBound, asIntOf, run_underlying Tryz.underlying9, hj]
    intro hc
    omega
  · have e : s = ByteArray.mk s.data.toList.toArray := by cases s; simp
    have hsz : s.data.toList.length = s.size := by rw [Array.length_toList]; rfl
    conv => lhs; rw [e, ByteArray.extract_mk]
    show (List.take (s.data.toList.toArray.size - j) (List.drop j s.data.toList)).toArray.toList = _
    rw [List.toList_toArray, List.size_toArray]
    exact List.take_of_length_le (by rw [List.length_drop]; omega)
  · rw [ByteArray.size_extract]; omega
/-- A string's inner part. -/
theorem cut_mid (s : ByteArray) {i j : Nat} (h1 : i ≤ j) (h : j ≤ s.size) : ∃ D : ByteArray, (∀ w : World, (Instr.slice 9 (.string s) (some (.int .i64 (i : Int))) (some (.int .i64 (j : Int))) none).run Tryz.prog w = .ok (.string D) w) ∧ D.data.toList = (s.data.toList.drop i).take (j - i) ∧ D.size = j - i := by
  refine ⟨s.extract i j, fun w => ?_, ?_, ?_⟩
  · have := run_slice_string (P := Tryz.prog) w 9 s .i64 .i64 (i : Int) (j : Int) Tryz.underlying9 (by omega) (by omega) (by omega)
    exact this
  · have e : s = ByteArray.mk s.data.toList.toArray := by cases s; simp
    conv => lhs; rw [e, ByteArray.extract_mk]
  · rw [ByteArray.size_extract]; omega
theorem list_size (s : ByteArray) : s.data.toList.length = s.size := by rw [Array.length_toList]; rfl
theorem text_of (s : ByteArray) : (⟨s.data.toList.toArray⟩ : ByteArray) = s := by cases s; simp
theorem text_is {s : ByteArray} {l : List UInt8} (h : s.data.toList = l) : s = ⟨l.toArray⟩ := by rw [← h, text_of]
theorem bcat (A B : List UInt8) : (⟨A.toArray⟩ : ByteArray) ++ ⟨B.toArray⟩ = ⟨(A ++ B).toArray⟩ := by
  apply ByteArray.ext
  rw [ByteArray.data_append]
  simp
theorem bsize (A : List UInt8) : (⟨A.toArray⟩ : ByteArray).size = A.length := by show A.toArray.size = _; simp

end Go.Proofs.YtokfcjgfpchffaaGreatDoor
