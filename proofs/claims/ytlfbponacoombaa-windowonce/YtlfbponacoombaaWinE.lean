/- Accept with letters for what it answers, Right likewise, and the statements' fixed answer. -/
import Derived.Test.YtlfbponacoombaaWinD
import Derived.Test.YtlfbponacoombaaStruct
namespace Go.Proofs.Ytlfbponacoombaa
open Go.ChangeShapes Go.WideShapes Go.ChangeAt Go.RowKit

theorem accept_in (low : Int) (a : Option Addr) (n c : Nat) (l : List Int) (x : Int) (w : World) (h : rowS.rep w everywhere [.slice a n c] l) (hn : n ≤ 1000) (hf : Nx.Fresh ⟨low, l⟩ x) (low' : Int) (l' : List Int) (hV : Nx.put ⟨low, l⟩ x = ⟨low', l'⟩) (n' : Nat) (hn' : l'.length = n') :
    Calls Try.prog 9 #[.agg #[.int .i64 low, .slice a n c], .int .i64 x] w fun e w' => Below w.heap.size w w' ∧ ∃ a' c', e = .returned (.tuple #[.agg #[.int .i64 low', .slice a' n' c'], .bool true]) ∧ rowS.rep w' (w.heap.size ≤ ·) [.slice a' n' c'] l' :=
  (accept low a n c l x w h hn ⟨low', l'⟩ hV).mono (by
    rintro e w' ⟨ht, hb⟩
    refine ⟨hb, ?_⟩
    rcases ht with ⟨_, a', m, c', he, hr⟩ | ⟨hno, _⟩
    · have e1 : m = n' := by rw [← (sliceS_len hr).1]; exact hn'
      subst e1
      exact ⟨a', c', he, hr⟩
    · exact absurd hf hno)
theorem accept_out (low : Int) (a : Option Addr) (n c : Nat) (l : List Int) (x : Int) (w : World) (h : rowS.rep w everywhere [.slice a n c] l) (hn : n ≤ 1000) (hf : ¬ Nx.Fresh ⟨low, l⟩ x) :
    Calls Try.prog 9 #[.agg #[.int .i64 low, .slice a n c], .int .i64 x] w fun e w' => Below w.heap.size w w' ∧ ∃ a' c', e = .returned (.tuple #[.agg #[.int .i64 low, .slice a' n c'], .bool false]) ∧ rowS.rep w' (w.heap.size ≤ ·) [.slice a' n c'] l :=
  (accept low a n c l x w h hn _ rfl).mono (by
    rintro e w' ⟨ht, hb⟩
    refine ⟨hb, ?_⟩
    rcases ht with ⟨hy, _⟩ | ⟨_, a', m, c', he, hr⟩
    · exact absurd hy hf
    · have e1 : m = n := by rw [← (sliceS_len hr).1, ← (sliceS_len h).1]
      subst e1
      exact ⟨a', c', he, hr⟩)
theorem accept_yes (low : Int) (a : Option Addr) (n c : Nat) (l : List Int) (x : Int) (w : World) (h : rowS.rep w everywhere [.slice a n c] l) (hn : n ≤ 1000) (hf : Nx.Fresh ⟨low, l⟩ x) (low' : Int) (l' : List Int) (hV : Nx.put ⟨low, l⟩ x = ⟨low', l'⟩) (n' : Nat) (hn' : l'.length = n') :
    Calls Try.prog 9 #[.agg #[.int .i64 low, .slice a n c], .int .i64 x] w fun e w' => Below w.heap.size w w' ∧ ∃ a' c', e = .returned (.tuple #[.agg #[.int .i64 low', .slice a' n' c'], .bool true]) ∧ rowS.rep w' everywhere [.slice a' n' c'] l' :=
  (accept_in low a n c l x w h hn hf low' l' hV n' hn').mono fun _ _ ⟨hb, a', c', he, hr⟩ => ⟨hb, a', c', he, Shape.any hr⟩
theorem accept_no (low : Int) (a : Option Addr) (n c : Nat) (l : List Int) (x : Int) (w : World) (h : rowS.rep w everywhere [.slice a n c] l) (hn : n ≤ 1000) (hf : ¬ Nx.Fresh ⟨low, l⟩ x) :
    Calls Try.prog 9 #[.agg #[.int .i64 low, .slice a n c], .int .i64 x] w fun e w' => Below w.heap.size w w' ∧ ∃ a' c', e = .returned (.tuple #[.agg #[.int .i64 low, .slice a' n c'], .bool false]) ∧ rowS.rep w' everywhere [.slice a' n c'] l :=
  (accept_out low a n c l x w h hn hf).mono fun _ _ ⟨hb, a', c', he, hr⟩ => ⟨hb, a', c', he, Shape.any hr⟩
theorem raccept_yes (low : Int) (a : Option Addr) (n c : Nat) (l : List Int) (x : Int) (w : World) (h : rowS.rep w everywhere [.slice a n c] l) (hf : Nx.Fresh ⟨low, l⟩ x) (low' : Int) (l' : List Int) (hV : Nx.put ⟨low, l⟩ x = ⟨low', l'⟩) (n' : Nat) (hn' : l'.length = n') :
    Calls Try.prog 10 #[.agg #[.int .i64 low, .slice a n c], .int .i64 x] w fun e w' => Below w.heap.size w w' ∧ ∃ a' c', e = .returned (.tuple #[.agg #[.int .i64 low', .slice a' n' c'], .bool true]) ∧ rowS.rep w' everywhere [.slice a' n' c'] l' :=
  (raccept low a n c l x w h ⟨low', l'⟩ hV).mono (by
    rintro e w' ⟨ht, hb⟩
    refine ⟨hb, ?_⟩
    rcases ht with ⟨_, a', m, c', he, hr⟩ | ⟨hno, _⟩
    · have e1 : m = n' := by rw [← (sliceS_len hr).1]; exact hn'
      subst e1
      exact ⟨a', c', he, hr⟩
    · exact absurd hf hno)
theorem raccept_no (low : Int) (a : Option Addr) (n c : Nat) (l : List Int) (x : Int) (w : World) (h : rowS.rep w everywhere [.slice a n c] l) (hf : ¬ Nx.Fresh ⟨low, l⟩ x) :
    Calls Try.prog 10 #[.agg #[.int .i64 low, .slice a n c], .int .i64 x] w fun e w' => Below w.heap.size w w' ∧ ∃ a' c', e = .returned (.tuple #[.agg #[.int .i64 low, .slice a' n c'], .bool false]) ∧ rowS.rep w' everywhere [.slice a' n c'] l :=
  (raccept low a n c l x w h _ rfl).mono (by
    rintro e w' ⟨ht, hb⟩
    refine ⟨hb, ?_⟩
    rcases ht with ⟨hy, _⟩ | ⟨_, a', m, c', he, hr⟩
    · exact absurd hy hf
    · have e1 : m = n := by rw [← (sliceS_len hr).1, ← (sliceS_len h).1]
      subst e1
      exact ⟨a', c', he, hr⟩)
theorem right_yes (low : Int) (a : Option Addr) (n c : Nat) (l : List Int) (w : World) (h : rowS.rep w everywhere [.slice a n c] l) (hr : Nx.Right ⟨low, l⟩) :
    Calls Try.prog 12 #[.agg #[.int .i64 low, .slice a n c]] w fun e w' => e = .returned (.bool true) ∧ Below w.heap.size w w' :=
  (right low a n c l w h).mono fun _ _ ⟨hs, hb⟩ => ⟨hs.is hr, hb⟩

theorem right_tell (low : Int) (a : Option Addr) (n c : Nat) (l : List Int) (w : World) (h : rowS.rep w everywhere [.slice a n c] l) (b : Bool) (hb : tell (Nx.Right ⟨low, l⟩) = b) :
    Calls Try.prog 12 #[.agg #[.int .i64 low, .slice a n c]] w fun e w' => e = .returned (.bool b) ∧ Below w.heap.size w w' :=
  (right low a n c l w h).mono fun _ _ ⟨hs, hb'⟩ => ⟨by rw [← hb]; exact hs.form, hb'⟩
theorem rright_tell (low : Int) (a : Option Addr) (n c : Nat) (l : List Int) (w : World) (h : rowS.rep w everywhere [.slice a n c] l) (b : Bool) (hb : tell (Nx.Right ⟨low, l⟩) = b) :
    Calls Try.prog 13 #[.agg #[.int .i64 low, .slice a n c]] w fun e w' => e = .returned (.bool b) ∧ Below w.heap.size w w' :=
  (rright low a n c l w h).mono fun _ _ ⟨hs, hb'⟩ => ⟨by rw [← hb]; exact hs.form, hb'⟩
theorem rsame_yes (x : Int) (a : Option Addr) (n c : Nat) (l : List Int) (b : Option Addr) (d : Nat) (w : World) (h1 : rowS.rep w everywhere [.slice a n c] l) (h2 : rowS.rep w everywhere [.slice b n d] l) (hn : n ≤ 1000) :
    Calls Try.prog 11 #[.agg #[.int .i64 x, .slice a n c], .agg #[.int .i64 x, .slice b n d]] w fun e w' => e = .returned (.bool true) ∧ Below w.heap.size w w' :=
  (rsame x a n c l x b n d l w h1 h2 hn).mono fun _ _ ⟨hs, hb⟩ => ⟨hs.is ⟨rfl, rfl⟩, hb⟩
theorem put_len {low : Int} {l : List Int} {x : Int} (hf : Nx.Fresh ⟨low, l⟩ x) : (Nx.put ⟨low, l⟩ x).seen.length ≤ 32 := Nat.le_trans (Nx.run_length _ _) (Nx.cut_right hf).2.2.1

theorem right_nil {n : Int} (h : 0 ≤ n ∧ n ≤ 2147483647) : Nx.Right ⟨n, []⟩ := ⟨h.1, h.2, by simp, fun x hx => absurd hx (by simp), List.Pairwise.nil⟩

theorem wawake (w : World) : Calls Try.prog 8 #[] w fun e w' => e = .returned (.bool true) ∧ Below w.heap.size w w' := by
  have H0 : Hid (Nx.Fresh ⟨0, []⟩ 0 ∧ Nx.put ⟨0, []⟩ 0 = ⟨1, []⟩) := Nx.in_order (n := 0) ⟨by decide, by decide⟩
  have H1 : Hid (¬ Nx.Fresh ⟨1, []⟩ 0) := fun hf => by have : (1 : Int) ≤ 0 := hf.2.1; omega
  have H2 : Hid (Nx.Right ⟨1, []⟩) := right_nil ⟨by decide, by decide⟩
  go_enter Try.func8, Try.ntmps8
  go_wp2_with fail
  refine (accept_yes 0 none 0 0 [] 0 w (rep_none _ _ _) (by omega) H0.out.1 1 [] H0.out.2 0 rfl).mono ?_
  rintro e u1 ⟨hb1, a1, c1, rfl, hr1⟩
  have hr2 := Shape.below hr1 (new_bel u1 (.cells #[.int .i64 1, .slice a1 0 c1] 24))
  have hB2 := bel_alloc hb1 (.cells #[.int .i64 1, .slice a1 0 c1] 24)
  have k2 := Box.new u1 24 #[.int .i64 1, .slice a1 0 c1]
  go_wp2_with fail
  refine (accept_no 1 a1 0 c1 [] 0 _ hr2 (by omega) H1.out).mono ?_
  rintro e u3 ⟨hb3, a3, c3, rfl, hr3⟩
  have k4 := (k2.keep hb3).keep (new_bel u3 (.cells #[.int .i64 1, .slice a3 0 c3] 24))
  have hr4 := Shape.below (Shape.below hr2 hb3) (new_bel u3 (.cells #[.int .i64 1, .slice a3 0 c3] 24))
  have hB4 := bel_alloc (bel_then hB2 hb3) (.cells #[.int .i64 1, .slice a3 0 c3] 24)
  clear k2 hr1 hr2 hr3 hb1 hb3 hB2
  have p0 := k4.cell 0 rfl
  have p1 := k4.cell 1 rfl
  go_wp2_with (go_at_call 12; refine (right_yes 1 a1 0 c1 [] _ hr4 H2.out).mono ?_; rintro e u5 ⟨rfl, hb5⟩; have hB5 := bel_then hB4 hb5)
  go_ret
  exact ⟨rfl, hB5⟩

end Go.Proofs.Ytlfbponacoombaa
