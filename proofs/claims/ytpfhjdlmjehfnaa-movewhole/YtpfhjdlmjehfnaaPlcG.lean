/- Add and Retire over whatever maps, and the fixed answer of layer 17's statements. -/
import Derived.Test.YtpfhjdlmjehfnaaPlcC
import Derived.Test.YtpfhjdlmjehfnaaPlcD
import Derived.Test.YtpfhjdlmjehfnaaSm
import Derived.Test.YtpfhjdlmjehfnaaSy
namespace Go.Proofs.Ytpfhjdlmjehfnaa
open Go.ChangeShapes Go.WideShapes Go.ChangeAt Go.RowKit

theorem padd_any (e : Int) (a : Option Addr) (n c : Nat) (m : List (List Int)) (x y : Int) (w : World) (h : matS.rep w everywhere [.slice a n c] m) (hs : Pl.Short m) (E X : Int) (M : List (List Int)) (hA : Pl.Add e m x y E M X) :
    Calls Try.prog 24 #[.agg #[.int .i64 e, .slice a n c], .int .i64 x, .int .i64 y] w fun r w' => Below w.heap.size w w' ∧ ∃ a' c', r = .returned (.tuple #[.agg #[.int .i64 E, .slice a' n c'], .int .i64 X]) ∧ matS.rep w' everywhere [.slice a' n c'] M :=
  (padd (· < w.heap.size) e a n c m x y w (Shape.low h) (fun _ hb => hb) hs E X M hA).mono fun _ _ ⟨h1, a', c', h2, h3⟩ => ⟨h1, a', c', h2, Shape.any h3⟩
theorem Pl.fine {e : Int} {m : List (List Int)} {x n : Int} (h1 : Pl.Right e m) (h2 : 0 ≤ x ∧ x < (m.length : Int)) (h3 : 1 ≤ n ∧ n ≤ 4) (h4 : e ≠ 2147483647) : ¬ Pl.Wrong e m x n := by
  rintro (h | h | h | h)
  · exact h h1
  · exact h h2
  · exact h h3
  · exact h4 h
theorem Pl.one_right {e : Int} {l : List Int} (he : 0 ≤ e ∧ e ≤ 2147483647) (hl : l ∈ Pl.rows) : Pl.Right e [l] := ⟨he, by simp, fun k hk => by rw [List.mem_singleton.1 hk]; exact Pl.rows_ok hl⟩
theorem Pl.one_short {l : List Int} (hl : l.length ≤ 1000) : Pl.Short [l] := ⟨by simp, fun k hk => by rw [List.mem_singleton.1 hk]; exact hl⟩
theorem Pl.small_short {m : List (List Int)} (h : Mx.Small m) : Pl.Short m := ⟨by have := h.1; omega, fun l hl => by have := h.2 l hl; omega⟩


end Go.Proofs.Ytpfhjdlmjehfnaa
