/- Results that lie in variables (no program in sight; out of Lx). -/
import Derived.Test.YtpfhjdlmjehfnaaSlot
namespace Go.Proofs.Ytpfhjdlmjehfnaa
open Go.ChangeShapes Go.WideShapes Go.ChangeAt Go.RowKit
/-- A function whose results are a struct and two more, the struct in a variable. -/
theorem ret_three {P : Program} {fn : Func} {R : Ending → World → Prop} {a : Act} {u : World} {b : Nat} {t : TypeId} {fs : Array Field} {cs : Array Value} {p q r : Tmp} {v2 v3 : Value} {k : Nat} (hu : P.underlying t = some (.struct fs)) (hi : (P.info? t).map (·.size) = some k)
    (hres : fn.results = #[.cell p t, .tmp q, .tmp r]) (hd : a.defers = []) (hp : a.tmps.getD p undef = .pointer (some ⟨b, 0, none⟩)) (hq : a.tmps.getD q undef = v2) (hr : a.tmps.getD r undef = v3) (hB : Box u b t cs) (hk : cs.size = k) (hR : R (.returned (.tuple #[.agg cs, v2, v3])) u) : bodyPost P fn R .ret a u := by
  have hld := run_loadVar_row (P := P) u b t t cs (0, 0) _ hB hu rfl (by rw [hi, hk])
  refine bodyPost_ret (v := .tuple #[.agg cs, v2, v3]) ?_ hd hR
  have hp' : a.tmps[p]?.getD undef = .pointer (some ⟨b, 0, none⟩) := by simpa using hp
  have hq' : a.tmps[q]?.getD undef = v2 := by simpa using hq
  have hr' : a.tmps[r]?.getD undef = v3 := by simpa using hr
  simp only [results, hres]
  simp [asAddr, hp', hq', hr', hld]

end Go.Proofs.Ytpfhjdlmjehfnaa
