/- '==' of parts; what Right and Tokens tell, as bools (for ModelExact). -/
import Derived.Test.YtmechoeoaadfeaaMdlH
namespace Go.Proofs.Ytmechoeoaadfeaa
open Go.ChangeShapes Go.WideShapes Go.ChangeAt Go.RowKit

theorem eqPartIn (p q r s : Int) (w : World) : (Op.equalIn 10000 41 (.agg #[.int .i64 p, .int .i64 q, .int .i64 r, .int .i64 s]) (.agg #[.int .i64 p, .int .i64 q, .int .i64 r, .int .i64 s])).run Try.prog w = .ok true w := by
  have u3 := Try.underlying3
  have a3 := Try.isAgg3
  have z3 := Try.sizeOf3
  have hS : Try.prog.underlying 41 = some (.struct (Try.prog.fieldsOf 41)) := by kernel_rfl
  have hp : Try.prog.stoodInHeld 41 = false := by kernel_rfl
  rw [show (10000 : Nat) = 9999 + 1 from rfl, run_equalIn_agg w 9999 41 _ _ hS hp]
  simp only [Program.fieldsOf, Try.underlying41]
  go_simp
theorem neqPart (p q r s : Int) (w : World) : (binOp .neq 41 (.agg #[.int .i64 p, .int .i64 q, .int .i64 r, .int .i64 s]) (.agg #[.int .i64 p, .int .i64 q, .int .i64 r, .int .i64 s])).run Try.prog w = .ok (.bool false) w := by
  rw [run_neq_struct, eqPartIn p q r s]
  rfl

/-- What a callee tells, under a letter. -/
theorem tells {P : Program} {f : FuncId} {args : Array Value} {w : World} {p : Prop} {b : Bool} (hb : tell p = b) (h : Calls P f args w fun e w' => Says e p ∧ Below w.heap.size w w') : Calls P f args w fun e w' => e = .returned (.bool b) ∧ Below w.heap.size w w' :=
  h.mono fun _ _ ⟨hs, hb'⟩ => ⟨by rw [← hb]; exact hs.form, hb'⟩

end Go.Proofs.Ytmechoeoaadfeaa
