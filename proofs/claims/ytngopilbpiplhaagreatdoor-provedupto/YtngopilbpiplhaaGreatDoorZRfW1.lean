/-
  One more to the place.
-/
import Derived.Test.YtngopilbpiplhaaGreatDoorZRfX
namespace Go.Proofs.YtngopilbpiplhaaGreatDoor
open Go.RowKit
set_option linter.unusedVariables false
set_option linter.unusedSimpArgs false
theorem exec_addI {o : Oper} {a : Act} {w : World} (x : Operand) (n m : Int) (ho : o.op = .binOp .add 3 x (.const (.int .i64 1)) 3) (hx : a.eval x = .int .i64 n) (h : IntKind.i64.wrap (n + 1) = m) : (execOp a.eval o).run Tryz.prog w = .ok (.value (.int .i64 m)) w := by
  subst h
  unfold execOp
  simp only [ho, hx]
  go_simp
  try rfl
end Go.Proofs.YtngopilbpiplhaaGreatDoor
