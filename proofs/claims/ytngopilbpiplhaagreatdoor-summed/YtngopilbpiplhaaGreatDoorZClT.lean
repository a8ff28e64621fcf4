/-
  Laws for the closures of jumps.
-/
import Derived.Test.YtngopilbpiplhaaGreatDoorZClE
import Derived.Test.YtngopilbpiplhaaGreatDoorZClG
namespace Go.Proofs.YtngopilbpiplhaaGreatDoor
open Go.RowKit

theorem exec_allocSp {o : Oper} {a : Act} {w : World} (ho : o.op = .alloc 132) : (execOp a.eval o).run Tryz.prog w = .ok (.value (.pointer (some ⟨w.heap.size, 0, none⟩))) (w.alloc (spB 0 0)) := by
  unfold execOp
  simp only [ho]
  kernel_rfl
theorem wpOp_new {P : Program} {ops : Array Oper} {Q : Exit → Act → World → Prop} {i : Nat} {o : Oper} {a : Act} {w w' : World} {v : Value} {K : Act → World → Prop} (d : Option Tmp) (hi : ops[i]? = some o) (hd : o.dst = d) (hw : Region.wanted o (yielded ops a.tmps) = true) (he : (execOp a.eval o).run P w = .ok (.value v) w') (h : K (a.put d v) w') : wpOp P ops Q i K a w := by
  subst hd
  unfold wpOp
  simp only [hi, hw, if_true]
  refine .inl ?_
  unfold Oper.wp
  rw [he]
  exact h
theorem Two.setG {w W : World} {c : Cl} {x : Ln} (h : Two w c x W) (g : Nat) (hg : w.heap.size + 1 < g) (cs : Array Value) : Two w c x (W.setRow g cs) :=
  ⟨(setRow_other _ _ _ _ (by omega)).trans h.A, (setRow_other _ _ _ _ (by omega)).trans h.B, h.b.trans ((keep_setRow' w.heap.size _ _ _).below (by omega)), by rw [setRow_size]; exact h.s⟩

end Go.Proofs.YtngopilbpiplhaaGreatDoor
