/-
  The contract of Word.IsMet at the words that need nothing, and at the word that reads a place.
-/
import Derived.Test.YtngopilbpiplhaaGreatDoorZClE
import Derived.BigFrame
namespace Go.Proofs.YtngopilbpiplhaaGreatDoor
open Go.RowKit
set_option linter.unusedVariables false
set_option linter.unusedSimpArgs false
/-- Are all needs of a line met? (tr, ts: must R and S be set; nd: what else the word needs) -/
def metF (tr ts hr hs nd : Bool) : Bool := if (tr && !hr) || (ts && !hs) then false else nd
/-- A word, a claim and a line handed in. -/
structure WCL (w : World) (o : Obj) (c : Cl) (x : Ln) (W : World) : Prop where
  A : W.heap[w.heap.size]? = some o
  B : W.heap[w.heap.size + 1]? = some (clB c)
  C : W.heap[w.heap.size + 1 + 1]? = some (lnB x)
  b : Below w.heap.size w W
theorem wcl_mk (w : World) (o : Obj) (c : Cl) (x : Ln) : WCL w o c x (((w.alloc o).alloc (clB c)).alloc (lnB x)) :=
  ⟨blk_alloc (blk_alloc (blk_new w _) _) _, by have := blk_new (w.alloc o) (clB c); rw [World.size_alloc] at this; exact blk_alloc this _, blk2 w _ _ _,
   (((Below.refl _ _).alloc (Nat.le_refl _) _).alloc (by simp) _).alloc (by simp; omega) _⟩
theorem WCL.below {w W W' : World} {o : Obj} {c : Cl} {x : Ln} (h : WCL w o c x W) (hb : Below W.heap.size W W') : WCL w o c x W' :=
  ⟨(hb.block _ (blk_lt h.A)).trans h.A, (hb.block _ (blk_lt h.B)).trans h.B, (hb.block _ (blk_lt h.C)).trans h.C, h.b.trans (hb.mono h.b.size)⟩
theorem WCL.old {w W : World} {o z : Obj} {c : Cl} {x : Ln} {k : Nat} (h : WCL w o c x W) (hk : w.heap[k]? = some z) : W.heap[k]? = some z := (h.b.block k (blk_lt hk)).trans hk
theorem wpList_wantRow {ops : Array Oper} {rest : List Oper} {o : Oper} {a : Act} {w : World} {Q : Exit → Act → World → Prop} (ty : TypeId) (x : Operand) (ho : o.op = .load ty x) (g : Nat) (hx : a.eval x = .pointer (some ⟨g, 0, none⟩)) (t : TypeId) (cs : Array Value) (fr : Nat × Nat) (d : TypeDesc) (hg : w.heap[g]? = some (.cells cs t fr))
    (hd : (match d with | .struct _ | .array _ _ => true | _ => false) = true) (hu : Tryz.prog.underlying ty = some d) (hi : (Tryz.prog.info? ty).map (·.size) = some cs.size) (hw : Region.wanted o (yielded ops a.tmps) = true)
    (h : wpList Tryz.prog ops Q rest (a.put o.dst (.agg cs)) w) : wpList Tryz.prog ops Q (o :: rest) a w :=
  BigFrame.wpList_want hw fun _ hK => wp_load_row ty x ho g hx t cs fr d hg hu (by cases d <;> first | rfl | exact absurd hd (by simp)) hi (hK _ _ h)
end Go.Proofs.YtngopilbpiplhaaGreatDoor
