/-
  The contract of Word.Exits, word by word.
-/
import Derived.Test.YtngopilbpiplhaaGreatDoorZClM
import Derived.Test.YtngopilbpiplhaaGreatDoorZClE
import Derived.Test.YtngopilbpiplhaaGreatDoorZClB
import Derived.Test.YtngopilbpiplhaaGreatDoorZClS
namespace Go.Proofs.YtngopilbpiplhaaGreatDoor
open Go.RowKit
set_option linter.unusedVariables false
/-- A word, a line and a claim handed in. -/
structure WLC (w : World) (o : Obj) (x : Ln) (c : Cl) (W : World) : Prop where
  A : W.heap[w.heap.size]? = some o
  B : W.heap[w.heap.size + 1]? = some (lnB x)
  C : W.heap[w.heap.size + 1 + 1]? = some (clB c)
  b : Below w.heap.size w W
theorem wlc_mk (w : World) (o : Obj) (x : Ln) (c : Cl) : WLC w o x c (((w.alloc o).alloc (lnB x)).alloc (clB c)) :=
  ⟨blk_alloc (blk_alloc (blk_new w _) _) _, by have := blk_new (w.alloc o) (lnB x); rw [World.size_alloc] at this; exact blk_alloc this _, blk2 w _ _ _,
   (((Below.refl _ _).alloc (Nat.le_refl _) _).alloc (by simp) _).alloc (by simp; omega) _⟩
theorem WLC.below {w W W' : World} {o : Obj} {c : Cl} {x : Ln} (h : WLC w o x c W) (hb : Below W.heap.size W W') : WLC w o x c W' :=
  ⟨(hb.block _ (blk_lt h.A)).trans h.A, (hb.block _ (blk_lt h.B)).trans h.B, (hb.block _ (blk_lt h.C)).trans h.C, h.b.trans (hb.mono h.b.size)⟩
theorem WLC.old {w W : World} {o z : Obj} {c : Cl} {x : Ln} {k : Nat} (h : WLC w o x c W) (hk : w.heap[k]? = some z) : W.heap[k]? = some z := (h.b.block k (blk_lt hk)).trans hk
/-- A way out's cells. -/
def exC (n : Int) (c : Cl) : List Value := .int .i64 n :: (clCells c).toList
theorem exC_len (n : Int) (c : Cl) : (exC n c).length = 26 := rfl
theorem exC_one (n : Int) (c : Cl) : ∀ u ∈ exC n c, u.oneCell' = true := by
  intro u hu
  rcases List.mem_cons.1 hu with rfl | hu
  · rfl
  · exact (Array.all_eq_true_iff_forall_mem.1 (cl_one c)) u (by simpa using hu)
theorem built_ex (n : Int) (c : Cl) : Tryz.prog.built 243 [(0, .int .i64 n), (1, .agg (clCells c))] = some (exC n c).toArray := by kernel_rfl
theorem wpList_buildEx {ops : Array Oper} {rest : List Oper} {o : Oper} {a : Act} {w : World} {Q : Exit → Act → World → Prop} (hgd : o.guard = none) (x y : Operand) (n : Int) (c : Cl) (ho : o.op = .build 243 #[(0, x), (1, y)]) (hx : a.eval x = .int .i64 n) (hy : a.eval y = .agg (clCells c))
    (h : wpList Tryz.prog ops Q rest (a.put o.dst (.agg (exC n c).toArray)) w) : wpList Tryz.prog ops Q (o :: rest) a w := by
  refine wpList_build hgd 243 #[(0, x), (1, y)] ho ?_ ?_
  · simp only [List.map_toArray, List.map_cons, List.map_nil, hx, hy]
    rw [built_ex]; rfl
  · simp only [List.map_toArray, List.map_cons, List.map_nil, hx, hy]
    rw [built_ex]; exact h
theorem exec_buildSliceEx {o : Oper} {a : Act} {w : World} (x : Operand) (n : Int) (c : Cl) (ho : o.op = .buildSlice 240 1 #[(0, x)]) (hx : a.eval x = .agg (exC n c).toArray) :
    (execOp a.eval o).run Tryz.prog w = .ok (.value (.slice (some ⟨w.heap.size, 0, none⟩) 1 1)) (w.alloc (.cells (exC n c).toArray 243)) := by
  unfold execOp
  simp only [ho, List.map_toArray, List.map_cons, List.map_nil, hx]
  kernel_rfl
theorem wpList_buildSliceEx {ops : Array Oper} {rest : List Oper} {o : Oper} {a : Act} {w : World} {Q : Exit → Act → World → Prop} (hgd : o.guard = none) (x : Operand) (n : Int) (c : Cl) (ho : o.op = .buildSlice 240 1 #[(0, x)]) (hx : a.eval x = .agg (exC n c).toArray)
    (h : ∀ w', Hid (w' = w.alloc (.cells (exC n c).toArray 243)) → wpList Tryz.prog ops Q rest (a.put o.dst (.slice (some ⟨w.heap.size, 0, none⟩) 1 1)) w') : wpList Tryz.prog ops Q (o :: rest) a w :=
  wpList_plain hgd fun _ hK => by
    unfold Oper.wp
    rw [exec_buildSliceEx x n c ho hx]
    exact hK _ _ (h _ (hide rfl))
theorem infoEx : (Tryz.prog.info? 243).map (fun i => (i.zero, i.size, i.bytes)) = some (some (.agg #[.int .i64 0, .bool false, .bool false, .bool false, .bool false, .bool false, .bool false, .bool false, .bool false, .bool false, .int .i64 0, .int .i64 0, .int .i64 0, .int .i64 0, .int .i64 0, .int .i64 0, .int .i64 0, .int .i64 0, .int .i64 0, .int .i64 0, .int .i64 0, .int .i64 0, .int .i64 0, .int .i64 0, .int .i64 0, .int .i64 0]), 26, 152) := by kernel_rfl
theorem own_none (w : World) (B : Nat) : w.ownsRow B 243 26 (.slice none 0 0) 0 [] := ⟨rfl, .inl ⟨rfl, rfl⟩⟩
theorem exC_at {w2 w3 : World} (n : Int) (c : Cl) (h : w3 = w2.alloc (.cells (exC n c).toArray 243)) : ∀ j u, (exC n c)[j]? = some u → w3.cell? ((⟨w2.heap.size, 0, none⟩ : Addr).add j) = some u := by
  intro j u hj
  have e : (⟨w2.heap.size, 0, none⟩ : Addr).add j = ⟨w2.heap.size, j, none⟩ := by unfold Addr.add; split <;> simp_all
  rw [e, h, cell_of_blk (blk_new w2 _)]
  simpa using hj
end Go.Proofs.YtngopilbpiplhaaGreatDoor
