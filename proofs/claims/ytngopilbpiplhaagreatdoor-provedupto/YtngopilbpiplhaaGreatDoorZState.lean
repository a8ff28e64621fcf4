/-
  The contract of (*machine.Machine).State: the state is the machine's.
  The contracts of the closures that set a register's span.
  The contracts of Span.join, Span.letGo and Claim.Join.
  The contracts of Span.letGo and Claim.LetGo.
-/
import Derived.Test.YtngopilbpiplhaaGreatDoorZClB
import Derived.Lib.BufferWrite
import Derived.StillTailTactics
import Derived.OrdersHeld
namespace Go.Proofs.YtngopilbpiplhaaGreatDoor
open Go.RowKit
theorem mixed : Tryz.prog.follows .mixedOrders = true := by kernel_rfl
end Go.Proofs.YtngopilbpiplhaaGreatDoor

namespace Go.Proofs.YtngopilbpiplhaaGreatDoor
open Go.RowKit
/-- Blocks more: what was handed in (a claim, a line), and room for an answer. -/
structure Two (w : World) (c : Cl) (x : Ln) (W : World) : Prop where
  A : W.heap[w.heap.size]? = some (clB c)
  B : W.heap[w.heap.size + 1]? = some (lnB x)
  b : Below w.heap.size w W
  s : w.heap.size + 3 ≤ W.heap.size
theorem two_mk (w : World) (c : Cl) (x : Ln) (z : Obj) : Two w c x (((w.alloc (clB c)).alloc (lnB x)).alloc z) :=
  ⟨blk_alloc (blk_alloc (blk_new w _) _) _, by have := blk_new (w.alloc (clB c)) (lnB x); rw [World.size_alloc] at this; exact blk_alloc this _,
   (((Below.refl _ _).alloc (Nat.le_refl _) _).alloc (by simp) _).alloc (by simp; omega) _, by simp⟩
theorem Two.below {w W W' : World} {c : Cl} {x : Ln} (h : Two w c x W) (hb : Below W.heap.size W W') : Two w c x W' :=
  ⟨(hb.block _ (blk_lt h.A)).trans h.A, (hb.block _ (blk_lt h.B)).trans h.B, h.b.trans (hb.mono (by have := h.s; omega)), Nat.le_trans h.s hb.size⟩
theorem Two.old {w W : World} {c : Cl} {x : Ln} {o : Obj} {k : Nat} (h : Two w c x W) (hk : w.heap[k]? = some o) : W.heap[k]? = some o := (h.b.block k (blk_lt hk)).trans hk
theorem Two.setRow {w W : World} {c : Cl} {x : Ln} (h : Two w c x W) (cs : Array Value) : Two w c x (W.setRow (w.heap.size + 1 + 1) cs) :=
  ⟨(setRow_other _ _ _ _ (by omega)).trans h.A, (setRow_other _ _ _ _ (by omega)).trans h.B, h.b.trans ((keep_setRow' w.heap.size _ _ _).below (by omega)), by rw [setRow_size]; exact h.s⟩
section
variable {P : Program} {ops : Array Oper} {Q : Exit → Act → World → Prop} {S : World → Prop}
theorem yields_row {o : Oper} {a : Act} (hw : Region.wanted o (yielded ops a.tmps) = true) (ty : TypeId) (x : Operand) (ho : o.op = .load ty x) (g : Nat) (hx : a.eval x = .pointer (some ⟨g, 0, none⟩)) (cs : Array Value) (t : TypeId) (d : TypeDesc)
    (hS : ∀ w, S w → w.heap[g]? = some (.cells cs t)) (hu : P.underlying ty = some d) (hd : (match d with | .struct _ | .array _ _ => true | _ => false) = true) (hi : (P.info? ty).map (·.size) = some cs.size) : YieldsIf P ops S o (.agg cs) a :=
  .inl ⟨hw, fun w h => by
    unfold execOp
    simp only [ho, hx, Instr.loadAt, Instr.sureAddr, Sem.run_bind, Sem.run_pure, Result.andThen_ok, run_loadVar_row w g t ty cs _ d (hS w h) hu hd hi]⟩
theorem held_take {i : Nat} {o : Oper} {v : Value} {fuel : Nat} {listed : Array Bool} {a : Act} {w : World} (d : Option Tmp) (hi : ops[i]? = some o) (hd : o.dst = d)
    (hs : Region.noSelect ops = true) (hf : Region.free .any ops listed i = true) (hr : (Region.ready .any ops listed).contains i = true)
    (hQ : ∀ c a w, Q (.panic c) (a.put d v) w → Q (.panic c) a w) (hy : YieldsIf P ops S o v a) (hS : S w)
    (h : wpAnyH P .any ops Q S fuel (listed.setIfInBounds i true) (a.put d v) w) : wpAnyH P .any ops Q S (fuel + 1) listed a w := by
  subst hd
  exact wpAnyH_take hi hs hf hr hQ hy hS h
theorem hT {o : Oper} {v : Value} {fuel : Nat} {listed : Array Bool} {a : Act} {w : World} (k d : Nat) (hi : ops[k]? = some o) (hd : o.dst = some d) (hb : (Region.noSelect ops && Region.free .any ops listed k && (Region.ready .any ops listed).contains k) = true)
    (hQ : ∀ c a w, Q (.panic c) (a.put (some d) v) w → Q (.panic c) a w) (hy : YieldsIf P ops S o v a) (hS : S w) (h : wpAnyH P .any ops Q S fuel (listed.setIfInBounds k true) (a.put (some d) v) w) : wpAnyH P .any ops Q S (fuel + 1) listed a w := by
  rw [Bool.and_eq_true, Bool.and_eq_true] at hb
  exact held_take (some d) hi hd hb.1.1 hb.1.2 hb.2 hQ hy hS h
theorem held_call {i : Nat} {o : Oper} {a : Act} {w : World} {fuel : Nat} {listed : Array Bool} {f : FuncId} {args : Array Value} (d : Option Tmp) (hr : Region.ready .any ops listed = [i]) (hi : ops[i]? = some o) (hd : o.dst = d) (hw : Region.wanted o (yielded ops a.tmps) = true)
    (he : (execOp a.eval o).run P w = .ok (.enter f args) w) (hc : Calls P f args w fun e w' => ∃ v, e = .returned v ∧ S w' ∧ wpAnyH P .any ops Q S fuel (listed.setIfInBounds i true) (a.put d v) w') : wpAnyH P .any ops Q S (fuel + 1) listed a w := by
  subst hd
  refine wpAnyH_all hr (by simp) fun j hj => ?_
  obtain rfl : j = i := by simpa using hj
  unfold wpOp
  simp only [hi, hw, if_true]
  refine .inl ?_
  unfold Oper.wp
  rw [he]
  show Calls P f args w _
  refine hc.mono ?_
  rintro e w' ⟨v, rfl, h1, h2⟩
  exact ⟨h1, h2⟩
theorem held_skip {i : Nat} {o : Oper} {a : Act} {w w' : World} {fuel : Nat} {listed : Array Bool} (hr : Region.ready .any ops listed = [i]) (hi : ops[i]? = some o) (hw : Region.wanted o (yielded ops a.tmps) = true)
    (he : (execOp a.eval o).run P w = .ok .skip w') (hS : S w') (h : wpAnyH P .any ops Q S fuel (listed.setIfInBounds i true) (a.put o.dst undef) w') : wpAnyH P .any ops Q S (fuel + 1) listed a w := by
  refine wpAnyH_all hr (by simp) fun j hj => ?_
  obtain rfl : j = i := by simpa using hj
  unfold wpOp
  simp only [hi, hw, if_true]
  refine .inl ?_
  unfold Oper.wp
  rw [he]
  exact ⟨hS, h⟩
end
/-- A store of a claim. -/
theorem exec_storeCl {o : Oper} {a : Act} {w : World} (x y : Operand) (ho : o.op = .store 135 x y) (g : Nat) (SC old : Array Value) (hx : a.eval x = .pointer (some ⟨g, 0, none⟩)) (hy : a.eval y = .agg SC) (hg : w.heap[g]? = some (.cells old 135)) (hsz : SC.size = 25) (hold : old.size = 25) (hone : SC.all (·.oneCell') = true) :
    (execOp a.eval o).run Tryz.prog w = .ok .skip (w.setRow g SC) := by
  unfold execOp
  simp only [ho, hx, hy, Instr.storeAt, Instr.sureAddr, Sem.run_bind, Sem.run_pure, Result.andThen_ok, run_storeVar_row (P := Tryz.prog) w g 135 135 old SC hg (by rw [hsz]; kernel_rfl) (by rw [hsz, hold]) hone]
theorem held_storeCl {ops : Array Oper} {Q : Exit → Act → World → Prop} {S : World → Prop} {i : Nat} {o : Oper} {a : Act} {w : World} {fuel : Nat} {listed : Array Bool} (x y : Operand) (g : Nat) (SC old : Array Value)
    (hr : Region.ready .any ops listed = [i]) (hi : ops[i]? = some o) (hw : Region.wanted o (yielded ops a.tmps) = true) (ho : o.op = .store 135 x y) (hx : a.eval x = .pointer (some ⟨g, 0, none⟩)) (hy : a.eval y = .agg SC)
    (hg : w.heap[g]? = some (.cells old 135)) (hsz : SC.size = 25) (hold : old.size = 25) (hone : SC.all (·.oneCell') = true) (hS : S (w.setRow g SC))
    (hd : o.dst = none) (h : ∀ w', Hid (w' = w.setRow g SC) → wpAnyH Tryz.prog .any ops Q S fuel (listed.setIfInBounds i true) a w') : wpAnyH Tryz.prog .any ops Q S (fuel + 1) listed a w :=
  held_skip hr hi hw (exec_storeCl x y ho g SC old hx hy hg hsz hold hone) hS (by rw [hd]; exact h _ (hide rfl))
/-- A store of a span. -/
theorem exec_storeSp {o : Oper} {a : Act} {w : World} (x y : Operand) (ho : o.op = .store 132 x y) (g : Nat) (SC old : Array Value) (hx : a.eval x = .pointer (some ⟨g, 0, none⟩)) (hy : a.eval y = .agg SC) (hg : w.heap[g]? = some (.cells old 132)) (hsz : SC.size = 2) (hold : old.size = 2) (hone : SC.all (·.oneCell') = true) :
    (execOp a.eval o).run Tryz.prog w = .ok .skip (w.setRow g SC) := by
  unfold execOp
  simp only [ho, hx, hy, Instr.storeAt, Instr.sureAddr, Sem.run_bind, Sem.run_pure, Result.andThen_ok, run_storeVar_row (P := Tryz.prog) w g 132 132 old SC hg (by rw [hsz]; kernel_rfl) (by rw [hsz, hold]) hone]
theorem held_storeSp {ops : Array Oper} {Q : Exit → Act → World → Prop} {S : World → Prop} {i : Nat} {o : Oper} {a : Act} {w : World} {fuel : Nat} {listed : Array Bool} (x y : Operand) (g : Nat) (SC old : Array Value)
    (hr : Region.ready .any ops listed = [i]) (hi : ops[i]? = some o) (hw : Region.wanted o (yielded ops a.tmps) = true) (ho : o.op = .store 132 x y) (hx : a.eval x = .pointer (some ⟨g, 0, none⟩)) (hy : a.eval y = .agg SC)
    (hg : w.heap[g]? = some (.cells old 132)) (hsz : SC.size = 2) (hold : old.size = 2) (hone : SC.all (·.oneCell') = true) (hS : S (w.setRow g SC))
    (hd : o.dst = none) (h : ∀ w', Hid (w' = w.setRow g SC) → wpAnyH Tryz.prog .any ops Q S fuel (listed.setIfInBounds i true) a w') : wpAnyH Tryz.prog .any ops Q S (fuel + 1) listed a w :=
  held_skip hr hi hw (exec_storeSp x y ho g SC old hx hy hg hsz hold hone) hS (by rw [hd]; exact h _ (hide rfl))
section
variable {P : Program} {ops : Array Oper} {Q : Exit → Act → World → Prop}
theorem exec_loadRow {o : Oper} {a : Act} {w : World} (ty : TypeId) (x : Operand) (ho : o.op = .load ty x) (g : Nat) (hx : a.eval x = .pointer (some ⟨g, 0, none⟩)) (cs : Array Value) (t : TypeId) (d : TypeDesc) (hg : w.heap[g]? = some (.cells cs t)) (hu : P.underlying ty = some d) (hd : (match d with | .struct _ | .array _ _ => true | _ => false) = true) (hi : (P.info? ty).map (·.size) = some cs.size) :
    (execOp a.eval o).run P w = .ok (.value (.agg cs)) w := by
  unfold execOp
  simp only [ho, hx, Instr.loadAt, Instr.sureAddr, Sem.run_bind, Sem.run_pure, Result.andThen_ok, run_loadVar_row w g t ty cs _ d hg hu hd hi]
theorem wpOp_val {i : Nat} {o : Oper} {a : Act} {w : World} {v : Value} {K : Act → World → Prop} (d : Option Tmp) (hi : ops[i]? = some o) (hd : o.dst = d) (hw : Region.wanted o (yielded ops a.tmps) = true) (he : (execOp a.eval o).run P w = .ok (.value v) w) (h : K (a.put d v) w) : wpOp P ops Q i K a w := by
  subst hd
  unfold wpOp
  simp only [hi, hw, if_true]
  refine .inl ?_
  unfold Oper.wp
  rw [he]
  exact h
theorem wpOp_call {i : Nat} {o : Oper} {a : Act} {w : World} {f : FuncId} {args : Array Value} {K : Act → World → Prop} (d : Option Tmp) (hi : ops[i]? = some o) (hd : o.dst = d) (hw : Region.wanted o (yielded ops a.tmps) = true)
    (he : (execOp a.eval o).run P w = .ok (.enter f args) w) (hc : Calls P f args w fun e w' => ∃ v, e = .returned v ∧ K (a.put d v) w') : wpOp P ops Q i K a w := by
  subst hd
  unfold wpOp
  simp only [hi, hw, if_true]
  refine .inl ?_
  unfold Oper.wp
  rw [he]
  show Calls P f args w _
  refine hc.mono ?_
  rintro e w' ⟨v, rfl, h⟩
  exact h
end
end Go.Proofs.YtngopilbpiplhaaGreatDoor

namespace Go.Proofs.YtngopilbpiplhaaGreatDoor
open Go.RowKit
set_option maxRecDepth 100000 in
set_option maxHeartbeats 2000000 in
theorem sjoin_any (a b c d : Int) (w : World) : Calls Tryz.prog 249 #[spC a b, spC c d] w fun e w' => e = .returned (spC (min a c) (max b d)) ∧ w' = ((w.alloc (spB a b)).alloc (spB c d)).alloc (spB (min a c) (max b d)) := by
  go_enter Tryz.func249, Tryz.ntmps249
  go_wp2
  exact bodyPost_ret (results_cell_row rfl _ _ (w.heap.size + 1 + 1) 132 _ _ _ rfl (blk2 w _ _ _) Tryz.underlying132 rfl (by kernel_rfl)) rfl ⟨rfl, rfl⟩
theorem blk3' (w : World) (A B C D : Obj) : ((((w.alloc A).alloc B).alloc C).alloc D).heap[w.heap.size + 1 + 1 + 1]? = some D := by
  have := blk_new (((w.alloc A).alloc B).alloc C) D
  rw [World.size_alloc, World.size_alloc, World.size_alloc] at this
  exact this
/-- What both claims say, of the registers below k. -/
def joinK (c d : Cl) : Nat → Cl
  | 0 => clNone
  | k + 1 => if c.has k && d.has k then (joinK c d k).with_ k (min (c.lo k) (d.lo k)) (max (c.hi k) (d.hi k)) else joinK c d k
def joinF (c d : Cl) : Cl := if c.never then d else if d.never then c else joinK c d 8
/-- Two claims handed in. -/
structure CC (w : World) (c d : Cl) (W : World) : Prop where
  A : W.heap[w.heap.size]? = some (clB c)
  B : W.heap[w.heap.size + 1]? = some (clB d)
  b : Below w.heap.size w W
  s : w.heap.size + 3 ≤ W.heap.size
theorem cc_mk (w : World) (c d : Cl) (z : Obj) : CC w c d (((w.alloc (clB c)).alloc (clB d)).alloc z) :=
  ⟨blk_alloc (blk_alloc (blk_new w _) _) _, by have := blk_new (w.alloc (clB c)) (clB d); rw [World.size_alloc] at this; exact blk_alloc this _,
   (((Below.refl _ _).alloc (Nat.le_refl _) _).alloc (by simp) _).alloc (by simp; omega) _, by simp⟩
theorem CC.below {w W W' : World} {c d : Cl} (h : CC w c d W) (hb : Below W.heap.size W W') : CC w c d W' :=
  ⟨(hb.block _ (blk_lt h.A)).trans h.A, (hb.block _ (blk_lt h.B)).trans h.B, h.b.trans (hb.mono (by have := h.s; omega)), Nat.le_trans h.s hb.size⟩
theorem CC.setRow {w W : World} {c d : Cl} (h : CC w c d W) (g : Nat) (hg : w.heap.size + 1 < g) (cs : Array Value) : CC w c d (W.setRow g cs) :=
  ⟨(setRow_other _ _ _ _ (by omega)).trans h.A, (setRow_other _ _ _ _ (by omega)).trans h.B, h.b.trans ((keep_setRow' w.heap.size _ _ _).below (by omega)), by rw [setRow_size]; exact h.s⟩
theorem index8 (f : Nat → Bool) (w : World) (k : Nat) (hk : k < 8) : (Instr.index 130 (.agg #[.bool (f 0), .bool (f 1), .bool (f 2), .bool (f 3), .bool (f 4), .bool (f 5), .bool (f 6), .bool (f 7)]) (.int .i64 (k : Int))).run Tryz.prog w = .ok (.bool (f k)) w :=
  lt8' (p := fun k => (Instr.index 130 (.agg #[.bool (f 0), .bool (f 1), .bool (f 2), .bool (f 3), .bool (f 4), .bool (f 5), .bool (f 6), .bool (f 7)]) (.int .i64 (k : Int))).run Tryz.prog w = .ok (.bool (f k)) w) (by kernel_rfl) (by kernel_rfl) (by kernel_rfl) (by kernel_rfl) (by kernel_rfl) (by kernel_rfl) (by kernel_rfl) (by kernel_rfl) k hk
theorem held_val {ops : Array Oper} {Q : Exit → Act → World → Prop} {S : World → Prop} {i : Nat} {o : Oper} {a : Act} {w : World} {v : Value} {fuel : Nat} {listed : Array Bool} (e : Option Tmp) (hr : Region.ready .any ops listed = [i]) (hi : ops[i]? = some o) (hd : o.dst = e) (hw : Region.wanted o (yielded ops a.tmps) = true)
    (he : (execOp a.eval o).run Tryz.prog w = .ok (.value v) w) (hS : S w) (h : wpAnyH Tryz.prog .any ops Q S fuel (listed.setIfInBounds i true) (a.put e v) w) : wpAnyH Tryz.prog .any ops Q S (fuel + 1) listed a w := by
  refine wpAnyH_all hr (by simp) fun j hj => ?_
  obtain rfl : j = i := by simpa using hj
  exact wpOp_val e hi hd hw he ⟨hS, h⟩
theorem joinK_yes (c d : Cl) (k : Nat) (h1 : c.has k = true) (h2 : d.has k = true) : joinK c d (k + 1) = (joinK c d k).with_ k (min (c.lo k) (d.lo k)) (max (c.hi k) (d.hi k)) := by simp [joinK, h1, h2]
theorem joinK_no (c d : Cl) (k : Nat) (h : c.has k = false ∨ d.has k = false) : joinK c d (k + 1) = joinK c d k := by rcases h with h | h <;> simp [joinK, h]
set_option maxRecDepth 100000 in
set_option maxHeartbeats 2000000 in
theorem Join_any (c d : Cl) (w : World) : Calls Tryz.prog 214 #[.agg (clCells c), .agg (clCells d)] w fun e w' => e = .returned (.agg (clCells (joinF c d))) ∧ Below w.heap.size w w' := by
  have hcc0 := cc_mk w c d (clB clNone)
  have hz0 := blk2 w (clB c) (clB d) (clB clNone)
  cases hn : c.never with
  | true =>
    have HJ : Hid (joinF c d = d) := hide (by simp [joinF, hn])
    have n1 : (clCells c)[0]? = some (.bool true) := by rw [cl_never, hn]
    go_enter Tryz.func214, Tryz.ntmps214
    go_wp2_with (first | (refine wpList_load_row rfl 135 (.tmp 3) rfl (w.heap.size + 1) rfl _ _ _ _ hcc0.B Tryz.underlying135 rfl (by kernel_rfl) ?_) | (refine wpList_storeCl rfl (.tmp 4) (.tmp 10) rfl (w.heap.size + 1 + 1) (clCells d) _ _ rfl rfl hz0 (cl_size _) (cl_size _) (cl_one _) ?_))
    intro w' hw
    have hg : w'.heap[w.heap.size + 1 + 1]? = some (clB d) := by rw [hw.out]; exact setRow_heap _ _ _ _ _ _ hz0
    have hb : Below w.heap.size w w' := by rw [hw.out]; exact (hcc0.setRow _ (by omega) _).b
    clear hw
    go_wp2
    exact bodyPost_ret (results_cell_row rfl _ _ (w.heap.size + 1 + 1) 135 _ _ _ rfl hg Tryz.underlying135 rfl (by kernel_rfl)) rfl ⟨by rw [HJ.out], hb⟩
  | false =>
    have n1 : (clCells c)[0]? = some (.bool false) := by rw [cl_never, hn]
    cases hm : d.never with
    | true =>
      have HJ : Hid (joinF c d = c) := hide (by simp [joinF, hn, hm])
      have n2 : (clCells d)[0]? = some (.bool true) := by rw [cl_never, hm]
      go_enter Tryz.func214, Tryz.ntmps214
      go_wp2_with (first | (refine wpList_load_row rfl 135 (.tmp 2) rfl w.heap.size rfl _ _ _ _ hcc0.A Tryz.underlying135 rfl (by kernel_rfl) ?_) | (refine wpList_storeCl rfl (.tmp 4) (.tmp 13) rfl (w.heap.size + 1 + 1) (clCells c) _ _ rfl rfl hz0 (cl_size _) (cl_size _) (cl_one _) ?_))
      intro w' hw
      have hg : w'.heap[w.heap.size + 1 + 1]? = some (clB c) := by rw [hw.out]; exact setRow_heap _ _ _ _ _ _ hz0
      have hb : Below w.heap.size w w' := by rw [hw.out]; exact (hcc0.setRow _ (by omega) _).b
      clear hw
      go_wp2
      exact bodyPost_ret (results_cell_row rfl _ _ (w.heap.size + 1 + 1) 135 _ _ _ rfl hg Tryz.underlying135 rfl (by kernel_rfl)) rfl ⟨by rw [HJ.out], hb⟩
    | false =>
      have HJ : Hid (joinF c d = joinK c d 8) := hide (by simp [joinF, hn, hm])
      have n2 : (clCells d)[0]? = some (.bool false) := by rw [cl_never, hm]
      have k1 : (clCells c)[1]? = some (.bool (c.has 0)) := rfl
      have k2 : (clCells c)[1 + 1]? = some (.bool (c.has 1)) := rfl
      have k3 : (clCells c)[1 + 2]? = some (.bool (c.has 2)) := rfl
      have k4 : (clCells c)[1 + 3]? = some (.bool (c.has 3)) := rfl
      have k5 : (clCells c)[1 + 4]? = some (.bool (c.has 4)) := rfl
      have k6 : (clCells c)[1 + 5]? = some (.bool (c.has 5)) := rfl
      have k7 : (clCells c)[1 + 6]? = some (.bool (c.has 6)) := rfl
      have k8 : (clCells c)[1 + 7]? = some (.bool (c.has 7)) := rfl
      have hz3 := blk3' w (clB c) (clB d) (clB clNone) (clB clNone)
      have hcc1 := hcc0.below ((Below.refl _ _).alloc (Nat.le_refl _) (clB clNone))
      have hz1 : ((((w.alloc (clB c)).alloc (clB d)).alloc (clB clNone)).alloc (clB clNone)).heap[w.heap.size + 1 + 1]? = some (clB clNone) := blk_alloc hz0 _
      go_enter Tryz.func214, Tryz.ntmps214
      go_wp2_with (refine wpList_storeCl rfl (.tmp 5) (.tmp 14) rfl (w.heap.size + 1 + 1 + 1) (clCells clNone) _ _ rfl rfl hz3 rfl rfl (cl_one _) ?_)
      intro w1 hw
      have hcc2 : CC w c d w1 := by rw [hw.out]; exact hcc1.setRow _ (by omega) _
      have hz2 : w1.heap[w.heap.size + 1 + 1]? = some (clB clNone) := by rw [hw.out, setRow_other _ _ _ _ (by omega)]; exact hz1
      have hg2 : w1.heap[w.heap.size + 1 + 1 + 1]? = some (clB clNone) := by rw [hw.out]; exact setRow_heap _ _ _ _ _ _ hz3
      clear hw hcc1 hcc0 hz0 hz1 hz3 n1 n2 k1 k2 k3 k4 k5 k6 k7 k8
      have HC2 := hide hcc2
      have HZ2 := hide hz2
      have HG2 := hide hg2
      clear hcc2 hz2 hg2
      have k1 : w1.cell? ⟨w.heap.size, 1, none⟩ = some (.bool (c.has 0)) := cell_of_blk HC2.out.A 1
      have k2 : w1.cell? ⟨w.heap.size, 1 + 1, none⟩ = some (.bool (c.has 1)) := cell_of_blk HC2.out.A 2
      have k3 : w1.cell? ⟨w.heap.size, 1 + 2, none⟩ = some (.bool (c.has 2)) := cell_of_blk HC2.out.A 3
      have k4 : w1.cell? ⟨w.heap.size, 1 + 3, none⟩ = some (.bool (c.has 3)) := cell_of_blk HC2.out.A 4
      have k5 : w1.cell? ⟨w.heap.size, 1 + 4, none⟩ = some (.bool (c.has 4)) := cell_of_blk HC2.out.A 5
      have k6 : w1.cell? ⟨w.heap.size, 1 + 5, none⟩ = some (.bool (c.has 5)) := cell_of_blk HC2.out.A 6
      have k7 : w1.cell? ⟨w.heap.size, 1 + 6, none⟩ = some (.bool (c.has 6)) := cell_of_blk HC2.out.A 7
      have k8 : w1.cell? ⟨w.heap.size, 1 + 7, none⟩ = some (.bool (c.has 7)) := cell_of_blk HC2.out.A 8
      go_wp2_with fail
      clear k1 k2 k3 k4 k5 k6 k7 k8
      go_loopw [17] (fun iv w' => ∃ k : Nat, k ≤ 8 ∧ iv = .int .i64 k ∧ CC w c d w' ∧ w'.heap[w.heap.size + 1 + 1]? = some (clB clNone) ∧ w'.heap[w.heap.size + 1 + 1 + 1]? = some (clB (joinK c d k))) (fun iv _ => 8 - (intOf iv).toNat)
      case atStart => exact ⟨0, by omega, rfl, HC2.out, HZ2.out, HG2.out⟩
      case round =>
        clear HC2 HZ2 HG2
        obtain ⟨k, hk8, rfl, hcc3, hz3, hg3⟩ := hrel
        have HC3 := hide hcc3
        have HZ3 := hide hz3
        have HG3 := hide hg3
        clear hcc3 hz3 hg3
        by_cases hk : k < 8
        · have hkI : (k : Int) < 8 := by omega
          have hidx := index8 c.has wr k hk
          have dk : wr.cell? ⟨w.heap.size + 1, 1 + k, none⟩ = some (.bool (d.has k)) := (cell_of_blk HC3.out.B (1 + k)).trans (cl_has d k hk)
          cases hck : c.has k with
          | true =>
            rw [hck] at hidx
            cases hdk : d.has k with
            | true =>
              rw [hdk] at dk
              have HJ1 := hide (joinK_yes c d k hck hdk)
              go_wp2_with fail
              refine wp_region_held (S := CC w c d) mixed ?_
              have hb0 : Below wr.heap.size wr { wr with drawn := wr.drawn + 1 } := (Below.refl _ _).drew
              generalize ({ wr with drawn := wr.drawn + 1 } : World) = w0 at *
              have HS0 := hide (HC3.out.below hb0)
              have HZ0 := hide ((hb0.block _ (blk_lt HZ3.out)).trans HZ3.out)
              have HG0 := hide ((hb0.block _ (blk_lt HG3.out)).trans HG3.out)
              clear hb0 hidx dk
              refine hT 1 29 rfl rfl (by kernel_rfl) (fun _ _ _ h => h) (.inl ⟨by kernel_rfl, fun w' h => by go_simp; rfl⟩) HS0.out ?_
              simp only [Act.put, zzA, zzB, zzC]
              refine hT 2 30 rfl rfl (by kernel_rfl) (fun _ _ _ h => h) (.inl ⟨by kernel_rfl, fun w' h => by go_simp; rfl⟩) HS0.out ?_
              simp only [Act.put, zzA, zzB, zzC]
              refine hT 3 31 rfl rfl (by kernel_rfl) (fun _ _ _ h => h) (.inl ⟨by kernel_rfl, fun w' h => by go_simp; rfl⟩) HS0.out ?_
              simp only [Act.put, zzA, zzB, zzC]
              refine hT 4 32 rfl rfl (by kernel_rfl) (fun _ _ _ h => h) (.inl ⟨by kernel_rfl, fun w' h => by go_simp; rfl⟩) HS0.out ?_
              simp only [Act.put, zzA, zzB, zzC]
              refine hT 5 33 rfl rfl (by kernel_rfl) (fun _ _ _ h => h) (.inl ⟨by kernel_rfl, fun w' h => by have hc := (cell_of_blk h.A (9 + k * 2)).trans (cl_lo c k hk); have hd := (cell_of_blk h.A (9 + k * 2 + 1)).trans (cl_hi c k hk); go_simp; rfl⟩) HS0.out ?_
              simp only [Act.put, zzA, zzB, zzC]
              refine hT 6 34 rfl rfl (by kernel_rfl) (fun _ _ _ h => h) (.inl ⟨by kernel_rfl, fun w' h => by go_simp; rfl⟩) HS0.out ?_
              simp only [Act.put, zzA, zzB, zzC]
              refine hT 7 35 rfl rfl (by kernel_rfl) (fun _ _ _ h => h) (.inl ⟨by kernel_rfl, fun w' h => by go_simp; rfl⟩) HS0.out ?_
              simp only [Act.put, zzA, zzB, zzC]
              refine hT 8 36 rfl rfl (by kernel_rfl) (fun _ _ _ h => h) (.inl ⟨by kernel_rfl, fun w' h => by go_simp; rfl⟩) HS0.out ?_
              simp only [Act.put, zzA, zzB, zzC]
              refine hT 9 37 rfl rfl (by kernel_rfl) (fun _ _ _ h => h) (.inl ⟨by kernel_rfl, fun w' h => by have hc := (cell_of_blk h.B (9 + k * 2)).trans (cl_lo d k hk); have hd := (cell_of_blk h.B (9 + k * 2 + 1)).trans (cl_hi d k hk); go_simp; rfl⟩) HS0.out ?_
              simp only [Act.put, zzA, zzB, zzC]
              refine wpAnyH_all (rs := [0, 10]) (by kernel_rfl) (by simp) ?_
              intro i hi
              have hi' : i = 0 ∨ i = 10 := by simpa using hi
              clear hi
              rcases hi' with rfl | rfl
              · refine wpOp_val (some 28) rfl rfl (by kernel_rfl) (exec_loadRow 135 (.tmp 5) rfl (w.heap.size + 1 + 1 + 1) (by kernel_rfl) (clCells (joinK c d k)) _ _ HG0.out Tryz.underlying135 rfl (by kernel_rfl)) ⟨HS0.out, ?_⟩
                simp only [Act.put, zzA, zzB, zzC]
                refine held_call (i := 10) (some 38) (by kernel_rfl) rfl rfl (by kernel_rfl) (by go_simp; exact ⟨rfl, rfl⟩) ?_
                refine (sjoin_any _ _ _ _ _).mono ?_
                rintro e w8 ⟨rfl, hw8⟩
                have hb8 : Below w0.heap.size w0 w8 := by rw [hw8]; exact (((Below.refl _ _).alloc (Nat.le_refl _) _).alloc (by simp) _).alloc (by simp; omega) _
                have HS8 := hide (HS0.out.below hb8)
                have HZ8 := hide ((hb8.block _ (blk_lt HZ0.out)).trans HZ0.out)
                have HG8 := hide ((hb8.block _ (blk_lt HG0.out)).trans HG0.out)
                clear hb8 hw8
                refine ⟨_, rfl, HS8.out, ?_⟩
                simp only [Act.put, zzA, zzB, zzC]
                refine held_call (i := 11) (some 39) (by kernel_rfl) rfl rfl (by kernel_rfl) (by go_simp; exact ⟨rfl, rfl⟩) ?_
                refine (With_any (joinK c d k) k hk _ _ _).mono ?_
                rintro e w9 ⟨rfl, hw9⟩
                have hb9 : Below w8.heap.size w8 w9 := by rw [hw9]; exact ((((Below.refl _ _).alloc (Nat.le_refl _) _).alloc (by simp) _).alloc (by simp; omega) _).drew
                have HS9 := hide (HS8.out.below hb9)
                have HZ9 := hide ((hb9.block _ (blk_lt HZ8.out)).trans HZ8.out)
                have HG9 := hide ((hb9.block _ (blk_lt HG8.out)).trans HG8.out)
                clear hb9 hw9
                refine ⟨_, rfl, HS9.out, ?_⟩
                simp only [Act.put, zzA, zzB, zzC]
                refine held_storeCl (i := 12) (.tmp 5) (.tmp 39) (w.heap.size + 1 + 1 + 1) (clCells ((joinK c d k).with_ k (min (c.lo k) (d.lo k)) (max (c.hi k) (d.hi k)))) _ (by kernel_rfl) rfl (by kernel_rfl) rfl (by kernel_rfl) (by kernel_rfl) HG9.out (cl_size _) (cl_size _) (cl_one _) (HS9.out.setRow _ (by omega) _) rfl ?_
                intro wa hwa
                have HSA : Hid (CC w c d wa) := hide (by rw [hwa.out]; exact HS9.out.setRow _ (by omega) _)
                have HZA : Hid (wa.heap[w.heap.size + 1 + 1]? = some (clB clNone)) := hide (by rw [hwa.out, setRow_other _ _ _ _ (by omega)]; exact HZ9.out)
                have HGA : Hid (wa.heap[w.heap.size + 1 + 1 + 1]? = some (clB (joinK c d (k + 1)))) := hide (by rw [hwa.out, HJ1.out]; exact setRow_heap _ _ _ _ _ _ HG9.out)
                clear hwa
                refine wpAnyH_done (by kernel_rfl) ?_ _
                go_wp2
                go_roundw
                case rel => exact ⟨k + 1, by omega, by go_num, HSA.out, HZA.out, HGA.out⟩
                case measure => simp [intOf]; omega
              · refine wpOp_call (some 38) rfl rfl (by kernel_rfl) (by go_simp; exact ⟨rfl, rfl⟩) ?_
                refine (sjoin_any _ _ _ _ _).mono ?_
                rintro e w8 ⟨rfl, hw8⟩
                have hb8 : Below w0.heap.size w0 w8 := by rw [hw8]; exact (((Below.refl _ _).alloc (Nat.le_refl _) _).alloc (by simp) _).alloc (by simp; omega) _
                have HS8 := hide (HS0.out.below hb8)
                have HZ8 := hide ((hb8.block _ (blk_lt HZ0.out)).trans HZ0.out)
                have HG8 := hide ((hb8.block _ (blk_lt HG0.out)).trans HG0.out)
                clear hb8 hw8
                refine ⟨_, rfl, HS8.out, ?_⟩
                simp only [Act.put, zzA, zzB, zzC]
                refine held_val (i := 0) (some 28) (by kernel_rfl) rfl rfl (by kernel_rfl) (exec_loadRow 135 (.tmp 5) rfl (w.heap.size + 1 + 1 + 1) (by kernel_rfl) (clCells (joinK c d k)) _ _ HG8.out Tryz.underlying135 rfl (by kernel_rfl)) HS8.out ?_
                simp only [Act.put, zzA, zzB, zzC]
                refine held_call (i := 11) (some 39) (by kernel_rfl) rfl rfl (by kernel_rfl) (by go_simp; exact ⟨rfl, rfl⟩) ?_
                refine (With_any (joinK c d k) k hk _ _ _).mono ?_
                rintro e w9 ⟨rfl, hw9⟩
                have hb9 : Below w8.heap.size w8 w9 := by rw [hw9]; exact ((((Below.refl _ _).alloc (Nat.le_refl _) _).alloc (by simp) _).alloc (by simp; omega) _).drew
                have HS9 := hide (HS8.out.below hb9)
                have HZ9 := hide ((hb9.block _ (blk_lt HZ8.out)).trans HZ8.out)
                have HG9 := hide ((hb9.block _ (blk_lt HG8.out)).trans HG8.out)
                clear hb9 hw9
                refine ⟨_, rfl, HS9.out, ?_⟩
                simp only [Act.put, zzA, zzB, zzC]
                refine held_storeCl (i := 12) (.tmp 5) (.tmp 39) (w.heap.size + 1 + 1 + 1) (clCells ((joinK c d k).with_ k (min (c.lo k) (d.lo k)) (max (c.hi k) (d.hi k)))) _ (by kernel_rfl) rfl (by kernel_rfl) rfl (by kernel_rfl) (by kernel_rfl) HG9.out (cl_size _) (cl_size _) (cl_one _) (HS9.out.setRow _ (by omega) _) rfl ?_
                intro wa hwa
                have HSA : Hid (CC w c d wa) := hide (by rw [hwa.out]; exact HS9.out.setRow _ (by omega) _)
                have HZA : Hid (wa.heap[w.heap.size + 1 + 1]? = some (clB clNone)) := hide (by rw [hwa.out, setRow_other _ _ _ _ (by omega)]; exact HZ9.out)
                have HGA : Hid (wa.heap[w.heap.size + 1 + 1 + 1]? = some (clB (joinK c d (k + 1)))) := hide (by rw [hwa.out, HJ1.out]; exact setRow_heap _ _ _ _ _ _ HG9.out)
                clear hwa
                refine wpAnyH_done (by kernel_rfl) ?_ _
                go_wp2
                go_roundw
                case rel => exact ⟨k + 1, by omega, by go_num, HSA.out, HZA.out, HGA.out⟩
                case measure => simp [intOf]; omega
            | false =>
              rw [hdk] at dk
              have HJ1 := hide (joinK_no c d k (.inr hdk))
              go_wp2
              go_roundw
              case rel => exact ⟨k + 1, by omega, by go_num, HC3.out, HZ3.out, by rw [HJ1.out]; exact HG3.out⟩
              case measure => simp [intOf]; omega
          | false =>
            rw [hck] at hidx
            have HJ1 := hide (joinK_no c d k (.inl hck))
            go_wp2
            go_roundw
            case rel => exact ⟨k + 1, by omega, by go_num, HC3.out, HZ3.out, by rw [HJ1.out]; exact HG3.out⟩
            case measure => simp [intOf]; omega
        · obtain rfl : k = 8 := by omega
          go_wp2_with (first | (refine wpList_load_row rfl 135 (.tmp 5) rfl (w.heap.size + 1 + 1 + 1) rfl _ _ _ _ HG3.out Tryz.underlying135 rfl (by kernel_rfl) ?_) | (refine wpList_storeCl rfl (.tmp 4) (.tmp 41) rfl (w.heap.size + 1 + 1) (clCells (joinK c d 8)) _ _ rfl rfl HZ3.out (cl_size _) (cl_size _) (cl_one _) ?_))
          intro w' hw
          have hg : w'.heap[w.heap.size + 1 + 1]? = some (clB (joinK c d 8)) := by rw [hw.out]; exact setRow_heap _ _ _ _ _ _ HZ3.out
          have hb : Below w.heap.size w w' := by rw [hw.out]; exact (HC3.out.setRow _ (by omega) _).b
          clear hw
          go_wp2
          exact bodyPost_ret (results_cell_row rfl _ _ (w.heap.size + 1 + 1) 135 _ _ _ rfl hg Tryz.underlying135 rfl (by kernel_rfl)) rfl ⟨by rw [HJ.out], hb⟩
end Go.Proofs.YtngopilbpiplhaaGreatDoor

namespace Go.Proofs.YtngopilbpiplhaaGreatDoor
open Go.RowKit
def letLo (a c : Int) : Int := if a < c then -9223372036854775808 else a
def letHi (b d : Int) : Int := if d < b then 9223372036854775807 else b
set_option maxRecDepth 100000 in
set_option maxHeartbeats 2000000 in
theorem sletGo_any (a b c d : Int) (w : World) : Calls Tryz.prog 250 #[spC a b, spC c d] w fun e w' => e = .returned (spC (letLo a c) (letHi b d)) ∧ w' = ((w.alloc (spB (letLo a c) (letHi b d))).alloc (spB c d)).alloc (spB (letLo a c) (letHi b d)) := by
  by_cases h1 : a < c
  · have e1 : letLo a c = -9223372036854775808 := if_pos h1
    by_cases h2 : d < b
    · have e2 : letHi b d = 9223372036854775807 := if_pos h2
      rw [e1, e2]; clear e1 e2
      go_enter Tryz.func250, Tryz.ntmps250
      go_wp2
      exact bodyPost_ret (results_cell_row rfl _ _ (w.heap.size + 1 + 1) 132 _ _ _ rfl (blk2 w _ _ _) Tryz.underlying132 rfl (by kernel_rfl)) rfl ⟨rfl, rfl⟩
    · have e2 : letHi b d = b := if_neg h2
      rw [e1, e2]; clear e1 e2
      go_enter Tryz.func250, Tryz.ntmps250
      go_wp2
      exact bodyPost_ret (results_cell_row rfl _ _ (w.heap.size + 1 + 1) 132 _ _ _ rfl (blk2 w _ _ _) Tryz.underlying132 rfl (by kernel_rfl)) rfl ⟨rfl, rfl⟩
  · have e1 : letLo a c = a := if_neg h1
    by_cases h2 : d < b
    · have e2 : letHi b d = 9223372036854775807 := if_pos h2
      rw [e1, e2]; clear e1 e2
      go_enter Tryz.func250, Tryz.ntmps250
      go_wp2
      exact bodyPost_ret (results_cell_row rfl _ _ (w.heap.size + 1 + 1) 132 _ _ _ rfl (blk2 w _ _ _) Tryz.underlying132 rfl (by kernel_rfl)) rfl ⟨rfl, rfl⟩
    · have e2 : letHi b d = b := if_neg h2
      rw [e1, e2]; clear e1 e2
      go_enter Tryz.func250, Tryz.ntmps250
      go_wp2
      exact bodyPost_ret (results_cell_row rfl _ _ (w.heap.size + 1 + 1) 132 _ _ _ rfl (blk2 w _ _ _) Tryz.underlying132 rfl (by kernel_rfl)) rfl ⟨rfl, rfl⟩
/-- The claim with each end that grew beyond what it was let go, of the registers below k. -/
def letK (c d : Cl) : Nat → Cl
  | 0 => c
  | k + 1 => if c.has k && d.has k then (letK c d k).with_ k (letLo ((letK c d k).lo k) (d.lo k)) (letHi ((letK c d k).hi k) (d.hi k)) else letK c d k
theorem letK_has (c d : Cl) : ∀ k j, (letK c d k).has j = c.has j
  | 0, _ => rfl
  | k + 1, j => by
    unfold letK
    split
    · rename_i h
      have hk : c.has k = true := by simp at h; exact h.1
      show (if j = k then true else (letK c d k).has j) = c.has j
      split
      · rename_i e; rw [e, hk]
      · exact letK_has c d k j
    · exact letK_has c d k j
theorem letK_yes (c d : Cl) (k : Nat) (h1 : c.has k = true) (h2 : d.has k = true) : letK c d (k + 1) = (letK c d k).with_ k (letLo ((letK c d k).lo k) (d.lo k)) (letHi ((letK c d k).hi k) (d.hi k)) := by
  conv => lhs; unfold letK
  simp [h1, h2]
theorem letK_no (c d : Cl) (k : Nat) (h : c.has k = false ∨ d.has k = false) : letK c d (k + 1) = letK c d k := by
  conv => lhs; unfold letK
  rcases h with h | h <;> simp [h]
theorem cl_set (c : Cl) (r : Nat) (h : r < 8) (hh : c.has r = true) (a b : Int) : ((clCells c).setIfInBounds (9 + r * 2) (.int .i64 a)).setIfInBounds (9 + r * 2 + 1) (.int .i64 b) = clCells (c.with_ r a b) := by
  rw [← cl_with c r h a b]
  congr 2
  have := cl_has c r h
  rw [hh] at this
  apply Array.ext_getElem?
  intro j
  rw [Array.getElem?_setIfInBounds]
  by_cases e : 1 + r = j
  · subst e
    rw [this, if_pos rfl, if_pos (by rw [cl_size]; omega)]
  · rw [if_neg e]
/-- The second claim handed in. -/
def CB (w : World) (d : Cl) (W : World) : Prop := W.heap[w.heap.size + 1]? = some (clB d) ∧ Below w.heap.size w W ∧ w.heap.size + 3 ≤ W.heap.size
theorem CC.cb {w W : World} {c d : Cl} (h : CC w c d W) : CB w d W := ⟨h.B, h.b, h.s⟩
theorem CB.cc {w W : World} {c d : Cl} (h : CB w d W) (hA : W.heap[w.heap.size]? = some (clB c)) : CC w c d W := ⟨hA, h.1, h.2.1, h.2.2⟩
set_option maxRecDepth 100000 in
set_option maxHeartbeats 2000000 in
theorem LetGo_any (c d : Cl) (w : World) : Calls Tryz.prog 215 #[.agg (clCells c), .agg (clCells d)] w fun e w' => e = .returned (.agg (clCells (letK c d 8))) ∧ Below w.heap.size w w' := by
  have hcc0 := cc_mk w c d (clB clNone)
  have hz0 := blk2 w (clB c) (clB d) (clB clNone)
  have HC2 := hide hcc0
  have HZ2 := hide hz0
  clear hcc0 hz0
  have k1 : (clCells c)[1]? = some (.bool (c.has 0)) := rfl
  have k2 : (clCells c)[1 + 1]? = some (.bool (c.has 1)) := rfl
  have k3 : (clCells c)[1 + 2]? = some (.bool (c.has 2)) := rfl
  have k4 : (clCells c)[1 + 3]? = some (.bool (c.has 3)) := rfl
  have k5 : (clCells c)[1 + 4]? = some (.bool (c.has 4)) := rfl
  have k6 : (clCells c)[1 + 5]? = some (.bool (c.has 5)) := rfl
  have k7 : (clCells c)[1 + 6]? = some (.bool (c.has 6)) := rfl
  have k8 : (clCells c)[1 + 7]? = some (.bool (c.has 7)) := rfl
  go_enter Tryz.func215, Tryz.ntmps215
  go_wp2_with fail
  clear k1 k2 k3 k4 k5 k6 k7 k8
  go_loopw [9] (fun iv w' => ∃ k : Nat, k ≤ 8 ∧ iv = .int .i64 k ∧ CC w (letK c d k) d w' ∧ w'.heap[w.heap.size + 1 + 1]? = some (clB clNone)) (fun iv _ => 8 - (intOf iv).toNat)
  case atStart => exact ⟨0, by omega, rfl, HC2.out, HZ2.out⟩
  case round =>
    clear HC2 HZ2
    obtain ⟨k, hk8, rfl, hcc3, hz3⟩ := hrel
    have HC3 := hide hcc3
    have HZ3 := hide hz3
    clear hcc3 hz3
    by_cases hk : k < 8
    · have hkI : (k : Int) < 8 := by omega
      have hidx := index8 c.has wr k hk
      have dk : wr.cell? ⟨w.heap.size + 1, 1 + k, none⟩ = some (.bool (d.has k)) := (cell_of_blk HC3.out.B (1 + k)).trans (cl_has d k hk)
      cases hck : c.has k with
      | true =>
        rw [hck] at hidx
        cases hdk : d.has k with
        | true =>
          rw [hdk] at dk
          have HJ1 := hide (letK_yes c d k hck hdk)
          have hhas : (letK c d k).has k = true := by rw [letK_has]; exact hck
          go_wp2_with fail
          refine wp_region_held (S := CB w d) mixed ?_
          have hb0 : Below wr.heap.size wr { wr with drawn := wr.drawn + 1 } := (Below.refl _ _).drew
          generalize ({ wr with drawn := wr.drawn + 1 } : World) = w0 at *
          have HC0 := hide (HC3.out.below hb0)
          have HS0 := hide HC0.out.cb
          have HZ0 := hide ((hb0.block _ (blk_lt HZ3.out)).trans HZ3.out)
          clear hb0 hidx dk
          refine hT 0 20 rfl rfl (by kernel_rfl) (fun _ _ _ h => h) (.inl ⟨by kernel_rfl, fun w' h => by go_simp; rfl⟩) HS0.out ?_
          simp only [Act.put, zzA, zzB, zzC]
          refine hT 1 21 rfl rfl (by kernel_rfl) (fun _ _ _ h => h) (.inl ⟨by kernel_rfl, fun w' h => by go_simp; rfl⟩) HS0.out ?_
          simp only [Act.put, zzA, zzB, zzC]
          refine hT 2 22 rfl rfl (by kernel_rfl) (fun _ _ _ h => h) (.inl ⟨by kernel_rfl, fun w' h => by go_simp; rfl⟩) HS0.out ?_
          simp only [Act.put, zzA, zzB, zzC]
          refine hT 3 23 rfl rfl (by kernel_rfl) (fun _ _ _ h => h) (.inl ⟨by kernel_rfl, fun w' h => by go_simp; rfl⟩) HS0.out ?_
          simp only [Act.put, zzA, zzB, zzC]
          refine hT 5 25 rfl rfl (by kernel_rfl) (fun _ _ _ h => h) (.inl ⟨by kernel_rfl, fun w' h => by go_simp; rfl⟩) HS0.out ?_
          simp only [Act.put, zzA, zzB, zzC]
          refine hT 6 26 rfl rfl (by kernel_rfl) (fun _ _ _ h => h) (.inl ⟨by kernel_rfl, fun w' h => by go_simp; rfl⟩) HS0.out ?_
          simp only [Act.put, zzA, zzB, zzC]
          refine hT 7 27 rfl rfl (by kernel_rfl) (fun _ _ _ h => h) (.inl ⟨by kernel_rfl, fun w' h => by go_simp; rfl⟩) HS0.out ?_
          simp only [Act.put, zzA, zzB, zzC]
          refine hT 8 28 rfl rfl (by kernel_rfl) (fun _ _ _ h => h) (.inl ⟨by kernel_rfl, fun w' h => by have hc := (cell_of_blk h.1 (9 + k * 2)).trans (cl_lo d k hk); have hd := (cell_of_blk h.1 (9 + k * 2 + 1)).trans (cl_hi d k hk); go_simp; rfl⟩) HS0.out ?_
          simp only [Act.put, zzA, zzB, zzC]
          refine hT 10 30 rfl rfl (by kernel_rfl) (fun _ _ _ h => h) (.inl ⟨by kernel_rfl, fun w' h => by go_simp; rfl⟩) HS0.out ?_
          simp only [Act.put, zzA, zzB, zzC]
          have a0 := (cell_of_blk HC0.out.A (9 + k * 2)).trans (cl_lo (letK c d k) k hk)
          have a1 := (cell_of_blk HC0.out.A (9 + k * 2 + 1)).trans (cl_hi (letK c d k) k hk)
          refine held_val (i := 4) (some 24) (by kernel_rfl) rfl rfl (by kernel_rfl) (by go_simp; rfl) HS0.out ?_
          simp only [Act.put, zzA, zzB, zzC]
          clear a0 a1
          refine held_call (i := 9) (some 29) (by kernel_rfl) rfl rfl (by kernel_rfl) (by go_simp; exact ⟨rfl, rfl⟩) ?_
          refine (sletGo_any _ _ _ _ _).mono ?_
          rintro e w8 ⟨rfl, hw8⟩
          have hb8 : Below w0.heap.size w0 w8 := by rw [hw8]; exact (((Below.refl _ _).alloc (Nat.le_refl _) _).alloc (by simp) _).alloc (by simp; omega) _
          have HC8 := hide (HC0.out.below hb8)
          have HZ8 := hide ((hb8.block _ (blk_lt HZ0.out)).trans HZ0.out)
          clear hb8 hw8
          refine ⟨_, rfl, HC8.out.cb, ?_⟩
          simp only [Act.put, zzA, zzB, zzC]
          refine hT 11 31 rfl rfl (by kernel_rfl) (fun _ _ _ h => h) (.inl ⟨by kernel_rfl, fun w' h => by go_simp; rfl⟩) HC8.out.cb ?_
          simp only [Act.put, zzA, zzB, zzC]
          have a0 := (cell_of_blk HC8.out.A (9 + k * 2)).trans (cl_lo (letK c d k) k hk)
          have a1 := (cell_of_blk HC8.out.A (9 + k * 2 + 1)).trans (cl_hi (letK c d k) k hk)
          have fr := frozen_of_blk HC8.out.A
          have hA : ((w8.setCell ⟨w.heap.size, 9 + k * 2, none⟩ (.int .i64 (letLo ((letK c d k).lo k) (d.lo k)))).setCell ⟨w.heap.size, 9 + k * 2 + 1, none⟩ (.int .i64 (letHi ((letK c d k).hi k) (d.hi k)))).heap[w.heap.size]? = some (clB (letK c d (k + 1))) := by
            have := blk_setCell (blk_setCell HC8.out.A (9 + k * 2) (.int .i64 (letLo ((letK c d k).lo k) (d.lo k)))) (9 + k * 2 + 1) (.int .i64 (letHi ((letK c d k).hi k) (d.hi k)))
            rw [cl_set (letK c d k) k hk hhas, ← HJ1.out] at this
            exact this
          have hB : CB w d ((w8.setCell ⟨w.heap.size, 9 + k * 2, none⟩ (.int .i64 (letLo ((letK c d k).lo k) (d.lo k)))).setCell ⟨w.heap.size, 9 + k * 2 + 1, none⟩ (.int .i64 (letHi ((letK c d k).hi k) (d.hi k)))) := by
            refine ⟨?_, (HC8.out.b.setCell (p := ⟨w.heap.size, _, none⟩) (Nat.le_refl _) _).setCell (p := ⟨w.heap.size, _, none⟩) (Nat.le_refl _) _, by simpa using HC8.out.s⟩
            rw [Below.heap_setCell _ _ _ _ (by show w.heap.size + 1 ≠ w.heap.size; omega), Below.heap_setCell _ _ _ _ (by show w.heap.size + 1 ≠ w.heap.size; omega)]
            exact HC8.out.B
          have hZ : ((w8.setCell ⟨w.heap.size, 9 + k * 2, none⟩ (.int .i64 (letLo ((letK c d k).lo k) (d.lo k)))).setCell ⟨w.heap.size, 9 + k * 2 + 1, none⟩ (.int .i64 (letHi ((letK c d k).hi k) (d.hi k)))).heap[w.heap.size + 1 + 1]? = some (clB clNone) := by
            rw [Below.heap_setCell _ _ _ _ (by show w.heap.size + 1 + 1 ≠ w.heap.size; omega), Below.heap_setCell _ _ _ _ (by show w.heap.size + 1 + 1 ≠ w.heap.size; omega)]
            exact HZ8.out
          have HA9 := hide hA
          have HB9 := hide hB
          have HZ9 := hide hZ
          clear hA hB hZ
          refine held_skip (i := 12) (by kernel_rfl) rfl (by kernel_rfl) (by go_simp) HB9.out ?_
          clear a0 a1 fr
          generalize (w8.setCell ⟨w.heap.size, 9 + k * 2, none⟩ (.int .i64 (letLo ((letK c d k).lo k) (d.lo k)))).setCell ⟨w.heap.size, 9 + k * 2 + 1, none⟩ (.int .i64 (letHi ((letK c d k).hi k) (d.hi k))) = w9 at *
          refine wpAnyH_done (by kernel_rfl) ?_ _
          go_wp2
          go_roundw
          case rel => exact ⟨k + 1, by omega, by go_num, HB9.out.cc HA9.out, HZ9.out⟩
          case measure => simp [intOf]; omega
        | false =>
          rw [hdk] at dk
          have HJ1 := hide (letK_no c d k (.inr hdk))
          go_wp2
          go_roundw
          case rel => exact ⟨k + 1, by omega, by go_num, by rw [HJ1.out]; exact HC3.out, HZ3.out⟩
          case measure => simp [intOf]; omega
      | false =>
        rw [hck] at hidx
        have HJ1 := hide (letK_no c d k (.inl hck))
        go_wp2
        go_roundw
        case rel => exact ⟨k + 1, by omega, by go_num, by rw [HJ1.out]; exact HC3.out, HZ3.out⟩
        case measure => simp [intOf]; omega
    · obtain rfl : k = 8 := by omega
      go_wp2_with (first | (refine wpList_load_row rfl 135 (.tmp 2) rfl w.heap.size rfl _ _ _ _ HC3.out.A Tryz.underlying135 rfl (by kernel_rfl) ?_) | (refine wpList_storeCl rfl (.tmp 4) (.tmp 33) rfl (w.heap.size + 1 + 1) (clCells (letK c d 8)) _ _ rfl rfl HZ3.out (cl_size _) (cl_size _) (cl_one _) ?_))
      intro w' hw
      have hg : w'.heap[w.heap.size + 1 + 1]? = some (clB (letK c d 8)) := by rw [hw.out]; exact setRow_heap _ _ _ _ _ _ HZ3.out
      have hb : Below w.heap.size w w' := by rw [hw.out]; exact (HC3.out.setRow _ (by omega) _).b
      clear hw
      go_wp2
      exact bodyPost_ret (results_cell_row rfl _ _ (w.heap.size + 1 + 1) 135 _ _ _ rfl hg Tryz.underlying135 rfl (by kernel_rfl)) rfl ⟨rfl, hb⟩
end Go.Proofs.YtngopilbpiplhaaGreatDoor
