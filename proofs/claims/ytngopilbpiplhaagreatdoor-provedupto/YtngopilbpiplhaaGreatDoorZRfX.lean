/-
  The document's own answer: two claims held against one another; the search as it lies in memory.
  The document's own answer: are a line's needs met?
  The document's own answer: ways out as rows of memory.
  The document's own search: what a join does to memory.
-/
import Derived.Test.YtngopilbpiplhaaGreatDoorZRfK
namespace Go.Proofs.YtngopilbpiplhaaGreatDoor
open Go.RowKit
set_option linter.unusedVariables false
set_option linter.unusedSimpArgs false
theorem rcFields : (Tryz.prog.fieldsOf 181).toList.map (fun f => (f.name, f.type, f.offset)) = [("Never", 4, 0), ("Has", 130, 1), ("Low", 24, 9), ("High", 24, 17)] := by kernel_rfl
def loA (c : Cl) : Array Value := #[.int .i64 (c.lo 0), .int .i64 (c.lo 1), .int .i64 (c.lo 2), .int .i64 (c.lo 3), .int .i64 (c.lo 4), .int .i64 (c.lo 5), .int .i64 (c.lo 6), .int .i64 (c.lo 7)]
def hiA (c : Cl) : Array Value := #[.int .i64 (c.hi 0), .int .i64 (c.hi 1), .int .i64 (c.hi 2), .int .i64 (c.hi 3), .int .i64 (c.hi 4), .int .i64 (c.hi 5), .int .i64 (c.hi 6), .int .i64 (c.hi 7)]
theorem rpart_never (c : Cl) (w : World) : (part 4 (rcCells c) 0).run Tryz.prog w = .ok (.bool c.never) w := by kernel_rfl
theorem rpart_has (c : Cl) (w : World) : (part 130 (rcCells c) 1).run Tryz.prog w = .ok (.agg (hasA c)) w := by kernel_rfl
theorem rpart_lo (c : Cl) (w : World) : (part 24 (rcCells c) 9).run Tryz.prog w = .ok (.agg (loA c)) w := by kernel_rfl
theorem rpart_hi (c : Cl) (w : World) : (part 24 (rcCells c) 17).run Tryz.prog w = .ok (.agg (hiA c)) w := by kernel_rfl
theorem rpart_lo1 (c : Cl) (w : World) (i : Nat) (h : i < 8) : (part 2 (loA c) (i * 1)).run Tryz.prog w = .ok (.int .i64 (c.lo i)) w :=
  lt8' (p := fun i => (part 2 (loA c) (i * 1)).run Tryz.prog w = .ok (.int .i64 (c.lo i)) w) (by kernel_rfl) (by kernel_rfl) (by kernel_rfl) (by kernel_rfl) (by kernel_rfl) (by kernel_rfl) (by kernel_rfl) (by kernel_rfl) i h
theorem rpart_hi1 (c : Cl) (w : World) (i : Nat) (h : i < 8) : (part 2 (hiA c) (i * 1)).run Tryz.prog w = .ok (.int .i64 (c.hi i)) w :=
  lt8' (p := fun i => (part 2 (hiA c) (i * 1)).run Tryz.prog w = .ok (.int .i64 (c.hi i)) w) (by kernel_rfl) (by kernel_rfl) (by kernel_rfl) (by kernel_rfl) (by kernel_rfl) (by kernel_rfl) (by kernel_rfl) (by kernel_rfl) i h
theorem cellsI : Tryz.prog.cellsOf 2 = 1 := by kernel_rfl
theorem infoI64 : ∃ i, Tryz.prog.info? 2 = some i := by
  have h : (Tryz.prog.info? 2).isSome = true := by kernel_rfl
  exact Option.isSome_iff_exists.1 h
theorem clEq_split3 (a b : Cl) : ((a.never == b.never) && ((List.range 8).all (fun i => a.has i == b.has i) && ((List.range 8).all (fun i => a.lo i == b.lo i) && ((List.range 8).all (fun i => a.hi i == b.hi i))))) = clEq a b := by
  unfold clEq
  rw [Bool.eq_iff_iff]
  simp only [Bool.and_eq_true, List.all_eq_true, beq_iff_eq]
  constructor
  · rintro ⟨h1, h2, h3, h4⟩
    exact ⟨h1, fun x hx => ⟨⟨h2 x hx, h3 x hx⟩, h4 x hx⟩⟩
  · rintro ⟨h1, h2⟩
    exact ⟨h1, fun x hx => (h2 x hx).1.1, fun x hx => (h2 x hx).1.2, fun x hx => (h2 x hx).2⟩
set_option maxRecDepth 100000 in
/-- Two claims compared with '=='. -/
theorem run_eqRc (a b : Cl) (w : World) : (binOp .eql 181 (.agg (rcCells a)) (.agg (rcCells b))).run Tryz.prog w = .ok (.bool (clEq a b)) w := by
  obtain ⟨ib, hib⟩ := infoB
  obtain ⟨ii, hii⟩ := infoI64
  have hH : (Op.equalIn 9999 130 (.agg (hasA a)) (.agg (hasA b))).run Tryz.prog w = .ok ((List.range 8).all fun i => a.has i == b.has i) w := by
    rw [run_equalIn_array w 9998 _ _ Tryz.underlying130 hib, cellsB]
    exact eqItems_all w 9998 _ 1 _ _ (fun i => a.has i == b.has i) _ fun i hi => ⟨_, _, part_has1 a w i (by simpa using hi), part_has1 b w i (by simpa using hi), run_equalIn_bool' w 9997 _ _ _ Tryz.underlying4⟩
  have hL : (Op.equalIn 9999 24 (.agg (loA a)) (.agg (loA b))).run Tryz.prog w = .ok ((List.range 8).all fun i => a.lo i == b.lo i) w := by
    rw [run_equalIn_array w 9998 _ _ Tryz.underlying24 hii, cellsI]
    exact eqItems_all w 9998 _ 1 _ _ (fun i => a.lo i == b.lo i) _ fun i hi => ⟨_, _, rpart_lo1 a w i (by simpa using hi), rpart_lo1 b w i (by simpa using hi), run_equalIn_int w 9997 _ _ .i64 _ _ Tryz.underlying2⟩
  have hU : (Op.equalIn 9999 24 (.agg (hiA a)) (.agg (hiA b))).run Tryz.prog w = .ok ((List.range 8).all fun i => a.hi i == b.hi i) w := by
    rw [run_equalIn_array w 9998 _ _ Tryz.underlying24 hii, cellsI]
    exact eqItems_all w 9998 _ 1 _ _ (fun i => a.hi i == b.hi i) _ fun i hi => ⟨_, _, rpart_hi1 a w i (by simpa using hi), rpart_hi1 b w i (by simpa using hi), run_equalIn_int w 9997 _ _ .i64 _ _ Tryz.underlying2⟩
  rw [run_eql_struct, run_equalIn_struct w 9999 181 _ _ (by kernel_rfl) (by kernel_rfl)]
  rw [eqFields_of w 9999 _ _ _ _ [a.never == b.never, (List.range 8).all (fun i => a.has i == b.has i), (List.range 8).all (fun i => a.lo i == b.lo i), (List.range 8).all (fun i => a.hi i == b.hi i)] rcFields (by simp)
    ⟨⟨_, _, rpart_never a w, rpart_never b w, run_equalIn_bool' w 9998 _ _ _ Tryz.underlying4⟩, ⟨_, _, rpart_has a w, rpart_has b w, hH⟩, ⟨_, _, rpart_lo a w, rpart_lo b w, hL⟩, ⟨_, _, rpart_hi a w, rpart_hi b w, hU⟩, trivial⟩]
  simp only [Result.andThen_ok, List.all_cons, List.all_nil, id, Bool.and_true, clEq_split3]
theorem exec_eqRc {o : Oper} {a : Act} {w : World} (x y : Operand) (ho : o.op = .binOp .eql 181 x y 181) (c d : Cl) (hx : a.eval x = .agg (rcCells c)) (hy : a.eval y = .agg (rcCells d)) :
    (execOp a.eval o).run Tryz.prog w = .ok (.value (.bool (clEq c d))) w := by
  unfold execOp
  simp only [ho, hx, hy, Sem.run_bind, Sem.run_pure, Result.andThen_ok, run_eqGuard_agg (P := Tryz.prog) w .eql 181 x y (rcCells c) (rcCells d) (by kernel_rfl), run_eqRc]
theorem rjoined_any (c d : Cl) (hm : d.never = false) (b : Bool) (w : World) : Calls Tryz.prog 171 #[.agg (rcCells c), .agg (rcCells d), .bool b] w fun e w' => e = .returned (.agg (rcCells (jnF b c d))) ∧ Below w.heap.size w w' := by
  cases hn : c.never with
  | true => exact rjoined_never c d hn b w
  | false => exact rjoined_both c d hn hm b w
/-- Claims lie in a block. -/
def RClaimsAt (w : World) (pb : Nat) (p : List Cl) : Prop := w.there pb 0 (p.length * 25) ∧ ∀ k c, p[k]? = some c → w.rangeAt pb (k * 25) (rcCells c).toList
theorem RClaimsAt.mono {w w' : World} {pb : Nat} {p : List Cl} (h : RClaimsAt w pb p) (hb : w'.heap[pb]? = w.heap[pb]?) : RClaimsAt w' pb p := by
  have hc : ∀ o, w'.cell? ⟨pb, o, none⟩ = w.cell? ⟨pb, o, none⟩ := fun o => World.cell?_of_block hb
  have hf : ∀ o, w'.frozen? ⟨pb, o, none⟩ = w.frozen? ⟨pb, o, none⟩ := fun o => by simp [World.frozen?, hb]
  exact ⟨fun j hj => by rw [hc, hf]; exact h.1 j hj, fun k c hk j v hv => by rw [hc]; exact h.2 k c hk j v hv⟩
theorem RClaimsAt.there {w : World} {pb : Nat} {p : List Cl} (h : RClaimsAt w pb p) {t : Nat} (ht : t < p.length) : w.there pb (t * 25) 25 := fun j hj => by
  have := h.1 (t * 25 + j) (by omega)
  rwa [Nat.zero_add] at this
theorem RClaimsAt.set {w : World} {pb : Nat} {p : List Cl} (h : RClaimsAt w pb p) {t : Nat} (ht : t < p.length) (c d : Cl) (he : rcCells d = rcCells c) : RClaimsAt (w.setCells pb (t * 25) (rcCells c).toList) pb (p.set t d) := by
  refine ⟨by rw [List.length_set]; exact World.there_setCells h.1 _ _ _, fun k e hk => ?_⟩
  have hl : (rcCells c).toList.length = 25 := rfl
  by_cases e1 : k = t
  · subst e1
    rw [List.getElem?_set_self ht] at hk
    cases hk
    rw [he]
    exact World.rangeAt_setCells_same w pb _ _ (by rw [hl]; exact h.there ht)
  · rw [List.getElem?_set_ne (by omega)] at hk
    refine World.rangeAt_setCells_apart (h.2 k e hk) pb _ _ (.inr ?_)
    have : (rcCells e).toList.length = 25 := rfl
    rw [hl, this]
    rcases Nat.lt_or_gt_of_ne e1 with q | q
    · exact .inl (by omega)
    · exact .inr (by omega)
/-- Numbers lie in a block. -/
def RIntsAt (w : World) (b : Nat) (l : List Int) : Prop := ∃ cur : Array Value, w.heap[b]? = some (.cells cur 3) ∧ ∀ (k : Nat) (v : Int), l[k]? = some v → cur[k]? = some (Value.int .i64 v)
theorem RIntsAt.mono {w w' : World} {b : Nat} {l : List Int} (h : RIntsAt w b l) (hb : w'.heap[b]? = w.heap[b]?) : RIntsAt w' b l := by
  obtain ⟨cur, h1, h2⟩ := h
  exact ⟨cur, hb.trans h1, h2⟩
theorem RIntsAt.cell {w : World} {b : Nat} {l : List Int} (h : RIntsAt w b l) {k : Nat} {v : Int} (hk : l[k]? = some v) : w.cell? ⟨b, k, none⟩ = some (.int .i64 v) := by
  obtain ⟨cur, h1, h2⟩ := h
  rw [cell_of_blk h1]
  exact h2 k v hk
theorem RIntsAt.free {w : World} {b : Nat} {l : List Int} (h : RIntsAt w b l) : ∀ o, w.frozen? ⟨b, o, none⟩ = false := by
  obtain ⟨cur, h1, h2⟩ := h
  exact frozen_of_blk h1
theorem RIntsAt.lt {w : World} {b : Nat} {l : List Int} (h : RIntsAt w b l) : b < w.heap.size := by
  obtain ⟨cur, h1, h2⟩ := h
  exact blk_lt h1
theorem RIntsAt.set {w : World} {b : Nat} {l : List Int} (h : RIntsAt w b l) (t : Nat) (v : Int) : RIntsAt (w.setCell ⟨b, t, none⟩ (.int .i64 v)) b (l.set t v) := by
  obtain ⟨cur, h1, h2⟩ := h
  refine ⟨_, blk_setCell h1 t _, fun k u hk => ?_⟩
  by_cases e : k = t
  · subst e
    have hl : k < l.length := by have := (List.getElem?_eq_some_iff.1 hk).1; simpa using this
    rw [List.getElem?_set_self hl] at hk
    cases hk
    have hc := h2 k l[k] (List.getElem?_eq_getElem hl)
    rw [Array.getElem?_setIfInBounds_self_of_lt (Array.getElem?_eq_some_iff.1 hc).1]
  · rw [List.getElem?_set_ne (by omega)] at hk
    rw [Array.getElem?_setIfInBounds_ne (by omega)]
    exact h2 k u hk
/-- A search: its four fields, and what they lead to. -/
structure RS (w : World) (sb pb hb lb pc hc lc : Nat) (p : List Cl) (ch la : List Int) (R : Int) : Prop where
  c0 : w.cell? ⟨sb, 0, none⟩ = some (.slice (some ⟨pb, 0, none⟩) p.length pc)
  c1 : w.cell? ⟨sb, 1, none⟩ = some (.slice (some ⟨hb, 0, none⟩) p.length hc)
  c2 : w.cell? ⟨sb, 2, none⟩ = some (.slice (some ⟨lb, 0, none⟩) p.length lc)
  c3 : w.cell? ⟨sb, 3, none⟩ = some (.int .i64 R)
  claims : RClaimsAt w pb p
  chg : RIntsAt w hb ch
  las : RIntsAt w lb la
  lts : sb < w.heap.size
  ltp : pb < w.heap.size
theorem RS.same {w w' : World} {sb pb hb lb pc hc lc : Nat} {p : List Cl} {ch la : List Int} {R : Int} (h : RS w sb pb hb lb pc hc lc p ch la R) (hz : w.heap.size ≤ w'.heap.size) (h1 : w'.heap[sb]? = w.heap[sb]?) (h2 : w'.heap[pb]? = w.heap[pb]?) (h3 : w'.heap[hb]? = w.heap[hb]?) (h4 : w'.heap[lb]? = w.heap[lb]?) : RS w' sb pb hb lb pc hc lc p ch la R :=
  ⟨(World.cell?_of_block (a := ⟨sb, 0, none⟩) h1).trans h.c0, (World.cell?_of_block (a := ⟨sb, 1, none⟩) h1).trans h.c1, (World.cell?_of_block (a := ⟨sb, 2, none⟩) h1).trans h.c2, (World.cell?_of_block (a := ⟨sb, 3, none⟩) h1).trans h.c3,
   h.claims.mono h2, h.chg.mono h3, h.las.mono h4, Nat.lt_of_lt_of_le h.lts hz, Nat.lt_of_lt_of_le h.ltp hz⟩
theorem RS.below {w w' : World} {sb pb hb lb pc hc lc : Nat} {p : List Cl} {ch la : List Int} {R : Int} (h : RS w sb pb hb lb pc hc lc p ch la R) (hb' : Below w.heap.size w w') : RS w' sb pb hb lb pc hc lc p ch la R :=
  h.same hb'.size (hb'.block _ h.lts) (hb'.block _ h.ltp) (hb'.block _ h.chg.lt) (hb'.block _ h.las.lt)
/-- Below block number B all but three blocks is as it was. -/
structure Keep3 (B a b c : Nat) (w w' : World) : Prop where
  os : w'.os = w.os
  tape : w'.tape = w.tape
  output : w'.output = w.output
  size : w.heap.size ≤ w'.heap.size
  block : ∀ k, k < B → k ≠ a → k ≠ b → k ≠ c → w'.heap[k]? = w.heap[k]?
theorem Keep3.refl (B a b c : Nat) (w : World) : Keep3 B a b c w w := ⟨rfl, rfl, rfl, Nat.le_refl _, fun _ _ _ _ _ => rfl⟩
theorem Keep3.trans {B a b c : Nat} {u v w : World} (h : Keep3 B a b c u v) (k : Keep3 B a b c v w) : Keep3 B a b c u w :=
  ⟨k.os.trans h.os, k.tape.trans h.tape, k.output.trans h.output, Nat.le_trans h.size k.size, fun i hi h1 h2 h3 => (k.block i hi h1 h2 h3).trans (h.block i hi h1 h2 h3)⟩
theorem Keep3.of_below {B a b c : Nat} {w w' : World} (h : Below B w w') : Keep3 B a b c w w' := ⟨h.os, h.tape, h.output, h.size, fun k hk _ _ _ => h.block k hk⟩
theorem Keep3.mono {B B' a b c : Nat} {w w' : World} (h : Keep3 B a b c w w') (hB : B' ≤ B) : Keep3 B' a b c w w' := ⟨h.os, h.tape, h.output, h.size, fun k hk h1 h2 h3 => h.block k (by omega) h1 h2 h3⟩
theorem Keep3.of_keep1 {B a b c : Nat} {w w' : World} (h : Keep B a w w') : Keep3 B a b c w w' := ⟨h.os, h.tape, h.output, h.size, fun k hk h1 _ _ => h.block k hk h1⟩
theorem Keep3.of_keep2 {B a b c : Nat} {w w' : World} (h : Keep B b w w') : Keep3 B a b c w w' := ⟨h.os, h.tape, h.output, h.size, fun k hk _ h2 _ => h.block k hk h2⟩
theorem Keep3.of_keep3 {B a b c : Nat} {w w' : World} (h : Keep B c w w') : Keep3 B a b c w w' := ⟨h.os, h.tape, h.output, h.size, fun k hk _ _ h3 => h.block k hk h3⟩
end Go.Proofs.YtngopilbpiplhaaGreatDoor

namespace Go.Proofs.YtngopilbpiplhaaGreatDoor
open Go.RowKit
set_option linter.unusedVariables false
set_option linter.unusedSimpArgs false
/-- A claim and a line handed in. -/
structure RL (w : World) (c : Cl) (i r s : Nat) (n l : Int) (W : World) : Prop where
  A : W.heap[w.heap.size]? = some (rcB c)
  B : W.heap[w.heap.size + 1]? = some (rlB i r s n l)
  b : Below w.heap.size w W
  s : w.heap.size + 2 ≤ W.heap.size
theorem rl_mk (w : World) (c : Cl) (i r s : Nat) (n l : Int) : RL w c i r s n l ((w.alloc (rcB c)).alloc (rlB i r s n l)) :=
  ⟨blk_alloc (blk_new w _) _, by have := blk_new (w.alloc (rcB c)) (rlB i r s n l); rw [World.size_alloc] at this; exact this,
   ((Below.refl _ _).alloc (Nat.le_refl _) _).alloc (by simp) _, by simp⟩
theorem RL.below {w W W' : World} {c : Cl} {i r s : Nat} {n l : Int} (h : RL w c i r s n l W) (hb : Below W.heap.size W W') : RL w c i r s n l W' :=
  ⟨(hb.block _ (blk_lt h.A)).trans h.A, (hb.block _ (blk_lt h.B)).trans h.B, h.b.trans (hb.mono (by have := h.s; omega)), Nat.le_trans h.s hb.size⟩
theorem RL.cells {w W : World} {c : Cl} {i r s : Nat} {n l : Int} (h : RL w c i r s n l W) (hr : r < 8) (hs : s < 8) :
    (W.cell? ⟨w.heap.size, 1 + r, none⟩ = some (.bool (c.has r)) ∧ W.cell? ⟨w.heap.size, 1 + s, none⟩ = some (.bool (c.has s)) ∧ W.cell? ⟨w.heap.size, 9 + r, none⟩ = some (.int .i64 (c.lo r)) ∧ W.cell? ⟨w.heap.size, 9 + s, none⟩ = some (.int .i64 (c.lo s)) ∧ W.cell? ⟨w.heap.size, 17 + r, none⟩ = some (.int .i64 (c.hi r)) ∧ W.cell? ⟨w.heap.size, 17 + s, none⟩ = some (.int .i64 (c.hi s))) ∧
    (W.cell? ⟨w.heap.size + 1, 0, none⟩ = some (.string ⟨(wName i).toArray⟩) ∧ W.cell? ⟨w.heap.size + 1, 1, none⟩ = some (.int .i64 r) ∧ W.cell? ⟨w.heap.size + 1, 2, none⟩ = some (.int .i64 s) ∧ W.cell? ⟨w.heap.size + 1, 3, none⟩ = some (.int .i64 n) ∧ W.cell? ⟨w.heap.size + 1, 4, none⟩ = some (.int .i64 l)) :=
  ⟨⟨(cell_of_blk h.A _).trans (rc_has c r hr), (cell_of_blk h.A _).trans (rc_has c s hs), (cell_of_blk h.A _).trans (rc_lo c r hr), (cell_of_blk h.A _).trans (rc_lo c s hs), (cell_of_blk h.A _).trans (rc_hi c r hr), (cell_of_blk h.A _).trans (rc_hi c s hs)⟩,
   cell_of_blk h.B 0, cell_of_blk h.B 1, cell_of_blk h.B 2, cell_of_blk h.B 3, cell_of_blk h.B 4⟩
/-- What the needs of a line are, by its registers. -/
def metR (i : Nat) (c : Cl) (r s : Nat) : Bool := metW i c ⟨(i : Int), (r : Int), (s : Int), 0⟩
theorem metR_eq (c : Cl) (x : Ln) (i r s : Nat) (hr : x.r = (r : Int)) (hs : x.s = (s : Int)) : metW i c x = metR i c r s := by
  unfold metR metW
  simp only [hr, hs]
  congr 1
  unfold needW
  simp only [hr, hs]
end Go.Proofs.YtngopilbpiplhaaGreatDoor

namespace Go.Proofs.YtngopilbpiplhaaGreatDoor
open Go.RowKit
set_option linter.unusedVariables false
set_option linter.unusedSimpArgs false
/-- A way's cells. -/
def wyC (n : Int) (c : Cl) : List Value := .int .i64 n :: (rcCells c).toList
def wyL (l : List (Int × Cl)) : List Value := l.flatMap fun e => wyC e.1 e.2
theorem wyC_one (n : Int) (c : Cl) : (wyC n c).toArray.all (·.oneCell') = true := by simp [wyC, rcCells, Value.oneCell']
theorem infoWy : (Tryz.prog.info? 190).map (fun i => (i.zero, i.size, i.bytes)) = some (some (.agg (wyC 0 clNone).toArray), 26, 152) := by kernel_rfl
theorem built_wy (n : Int) (c : Cl) : Tryz.prog.built 190 [(0, .int .i64 n), (1, .agg (rcCells c))] = some (wyC n c).toArray := by kernel_rfl
theorem wpList_buildWy {ops : Array Oper} {rest : List Oper} {o : Oper} {a : Act} {w : World} {Q : Exit → Act → World → Prop} (hgd : o.guard = none) (x y : Operand) (n : Int) (c : Cl) (ho : o.op = .build 190 #[(0, x), (1, y)]) (hx : a.eval x = .int .i64 n) (hy : a.eval y = .agg (rcCells c))
    (h : wpList Tryz.prog ops Q rest (a.put o.dst (.agg (wyC n c).toArray)) w) : wpList Tryz.prog ops Q (o :: rest) a w := by
  refine wpList_build hgd 190 #[(0, x), (1, y)] ho ?_ ?_
  · simp only [List.map_toArray, List.map_cons, List.map_nil, hx, hy]
    rw [built_wy]; rfl
  · simp only [List.map_toArray, List.map_cons, List.map_nil, hx, hy]
    rw [built_wy]; exact h
theorem exec_buildWy {o : Oper} {a : Act} {w : World} (x y : Operand) (n : Int) (c : Cl) (ho : o.op = .build 190 #[(0, x), (1, y)]) (hx : a.eval x = .int .i64 n) (hy : a.eval y = .agg (rcCells c)) :
    (execOp a.eval o).run Tryz.prog w = .ok (.value (.agg (wyC n c).toArray)) w := by
  unfold execOp
  simp only [ho, List.map_toArray, List.map_cons, List.map_nil, hx, hy]
  kernel_rfl
theorem exec_buildSliceWy {o : Oper} {a : Act} {w : World} (x : Operand) (n : Int) (c : Cl) (ho : o.op = .buildSlice 186 1 #[(0, x)]) (hx : a.eval x = .agg (wyC n c).toArray) :
    (execOp a.eval o).run Tryz.prog w = .ok (.value (.slice (some ⟨w.heap.size, 0, none⟩) 1 1)) (w.alloc (.cells (wyC n c).toArray 190)) := by
  unfold execOp
  simp only [ho, List.map_toArray, List.map_cons, List.map_nil, hx]
  kernel_rfl
theorem wpList_buildSliceWy {ops : Array Oper} {rest : List Oper} {o : Oper} {a : Act} {w : World} {Q : Exit → Act → World → Prop} (hgd : o.guard = none) (x : Operand) (n : Int) (c : Cl) (ho : o.op = .buildSlice 186 1 #[(0, x)]) (hx : a.eval x = .agg (wyC n c).toArray)
    (h : ∀ w', Hid (w' = w.alloc (.cells (wyC n c).toArray 190)) → wpList Tryz.prog ops Q rest (a.put o.dst (.slice (some ⟨w.heap.size, 0, none⟩) 1 1)) w') : wpList Tryz.prog ops Q (o :: rest) a w :=
  wpList_plain hgd fun _ hK => by
    unfold Oper.wp
    rw [exec_buildSliceWy x n c ho hx]
    exact hK _ _ (h _ (hide rfl))
theorem exec_allocRc {o : Oper} {a : Act} {w : World} (ho : o.op = .alloc 181) : (execOp a.eval o).run Tryz.prog w = .ok (.value (.pointer (some ⟨w.heap.size, 0, none⟩))) (w.alloc (rcB clNone)) := by
  unfold execOp
  simp only [ho]
  kernel_rfl
theorem wrap_k (n : Int) (h0 : -9223372036854775808 ≤ n) (h1 : n ≤ 9223372036854775807) : IntKind.i64.wrap n = n := by
  rw [IntKind.wrap_i64]
  omega
theorem exec_sub1 {o : Oper} {a : Act} {w : World} (x : Operand) (n m : Int) (ho : o.op = .binOp .sub 2 x (.const (.int .i64 1)) 2) (hx : a.eval x = .int .i64 n) (h : IntKind.i64.wrap (n - 1) = m) : (execOp a.eval o).run Tryz.prog w = .ok (.value (.int .i64 m)) w := by
  subst h
  unfold execOp
  simp only [ho, hx]
  go_simp
  try rfl
theorem exec_add1 {o : Oper} {a : Act} {w : World} (x : Operand) (n m : Int) (ho : o.op = .binOp .add 2 x (.const (.int .i64 1)) 2) (hx : a.eval x = .int .i64 n) (h : IntKind.i64.wrap (n + 1) = m) : (execOp a.eval o).run Tryz.prog w = .ok (.value (.int .i64 m)) w := by
  subst h
  unfold execOp
  simp only [ho, hx]
  go_simp
  try rfl
/-- An operation of a drawn region that makes something new. -/
theorem held_newv {ops : Array Oper} {Q : Exit → Act → World → Prop} {S : World → Prop} {i : Nat} {o : Oper} {a : Act} {w w' : World} {v : Value} {fuel : Nat} {listed : Array Bool} (d : Option Tmp) (hr : Region.ready .any ops listed = [i]) (hi : ops[i]? = some o) (hd : o.dst = d) (hw : Region.wanted o (yielded ops a.tmps) = true)
    (he : (execOp a.eval o).run Tryz.prog w = .ok (.value v) w') (hS : S w') (h : ∀ w2, Hid (w2 = w') → wpAnyH Tryz.prog .any ops Q S fuel (listed.setIfInBounds i true) (a.put d v) w2) : wpAnyH Tryz.prog .any ops Q S (fuel + 1) listed a w := by
  subst hd
  refine wpAnyH_all hr (by simp) fun j hj => ?_
  obtain rfl : j = i := by simpa using hj
  unfold wpOp
  simp only [hi, hw, if_true]
  refine .inl ?_
  unfold Oper.wp
  rw [he]
  exact ⟨hS, h _ (hide rfl)⟩
theorem held_appWy {ops : Array Oper} {Q : Exit → Act → World → Prop} {S : World → Prop} {i : Nat} {o : Oper} {a : Act} {w : World} {fuel : Nat} {listed : Array Bool} (d : Option Tmp)
    (hr : Region.ready .any ops listed = [i]) (hi : ops[i]? = some o) (hd : o.dst = d) (hw : Region.wanted o (yielded ops a.tmps) = true) (s x : Operand) (ho : o.op = .call { callee := .builtin .append, args := #[s, x], argTypes := #[186, 186] })
    (B : Nat) (v : Value) (n : Nat) (xs : List Value) (hs : a.eval s = v) (hown : Hid (w.ownsRow B 190 26 v n xs)) (g : Nat) (m : Int) (c : Cl) (hx : a.eval x = .slice (some ⟨g, 0, none⟩) 1 1) (hu : w.heap[g]? = some (.cells (wyC m c).toArray 190))
    (h63 : n ≤ 1000) (hB : B ≤ w.heap.size)
    (h : ∀ v' w', Hid (w'.ownsRow B 190 26 v' (n + 1) (xs ++ wyC m c)) → Hid (w.grownBy w' v.ownBlock) → S w' ∧ wpAnyH Tryz.prog .any ops Q S fuel (listed.setIfInBounds i true) (a.put d v') w') : wpAnyH Tryz.prog .any ops Q S (fuel + 1) listed a w := by
  subst hd
  refine wpAnyH_all hr (by simp) fun j hj => ?_
  obtain rfl : j = i := by simpa using hj
  unfold wpOp
  simp only [hi, hw, if_true]
  refine .inl ?_
  obtain ⟨i0, hi0, hz0, hz1, hz2⟩ := info_parts infoWy
  refine wp_append_own w s x 186 ho B 190 i0 _ 26 152 Tryz.underlying186 hi0 hz0 hz1 hz2 rfl (by decide) v n xs hs hown.out ⟨g, 0, none⟩ 1 1 (wyC m c) hx rfl ?_ ?_ (by unfold maxLen; omega) (by omega) hB fun v' w' h2 h3 _ => h v' w' (hide h2) (hide h3)
  · intro k z hk
    have e : (⟨g, 0, none⟩ : Addr).add k = ⟨g, k, none⟩ := by unfold Addr.add; split <;> simp_all
    rw [e, cell_of_blk hu]
    simpa using hk
  · intro u hu
    exact (Array.all_eq_true_iff_forall_mem.1 (wyC_one m c)) u (by simpa using hu)
theorem ownsRow_lowW {w : World} {B : Nat} {v : Value} {k : Nat} {xs : List Value} (h : w.ownsRow (B + 2) 190 26 v k xs) : w.ownsRow B 190 26 v k xs := ownsRow_low h (by omega)
/-- What is of another type stays as it is where a row of ways grows. -/
theorem grown_keep {w w' : World} {B n nb : Nat} {v : Value} {xs : List Value} {cs : Array Value} {t : TypeId} (ho : w.ownsRow B 190 26 v n xs) (hg : w.grownBy w' v.ownBlock) (hn : w.heap[nb]? = some (.cells cs t)) (ht : t ≠ 190) : w'.heap[nb]? = some (.cells cs t) := by
  have hne : v.ownBlock ≠ some nb := by
    intro q
    obtain ⟨_, ⟨e, _⟩ | ⟨g, cap, cur, e, _, hb, _⟩⟩ := ho
    · rw [e] at q; cases q
    · rw [e] at q
      cases q
      rw [hn] at hb
      exact ht (by injection hb with h1; injection h1)
  rw [← hn]
  exact hg.block nb (blk_lt hn) (fun q => hne q.symm)
theorem owns_setRow {w : World} {B n nb : Nat} {v : Value} {xs : List Value} {cs : Array Value} {t : TypeId} (ho : w.ownsRow B 190 26 v n xs) (hn : w.heap[nb]? = some (.cells cs t)) (ht : t ≠ 190) (SC : Array Value) : (w.setRow nb SC).ownsRow B 190 26 v n xs := by
  obtain ⟨h1, h2 | ⟨g, cap, cur, e, hg, hb, r⟩⟩ := ho
  · exact ⟨h1, .inl h2⟩
  · refine ⟨h1, .inr ⟨g, cap, cur, e, hg, ?_, r⟩⟩
    rw [setRow_other _ _ _ _ (fun q => ht (by rw [q, hn] at hb; injection hb with h1; injection h1))]
    exact hb
/-- A claim and a line handed in; and a claim more. -/
structure RW (w : World) (c : Cl) (i r s : Nat) (n l : Int) (W : World) : Prop where
  A : W.heap[w.heap.size]? = some (rcB c)
  B : W.heap[w.heap.size + 1]? = some (rlB i r s n l)
  b : Below w.heap.size w W
theorem RL.w {w W : World} {c : Cl} {i r s : Nat} {n l : Int} (h : RL w c i r s n l W) : RW w c i r s n l W := ⟨h.A, h.B, h.b⟩
def RN (w : World) (c : Cl) (i r s : Nat) (n l : Int) (nb : Nat) (d : Cl) (W : World) : Prop := RW w c i r s n l W ∧ W.heap[nb]? = some (rcB d)
theorem RL.alloc {w W : World} {c : Cl} {i r s : Nat} {n l : Int} (h : RL w c i r s n l W) (o : Obj) : RL w c i r s n l (W.alloc o) := h.below ((Below.refl _ _).alloc (Nat.le_refl _) _)
theorem RL.setRow {w W : World} {c : Cl} {i r s : Nat} {n l : Int} (h : RL w c i r s n l W) (g : Nat) (hg : w.heap.size + 2 ≤ g) (cs : Array Value) : RL w c i r s n l (W.setRow g cs) :=
  ⟨(setRow_other _ _ _ _ (by omega)).trans h.A, (setRow_other _ _ _ _ (by omega)).trans h.B, h.b.trans ((keep_setRow' w.heap.size _ _ _).below (by omega)), by rw [setRow_size]; exact h.s⟩
theorem RL.grown {w W W' : World} {c : Cl} {i r s : Nat} {n l : Int} {k : Nat} {v : Value} {xs : List Value} (h : RL w c i r s n l W) (ho : W.ownsRow (w.heap.size + 2) 190 26 v k xs) (hg : W.grownBy W' v.ownBlock) : RL w c i r s n l W' :=
  ⟨grown_keep ho hg h.A (by decide), grown_keep ho hg h.B (by decide), below_own h.b (ownsRow_lowW ho) hg (by have := h.s; omega), Nat.le_trans h.s hg.size⟩
end Go.Proofs.YtngopilbpiplhaaGreatDoor

namespace Go.Proofs.YtngopilbpiplhaaGreatDoor
open Go.RowKit
set_option linter.unusedVariables false
set_option linter.unusedSimpArgs false
theorem RS.setP {w : World} {sb pb hb lb pc hc lc : Nat} {p : List Cl} {ch la : List Int} {R : Int} (h : RS w sb pb hb lb pc hc lc p ch la R) (n1 : sb ≠ pb) (n2 : hb ≠ pb) (n3 : lb ≠ pb) {t : Nat} (ht : t < p.length) (c d : Cl) (he : rcCells d = rcCells c) : RS (w.setCells pb (t * 25) (rcCells c).toList) sb pb hb lb pc hc lc (p.set t d) ch la R := by
  have k := keep_setCells w.heap.size pb (rcCells c).toList (t * 25) w
  have e1 := k.block sb h.lts n1
  exact ⟨by rw [List.length_set]; exact (World.cell?_of_block (a := ⟨sb, 0, none⟩) e1).trans h.c0, by rw [List.length_set]; exact (World.cell?_of_block (a := ⟨sb, 1, none⟩) e1).trans h.c1, by rw [List.length_set]; exact (World.cell?_of_block (a := ⟨sb, 2, none⟩) e1).trans h.c2, (World.cell?_of_block (a := ⟨sb, 3, none⟩) e1).trans h.c3,
    h.claims.set ht c d he, h.chg.mono (k.block hb h.chg.lt n2), h.las.mono (k.block lb h.las.lt n3), Nat.lt_of_lt_of_le h.lts k.size, Nat.lt_of_lt_of_le h.ltp k.size⟩
theorem RS.setL {w : World} {sb pb hb lb pc hc lc : Nat} {p : List Cl} {ch la : List Int} {R : Int} (h : RS w sb pb hb lb pc hc lc p ch la R) (n1 : sb ≠ lb) (n2 : pb ≠ lb) (n3 : hb ≠ lb) (t : Nat) (v : Int) : RS (w.setCell ⟨lb, t, none⟩ (.int .i64 v)) sb pb hb lb pc hc lc p ch (la.set t v) R := by
  have k : Keep w.heap.size lb w (w.setCell ⟨lb, t, none⟩ (.int .i64 v)) := (Keep.refl w.heap.size lb w).setb _ _ t (.int .i64 v)
  have e1 := k.block sb h.lts n1
  exact ⟨(World.cell?_of_block (a := ⟨sb, 0, none⟩) e1).trans h.c0, (World.cell?_of_block (a := ⟨sb, 1, none⟩) e1).trans h.c1, (World.cell?_of_block (a := ⟨sb, 2, none⟩) e1).trans h.c2, (World.cell?_of_block (a := ⟨sb, 3, none⟩) e1).trans h.c3,
    h.claims.mono (k.block pb h.ltp n2), h.chg.mono (k.block hb h.chg.lt n3), h.las.set t v, Nat.lt_of_lt_of_le h.lts k.size, Nat.lt_of_lt_of_le h.ltp k.size⟩
theorem RS.setH {w : World} {sb pb hb lb pc hc lc : Nat} {p : List Cl} {ch la : List Int} {R : Int} (h : RS w sb pb hb lb pc hc lc p ch la R) (n1 : sb ≠ hb) (n2 : pb ≠ hb) (n3 : lb ≠ hb) (t : Nat) (v : Int) : RS (w.setCell ⟨hb, t, none⟩ (.int .i64 v)) sb pb hb lb pc hc lc p (ch.set t v) la R := by
  have k : Keep w.heap.size hb w (w.setCell ⟨hb, t, none⟩ (.int .i64 v)) := (Keep.refl w.heap.size hb w).setb _ _ t (.int .i64 v)
  have e1 := k.block sb h.lts n1
  exact ⟨(World.cell?_of_block (a := ⟨sb, 0, none⟩) e1).trans h.c0, (World.cell?_of_block (a := ⟨sb, 1, none⟩) e1).trans h.c1, (World.cell?_of_block (a := ⟨sb, 2, none⟩) e1).trans h.c2, (World.cell?_of_block (a := ⟨sb, 3, none⟩) e1).trans h.c3,
    h.claims.mono (k.block pb h.ltp n2), h.chg.set t v, h.las.mono (k.block lb h.las.lt n3), Nat.lt_of_lt_of_le h.lts k.size, Nat.lt_of_lt_of_le h.ltp k.size⟩
/-- A search, and a claim handed in. -/
structure JX (w : World) (sb pb hb lb pc hc lc : Nat) (p : List Cl) (ch la : List Int) (R : Int) (d : Cl) (W : World) : Prop where
  rs : RS W sb pb hb lb pc hc lc p ch la R
  A : W.heap[w.heap.size]? = some (rcB d)
  b : Below w.heap.size w W
  s : w.heap.size + 1 ≤ W.heap.size
theorem jx_mk {w : World} {sb pb hb lb pc hc lc : Nat} {p : List Cl} {ch la : List Int} {R : Int} (h : RS w sb pb hb lb pc hc lc p ch la R) (d : Cl) : JX w sb pb hb lb pc hc lc p ch la R d (w.alloc (rcB d)) :=
  ⟨h.below ((Below.refl _ _).alloc (Nat.le_refl _) _), blk_new w _, (Below.refl _ _).alloc (Nat.le_refl _) _, by simp⟩
theorem JX.below {w W W' : World} {sb pb hb lb pc hc lc : Nat} {p : List Cl} {ch la : List Int} {R : Int} {d : Cl} (h : JX w sb pb hb lb pc hc lc p ch la R d W) (hb' : Below W.heap.size W W') : JX w sb pb hb lb pc hc lc p ch la R d W' :=
  ⟨h.rs.below hb', (hb'.block _ (blk_lt h.A)).trans h.A, h.b.trans (hb'.mono (by have := h.s; omega)), Nat.le_trans h.s hb'.size⟩
theorem JX.setRow {w W : World} {sb pb hb lb pc hc lc : Nat} {p : List Cl} {ch la : List Int} {R : Int} {d : Cl} (h : JX w sb pb hb lb pc hc lc p ch la R d W) (h0 : sb < w.heap.size ∧ pb < w.heap.size ∧ hb < w.heap.size ∧ lb < w.heap.size) (g : Nat) (hg : w.heap.size + 1 ≤ g) (cs : Array Value) : JX w sb pb hb lb pc hc lc p ch la R d (W.setRow g cs) :=
  ⟨h.rs.same (by rw [setRow_size]; exact Nat.le_refl _) (setRow_other _ _ _ _ (by omega)) (setRow_other _ _ _ _ (by omega)) (setRow_other _ _ _ _ (by omega)) (setRow_other _ _ _ _ (by omega)), (setRow_other _ _ _ _ (by omega)).trans h.A, h.b.trans ((keep_setRow' w.heap.size _ _ _).below (by omega)), by rw [setRow_size]; exact h.s⟩
theorem exec_storeMidRc {o : Oper} {a : Act} {w : World} (x y : Operand) (ho : o.op = .store 181 x y) (b p : Nat) (c : Cl) (hx : a.eval x = .pointer (some ⟨b, p, none⟩)) (hy : a.eval y = .agg (rcCells c)) (ht : w.there b p 25) :
    (execOp a.eval o).run Tryz.prog w = .ok .skip (w.setCells b p (rcCells c).toList) := exec_storeMid 181 x y ho b p (rcCells c) hx hy ht (by kernel_rfl) (rc_one c)
end Go.Proofs.YtngopilbpiplhaaGreatDoor
