/-
  Claims held against one another: what the comparison of two claims yields.
-/
import Derived.Test.YtngopilbpiplhaaGreatDoorZClP
import Derived.Laws.StructEq
import Derived.ChangeKeysEq
namespace Go.Proofs.YtngopilbpiplhaaGreatDoor
open Go.RowKit

theorem eqItems_all {P : Program} (w : World) (d : Nat) (e : TypeId) (c : Nat) (xs ys : Array Value) (r : Nat → Bool) : ∀ (is : List Nat),
    (∀ i ∈ is, ∃ a b, (part e xs (i * c)).run P w = .ok a w ∧ (part e ys (i * c)).run P w = .ok b w ∧ (Op.equalIn d e a b).run P w = .ok (r i) w) → (Op.eqItems d e c xs ys is).run P w = .ok (is.all r) w
  | [], _ => by simp [Op.eqItems]
  | i :: is, h => by
    obtain ⟨a, b, h1, h2, h3⟩ := h i (by simp)
    have ih := eqItems_all w d e c xs ys r is fun j hj => h j (by simp [hj])
    simp only [Op.eqItems, Sem.run_bind, h1, h2, h3, Result.andThen_ok, List.all_cons]
    cases hr : r i
    · simp
    · simpa using ih

theorem spFields : (Tryz.prog.fieldsOf 132).toList.map (fun f => (f.name, f.type, f.offset)) = [("Low", 2, 0), ("High", 2, 1)] := by kernel_rfl
theorem clFields : (Tryz.prog.fieldsOf 135).toList.map (fun f => (f.name, f.type, f.offset)) = [("Never", 4, 0), ("has", 130, 1), ("spans", 133, 9)] := by kernel_rfl
/-- Two lists, place by place. -/
def Each {α β : Type} (p : α → β → Prop) : List α → List β → Prop
  | [], [] => True
  | a :: l, b :: m => p a b ∧ Each p l m
  | _, _ => False
theorem eqFields_of {P : Program} (w : World) (d : Nat) (xs ys : Array Value) : ∀ (fs : List Field) (gs : List (String × TypeId × Nat)) (rs : List Bool), fs.map (fun f => (f.name, f.type, f.offset)) = gs → (∀ g ∈ gs, g.1 ≠ "_") →
    Each (fun (g : String × TypeId × Nat) (r : Bool) => ∃ a b, (part g.2.1 xs g.2.2).run P w = .ok a w ∧ (part g.2.1 ys g.2.2).run P w = .ok b w ∧ (Op.equalIn d g.2.1 a b).run P w = .ok r w) gs rs →
    (Op.eqFields d xs ys fs).run P w = .ok (rs.all id) w := by
  intro fs
  induction fs with
  | nil =>
    intro gs rs hg _ h
    subst hg
    match rs, h with
    | [], _ => simp [Op.eqFields]
    | _ :: _, h => exact absurd h id
  | cons f fs ih =>
    intro gs rs hg hn h
    subst hg
    match rs, h with
    | [], h => exact absurd h id
    | r :: rs, ⟨⟨a, b, p1, p2, p3⟩, h2⟩ =>
      have hf : f.name ≠ "_" := hn (f.name, f.type, f.offset) (by simp)
      replace p1 : (part f.type xs f.offset).run P w = .ok a w := p1
      replace p2 : (part f.type ys f.offset).run P w = .ok b w := p2
      replace p3 : (Op.equalIn d f.type a b).run P w = .ok r w := p3
      have ih2 := ih _ rs rfl (fun g hg => hn g (by simp at hg ⊢; exact .inr hg)) h2
      simp only [Op.eqFields, hf, ne_eq, not_false_eq_true, if_true, Sem.run_bind, p1, p2, p3, Result.andThen_ok, List.all_cons, id]
      cases r
      · simp
      · simpa using ih2

theorem eqSpan (w : World) (d : Nat) (a b c e : Int) : (Op.equalIn (d + 2) 132 (spC a b) (spC c e)).run Tryz.prog w = .ok (a == c && b == e) w := by
  rw [run_equalIn_struct w (d + 1) 132 _ _ (by kernel_rfl) (by kernel_rfl)]
  rw [eqFields_of w (d + 1) _ _ _ _ [a == c, b == e] spFields (by simp) ⟨⟨.int .i64 a, .int .i64 c, by kernel_rfl, by kernel_rfl, run_equalIn_int w d _ _ .i64 _ _ Tryz.underlying2⟩, ⟨.int .i64 b, .int .i64 e, by kernel_rfl, by kernel_rfl, run_equalIn_int w d _ _ .i64 _ _ Tryz.underlying2⟩, trivial⟩]
  simp

/-- A claim's truth values, its spans. -/
def hasA (c : Cl) : Array Value := #[.bool (c.has 0), .bool (c.has 1), .bool (c.has 2), .bool (c.has 3), .bool (c.has 4), .bool (c.has 5), .bool (c.has 6), .bool (c.has 7)]
def spansA (c : Cl) : Array Value := #[.int .i64 (c.lo 0), .int .i64 (c.hi 0), .int .i64 (c.lo 1), .int .i64 (c.hi 1), .int .i64 (c.lo 2), .int .i64 (c.hi 2), .int .i64 (c.lo 3), .int .i64 (c.hi 3),
  .int .i64 (c.lo 4), .int .i64 (c.hi 4), .int .i64 (c.lo 5), .int .i64 (c.hi 5), .int .i64 (c.lo 6), .int .i64 (c.hi 6), .int .i64 (c.lo 7), .int .i64 (c.hi 7)]
theorem part_has (c : Cl) (w : World) : (part 130 (clCells c) 1).run Tryz.prog w = .ok (.agg (hasA c)) w := by kernel_rfl
theorem part_spans (c : Cl) (w : World) : (part 133 (clCells c) 9).run Tryz.prog w = .ok (.agg (spansA c)) w := by kernel_rfl
theorem part_never (c : Cl) (w : World) : (part 4 (clCells c) 0).run Tryz.prog w = .ok (.bool c.never) w := by kernel_rfl
theorem part_has1 (c : Cl) (w : World) (i : Nat) (h : i < 8) : (part 4 (hasA c) (i * 1)).run Tryz.prog w = .ok (.bool (c.has i)) w :=
  lt8' (p := fun i => (part 4 (hasA c) (i * 1)).run Tryz.prog w = .ok (.bool (c.has i)) w) (by kernel_rfl) (by kernel_rfl) (by kernel_rfl) (by kernel_rfl) (by kernel_rfl) (by kernel_rfl) (by kernel_rfl) (by kernel_rfl) i h
theorem part_span1 (c : Cl) (w : World) (i : Nat) (h : i < 8) : (part 132 (spansA c) (i * 2)).run Tryz.prog w = .ok (spC (c.lo i) (c.hi i)) w :=
  lt8' (p := fun i => (part 132 (spansA c) (i * 2)).run Tryz.prog w = .ok (spC (c.lo i) (c.hi i)) w) (by kernel_rfl) (by kernel_rfl) (by kernel_rfl) (by kernel_rfl) (by kernel_rfl) (by kernel_rfl) (by kernel_rfl) (by kernel_rfl) i h
theorem cellsB : Tryz.prog.cellsOf 4 = 1 := by kernel_rfl
theorem cellsS : Tryz.prog.cellsOf 132 = 2 := by kernel_rfl
theorem infoB : ∃ i, Tryz.prog.info? 4 = some i := by
  have h : (Tryz.prog.info? 4).isSome = true := by kernel_rfl
  exact Option.isSome_iff_exists.1 h
theorem infoS : ∃ i, Tryz.prog.info? 132 = some i := by
  have h : (Tryz.prog.info? 132).isSome = true := by kernel_rfl
  exact Option.isSome_iff_exists.1 h

theorem clEq_split (a b : Cl) : ((a.never == b.never) && ((List.range 8).all (fun i => a.has i == b.has i) && ((List.range 8).all (fun i => a.lo i == b.lo i && a.hi i == b.hi i)))) = clEq a b := by
  unfold clEq
  rw [Bool.eq_iff_iff]
  simp only [Bool.and_eq_true, List.all_eq_true, beq_iff_eq]
  constructor
  · rintro ⟨h1, h2, h3⟩
    exact ⟨h1, fun x hx => ⟨⟨h2 x hx, (h3 x hx).1⟩, (h3 x hx).2⟩⟩
  · rintro ⟨h1, h2⟩
    exact ⟨h1, fun x hx => (h2 x hx).1.1, fun x hx => ⟨(h2 x hx).1.2, (h2 x hx).2⟩⟩

set_option maxRecDepth 100000 in
/-- Two claims compared with '!='. -/
theorem run_neqCl (a b : Cl) (w : World) : (binOp .neq 135 (.agg (clCells a)) (.agg (clCells b))).run Tryz.prog w = .ok (.bool (!clEq a b)) w := by
  obtain ⟨ib, hib⟩ := infoB
  obtain ⟨is, his⟩ := infoS
  have hH : (Op.equalIn 9999 130 (.agg (hasA a)) (.agg (hasA b))).run Tryz.prog w = .ok ((List.range 8).all fun i => a.has i == b.has i) w := by
    rw [run_equalIn_array w 9998 _ _ Tryz.underlying130 hib, cellsB]
    exact eqItems_all w 9998 _ 1 _ _ (fun i => a.has i == b.has i) _ fun i hi => ⟨_, _, part_has1 a w i (by simpa using hi), part_has1 b w i (by simpa using hi), run_equalIn_bool' w 9997 _ _ _ Tryz.underlying4⟩
  have hS : (Op.equalIn 9999 133 (.agg (spansA a)) (.agg (spansA b))).run Tryz.prog w = .ok ((List.range 8).all fun i => a.lo i == b.lo i && a.hi i == b.hi i) w := by
    rw [run_equalIn_array w 9998 _ _ Tryz.underlying133 his, cellsS]
    exact eqItems_all w 9998 _ 2 _ _ (fun i => a.lo i == b.lo i && a.hi i == b.hi i) _ fun i hi => ⟨_, _, part_span1 a w i (by simpa using hi), part_span1 b w i (by simpa using hi), eqSpan w 9996 _ _ _ _⟩
  rw [run_neq_struct, run_equalIn_struct w 9999 135 _ _ (by kernel_rfl) (by kernel_rfl)]
  rw [eqFields_of w 9999 _ _ _ _ [a.never == b.never, (List.range 8).all (fun i => a.has i == b.has i), (List.range 8).all (fun i => a.lo i == b.lo i && a.hi i == b.hi i)] clFields (by simp)
    ⟨⟨_, _, part_never a w, part_never b w, run_equalIn_bool' w 9998 _ _ _ Tryz.underlying4⟩, ⟨_, _, part_has a w, part_has b w, hH⟩, ⟨_, _, part_spans a w, part_spans b w, hS⟩, trivial⟩]
  simp only [Result.andThen_ok, List.all_cons, List.all_nil, id, Bool.and_true, clEq_split]

end Go.Proofs.YtngopilbpiplhaaGreatDoor
