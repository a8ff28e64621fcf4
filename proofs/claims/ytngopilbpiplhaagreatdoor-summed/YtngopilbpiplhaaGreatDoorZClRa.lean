/-
  What the round of the search wants of memory and of the plain functions.
-/
import Derived.Test.YtngopilbpiplhaaGreatDoorZClQ
import Derived.Test.YtngopilbpiplhaaGreatDoorZClZ
import Derived.Test.YtngopilbpiplhaaGreatDoorZClS
namespace Go.Proofs.YtngopilbpiplhaaGreatDoor
open Go.RowKit
set_option linter.unusedVariables false

/-- Below block number B all but the blocks b and c is as it was. -/
structure Keep2 (B b c : Nat) (w w' : World) : Prop where
  os : w'.os = w.os
  tape : w'.tape = w.tape
  output : w'.output = w.output
  size : w.heap.size ≤ w'.heap.size
  block : ∀ k, k < B → k ≠ b → k ≠ c → w'.heap[k]? = w.heap[k]?
theorem Keep2.refl (B b c : Nat) (w : World) : Keep2 B b c w w := ⟨rfl, rfl, rfl, Nat.le_refl _, fun _ _ _ _ => rfl⟩
theorem Keep2.trans {B b c : Nat} {u v w : World} (h : Keep2 B b c u v) (k : Keep2 B b c v w) : Keep2 B b c u w :=
  ⟨k.os.trans h.os, k.tape.trans h.tape, k.output.trans h.output, Nat.le_trans h.size k.size, fun i hi hb hc => (k.block i hi hb hc).trans (h.block i hi hb hc)⟩
theorem Keep2.of_below {B b c : Nat} {w w' : World} (h : Below B w w') : Keep2 B b c w w' := ⟨h.os, h.tape, h.output, h.size, fun k hk _ _ => h.block k hk⟩
theorem Keep2.mono {B B' b c : Nat} {w w' : World} (h : Keep2 B b c w w') (hB : B' ≤ B) : Keep2 B' b c w w' := ⟨h.os, h.tape, h.output, h.size, fun k hk hb hc => h.block k (by omega) hb hc⟩
theorem Keep2.cell {B b c : Nat} {w w' : World} (h : Keep2 B b c w w') {p : Addr} (hp : p.block < B) (hb : p.block ≠ b) (hc : p.block ≠ c) : w'.cell? p = w.cell? p := World.cell?_of_block (w := w) (h.block p.block hp hb hc)
/-- Where c lies beyond B, one block is enough. -/
theorem Keep2.keep {B b c : Nat} {w w' : World} (h : Keep2 B b c w w') (hc : B ≤ c) : Keep B b w w' := ⟨h.os, h.tape, h.output, h.size, fun k hk hb => h.block k hk hb (by omega)⟩
theorem Keep2.of_keep {B b c : Nat} {w w' : World} (h : Keep B b w w') : Keep2 B b c w w' := ⟨h.os, h.tape, h.output, h.size, fun k hk hb _ => h.block k hk hb⟩
theorem Keep2.of_keep' {B b c : Nat} {w w' : World} (h : Keep B c w w') : Keep2 B b c w w' := ⟨h.os, h.tape, h.output, h.size, fun k hk _ hc => h.block k hk hc⟩

theorem keep_setCells (B b : Nat) : ∀ (vs : List Value) (o : Nat) (w : World), Keep B b w (w.setCells b o vs)
  | [], _, w => Keep.refl _ _ _
  | v :: r, o, w => (((Keep.refl B b w).setCell (p := ⟨b, o, none⟩) (.inr rfl) v).trans (keep_setCells B b r (o + 1) _))
theorem setCells_size (b : Nat) : ∀ (vs : List Value) (o : Nat) (w : World), (w.setCells b o vs).heap.size = w.heap.size
  | [], _, w => rfl
  | v :: r, o, w => by rw [World.setCells, setCells_size b r, World.size_setCell]
theorem ClaimsAt.there {w : World} {pb : Nat} {p : List Cl} (h : ClaimsAt w pb p) {t : Nat} (ht : t < p.length) : w.there pb (t * 25) 25 := fun j hj => by
  have := h.1 (t * 25 + j) (by omega)
  rwa [Nat.zero_add] at this
theorem ClaimsAt.set {w : World} {pb : Nat} {p : List Cl} (h : ClaimsAt w pb p) {t : Nat} (ht : t < p.length) (c d : Cl) (he : clCells d = clCells c) : ClaimsAt (w.setCells pb (t * 25) (clCells c).toList) pb (p.set t d) := by
  refine ⟨by rw [List.length_set]; exact World.there_setCells h.1 _ _ _, fun k e hk => ?_⟩
  have hl : (clCells c).toList.length = 25 := rfl
  by_cases e1 : k = t
  · subst e1
    rw [List.getElem?_set_self ht] at hk
    cases hk
    rw [he]
    exact World.rangeAt_setCells_same w pb _ _ (by rw [hl]; exact h.there ht)
  · rw [List.getElem?_set_ne (by omega)] at hk
    refine World.rangeAt_setCells_apart (h.2 k e hk) pb _ _ (.inr ?_)
    have : (clCells e).toList.length = 25 := rfl
    rw [hl, this]
    rcases Nat.lt_or_gt_of_ne e1 with q | q
    · exact .inl (by omega)
    · exact .inr (by omega)

/-- Truth values as cells. -/
def boolsA (bs : List Bool) : Array Value := (bs.map Value.bool).toArray
theorem made_bools (n : Nat) : madeCells #[.bool false] n = boolsA (List.replicate n false) := by
  apply Array.ext_getElem?
  intro j
  simp only [madeCells, boolsA, Array.getElem?_map, List.getElem?_toArray, List.getElem?_map, List.getElem?_replicate]
  by_cases h : j < n
  · rw [Array.getElem?_range, if_pos h, if_pos h]
    simp [Nat.mod_one]
  · rw [Array.getElem?_range, if_neg h, if_neg h]
    rfl
theorem bools_get (bs : List Bool) {j : Nat} (h : j < bs.length) : (boolsA bs)[j]? = some (.bool (bs.getD j false)) := by
  simp [boolsA, h]
theorem bools_set (bs : List Bool) (j : Nat) (b : Bool) : (boolsA bs).setIfInBounds j (.bool b) = boolsA (bs.set j b) := by
  simp [boolsA]

theorem exitsF_of {xs : List Ln} {p : List Cl} {k : Nat} {x : Ln} {c : Cl} (hx : xs[k]? = some x) (hc : p[k]? = some c) : exitsF xs p k = exitsOf x c k := by
  unfold exitsF exitsOf
  rw [hx, hc]
theorem clEq_nrm (c d : Cl) : clEq (nrm c) d = clEq c d := by
  simp only [clEq, List.range, List.range.loop, List.all_cons, List.all_nil]
  rfl
theorem visit_same {ch : List Int} {k t : Nat} {p : List Cl} {bs : List Bool} {ec was : Cl} (hw : p[t]? = some was) (h : clEq (joinAt k t was ec (chF ch t)) was = true) : visit ch k (p, bs) ((t : Int), ec) = (p, bs) := by
  have e1 : (t : Int).toNat = t := by simp
  have e2 : p.getD t clNone = was := by rw [List.getD_eq_getElem?_getD, hw]; rfl
  unfold visit
  dsimp only
  rw [e1, e2, clEq_nrm, if_pos (by unfold chF at h; exact h)]
theorem visit_new {ch : List Int} {k t : Nat} {p : List Cl} {bs : List Bool} {ec was : Cl} (hw : p[t]? = some was) (h : clEq (joinAt k t was ec (chF ch t)) was = false) : visit ch k (p, bs) ((t : Int), ec) = (p.set t (nrm (joinAt k t was ec (chF ch t))), bs.set t true) := by
  have e1 : (t : Int).toNat = t := by simp
  have e2 : p.getD t clNone = was := by rw [List.getD_eq_getElem?_getD, hw]; rfl
  unfold visit
  dsimp only
  rw [e1, e2, clEq_nrm, if_neg (by unfold chF at h; rw [h]; simp)]
  rfl
theorem visit_len (ch : List Int) (k : Nat) (st : List Cl × List Bool) (e : Int × Cl) : (visit ch k st e).1.length = st.1.length ∧ (visit ch k st e).2.length = st.2.length := by
  unfold visit
  dsimp only
  split <;> simp
theorem fold_take {α β : Type} (f : β → α → β) (es : List α) (s : β) (j : Nat) (h : j < es.length) : (es.take (j + 1)).foldl f s = f ((es.take j).foldl f s) es[j] := by
  rw [List.take_succ_eq_append_getElem h, List.foldl_append]
  rfl
theorem fold_range {β : Type} (f : β → Nat → β) (s : β) (k : Nat) : (List.range (k + 1)).foldl f s = f ((List.range k).foldl f s) k := by
  rw [List.range_succ, List.foldl_append]
  rfl
theorem exL_get (es : List (Int × Cl)) : ∀ (j : Nat) (h : j < es.length) (i : Nat), i < 26 → (exL es)[j * 26 + i]? = (exC es[j].1 es[j].2)[i]? := by
  induction es with
  | nil => intro j h; cases h
  | cons e es ih =>
    intro j h i hi
    have e1 : exL (e :: es) = exC e.1 e.2 ++ exL es := rfl
    have l26 : (exC e.1 e.2).length = 26 := rfl
    rw [e1]
    cases j with
    | zero => rw [List.getElem?_append_left (by omega)]; simp
    | succ j =>
      rw [List.getElem?_append_right (by omega), l26, show (j + 1) * 26 + i - 26 = j * 26 + i by omega, ih j (by simpa using h) i hi]
      rfl
/-- Ways out that are owned: a slice; where there is one, it lies in a block of its own. -/
theorem exits_slice {w : World} {B : Nat} {v : Value} {es : List (Int × Cl)} (h : w.ownsRow B 243 26 v es.length (exL es)) :
    ∃ (a : Option Addr) (cap : Nat), v = .slice a es.length cap ∧ (0 < es.length → ∃ gb : Nat, a = some ⟨gb, 0, none⟩ ∧ B ≤ gb ∧ gb < w.heap.size ∧ ∀ j (hj : j < es.length), w.rangeAt gb (j * 26) (exC es[j].1 es[j].2)) := by
  obtain ⟨_, ⟨e, h2⟩ | ⟨g, cap, cur, e, hg, hb, hc, _, _, ht⟩⟩ := h
  · exact ⟨none, 0, by rw [h2]; exact e, fun h0 => by omega⟩
  · refine ⟨some ⟨g, 0, none⟩, cap, e, fun _ => ⟨g, rfl, hg, blk_lt hb, fun j hj i u hu => ?_⟩⟩
    have hi : i < 26 := by
      have := (List.getElem?_eq_some_iff.1 hu).1
      rwa [exC_len] at this
    rw [cell_of_blk hb, ← hu, ← exL_get es j hj i hi, ← ht, List.getElem?_take, if_pos (by omega)]
    simp

theorem SAt.keep2 {w w' : World} {sb s0 g gcap pb hb fb : Nat} {xs : List Ln} {p p' : List Cl} {ch : List Int} (h : SAt w sb s0 g gcap pb hb xs p ch) (hk : Keep2 w.heap.size pb fb w w') (h1 : sb ≠ pb) (h2 : g ≠ pb) (h3 : hb ≠ pb) (h4 : s0 + 56 ≤ pb) (h5 : s0 + 56 ≤ fb) (h6 : sb ≠ fb) (h7 : g ≠ fb) (h8 : hb ≠ fb) (hc : ClaimsAt w' pb p') (hl : p'.length = xs.length) : SAt w' sb s0 g gcap pb hb xs p' ch :=
  ⟨(hk.cell (p := ⟨sb, 0, none⟩) h.lts h1 h6).trans h.c0, (hk.cell (p := ⟨sb, 1, none⟩) h.lts h1 h6).trans h.c1, (hk.cell (p := ⟨sb, 2, none⟩) h.lts h1 h6).trans h.c2, (hk.cell (p := ⟨sb, 3, none⟩) h.lts h1 h6).trans h.c3,
   h.tab.mono fun k _ hk' => hk.block k (by have := h.lt0; omega) (by omega) (by omega), h.lines.mono (hk.block _ h.ltg h2 h7), hc, hl, (hk.block _ h.lth h3 h8).trans h.chg,
   Nat.le_trans h.lt0 hk.size, Nat.lt_of_lt_of_le h.lts hk.size, Nat.lt_of_lt_of_le h.ltp hk.size⟩

theorem wpList_storeRw {ops : Array Oper} {rest : List Oper} {o : Oper} {a : Act} {w : World} {Q : Exit → Act → World → Prop} (hgd : o.guard = none) (ty : TypeId) (x y : Operand) (ho : o.op = .store ty x y) (g : Nat) (SC old : Array Value)
    (hx : a.eval x = .pointer (some ⟨g, 0, none⟩)) (hy : a.eval y = .agg SC) (hg : w.heap[g]? = some (.cells old ty)) (hin : (Tryz.prog.info? ty).map (·.size) = some SC.size) (hold : old.size = SC.size) (hone : SC.all (·.oneCell') = true)
    (h : ∀ w', Hid (w' = w.setRow g SC) → wpList Tryz.prog ops Q rest (a.put o.dst undef) w') : wpList Tryz.prog ops Q (o :: rest) a w :=
  wpList_plain hgd fun _ hK => wp_store_row ty x y ho g SC hx hy ty old hg hin hold hone (hK _ _ (h _ (hide rfl)))
theorem exec_storeMid {o : Oper} {a : Act} {w : World} (ty : TypeId) (x y : Operand) (ho : o.op = .store ty x y) (b p : Nat) (SC : Array Value) (hx : a.eval x = .pointer (some ⟨b, p, none⟩)) (hy : a.eval y = .agg SC) (ht : w.there b p SC.size) (hin : (Tryz.prog.info? ty).map (·.size) = some SC.size) (hone : SC.all (·.oneCell') = true) :
    (execOp a.eval o).run Tryz.prog w = .ok .skip (w.setCells b p SC.toList) := by
  unfold execOp
  simp only [ho, hx, hy, Sem.run_bind, Sem.run_pure, Result.andThen_ok, run_storeAt_mid w b p ty SC ht hin hone]
theorem exec_neqCl {o : Oper} {a : Act} {w : World} (x y : Operand) (ho : o.op = .binOp .neq 135 x y 135) (c d : Cl) (hx : a.eval x = .agg (clCells c)) (hy : a.eval y = .agg (clCells d)) :
    (execOp a.eval o).run Tryz.prog w = .ok (.value (.bool (!clEq c d))) w := by
  unfold execOp
  simp only [ho, hx, hy, Sem.run_bind, Sem.run_pure, Result.andThen_ok, run_eqGuard_agg (P := Tryz.prog) w .neq 135 x y (clCells c) (clCells d) (by kernel_rfl), run_neqCl]

end Go.Proofs.YtngopilbpiplhaaGreatDoor
