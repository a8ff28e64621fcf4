/-
  What the lines that wardkeep.Straight writes do, one by one.
-/
import Derived.Test.YtngopilbpiplhaaGreatDoorAwake
namespace Go.Proofs.YtngopilbpiplhaaGreatDoor
open Go.RowKit

/-- The cells of an array of numbers. -/
def arrC (k : Nat) (n : Nat → Int) : Array Value := ((List.range k).map fun i => Value.int .i64 (n i)).toArray
theorem arrC_get (k : Nat) (n : Nat → Int) {i : Nat} (h : i < k) : (arrC k n)[i]? = some (.int .i64 (n i)) := by simp [arrC, h]
theorem arrC_set (k : Nat) (n : Nat → Int) (i : Nat) (v : Int) : (arrC k n).setIfInBounds i (.int .i64 v) = arrC k (upd n i v) := by
  apply Array.ext_getElem?
  intro j
  rw [Array.getElem?_setIfInBounds]
  by_cases h1 : j < k
  · rw [arrC_get k n h1, arrC_get k _ h1]
    by_cases h2 : i = j
    · subst h2; simp [arrC, h1, upd]
    · rw [if_neg h2]; simp only [upd]; rw [if_neg (fun e => h2 e.symm)]
  · have a1 : (arrC k n)[j]? = none := Array.getElem?_eq_none (by simp [arrC]; omega)
    have a2 : (arrC k (upd n i v))[j]? = none := Array.getElem?_eq_none (by simp [arrC]; omega)
    rw [a1, a2]
    by_cases h2 : i = j
    · subst h2; simp [arrC]; omega
    · rw [if_neg h2]

/-- The raw number at a place. -/
def rawAt (raw : List Int) (j : Nat) : Int := raw.getD j 0
/-- What register r is set to first. -/
def firstX (raw : List Int) (r : Nat) : Int := if r < raw.length then pickF (rawAt raw r) 2000001 - 1000000 else 0

theorem set_no10 (r : Nat) (x : Int) (hr : r < 8) : 10 ∉ wName 0 ++ 32 :: (reg r ++ 32 :: Lib.itoa x) := by
  intro h
  simp only [List.mem_append, List.mem_cons] at h
  rcases h with h | h | h | h | h
  · exact absurd h (by decide +kernel)
  · cases h
  · exact (reg_plain r hr).2.1 h
  · cases h
  · exact (itoa_mem x _ h).2 rfl
theorem itoa_short (x : Int) (h0 : -1000000000 ≤ x) (h1 : x ≤ 1000000000) : (Lib.itoa x).length ≤ 11 := by
  rcases Int.lt_trichotomy x 0 with h | h | h
  · obtain ⟨u, rfl⟩ : ∃ u : Nat, x = -(u : Int) := ⟨x.natAbs, by omega⟩
    rw [itoa_neg u (by omega)]
    have := dd_len 10 u (by have : (10 : Nat) ^ 10 = 10000000000 := rfl; omega)
    simp; omega
  · subst h; decide +kernel
  · obtain ⟨u, rfl⟩ : ∃ u : Nat, x = (u : Int) := ⟨x.natAbs, by omega⟩
    rw [itoa_pos u (by omega)]
    have := dd_len 10 u (by have : (10 : Nat) ^ 10 = 10000000000 := rfl; omega)
    omega
theorem set_len (r : Nat) (x : Int) (hr : r < 8) (h0 : -1000000000 ≤ x) (h1 : x ≤ 1000000000) : (wName 0 ++ 32 :: (reg r ++ 32 :: Lib.itoa x)).length ≤ 20 := by
  have a := (reg_plain r hr).2.2
  have b := itoa_short x h0 h1
  have c : (wName 0).length = 3 := rfl
  simp only [List.length_append, List.length_cons]
  omega
theorem lineS_set (r : Nat) (x : Int) (k : Nat) (hr : r < 8) (h0 : -1000000000 ≤ x) (h1 : x ≤ 1000000000) : LineS k ⟨(0 : Nat), r, (0 : Nat), x⟩ :=
  ⟨⟨0, by omega, by omega, by omega, rfl⟩, ⟨r, hr, rfl⟩, ⟨0, by omega, rfl⟩, by show (-9223372036854775808 : Int) ≤ x; omega, by show x ≤ 9223372036854775807; omega, fun h => absurd h (by show ((0 : Nat) : Int) ≠ 15; decide)⟩
theorem SInv.len {input : List UInt8} {q k : Nat} {T : List UInt8} {n c : Nat → Int} {out : List UInt8} (h : SInv input q k T n c out) : T.length ≤ 21 * k := by
  obtain ⟨ts, xs, m, h1, h2, _, _, h5, _⟩ := h
  rw [h1, ← h2]
  exact joined_len ts (fun t ht => (h5 t ht).2)

/-- Each is a number of 64 bits. -/
def Rng (n : Nat → Int) : Prop := ∀ j, -9223372036854775808 ≤ n j ∧ n j ≤ 9223372036854775807
theorem Rng.upd {n : Nat → Int} (h : Rng n) (r : Nat) {v : Int} (h0 : -9223372036854775808 ≤ v) (h1 : v ≤ 9223372036854775807) : Rng (upd n r v) := fun j => by
  unfold Go.Proofs.YtngopilbpiplhaaGreatDoor.upd; split; exact ⟨h0, h1⟩; exact h j

theorem rng0 : Rng (fun _ => 0) := fun _ => by show (-9223372036854775808 : Int) ≤ 0 ∧ (0 : Int) ≤ 9223372036854775807; omega
theorem pick_nat (x : Int) (p : Nat) (hp : 0 < p) : ∃ a : Nat, a < p ∧ pickF x (p : Int) = (a : Int) := by
  have := pickF_lt x (p : Int) (by omega)
  exact ⟨(pickF x (p : Int)).toNat, by omega, by omega⟩

theorem wpList_storeN {ops : Array Oper} {rest : List Oper} {o : Oper} {a : Act} {w : World} {Q : Exit → Act → World → Prop} (hgd : o.guard = none) (x y : Operand) (ho : o.op = .store 2 x y) (g k j : Nat) (n : Nat → Int) (t : TypeId) (v : Int)
    (hx : a.eval x = .pointer (some ⟨g, j, none⟩)) (hy : a.eval y = .int .i64 v) (hg : w.heap[g]? = some (.cells (arrC k n) t)) (hj : j < k)
    (h : ∀ w', w'.heap[g]? = some (.cells (arrC k (upd n j v)) t) → (∀ B, Keep B g w w') → w'.heap.size = w.heap.size → wpList Tryz.prog ops Q rest (a.put o.dst undef) w') : wpList Tryz.prog ops Q (o :: rest) a w := by
  refine wpList_plain hgd fun _ hK => ?_
  have hc := (cell_of_blk hg j).trans (arrC_get k n hj)
  have hf := frozen_of_blk hg j
  have hb := blk_setCell hg j (.int .i64 v)
  rw [arrC_set] at hb
  have h' := h (w.setCell ⟨g, j, none⟩ (.int .i64 v)) hb (fun B => (Keep.refl B g w).setCell (p := ⟨g, j, none⟩) (.inr rfl) _) (World.size_setCell ..)
  unfold Oper.wp execOp
  simp only [ho, hx, hy, Instr.storeAt, Instr.sureAddr, Sem.run_bind, Sem.run_pure, Result.andThen_ok]
  clear h hb
  have hrun : (storeVar 2 ⟨g, j, none⟩ (.int .i64 v)).run Tryz.prog w = .ok () (w.setCell ⟨g, j, none⟩ (.int .i64 v)) := by go_simp
  rw [hrun]
  exact hK _ _ h'

theorem wrap_eq (x : Int) : IntKind.i64.wrap x = wrap64 x := by rw [IntKind.wrap_i64]; unfold wrap64; rfl
/-- What the world holds while the lines are written. -/
structure SW (raw : List Int) (rb ro : Nat) (w1 w : World) (n c : Nat → Int) : Prop where
  N : w.heap[w1.heap.size]? = some (.cells (arrC 8 n) 24)
  C : w.heap[w1.heap.size + 1]? = some (.cells (arrC 16 c) 25)
  B : Below w1.heap.size w1 w
  raw : ∀ j, j < raw.length → w.cell? ⟨rb, ro + j, none⟩ = some (.int .i64 (rawAt raw j))
  rb : rb < w1.heap.size
theorem SW.below {raw : List Int} {rb ro : Nat} {w1 w w' : World} {n c : Nat → Int} (h : SW raw rb ro w1 w n c) (hb : Below w.heap.size w w') : SW raw rb ro w1 w' n c :=
  ⟨(hb.block _ (blk_lt h.N)).trans h.N, (hb.block _ (blk_lt h.C)).trans h.C, h.B.trans (hb.mono h.B.size), fun j hj => (hb.cell (p := ⟨rb, ro + j, none⟩) (by show rb < _; have := h.rb; have := h.B.size; omega)).trans (h.raw j hj), h.rb⟩
theorem SW.setN {raw : List Int} {rb ro : Nat} {w1 w w' : World} {n c n' : Nat → Int} (h : SW raw rb ro w1 w n c) (hN : w'.heap[w1.heap.size]? = some (.cells (arrC 8 n') 24)) (hk : ∀ B, Keep B w1.heap.size w w') : SW raw rb ro w1 w' n' c :=
  ⟨hN, ((hk (w1.heap.size + 2)).block _ (by omega) (by omega)).trans h.C, h.B.trans ((hk w1.heap.size).below (Nat.le_refl _)), fun j hj => ((hk w1.heap.size).cell (p := ⟨rb, ro + j, none⟩) h.rb (by show rb ≠ _; have := h.rb; omega)).trans (h.raw j hj), h.rb⟩
theorem SW.setC {raw : List Int} {rb ro : Nat} {w1 w w' : World} {n c c' : Nat → Int} (h : SW raw rb ro w1 w n c) (hC : w'.heap[w1.heap.size + 1]? = some (.cells (arrC 16 c') 25)) (hk : ∀ B, Keep B (w1.heap.size + 1) w w') : SW raw rb ro w1 w' n c' :=
  ⟨((hk (w1.heap.size + 1)).block _ (by omega) (by omega)).trans h.N, hC, h.B.trans ((hk w1.heap.size).below (by omega)), fun j hj => ((hk w1.heap.size).cell (p := ⟨rb, ro + j, none⟩) h.rb (by show rb ≠ _; have := h.rb; omega)).trans (h.raw j hj), h.rb⟩
theorem SW.drew {raw : List Int} {rb ro : Nat} {w1 w : World} {n c : Nat → Int} (h : SW raw rb ro w1 w n c) : SW raw rb ro w1 w.drew n c := h.below (Below.refl _ _).drew
theorem SW.n {raw : List Int} {rb ro : Nat} {w1 w : World} {n c : Nat → Int} (h : SW raw rb ro w1 w n c) (j : Nat) (hj : j < 8) : w.cell? ⟨w1.heap.size, j, none⟩ = some (.int .i64 (n j)) := (cell_of_blk h.N j).trans (arrC_get 8 n hj)
theorem SW.c {raw : List Int} {rb ro : Nat} {w1 w : World} {n c : Nat → Int} (h : SW raw rb ro w1 w n c) (j : Nat) (hj : j < 16) : w.cell? ⟨w1.heap.size + 1, j, none⟩ = some (.int .i64 (c j)) := (cell_of_blk h.C j).trans (arrC_get 16 c hj)

/-- Lines of two registers. -/
theorem RS_no10 (row a b : Nat) (hn : 10 ∉ wName row) (ha : a < 8) (hb : b < 8) : 10 ∉ wName row ++ 32 :: (reg a ++ 32 :: reg b) := by
  intro h
  simp only [List.mem_append, List.mem_cons] at h
  rcases h with h | h | h | h | h
  · exact hn h
  · cases h
  · exact (reg_plain a ha).2.1 h
  · cases h
  · exact (reg_plain b hb).2.1 h
theorem RS_len (row a b : Nat) (hn : (wName row).length ≤ 3) (ha : a < 8) (hb : b < 8) : (wName row ++ 32 :: (reg a ++ 32 :: reg b)).length ≤ 20 := by
  have h1 := (reg_plain a ha).2.2
  have h2 := (reg_plain b hb).2.2
  simp only [List.length_append, List.length_cons]
  omega
theorem lineS_RS (row a b k : Nat) (h : row < 13) (ha : a < 8) (hb : b < 8) : LineS k ⟨row, a, b, 0⟩ :=
  ⟨⟨row, by omega, by omega, by omega, rfl⟩, ⟨a, ha, rfl⟩, ⟨b, hb, rfl⟩, by show (-9223372036854775808 : Int) ≤ 0; omega, by show (0 : Int) ≤ 9223372036854775807; omega, fun e => absurd e (by show (row : Int) ≠ 15; omega)⟩
/-- One line of two registers more. -/
theorem SInv.addRS {input : List UInt8} {k : Nat} {T : List UInt8} {n c : Nat → Int} {out : List UInt8} (h : SInv input 8 k T n c out) (row a b : Nat) (hrow : row < 13) (hw : WordOk row [82, 83]) (hn : 10 ∉ wName row) (hl : (wName row).length ≤ 3) (ha : a < 8) (hb : b < 8) {n' c' : Nat → Int}
    (hs : Steps input ⟨row, a, b, 0⟩ 8 n c out 8 n' c' out) : SInv input 8 (k + 1) (T ++ (wName row ++ 32 :: (reg a ++ 32 :: reg b)) ++ [10]) n' c' out :=
  h.add _ _ (lineF_RS hw a b ha hb) (RS_no10 row a b hn ha hb) (RS_len row a b hl ha hb) (lineS_RS row a b _ hrow ha hb) (fun e => absurd e (by show (row : Int) ≠ 15; omega)) hs

theorem wrap_in (input : List UInt8) (p : Nat) (h : p < (⟨input.toArray⟩ : ByteArray).size) : wrap64 (((⟨input.toArray⟩ : ByteArray)[p].toNat : Nat) : Int) = (inputOf input p : Int) := by
  have h' : p < input.length := by simpa [ByteArray.size] using h
  have e : (⟨input.toArray⟩ : ByteArray)[p] = input[p] := rfl
  have e2 : inputOf input p = input[p].toNat := by simp [inputOf, List.getD_eq_getElem?_getD, h']
  rw [e, e2]
  have := input[p].toNat_lt
  unfold wrap64; omega
theorem inputOf_range (input : List UInt8) (p : Nat) : (-9223372036854775808 : Int) ≤ (inputOf input p : Int) ∧ (inputOf input p : Int) ≤ 9223372036854775807 := by
  have := (input.getD p 0).toNat_lt
  unfold inputOf; omega
theorem reg7 : reg 7 = [114, 55] := by decide +kernel
theorem itoa7m : Lib.itoa (-7) = [45, 55] := by decide +kernel
theorem upd_upd (n : Nat → Int) (a : Nat) (x y : Int) : upd (upd n a x) a y = upd n a y := by
  funext k; unfold upd; split <;> rfl
theorem upd_at (n : Nat → Int) (a : Nat) (x : Int) : upd n a x a = x := by simp [upd]
theorem upd_off (n : Nat → Int) {a b : Nat} (h : b ≠ a) (x : Int) : upd n a x b = n b := by simp [upd, h]
/-- One line more that sets a register to a number. -/
theorem SInv.addSet {input : List UInt8} {k : Nat} {T : List UInt8} {n c : Nat → Int} {out : List UInt8} (h : SInv input 8 k T n c out) (r : Nat) (x : Int) (hr : r < 8) (h0 : -1000000000 ≤ x) (h1 : x ≤ 1000000000) :
    SInv input 8 (k + 1) (T ++ (wName 0 ++ 32 :: (reg r ++ 32 :: Lib.itoa x)) ++ [10]) (upd n r x) c out :=
  h.add _ _ (lineF_Rn w0 r x hr h0 h1) (set_no10 r x hr) (set_len r x hr h0 h1) (lineS_set r x _ hr h0 h1) (fun e => absurd e (by show ((0 : Nat) : Int) ≠ 15; decide)) (steps_set input r x 8 n c out)
/-- One line more that writes a register out. -/
theorem SInv.addOut {input : List UInt8} {k : Nat} {T : List UInt8} {n c : Nat → Int} {out : List UInt8} (h : SInv input 8 k T n c out) (r : Nat) (hr : r < 8) :
    SInv input 8 (k + 1) (T ++ (wName 12 ++ 32 :: reg r) ++ [10]) n c (putF out (n r)) :=
  h.add _ _ (lineF_R w12 r hr) (by
      intro e
      simp only [List.mem_append, List.mem_cons] at e
      rcases e with e | e | e
      · exact absurd e (by decide +kernel)
      · cases e
      · exact (reg_plain r hr).2.1 e) (by
      have a := (reg_plain r hr).2.2
      have b : (wName 12).length = 3 := rfl
      simp only [List.length_append, List.length_cons]; omega)
    ⟨⟨12, by omega, by omega, by omega, rfl⟩, ⟨r, hr, rfl⟩, ⟨0, by omega, rfl⟩, by show (-9223372036854775808 : Int) ≤ 0; omega, by show (0 : Int) ≤ 9223372036854775807; omega, fun e => absurd e (by show ((12 : Nat) : Int) ≠ 15; decide)⟩
    (fun e => absurd e (by show ((12 : Nat) : Int) ≠ 15; decide)) (steps_out input r 8 hr (by omega) n c out)
/-- One line more that jumps to the next one or goes on to it. -/
theorem SInv.addJeq {input : List UInt8} {k : Nat} {T : List UInt8} {n c : Nat → Int} {out : List UInt8} (h : SInv input 8 k T n c out) (a b : Nat) (ha : a < 8) (hb : b < 8) (hk : k < 500) :
    SInv input 8 (k + 1) (T ++ (wName 15 ++ 32 :: (reg a ++ 32 :: (reg b ++ 32 :: Lib.itoa ((k + 1 : Nat) : Int)))) ++ [10]) n c out :=
  h.add _ _ (lineF_RSL w15 a b (k + 1) ha hb (by omega)) (by
      intro e
      simp only [List.mem_append, List.mem_cons] at e
      rcases e with e | e | e | e | e | e | e
      · exact absurd e (by decide +kernel)
      · cases e
      · exact (reg_plain a ha).2.1 e
      · cases e
      · exact (reg_plain b hb).2.1 e
      · cases e
      · exact (itoa_mem _ _ e).2 rfl) (by
      have h1 := (reg_plain a ha).2.2
      have h2 := (reg_plain b hb).2.2
      have h3 : (wName 15).length = 3 := rfl
      have h4 := dd_len 3 (k + 1) (by have : (10 : Nat) ^ 3 = 1000 := rfl; omega)
      rw [itoa_pos (k + 1) (by omega)]
      simp only [List.length_append, List.length_cons]; omega)
    ⟨⟨15, by omega, by omega, by omega, rfl⟩, ⟨a, ha, rfl⟩, ⟨b, hb, rfl⟩, by show (-9223372036854775808 : Int) ≤ ((k + 1 : Nat) : Int); omega, by show ((k + 1 : Nat) : Int) ≤ 9223372036854775807; omega, fun _ => by show 0 ≤ ((k + 1 : Nat) : Int) ∧ ((k + 1 : Nat) : Int) ≤ ((k + 1 : Nat) : Int); omega⟩
    (fun _ => by show ((k + 1 : Nat) : Int) = (k : Int) + 1; omega) (steps_jeq input a b 8 ha hb n c out (k + 1))

/-- A whole state stored into a variable. -/
theorem wpList_storeRow {ops : Array Oper} {rest : List Oper} {o : Oper} {a : Act} {w : World} {Q : Exit → Act → World → Prop} (hgd : o.guard = none) (x y : Operand) (ho : o.op = .store 32 x y) (g : Nat) (SC old : Array Value) (t : TypeId)
    (hx : a.eval x = .pointer (some ⟨g, 0, none⟩)) (hy : a.eval y = .agg SC) (hg : w.heap[g]? = some (.cells old t)) (hsz : SC.size = 21) (hold : old.size = 21) (hone : SC.all (·.oneCell') = true)
    (h : ∀ w', w'.heap[g]? = some (.cells SC t) → (∀ B, Keep B g w w') → w'.heap.size = w.heap.size → wpList Tryz.prog ops Q rest (a.put o.dst undef) w') : wpList Tryz.prog ops Q (o :: rest) a w :=
  wpList_plain hgd fun _ hK => wp_store_row 32 x y ho g SC hx hy t old hg (by rw [hsz]; kernel_rfl) (by rw [hsz, hold]) hone
    (hK _ _ (h _ (setRow_heap w g old SC t _ hg) (fun B => keep_setRow B g w SC) (by simp [World.setRow])))
theorem st_reg (m : MS) (l : List UInt8) (j : Nat) (h : j < 8) : (stCells m l)[4 + j * 2]? = some (.bool (m.set j)) ∧ (stCells m l)[4 + j * 2 + 1]? = some (.int .i64 (m.num j)) :=
  lt8 (p := fun j => (stCells m l)[4 + j * 2]? = some (.bool (m.set j)) ∧ (stCells m l)[4 + j * 2 + 1]? = some (.int .i64 (m.num j))) ⟨rfl, rfl⟩ ⟨rfl, rfl⟩ ⟨rfl, rfl⟩ ⟨rfl, rfl⟩ ⟨rfl, rfl⟩ ⟨rfl, rfl⟩ ⟨rfl, rfl⟩ ⟨rfl, rfl⟩ j h
theorem st_head (m : MS) (l : List UInt8) : (stCells m l)[0]? = some (.int .i64 m.how) ∧ (stCells m l)[1]? = some (.int .i64 m.line) ∧ (stCells m l)[2]? = some (.int .i64 m.why) ∧ (stCells m l)[3]? = some (.int .i64 m.value) ∧ (stCells m l)[20]? = some (.string ⟨l.toArray⟩) := ⟨rfl, rfl, rfl, rfl, rfl⟩
/-- What a state holds behind a run that ended well. -/
structure StIs (SC : Array Value) (k : Nat) (n : Nat → Int) (out : List UInt8) : Prop where
  size : SC.size = 21
  one : SC.all (·.oneCell') = true
  how : SC[0]? = some (.int .i64 1)
  line : SC[1]? = some (.int .i64 k)
  why : SC[2]? = some (.int .i64 0)
  value : SC[3]? = some (.int .i64 (n 0))
  out : SC[20]? = some (.string ⟨out.toArray⟩)
  set : ∀ j, j < 8 → SC[4 + j * 2]? = some (.bool true)
  num : ∀ j, j < 8 → SC[4 + j * 2 + 1]? = some (.int .i64 (n j))
theorem Fin.st {input : List UInt8} {k : Nat} {l : List UInt8} {n : Nat → Int} {out : List UInt8} (h : Fin input k l n out) : StIs (stCells (runOf (progF l) input 3000).1 (runOf (progF l) input 3000).2) k n out := by
  obtain ⟨m, e, h1, h2, h3, h4, h5⟩ := h.run
  rw [e]
  obtain ⟨a0, a1, a2, a3, a4⟩ := st_head m out
  refine ⟨rfl, st_one m out, ?_, ?_, ?_, ?_, a4, fun j hj => ?_, fun j hj => ?_⟩
  · rw [a0, h1]
  · rw [a1, h3]
  · rw [a2, h2]
  · rw [a3, h4]
  · rw [(st_reg m out j hj).1, (h5 j hj).1]
  · rw [(st_reg m out j hj).2, (h5 j hj).2]
theorem end_text (T : List UInt8) : (⟨T.toArray⟩ : ByteArray) ++ ⟨#[101, 110, 100, 32, 114, 48]⟩ = ⟨(T ++ endT).toArray⟩ := by
  have e : endT = [101, 110, 100, 32, 114, 48] := by decide +kernel
  rw [e]
  exact ByteArray.ext (by simp [ByteArray.data_append])

end Go.Proofs.YtngopilbpiplhaaGreatDoor
