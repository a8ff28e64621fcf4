/-
  The machine's block, and the contracts of its small methods.
  The contracts of the table's small closures: arithmetic, places, comparisons.
-/
import Derived.Test.YtngopilbpiplhaaGreatDoorZBase
import Derived.Test.YtngopilbpiplhaaGreatDoorZParse
import Derived.Laws.EntriesVeiled
namespace Go.Proofs.YtngopilbpiplhaaGreatDoor
open Go.RowKit

/-- A machine: what its cells hold. -/
structure MS where
  line : Int
  next : Int
  how : Int
  why : Int
  value : Int
  input : Nat → Nat
  cells : Nat → Int
  kept : Nat → Int
  set : Nat → Bool
  num : Nat → Int
  out : Value

def mcell (m : MS) (i : Nat) : Value :=
  if i < 5 then (if i = 0 then .int .i64 m.line else if i = 1 then .int .i64 m.next else if i = 2 then .int .i64 m.how else if i = 3 then .int .i64 m.why else .int .i64 m.value)
  else if i < 69 then .int .u8 (m.input (i - 5) : Int)
  else if i < 85 then .int .i64 (m.cells (i - 69))
  else if i < 93 then .int .i64 (m.kept (i - 85))
  else if i < 109 then (if (i - 93) % 2 = 0 then .bool (m.set ((i - 93) / 2)) else .int .i64 (m.num ((i - 93) / 2)))
  else m.out

def marr (m : MS) : Array Value := ((List.range 110).map (mcell m)).toArray
theorem marr_get (m : MS) {i : Nat} (h : i < 110) : (marr m)[i]? = some (mcell m i) := by
  simp [marr, h]
theorem marr_size (m : MS) : (marr m).size = 110 := by simp [marr]
theorem marr_set (m m' : MS) (i : Nat) (v : Value) (hi : i < 110) (hv : v = mcell m' i) (hj : ∀ j, j < 110 → j ≠ i → mcell m j = mcell m' j) : (marr m).setIfInBounds i v = marr m' := by
  apply Array.ext_getElem?
  intro j
  rw [Array.getElem?_setIfInBounds]
  by_cases h1 : j < 110
  · rw [marr_get m h1, marr_get m' h1]
    by_cases h2 : i = j
    · subst h2; simp [marr_size, hi, hv]
    · rw [if_neg h2, hj j h1 (fun e => h2 e.symm)]
  · have a1 : (marr m)[j]? = none := Array.getElem?_eq_none (by rw [marr_size]; omega)
    have a2 : (marr m')[j]? = none := Array.getElem?_eq_none (by rw [marr_size]; omega)
    rw [a1, a2]
    by_cases h2 : i = j
    · omega
    · rw [if_neg h2]

/-- The machine m lies in block b. -/
def Mach (w : World) (b : Nat) (m : MS) : Prop := w.heap[b]? = some (.cells (marr m) 150)
theorem Mach.cell {w : World} {b : Nat} {m : MS} (h : Mach w b m) {i : Nat} (hi : i < 110) : w.cell? ⟨b, i, none⟩ = some (mcell m i) := by rw [cell_of_blk h, marr_get m hi]
theorem Mach.frozen {w : World} {b : Nat} {m : MS} (h : Mach w b m) (o : Nat) : w.frozen? ⟨b, o, none⟩ = false := frozen_of_blk h o
theorem Mach.lt {w : World} {b : Nat} {m : MS} (h : Mach w b m) : b < w.heap.size := blk_lt h
theorem Mach.alloc {w : World} {b : Nat} {m : MS} (h : Mach w b m) (o : Obj) : Mach (w.alloc o) b m := blk_alloc h o
theorem Mach.mono {w w' : World} {b : Nat} {m : MS} (h : Mach w b m) (hb : w'.heap[b]? = w.heap[b]?) : Mach w' b m := hb.trans h
theorem Mach.setc {w : World} {b : Nat} {m : MS} (m' : MS) {i : Nat} {v : Value} (h : Mach w b m) (hi : i < 110) (hv : v = mcell m' i) (hj : ∀ j, j < 110 → j ≠ i → mcell m j = mcell m' j) : Mach (w.setCell ⟨b, i, none⟩ v) b m' := by
  unfold Mach; rw [blk_setCell h, marr_set m m' i v hi hv hj]

theorem mcell_set (m : MS) (r : Nat) (hr : r < 8) : mcell m (93 + r * 2) = .bool (m.set r) := by
  unfold mcell
  rw [if_neg (by omega), if_neg (by omega), if_neg (by omega), if_neg (by omega), if_pos (by omega), if_pos (by omega), show (93 + r * 2 - 93) / 2 = r by omega]
theorem mcell_num (m : MS) (r : Nat) (hr : r < 8) : mcell m (93 + r * 2 + 1) = .int .i64 (m.num r) := by
  unfold mcell
  rw [if_neg (by omega), if_neg (by omega), if_neg (by omega), if_neg (by omega), if_pos (by omega), if_neg (by omega), show (93 + r * 2 + 1 - 93) / 2 = r by omega]

def MS.setR (m : MS) (r : Nat) (n : Int) : MS := { m with set := fun k => if k = r then true else m.set k, num := fun k => if k = r then n else m.num k }

set_option maxHeartbeats 400000 in
theorem Number_any (w : World) (b r : Nat) (m : MS) (hr : r < 8) (h : Mach w b m) :
    Calls Tryz.prog 60 #[.pointer (some ⟨b, 0, none⟩), .int .i64 r] w fun e w' => e = .returned (.int .i64 (m.num r)) ∧ w' = w := by
  have hc := h.cell (i := 93 + r * 2 + 1) (by omega)
  rw [mcell_num m r hr] at hc
  go_enter Tryz.func60, Tryz.ntmps60
  go_wp2
  go_ret
  exact ⟨rfl, rfl⟩

set_option maxHeartbeats 400000 in
theorem IsSet_any (w : World) (b r : Nat) (m : MS) (hr : r < 8) (h : Mach w b m) :
    Calls Tryz.prog 203 #[.pointer (some ⟨b, 0, none⟩), .int .i64 r] w fun e w' => e = .returned (.bool (m.set r)) ∧ w' = w := by
  have hc := h.cell (i := 93 + r * 2) (by omega)
  rw [mcell_set m r hr] at hc
  go_enter Tryz.func203, Tryz.ntmps203
  go_wp2
  go_ret
  exact ⟨rfl, rfl⟩

/-- The world behind a store of register r. -/
def setW (w : World) (b r : Nat) (n : Int) : World := (w.setCell ⟨b, 93 + r * 2, none⟩ (.bool true)).setCell ⟨b, 93 + r * 2 + 1, none⟩ (.int .i64 n)
theorem setW_mach {w : World} {b r : Nat} {m : MS} (hr : r < 8) (h : Mach w b m) (n : Int) : Mach (setW w b r n) b (m.setR r n) := by
  have h1 : Mach (w.setCell ⟨b, 93 + r * 2, none⟩ (.bool true)) b { m with set := fun k => if k = r then true else m.set k } := by
    refine h.setc _ (by omega) ?_ ?_
    · rw [mcell_set _ r hr]; simp
    · intro j hj hne
      unfold mcell
      repeat' (split <;> try rfl)
      congr 1
      show m.set ((j - 93) / 2) = if (j - 93) / 2 = r then true else m.set ((j - 93) / 2)
      rw [if_neg (by omega)]
  refine h1.setc _ (by omega) ?_ ?_
  · rw [mcell_num _ r hr]; simp [MS.setR]
  · intro j hj hne
    unfold mcell
    repeat' (split <;> try rfl)
    simp only [MS.setR]
    congr 1
    rw [if_neg (by omega)]
theorem setW_keep (B b : Nat) (w : World) (r : Nat) (n : Int) : Keep B b w (setW w b r n) :=
  ((Keep.refl B b w).setCell (p := ⟨b, _, none⟩) (.inr rfl) _).setCell (p := ⟨b, _, none⟩) (.inr rfl) _

set_option maxHeartbeats 400000 in
theorem Set_any (w : World) (b r : Nat) (m : MS) (n : Int) (hr : r < 8) (h : Mach w b m) :
    Calls Tryz.prog 109 #[.pointer (some ⟨b, 0, none⟩), .int .i64 r, .int .i64 n] w fun e w' => e = .returned (.tuple #[]) ∧ w' = setW w b r n := by
  have hc := h.cell (i := 93 + r * 2) (by omega)
  rw [mcell_set m r hr] at hc
  have hd := h.cell (i := 93 + r * 2 + 1) (by omega)
  rw [mcell_num m r hr] at hd
  have hf := h.frozen
  go_enter Tryz.func109, Tryz.ntmps109
  go_wp2
  go_end0
  exact ⟨rfl, rfl⟩

theorem Mach.cell0 {w : World} {b : Nat} {m : MS} (h : Mach w b m) : w.cell? ⟨b, 0, none⟩ = some (.int .i64 m.line) := h.cell (by omega)
theorem Mach.cell1 {w : World} {b : Nat} {m : MS} (h : Mach w b m) : w.cell? ⟨b, 1, none⟩ = some (.int .i64 m.next) := h.cell (by omega)
theorem Mach.cell2 {w : World} {b : Nat} {m : MS} (h : Mach w b m) : w.cell? ⟨b, 2, none⟩ = some (.int .i64 m.how) := h.cell (by omega)
theorem Mach.cell3 {w : World} {b : Nat} {m : MS} (h : Mach w b m) : w.cell? ⟨b, 3, none⟩ = some (.int .i64 m.why) := h.cell (by omega)
theorem Mach.cell4 {w : World} {b : Nat} {m : MS} (h : Mach w b m) : w.cell? ⟨b, 4, none⟩ = some (.int .i64 m.value) := h.cell (by omega)
theorem Mach.cell109 {w : World} {b : Nat} {m : MS} (h : Mach w b m) : w.cell? ⟨b, 109, none⟩ = some m.out := h.cell (by omega)
theorem mcell_lt5 (m m' : MS) (h : m.input = m'.input ∧ m.cells = m'.cells ∧ m.kept = m'.kept ∧ m.set = m'.set ∧ m.num = m'.num ∧ m.out = m'.out) (j : Nat) (hj : 5 ≤ j) : mcell m j = mcell m' j := by
  obtain ⟨h1, h2, h3, h4, h5, h6⟩ := h
  unfold mcell
  have h5' : ¬ j < 5 := by omega
  simp only [h5', if_false, h1, h2, h3, h4, h5, h6]
theorem Mach.setf {w : World} {b : Nat} {m : MS} (m' : MS) {i : Nat} {v : Value} (h : Mach w b m) (hi : i < 5) (hv : v = mcell m' i) (hs : m.input = m'.input ∧ m.cells = m'.cells ∧ m.kept = m'.kept ∧ m.set = m'.set ∧ m.num = m'.num ∧ m.out = m'.out)
    (hj : ∀ j, j < 5 → j ≠ i → mcell m j = mcell m' j) : Mach (w.setCell ⟨b, i, none⟩ v) b m' :=
  h.setc m' (by omega) hv fun j _ hne => by
    by_cases h5 : j < 5
    · exact hj j h5 hne
    · exact mcell_lt5 m m' hs j (by omega)
theorem lt5_cases {p : Nat → Prop} (h0 : p 0) (h1 : p 1) (h2 : p 2) (h3 : p 3) (h4 : p 4) (j : Nat) (h : j < 5) : p j := by
  match j, h with
  | 0, _ => exact h0
  | 1, _ => exact h1
  | 2, _ => exact h2
  | 3, _ => exact h3
  | 4, _ => exact h4
  | n + 5, h => exact absurd h (by omega)
theorem Mach.setLine {w : World} {b : Nat} {m : MS} (h : Mach w b m) (n : Int) : Mach (w.setCell ⟨b, 0, none⟩ (.int .i64 n)) b { m with line := n } :=
  h.setf _ (by omega) rfl ⟨rfl, rfl, rfl, rfl, rfl, rfl⟩ (lt5_cases (fun h => absurd rfl h) (fun _ => rfl) (fun _ => rfl) (fun _ => rfl) (fun _ => rfl))
theorem Mach.setNext {w : World} {b : Nat} {m : MS} (h : Mach w b m) (n : Int) : Mach (w.setCell ⟨b, 1, none⟩ (.int .i64 n)) b { m with next := n } :=
  h.setf _ (by omega) rfl ⟨rfl, rfl, rfl, rfl, rfl, rfl⟩ (lt5_cases (fun _ => rfl) (fun h => absurd rfl h) (fun _ => rfl) (fun _ => rfl) (fun _ => rfl))
theorem Mach.setHow {w : World} {b : Nat} {m : MS} (h : Mach w b m) (n : Int) : Mach (w.setCell ⟨b, 2, none⟩ (.int .i64 n)) b { m with how := n } :=
  h.setf _ (by omega) rfl ⟨rfl, rfl, rfl, rfl, rfl, rfl⟩ (lt5_cases (fun _ => rfl) (fun _ => rfl) (fun h => absurd rfl h) (fun _ => rfl) (fun _ => rfl))
theorem Mach.setWhy {w : World} {b : Nat} {m : MS} (h : Mach w b m) (n : Int) : Mach (w.setCell ⟨b, 3, none⟩ (.int .i64 n)) b { m with why := n } :=
  h.setf _ (by omega) rfl ⟨rfl, rfl, rfl, rfl, rfl, rfl⟩ (lt5_cases (fun _ => rfl) (fun _ => rfl) (fun _ => rfl) (fun h => absurd rfl h) (fun _ => rfl))
theorem Mach.setValue {w : World} {b : Nat} {m : MS} (h : Mach w b m) (n : Int) : Mach (w.setCell ⟨b, 4, none⟩ (.int .i64 n)) b { m with value := n } :=
  h.setf _ (by omega) rfl ⟨rfl, rfl, rfl, rfl, rfl, rfl⟩ (lt5_cases (fun _ => rfl) (fun _ => rfl) (fun _ => rfl) (fun _ => rfl) (fun h => absurd rfl h))
theorem Keep.setb (B b : Nat) {a w : World} (h : Keep B b a w) (o : Nat) (v : Value) : Keep B b a (w.setCell ⟨b, o, none⟩ v) := h.setCell (p := ⟨b, o, none⟩) (.inr rfl) v

set_option maxHeartbeats 400000 in
theorem Fail_any (w : World) (b : Nat) (m : MS) (n : Int) (h : Mach w b m) :
    Calls Tryz.prog 160 #[.pointer (some ⟨b, 0, none⟩), .int .i64 n] w fun e w' => e = .returned (.tuple #[]) ∧ Mach w' b { m with how := 2, why := n } ∧ ∀ B, Keep B b w w' := by
  have c2 := h.cell2
  have c3 := h.cell3
  have hf := h.frozen
  have HM := hide h
  clear h
  go_enter Tryz.func160, Tryz.ntmps160
  go_wp2
  go_end0
  exact ⟨rfl, (HM.out.setHow 2).setWhy n, fun B => ((Keep.refl B b _).setb B b _ _).setb B b _ _⟩

set_option maxHeartbeats 400000 in
theorem End_any (w : World) (b : Nat) (m : MS) (n : Int) (h : Mach w b m) :
    Calls Tryz.prog 101 #[.pointer (some ⟨b, 0, none⟩), .int .i64 n] w fun e w' => e = .returned (.tuple #[]) ∧ Mach w' b { m with how := 1, value := n } ∧ ∀ B, Keep B b w w' := by
  have c2 := h.cell2
  have c4 := h.cell4
  have hf := h.frozen
  have HM := hide h
  clear h
  go_enter Tryz.func101, Tryz.ntmps101
  go_wp2
  go_end0
  exact ⟨rfl, (HM.out.setHow 1).setValue n, fun B => ((Keep.refl B b _).setb B b _ _).setb B b _ _⟩

end Go.Proofs.YtngopilbpiplhaaGreatDoor

namespace Go.Proofs.YtngopilbpiplhaaGreatDoor
open Go.RowKit

set_option maxHeartbeats 400000 in
theorem rows5_any (a b : Int) (w : World) :
    Calls Tryz.prog 64 #[.int .i64 a, .int .i64 b] w fun e w' => e = .returned (.tuple #[.int .i64 (wrap64 (a + b)), .int .i64 0]) ∧ w' = w := by
  go_enter Tryz.func64, Tryz.ntmps64
  go_wp2
  go_ret2
  exact ⟨rfl, rfl⟩
set_option maxHeartbeats 400000 in
theorem rows6_any (a b : Int) (w : World) :
    Calls Tryz.prog 67 #[.int .i64 a, .int .i64 b] w fun e w' => e = .returned (.tuple #[.int .i64 (wrap64 (a - b)), .int .i64 0]) ∧ w' = w := by
  go_enter Tryz.func67, Tryz.ntmps67
  go_wp2
  go_ret2
  exact ⟨rfl, rfl⟩
set_option maxHeartbeats 400000 in
theorem rows7_any (a b : Int) (w : World) :
    Calls Tryz.prog 69 #[.int .i64 a, .int .i64 b] w fun e w' => e = .returned (.tuple #[.int .i64 (wrap64 (a * b)), .int .i64 0]) ∧ w' = w := by
  go_enter Tryz.func69, Tryz.ntmps69
  go_wp2
  go_ret2
  exact ⟨rfl, rfl⟩
set_option maxHeartbeats 400000 in
theorem rows8_any (a b : Int) (w : World) :
    Calls Tryz.prog 71 #[.int .i64 a, .int .i64 b] w fun e w' => e = .returned (.tuple #[.int .i64 (bits BinOp.and IntKind.i64 a b), .int .i64 0]) ∧ w' = w := by
  go_enter Tryz.func71, Tryz.ntmps71
  go_wp2
  go_ret2
  exact ⟨rfl, rfl⟩
set_option maxHeartbeats 400000 in
theorem divide_zero (a : Int) (w : World) :
    Calls Tryz.prog 73 #[.int .i64 a, .int .i64 0] w fun e w' => e = .returned (.tuple #[.int .i64 0, .int .i64 2]) ∧ w' = w := by
  go_enter Tryz.func73, Tryz.ntmps73
  go_wp2
  go_ret2
  exact ⟨rfl, rfl⟩
set_option maxHeartbeats 400000 in
theorem divide_any (a b : Int) (hb : ¬ b = 0) (w : World) :
    Calls Tryz.prog 73 #[.int .i64 a, .int .i64 b] w fun e w' => e = .returned (.tuple #[.int .i64 (wrap64 (a.tdiv b)), .int .i64 0]) ∧ w' = w := by
  have hb' : (b == 0) = false := by simpa using hb
  go_enter Tryz.func73, Tryz.ntmps73
  go_wp2
  go_ret2
  exact ⟨rfl, rfl⟩

theorem mcell_input (m : MS) (i : Nat) (h : i < 64) : mcell m (5 + i) = .int .u8 (m.input i : Int) := by
  unfold mcell; rw [if_neg (by omega), if_pos (by omega), show 5 + i - 5 = i by omega]
theorem mcell_cells (m : MS) (i : Nat) (h : i < 16) : mcell m (69 + i) = .int .i64 (m.cells i) := by
  unfold mcell; rw [if_neg (by omega), if_neg (by omega), if_pos (by omega), show 69 + i - 69 = i by omega]
theorem mcell_kept (m : MS) (i : Nat) (h : i < 8) : mcell m (85 + i) = .int .i64 (m.kept i) := by
  unfold mcell; rw [if_neg (by omega), if_neg (by omega), if_neg (by omega), if_pos (by omega), show 85 + i - 85 = i by omega]

set_option maxHeartbeats 400000 in
theorem rows9_any (w : World) (b i : Nat) (m : MS) (hi : i < 64) (hby : m.input i < 256) (h : Mach w b m) :
    Calls Tryz.prog 77 #[.pointer (some ⟨b, 0, none⟩), .int .i64 i] w fun e w' => e = .returned (.int .i64 (m.input i : Int)) ∧ w' = w := by
  have hc := h.cell (i := 5 + i) (by omega)
  rw [mcell_input m i hi] at hc
  have hby' : (m.input i : Int) < 256 := by omega
  go_enter Tryz.func77, Tryz.ntmps77
  go_wp2
  go_ret
  exact ⟨rfl, rfl⟩
set_option maxHeartbeats 400000 in
theorem rows10_any (w : World) (b i : Nat) (m : MS) (hi : i < 16) (h : Mach w b m) :
    Calls Tryz.prog 80 #[.pointer (some ⟨b, 0, none⟩), .int .i64 i] w fun e w' => e = .returned (.int .i64 (m.cells i)) ∧ w' = w := by
  have hc := h.cell (i := 69 + i) (by omega)
  rw [mcell_cells m i hi] at hc
  go_enter Tryz.func80, Tryz.ntmps80
  go_wp2
  go_ret
  exact ⟨rfl, rfl⟩
set_option maxHeartbeats 400000 in
theorem rows12_any (w : World) (b i : Nat) (m : MS) (hi : i < 8) (h : Mach w b m) :
    Calls Tryz.prog 86 #[.pointer (some ⟨b, 0, none⟩), .int .i64 i] w fun e w' => e = .returned (.int .i64 (m.kept i)) ∧ w' = w := by
  have hc := h.cell (i := 85 + i) (by omega)
  rw [mcell_kept m i hi] at hc
  go_enter Tryz.func86, Tryz.ntmps86
  go_wp2
  go_ret
  exact ⟨rfl, rfl⟩

def MS.setC (m : MS) (i : Nat) (n : Int) : MS := { m with cells := fun k => if k = i then n else m.cells k }
def MS.setK (m : MS) (i : Nat) (n : Int) : MS := { m with kept := fun k => if k = i then n else m.kept k }
theorem Mach.setCells {w : World} {b i : Nat} {m : MS} (hi : i < 16) (h : Mach w b m) (n : Int) : Mach (w.setCell ⟨b, 69 + i, none⟩ (.int .i64 n)) b (m.setC i n) := by
  refine h.setc _ (by omega) ?_ ?_
  · rw [mcell_cells _ i hi]; simp [MS.setC]
  · intro j hj hne
    unfold mcell
    repeat' (split <;> try rfl)
    simp only [MS.setC]
    congr 1
    rw [if_neg (by omega)]
theorem Mach.setKept {w : World} {b i : Nat} {m : MS} (hi : i < 8) (h : Mach w b m) (n : Int) : Mach (w.setCell ⟨b, 85 + i, none⟩ (.int .i64 n)) b (m.setK i n) := by
  refine h.setc _ (by omega) ?_ ?_
  · rw [mcell_kept _ i hi]; simp [MS.setK]
  · intro j hj hne
    unfold mcell
    repeat' (split <;> try rfl)
    simp only [MS.setK]
    congr 1
    rw [if_neg (by omega)]
set_option maxHeartbeats 400000 in
theorem rows11_any (w : World) (b i : Nat) (m : MS) (n : Int) (hi : i < 16) (h : Mach w b m) :
    Calls Tryz.prog 83 #[.pointer (some ⟨b, 0, none⟩), .int .i64 i, .int .i64 n] w fun e w' => e = .returned (.tuple #[]) ∧ w' = w.setCell ⟨b, 69 + i, none⟩ (.int .i64 n) := by
  have hc := h.cell (i := 69 + i) (by omega)
  rw [mcell_cells m i hi] at hc
  have hf := h.frozen
  go_enter Tryz.func83, Tryz.ntmps83
  go_wp2
  go_end0
  exact ⟨rfl, rfl⟩
set_option maxHeartbeats 400000 in
theorem rows13_any (w : World) (b i : Nat) (m : MS) (n : Int) (hi : i < 8) (h : Mach w b m) :
    Calls Tryz.prog 87 #[.pointer (some ⟨b, 0, none⟩), .int .i64 i, .int .i64 n] w fun e w' => e = .returned (.tuple #[]) ∧ w' = w.setCell ⟨b, 85 + i, none⟩ (.int .i64 n) := by
  have hc := h.cell (i := 85 + i) (by omega)
  rw [mcell_kept m i hi] at hc
  have hf := h.frozen
  go_enter Tryz.func87, Tryz.ntmps87
  go_wp2
  go_end0
  exact ⟨rfl, rfl⟩
set_option maxHeartbeats 400000 in
theorem rows18_any (w : World) (b : Nat) (m : MS) (n : Int) (h : Mach w b m) :
    Calls Tryz.prog 100 #[.pointer (some ⟨b, 0, none⟩), .int .i64 n] w fun e w' => e = .returned (.tuple #[]) ∧ Mach w' b { m with how := 1, value := n } ∧ ∀ B, Keep B b w w' := by
  have HM := hide h
  clear h
  go_enter Tryz.func100, Tryz.ntmps100
  go_wp2_with (go_at_call 101; refine (End_any _ b m n HM.out).mono ?_; rintro e w' ⟨rfl, hm', hk'⟩)
  go_end0
  exact ⟨rfl, hm', hk'⟩

set_option maxHeartbeats 400000 in
theorem rows15_any (w : World) (p : Value) (wd r s n : Int) :
    Calls Tryz.prog 92 #[p, .agg #[.int .i64 wd, .int .i64 r, .int .i64 s, .int .i64 n]] w fun e w' => e = .returned (.bool true) ∧ Below w.heap.size w w' := by
  go_enter Tryz.func92, Tryz.ntmps92
  go_wp2
  go_ret
  exact ⟨rfl, (Below.refl _ _).alloc (Nat.le_refl _) _⟩

set_option maxHeartbeats 1000000 in
theorem rows16_any (w : World) (b : Nat) (m : MS) (wd n : Int) (r s : Nat) (hr : r < 8) (hs : s < 8) (h : Mach w b m) :
    Calls Tryz.prog 93 #[.pointer (some ⟨b, 0, none⟩), .agg #[.int .i64 wd, .int .i64 (r : Int), .int .i64 (s : Int), .int .i64 n]] w fun e w' => e = .returned (.bool (decide (m.num r < m.num s))) ∧ Below w.heap.size w w' := by
  have HM := hide h
  clear h
  go_enter Tryz.func93, Tryz.ntmps93
  go_wp2
  go_quiet (first
    | (go_at_call_of 60 (Value.int IntKind.i64 (r : Int)); exact Calls.quiet_of_same (Number_any _ b r m hr (HM.out.alloc _)))
    | (go_at_call_of 60 (Value.int IntKind.i64 (s : Int)); exact Calls.quiet_of_same (Number_any _ b s m hs (HM.out.alloc _))))
  go_wp2
  go_ret
  exact ⟨rfl, below_drewN ((Below.refl _ _).alloc (Nat.le_refl _) _) _⟩

set_option maxHeartbeats 1000000 in
theorem rows17_any (w : World) (b : Nat) (m : MS) (wd n : Int) (r s : Nat) (hr : r < 8) (hs : s < 8) (h : Mach w b m) :
    Calls Tryz.prog 97 #[.pointer (some ⟨b, 0, none⟩), .agg #[.int .i64 wd, .int .i64 (r : Int), .int .i64 (s : Int), .int .i64 n]] w fun e w' => e = .returned (.bool (m.num r == m.num s)) ∧ Below w.heap.size w w' := by
  have HM := hide h
  clear h
  go_enter Tryz.func97, Tryz.ntmps97
  go_wp2
  go_quiet (first
    | (go_at_call_of 60 (Value.int IntKind.i64 (r : Int)); exact Calls.quiet_of_same (Number_any _ b r m hr (HM.out.alloc _)))
    | (go_at_call_of 60 (Value.int IntKind.i64 (s : Int)); exact Calls.quiet_of_same (Number_any _ b s m hs (HM.out.alloc _))))
  go_wp2
  go_ret
  exact ⟨rfl, below_drewN ((Below.refl _ _).alloc (Nat.le_refl _) _) _⟩

theorem Number_eq (w : World) (b r : Nat) (m : MS) (n : Int) (hr : r < 8) (hn : m.num r = n) (h : Mach w b m) :
    Calls Tryz.prog 60 #[.pointer (some ⟨b, 0, none⟩), .int .i64 r] w fun e w' => e = .returned (.int .i64 n) ∧ w' = w := by
  subst hn; exact Number_any w b r m hr h

/-- A line as a value. -/
abbrev lnV (wd r s n : Int) : Value := .agg #[.int .i64 wd, .int .i64 r, .int .i64 s, .int .i64 n]
/-- What an act does: it answers why, and leaves the machine m'. -/
def ActRes (b : Nat) (why : Int) (m' : MS) (w : World) (e : Ending) (w' : World) : Prop := e = .returned (.int .i64 why) ∧ Mach w' b m' ∧ Keep w.heap.size b w w'
theorem keep_alloc (b : Nat) (w : World) (o : Obj) : Keep w.heap.size b w (w.alloc o) := (Keep.refl _ _ _).alloc (Nat.le_refl _) o

end Go.Proofs.YtngopilbpiplhaaGreatDoor
