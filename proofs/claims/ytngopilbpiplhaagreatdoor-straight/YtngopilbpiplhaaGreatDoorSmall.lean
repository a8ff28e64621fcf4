/-
  The contracts of the table's small closures: arithmetic, places, comparisons.
-/
import Derived.Test.YtngopilbpiplhaaGreatDoorMach
import Derived.Test.YtngopilbpiplhaaGreatDoorWords
import Derived.Laws.EntriesVeiled
namespace Go.Proofs.YtngopilbpiplhaaGreatDoor
open Go.RowKit

set_option maxHeartbeats 400000 in
theorem rows5_any (a b : Int) (w : World) :
    Calls Tryz.prog 64 #[.int .i64 a, .int .i64 b] w fun e w' => e = .returned (.tuple #[.int .i64 (wrap64 (a + b)), .int .i64 0]) ∧ w' = w := by
  go_enter Tryz.func64, Tryz.ntmps64
  go_wp2
  go_ret2
  exact ⟨rfl, rfl⟩
set_option maxHeartbeats 400000 in
theorem rows6_any (a b : Int) (w : World) :
    Calls Tryz.prog 67 #[.int .i64 a, .int .i64 b] w fun e w' => e = .returned (.tuple #[.int .i64 (wrap64 (a - b)), .int .i64 0]) ∧ w' = w := by
  go_enter Tryz.func67, Tryz.ntmps67
  go_wp2
  go_ret2
  exact ⟨rfl, rfl⟩
set_option maxHeartbeats 400000 in
theorem rows7_any (a b : Int) (w : World) :
    Calls Tryz.prog 69 #[.int .i64 a, .int .i64 b] w fun e w' => e = .returned (.tuple #[.int .i64 (wrap64 (a * b)), .int .i64 0]) ∧ w' = w := by
  go_enter Tryz.func69, Tryz.ntmps69
  go_wp2
  go_ret2
  exact ⟨rfl, rfl⟩
set_option maxHeartbeats 400000 in
theorem rows8_any (a b : Int) (w : World) :
    Calls Tryz.prog 71 #[.int .i64 a, .int .i64 b] w fun e w' => e = .returned (.tuple #[.int .i64 (bits BinOp.and IntKind.i64 a b), .int .i64 0]) ∧ w' = w := by
  go_enter Tryz.func71, Tryz.ntmps71
  go_wp2
  go_ret2
  exact ⟨rfl, rfl⟩
set_option maxHeartbeats 400000 in
theorem divide_zero (a : Int) (w : World) :
    Calls Tryz.prog 73 #[.int .i64 a, .int .i64 0] w fun e w' => e = .returned (.tuple #[.int .i64 0, .int .i64 2]) ∧ w' = w := by
  go_enter Tryz.func73, Tryz.ntmps73
  go_wp2
  go_ret2
  exact ⟨rfl, rfl⟩
set_option maxHeartbeats 400000 in
theorem divide_any (a b : Int) (hb : ¬ b = 0) (w : World) :
    Calls Tryz.prog 73 #[.int .i64 a, .int .i64 b] w fun e w' => e = .returned (.tuple #[.int .i64 (wrap64 (a.tdiv b)), .int .i64 0]) ∧ w' = w := by
  have hb' : (b == 0) = false := by simpa using hb
  go_enter Tryz.func73, Tryz.ntmps73
  go_wp2
  go_ret2
  exact ⟨rfl, rfl⟩

theorem mcell_input (m : MS) (i : Nat) (h : i < 64) : mcell m (5 + i) = .int .u8 (m.input i : Int) := by
  unfold mcell; rw [if_neg (by omega), if_pos (by omega), show 5 + i - 5 = i by omega]
theorem mcell_cells (m : MS) (i : Nat) (h : i < 16) : mcell m (69 + i) = .int .i64 (m.cells i) := by
  unfold mcell; rw [if_neg (by omega), if_neg (by omega), if_pos (by omega), show 69 + i - 69 = i by omega]
theorem mcell_kept (m : MS) (i : Nat) (h : i < 8) : mcell m (85 + i) = .int .i64 (m.kept i) := by
  unfold mcell; rw [if_neg (by omega), if_neg (by omega), if_neg (by omega), if_pos (by omega), show 85 + i - 85 = i by omega]

set_option maxHeartbeats 400000 in
theorem rows9_any (w : World) (b i : Nat) (m : MS) (hi : i < 64) (hby : m.input i < 256) (h : Mach w b m) :
    Calls Tryz.prog 77 #[.pointer (some ⟨b, 0, none⟩), .int .i64 i] w fun e w' => e = .returned (.int .i64 (m.input i : Int)) ∧ w' = w := by
  have hc := h.cell (i := 5 + i) (by omega)
  rw [mcell_input m i hi] at hc
  have hby' : (m.input i : Int) < 256 := by omega
  go_enter Tryz.func77, Tryz.ntmps77
  go_wp2
  go_ret
  exact ⟨rfl, rfl⟩
set_option maxHeartbeats 400000 in
theorem rows10_any (w : World) (b i : Nat) (m : MS) (hi : i < 16) (h : Mach w b m) :
    Calls Tryz.prog 80 #[.pointer (some ⟨b, 0, none⟩), .int .i64 i] w fun e w' => e = .returned (.int .i64 (m.cells i)) ∧ w' = w := by
  have hc := h.cell (i := 69 + i) (by omega)
  rw [mcell_cells m i hi] at hc
  go_enter Tryz.func80, Tryz.ntmps80
  go_wp2
  go_ret
  exact ⟨rfl, rfl⟩
set_option maxHeartbeats 400000 in
theorem rows12_any (w : World) (b i : Nat) (m : MS) (hi : i < 8) (h : Mach w b m) :
    Calls Tryz.prog 86 #[.pointer (some ⟨b, 0, none⟩), .int .i64 i] w fun e w' => e = .returned (.int .i64 (m.kept i)) ∧ w' = w := by
  have hc := h.cell (i := 85 + i) (by omega)
  rw [mcell_kept m i hi] at hc
  go_enter Tryz.func86, Tryz.ntmps86
  go_wp2
  go_ret
  exact ⟨rfl, rfl⟩

def MS.setC (m : MS) (i : Nat) (n : Int) : MS := { m with cells := fun k => if k = i then n else m.cells k }
def MS.setK (m : MS) (i : Nat) (n : Int) : MS := { m with kept := fun k => if k = i then n else m.kept k }
theorem Mach.setCells {w : World} {b i : Nat} {m : MS} (hi : i < 16) (h : Mach w b m) (n : Int) : Mach (w.setCell ⟨b, 69 + i, none⟩ (.int .i64 n)) b (m.setC i n) := by
  refine h.setc _ (by omega) ?_ ?_
  · rw [mcell_cells _ i hi]; simp [MS.setC]
  · intro j hj hne
    unfold mcell
    repeat' (split <;> try rfl)
    simp only [MS.setC]
    congr 1
    rw [if_neg (by omega)]
theorem Mach.setKept {w : World} {b i : Nat} {m : MS} (hi : i < 8) (h : Mach w b m) (n : Int) : Mach (w.setCell ⟨b, 85 + i, none⟩ (.int .i64 n)) b (m.setK i n) := by
  refine h.setc _ (by omega) ?_ ?_
  · rw [mcell_kept _ i hi]; simp [MS.setK]
  · intro j hj hne
    unfold mcell
    repeat' (split <;> try rfl)
    simp only [MS.setK]
    congr 1
    rw [if_neg (by omega)]
set_option maxHeartbeats 400000 in
theorem rows11_any (w : World) (b i : Nat) (m : MS) (n : Int) (hi : i < 16) (h : Mach w b m) :
    Calls Tryz.prog 83 #[.pointer (some ⟨b, 0, none⟩), .int .i64 i, .int .i64 n] w fun e w' => e = .returned (.tuple #[]) ∧ w' = w.setCell ⟨b, 69 + i, none⟩ (.int .i64 n) := by
  have hc := h.cell (i := 69 + i) (by omega)
  rw [mcell_cells m i hi] at hc
  have hf := h.frozen
  go_enter Tryz.func83, Tryz.ntmps83
  go_wp2
  go_end0
  exact ⟨rfl, rfl⟩
set_option maxHeartbeats 400000 in
theorem rows13_any (w : World) (b i : Nat) (m : MS) (n : Int) (hi : i < 8) (h : Mach w b m) :
    Calls Tryz.prog 87 #[.pointer (some ⟨b, 0, none⟩), .int .i64 i, .int .i64 n] w fun e w' => e = .returned (.tuple #[]) ∧ w' = w.setCell ⟨b, 85 + i, none⟩ (.int .i64 n) := by
  have hc := h.cell (i := 85 + i) (by omega)
  rw [mcell_kept m i hi] at hc
  have hf := h.frozen
  go_enter Tryz.func87, Tryz.ntmps87
  go_wp2
  go_end0
  exact ⟨rfl, rfl⟩
set_option maxHeartbeats 400000 in
theorem rows18_any (w : World) (b : Nat) (m : MS) (n : Int) (h : Mach w b m) :
    Calls Tryz.prog 100 #[.pointer (some ⟨b, 0, none⟩), .int .i64 n] w fun e w' => e = .returned (.tuple #[]) ∧ Mach w' b { m with how := 1, value := n } ∧ ∀ B, Keep B b w w' := by
  have HM := hide h
  clear h
  go_enter Tryz.func100, Tryz.ntmps100
  go_wp2_with (go_at_call 101; refine (End_any _ b m n HM.out).mono ?_; rintro e w' ⟨rfl, hm', hk'⟩)
  go_end0
  exact ⟨rfl, hm', hk'⟩

set_option maxHeartbeats 400000 in
theorem rows15_any (w : World) (p : Value) (wd r s n : Int) :
    Calls Tryz.prog 92 #[p, .agg #[.int .i64 wd, .int .i64 r, .int .i64 s, .int .i64 n]] w fun e w' => e = .returned (.bool true) ∧ Below w.heap.size w w' := by
  go_enter Tryz.func92, Tryz.ntmps92
  go_wp2
  go_ret
  exact ⟨rfl, (Below.refl _ _).alloc (Nat.le_refl _) _⟩

set_option maxHeartbeats 1000000 in
theorem rows16_any (w : World) (b : Nat) (m : MS) (wd n : Int) (r s : Nat) (hr : r < 8) (hs : s < 8) (h : Mach w b m) :
    Calls Tryz.prog 93 #[.pointer (some ⟨b, 0, none⟩), .agg #[.int .i64 wd, .int .i64 (r : Int), .int .i64 (s : Int), .int .i64 n]] w fun e w' => e = .returned (.bool (decide (m.num r < m.num s))) ∧ Below w.heap.size w w' := by
  have HM := hide h
  clear h
  go_enter Tryz.func93, Tryz.ntmps93
  go_wp2
  go_quiet (first
    | (go_at_call_of 60 (Value.int IntKind.i64 (r : Int)); exact Calls.quiet_of_same (Number_any _ b r m hr (HM.out.alloc _)))
    | (go_at_call_of 60 (Value.int IntKind.i64 (s : Int)); exact Calls.quiet_of_same (Number_any _ b s m hs (HM.out.alloc _))))
  go_wp2
  go_ret
  exact ⟨rfl, below_drewN ((Below.refl _ _).alloc (Nat.le_refl _) _) _⟩

set_option maxHeartbeats 1000000 in
theorem rows17_any (w : World) (b : Nat) (m : MS) (wd n : Int) (r s : Nat) (hr : r < 8) (hs : s < 8) (h : Mach w b m) :
    Calls Tryz.prog 97 #[.pointer (some ⟨b, 0, none⟩), .agg #[.int .i64 wd, .int .i64 (r : Int), .int .i64 (s : Int), .int .i64 n]] w fun e w' => e = .returned (.bool (m.num r == m.num s)) ∧ Below w.heap.size w w' := by
  have HM := hide h
  clear h
  go_enter Tryz.func97, Tryz.ntmps97
  go_wp2
  go_quiet (first
    | (go_at_call_of 60 (Value.int IntKind.i64 (r : Int)); exact Calls.quiet_of_same (Number_any _ b r m hr (HM.out.alloc _)))
    | (go_at_call_of 60 (Value.int IntKind.i64 (s : Int)); exact Calls.quiet_of_same (Number_any _ b s m hs (HM.out.alloc _))))
  go_wp2
  go_ret
  exact ⟨rfl, below_drewN ((Below.refl _ _).alloc (Nat.le_refl _) _) _⟩

theorem Number_eq (w : World) (b r : Nat) (m : MS) (n : Int) (hr : r < 8) (hn : m.num r = n) (h : Mach w b m) :
    Calls Tryz.prog 60 #[.pointer (some ⟨b, 0, none⟩), .int .i64 r] w fun e w' => e = .returned (.int .i64 n) ∧ w' = w := by
  subst hn; exact Number_any w b r m hr h

/-- A line as a value. -/
abbrev lnV (wd r s n : Int) : Value := .agg #[.int .i64 wd, .int .i64 r, .int .i64 s, .int .i64 n]
/-- What an act does: it answers why, and leaves the machine m'. -/
def ActRes (b : Nat) (why : Int) (m' : MS) (w : World) (e : Ending) (w' : World) : Prop := e = .returned (.int .i64 why) ∧ Mach w' b m' ∧ Keep w.heap.size b w w'
theorem keep_alloc (b : Nat) (w : World) (o : Obj) : Keep w.heap.size b w (w.alloc o) := (Keep.refl _ _ _).alloc (Nat.le_refl _) o

end Go.Proofs.YtngopilbpiplhaaGreatDoor
