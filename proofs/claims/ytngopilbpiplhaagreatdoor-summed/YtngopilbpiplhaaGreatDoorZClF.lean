/-
  The contracts of claims.among at two sums, and of claims.Add.
-/
import Derived.Test.YtngopilbpiplhaaGreatDoorZClA
namespace Go.Proofs.YtngopilbpiplhaaGreatDoor
open Go.RowKit

/-- From the least to the greatest of two sums; all, if one of them is no number of 64 bits. -/
def amLo (a b c d : Int) : Nat → Int
  | 0 => 9223372036854775807
  | 1 => min 9223372036854775807 (plusF a c).1
  | _ => min (min 9223372036854775807 (plusF a c).1) (plusF b d).1
def amHi (a b c d : Int) : Nat → Int
  | 0 => -9223372036854775808
  | 1 => max (-9223372036854775808) (plusF a c).1
  | _ => max (max (-9223372036854775808) (plusF a c).1) (plusF b d).1
def addLo (a b c d : Int) : Int := if (plusF a c).2 && (plusF b d).2 then amLo a b c d 2 else -9223372036854775808
def addHi (a b c d : Int) : Int := if (plusF a c).2 && (plusF b d).2 then amHi a b c d 2 else 9223372036854775807
theorem am_step0 (a b c d : Int) : min (amLo a b c d 0) (plusF a c).1 = amLo a b c d 1 ∧ max (amHi a b c d 0) (plusF a c).1 = amHi a b c d 1 := ⟨rfl, rfl⟩
theorem am_step1 (a b c d : Int) : min (amLo a b c d 1) (plusF b d).1 = amLo a b c d 2 ∧ max (amHi a b c d 1) (plusF b d).1 = amHi a b c d 2 := ⟨rfl, rfl⟩

set_option maxRecDepth 100000 in
set_option maxHeartbeats 2000000 in
theorem among_any (a b c d : Int) (g : Nat) (w : World) (hg : w.heap[g]? = some (.cells #[.int .i64 a, .int .i64 c, .int .i64 b, .int .i64 d] 215)) :
    Calls Tryz.prog 137 #[.func (.func 138) #[] #[], .slice (some ⟨g, 0, none⟩) 2 2] w fun e w' => e = .returned (spC (addLo a b c d) (addHi a b c d)) ∧ Below w.heap.size w w' := by
  have HG := hide hg
  have hlt := blk_lt hg
  clear hg
  go_enter Tryz.func137, Tryz.ntmps137
  go_wp2_with fail
  have hb0 : Below w.heap.size w ((w.alloc (spB 0 0)).alloc (spB 9223372036854775807 (-9223372036854775808))) := ((Below.refl _ _).alloc (Nat.le_refl _) _).alloc (by simp) _
  have h0 : ((w.alloc (spB 0 0)).alloc (spB 9223372036854775807 (-9223372036854775808))).heap[w.heap.size]? = some (spB 0 0) := blk_alloc (blk_new w _) _
  have h1 : ((w.alloc (spB 0 0)).alloc (spB 9223372036854775807 (-9223372036854775808))).heap[w.heap.size + 1]? = some (spB 9223372036854775807 (-9223372036854775808)) := heap_alloc2_new w _ _
  go_loopw [13] (fun iv w' => ∃ i : Nat, i ≤ 2 ∧ iv = .int .i64 i ∧ (1 ≤ i → (plusF a c).2 = true) ∧ (2 ≤ i → (plusF b d).2 = true) ∧ w'.heap[w.heap.size]? = some (spB 0 0) ∧ w'.heap[w.heap.size + 1]? = some (spB (amLo a b c d i) (amHi a b c d i)) ∧ Below w.heap.size w w') (fun iv _ => 2 - (intOf iv).toNat)
  case atStart => exact ⟨0, by omega, rfl, fun h => absurd h (by omega), fun h => absurd h (by omega), h0, h1, hb0⟩
  case round =>
    clear hb0 h0 h1
    obtain ⟨i, hi, rfl, hf0, hf1, hR, hO, hb⟩ := hrel
    have hw := (hb.block _ hlt).trans HG.out
    have HR := hide hR
    have HO := hide hO
    have hsz := blk_lt hO
    match i, hi with
    | 0, _ =>
      have p0 : wr.cell? ⟨g, 0, none⟩ = some (.int .i64 a) := cell_of_blk hw 0
      have p1 : wr.cell? ⟨g, 1, none⟩ = some (.int .i64 c) := cell_of_blk hw 1
      clear hR hO
      have HF0 := hide hf0
      have HF1 := hide hf1
      clear hf0 hf1
      go_wp2_with fail
      refine (plus_any a c _).mono ?_
      rintro e w2 ⟨rfl, rfl⟩
      clear p0 p1
      have hb3 : Below wr.heap.size wr (wr.alloc (.cells #[.int .i64 a, .int .i64 c] 215)) := (Below.refl _ _).alloc (Nat.le_refl _) _
      generalize wr.alloc (.cells #[.int .i64 a, .int .i64 c] 215) = W3 at *
      have HR3 := hide ((hb3.block _ (by omega)).trans HR.out)
      have HO3 := hide ((hb3.block _ (by omega)).trans HO.out)
      have hbW : Below w.heap.size w W3 := hb.trans (hb3.mono (by omega))
      clear hb3 HR HO hw
      cases hf : (plusF a c).2 with
      | true =>
        have o0 : W3.cell? ⟨w.heap.size + 1, 0, none⟩ = some (.int .i64 (amLo a b c d 0)) := cell_of_blk HO3.out 0
        have o1 : W3.cell? ⟨w.heap.size + 1, 1, none⟩ = some (.int .i64 (amHi a b c d 0)) := cell_of_blk HO3.out 1
        have fr := frozen_of_blk HO3.out
        go_wp2
        go_roundw
        case rel =>
          refine ⟨1, by omega, by go_num, fun _ => hf, fun h => absurd h (by omega), ?_, ?_, ?_⟩
          · rw [Below.heap_setCell _ _ _ _ (by show w.heap.size ≠ w.heap.size + 1; omega), Below.heap_setCell _ _ _ _ (by show w.heap.size ≠ w.heap.size + 1; omega)]; exact HR3.out
          · exact blk_setCell (blk_setCell HO3.out 0 _) 1 _
          · exact (hbW.setCell (p := ⟨w.heap.size + 1, _, none⟩) (by show w.heap.size ≤ w.heap.size + 1; omega) _).setCell (p := ⟨w.heap.size + 1, _, none⟩) (by show w.heap.size ≤ w.heap.size + 1; omega) _
        case measure => simp [intOf]
      | false =>
        have o0 : W3.cell? ⟨w.heap.size, 0, none⟩ = some (.int .i64 0) := cell_of_blk HR3.out 0
        have o1 : W3.cell? ⟨w.heap.size, 1, none⟩ = some (.int .i64 0) := cell_of_blk HR3.out 1
        have fr := frozen_of_blk HR3.out
        have hltR := blk_lt HR3.out
        go_wp2_with (go_at_call 81; refine (clAll_any _).mono ?_; rintro e w4 ⟨rfl, rfl⟩)
        have e1 : addLo a b c d = -9223372036854775808 := by simp [addLo, hf]
        have e2 : addHi a b c d = 9223372036854775807 := by simp [addHi, hf]
        exact bodyPost_ret (results_cell_row rfl _ _ w.heap.size 132 _ _ _ rfl (blk_alloc (blk_setCell (blk_setCell HR3.out 0 _) 1 _) _) Tryz.underlying132 rfl (by kernel_rfl)) rfl
          ⟨by rw [e1, e2]; rfl, ((hbW.setCell (p := ⟨w.heap.size, _, none⟩) (Nat.le_refl _) _).setCell (p := ⟨w.heap.size, _, none⟩) (Nat.le_refl _) _).alloc (by simp; omega) _⟩
    | 1, _ =>
      have p0 : wr.cell? ⟨g, 2, none⟩ = some (.int .i64 b) := cell_of_blk hw 2
      have p1 : wr.cell? ⟨g, 3, none⟩ = some (.int .i64 d) := cell_of_blk hw 3
      clear hR hO
      have HF0 := hide hf0
      have HF1 := hide hf1
      clear hf0 hf1
      go_wp2_with fail
      refine (plus_any b d _).mono ?_
      rintro e w2 ⟨rfl, rfl⟩
      clear p0 p1
      have hb3 : Below wr.heap.size wr (wr.alloc (.cells #[.int .i64 b, .int .i64 d] 215)) := (Below.refl _ _).alloc (Nat.le_refl _) _
      generalize wr.alloc (.cells #[.int .i64 b, .int .i64 d] 215) = W3 at *
      have HR3 := hide ((hb3.block _ (by omega)).trans HR.out)
      have HO3 := hide ((hb3.block _ (by omega)).trans HO.out)
      have hbW : Below w.heap.size w W3 := hb.trans (hb3.mono (by omega))
      clear hb3 HR HO hw
      cases hf : (plusF b d).2 with
      | true =>
        have o0 : W3.cell? ⟨w.heap.size + 1, 0, none⟩ = some (.int .i64 (amLo a b c d 1)) := cell_of_blk HO3.out 0
        have o1 : W3.cell? ⟨w.heap.size + 1, 1, none⟩ = some (.int .i64 (amHi a b c d 1)) := cell_of_blk HO3.out 1
        have fr := frozen_of_blk HO3.out
        go_wp2
        go_roundw
        case rel =>
          refine ⟨2, by omega, by go_num, fun _ => HF0.out (by omega), fun _ => hf, ?_, ?_, ?_⟩
          · rw [Below.heap_setCell _ _ _ _ (by show w.heap.size ≠ w.heap.size + 1; omega), Below.heap_setCell _ _ _ _ (by show w.heap.size ≠ w.heap.size + 1; omega)]; exact HR3.out
          · exact blk_setCell (blk_setCell HO3.out 0 _) 1 _
          · exact (hbW.setCell (p := ⟨w.heap.size + 1, _, none⟩) (by show w.heap.size ≤ w.heap.size + 1; omega) _).setCell (p := ⟨w.heap.size + 1, _, none⟩) (by show w.heap.size ≤ w.heap.size + 1; omega) _
        case measure => simp [intOf]
      | false =>
        have o0 : W3.cell? ⟨w.heap.size, 0, none⟩ = some (.int .i64 0) := cell_of_blk HR3.out 0
        have o1 : W3.cell? ⟨w.heap.size, 1, none⟩ = some (.int .i64 0) := cell_of_blk HR3.out 1
        have fr := frozen_of_blk HR3.out
        have hltR := blk_lt HR3.out
        go_wp2_with (go_at_call 81; refine (clAll_any _).mono ?_; rintro e w4 ⟨rfl, rfl⟩)
        have e1 : addLo a b c d = -9223372036854775808 := by simp [addLo, hf]
        have e2 : addHi a b c d = 9223372036854775807 := by simp [addHi, hf]
        exact bodyPost_ret (results_cell_row rfl _ _ w.heap.size 132 _ _ _ rfl (blk_alloc (blk_setCell (blk_setCell HR3.out 0 _) 1 _) _) Tryz.underlying132 rfl (by kernel_rfl)) rfl
          ⟨by rw [e1, e2]; rfl, ((hbW.setCell (p := ⟨w.heap.size, _, none⟩) (Nat.le_refl _) _).setCell (p := ⟨w.heap.size, _, none⟩) (Nat.le_refl _) _).alloc (by simp; omega) _⟩
    | 2, _ =>
      have o0 : wr.cell? ⟨w.heap.size + 1, 0, none⟩ = some (.int .i64 (amLo a b c d 2)) := cell_of_blk HO.out 0
      have o1 : wr.cell? ⟨w.heap.size + 1, 1, none⟩ = some (.int .i64 (amHi a b c d 2)) := cell_of_blk HO.out 1
      have r0 : wr.cell? ⟨w.heap.size, 0, none⟩ = some (.int .i64 0) := cell_of_blk HR.out 0
      have r1 : wr.cell? ⟨w.heap.size, 1, none⟩ = some (.int .i64 0) := cell_of_blk HR.out 1
      have fr := frozen_of_blk HR.out
      have e1 : addLo a b c d = amLo a b c d 2 := by simp [addLo, hf0 (by omega), hf1 (by omega)]
      have e2 : addHi a b c d = amHi a b c d 2 := by simp [addHi, hf0 (by omega), hf1 (by omega)]
      have HE1 := hide e1
      have HE2 := hide e2
      clear e1 e2 hR hO hw hf0 hf1
      go_wp2
      exact bodyPost_ret (results_cell_row rfl _ _ w.heap.size 132 _ _ _ rfl (blk_setCell (blk_setCell HR.out 0 _) 1 _) Tryz.underlying132 rfl (by kernel_rfl)) rfl
          ⟨by rw [HE1.out, HE2.out]; rfl, (hb.setCell (p := ⟨w.heap.size, _, none⟩) (Nat.le_refl _) _).setCell (p := ⟨w.heap.size, _, none⟩) (Nat.le_refl _) _⟩
    | k + 3, h => exact absurd h (by omega)

set_option maxRecDepth 100000 in
set_option maxHeartbeats 2000000 in
theorem Add_any (a b c d : Int) (w : World) : Calls Tryz.prog 66 #[spC a b, spC c d] w fun e w' => e = .returned (spC (addLo a b c d) (addHi a b c d)) ∧ Below w.heap.size w w' := by
  go_enter Tryz.func66, Tryz.ntmps66
  go_wp2_with fail
  have h3 : ((((w.alloc (spB a b)).alloc (spB c d)).alloc (spB 0 0)).alloc (.cells #[.int .i64 a, .int .i64 c, .int .i64 b, .int .i64 d] 215)).heap[w.heap.size + 1 + 1 + 1]? = some (.cells #[.int .i64 a, .int .i64 c, .int .i64 b, .int .i64 d] 215) := by
    have := blk_new (((w.alloc (spB a b)).alloc (spB c d)).alloc (spB 0 0)) (.cells #[.int .i64 a, .int .i64 c, .int .i64 b, .int .i64 d] 215)
    rw [World.size_alloc, World.size_alloc, World.size_alloc] at this
    exact this
  have h2 : ((((w.alloc (spB a b)).alloc (spB c d)).alloc (spB 0 0)).alloc (.cells #[.int .i64 a, .int .i64 c, .int .i64 b, .int .i64 d] 215)).heap[w.heap.size + 1 + 1]? = some (spB 0 0) := blk_alloc (blk2 w _ _ _) _
  have hb : Below w.heap.size w ((((w.alloc (spB a b)).alloc (spB c d)).alloc (spB 0 0)).alloc (.cells #[.int .i64 a, .int .i64 c, .int .i64 b, .int .i64 d] 215)) := ((((Below.refl _ _).alloc (Nat.le_refl _) _).alloc (by simp) _).alloc (by simp; omega) _).alloc (by simp; omega) _
  refine (among_any a b c d _ _ h3).mono ?_
  generalize (((w.alloc (spB a b)).alloc (spB c d)).alloc (spB 0 0)).alloc (.cells #[.int .i64 a, .int .i64 c, .int .i64 b, .int .i64 d] 215) = W at *
  rintro e w2 ⟨rfl, hb2⟩
  have HR := hide ((hb2.block _ (blk_lt h2)).trans h2)
  have hbw : Below w.heap.size w w2 := hb.trans (hb2.mono hb.size)
  clear h2 h3 hb hb2
  have r0 : w2.cell? ⟨w.heap.size + 1 + 1, 0, none⟩ = some (.int .i64 0) := cell_of_blk HR.out 0
  have r1 : w2.cell? ⟨w.heap.size + 1 + 1, 1, none⟩ = some (.int .i64 0) := cell_of_blk HR.out 1
  have fr := frozen_of_blk HR.out
  go_wp2
  exact bodyPost_ret (results_cell_row rfl _ _ (w.heap.size + 1 + 1) 132 _ _ _ rfl (blk_setCell (blk_setCell HR.out 0 _) 1 _) Tryz.underlying132 rfl (by kernel_rfl)) rfl
    ⟨rfl, (hbw.setCell (p := ⟨w.heap.size + 1 + 1, _, none⟩) (by show w.heap.size ≤ w.heap.size + 1 + 1; omega) _).setCell (p := ⟨w.heap.size + 1 + 1, _, none⟩) (by show w.heap.size ≤ w.heap.size + 1 + 1; omega) _⟩

end Go.Proofs.YtngopilbpiplhaaGreatDoor
