/-
  The contract of claims.Start.
  The contracts of claims.among at whatever operation and pairs, and of Sub, Mul, Div, And, Same, NotSame.
  The contracts of Sub, corners, Mul, Div and And.
  The search for a proof, as plain functions of the lines: rounds, joining, letting go; and the same reckoned strictly, for the kernel.
  What holds of every claim of a search: its spans are in order and lie within 64 bits.
  The contract of reader.parseLine: the line that a text says, or none; new blocks alone.
  The contracts of reader.parse, lostJump, isLong and Read: the lines that a text says, or the first error with its place.
-/
import Derived.Test.YtngopilbpiplhaaGreatDoorZState
import Derived.Test.YtngopilbpiplhaaGreatDoorZClB
import Derived.Test.YtngopilbpiplhaaGreatDoorZClM
namespace Go.Proofs.YtngopilbpiplhaaGreatDoor
open Go.RowKit
/-- What is so ahead of line 0. -/
def clStart : Cl := clNone.with_ 0 0 64
set_option maxRecDepth 100000 in
set_option maxHeartbeats 2000000 in
theorem Start_any (w : World) : Calls Tryz.prog 173 #[] w fun e w' => e = .returned (.agg (clCells clStart)) ∧ Below w.heap.size w w' := by
  go_enter Tryz.func173, Tryz.ntmps173
  go_wp2_with fail
  refine (With_any clNone 0 (by omega) 0 64 _).mono ?_
  rintro e w1 ⟨rfl, hw1⟩
  have hz : (w.alloc (clB clNone)).heap[w.heap.size]? = some (clB clNone) := blk_new w _
  have hb0 : Below w.heap.size w (w.alloc (clB clNone)) := (Below.refl _ _).alloc (Nat.le_refl _) _
  have hb1 : Below (w.alloc (clB clNone)).heap.size (w.alloc (clB clNone)) w1 := by rw [hw1]; exact ((((Below.refl _ _).alloc (Nat.le_refl _) _).alloc (by simp) _).alloc (by simp) _).drew
  have hz1 : w1.heap[w.heap.size]? = some (clB clNone) := (hb1.block _ (by simp)).trans hz
  have hbw : Below w.heap.size w w1 := hb0.trans (hb1.mono (by simp))
  have HZ := hide hz1
  clear hw1 hz hb0 hb1 hz1
  go_wp2_with (refine wpList_storeCl rfl (.tmp 0) (.tmp 3) rfl w.heap.size (clCells clStart) _ _ rfl rfl HZ.out rfl (cl_size _) (cl_one _) ?_)
  intro w2 hw2
  have hg : w2.heap[w.heap.size]? = some (clB clStart) := by rw [hw2.out]; exact setRow_heap _ _ _ _ _ _ HZ.out
  have hb : Below w.heap.size w w2 := by rw [hw2.out]; exact hbw.trans ((keep_setRow' w.heap.size _ _ _).below (Nat.le_refl _))
  clear hw2
  go_wp2
  exact bodyPost_ret (results_cell_row rfl _ _ w.heap.size 135 _ _ _ rfl hg Tryz.underlying135 rfl (by kernel_rfl)) rfl ⟨rfl, hb⟩
end Go.Proofs.YtngopilbpiplhaaGreatDoor

namespace Go.Proofs.YtngopilbpiplhaaGreatDoor
open Go.RowKit
set_option linter.unusedVariables false
/-- From the least to the greatest of what comes of some pairs. -/
def amL (op : Int → Int → Int × Bool) (ps : List (Int × Int)) : Int × Int := ps.foldl (fun z p => (min z.1 (op p.1 p.2).1, max z.2 (op p.1 p.2).1)) (9223372036854775807, -9223372036854775808)
def amSp (op : Int → Int → Int × Bool) (ps : List (Int × Int)) : Int × Int := if ps.all (fun p => (op p.1 p.2).2) then amL op ps else (-9223372036854775808, 9223372036854775807)
theorem amL_snoc (op : Int → Int → Int × Bool) (ps : List (Int × Int)) (k : Nat) (p : Int × Int) (h : ps[k]? = some p) : amL op (ps.take (k + 1)) = (min (amL op (ps.take k)).1 (op p.1 p.2).1, max (amL op (ps.take k)).2 (op p.1 p.2).1) := by
  rw [List.take_add_one, h]
  unfold amL
  rw [List.foldl_append]
  rfl
set_option maxRecDepth 100000 in
set_option maxHeartbeats 2000000 in
theorem among_gen (f : FuncId) (hent : ∀ (args : Array Value) (w : World), (callFunc f args).run Tryz.prog w = .ok (.enter f args) w) (op : Int → Int → Int × Bool) (ps : List (Int × Int)) (hps : ps.length ≤ 10)
    (hF : ∀ p ∈ ps, ∀ w : World, Calls Tryz.prog f #[.int .i64 p.1, .int .i64 p.2] w fun e w' => e = .returned (.tuple #[.int .i64 (op p.1 p.2).1, .bool (op p.1 p.2).2]) ∧ w' = w) (g cap : Nat) (w : World) (hlt : g < w.heap.size)
    (hc : ∀ (j : Nat) (p : Int × Int), ps[j]? = some p → w.cell? ⟨g, j * 2, none⟩ = some (.int .i64 p.1) ∧ w.cell? ⟨g, j * 2 + 1, none⟩ = some (.int .i64 p.2)) :
    Calls Tryz.prog 137 #[.func (.func f) #[] #[], .slice (some ⟨g, 0, none⟩) ps.length cap] w fun e w' => e = .returned (spC (amSp op ps).1 (amSp op ps).2) ∧ Below w.heap.size w w' := by
  have HC := hide hc
  have HF := hide hF
  clear hc hF
  go_enter Tryz.func137, Tryz.ntmps137
  go_wp2_with fail
  have hb0 : Below w.heap.size w ((w.alloc (spB 0 0)).alloc (spB 9223372036854775807 (-9223372036854775808))) := ((Below.refl _ _).alloc (Nat.le_refl _) _).alloc (by simp) _
  have h0 : ((w.alloc (spB 0 0)).alloc (spB 9223372036854775807 (-9223372036854775808))).heap[w.heap.size]? = some (spB 0 0) := blk_alloc (blk_new w _) _
  have h1 : ((w.alloc (spB 0 0)).alloc (spB 9223372036854775807 (-9223372036854775808))).heap[w.heap.size + 1]? = some (spB 9223372036854775807 (-9223372036854775808)) := heap_alloc2_new w _ _
  go_loopw [13] (fun iv w' => ∃ i : Nat, i ≤ ps.length ∧ iv = .int .i64 i ∧ (∀ j p, j < i → ps[j]? = some p → (op p.1 p.2).2 = true) ∧ w'.heap[w.heap.size]? = some (spB 0 0) ∧ w'.heap[w.heap.size + 1]? = some (spB (amL op (ps.take i)).1 (amL op (ps.take i)).2) ∧ Below w.heap.size w w') (fun iv _ => ps.length - (intOf iv).toNat)
  case atStart => exact ⟨0, by omega, rfl, fun j p h => absurd h (by omega), h0, h1, hb0⟩
  case round =>
    clear hb0 h0 h1
    obtain ⟨i, hi, rfl, hf, hR, hO, hb⟩ := hrel
    have HR := hide hR
    have HO := hide hO
    have HFT := hide hf
    have hsz := blk_lt hO
    clear hR hO hf
    by_cases hlt2 : i < ps.length
    · have hltI : (i : Int) < (ps.length : Int) := by omega
      obtain ⟨p, hp⟩ : ∃ p, ps[i]? = some p := ⟨_, List.getElem?_eq_getElem hlt2⟩
      obtain ⟨q0, q1⟩ := HC.out i p hp
      have p0 : wr.cell? ⟨g, i * 2, none⟩ = some (.int .i64 p.1) := (hb.cell (p := ⟨g, i * 2, none⟩) hlt).trans q0
      have p1 : wr.cell? ⟨g, i * 2 + 1, none⟩ = some (.int .i64 p.2) := (hb.cell (p := ⟨g, i * 2 + 1, none⟩) hlt).trans q1
      have HOP := hide (HF.out p (List.mem_of_getElem? hp))
      have HSN := hide (amL_snoc op ps i p hp)
      have HPI := hide hp
      clear q0 q1 hp
      obtain ⟨a, b⟩ := p
      dsimp only at p0 p1
      go_wp2_with fail
      refine (HOP.out _).mono ?_
      rintro e w2 ⟨rfl, rfl⟩
      clear p0 p1
      have hb3 : Below wr.heap.size wr (wr.alloc (.cells #[.int .i64 a, .int .i64 b] 215)) := (Below.refl _ _).alloc (Nat.le_refl _) _
      generalize wr.alloc (.cells #[.int .i64 a, .int .i64 b] 215) = W3 at *
      have HR3 := hide ((hb3.block _ (by omega)).trans HR.out)
      have HO3 := hide ((hb3.block _ (by omega)).trans HO.out)
      have hbW : Below w.heap.size w W3 := hb.trans (hb3.mono hb.size)
      clear hb3 HR HO hb
      cases hf : (op a b).2 with
      | true =>
        have HFI := hide hf
        clear hf
        have o0 : W3.cell? ⟨w.heap.size + 1, 0, none⟩ = some (.int .i64 (amL op (ps.take i)).1) := cell_of_blk HO3.out 0
        have o1 : W3.cell? ⟨w.heap.size + 1, 1, none⟩ = some (.int .i64 (amL op (ps.take i)).2) := cell_of_blk HO3.out 1
        have fr := frozen_of_blk HO3.out
        go_wp2
        go_roundw
        case rel =>
          refine ⟨i + 1, by omega, by go_num, fun j p hj hp => ?_, ?_, ?_, ?_⟩
          · rcases Nat.lt_succ_iff_lt_or_eq.1 hj with h | h
            · exact HFT.out j p h hp
            · rw [h, HPI.out] at hp; cases hp; exact HFI.out
          · rw [Below.heap_setCell _ _ _ _ (by show w.heap.size ≠ w.heap.size + 1; omega), Below.heap_setCell _ _ _ _ (by show w.heap.size ≠ w.heap.size + 1; omega)]; exact HR3.out
          · rw [HSN.out]; exact blk_setCell (blk_setCell HO3.out 0 _) 1 _
          · exact (hbW.setCell (p := ⟨w.heap.size + 1, _, none⟩) (by show w.heap.size ≤ w.heap.size + 1; omega) _).setCell (p := ⟨w.heap.size + 1, _, none⟩) (by show w.heap.size ≤ w.heap.size + 1; omega) _
        case measure => simp [intOf]; omega
      | false =>
        have HSP : Hid (amSp op ps = (-9223372036854775808, 9223372036854775807)) := hide (by
          unfold amSp
          rw [if_neg]
          intro h
          have := List.all_eq_true.1 h (a, b) (List.mem_of_getElem? HPI.out)
          rw [hf] at this; cases this)
        clear hf
        have o0 : W3.cell? ⟨w.heap.size, 0, none⟩ = some (.int .i64 0) := cell_of_blk HR3.out 0
        have o1 : W3.cell? ⟨w.heap.size, 1, none⟩ = some (.int .i64 0) := cell_of_blk HR3.out 1
        have fr := frozen_of_blk HR3.out
        have hltR := blk_lt HR3.out
        go_wp2_with (go_at_call 81; refine (clAll_any _).mono ?_; rintro e w4 ⟨rfl, rfl⟩)
        exact bodyPost_ret (results_cell_row rfl _ _ w.heap.size 132 _ _ _ rfl (blk_alloc (blk_setCell (blk_setCell HR3.out 0 _) 1 _) _) Tryz.underlying132 rfl (by kernel_rfl)) rfl
          ⟨by rw [HSP.out]; rfl, ((hbW.setCell (p := ⟨w.heap.size, _, none⟩) (Nat.le_refl _) _).setCell (p := ⟨w.heap.size, _, none⟩) (Nat.le_refl _) _).alloc (by simp; have := hbW.size; omega) _⟩
    · obtain rfl : i = ps.length := by omega
      have HSP : Hid (amSp op ps = amL op (ps.take ps.length)) := hide (by
        unfold amSp
        rw [if_pos, List.take_of_length_le (Nat.le_refl _)]
        rw [List.all_eq_true]
        intro p hp
        obtain ⟨j, hj, e⟩ := List.getElem_of_mem hp
        exact HFT.out j p hj (by rw [List.getElem?_eq_getElem hj, e]))
      have o0 : wr.cell? ⟨w.heap.size + 1, 0, none⟩ = some (.int .i64 (amL op (ps.take ps.length)).1) := cell_of_blk HO.out 0
      have o1 : wr.cell? ⟨w.heap.size + 1, 1, none⟩ = some (.int .i64 (amL op (ps.take ps.length)).2) := cell_of_blk HO.out 1
      have r0 : wr.cell? ⟨w.heap.size, 0, none⟩ = some (.int .i64 0) := cell_of_blk HR.out 0
      have r1 : wr.cell? ⟨w.heap.size, 1, none⟩ = some (.int .i64 0) := cell_of_blk HR.out 1
      have fr := frozen_of_blk HR.out
      generalize amL op (ps.take ps.length) = AM at *
      go_wp2
      exact bodyPost_ret (results_cell_row rfl _ _ w.heap.size 132 _ _ _ rfl (blk_setCell (blk_setCell HR.out 0 _) 1 _) Tryz.underlying132 rfl (by kernel_rfl)) rfl
          ⟨by rw [HSP.out]; rfl, (hb.setCell (p := ⟨w.heap.size, _, none⟩) (Nat.le_refl _) _).setCell (p := ⟨w.heap.size, _, none⟩) (Nat.le_refl _) _⟩
/-- A difference, a product, a quotient, and whether it is a number of 64 bits. -/
def lessF (x y : Int) : Int × Bool := (wrap64 (x - y), decide (x < wrap64 (x - y)) == decide (y < 0))
def timesF (x y : Int) : Int × Bool := if x = 0 then (0, true) else (wrap64 (x * y), (wrap64 ((wrap64 (x * y)).tdiv x) == y) && (!(x == -1) || !(y == -9223372036854775808)))
def byF (x y : Int) : Int × Bool := (wrap64 (x.tdiv y), !(x == -9223372036854775808) || !(y == -1))
set_option maxHeartbeats 400000 in
theorem less_any (x y : Int) (w : World) : Calls Tryz.prog 139 #[.int .i64 x, .int .i64 y] w fun e w' => e = .returned (.tuple #[.int .i64 (lessF x y).1, .bool (lessF x y).2]) ∧ w' = w := by
  go_enter Tryz.func139, Tryz.ntmps139
  go_wp2
  go_ret2
  exact ⟨rfl, rfl⟩
set_option maxHeartbeats 400000 in
theorem times_any (x y : Int) (w : World) : Calls Tryz.prog 140 #[.int .i64 x, .int .i64 y] w fun e w' => e = .returned (.tuple #[.int .i64 (timesF x y).1, .bool (timesF x y).2]) ∧ w' = w := by
  by_cases h : x = 0
  · subst h
    go_enter Tryz.func140, Tryz.ntmps140
    go_wp2
    go_ret2
    exact ⟨rfl, rfl⟩
  · have hx : (x == 0) = false := by simpa using h
    have HT : Hid (timesF x y = (wrap64 (x * y), (wrap64 ((wrap64 (x * y)).tdiv x) == y) && (!(x == -1) || !(y == -9223372036854775808)))) := hide (by unfold timesF; rw [if_neg h])
    cases h1 : (wrap64 ((wrap64 (x * y)).tdiv x) == y) with
    | false =>
      have HR : Hid (timesF x y = (wrap64 (x * y), false)) := hide (by rw [HT.out, h1]; rfl)
      go_enter Tryz.func140, Tryz.ntmps140
      go_wp2
      go_ret2
      exact ⟨by rw [HR.out]; rfl, rfl⟩
    | true =>
      cases h2 : (x != -1) with
      | true =>
        have HR : Hid (timesF x y = (wrap64 (x * y), true)) := hide (by rw [HT.out, h1, show (x == -1) = false by simpa using h2]; rfl)
        go_enter Tryz.func140, Tryz.ntmps140
        go_wp2
        go_ret2
        exact ⟨by rw [HR.out]; rfl, rfl⟩
      | false =>
        cases h3 : (y != -9223372036854775808) with
        | true =>
          have HR : Hid (timesF x y = (wrap64 (x * y), true)) := hide (by rw [HT.out, h1, show (y == -9223372036854775808) = false by simpa using h3]; simp)
          go_enter Tryz.func140, Tryz.ntmps140
          go_wp2
          go_ret2
          exact ⟨by rw [HR.out]; rfl, rfl⟩
        | false =>
          have HR : Hid (timesF x y = (wrap64 (x * y), false)) := hide (by rw [HT.out, h1, show (y == -9223372036854775808) = true by simpa using h3, show (x == -1) = true by simpa using h2]; rfl)
          go_enter Tryz.func140, Tryz.ntmps140
          go_wp2
          go_ret2
          exact ⟨by rw [HR.out]; rfl, rfl⟩
set_option maxHeartbeats 400000 in
theorem by_any (x y : Int) (h0 : y ≠ 0) (w : World) : Calls Tryz.prog 143 #[.int .i64 x, .int .i64 y] w fun e w' => e = .returned (.tuple #[.int .i64 (byF x y).1, .bool (byF x y).2]) ∧ w' = w := by
  have hy : (y == 0) = false := by simpa using h0
  cases h2 : (x != -9223372036854775808) with
  | true =>
    have HR : Hid (byF x y = (wrap64 (x.tdiv y), true)) := hide (by unfold byF; rw [show (x == -9223372036854775808) = false by simpa using h2]; rfl)
    go_enter Tryz.func143, Tryz.ntmps143
    go_wp2
    go_ret2
    exact ⟨by rw [HR.out]; rfl, rfl⟩
  | false =>
    cases h3 : (y != -1) with
    | true =>
      have HR : Hid (byF x y = (wrap64 (x.tdiv y), true)) := hide (by unfold byF; rw [show (y == -1) = false by simpa using h3]; simp)
      go_enter Tryz.func143, Tryz.ntmps143
      go_wp2
      go_ret2
      exact ⟨by rw [HR.out]; rfl, rfl⟩
    | false =>
      have HR : Hid (byF x y = (wrap64 (x.tdiv y), false)) := hide (by unfold byF; rw [show (y == -1) = true by simpa using h3, show (x == -9223372036854775808) = true by simpa using h2]; rfl)
      go_enter Tryz.func143, Tryz.ntmps143
      go_wp2
      go_ret2
      exact ⟨by rw [HR.out]; rfl, rfl⟩
end Go.Proofs.YtngopilbpiplhaaGreatDoor

namespace Go.Proofs.YtngopilbpiplhaaGreatDoor
open Go.RowKit
set_option linter.unusedVariables false
set_option maxRecDepth 100000 in
theorem enter_less (args : Array Value) (w : World) : (callFunc 139 args).run Tryz.prog w = .ok (.enter 139 args) w := by go_simp
set_option maxRecDepth 100000 in
theorem enter_times (args : Array Value) (w : World) : (callFunc 140 args).run Tryz.prog w = .ok (.enter 140 args) w := by go_simp
set_option maxRecDepth 100000 in
theorem enter_by (args : Array Value) (w : World) : (callFunc 143 args).run Tryz.prog w = .ok (.enter 143 args) w := by go_simp
/-- The pairs of ends. -/
def subP (a b c d : Int) : List (Int × Int) := [(a, d), (b, c)]
def cornP (a b c d : Int) : List (Int × Int) := [(a, c), (a, d), (b, c), (b, d)]
set_option maxRecDepth 100000 in
set_option maxHeartbeats 2000000 in
theorem Sub_any (a b c d : Int) (w : World) : Calls Tryz.prog 68 #[spC a b, spC c d] w fun e w' => e = .returned (spC (amSp lessF (subP a b c d)).1 (amSp lessF (subP a b c d)).2) ∧ Below w.heap.size w w' := by
  go_enter Tryz.func68, Tryz.ntmps68
  go_wp2_with fail
  have h3 : ((((w.alloc (spB a b)).alloc (spB c d)).alloc (spB 0 0)).alloc (.cells #[.int .i64 a, .int .i64 d, .int .i64 b, .int .i64 c] 215)).heap[w.heap.size + 1 + 1 + 1]? = some (.cells #[.int .i64 a, .int .i64 d, .int .i64 b, .int .i64 c] 215) := by
    have := blk_new (((w.alloc (spB a b)).alloc (spB c d)).alloc (spB 0 0)) (.cells #[.int .i64 a, .int .i64 d, .int .i64 b, .int .i64 c] 215)
    rw [World.size_alloc, World.size_alloc, World.size_alloc] at this
    exact this
  have h2 : ((((w.alloc (spB a b)).alloc (spB c d)).alloc (spB 0 0)).alloc (.cells #[.int .i64 a, .int .i64 d, .int .i64 b, .int .i64 c] 215)).heap[w.heap.size + 1 + 1]? = some (spB 0 0) := blk_alloc (blk2 w _ _ _) _
  have hb : Below w.heap.size w ((((w.alloc (spB a b)).alloc (spB c d)).alloc (spB 0 0)).alloc (.cells #[.int .i64 a, .int .i64 d, .int .i64 b, .int .i64 c] 215)) := ((((Below.refl _ _).alloc (Nat.le_refl _) _).alloc (by simp) _).alloc (by simp; omega) _).alloc (by simp; omega) _
  refine (show Calls Tryz.prog 137 #[.func (.func 139) #[] #[], .slice (some ⟨w.heap.size + 1 + 1 + 1, 0, none⟩) 2 2] _ _ from among_gen 139 enter_less lessF (subP a b c d) (by show 2 ≤ 10; decide) (fun p _ w => less_any p.1 p.2 w) (w.heap.size + 1 + 1 + 1) 2 _ (blk_lt h3) (fun j p hp => by
    match j, hp with
    | 0, hp => cases hp; exact ⟨cell_of_blk h3 0, cell_of_blk h3 1⟩
    | 1, hp => cases hp; exact ⟨cell_of_blk h3 2, cell_of_blk h3 3⟩
    | n + 2, hp => simp [subP] at hp)).mono ?_
  generalize (((w.alloc (spB a b)).alloc (spB c d)).alloc (spB 0 0)).alloc (.cells #[.int .i64 a, .int .i64 d, .int .i64 b, .int .i64 c] 215) = W at *
  rintro e w2 ⟨rfl, hb2⟩
  generalize hAM : amSp lessF (subP a b c d) = AM
  have HAM := hide hAM
  clear hAM
  have HR := hide ((hb2.block _ (blk_lt h2)).trans h2)
  have hbw : Below w.heap.size w w2 := hb.trans (hb2.mono hb.size)
  clear h2 h3 hb hb2
  have r0 : w2.cell? ⟨w.heap.size + 1 + 1, 0, none⟩ = some (.int .i64 0) := cell_of_blk HR.out 0
  have r1 : w2.cell? ⟨w.heap.size + 1 + 1, 1, none⟩ = some (.int .i64 0) := cell_of_blk HR.out 1
  have fr := frozen_of_blk HR.out
  go_wp2
  exact bodyPost_ret (results_cell_row rfl _ _ (w.heap.size + 1 + 1) 132 _ _ _ rfl (blk_setCell (blk_setCell HR.out 0 _) 1 _) Tryz.underlying132 rfl (by kernel_rfl)) rfl
    ⟨by rw [HAM.out]; rfl, (hbw.setCell (p := ⟨w.heap.size + 1 + 1, _, none⟩) (by show w.heap.size ≤ w.heap.size + 1 + 1; omega) _).setCell (p := ⟨w.heap.size + 1 + 1, _, none⟩) (by show w.heap.size ≤ w.heap.size + 1 + 1; omega) _⟩
set_option maxRecDepth 100000 in
set_option maxHeartbeats 2000000 in
theorem corners_any (a b c d : Int) (w : World) : Calls Tryz.prog 141 #[spC a b, spC c d] w fun e w' => e = .returned (.slice (some ⟨w.heap.size + 1 + 1, 0, none⟩) 4 4) ∧ w' = ((w.alloc (spB a b)).alloc (spB c d)).alloc (.cells #[.int .i64 a, .int .i64 c, .int .i64 a, .int .i64 d, .int .i64 b, .int .i64 c, .int .i64 b, .int .i64 d] 215) := by
  go_enter Tryz.func141, Tryz.ntmps141
  go_wp2
  go_ret
  exact ⟨rfl, rfl⟩
set_option maxRecDepth 100000 in
set_option maxHeartbeats 2000000 in
theorem Mul_any (a b c d : Int) (w : World) : Calls Tryz.prog 70 #[spC a b, spC c d] w fun e w' => e = .returned (spC (amSp timesF (cornP a b c d)).1 (amSp timesF (cornP a b c d)).2) ∧ Below w.heap.size w w' := by
  have h2 := blk2 w (spB a b) (spB c d) (spB 0 0)
  have hb : Below w.heap.size w (((w.alloc (spB a b)).alloc (spB c d)).alloc (spB 0 0)) := (((Below.refl _ _).alloc (Nat.le_refl _) _).alloc (by simp) _).alloc (by simp; omega) _
  go_enter Tryz.func70, Tryz.ntmps70
  go_wp2_with fail
  generalize ((w.alloc (spB a b)).alloc (spB c d)).alloc (spB 0 0) = W at *
  have H2 := hide h2
  clear h2
  refine (corners_any a b c d W).mono ?_
  rintro e w1 ⟨rfl, hw1⟩
  have h3 : w1.heap[W.heap.size + 1 + 1]? = some (.cells #[.int .i64 a, .int .i64 c, .int .i64 a, .int .i64 d, .int .i64 b, .int .i64 c, .int .i64 b, .int .i64 d] 215) := by rw [hw1]; exact blk2 W _ _ _
  have hb1 : Below W.heap.size W w1 := by rw [hw1]; exact (((Below.refl _ _).alloc (Nat.le_refl _) _).alloc (by simp) _).alloc (by simp; omega) _
  have H3 := hide h3
  have HA : Hid (Calls Tryz.prog 137 #[.func (.func 140) #[] #[], .slice (some ⟨W.heap.size + 1 + 1, 0, none⟩) 4 4] w1 _) := hide (among_gen 140 enter_times timesF (cornP a b c d) (by show 4 ≤ 10; decide) (fun p hp w => times_any p.1 p.2 w) (W.heap.size + 1 + 1) 4 w1 (blk_lt h3) (fun j p hp => by
    match j, hp with
    | 0, hp => cases hp; exact ⟨cell_of_blk H3.out 0, cell_of_blk H3.out 1⟩
    | 1, hp => cases hp; exact ⟨cell_of_blk H3.out 2, cell_of_blk H3.out 3⟩
    | 2, hp => cases hp; exact ⟨cell_of_blk H3.out 4, cell_of_blk H3.out 5⟩
    | 3, hp => cases hp; exact ⟨cell_of_blk H3.out 6, cell_of_blk H3.out 7⟩
    | n + 4, hp => simp [cornP] at hp))
  have HR1 := hide ((hb1.block _ (blk_lt H2.out)).trans H2.out)
  have hbw1 : Below w.heap.size w w1 := hb.trans (hb1.mono hb.size)
  clear hw1 h3 hb1 hb
  go_wp2_with fail
  refine HA.out.mono ?_
  rintro e w2 ⟨rfl, hb2⟩
  generalize hAM : amSp timesF (cornP a b c d) = AM
  have HAM := hide hAM
  clear hAM
  have HR := hide ((hb2.block _ (blk_lt HR1.out)).trans HR1.out)
  have hbw : Below w.heap.size w w2 := hbw1.trans (hb2.mono hbw1.size)
  clear hb2 HR1 hbw1 HA
  have r0 : w2.cell? ⟨w.heap.size + 1 + 1, 0, none⟩ = some (.int .i64 0) := cell_of_blk HR.out 0
  have r1 : w2.cell? ⟨w.heap.size + 1 + 1, 1, none⟩ = some (.int .i64 0) := cell_of_blk HR.out 1
  have fr := frozen_of_blk HR.out
  go_wp2
  exact bodyPost_ret (results_cell_row rfl _ _ (w.heap.size + 1 + 1) 132 _ _ _ rfl (blk_setCell (blk_setCell HR.out 0 _) 1 _) Tryz.underlying132 rfl (by kernel_rfl)) rfl
    ⟨by rw [HAM.out]; rfl, (hbw.setCell (p := ⟨w.heap.size + 1 + 1, _, none⟩) (by show w.heap.size ≤ w.heap.size + 1 + 1; omega) _).setCell (p := ⟨w.heap.size + 1 + 1, _, none⟩) (by show w.heap.size ≤ w.heap.size + 1 + 1; omega) _⟩
set_option maxRecDepth 100000 in
set_option maxHeartbeats 2000000 in
theorem Div_any (a b c d : Int) (hc : c ≠ 0) (hd : d ≠ 0) (w : World) : Calls Tryz.prog 75 #[spC a b, spC c d] w fun e w' => e = .returned (spC (amSp byF (cornP a b c d)).1 (amSp byF (cornP a b c d)).2) ∧ Below w.heap.size w w' := by
  have h2 := blk2 w (spB a b) (spB c d) (spB 0 0)
  have hb : Below w.heap.size w (((w.alloc (spB a b)).alloc (spB c d)).alloc (spB 0 0)) := (((Below.refl _ _).alloc (Nat.le_refl _) _).alloc (by simp) _).alloc (by simp; omega) _
  go_enter Tryz.func75, Tryz.ntmps75
  go_wp2_with fail
  generalize ((w.alloc (spB a b)).alloc (spB c d)).alloc (spB 0 0) = W at *
  have H2 := hide h2
  clear h2
  refine (corners_any a b c d W).mono ?_
  rintro e w1 ⟨rfl, hw1⟩
  have h3 : w1.heap[W.heap.size + 1 + 1]? = some (.cells #[.int .i64 a, .int .i64 c, .int .i64 a, .int .i64 d, .int .i64 b, .int .i64 c, .int .i64 b, .int .i64 d] 215) := by rw [hw1]; exact blk2 W _ _ _
  have hb1 : Below W.heap.size W w1 := by rw [hw1]; exact (((Below.refl _ _).alloc (Nat.le_refl _) _).alloc (by simp) _).alloc (by simp; omega) _
  have H3 := hide h3
  have HA : Hid (Calls Tryz.prog 137 #[.func (.func 143) #[] #[], .slice (some ⟨W.heap.size + 1 + 1, 0, none⟩) 4 4] w1 _) := hide (among_gen 143 enter_by byF (cornP a b c d) (by show 4 ≤ 10; decide) (fun p hp w => by_any p.1 p.2 (by simp only [cornP, List.mem_cons, List.not_mem_nil, or_false] at hp; rcases hp with rfl | rfl | rfl | rfl <;> assumption) w) (W.heap.size + 1 + 1) 4 w1 (blk_lt h3) (fun j p hp => by
    match j, hp with
    | 0, hp => cases hp; exact ⟨cell_of_blk H3.out 0, cell_of_blk H3.out 1⟩
    | 1, hp => cases hp; exact ⟨cell_of_blk H3.out 2, cell_of_blk H3.out 3⟩
    | 2, hp => cases hp; exact ⟨cell_of_blk H3.out 4, cell_of_blk H3.out 5⟩
    | 3, hp => cases hp; exact ⟨cell_of_blk H3.out 6, cell_of_blk H3.out 7⟩
    | n + 4, hp => simp [cornP] at hp))
  have HR1 := hide ((hb1.block _ (blk_lt H2.out)).trans H2.out)
  have hbw1 : Below w.heap.size w w1 := hb.trans (hb1.mono hb.size)
  clear hw1 h3 hb1 hb
  go_wp2_with fail
  refine HA.out.mono ?_
  rintro e w2 ⟨rfl, hb2⟩
  generalize hAM : amSp byF (cornP a b c d) = AM
  have HAM := hide hAM
  clear hAM
  have HR := hide ((hb2.block _ (blk_lt HR1.out)).trans HR1.out)
  have hbw : Below w.heap.size w w2 := hbw1.trans (hb2.mono hbw1.size)
  clear hb2 HR1 hbw1 HA
  have r0 : w2.cell? ⟨w.heap.size + 1 + 1, 0, none⟩ = some (.int .i64 0) := cell_of_blk HR.out 0
  have r1 : w2.cell? ⟨w.heap.size + 1 + 1, 1, none⟩ = some (.int .i64 0) := cell_of_blk HR.out 1
  have fr := frozen_of_blk HR.out
  go_wp2
  exact bodyPost_ret (results_cell_row rfl _ _ (w.heap.size + 1 + 1) 132 _ _ _ rfl (blk_setCell (blk_setCell HR.out 0 _) 1 _) Tryz.underlying132 rfl (by kernel_rfl)) rfl
    ⟨by rw [HAM.out]; rfl, (hbw.setCell (p := ⟨w.heap.size + 1 + 1, _, none⟩) (by show w.heap.size ≤ w.heap.size + 1 + 1; omega) _).setCell (p := ⟨w.heap.size + 1 + 1, _, none⟩) (by show w.heap.size ≤ w.heap.size + 1 + 1; omega) _⟩
/-- What comes of two spans, bit by bit. -/
def andSp (a b c d : Int) : Int × Int := if 0 ≤ a ∧ 0 ≤ c then (0, min b d) else if 0 ≤ a then (0, b) else if 0 ≤ c then (0, d) else (-9223372036854775808, 9223372036854775807)
set_option maxRecDepth 100000 in
set_option maxHeartbeats 2000000 in
theorem And_any (a b c d : Int) (w : World) : Calls Tryz.prog 72 #[spC a b, spC c d] w fun e w' => e = .returned (spC (andSp a b c d).1 (andSp a b c d).2) ∧ Below w.heap.size w w' := by
  by_cases h1 : 0 ≤ a
  · by_cases h2 : 0 ≤ c
    · have HA : Hid (andSp a b c d = (0, min b d)) := hide (if_pos ⟨h1, h2⟩)
      go_enter Tryz.func72, Tryz.ntmps72
      go_wp2
      exact bodyPost_ret (results_cell_row rfl _ _ (w.heap.size + 1 + 1) 132 _ _ _ rfl (blk2 w _ _ _) Tryz.underlying132 rfl (by kernel_rfl)) rfl ⟨by rw [HA.out], (((Below.refl _ _).alloc (Nat.le_refl _) _).alloc (by simp) _).alloc (by simp; omega) _⟩
    · have HA : Hid (andSp a b c d = (0, b)) := hide (by unfold andSp; rw [if_neg (fun h => h2 h.2), if_pos h1])
      go_enter Tryz.func72, Tryz.ntmps72
      go_wp2
      exact bodyPost_ret (results_cell_row rfl _ _ (w.heap.size + 1 + 1) 132 _ _ _ rfl (blk2 w _ _ _) Tryz.underlying132 rfl (by kernel_rfl)) rfl ⟨by rw [HA.out], (((Below.refl _ _).alloc (Nat.le_refl _) _).alloc (by simp) _).alloc (by simp; omega) _⟩
  · by_cases h2 : 0 ≤ c
    · have HA : Hid (andSp a b c d = (0, d)) := hide (by unfold andSp; rw [if_neg (fun h => h1 h.1), if_neg h1, if_pos h2])
      go_enter Tryz.func72, Tryz.ntmps72
      go_wp2
      exact bodyPost_ret (results_cell_row rfl _ _ (w.heap.size + 1 + 1) 132 _ _ _ rfl (blk2 w _ _ _) Tryz.underlying132 rfl (by kernel_rfl)) rfl ⟨by rw [HA.out], (((Below.refl _ _).alloc (Nat.le_refl _) _).alloc (by simp) _).alloc (by simp; omega) _⟩
    · have HA : Hid (andSp a b c d = (-9223372036854775808, 9223372036854775807)) := hide (by unfold andSp; rw [if_neg (fun h => h1 h.1), if_neg h1, if_neg h2])
      go_enter Tryz.func72, Tryz.ntmps72
      go_wp2_with (go_at_call 81; refine (clAll_any _).mono ?_; rintro e w4 ⟨rfl, rfl⟩)
      exact bodyPost_ret (results_cell_row rfl _ _ (w.heap.size + 1 + 1) 132 _ _ _ rfl (blk_alloc (blk2 w _ _ _) _) Tryz.underlying132 rfl (by kernel_rfl)) rfl ⟨by rw [HA.out], ((((Below.refl _ _).alloc (Nat.le_refl _) _).alloc (by simp) _).alloc (by simp; omega) _).alloc (by simp; omega) _⟩
end Go.Proofs.YtngopilbpiplhaaGreatDoor

namespace Go.Proofs.YtngopilbpiplhaaGreatDoor
open Go.RowKit
def t8 {α : Type} (z a0 a1 a2 a3 a4 a5 a6 a7 : α) : Nat → α
  | 0 => a0 | 1 => a1 | 2 => a2 | 3 => a3 | 4 => a4 | 5 => a5 | 6 => a6 | 7 => a7 | _ => z
def nrm (c : Cl) : Cl := ⟨c.never, t8 false (c.has 0) (c.has 1) (c.has 2) (c.has 3) (c.has 4) (c.has 5) (c.has 6) (c.has 7),
  t8 0 (c.lo 0) (c.lo 1) (c.lo 2) (c.lo 3) (c.lo 4) (c.lo 5) (c.lo 6) (c.lo 7), t8 0 (c.hi 0) (c.hi 1) (c.hi 2) (c.hi 3) (c.hi 4) (c.hi 5) (c.hi 6) (c.hi 7)⟩
def needW (i : Nat) (c : Cl) (x : Ln) : Bool := match i with
  | 6 => decide (0 < c.lo x.s.toNat) || decide (c.hi x.s.toNat < 0)
  | 7 => decide (0 ≤ c.lo x.s.toNat) && decide (c.hi x.s.toNat < 64)
  | 8 => decide (0 ≤ c.lo x.s.toNat) && decide (c.hi x.s.toNat < 16)
  | 9 => decide (0 ≤ c.lo x.r.toNat) && decide (c.hi x.r.toNat < 16)
  | 10 => decide (0 ≤ c.lo x.s.toNat) && decide (c.hi x.s.toNat < 8)
  | 11 => decide (0 ≤ c.lo x.r.toNat) && decide (c.hi x.r.toNat < 8)
  | _ => true
def metW (i : Nat) (c : Cl) (x : Ln) : Bool := metF (hasB (wTakes i) 82) (hasB (wTakes i) 83) (c.has x.r.toNat) (c.has x.s.toNat) (needW i c x)
def nextW (i : Nat) (c : Cl) (x : Ln) : Cl := match i with
  | 0 => c.with_ x.r.toNat x.n x.n
  | 1 => c.with_ x.r.toNat (c.lo x.s.toNat) (c.hi x.s.toNat)
  | 2 => c.with_ x.r.toNat (addLo (c.lo x.r.toNat) (c.hi x.r.toNat) (c.lo x.s.toNat) (c.hi x.s.toNat)) (addHi (c.lo x.r.toNat) (c.hi x.r.toNat) (c.lo x.s.toNat) (c.hi x.s.toNat))
  | 3 => c.with_ x.r.toNat (amSp lessF (subP (c.lo x.r.toNat) (c.hi x.r.toNat) (c.lo x.s.toNat) (c.hi x.s.toNat))).1 (amSp lessF (subP (c.lo x.r.toNat) (c.hi x.r.toNat) (c.lo x.s.toNat) (c.hi x.s.toNat))).2
  | 4 => c.with_ x.r.toNat (amSp timesF (cornP (c.lo x.r.toNat) (c.hi x.r.toNat) (c.lo x.s.toNat) (c.hi x.s.toNat))).1 (amSp timesF (cornP (c.lo x.r.toNat) (c.hi x.r.toNat) (c.lo x.s.toNat) (c.hi x.s.toNat))).2
  | 5 => c.with_ x.r.toNat (andSp (c.lo x.r.toNat) (c.hi x.r.toNat) (c.lo x.s.toNat) (c.hi x.s.toNat)).1 (andSp (c.lo x.r.toNat) (c.hi x.r.toNat) (c.lo x.s.toNat) (c.hi x.s.toNat)).2
  | 6 => c.with_ x.r.toNat (amSp byF (cornP (c.lo x.r.toNat) (c.hi x.r.toNat) (c.lo x.s.toNat) (c.hi x.s.toNat))).1 (amSp byF (cornP (c.lo x.r.toNat) (c.hi x.r.toNat) (c.lo x.s.toNat) (c.hi x.s.toNat))).2
  | 7 => c.with_ x.r.toNat 0 255
  | 8 => c.with_ x.r.toNat (-9223372036854775808) 9223372036854775807
  | 9 => c
  | 10 => c.with_ x.r.toNat (-9223372036854775808) 9223372036854775807
  | 11 => c
  | 12 => c
  | 14 => if x.r.toNat = x.s.toNat then c else if c.hi x.r.toNat < c.lo x.s.toNat then clNever else
     (c.with_ x.r.toNat (max (c.lo x.r.toNat) (c.lo x.s.toNat)) (c.hi x.r.toNat)).with_ x.s.toNat (c.lo x.s.toNat) (min (c.hi x.s.toNat) (c.hi x.r.toNat))
  | 15 => if x.r.toNat = x.s.toNat then clNever else if c.lo x.r.toNat = c.lo x.s.toNat ∧ c.hi x.r.toNat = c.hi x.s.toNat ∧ c.lo x.r.toNat = c.hi x.r.toNat then clNever else
     (c.with_ x.r.toNat (c.lo x.r.toNat) (c.hi x.r.toNat)).with_ x.s.toNat (c.lo x.s.toNat) (c.hi x.s.toNat)
  | _ => clNever
def jumpW (i : Nat) (c : Cl) (x : Ln) : Cl := match i with
  | 13 => c
  | 14 => if x.r.toNat = x.s.toNat then clNever else if c.hi x.s.toNat ≤ c.lo x.r.toNat then clNever else
     (c.with_ x.r.toNat (c.lo x.r.toNat) (min (c.hi x.r.toNat) (wrap64 (c.hi x.s.toNat - 1)))).with_ x.s.toNat (max (c.lo x.s.toNat) (wrap64 (c.lo x.r.toNat + 1))) (c.hi x.s.toNat)
  | 15 => if x.r.toNat = x.s.toNat then c else if min (c.hi x.r.toNat) (c.hi x.s.toNat) < max (c.lo x.r.toNat) (c.lo x.s.toNat) then clNever else
     (c.with_ x.r.toNat (max (c.lo x.r.toNat) (c.lo x.s.toNat)) (min (c.hi x.r.toNat) (c.hi x.s.toNat))).with_ x.s.toNat (max (c.lo x.r.toNat) (c.lo x.s.toNat)) (min (c.hi x.r.toNat) (c.hi x.s.toNat))
  | _ => clNever
def exW (i : Nat) (at_ : Int) (c : Cl) (x : Ln) : List (Int × Cl) :=
  (if (nextW i c x).never then [] else [(at_ + 1, nextW i c x)]) ++ (if (jumpW i c x).never then [] else [(x.n, jumpW i c x)])
def joinAt (from_ to_ : Nat) (was ec : Cl) (chg : Int) : Cl := if to_ ≤ from_ ∧ 6 < chg then letK (joinF was ec) was 8 else joinF was ec
def clEq (c d : Cl) : Bool := c.never == d.never && (List.range 8).all fun k => c.has k == d.has k && c.lo k == d.lo k && c.hi k == d.hi k
def visit (ch : List Int) (from_ : Nat) (st : List Cl × List Bool) (e : Int × Cl) : List Cl × List Bool :=
  let to_ := e.1.toNat
  let was := st.1.getD to_ clNone
  let now := nrm (joinAt from_ to_ was e.2 (ch.getD to_ 0))
  if clEq now was then st else (st.1.set to_ now, st.2.set to_ true)
def exitsF (xs : List Ln) (p : List Cl) (at_ : Nat) : List (Int × Cl) :=
  match xs[at_]?, p[at_]? with
  | some x, some c => if c.never || !metW x.word.toNat c x then [] else exW x.word.toNat at_ c x
  | _, _ => []
def lineV (xs : List Ln) (ch : List Int) (st : List Cl × List Bool) (at_ : Nat) : List Cl × List Bool := (exitsF xs st.1 at_).foldl (visit ch at_) st
def roundF (xs : List Ln) (st : List Cl × List Int) : List Cl × List Bool := (List.range xs.length).foldl (lineV xs st.2) (st.1, List.replicate xs.length false)
def cntL (ch : List Int) (bs : List Bool) : List Int := List.zipWith (fun c b => if b then c + 1 else c) ch bs
def start0 (n : Nat) : List Cl × List Int := ((List.replicate n clNever).set 0 clStart, List.replicate n 0)
def after (xs : List Ln) (st : List Cl × List Int) : List Cl × List Int := ((roundF xs st).1, cntL st.2 (roundF xs st).2)
/-- Are a line's needs not met, though a run may come to it? -/
def unmetAt (xs : List Ln) (p : List Cl) (k : Nat) : Bool := match xs[k]?, p[k]? with
  | some x, some c => !c.never && !metW x.word.toNat c x
  | _, _ => false
def unmetF (xs : List Ln) (p : List Cl) : Option Nat := (List.range xs.length).find? (unmetAt xs p)
def searchF (xs : List Ln) : Nat → List Cl × List Int → Option (List Cl × List Int)
  | 0, _ => none
  | f + 1, st => if (roundF xs st).2.any id then searchF xs f (after xs st) else some (after xs st)
end Go.Proofs.YtngopilbpiplhaaGreatDoor

namespace Go.Proofs.YtngopilbpiplhaaGreatDoor
open Go.RowKit
set_option linter.unusedVariables false
/-- A span in order, within 64 bits. -/
def SpOk (a b : Int) : Prop := -9223372036854775808 ≤ a ∧ a ≤ b ∧ b ≤ 9223372036854775807
def POk (c : Cl) : Prop := ∀ k, SpOk (c.lo k) (c.hi k)
theorem wrap_ok (x : Int) : -9223372036854775808 ≤ wrap64 x ∧ wrap64 x ≤ 9223372036854775807 := by unfold wrap64; omega
theorem wrap_id (x : Int) (h0 : -9223372036854775808 ≤ x) (h1 : x ≤ 9223372036854775807) : wrap64 x = x := by unfold wrap64; omega
theorem pok_none : POk clNone := fun k => by show SpOk 0 0; unfold SpOk; omega
theorem pok_never : POk clNever := fun k => by show SpOk 0 0; unfold SpOk; omega
theorem pok_with {c : Cl} (h : POk c) (r : Nat) (a b : Int) (hs : SpOk a b) : POk (c.with_ r a b) := by
  intro k
  show SpOk (if k = r then a else c.lo k) (if k = r then b else c.hi k)
  split
  · exact hs
  · exact h k
theorem pok_start : POk clStart := pok_with pok_none 0 0 64 (by unfold SpOk; omega)
theorem spok_all : SpOk (-9223372036854775808) 9223372036854775807 := by unfold SpOk; omega
theorem spok_add (a b c d : Int) : SpOk (addLo a b c d) (addHi a b c d) := by
  unfold addLo addHi
  by_cases h : ((plusF a c).2 && (plusF b d).2) = true
  · rw [if_pos h, if_pos h]
    have h1 : -9223372036854775808 ≤ (plusF a c).1 ∧ (plusF a c).1 ≤ 9223372036854775807 := wrap_ok _
    have h2 : -9223372036854775808 ≤ (plusF b d).1 ∧ (plusF b d).1 ≤ 9223372036854775807 := wrap_ok _
    simp only [amLo, amHi]
    unfold SpOk
    omega
  · rw [if_neg h, if_neg h]; exact spok_all
theorem spok_am2 (op : Int → Int → Int × Bool) (hop : ∀ x y, -9223372036854775808 ≤ (op x y).1 ∧ (op x y).1 ≤ 9223372036854775807) (a b c d : Int) : SpOk (amSp op (subP a b c d)).1 (amSp op (subP a b c d)).2 := by
  unfold amSp
  split
  · have h1 := hop a d
    have h2 := hop b c
    simp only [amL, subP, List.foldl_cons, List.foldl_nil]
    unfold SpOk
    omega
  · exact spok_all
theorem spok_am4 (op : Int → Int → Int × Bool) (hop : ∀ x y, -9223372036854775808 ≤ (op x y).1 ∧ (op x y).1 ≤ 9223372036854775807) (a b c d : Int) : SpOk (amSp op (cornP a b c d)).1 (amSp op (cornP a b c d)).2 := by
  unfold amSp
  split
  · have h1 := hop a c
    have h2 := hop a d
    have h3 := hop b c
    have h4 := hop b d
    simp only [amL, cornP, List.foldl_cons, List.foldl_nil]
    unfold SpOk
    omega
  · exact spok_all
theorem less_ok (x y : Int) : -9223372036854775808 ≤ (lessF x y).1 ∧ (lessF x y).1 ≤ 9223372036854775807 := wrap_ok _
theorem times_ok (x y : Int) : -9223372036854775808 ≤ (timesF x y).1 ∧ (timesF x y).1 ≤ 9223372036854775807 := by
  unfold timesF
  split
  · exact ⟨by show (-9223372036854775808 : Int) ≤ 0; omega, by show (0 : Int) ≤ 9223372036854775807; omega⟩
  · exact wrap_ok _
theorem by_ok (x y : Int) : -9223372036854775808 ≤ (byF x y).1 ∧ (byF x y).1 ≤ 9223372036854775807 := wrap_ok _
theorem spok_and {a b c d : Int} (h1 : SpOk a b) (h2 : SpOk c d) : SpOk (andSp a b c d).1 (andSp a b c d).2 := by
  unfold SpOk at *
  unfold andSp
  split
  · show _ ∧ (0 : Int) ≤ min b d ∧ min b d ≤ _; omega
  · split
    · show _ ∧ (0 : Int) ≤ b ∧ b ≤ _; omega
    · split
      · show _ ∧ (0 : Int) ≤ d ∧ d ≤ _; omega
      · exact spok_all
/-- A line's number within 64 bits. -/
def NOk (x : Ln) : Prop := -9223372036854775808 ≤ x.n ∧ x.n ≤ 9223372036854775807
theorem next_ok (i : Nat) (c : Cl) (x : Ln) (h : POk c) (hx : NOk x) : POk (nextW i c x) := by
  unfold nextW
  generalize x.r.toNat = r
  generalize x.s.toNat = s
  have hr := h r
  have hs := h s
  split
  · exact pok_with h _ _ _ ⟨hx.1, Int.le_refl _, hx.2⟩
  · exact pok_with h _ _ _ hs
  · exact pok_with h _ _ _ (spok_add _ _ _ _)
  · exact pok_with h _ _ _ (spok_am2 _ less_ok _ _ _ _)
  · exact pok_with h _ _ _ (spok_am4 _ times_ok _ _ _ _)
  · exact pok_with h _ _ _ (spok_and hr hs)
  · exact pok_with h _ _ _ (spok_am4 _ by_ok _ _ _ _)
  · exact pok_with h _ _ _ (by unfold SpOk; omega)
  · exact pok_with h _ _ _ spok_all
  · exact h
  · exact pok_with h _ _ _ spok_all
  · exact h
  · exact h
  · split
    · exact h
    · split
      · exact pok_never
      · exact pok_with (pok_with h _ _ _ (by unfold SpOk at *; omega)) _ _ _ (by unfold SpOk at *; omega)
  · split
    · exact pok_never
    · split
      · exact pok_never
      · exact pok_with (pok_with h _ _ _ hr) _ _ _ hs
  · exact pok_never
theorem jump_ok (i : Nat) (c : Cl) (x : Ln) (h : POk c) : POk (jumpW i c x) := by
  unfold jumpW
  generalize x.r.toNat = r
  generalize x.s.toNat = s
  have hr := h r
  have hs := h s
  split
  · exact h
  · split
    · exact pok_never
    · split
      · exact pok_never
      · rename_i h1 h2
        have e1 : wrap64 (c.hi s - 1) = c.hi s - 1 := wrap_id _ (by unfold SpOk at *; omega) (by unfold SpOk at *; omega)
        have e2 : wrap64 (c.lo r + 1) = c.lo r + 1 := wrap_id _ (by unfold SpOk at *; omega) (by unfold SpOk at *; omega)
        rw [e1, e2]
        exact pok_with (pok_with h _ _ _ (by unfold SpOk at *; omega)) _ _ _ (by unfold SpOk at *; omega)
  · split
    · exact h
    · split
      · exact pok_never
      · exact pok_with (pok_with h _ _ _ (by unfold SpOk at *; omega)) _ _ _ (by unfold SpOk at *; omega)
  · exact pok_never
theorem joinK_ok {c d : Cl} (h1 : POk c) (h2 : POk d) : ∀ k, POk (joinK c d k)
  | 0 => pok_none
  | k + 1 => by
    unfold joinK
    split
    · have a := h1 k
      have b := h2 k
      exact pok_with (joinK_ok h1 h2 k) _ _ _ (by unfold SpOk at *; omega)
    · exact joinK_ok h1 h2 k
theorem joinF_ok {c d : Cl} (h1 : POk c) (h2 : POk d) : POk (joinF c d) := by
  unfold joinF
  split
  · exact h2
  · split
    · exact h1
    · exact joinK_ok h1 h2 8
theorem letK_ok {c d : Cl} (h1 : POk c) : ∀ k, POk (letK c d k)
  | 0 => h1
  | k + 1 => by
    unfold letK
    have a := letK_ok h1 (d := d) k k
    split
    · refine pok_with (letK_ok h1 k) _ _ _ ?_
      unfold letLo letHi
      unfold SpOk at *
      split <;> split <;> omega
    · exact letK_ok h1 k
theorem t8_ok {lo hi : Nat → Int} (h : ∀ k, SpOk (lo k) (hi k)) (k : Nat) : SpOk (t8 0 (lo 0) (lo 1) (lo 2) (lo 3) (lo 4) (lo 5) (lo 6) (lo 7) k) (t8 0 (hi 0) (hi 1) (hi 2) (hi 3) (hi 4) (hi 5) (hi 6) (hi 7) k) := by
  match k with
  | 0 => exact h 0
  | 1 => exact h 1
  | 2 => exact h 2
  | 3 => exact h 3
  | 4 => exact h 4
  | 5 => exact h 5
  | 6 => exact h 6
  | 7 => exact h 7
  | n + 8 => show SpOk 0 0; unfold SpOk; omega
theorem nrm_ok {c : Cl} (h : POk c) : POk (nrm c) := fun k => t8_ok h k
theorem joinAt_ok (from_ to_ : Nat) {was ec : Cl} (h1 : POk was) (h2 : POk ec) (n : Int) : POk (joinAt from_ to_ was ec n) := by
  unfold joinAt
  split
  · exact letK_ok (joinF_ok h1 h2) 8
  · exact joinF_ok h1 h2
def AllOk (p : List Cl) : Prop := ∀ c ∈ p, POk c
theorem getD_ok {p : List Cl} (h : AllOk p) (k : Nat) : POk (p.getD k clNone) := by
  rw [List.getD_eq_getElem?_getD]
  cases e : p[k]? with
  | none => exact pok_none
  | some c => exact h c (List.mem_of_getElem? e)
theorem visit_ok (ch : List Int) (from_ : Nat) (st : List Cl × List Bool) (e : Int × Cl) (h : AllOk st.1) (he : POk e.2) : AllOk (visit ch from_ st e).1 := by
  unfold visit
  simp only
  split
  · exact h
  · intro c hc
    rcases List.mem_or_eq_of_mem_set hc with h1 | h1
    · exact h c h1
    · rw [h1]; exact nrm_ok (joinAt_ok _ _ (getD_ok h _) he _)
theorem visits_ok (ch : List Int) (from_ : Nat) (es : List (Int × Cl)) : ∀ (st : List Cl × List Bool), AllOk st.1 → (∀ e ∈ es, POk e.2) → AllOk (es.foldl (visit ch from_) st).1 := by
  induction es with
  | nil => intro st h _; exact h
  | cons e es ih => intro st h he; exact ih _ (visit_ok ch from_ st e h (he e (List.mem_cons_self ..))) fun e' h' => he e' (List.mem_cons_of_mem _ h')
theorem exW_ok (i : Nat) (k : Int) (c : Cl) (x : Ln) (h : POk c) (hx : NOk x) : ∀ e ∈ exW i k c x, POk e.2 := by
  intro e he
  unfold exW at he
  rw [List.mem_append] at he
  rcases he with he | he
  · split at he
    · cases he
    · rw [List.mem_singleton] at he; rw [he]; exact next_ok i c x h hx
  · split at he
    · cases he
    · rw [List.mem_singleton] at he; rw [he]; exact jump_ok i c x h
theorem exitsF_ok (xs : List Ln) (p : List Cl) (at_ : Nat) (h : AllOk p) (hx : ∀ x ∈ xs, NOk x) : ∀ e ∈ exitsF xs p at_, POk e.2 := by
  intro e he
  unfold exitsF at he
  split at he
  · rename_i x c h1 h2
    split at he
    · cases he
    · exact exW_ok _ _ c x (h c (List.mem_of_getElem? h2)) (hx x (List.mem_of_getElem? h1)) e he
  · cases he
theorem lineV_ok (xs : List Ln) (ch : List Int) (st : List Cl × List Bool) (at_ : Nat) (h : AllOk st.1) (hx : ∀ x ∈ xs, NOk x) : AllOk (lineV xs ch st at_).1 :=
  visits_ok ch at_ _ st h (exitsF_ok xs st.1 at_ h hx)
theorem linesV_ok (xs : List Ln) (ch : List Int) (hx : ∀ x ∈ xs, NOk x) (ks : List Nat) : ∀ (st : List Cl × List Bool), AllOk st.1 → AllOk (ks.foldl (lineV xs ch) st).1 := by
  induction ks with
  | nil => intro st h; exact h
  | cons k ks ih => intro st h; exact ih _ (lineV_ok xs ch st k h hx)
theorem after_ok (xs : List Ln) (st : List Cl × List Int) (h : AllOk st.1) (hx : ∀ x ∈ xs, NOk x) : AllOk (after xs st).1 := linesV_ok xs st.2 hx _ (st.1, _) h
theorem start0_ok (n : Nat) : AllOk (start0 n).1 := by
  intro c hc
  rcases List.mem_or_eq_of_mem_set hc with h1 | h1
  · rw [List.eq_of_mem_replicate h1]; exact pok_never
  · rw [h1]; exact pok_start
theorem search_ok (xs : List Ln) (hx : ∀ x ∈ xs, NOk x) : ∀ (f : Nat) (st END : List Cl × List Int), AllOk st.1 → searchF xs f st = some END → AllOk END.1
  | 0, _, _, _, h => by cases h
  | f + 1, st, END, ho, h => by
    unfold searchF at h
    split at h
    · exact search_ok xs hx f _ END (after_ok xs st ho hx) h
    · cases h; exact after_ok xs st ho hx
end Go.Proofs.YtngopilbpiplhaaGreatDoor

namespace Go.Proofs.YtngopilbpiplhaaGreatDoor
open Go.RowKit
def LineRes (t : List UInt8) (w : World) (e : Ending) (w' : World) : Prop :=
  (∃ x, lineF t = some x ∧ e = .returned (.tuple #[.agg (lnArr x), .bool true]) ∨ lineF t = none ∧ e = .returned (.tuple #[.agg (lnArr x), .bool false])) ∧ Below w.heap.size w w'
set_option maxHeartbeats 2000000 in
theorem parseLine_any (t : List UInt8) (s : Nat) (w : World) (hs : t.length < 4294967281) (hg : Glob w) (ht : w.heap[s + 55]? = some (.cells (trows s) 140)) :
    Calls Tryz.prog 156 #[.slice (some ⟨s + 55, 0, none⟩) 17 17, .string ⟨t.toArray⟩] w fun e w' => LineRes t w e w' := by
  have HT := hide ht
  have hlt := blk_lt ht
  clear ht
  have hg2 : ∀ o1 o2 : Obj, Glob ((w.alloc o1).alloc o2) := fun o1 o2 => hg.below (((Below.refl w.heap.size w).alloc (Nat.le_refl _) o1).alloc (by simp) o2) hg.size
  have hg1 : ∀ o1 : Obj, Glob (w.alloc o1) := fun o1 => hg.below ((Below.refl w.heap.size w).alloc (Nat.le_refl _) o1) hg.size
  have hgs := hg.size
  go_enter Tryz.func156, Tryz.ntmps156
  go_wp2_with fail
  refine (Split_one _ _ _ hs (hg1 _)).mono ?_
  rintro e w' ⟨rfl, rfl⟩
  cases hcut : cutAt 32 t with
  | nil => exact absurd hcut (cutAt_ne _ _)
  | cons nm ps =>
    have HC := hide hcut
    have hpl : ∀ p ∈ nm :: ps, p.length ≤ t.length := fun p hp => cutAt_piece 32 t p (by rw [hcut]; exact hp)
    have hps : ps.length ≤ t.length := by have := cutAt_len 32 t; rw [hcut] at this; simpa using this
    clear hcut
    go_wp2_with fail
    refine (Find_any nm s _ ?_).mono ?_
    · rw [Below.heap_alloc _ _ _ (by simp; omega), Below.heap_alloc _ _ _ hlt]; exact HT.out
    rintro e w1 ⟨rfl, hb1⟩
    have hN : w.heap.size + 2 ≤ w1.heap.size := by have := hb1.size; simp at this; omega
    have k0 : w1.heap[w.heap.size]? = some (.cells #[.int .i64 0, .int .i64 0, .int .i64 0, .int .i64 0] 122) := by
      rw [hb1.block _ (by simp; omega), Below.heap_alloc _ _ _ (by simp), blk_new]
    have k1 : w1.heap[w.heap.size + 1]? = some (.cells ((nm :: ps).map fun p => Value.string ⟨p.toArray⟩).toArray 9) := by
      rw [hb1.block _ (by simp)]
      have := blk_new (w.alloc (.cells #[.int .i64 0, .int .i64 0, .int .i64 0, .int .i64 0] 122)) (.cells ((nm :: ps).map fun p => Value.string ⟨p.toArray⟩).toArray 9)
      simpa using this
    have hbw : Below w.heap.size w w1 := by
      refine Below.trans ?_ (hb1.mono (by simp; omega))
      exact ((Below.refl _ _).alloc (Nat.le_refl _) _).alloc (by simp) _
    have kt : w1.heap[s + 55]? = some (.cells (trows s) 140) := (hbw.block _ hlt).trans HT.out
    have hg3 : Glob w1 := hg.below hbw hgs
    clear hb1 hg1 hg2 hg
    have cz : ∀ o, w1.cell? ⟨w.heap.size, o, none⟩ = (#[.int .i64 0, .int .i64 0, .int .i64 0, .int .i64 0] : Array Value)[o]? := cell_of_blk k0
    have fz : ∀ o, w1.frozen? ⟨w.heap.size, o, none⟩ = false := frozen_of_blk k0
    have z0 : w1.cell? ⟨w.heap.size, 0, none⟩ = some (.int .i64 0) := cz 0
    have z1 : w1.cell? ⟨w.heap.size, 1, none⟩ = some (.int .i64 0) := cz 1
    have z2 : w1.cell? ⟨w.heap.size, 2, none⟩ = some (.int .i64 0) := cz 2
    have z3 : w1.cell? ⟨w.heap.size, 3, none⟩ = some (.int .i64 0) := cz 3
    clear cz
    have K0 := hide k0
    have K1 := hide k1
    have KT := hide kt
    clear k0 k1 kt
    cases hf : findF nm with
    | none =>
      have HN : Hid (lineF t = none) := hide (by unfold lineF; rw [HC.out]; simp [hf])
      clear hf
      rw [show resReg none = .tuple #[.int .i64 0, .bool false] from rfl]
      go_wp2
      exact bodyPost_ret (v := .tuple #[.agg #[.int .i64 0, .int .i64 0, .int .i64 0, .int .i64 0], .bool false]) (by simp [results, Tryz.results156, go_sem, z0, z1, z2, z3]) rfl ⟨⟨⟨0, 0, 0, 0⟩, .inr ⟨HN.out, rfl⟩⟩, by repeat (first | exact hbw | refine Below.setCell (B := w.heap.size) (p := ⟨w.heap.size, _, none⟩) ?_ (Nat.le_refl w.heap.size) _)⟩
    | some row =>
      have hrow := findF_lt hf
      have hw3 := parts_len hrow
      rw [show resReg (some row) = .tuple #[.int .i64 (row : Int), .bool true] from rfl]
      have hr := rowAt KT.out hrow
      have r1 := hr.parts
      clear hr
      by_cases hl : ps.length = (wParts row).length
      · have hl' : (((ps.length : Int) + 1) != 1 + ((wParts row).length : Int)) = false := by rw [bne_eq_false_iff_eq]; omega
        have HF : Hid (lineF t = partsF ⟨row, 0, 0, 0⟩ (wParts row) ps) := hide (by unfold lineF; rw [HC.out]; simp [hf, hl])
        clear hf
        have hps3 : ps.length ≤ 3 := by omega
        have hp1 := parts_pos hrow
        have hne : ¬ ps = [] := fun e => by rw [e] at hl; simp at hl; omega
        have hla : ps.length ≤ (wParts row).length := by omega
        have hlb : (wParts row).length ≤ ps.length := by omega
        clear hl
        go_wp2
        go_loopw [43] (fun i w' => ∃ (k : Nat) (x : Ln), k ≤ ps.length ∧ i = .int .i64 k ∧ partsF ⟨row, 0, 0, 0⟩ (wParts row) ps = partsF x ((wParts row).drop k) (ps.drop k) ∧ w'.heap[w1.heap.size]? = some (.cells (lnArr x) 122) ∧ Below w1.heap.size w1 w') (fun i _ => ps.length - (intOf i).toNat)
        case atStart =>
          exact ⟨0, ⟨row, 0, 0, 0⟩, Nat.zero_le _, rfl, rfl, blk_new _ _, (Below.refl _ _).alloc (Nat.le_refl _) _⟩
        case round =>
          obtain ⟨k, x, hk, rfl, hx, hbx, hbr⟩ := hrel
          have HX := hide hx
          have HBX := hide hbx
          clear hx hbx
          have hsz := hbr.size
          have k1 : wr.heap[w.heap.size + 1]? = some (.cells ((nm :: ps).map fun p => Value.string ⟨p.toArray⟩).toArray 9) := (hbr.block _ (by omega)).trans K1.out
          by_cases hlk : k < ps.length
          · have hpc : wr.cell? ⟨w.heap.size + 1, 1 + k, none⟩ = some (.string ⟨(ps[k]).toArray⟩) := by
              rw [cell_of_blk k1, Nat.add_comm 1 k]
              simp [hlk]
            clear k1
            have hkl : k < (wParts row).length := by omega
            have hdrop := partsF_drop x (wParts row) ps k hkl hlk
            go_wp2_with fail
            refine (parsePart_any x ((wParts row)[k]) (ps[k]) w1.heap.size wr (kinds_ok hrow _ (List.getElem_mem _)) HBX.out (by have := hpl ps[k] (by simp); omega) (hg3.below hbr (by omega))).mono ?_
            rintro e w2 ⟨x', rfl, hb2, hy, hkp⟩
            have hb12 : Below w1.heap.size w1 w2 := hbr.trans ((hkp.mono hsz).below (Nat.le_refl _))
            have k0 := (hb12.block _ (show w.heap.size < w1.heap.size by omega)).trans K0.out
            have fz2 : ∀ o, w2.frozen? ⟨w.heap.size, o, none⟩ = false := frozen_of_blk k0
            have y0 : w2.cell? ⟨w.heap.size, 0, none⟩ = some (.int .i64 0) := cell_of_blk k0 0
            have y1 : w2.cell? ⟨w.heap.size, 1, none⟩ = some (.int .i64 0) := cell_of_blk k0 1
            have y2 : w2.cell? ⟨w.heap.size, 2, none⟩ = some (.int .i64 0) := cell_of_blk k0 2
            have y3 : w2.cell? ⟨w.heap.size, 3, none⟩ = some (.int .i64 0) := cell_of_blk k0 3
            clear k0
            have HB2 := hide hb2
            clear hb2
            cases hpf : partF x ((wParts row)[k]) (ps[k]) with
            | none =>
              have HN : Hid (lineF t = none) := hide (by rw [HF.out, HX.out, hdrop, hpf]; rfl)
              clear hpf hdrop hy
              rw [show (none : Option Ln).isSome = false from rfl]
              go_wp2
              exact bodyPost_ret (v := .tuple #[.agg #[.int .i64 0, .int .i64 0, .int .i64 0, .int .i64 0], .bool false]) (by simp [results, Tryz.results156, go_sem, y0, y1, y2, y3]) rfl ⟨⟨⟨0, 0, 0, 0⟩, .inr ⟨HN.out, rfl⟩⟩, by repeat (first | exact hbw.trans (hb12.mono (by omega)) | refine Below.setCell (B := w.heap.size) (p := ⟨w.heap.size, _, none⟩) ?_ (Nat.le_refl w.heap.size) _)⟩
            | some y =>
              obtain rfl : x' = y := hy y hpf
              have HX2 : Hid (partsF ⟨row, 0, 0, 0⟩ (wParts row) ps = partsF x' ((wParts row).drop (k + 1)) (ps.drop (k + 1))) := hide (by rw [HX.out, hdrop, hpf]; rfl)
              clear hpf hdrop hy
              rw [show (some x' : Option Ln).isSome = true from rfl]
              go_wp2
              go_roundw
              case rel => exact ⟨k + 1, x', by omega, by go_num, HX2.out, HB2.out, hb12⟩
              case measure => simp [intOf]; omega
          · clear k1
            have hke : k = ps.length := by omega
            have HX2 : Hid (lineF t = some x) := hide (by
              rw [HF.out, HX.out, hke, List.drop_of_length_le (by omega : (wParts row).length ≤ ps.length), List.drop_of_length_le (Nat.le_refl ps.length)]; rfl)
            clear hke
            obtain ⟨⟨c0, c1, c2, c3⟩, fzb⟩ := lncells HBX.out
            have k0 := (hbr.block _ (show w.heap.size < w1.heap.size by omega)).trans K0.out
            have fz2 : ∀ o, wr.frozen? ⟨w.heap.size, o, none⟩ = false := frozen_of_blk k0
            have y0 : wr.cell? ⟨w.heap.size, 0, none⟩ = some (.int .i64 0) := cell_of_blk k0 0
            have y1 : wr.cell? ⟨w.heap.size, 1, none⟩ = some (.int .i64 0) := cell_of_blk k0 1
            have y2 : wr.cell? ⟨w.heap.size, 2, none⟩ = some (.int .i64 0) := cell_of_blk k0 2
            have y3 : wr.cell? ⟨w.heap.size, 3, none⟩ = some (.int .i64 0) := cell_of_blk k0 3
            clear k0
            go_wp2
            exact bodyPost_ret (v := .tuple #[.agg (lnArr x), .bool true]) (by simp [results, Tryz.results156, go_sem, y0, y1, y2, y3, lnArr]) rfl ⟨⟨x, .inl ⟨HX2.out, rfl⟩⟩, by repeat (first | exact hbw.trans (hbr.mono (by omega)) | refine Below.setCell (B := w.heap.size) (p := ⟨w.heap.size, _, none⟩) ?_ (Nat.le_refl w.heap.size) _)⟩
      · have HN : Hid (lineF t = none) := hide (by unfold lineF; rw [HC.out]; simp [hf, hl])
        clear hf
        have hl' : (((ps.length : Int) + 1) != 1 + ((wParts row).length : Int)) = true := by rw [bne_iff_ne]; omega
        go_wp2
        exact bodyPost_ret (v := .tuple #[.agg #[.int .i64 0, .int .i64 0, .int .i64 0, .int .i64 0], .bool false]) (by simp [results, Tryz.results156, go_sem, z0, z1, z2, z3]) rfl ⟨⟨⟨0, 0, 0, 0⟩, .inr ⟨HN.out, rfl⟩⟩, by repeat (first | exact hbw | refine Below.setCell (B := w.heap.size) (p := ⟨w.heap.size, _, none⟩) ?_ (Nat.le_refl w.heap.size) _)⟩
end Go.Proofs.YtngopilbpiplhaaGreatDoor

namespace Go.Proofs.YtngopilbpiplhaaGreatDoor
open Go.RowKit
/-- The lines' cells, one behind the other. -/
def lnCells (xs : List Ln) : List Value := (xs.map fun x => (lnArr x).toList).flatten
theorem lnCells_snoc (xs : List Ln) (x : Ln) : lnCells (xs ++ [x]) = lnCells xs ++ (lnArr x).toList := by simp [lnCells]
/-- The lines of texts, up to the first that is none. -/
def linesF (ts : List (List UInt8)) : List Ln := ts.filterMap lineF
theorem linesF_snoc (ts : List (List UInt8)) (k : Nat) (h : k < ts.length) (x : Ln) (hx : lineF ts[k] = some x) : linesF (ts.take (k + 1)) = linesF (ts.take k) ++ [x] := by
  unfold linesF
  rw [List.take_succ_eq_append_getElem h, List.filterMap_append]
  simp [hx]
theorem infoLine : (Tryz.prog.info? 122).map (fun i => (i.zero, i.size, i.bytes)) = some (some (.agg #[.int .i64 0, .int .i64 0, .int .i64 0, .int .i64 0]), 4, 32) := by kernel_rfl
def ParseRes (ts : List (List UInt8)) (w : World) (e : Ending) (w' : World) : Prop :=
  ((∃ v, e = .returned (.tuple #[v, .int .i64 (-1)]) ∧ (∀ t ∈ ts, (lineF t).isSome = true) ∧ w'.ownsRow w.heap.size 122 4 v ts.length (lnCells (linesF ts))) ∨
   (∃ i : Nat, e = .returned (.tuple #[.slice none 0 0, .int .i64 i]) ∧ ∃ h : i < ts.length, lineF ts[i] = none ∧ ∀ j (hj : j < i), (lineF (ts[j]'(by omega))).isSome = true)) ∧ Below w.heap.size w w'
theorem ownsRow_below {B : Nat} {w w' : World} {t : TypeId} {sz : Nat} {v : Value} {n : Nat} {xs : List Value} (h : w.ownsRow B t sz v n xs) (hk : ∀ g, B ≤ g → g < w.heap.size → w'.heap[g]? = w.heap[g]?) : w'.ownsRow B t sz v n xs := by
  obtain ⟨h1, h2 | ⟨g, cap, cur, e, hg, hb, r⟩⟩ := h
  · exact ⟨h1, .inl h2⟩
  · exact ⟨h1, .inr ⟨g, cap, cur, e, hg, (hk g hg (blk_lt hb)).trans hb, r⟩⟩
set_option maxRecDepth 100000 in
set_option maxHeartbeats 2000000 in
theorem parse_any (ts : List (List UInt8)) (tb s : Nat) (w : World) (hn : ts.length ≤ 100) (hl : ∀ t ∈ ts, t.length < 4294967281) (hg : Glob w) (ht : w.heap[s + 55]? = some (.cells (trows s) 140))
    (htb : w.heap[tb]? = some (.cells (ts.map fun p => Value.string ⟨p.toArray⟩).toArray 9)) :
    Calls Tryz.prog 103 #[.slice (some ⟨s + 55, 0, none⟩) 17 17, .slice (some ⟨tb, 0, none⟩) ts.length ts.length] w fun e w' => ParseRes ts w e w' := by
  have HT := hide ht
  have hlt := blk_lt ht
  have HTB := hide htb
  have hltb := blk_lt htb
  clear ht htb
  obtain ⟨i0, hi, hz0, hz1, hz2⟩ := info_parts infoLine
  have hmk := run_make (P := Tryz.prog) w 79 122 i0 _ Tryz.underlying79 hi hz0 .i64 .i64 0 (ts.length : Int) (Int.le_refl _) (by omega) (by rw [hz2]; omega) (by omega)
  simp only [Int.toNat_zero, Int.toNat_natCast] at hmk
  have hown0 : (w.alloc (.cells (madeCells (Value.agg #[.int .i64 0, .int .i64 0, .int .i64 0, .int .i64 0]).cells (ts.length * i0.size)) 122)).ownsRow w.heap.size 122 4 (.slice (some ⟨w.heap.size, 0, none⟩) 0 ts.length) 0 [] := by
    rw [hz1]
    exact World.ownsRow_made w _ ts.length (Nat.le_refl _) (by unfold maxLen; omega) (size_madeCells _ _)
  have HO := hide hown0
  clear hown0
  generalize hW : w.alloc (.cells (madeCells (Value.agg #[.int .i64 0, .int .i64 0, .int .i64 0, .int .i64 0]).cells (ts.length * i0.size)) 122) = W at *
  have hbW : Below w.heap.size w W := by rw [← hW]; exact (Below.refl _ _).alloc (Nat.le_refl _) _
  have HW := hide hW
  clear hW
  have HI := hide hi
  have HZ0 := hide hz0
  have HZ1 := hide hz1
  have HZ2 := hide hz2
  clear hi hz0 hz1 hz2
  go_enter Tryz.func103, Tryz.ntmps103
  go_wp2
  clear hmk
  go_loopw [6, 16] (fun v i w' => ∃ k : Nat, k ≤ ts.length ∧ i = .int .i64 k ∧ (∀ j (h : j < ts.length), j < k → (lineF ts[j]).isSome = true) ∧ w'.ownsRow w.heap.size 122 4 v k (lnCells (linesF (ts.take k))) ∧ Below w.heap.size w w') (fun _ i _ => ts.length - (intOf i).toNat)
  case atStart => exact ⟨0, Nat.zero_le _, rfl, fun j _ h => absurd h (by omega), HO.out, hbW⟩
  case round =>
    clear HO HW hbW
    obtain ⟨k, hk, rfl, hall, hown, hb⟩ := hrel
    have HA := hide hall
    clear hall
    have hsz := hb.size
    by_cases hlk : k < ts.length
    · have hpc : wr.cell? ⟨tb, k, none⟩ = some (.string ⟨(ts[k]).toArray⟩) := by
        rw [cell_of_blk ((hb.block _ hltb).trans HTB.out)]
        simp [hlk]
      have HOW := hide hown
      clear hown
      go_wp2_with fail
      refine (parseLine_any (ts[k]) s wr (hl _ (List.getElem_mem _)) (hg.below hb hg.size) ((hb.block _ hlt).trans HT.out)).mono ?_
      rintro e w1 ⟨hres, hb1⟩
      have hb01 : Below w.heap.size w w1 := hb.trans (hb1.mono hsz)
      have hown1 := ownsRow_below HOW.out (fun g _ hg => hb1.block g hg)
      obtain ⟨x, ⟨hx, rfl⟩ | ⟨hx, rfl⟩⟩ := hres
      · have HXX := hide hx
        have HO1 := hide hown1
        clear hx hown1
        have hlen : (lnCells (linesF (ts.take k))).length = k * 4 := HO1.out.1
        have hsnoc := linesF_snoc ts k hlk x HXX.out
        have HS := hide hsnoc
        clear hsnoc hlen
        simp only [lnArr]
        go_wp2_with (first
          | (at_builtin; refine wpList_append_own _ rfl _ _ 79 rfl w.heap.size 122 i0 _ 4 32 Tryz.underlying79 HI.out HZ0.out HZ1.out HZ2.out rfl (by decide) _ _ _ rfl ((HO1.out.alloc _).alloc _) ⟨w1.heap.size + 1, 0, none⟩ 1 1 [.int .i64 x.word, .int .i64 x.r, .int .i64 x.s, .int .i64 x.n] rfl rfl ?c1 ?c2 ?c3 ?c4 ?c5 ?_)
          | go_in)
        case c1 =>
          intro j u hj
          have hnew := blk_new (w1.alloc (.cells #[.int .i64 x.word, .int .i64 x.r, .int .i64 x.s, .int .i64 x.n] 122)) (.cells #[.int .i64 x.word, .int .i64 x.r, .int .i64 x.s, .int .i64 x.n] 122)
          rw [World.size_alloc] at hnew
          have e : (⟨w1.heap.size + 1, 0, none⟩ : Addr).add j = ⟨w1.heap.size + 1, j, none⟩ := by unfold Addr.add; split <;> simp_all
          rw [e, cell_of_blk hnew]
          simpa using hj
        case c2 => intro u hu; simp at hu; rcases hu with rfl | rfl | rfl | rfl <;> rfl
        case c3 => unfold maxLen; omega
        case c4 => omega
        case c5 => have := hb01.size; simp; omega
        · intro v' w2 hown2 hgrow _
          have hb02 : Below w.heap.size w w2 := by
            refine Below.grown ((hb01.alloc hb01.size _).alloc (by simp; have := hb01.size; omega) _) hgrow (by simp; have := hb01.size; omega) ?_
            intro g hg'
            obtain ⟨_, ⟨e, _⟩ | ⟨g1, cap, cur, e, hg1, _⟩⟩ := HO1.out
            · rw [e] at hg'; cases hg'
            · rw [e] at hg'; cases hg'; exact hg1
          have HO2 := hide hown2
          clear hown2 hgrow
          go_wp2
          go_roundw
          case rel =>
            refine ⟨k + 1, by omega, by go_num, fun j h hj => ?_, ?_, hb02⟩
            · rcases Nat.lt_succ_iff_lt_or_eq.1 hj with q | q
              · exact HA.out j h q
              · subst q; rw [HXX.out]; rfl
            · rw [HS.out, lnCells_snoc]; exact HO2.out
          case measure => simp [intOf]; omega
      · have HXX := hide hx
        clear hx hown1
        simp only [lnArr]
        go_wp2
        go_ret2
        exact ⟨.inr ⟨k, rfl, hlk, HXX.out, fun j hj => HA.out j (by omega) hj⟩, hb01.alloc (by have := hb01.size; omega) _⟩
    · obtain rfl : k = ts.length := by omega
      have HOW := hide hown
      clear hown
      go_wp2
      go_ret2
      refine ⟨.inl ⟨_, rfl, fun t ht => ?_, ?_⟩, hb⟩
      · obtain ⟨j, hj, e⟩ := List.getElem_of_mem ht
        rw [← e]; exact HA.out j hj hj
      · have := HOW.out
        rwa [List.take_of_length_le (Nat.le_refl _)] at this
end Go.Proofs.YtngopilbpiplhaaGreatDoor
