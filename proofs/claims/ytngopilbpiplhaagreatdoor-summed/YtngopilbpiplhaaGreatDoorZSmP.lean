/-
  Plain: the two programs of Summed: they are read as lines; what their runs come to.
  Plain: the texts of Summed's two programs are read as their lines; what the search asks of each line.
  The contract of wardkeep.Summed: it answers true.
  The contract of wardkeep.Summed: it answers true.
-/
import Derived.Test.YtngopilbpiplhaaGreatDoorZTxt
import Derived.Test.YtngopilbpiplhaaGreatDoorZClPn
import Derived.Test.YtngopilbpiplhaaGreatDoorZClR
import Derived.Test.YtngopilbpiplhaaGreatDoorZClX1
import Derived.Deep.Cut
namespace Go.Proofs.YtngopilbpiplhaaGreatDoor
open Go.RowKit
set_option linter.unusedVariables false

theorem runF_step {xs : List Ln} {k : Nat} {m m' : MS} {l l' : List UInt8} {j : Nat} {x : Ln} (hl : m.line = (j : Int)) (hx : xs[j]? = some x) (hs : stepF x.word.toNat x.r.toNat x.s.toNat x.n m l = (m', l')) (hh : m'.how = 0) :
    runF xs (k + 1) (m, l) = runF xs k ({ m' with line := m'.next }, l') := by
  conv => lhs; unfold runF
  rw [show xs[m.line.toNat]? = some x by rw [hl]; exact hx]
  dsimp only
  rw [hs]
  rw [if_neg (by simpa using hh)]
theorem runF_stop {xs : List Ln} {k : Nat} {m m' : MS} {l l' : List UInt8} {j : Nat} {x : Ln} (hl : m.line = (j : Int)) (hx : xs[j]? = some x) (hs : stepF x.word.toNat x.r.toNat x.s.toNat x.n m l = (m', l')) (hh : m'.how ≠ 0) :
    runF xs (k + 1) (m, l) = (m', l') := by
  conv => lhs; unfold runF
  rw [show xs[m.line.toNat]? = some x by rw [hl]; exact hx]
  dsimp only
  rw [hs]
  rw [if_pos (by simpa using hh)]
theorem step_bad {row r s : Nat} {n : Int} {m : MS} {l l' : List UInt8} {m' : MS} {why : Int} (hu : unsetF row r s { m with next := m.line + 1 } = false) (hd : doF row r s n { m with next := m.line + 1 } l = (why, m', l')) (hw : why ≠ 0) : stepF row r s n m l = ({ m' with how := 2, why := why }, l') := by
  unfold stepF
  dsimp only
  rw [hu, hd]
  simp [hw]

/-- The sum of the first bytes of the input. -/
def sumF (input : List UInt8) : Nat → Int
  | 0 => 0
  | i + 1 => sumF input i + (inputOf input i : Int)
theorem sumF_range (input : List UInt8) (i : Nat) : 0 ≤ sumF input i ∧ sumF input i ≤ 255 * i := by
  induction i with
  | zero => exact ⟨by simp [sumF], by simp [sumF]⟩
  | succ i ih =>
    have h : inputOf input i < 256 := (input.getD i 0).toNat_lt
    simp only [sumF]
    omega
theorem sumF_behind (input : List UInt8) (i : Nat) (h : input.length ≤ i) : sumF input i = sumF input input.length := by
  induction i with
  | zero => rw [show input.length = 0 by omega]
  | succ i ih =>
    by_cases e : input.length = i + 1
    · rw [e]
    · rw [sumF, ih (by omega)]
      have : inputOf input i = 0 := by simp [inputOf, List.getD_eq_getElem?_getD, List.getElem?_eq_none (by omega : input.length ≤ i)]
      rw [this]; omega

/-- Ahead of line 4, i bytes having been added up. -/
structure LI (input : List UInt8) (n i : Nat) (m : MS) : Prop where
  line : m.line = 4
  how : m.how = 0
  why : m.why = 0
  s1 : m.set 1 = true
  s2 : m.set 2 = true
  s3 : m.set 3 = true
  s4 : m.set 4 = true
  n1 : m.num 1 = (i : Int)
  n2 : m.num 2 = sumF input i
  n3 : m.num 3 = (n : Int)
  n4 : m.num 4 = 1
  inp : m.input = inputOf input

theorem wrap_small (x : Int) (h0 : -9223372036854775808 ≤ x) (h1 : x ≤ 9223372036854775807) : wrap64 x = x := by unfold wrap64; omega
theorem unset_of (row r s : Nat) (m : MS) (h1 : m.set r = true) (h2 : m.set s = true) : unsetF row r s m = false := by unfold unsetF; rw [h1, h2]; simp

/-- Lines 6, 7 and 8. -/
theorem run_body (input : List UInt8) (n i : Nat) (xs : List Ln) (h6 : xs[6]? = some ⟨7, 5, 1, 0⟩) (h7 : xs[7]? = some ⟨2, 2, 5, 0⟩) (h8 : xs[8]? = some ⟨2, 1, 4, 0⟩) (h9 : xs[9]? = some ⟨13, 0, 0, 4⟩) (hi : i < 64) (k : Nat) (m : MS) (h : LI input n i { m with line := 4 }) (hl : m.line = 6) :
    ∃ m', runF xs (k + 4) (m, []) = runF xs k (m', []) ∧ LI input n (i + 1) m' := by
  have hn1 : m.num 1 = (i : Int) := h.n1
  have hn2 : m.num 2 = sumF input i := h.n2
  have hn4 : m.num 4 = 1 := h.n4
  have hin : m.input = inputOf input := h.inp
  have hsr := sumF_range input i
  have hbr : inputOf input i < 256 := (input.getD i 0).toNat_lt
  have hm : m.how = 0 := h.how
  -- in
  have e6 : stepF 7 5 1 0 m [] = (({ m with next := m.line + 1 } : MS).setR 5 (inputOf input i : Int), []) := by
    refine step_of ?_ ?_
    · unfold unsetF
      have : m.set 1 = true := h.s1
      simp [this, show hasB (wTakes 7) 82 = false by decide +kernel]
    · show (if 0 ≤ m.num 1 ∧ m.num 1 < 64 then (0, ({ m with next := m.line + 1 } : MS).setR 5 (m.input (m.num 1).toNat : Int), []) else (3, { m with next := m.line + 1 }, [])) = _
      rw [if_pos (by omega), hn1, hin]
      simp
  rw [show k + 4 = (k + 3) + 1 by omega, runF_step (j := 6) hl h6 e6 hm]
  generalize hM6 : ({ (({ m with next := m.line + 1 } : MS).setR 5 (inputOf input i : Int)) with line := (({ m with next := m.line + 1 } : MS).setR 5 (inputOf input i : Int)).next } : MS) = m6
  have l6 : m6.line = 7 := by rw [← hM6]; show m.line + 1 = 7; omega
  have f6 : m6.how = 0 ∧ m6.why = 0 ∧ m6.input = inputOf input := by rw [← hM6]; exact ⟨h.how, h.why, h.inp⟩
  have s6 : m6.set 1 = true ∧ m6.set 2 = true ∧ m6.set 3 = true ∧ m6.set 4 = true ∧ m6.set 5 = true := by rw [← hM6]; exact ⟨h.s1, h.s2, h.s3, h.s4, rfl⟩
  have n6 : m6.num 1 = (i : Int) ∧ m6.num 2 = sumF input i ∧ m6.num 3 = (n : Int) ∧ m6.num 4 = 1 ∧ m6.num 5 = (inputOf input i : Int) := by rw [← hM6]; exact ⟨h.n1, h.n2, h.n3, h.n4, rfl⟩
  clear hM6 e6
  -- add
  have e7 : stepF 2 2 5 0 m6 [] = (({ m6 with next := m6.line + 1 } : MS).setR 2 (sumF input (i + 1)), []) := by
    refine step_of (unset_of _ _ _ _ s6.2.1 s6.2.2.2.2) ?_
    show (0, ({ m6 with next := m6.line + 1 } : MS).setR 2 (wrap64 (m6.num 2 + m6.num 5)), []) = _
    rw [n6.2.1, n6.2.2.2.2, wrap_small _ (by omega) (by omega)]
    rfl
  rw [show k + 3 = (k + 2) + 1 by omega, runF_step (j := 7) l6 h7 e7 f6.1]
  generalize hM7 : ({ (({ m6 with next := m6.line + 1 } : MS).setR 2 (sumF input (i + 1))) with line := (({ m6 with next := m6.line + 1 } : MS).setR 2 (sumF input (i + 1))).next } : MS) = m7
  have l7 : m7.line = 8 := by rw [← hM7]; show m6.line + 1 = 8; omega
  have f7 : m7.how = 0 ∧ m7.why = 0 ∧ m7.input = inputOf input := by rw [← hM7]; exact f6
  have s7 : m7.set 1 = true ∧ m7.set 2 = true ∧ m7.set 3 = true ∧ m7.set 4 = true := by rw [← hM7]; exact ⟨s6.1, rfl, s6.2.2.1, s6.2.2.2.1⟩
  have n7 : m7.num 1 = (i : Int) ∧ m7.num 2 = sumF input (i + 1) ∧ m7.num 3 = (n : Int) ∧ m7.num 4 = 1 := by rw [← hM7]; exact ⟨n6.1, rfl, n6.2.2.1, n6.2.2.2.1⟩
  clear hM7 e7
  have e8 : stepF 2 1 4 0 m7 [] = (({ m7 with next := m7.line + 1 } : MS).setR 1 ((i : Int) + 1), []) := by
    refine step_of (unset_of _ _ _ _ s7.1 s7.2.2.2) ?_
    show (0, ({ m7 with next := m7.line + 1 } : MS).setR 1 (wrap64 (m7.num 1 + m7.num 4)), []) = _
    rw [n7.1, n7.2.2.2, wrap_small _ (by omega) (by omega)]
  rw [show k + 2 = (k + 1) + 1 by omega, runF_step (j := 8) l7 h8 e8 f7.1]
  generalize hM8 : ({ (({ m7 with next := m7.line + 1 } : MS).setR 1 ((i : Int) + 1)) with line := (({ m7 with next := m7.line + 1 } : MS).setR 1 ((i : Int) + 1)).next } : MS) = m8
  have l8 : m8.line = 9 := by rw [← hM8]; show m7.line + 1 = 9; omega
  have f8 : m8.how = 0 ∧ m8.why = 0 ∧ m8.input = inputOf input := by rw [← hM8]; exact f7
  have s8 : m8.set 1 = true ∧ m8.set 2 = true ∧ m8.set 3 = true ∧ m8.set 4 = true := by rw [← hM8]; exact ⟨rfl, s7.2.1, s7.2.2.1, s7.2.2.2⟩
  have n8 : m8.num 1 = ((i + 1 : Nat) : Int) ∧ m8.num 2 = sumF input (i + 1) ∧ m8.num 3 = (n : Int) ∧ m8.num 4 = 1 := by rw [← hM8]; exact ⟨by show (i : Int) + 1 = _; omega, n7.2.1, n7.2.2.1, n7.2.2.2⟩
  clear hM8 e8
  have e9 : stepF 13 0 0 4 m8 [] = ({ m8 with next := 4 }, []) := by
    refine step_of (unset_none _ _ _ _ (by decide +kernel) (by decide +kernel)) ?_
    rfl
  rw [runF_step (j := 9) l8 h9 e9 f8.1]
  exact ⟨_, rfl, ⟨rfl, f8.1, f8.2.1, s8.1, s8.2.1, s8.2.2.1, s8.2.2.2, n8.1, n8.2.1, n8.2.2.1, n8.2.2.2, f8.2.2⟩⟩

/-- The first four lines. -/
theorem run_head (input : List UInt8) (n : Nat) (hn : n ≤ 64) (xs : List Ln) (h0 : xs[0]? = some ⟨0, 1, 0, 0⟩) (h1 : xs[1]? = some ⟨0, 2, 0, 0⟩) (h2 : xs[2]? = some ⟨0, 3, 0, n⟩) (h3 : xs[3]? = some ⟨0, 4, 0, 1⟩) (k : Nat) :
    ∃ m', runF xs (k + 4) (st0 input) = runF xs k (m', []) ∧ LI input n 0 m' := by
  have hset : ∀ (r : Nat) (x : Int) (m : MS), stepF 0 r 0 x m [] = (({ m with next := m.line + 1 } : MS).setR r x, []) := fun r x m => step_of (unset_none _ _ _ _ (by decide +kernel) (by decide +kernel)) rfl
  unfold st0
  rw [show k + 4 = (k + 3) + 1 by omega, runF_step (j := 0) rfl h0 (hset 1 0 _) rfl, show k + 3 = (k + 2) + 1 by omega, runF_step (j := 1) rfl h1 (hset 2 0 _) rfl, show k + 2 = (k + 1) + 1 by omega, runF_step (j := 2) rfl h2 (hset 3 n _) rfl, runF_step (j := 3) rfl h3 (hset 4 1 _) rfl]
  exact ⟨_, rfl, ⟨rfl, rfl, rfl, rfl, rfl, rfl, rfl, rfl, rfl, rfl, rfl, rfl⟩⟩

/-- With its guard. -/
theorem runA_loop (input : List UInt8) (n : Nat) (hn : n ≤ 64) : ∀ (d i : Nat), i + d = n → ∀ (k : Nat) (m : MS), LI input n i m → ∃ m', runF (progA n) (k + 5 * d + 2) (m, []) = (m', []) ∧ m'.how = 1 ∧ m'.line = 5 ∧ m'.value = sumF input n
  | 0, i, hd, k, m, h => by
    obtain rfl : i = n := by omega
    have e4 : stepF 14 1 3 6 m [] = ({ m with next := m.line + 1 }, []) := by
      refine step_of (unset_of _ _ _ _ h.s1 h.s3) ?_
      show (0, if m.num 1 < m.num 3 then ({ ({ m with next := m.line + 1 } : MS) with next := 6 } : MS) else { m with next := m.line + 1 }, []) = _
      rw [if_neg (by rw [h.n1, h.n3]; omega)]
    rw [show k + 5 * 0 + 2 = (k + 1) + 1 by omega, runF_step (xs := progA i) (j := 4) h.line rfl e4 h.how]
    generalize hM : ({ ({ m with next := m.line + 1 } : MS) with line := ({ m with next := m.line + 1 } : MS).next } : MS) = m4
    have l4 : m4.line = 5 := by rw [← hM]; show m.line + 1 = 5; rw [h.line]; rfl
    have s4 : m4.set 2 = true := by rw [← hM]; exact h.s2
    have n4 : m4.num 2 = sumF input i := by rw [← hM]; exact h.n2
    clear hM e4
    have e5 : stepF 16 2 0 0 m4 [] = ({ ({ m4 with next := m4.line + 1 } : MS) with how := 1, value := m4.num 2 }, []) := by
      refine step_of ?_ rfl
      unfold unsetF
      simp [s4, show hasB (wTakes 16) 83 = false by decide +kernel]
    rw [runF_stop (xs := progA i) (j := 5) l4 rfl e5 (by show (1 : Int) ≠ 0; decide)]
    exact ⟨_, rfl, rfl, l4, n4⟩
  | d + 1, i, hd, k, m, h => by
    have e4 : stepF 14 1 3 6 m [] = ({ ({ m with next := m.line + 1 } : MS) with next := 6 }, []) := by
      refine step_of (unset_of _ _ _ _ h.s1 h.s3) ?_
      show (0, if m.num 1 < m.num 3 then ({ ({ m with next := m.line + 1 } : MS) with next := 6 } : MS) else { m with next := m.line + 1 }, []) = _
      rw [if_pos (by rw [h.n1, h.n3]; omega)]
    rw [show k + 5 * (d + 1) + 2 = (k + 5 * d + 2 + 4) + 1 by omega, runF_step (xs := progA n) (j := 4) h.line rfl e4 h.how]
    obtain ⟨m', e, h'⟩ := run_body input n i (progA n) rfl rfl rfl rfl (by omega) (k + 5 * d + 2) (m := { ({ ({ m with next := m.line + 1 } : MS) with next := 6 } : MS) with line := 6 }) ⟨rfl, h.how, h.why, h.s1, h.s2, h.s3, h.s4, h.n1, h.n2, h.n3, h.n4, h.inp⟩ rfl
    rw [e]
    exact runA_loop input n hn d (i + 1) (by omega) k m' h'
theorem runA (input : List UInt8) (n : Nat) (hn : n ≤ 64) : ∃ m', runOf (progA n) input 3000 = (m', []) ∧ m'.how = 1 ∧ m'.line = 5 ∧ m'.value = sumF input n := by
  obtain ⟨m, e, h⟩ := run_head input n hn (progA n) rfl rfl rfl rfl 2996
  have e2 : runOf (progA n) input 3000 = runF (progA n) 2996 (m, []) := e
  obtain ⟨m', e3, h3⟩ := runA_loop input n hn n 0 (by omega) (2994 - 5 * n) m h
  rw [show 2994 - 5 * n + 5 * n + 2 = 2996 by omega] at e3
  exact ⟨m', e2.trans e3, h3⟩

/-- Without it. -/
theorem runB_loop (input : List UInt8) (n : Nat) (hn : n ≤ 64) : ∀ (d i : Nat), i + d = 64 → ∀ (k : Nat) (m : MS), LI input n i m → ∃ m', runF (progB n) (k + 5 * d + 2) (m, []) = (m', []) ∧ m'.how = 2 ∧ m'.why = 3 ∧ m'.line = 6 ∧ m'.num 1 = 64
  | 0, i, hd, k, m, h => by
    obtain rfl : i = 64 := by omega
    have e4 : stepF 13 0 0 6 m [] = ({ ({ m with next := m.line + 1 } : MS) with next := 6 }, []) := step_of (unset_none _ _ _ _ (by decide +kernel) (by decide +kernel)) rfl
    rw [show k + 5 * 0 + 2 = (k + 1) + 1 by omega, runF_step (xs := progB n) (j := 4) h.line rfl e4 h.how]
    have e6 : stepF 7 5 1 0 ({ ({ ({ m with next := m.line + 1 } : MS) with next := 6 } : MS) with line := 6 } : MS) [] = ({ ({ ({ ({ ({ m with next := m.line + 1 } : MS) with next := 6 } : MS) with line := 6 } : MS) with next := 7 } : MS) with how := 2, why := 3 }, []) := by
      refine step_bad (why := 3) ?_ ?_ (by decide)
      · unfold unsetF
        simp [h.s1, show hasB (wTakes 7) 82 = false by decide +kernel]
      · show (if 0 ≤ m.num 1 ∧ m.num 1 < 64 then _ else (3, _, [])) = _
        rw [if_neg (by rw [h.n1]; omega)]
        rfl
    rw [runF_stop (xs := progB n) (j := 6) rfl rfl e6 (by show (2 : Int) ≠ 0; decide)]
    exact ⟨_, rfl, rfl, rfl, rfl, h.n1⟩
  | d + 1, i, hd, k, m, h => by
    have e4 : stepF 13 0 0 6 m [] = ({ ({ m with next := m.line + 1 } : MS) with next := 6 }, []) := step_of (unset_none _ _ _ _ (by decide +kernel) (by decide +kernel)) rfl
    rw [show k + 5 * (d + 1) + 2 = (k + 5 * d + 2 + 4) + 1 by omega, runF_step (xs := progB n) (j := 4) h.line rfl e4 h.how]
    obtain ⟨m', e, h'⟩ := run_body input n i (progB n) rfl rfl rfl rfl (by omega) (k + 5 * d + 2) (m := { ({ ({ m with next := m.line + 1 } : MS) with next := 6 } : MS) with line := 6 }) ⟨rfl, h.how, h.why, h.s1, h.s2, h.s3, h.s4, h.n1, h.n2, h.n3, h.n4, h.inp⟩ rfl
    rw [e]
    exact runB_loop input n hn d (i + 1) (by omega) k m' h'
theorem runB (input : List UInt8) (n : Nat) (hn : n ≤ 64) (f : Nat) (hf : 600 ≤ f) : ∃ m', runOf (progB n) input f = (m', []) ∧ m'.how = 2 ∧ m'.why = 3 ∧ m'.line = 6 ∧ m'.num 1 = 64 := by
  obtain ⟨m, e, h⟩ := run_head input n hn (progB n) rfl rfl rfl rfl (f - 4)
  rw [show f - 4 + 4 = f by omega] at e
  have e2 : runOf (progB n) input f = runF (progB n) (f - 4) (m, []) := e
  obtain ⟨m', e3, h3⟩ := runB_loop input n hn 64 0 (by omega) (f - 326) m h
  rw [show f - 326 + 5 * 64 + 2 = f - 4 by omega] at e3
  exact ⟨m', e2.trans e3, h3⟩

end Go.Proofs.YtngopilbpiplhaaGreatDoor

namespace Go.Proofs.YtngopilbpiplhaaGreatDoor
open Go.RowKit
set_option linter.unusedVariables false

def preT : List UInt8 := [115, 101, 116, 32, 114, 49, 32, 48, 10, 115, 101, 116, 32, 114, 50, 32, 48, 10, 115, 101, 116, 32, 114, 51, 32]
def postA : List UInt8 := [10, 115, 101, 116, 32, 114, 52, 32, 49, 10, 106, 108, 116, 32, 114, 49, 32, 114, 51, 32, 54, 10, 101, 110, 100, 32, 114, 50, 10, 105, 110, 32, 114, 53, 32, 114, 49, 10, 97, 100, 100, 32, 114, 50, 32, 114, 53, 10, 97, 100, 100, 32, 114, 49, 32, 114, 52, 10, 106, 109, 112, 32, 52]
def postB : List UInt8 := [10, 115, 101, 116, 32, 114, 52, 32, 49, 10, 106, 109, 112, 32, 54, 10, 101, 110, 100, 32, 114, 50, 10, 105, 110, 32, 114, 53, 32, 114, 49, 10, 97, 100, 100, 32, 114, 50, 32, 114, 53, 10, 97, 100, 100, 32, 114, 49, 32, 114, 52, 10, 106, 109, 112, 32, 52]
/-- The program with its guard; without it. -/
def textA (n : Nat) : List UInt8 := preT ++ Lib.itoa (n : Int) ++ postA
def textB (n : Nat) : List UInt8 := preT ++ Lib.itoa (n : Int) ++ postB
def setR3 (n : Nat) : List UInt8 := [115, 101, 116, 32, 114, 51, 32] ++ Lib.itoa (n : Int)
def zJ : List UInt8 := [106, 109, 112, 32, 52]

theorem next_falls (i : Nat) (hi : i < 17) (c : Cl) (x : Ln) (h : (nextW i c x).never = false) : wFalls i = true := by
  match i, hi with
  | 0, _ | 1, _ | 2, _ | 3, _ | 4, _ | 5, _ | 6, _ | 7, _ | 8, _ | 9, _ | 10, _ | 11, _ | 12, _ | 14, _ | 15, _ => rfl
  | 13, _ | 16, _ => exact absurd h (by simp [nextW, clNever])
  | n + 17, h => exact absurd h (by omega)
theorem jump_jumps (i : Nat) (hi : i < 17) (c : Cl) (x : Ln) (h : (jumpW i c x).never = false) : 13 ≤ i ∧ i ≤ 15 := by
  match i, hi with
  | 13, _ | 14, _ | 15, _ => omega
  | 0, _ | 1, _ | 2, _ | 3, _ | 4, _ | 5, _ | 6, _ | 7, _ | 8, _ | 9, _ | 10, _ | 11, _ | 12, _ | 16, _ => exact absurd h (by simp [jumpW, clNever])
  | n + 17, h => exact absurd h (by omega)
theorem exits_to {L k : Nat} {x : Ln} (h : LineOk L k x) (c : Cl) : ∀ e ∈ exitsOf x c k, ∃ t : Nat, e.1 = (t : Int) ∧ t < L := by
  obtain ⟨row, hrow, hw⟩ := h.word
  have hi : x.word.toNat < 17 := by rw [hw]; simpa using hrow
  intro e he
  unfold exitsOf at he
  split at he
  · cases he
  · unfold exW at he
    rcases List.mem_append.1 he with he | he
    · split at he
      · cases he
      · rename_i hn
        rw [List.mem_singleton.1 he]
        exact ⟨k + 1, by show (k : Int) + 1 = _; omega, h.falls (next_falls _ hi c x (by simpa using hn))⟩
    · split at he
      · cases he
      · rename_i hn
        rw [List.mem_singleton.1 he]
        obtain ⟨h1, h2⟩ := jump_jumps _ hi c x (by simpa using hn)
        obtain ⟨h3, h4⟩ := h.jumps h1 h2
        exact ⟨x.n.toNat, by show x.n = _; omega, by omega⟩
theorem set3_line (n : Nat) (hn : n ≤ 64) : lineF (setR3 n) = some ⟨0, 3, 0, n⟩ := by
  have h := lineF_Rn Go.Proofs.YtngopilbpiplhaaGreatDoor.w0 3 (n : Int) (by omega) (by omega) (by omega)
  rw [show wName 0 ++ 32 :: (reg 3 ++ 32 :: Lib.itoa (n : Int)) = setR3 n by rw [show reg 3 = [114, 51] by decide +kernel]; rfl] at h
  exact h
theorem set3_plain (n : Nat) : 10 ∉ setR3 n := by
  intro h
  rcases List.mem_append.1 h with h | h
  · revert h; decide
  · exact (itoa_mem _ _ h).2 rfl
theorem clOkB_ok {c : Cl} (h : clOkB c = true) : ClOk c := by
  intro k hk hh
  have := List.all_eq_true.1 h k (by simpa using hk)
  rw [hh] at this
  simp at this
  omega
theorem proofT_pos (p : List Cl) (h : 0 < p.length) : 0 < (proofT p).length := by
  unfold proofT
  match p, h with
  | c :: p, _ =>
    have e : Lib.join (clT c :: p.map clT) [10] = clT c ++ Lib.joinTail [10] (p.map clT) := Lib.join_cons _ _ _
    rw [List.map_cons, e, List.length_append]
    have : 0 < (clT c).length := by
      unfold clT
      split
      · simp
      · have h2 : ∀ k, ∃ r, cprtF c k = [111, 107] :: r := by
          intro k
          induction k with
          | zero => exact ⟨[], rfl⟩
          | succ k ih =>
            obtain ⟨r, hr⟩ := ih
            unfold cprtF
            split
            · exact ⟨r ++ [partT c k], by rw [hr]; rfl⟩
            · exact ⟨r, hr⟩
        obtain ⟨r, hr⟩ := h2 8
        rw [hr, Lib.join_cons]
        simp
    omega

def linesA (n : Nat) : List (List UInt8) := [[115, 101, 116, 32, 114, 49, 32, 48], [115, 101, 116, 32, 114, 50, 32, 48], setR3 n, [115, 101, 116, 32, 114, 52, 32, 49], [106, 108, 116, 32, 114, 49, 32, 114, 51, 32, 54], [101, 110, 100, 32, 114, 50], [105, 110, 32, 114, 53, 32, 114, 49], [97, 100, 100, 32, 114, 50, 32, 114, 53], [97, 100, 100, 32, 114, 49, 32, 114, 52]]
theorem textA_joined (n : Nat) : textA n = joined (linesA n) ++ zJ := by simp [textA, joined, linesA, setR3, preT, postA, zJ]
theorem cutA (n : Nat) : cutAt 10 (textA n) = linesA n ++ [zJ] := by
  rw [textA_joined]
  refine cutAt_joined zJ (by decide) _ fun t ht => ?_
  simp only [linesA, List.mem_cons, List.not_mem_nil, or_false] at ht
  rcases ht with rfl | rfl | rfl | rfl | rfl | rfl | rfl | rfl | rfl
  · decide
  · decide
  · exact set3_plain n
  · decide
  · decide
  · decide
  · decide
  · decide
  · decide
theorem mapA (n : Nat) (hn : n ≤ 64) : (linesA n ++ [zJ]).map lineF = (progA n).map some := by
  simp only [linesA, progA, zJ, List.cons_append, List.nil_append, List.map_cons, List.map_nil, set3_line n hn]
  rw [show lineF [115, 101, 116, 32, 114, 49, 32, 48] = some ⟨0, 1, 0, 0⟩ by kernel_rfl, show lineF [115, 101, 116, 32, 114, 50, 32, 48] = some ⟨0, 2, 0, 0⟩ by kernel_rfl, show lineF [115, 101, 116, 32, 114, 52, 32, 49] = some ⟨0, 4, 0, 1⟩ by kernel_rfl, show lineF [106, 108, 116, 32, 114, 49, 32, 114, 51, 32, 54] = some ⟨14, 1, 3, 6⟩ by kernel_rfl, show lineF [101, 110, 100, 32, 114, 50] = some ⟨16, 2, 0, 0⟩ by kernel_rfl, show lineF [105, 110, 32, 114, 53, 32, 114, 49] = some ⟨7, 5, 1, 0⟩ by kernel_rfl, show lineF [97, 100, 100, 32, 114, 50, 32, 114, 53] = some ⟨2, 2, 5, 0⟩ by kernel_rfl, show lineF [97, 100, 100, 32, 114, 49, 32, 114, 52] = some ⟨2, 1, 4, 0⟩ by kernel_rfl, show lineF [106, 109, 112, 32, 52] = some ⟨13, 0, 0, 4⟩ by kernel_rfl]
theorem progA_eq (n : Nat) (hn : n ≤ 64) : progF (textA n) = progA n := by unfold progF; rw [cutA]; exact filterMap_of_map (mapA n hn)
theorem longA : ∀ n, n < 65 → longF (textA n) = false := by decide +kernel
theorem okaa (n : Nat) (hn : n ≤ 64) : ∀ (k : Nat) (x : Ln), (progA n)[k]? = some x → LineOk 10 k x := by
  intro k x h
  match k, h with
  | 0, h => obtain rfl := Option.some.inj h; exact ⟨⟨0, by omega, rfl⟩, ⟨1, by omega, rfl⟩, ⟨0, by omega, rfl⟩, by decide, by decide, fun _ => by decide, fun q => absurd q (by decide)⟩
  | 1, h => obtain rfl := Option.some.inj h; exact ⟨⟨0, by omega, rfl⟩, ⟨2, by omega, rfl⟩, ⟨0, by omega, rfl⟩, by decide, by decide, fun _ => by decide, fun q => absurd q (by decide)⟩
  | 2, h => obtain rfl := Option.some.inj h; exact ⟨⟨0, by omega, rfl⟩, ⟨3, by omega, rfl⟩, ⟨0, by omega, rfl⟩, by show _ ≤ (n : Int); omega, by show (n : Int) ≤ _; omega, fun _ => by decide, fun q => absurd (show 13 ≤ 0 from q) (by decide)⟩
  | 3, h => obtain rfl := Option.some.inj h; exact ⟨⟨0, by omega, rfl⟩, ⟨4, by omega, rfl⟩, ⟨0, by omega, rfl⟩, by decide, by decide, fun _ => by decide, fun q => absurd q (by decide)⟩
  | 4, h => obtain rfl := Option.some.inj h; exact ⟨⟨14, by omega, rfl⟩, ⟨1, by omega, rfl⟩, ⟨3, by omega, rfl⟩, by decide, by decide, fun _ => by decide, fun _ _ => by decide⟩
  | 5, h => obtain rfl := Option.some.inj h; exact ⟨⟨16, by omega, rfl⟩, ⟨2, by omega, rfl⟩, ⟨0, by omega, rfl⟩, by decide, by decide, fun q => absurd q (by decide), fun _ q => absurd q (by decide)⟩
  | 6, h => obtain rfl := Option.some.inj h; exact ⟨⟨7, by omega, rfl⟩, ⟨5, by omega, rfl⟩, ⟨1, by omega, rfl⟩, by decide, by decide, fun _ => by decide, fun q => absurd q (by decide)⟩
  | 7, h => obtain rfl := Option.some.inj h; exact ⟨⟨2, by omega, rfl⟩, ⟨2, by omega, rfl⟩, ⟨5, by omega, rfl⟩, by decide, by decide, fun _ => by decide, fun q => absurd q (by decide)⟩
  | 8, h => obtain rfl := Option.some.inj h; exact ⟨⟨2, by omega, rfl⟩, ⟨1, by omega, rfl⟩, ⟨4, by omega, rfl⟩, by decide, by decide, fun _ => by decide, fun q => absurd q (by decide)⟩
  | 9, h => obtain rfl := Option.some.inj h; exact ⟨⟨13, by omega, rfl⟩, ⟨0, by omega, rfl⟩, ⟨0, by omega, rfl⟩, by decide, by decide, fun q => absurd q (by decide), fun _ _ => by decide⟩
  | k + 10, h => simp [progA] at h
theorem lwA (n : Nat) (s0 : Nat) : ∀ (k : Nat) (x : Ln), (progA n)[k]? = some x → LineW s0 x := by
  intro k x h
  match k, h with
  | 0, h => obtain rfl := Option.some.inj h; exact lineW_set s0 1 0 _ (by omega) (by omega)
  | 1, h => obtain rfl := Option.some.inj h; exact lineW_set s0 2 0 _ (by omega) (by omega)
  | 2, h => obtain rfl := Option.some.inj h; exact lineW_set s0 3 0 _ (by omega) (by omega)
  | 3, h => obtain rfl := Option.some.inj h; exact lineW_set s0 4 0 _ (by omega) (by omega)
  | 4, h => obtain rfl := Option.some.inj h; exact lineW_jlt s0 1 3 _ (by omega) (by omega) (by omega)
  | 5, h => obtain rfl := Option.some.inj h; exact lineW_end s0 2 0 _ (by omega) (by omega)
  | 6, h => obtain rfl := Option.some.inj h; exact lineW_in s0 5 1 _ (by omega) (by omega)
  | 7, h => obtain rfl := Option.some.inj h; exact lineW_add s0 2 5 _ (by omega) (by omega)
  | 8, h => obtain rfl := Option.some.inj h; exact lineW_add s0 1 4 _ (by omega) (by omega)
  | 9, h => obtain rfl := Option.some.inj h; exact lineW_jmp s0 0 0 _ (by omega) (by omega)
  | k + 10, h => simp [progA] at h
theorem goodA (n : Nat) (hn : n ≤ 64) : Good (textA n) := by
  refine ⟨longA n (by omega), ?_, ?_, ?_⟩
  · rw [cutA]; exact some_of_map (mapA n hn)
  · rw [progA_eq n hn]
    intro x hx
    obtain ⟨k, hk, e⟩ := List.getElem_of_mem hx
    have h := okaa n hn k x (by rw [List.getElem?_eq_getElem hk, e])
    unfold isLost
    cases hb : hasB (wParts x.word.toNat) 76 with
    | false => rfl
    | true =>
      obtain ⟨row, hrow, hw⟩ := h.word
      have hi : x.word.toNat < 17 := by rw [hw]; simpa using hrow
      have hj : 13 ≤ x.word.toNat ∧ x.word.toNat ≤ 15 := by
        rcases Nat.lt_or_ge x.word.toNat 13 with q | q
        · rw [no_jump _ hi (by omega) (by omega) (by omega)] at hb; cases hb
        · refine ⟨q, ?_⟩
          rcases Nat.lt_or_ge 15 x.word.toNat with q2 | q2
          · rw [no_jump _ hi (by omega) (by omega) (by omega)] at hb; cases hb
          · exact q2
      have := (h.jumps hj.1 hj.2).2
      show (true && decide _) = false
      rw [Bool.true_and, decide_eq_false_iff_not]
      show ¬ ((10 : Nat) : Int) ≤ x.n
      omega
  · rw [progA_eq n hn]
    intro x hx
    have : x = ⟨13, 0, 0, 4⟩ := (Option.some.inj hx).symm
    rw [this]; rfl
theorem searchA (n : Nat) (hn : n ≤ 64) : ∃ END : List Cl × List Int, searchF (progA n) 20 (start0 10) = some END ∧ unmetF (progA (n : Int)) END.1 = none ∧ (∀ c ∈ END.1, ClOk c) := by
  have h := okA_all n (by omega)
  unfold okA at h
  rw [searchK_eq] at h
  cases hs : searchF (progA n) 20 (start0 10) with
  | none => rw [show ((start0 10).1, (start0 10).2) = start0 10 from rfl, hs] at h; cases h
  | some END =>
    rw [show ((start0 10).1, (start0 10).2) = start0 10 from rfl, hs] at h
    simp only [Bool.and_eq_true] at h
    refine ⟨END, rfl, by simpa using h.1, fun c hc => clOkB_ok (List.all_eq_true.1 h.2 c hc)⟩
def linesB (n : Nat) : List (List UInt8) := [[115, 101, 116, 32, 114, 49, 32, 48], [115, 101, 116, 32, 114, 50, 32, 48], setR3 n, [115, 101, 116, 32, 114, 52, 32, 49], [106, 109, 112, 32, 54], [101, 110, 100, 32, 114, 50], [105, 110, 32, 114, 53, 32, 114, 49], [97, 100, 100, 32, 114, 50, 32, 114, 53], [97, 100, 100, 32, 114, 49, 32, 114, 52]]
theorem textB_joined (n : Nat) : textB n = joined (linesB n) ++ zJ := by simp [textB, joined, linesB, setR3, preT, postB, zJ]
theorem cutB (n : Nat) : cutAt 10 (textB n) = linesB n ++ [zJ] := by
  rw [textB_joined]
  refine cutAt_joined zJ (by decide) _ fun t ht => ?_
  simp only [linesB, List.mem_cons, List.not_mem_nil, or_false] at ht
  rcases ht with rfl | rfl | rfl | rfl | rfl | rfl | rfl | rfl | rfl
  · decide
  · decide
  · exact set3_plain n
  · decide
  · decide
  · decide
  · decide
  · decide
  · decide
theorem mapB (n : Nat) (hn : n ≤ 64) : (linesB n ++ [zJ]).map lineF = (progB n).map some := by
  simp only [linesB, progB, zJ, List.cons_append, List.nil_append, List.map_cons, List.map_nil, set3_line n hn]
  rw [show lineF [115, 101, 116, 32, 114, 49, 32, 48] = some ⟨0, 1, 0, 0⟩ by kernel_rfl, show lineF [115, 101, 116, 32, 114, 50, 32, 48] = some ⟨0, 2, 0, 0⟩ by kernel_rfl, show lineF [115, 101, 116, 32, 114, 52, 32, 49] = some ⟨0, 4, 0, 1⟩ by kernel_rfl, show lineF [106, 109, 112, 32, 54] = some ⟨13, 0, 0, 6⟩ by kernel_rfl, show lineF [101, 110, 100, 32, 114, 50] = some ⟨16, 2, 0, 0⟩ by kernel_rfl, show lineF [105, 110, 32, 114, 53, 32, 114, 49] = some ⟨7, 5, 1, 0⟩ by kernel_rfl, show lineF [97, 100, 100, 32, 114, 50, 32, 114, 53] = some ⟨2, 2, 5, 0⟩ by kernel_rfl, show lineF [97, 100, 100, 32, 114, 49, 32, 114, 52] = some ⟨2, 1, 4, 0⟩ by kernel_rfl, show lineF [106, 109, 112, 32, 52] = some ⟨13, 0, 0, 4⟩ by kernel_rfl]
theorem progB_eq (n : Nat) (hn : n ≤ 64) : progF (textB n) = progB n := by unfold progF; rw [cutB]; exact filterMap_of_map (mapB n hn)
theorem longB : ∀ n, n < 65 → longF (textB n) = false := by decide +kernel
theorem okbb (n : Nat) (hn : n ≤ 64) : ∀ (k : Nat) (x : Ln), (progB n)[k]? = some x → LineOk 10 k x := by
  intro k x h
  match k, h with
  | 0, h => obtain rfl := Option.some.inj h; exact ⟨⟨0, by omega, rfl⟩, ⟨1, by omega, rfl⟩, ⟨0, by omega, rfl⟩, by decide, by decide, fun _ => by decide, fun q => absurd q (by decide)⟩
  | 1, h => obtain rfl := Option.some.inj h; exact ⟨⟨0, by omega, rfl⟩, ⟨2, by omega, rfl⟩, ⟨0, by omega, rfl⟩, by decide, by decide, fun _ => by decide, fun q => absurd q (by decide)⟩
  | 2, h => obtain rfl := Option.some.inj h; exact ⟨⟨0, by omega, rfl⟩, ⟨3, by omega, rfl⟩, ⟨0, by omega, rfl⟩, by show _ ≤ (n : Int); omega, by show (n : Int) ≤ _; omega, fun _ => by decide, fun q => absurd (show 13 ≤ 0 from q) (by decide)⟩
  | 3, h => obtain rfl := Option.some.inj h; exact ⟨⟨0, by omega, rfl⟩, ⟨4, by omega, rfl⟩, ⟨0, by omega, rfl⟩, by decide, by decide, fun _ => by decide, fun q => absurd q (by decide)⟩
  | 4, h => obtain rfl := Option.some.inj h; exact ⟨⟨13, by omega, rfl⟩, ⟨0, by omega, rfl⟩, ⟨0, by omega, rfl⟩, by decide, by decide, fun q => absurd q (by decide), fun _ _ => by decide⟩
  | 5, h => obtain rfl := Option.some.inj h; exact ⟨⟨16, by omega, rfl⟩, ⟨2, by omega, rfl⟩, ⟨0, by omega, rfl⟩, by decide, by decide, fun q => absurd q (by decide), fun _ q => absurd q (by decide)⟩
  | 6, h => obtain rfl := Option.some.inj h; exact ⟨⟨7, by omega, rfl⟩, ⟨5, by omega, rfl⟩, ⟨1, by omega, rfl⟩, by decide, by decide, fun _ => by decide, fun q => absurd q (by decide)⟩
  | 7, h => obtain rfl := Option.some.inj h; exact ⟨⟨2, by omega, rfl⟩, ⟨2, by omega, rfl⟩, ⟨5, by omega, rfl⟩, by decide, by decide, fun _ => by decide, fun q => absurd q (by decide)⟩
  | 8, h => obtain rfl := Option.some.inj h; exact ⟨⟨2, by omega, rfl⟩, ⟨1, by omega, rfl⟩, ⟨4, by omega, rfl⟩, by decide, by decide, fun _ => by decide, fun q => absurd q (by decide)⟩
  | 9, h => obtain rfl := Option.some.inj h; exact ⟨⟨13, by omega, rfl⟩, ⟨0, by omega, rfl⟩, ⟨0, by omega, rfl⟩, by decide, by decide, fun q => absurd q (by decide), fun _ _ => by decide⟩
  | k + 10, h => simp [progB] at h
theorem lwB (n : Nat) (s0 : Nat) : ∀ (k : Nat) (x : Ln), (progB n)[k]? = some x → LineW s0 x := by
  intro k x h
  match k, h with
  | 0, h => obtain rfl := Option.some.inj h; exact lineW_set s0 1 0 _ (by omega) (by omega)
  | 1, h => obtain rfl := Option.some.inj h; exact lineW_set s0 2 0 _ (by omega) (by omega)
  | 2, h => obtain rfl := Option.some.inj h; exact lineW_set s0 3 0 _ (by omega) (by omega)
  | 3, h => obtain rfl := Option.some.inj h; exact lineW_set s0 4 0 _ (by omega) (by omega)
  | 4, h => obtain rfl := Option.some.inj h; exact lineW_jmp s0 0 0 _ (by omega) (by omega)
  | 5, h => obtain rfl := Option.some.inj h; exact lineW_end s0 2 0 _ (by omega) (by omega)
  | 6, h => obtain rfl := Option.some.inj h; exact lineW_in s0 5 1 _ (by omega) (by omega)
  | 7, h => obtain rfl := Option.some.inj h; exact lineW_add s0 2 5 _ (by omega) (by omega)
  | 8, h => obtain rfl := Option.some.inj h; exact lineW_add s0 1 4 _ (by omega) (by omega)
  | 9, h => obtain rfl := Option.some.inj h; exact lineW_jmp s0 0 0 _ (by omega) (by omega)
  | k + 10, h => simp [progB] at h
theorem goodB (n : Nat) (hn : n ≤ 64) : Good (textB n) := by
  refine ⟨longB n (by omega), ?_, ?_, ?_⟩
  · rw [cutB]; exact some_of_map (mapB n hn)
  · rw [progB_eq n hn]
    intro x hx
    obtain ⟨k, hk, e⟩ := List.getElem_of_mem hx
    have h := okbb n hn k x (by rw [List.getElem?_eq_getElem hk, e])
    unfold isLost
    cases hb : hasB (wParts x.word.toNat) 76 with
    | false => rfl
    | true =>
      obtain ⟨row, hrow, hw⟩ := h.word
      have hi : x.word.toNat < 17 := by rw [hw]; simpa using hrow
      have hj : 13 ≤ x.word.toNat ∧ x.word.toNat ≤ 15 := by
        rcases Nat.lt_or_ge x.word.toNat 13 with q | q
        · rw [no_jump _ hi (by omega) (by omega) (by omega)] at hb; cases hb
        · refine ⟨q, ?_⟩
          rcases Nat.lt_or_ge 15 x.word.toNat with q2 | q2
          · rw [no_jump _ hi (by omega) (by omega) (by omega)] at hb; cases hb
          · exact q2
      have := (h.jumps hj.1 hj.2).2
      show (true && decide _) = false
      rw [Bool.true_and, decide_eq_false_iff_not]
      show ¬ ((10 : Nat) : Int) ≤ x.n
      omega
  · rw [progB_eq n hn]
    intro x hx
    have : x = ⟨13, 0, 0, 4⟩ := (Option.some.inj hx).symm
    rw [this]; rfl
theorem searchB (n : Nat) (hn : n ≤ 64) : ∃ END : List Cl × List Int, searchF (progB n) 20 (start0 10) = some END ∧ unmetF (progB (n : Int)) END.1 = some 6 ∧ (∀ c ∈ END.1, ClOk c) := by
  have h := okB_all n (by omega)
  unfold okB at h
  rw [searchK_eq] at h
  cases hs : searchF (progB n) 20 (start0 10) with
  | none => rw [show ((start0 10).1, (start0 10).2) = start0 10 from rfl, hs] at h; cases h
  | some END =>
    rw [show ((start0 10).1, (start0 10).2) = start0 10 from rfl, hs] at h
    simp only [Bool.and_eq_true] at h
    refine ⟨END, rfl, by simpa using h.1, fun c hc => clOkB_ok (List.all_eq_true.1 h.2 c hc)⟩

end Go.Proofs.YtngopilbpiplhaaGreatDoor

namespace Go.Proofs.YtngopilbpiplhaaGreatDoor
open Go.RowKit
set_option linter.unusedVariables false

theorem searchF_len (xs : List Ln) : ∀ (f : Nat) (st END : List Cl × List Int), searchF xs f st = some END → END.1.length = st.1.length
  | 0, st, END, h => by cases h
  | f + 1, st, END, h => by
    have hl : (after xs st).1.length = st.1.length := (roundF_len xs st.2 (List.range xs.length) (st.1, List.replicate xs.length false)).1
    unfold searchF at h
    split at h
    · exact (searchF_len xs f _ END h).trans hl
    · cases h; exact hl
theorem strA (n : Nat) : ((⟨#[115, 101, 116, 32, 114, 49, 32, 48, 10, 115, 101, 116, 32, 114, 50, 32, 48, 10, 115, 101, 116, 32, 114, 51, 32]⟩ : ByteArray) ++ ⟨(Lib.itoa (n : Int)).toArray⟩) ++ ⟨#[10, 115, 101, 116, 32, 114, 52, 32, 49, 10, 106, 108, 116, 32, 114, 49, 32, 114, 51, 32, 54, 10, 101, 110, 100, 32, 114, 50, 10, 105, 110, 32, 114, 53, 32, 114, 49, 10, 97, 100, 100, 32, 114, 50, 32, 114, 53, 10, 97, 100, 100, 32, 114, 49, 32, 114, 52, 10, 106, 109, 112, 32, 52]⟩ = ⟨(textA n).toArray⟩ := ByteArray.ext (by simp [ByteArray.data_append, textA, preT, postA])
theorem strB (n : Nat) : ((⟨#[115, 101, 116, 32, 114, 49, 32, 48, 10, 115, 101, 116, 32, 114, 50, 32, 48, 10, 115, 101, 116, 32, 114, 51, 32]⟩ : ByteArray) ++ ⟨(Lib.itoa (n : Int)).toArray⟩) ++ ⟨#[10, 115, 101, 116, 32, 114, 52, 32, 49, 10, 106, 109, 112, 32, 54, 10, 101, 110, 100, 32, 114, 50, 10, 105, 110, 32, 114, 53, 32, 114, 49, 10, 97, 100, 100, 32, 114, 50, 32, 114, 53, 10, 97, 100, 100, 32, 114, 49, 32, 114, 52, 10, 106, 109, 112, 32, 52]⟩ = ⟨(textB n).toArray⟩ := ByteArray.ext (by simp [ByteArray.data_append, textB, preT, postB])
theorem itoa_2 (n : Nat) (h : n ≤ 64) : (Lib.itoa (n : Int)).length ≤ 20 := itoa_20 _ (by omega) (by omega)
theorem textA_len (n : Nat) (h : n ≤ 64) : (textA n).length ≤ 281474976710656 := by have := itoa_2 n h; simp [textA, preT, postA]; omega
theorem textB_len (n : Nat) (h : n ≤ 64) : (textB n).length ≤ 281474976710656 := by have := itoa_2 n h; simp [textB, preT, postB]; omega
theorem lineOks {xs : List Ln} (h10 : xs.length = 10) (h : ∀ (k : Nat) (x : Ln), xs[k]? = some x → LineOk 10 k x) : ∀ k (hk : k < xs.length), LineOk xs.length k xs[k] := fun k hk => by rw [h10]; exact h k _ (List.getElem?_eq_getElem hk)

theorem proveA (n : Nat) (hn : n ≤ 64) (w : World) (hg : Glob w) (hp : PowT w) :
    Calls Tryz.prog 17 #[.string (((⟨#[115, 101, 116, 32, 114, 49, 32, 48, 10, 115, 101, 116, 32, 114, 50, 32, 48, 10, 115, 101, 116, 32, 114, 51, 32]⟩ : ByteArray) ++ ⟨(Lib.itoa (n : Int)).toArray⟩) ++ ⟨#[10, 115, 101, 116, 32, 114, 52, 32, 49, 10, 106, 108, 116, 32, 114, 49, 32, 114, 51, 32, 54, 10, 101, 110, 100, 32, 114, 50, 10, 105, 110, 32, 114, 53, 32, 114, 49, 10, 97, 100, 100, 32, 114, 50, 32, 114, 53, 10, 97, 100, 100, 32, 114, 49, 32, 114, 52, 10, 106, 109, 112, 32, 52]⟩)] w fun e w' => (∃ l : List UInt8, 0 < l.length ∧ e = .returned (.tuple #[.string ⟨l.toArray⟩, .int .i64 0, .int .i64 0])) ∧ Below w.heap.size w w' := by
  obtain ⟨END, h1, h2, h3⟩ := searchA n hn
  have hpe := progA_eq n hn
  rw [strA]
  refine (wProve_any (textA n) w 20 (by decide) END (textA_len n hn) (goodA n hn) (by rw [hpe]; show 10 ≤ 100; decide) (by rw [hpe]; show 0 < 10; decide) (by rw [hpe]; exact h1) h3 (by rw [hpe]; exact fun s0 => lwA n s0) (by rw [hpe]; exact fun k x hx c => exits_to (okaa n hn k x hx) c) hg hp).mono ?_
  rintro e w' ⟨hr, hb⟩
  refine ⟨?_, hb⟩
  rw [hpe] at hr
  rcases hr with ⟨k, hk, _⟩ | ⟨_, rfl⟩
  · rw [h2] at hk; cases hk
  · refine ⟨_, proofT_pos _ ?_, rfl⟩
    rw [searchF_len _ _ _ _ h1]
    decide
theorem proveB (n : Nat) (hn : n ≤ 64) (w : World) (hg : Glob w) (hp : PowT w) :
    Calls Tryz.prog 17 #[.string (((⟨#[115, 101, 116, 32, 114, 49, 32, 48, 10, 115, 101, 116, 32, 114, 50, 32, 48, 10, 115, 101, 116, 32, 114, 51, 32]⟩ : ByteArray) ++ ⟨(Lib.itoa (n : Int)).toArray⟩) ++ ⟨#[10, 115, 101, 116, 32, 114, 52, 32, 49, 10, 106, 109, 112, 32, 54, 10, 101, 110, 100, 32, 114, 50, 10, 105, 110, 32, 114, 53, 32, 114, 49, 10, 97, 100, 100, 32, 114, 50, 32, 114, 53, 10, 97, 100, 100, 32, 114, 49, 32, 114, 52, 10, 106, 109, 112, 32, 52]⟩)] w fun e w' => e = .returned (.tuple #[.string ⟨#[]⟩, .int .i64 7, .int .i64 6]) ∧ Below w.heap.size w w' := by
  obtain ⟨END, h1, h2, h3⟩ := searchB n hn
  have hpe := progB_eq n hn
  rw [strB]
  refine (wProve_any (textB n) w 20 (by decide) END (textB_len n hn) (goodB n hn) (by rw [hpe]; show 10 ≤ 100; decide) (by rw [hpe]; show 0 < 10; decide) (by rw [hpe]; exact h1) h3 (by rw [hpe]; exact fun s0 => lwB n s0) (by rw [hpe]; exact fun k x hx c => exits_to (okbb n hn k x hx) c) hg hp).mono ?_
  rintro e w' ⟨hr, hb⟩
  refine ⟨?_, hb⟩
  rw [hpe] at hr
  rcases hr with ⟨k, hk, rfl⟩ | ⟨hk, _⟩
  · rw [h2] at hk; cases hk; rfl
  · rw [h2] at hk; cases hk
theorem runA_any (n : Nat) (hn : n ≤ 64) (input : List UInt8) (w : World) (hg : Glob w) (hp : PowT w) :
    Calls Tryz.prog 14 #[.string (((⟨#[115, 101, 116, 32, 114, 49, 32, 48, 10, 115, 101, 116, 32, 114, 50, 32, 48, 10, 115, 101, 116, 32, 114, 51, 32]⟩ : ByteArray) ++ ⟨(Lib.itoa (n : Int)).toArray⟩) ++ ⟨#[10, 115, 101, 116, 32, 114, 52, 32, 49, 10, 106, 108, 116, 32, 114, 49, 32, 114, 51, 32, 54, 10, 101, 110, 100, 32, 114, 50, 10, 105, 110, 32, 114, 53, 32, 114, 49, 10, 97, 100, 100, 32, 114, 50, 32, 114, 53, 10, 97, 100, 100, 32, 114, 49, 32, 114, 52, 10, 106, 109, 112, 32, 52]⟩), .string ⟨input.toArray⟩, .int .i64 3000] w
      fun e w' => (∃ SC : Array Value, e = .returned (.tuple #[.agg SC, .int .i64 0, .int .i64 0]) ∧ SC.size = 21 ∧ SC.all (·.oneCell') = true ∧ SC[0]? = some (.int .i64 1) ∧ SC[1]? = some (.int .i64 5) ∧ SC[3]? = some (.int .i64 (sumF input n))) ∧ Below w.heap.size w w' := by
  have hpe := progA_eq n hn
  obtain ⟨m', e1, e2, e3, e4⟩ := runA input n hn
  rw [strA]
  refine (show Calls Tryz.prog 14 #[.string ⟨(textA n).toArray⟩, .string ⟨input.toArray⟩, .int .i64 3000] w _ from wRun_any (textA n) input 3000 w (textA_len n hn) (by decide) (goodA n hn) (lineOks (by rw [hpe]; rfl) (by rw [hpe]; exact okaa n hn)) (by rw [hpe]; show 10 ≤ 100; decide) (by rw [hpe]; show 0 < 10; decide) hg hp).mono ?_
  rintro e w' ⟨rfl, hb⟩
  refine ⟨⟨_, rfl, rfl, st_one _ _, ?_⟩, hb⟩
  rw [hpe, e1]
  exact ⟨by rw [← e2]; rfl, by rw [← e3]; rfl, by rw [← e4]; rfl⟩
theorem runB_any (n : Nat) (hn : n ≤ 64) (input : List UInt8) (f : Nat) (h0 : 600 ≤ f) (h1 : f ≤ 3000) (w : World) (hg : Glob w) (hp : PowT w) :
    Calls Tryz.prog 14 #[.string (((⟨#[115, 101, 116, 32, 114, 49, 32, 48, 10, 115, 101, 116, 32, 114, 50, 32, 48, 10, 115, 101, 116, 32, 114, 51, 32]⟩ : ByteArray) ++ ⟨(Lib.itoa (n : Int)).toArray⟩) ++ ⟨#[10, 115, 101, 116, 32, 114, 52, 32, 49, 10, 106, 109, 112, 32, 54, 10, 101, 110, 100, 32, 114, 50, 10, 105, 110, 32, 114, 53, 32, 114, 49, 10, 97, 100, 100, 32, 114, 50, 32, 114, 53, 10, 97, 100, 100, 32, 114, 49, 32, 114, 52, 10, 106, 109, 112, 32, 52]⟩), .string ⟨input.toArray⟩, .int .i64 (f : Int)] w
      fun e w' => (∃ SC : Array Value, e = .returned (.tuple #[.agg SC, .int .i64 0, .int .i64 0]) ∧ SC.size = 21 ∧ SC.all (·.oneCell') = true ∧ SC[0]? = some (.int .i64 2) ∧ SC[1]? = some (.int .i64 6) ∧ SC[2]? = some (.int .i64 3) ∧ SC[7]? = some (.int .i64 64)) ∧ Below w.heap.size w w' := by
  have hpe := progB_eq n hn
  obtain ⟨m', e1, e2, e3, e4, e5⟩ := runB input n hn f h0
  rw [strB]
  refine (wRun_any (textB n) input f w (textB_len n hn) h1 (goodB n hn) (lineOks (by rw [hpe]; rfl) (by rw [hpe]; exact okbb n hn)) (by rw [hpe]; show 10 ≤ 100; decide) (by rw [hpe]; show 0 < 10; decide) hg hp).mono ?_
  rintro e w' ⟨rfl, hb⟩
  refine ⟨⟨_, rfl, rfl, st_one _ _, ?_⟩, hb⟩
  rw [hpe, e1]
  exact ⟨by rw [← e2]; rfl, by rw [← e4]; rfl, by rw [← e3]; rfl, by rw [← e5]; rfl⟩

end Go.Proofs.YtngopilbpiplhaaGreatDoor

namespace Go.Proofs.YtngopilbpiplhaaGreatDoor
open Go.RowKit
set_option linter.unusedVariables false

set_option maxRecDepth 100000 in
set_option maxHeartbeats 4000000 in
theorem Summed_any (input : List UInt8) (many guard : Int) (w : World) (hg : Glob w) (hp : PowT w) (m0 : -9223372036854775808 ≤ many) (m1 : many ≤ 9223372036854775807) (g0 : -9223372036854775808 ≤ guard) (g1 : guard ≤ 9223372036854775807) :
    Calls Tryz.prog 6 #[.string ⟨input.toArray⟩, .int .i64 many, .int .i64 guard] w fun e w' => e = .returned (.bool true) ∧ Below w.heap.size w w' := by
  obtain ⟨n, hn, hpk⟩ := pick_nat many 65 (by omega)
  obtain ⟨q, hq, hpq⟩ := pick_nat guard 2000 (by omega)
  have HPK := hide hpk
  have HPQ := hide hpq
  have HG := hide hg
  have HP := hide hp
  have hg8 := hg.size
  have hln := itoa_2 n (by omega)
  have hl1 : ¬ 9223372036854775807 < 25 + (Lib.itoa (n : Int)).length := by omega
  clear hpk hpq hg hp
  go_enter Tryz.func6, Tryz.ntmps6
  go_wp2_with fail
  refine (pick_any many 65 w m0 m1 (by omega) (by omega)).mono ?_
  rintro e w' ⟨rfl, hw⟩
  obtain rfl := hw.symm
  rw [show pickF many 65 = (n : Int) from HPK.out]
  go_wp2_with fail
  refine (decimal_any (n : Int) (by omega) (by omega) w).mono ?_
  rintro e w1 ⟨rfl, hb1⟩
  have HB1 := hide hb1
  have hs1 := hb1.size
  clear hb1
  go_wp2_with fail
  have hPA := fun (W : World) (h1 : Glob W) (h2 : PowT W) => proveA n (by omega) W h1 h2
  have hRA := fun (W : World) (h1 : Glob W) (h2 : PowT W) => runA_any n (by omega) input W h1 h2
  generalize ((⟨#[115, 101, 116, 32, 114, 49, 32, 48, 10, 115, 101, 116, 32, 114, 50, 32, 48, 10, 115, 101, 116, 32, 114, 51, 32]⟩ : ByteArray) ++ ⟨(Lib.itoa (n : Int)).toArray⟩) ++ ⟨#[10, 115, 101, 116, 32, 114, 52, 32, 49, 10, 106, 108, 116, 32, 114, 49, 32, 114, 51, 32, 54, 10, 101, 110, 100, 32, 114, 50, 10, 105, 110, 32, 114, 53, 32, 114, 49, 10, 97, 100, 100, 32, 114, 50, 32, 114, 53, 10, 97, 100, 100, 32, 114, 49, 32, 114, 52, 10, 106, 109, 112, 32, 52]⟩ = PA at *
  have HPA := hide hPA
  have HRA := hide hRA
  clear hPA hRA
  refine (awake_any w1 (HG.out.below HB1.out hg8) (HP.out.mono (HB1.out.block _ (by omega)))).mono ?_
  rintro e w2 ⟨rfl, hb2⟩
  have HB2 := hide (HB1.out.trans (hb2.mono hs1))
  have hs2 := hb2.size
  clear hb2 HB1
  go_wp2_with fail
  refine (HPA.out w2 (HG.out.below HB2.out hg8) (HP.out.mono (HB2.out.block _ (by omega)))).mono ?_
  rintro e w3 ⟨⟨pt, hpt, rfl⟩, hb3⟩
  obtain ⟨pa, pl, rfl⟩ : ∃ a l, pt = a :: l := by
    cases pt with
    | nil => simp at hpt
    | cons a l => exact ⟨a, l, rfl⟩
  have HB3 := hide (HB2.out.trans (hb3.mono (by omega)))
  have hs3 := hb3.size
  clear hb3 HB2
  go_wp2_with fail
  refine (HRA.out w3 (HG.out.below HB3.out hg8) (HP.out.mono (HB3.out.block _ (by omega)))).mono ?_
  rintro e w4 ⟨⟨SC, rfl, hz4, ho4, c0, c1, c3⟩, hb4⟩
  have HB4 := hide (HB3.out.trans (hb4.mono (by omega)))
  have hs4 := hb4.size
  have HZ4 := hide hz4
  have HC0 := hide c0
  have HC1 := hide c1
  have HC3 := hide c3
  clear hb4 HB3 hz4 c0 c1 c3
  go_wp2_with (refine wpList_storeRow rfl (.tmp 13) (.tmp 36) rfl w4.heap.size SC _ _ rfl rfl (blk_new w4 _) HZ4.out rfl ho4 ?_)
  intro w5 hS5 hk5 hs5
  have HS5 := hide hS5
  have HB5 : Hid (Below w.heap.size w w5) := hide (HB4.out.trans (((Below.refl _ _).alloc (by omega) _).trans ((hk5 w.heap.size).below (by omega))))
  clear hS5 hk5 HB4
  go_wp2_with fail
  go_loopw [16, 17] (fun sv iv w' => ∃ i : Nat, i ≤ n ∧ i ≤ input.length ∧ iv = .int .i64 i ∧ sv = .int .i64 (sumF input i) ∧ w' = w5) (fun _ iv _ => n - (intOf iv).toNat)
  case atStart => exact ⟨0, by omega, by omega, rfl, rfl, rfl⟩
  case round =>
    obtain ⟨i, hin, hil2, rfl, rfl, hwr⟩ := hrel
    obtain rfl := hwr
    have hsr := sumF_range input i
    by_cases h1 : i < n
    · have h1I : (i : Int) < (n : Int) := by omega
      by_cases h2 : i < input.length
      · have h2I : (i : Int) < (input.length : Int) := by omega
        have hby : ((⟨input.toArray⟩ : ByteArray)[i]'(by show i < input.toArray.size; simpa using h2)).toNat = inputOf input i := by
          show (input.toArray[i]'(by simpa using h2)).toNat = _
          simp [inputOf, List.getD_eq_getElem?_getD, h2]
        have hbl : inputOf input i < 256 := (input.getD i 0).toNat_lt
        have HBY := hide hby
        have HSU : Hid (sumF input (i + 1) = sumF input i + (inputOf input i : Int)) := hide rfl
        clear hby
        go_wp2
        go_roundw
        case rel =>
          refine ⟨i + 1, by omega, by omega, by go_num, ?_, by trivial⟩
          rw [HBY.out, HSU.out, show wrap64 (inputOf input i : Int) = (inputOf input i : Int) from wrap_small _ (by omega) (by omega), wrap_small _ (by omega) (by omega)]
        case measure => simp [intOf]; omega
      · have h2I : ¬ (i : Int) < (input.length : Int) := by omega
        have HE : Hid (sumF input i = sumF input n) := hide (by rw [sumF_behind input n (by omega), show i = input.length by omega])
        have r0 : wr.cell? ⟨w4.heap.size, 0, none⟩ = some (.int .i64 1) := (cell_of_blk HS5.out 0).trans HC0.out
        have r1 : wr.cell? ⟨w4.heap.size, 1, none⟩ = some (.int .i64 5) := (cell_of_blk HS5.out 1).trans HC1.out
        have r3 : wr.cell? ⟨w4.heap.size, 3, none⟩ = some (.int .i64 (sumF input i)) := by rw [HE.out]; exact (cell_of_blk HS5.out 3).trans HC3.out
        go_wp2_with fail
        refine (decimal_any (n : Int) (by omega) (by omega) wr).mono ?_
        rintro e w6 ⟨rfl, hb6⟩
        have HB6 := hide (HB5.out.trans (hb6.mono HB5.out.size))
        have HS6 := hide ((hb6.block _ (blk_lt HS5.out)).trans HS5.out)
        have hs6 := hb6.size
        clear hb6 r0 r1 r3
        go_wp2_with fail
        have hPB := fun (W : World) (h1 : Glob W) (h2 : PowT W) => proveB n (by omega) W h1 h2
        have hRB : ∀ (W : World) (h1 : Glob W) (h2 : PowT W), Calls Tryz.prog 14 #[.string (((⟨#[115, 101, 116, 32, 114, 49, 32, 48, 10, 115, 101, 116, 32, 114, 50, 32, 48, 10, 115, 101, 116, 32, 114, 51, 32]⟩ : ByteArray) ++ ⟨(Lib.itoa (n : Int)).toArray⟩) ++ ⟨#[10, 115, 101, 116, 32, 114, 52, 32, 49, 10, 106, 109, 112, 32, 54, 10, 101, 110, 100, 32, 114, 50, 10, 105, 110, 32, 114, 53, 32, 114, 49, 10, 97, 100, 100, 32, 114, 50, 32, 114, 53, 10, 97, 100, 100, 32, 114, 49, 32, 114, 52, 10, 106, 109, 112, 32, 52]⟩), .string ⟨input.toArray⟩, .int .i64 (600 + (q : Int))] W _ := fun W h1 h2 => by
          have h := runB_any n (by omega) input (600 + q) (by omega) (by omega) W h1 h2
          rw [show ((600 + q : Nat) : Int) = 600 + (q : Int) by omega] at h
          exact h
        generalize ((⟨#[115, 101, 116, 32, 114, 49, 32, 48, 10, 115, 101, 116, 32, 114, 50, 32, 48, 10, 115, 101, 116, 32, 114, 51, 32]⟩ : ByteArray) ++ ⟨(Lib.itoa (n : Int)).toArray⟩) ++ ⟨#[10, 115, 101, 116, 32, 114, 52, 32, 49, 10, 106, 109, 112, 32, 54, 10, 101, 110, 100, 32, 114, 50, 10, 105, 110, 32, 114, 53, 32, 114, 49, 10, 97, 100, 100, 32, 114, 50, 32, 114, 53, 10, 97, 100, 100, 32, 114, 49, 32, 114, 52, 10, 106, 109, 112, 32, 52]⟩ = PB at *
        have HPB := hide hPB
        have HRB := hide hRB
        clear hPB hRB
        have hgw := HB5.out.size
        refine (HPB.out w6 (HG.out.below HB6.out hg8) (HP.out.mono (HB6.out.block _ (by omega)))).mono ?_
        rintro e w7 ⟨rfl, hb7⟩
        have HB7 := hide (HB6.out.trans (hb7.mono HB6.out.size))
        have HS7 := hide ((hb7.block _ (blk_lt HS6.out)).trans HS6.out)
        have hs7 := hb7.size
        clear hb7 HB6 HS6
        go_wp2_with fail
        refine (pick_any guard 2000 w7 g0 g1 (by omega) (by omega)).mono ?_
        rintro e w' ⟨rfl, hw7⟩
        obtain rfl := hw7.symm
        rw [show pickF guard 2000 = (q : Int) from HPQ.out]
        have hqI : (q : Int) < 2000 := by omega
        go_wp2_with fail
        refine (HRB.out w7 (HG.out.below HB7.out hg8) (HP.out.mono (HB7.out.block _ (by omega)))).mono ?_
        rintro e w8 ⟨⟨SC2, rfl, hz8, ho8, d0, d1, d2, d7⟩, hb8⟩
        have HB8 := hide (HB7.out.trans (hb8.mono HB7.out.size))
        have HS8 := hide ((hb8.block _ (blk_lt HS7.out)).trans HS7.out)
        have HZ8 := hide hz8
        have HD0 := hide d0
        have HD1 := hide d1
        have HD2 := hide d2
        have HD7 := hide d7
        clear hb8 HB7 HS7 hz8 d0 d1 d2 d7
        go_wp2_with (refine wpList_storeRow rfl (.tmp 13) (.tmp 103) rfl w4.heap.size SC2 SC _ rfl rfl HS8.out HZ8.out HZ4.out ho8 ?_)
        intro w9 hS9 hk9 hs9
        have f0 : w9.cell? ⟨w4.heap.size, 0, none⟩ = some (.int .i64 2) := (cell_of_blk hS9 0).trans HD0.out
        have f1 : w9.cell? ⟨w4.heap.size, 1, none⟩ = some (.int .i64 6) := (cell_of_blk hS9 1).trans HD1.out
        have f2 : w9.cell? ⟨w4.heap.size, 2, none⟩ = some (.int .i64 3) := (cell_of_blk hS9 2).trans HD2.out
        have f7 : w9.cell? ⟨w4.heap.size, 7, none⟩ = some (.int .i64 64) := (cell_of_blk hS9 7).trans HD7.out
        have HB9 : Hid (Below w.heap.size w w9) := hide (HB8.out.trans ((hk9 w.heap.size).below (by omega)))
        clear hS9 hk9 hs9
        go_wp2
        go_ret
        exact ⟨rfl, HB9.out⟩
    · have h1I : ¬ (i : Int) < (n : Int) := by omega
      obtain rfl : n = i := by omega
      have HE : Hid (sumF input n = sumF input n) := hide rfl
      have r0 : wr.cell? ⟨w4.heap.size, 0, none⟩ = some (.int .i64 1) := (cell_of_blk HS5.out 0).trans HC0.out
      have r1 : wr.cell? ⟨w4.heap.size, 1, none⟩ = some (.int .i64 5) := (cell_of_blk HS5.out 1).trans HC1.out
      have r3 : wr.cell? ⟨w4.heap.size, 3, none⟩ = some (.int .i64 (sumF input n)) := by rw [HE.out]; exact (cell_of_blk HS5.out 3).trans HC3.out
      go_wp2_with fail
      refine (decimal_any (n : Int) (by omega) (by omega) wr).mono ?_
      rintro e w6 ⟨rfl, hb6⟩
      have HB6 := hide (HB5.out.trans (hb6.mono HB5.out.size))
      have HS6 := hide ((hb6.block _ (blk_lt HS5.out)).trans HS5.out)
      have hs6 := hb6.size
      clear hb6 r0 r1 r3
      go_wp2_with fail
      have hPB := fun (W : World) (h1 : Glob W) (h2 : PowT W) => proveB n (by omega) W h1 h2
      have hRB : ∀ (W : World) (h1 : Glob W) (h2 : PowT W), Calls Tryz.prog 14 #[.string (((⟨#[115, 101, 116, 32, 114, 49, 32, 48, 10, 115, 101, 116, 32, 114, 50, 32, 48, 10, 115, 101, 116, 32, 114, 51, 32]⟩ : ByteArray) ++ ⟨(Lib.itoa (n : Int)).toArray⟩) ++ ⟨#[10, 115, 101, 116, 32, 114, 52, 32, 49, 10, 106, 109, 112, 32, 54, 10, 101, 110, 100, 32, 114, 50, 10, 105, 110, 32, 114, 53, 32, 114, 49, 10, 97, 100, 100, 32, 114, 50, 32, 114, 53, 10, 97, 100, 100, 32, 114, 49, 32, 114, 52, 10, 106, 109, 112, 32, 52]⟩), .string ⟨input.toArray⟩, .int .i64 (600 + (q : Int))] W _ := fun W h1 h2 => by
        have h := runB_any n (by omega) input (600 + q) (by omega) (by omega) W h1 h2
        rw [show ((600 + q : Nat) : Int) = 600 + (q : Int) by omega] at h
        exact h
      generalize ((⟨#[115, 101, 116, 32, 114, 49, 32, 48, 10, 115, 101, 116, 32, 114, 50, 32, 48, 10, 115, 101, 116, 32, 114, 51, 32]⟩ : ByteArray) ++ ⟨(Lib.itoa (n : Int)).toArray⟩) ++ ⟨#[10, 115, 101, 116, 32, 114, 52, 32, 49, 10, 106, 109, 112, 32, 54, 10, 101, 110, 100, 32, 114, 50, 10, 105, 110, 32, 114, 53, 32, 114, 49, 10, 97, 100, 100, 32, 114, 50, 32, 114, 53, 10, 97, 100, 100, 32, 114, 49, 32, 114, 52, 10, 106, 109, 112, 32, 52]⟩ = PB at *
      have HPB := hide hPB
      have HRB := hide hRB
      clear hPB hRB
      have hgw := HB5.out.size
      refine (HPB.out w6 (HG.out.below HB6.out hg8) (HP.out.mono (HB6.out.block _ (by omega)))).mono ?_
      rintro e w7 ⟨rfl, hb7⟩
      have HB7 := hide (HB6.out.trans (hb7.mono HB6.out.size))
      have HS7 := hide ((hb7.block _ (blk_lt HS6.out)).trans HS6.out)
      have hs7 := hb7.size
      clear hb7 HB6 HS6
      go_wp2_with fail
      refine (pick_any guard 2000 w7 g0 g1 (by omega) (by omega)).mono ?_
      rintro e w' ⟨rfl, hw7⟩
      obtain rfl := hw7.symm
      rw [show pickF guard 2000 = (q : Int) from HPQ.out]
      have hqI : (q : Int) < 2000 := by omega
      go_wp2_with fail
      refine (HRB.out w7 (HG.out.below HB7.out hg8) (HP.out.mono (HB7.out.block _ (by omega)))).mono ?_
      rintro e w8 ⟨⟨SC2, rfl, hz8, ho8, d0, d1, d2, d7⟩, hb8⟩
      have HB8 := hide (HB7.out.trans (hb8.mono HB7.out.size))
      have HS8 := hide ((hb8.block _ (blk_lt HS7.out)).trans HS7.out)
      have HZ8 := hide hz8
      have HD0 := hide d0
      have HD1 := hide d1
      have HD2 := hide d2
      have HD7 := hide d7
      clear hb8 HB7 HS7 hz8 d0 d1 d2 d7
      go_wp2_with (refine wpList_storeRow rfl (.tmp 13) (.tmp 103) rfl w4.heap.size SC2 SC _ rfl rfl HS8.out HZ8.out HZ4.out ho8 ?_)
      intro w9 hS9 hk9 hs9
      have f0 : w9.cell? ⟨w4.heap.size, 0, none⟩ = some (.int .i64 2) := (cell_of_blk hS9 0).trans HD0.out
      have f1 : w9.cell? ⟨w4.heap.size, 1, none⟩ = some (.int .i64 6) := (cell_of_blk hS9 1).trans HD1.out
      have f2 : w9.cell? ⟨w4.heap.size, 2, none⟩ = some (.int .i64 3) := (cell_of_blk hS9 2).trans HD2.out
      have f7 : w9.cell? ⟨w4.heap.size, 7, none⟩ = some (.int .i64 64) := (cell_of_blk hS9 7).trans HD7.out
      have HB9 : Hid (Below w.heap.size w w9) := hide (HB8.out.trans ((hk9 w.heap.size).below (by omega)))
      clear hS9 hk9 hs9
      go_wp2
      go_ret
      exact ⟨rfl, HB9.out⟩

end Go.Proofs.YtngopilbpiplhaaGreatDoor
