/-
  A run, plain: the machine and what was put out behind some lines; that all numbers stay of 64 bits.
-/
import Derived.Test.YtngopilbpiplhaaGreatDoorStep
namespace Go.Proofs.YtngopilbpiplhaaGreatDoor
open Go.RowKit

/-- A run with so much fuel. -/
def runF (xs : List Ln) : Nat → MS × List UInt8 → MS × List UInt8
  | 0, st => st
  | k + 1, (m, l) =>
    match xs[m.line.toNat]? with
    | none => (m, l)
    | some x =>
      if (stepF x.word.toNat x.r.toNat x.s.toNat x.n m l).1.how ≠ 0 then stepF x.word.toNat x.r.toNat x.s.toNat x.n m l
      else runF xs k ({ (stepF x.word.toNat x.r.toNat x.s.toNat x.n m l).1 with line := (stepF x.word.toNat x.r.toNat x.s.toNat x.n m l).1.next }, (stepF x.word.toNat x.r.toNat x.s.toNat x.n m l).2)

/-- A line that is line k of a program of L lines. -/
structure LineOk (L k : Nat) (x : Ln) : Prop where
  word : ∃ row : Nat, row < 17 ∧ x.word = (row : Int)
  r : ∃ r : Nat, r < 8 ∧ x.r = (r : Int)
  s : ∃ s : Nat, s < 8 ∧ x.s = (s : Int)
  low : -9223372036854775808 ≤ x.n
  high : x.n ≤ 9223372036854775807
  falls : wFalls x.word.toNat = true → k + 1 < L
  jumps : 13 ≤ x.word.toNat → x.word.toNat ≤ 15 → 0 ≤ x.n ∧ x.n < (L : Int)

theorem wrap64_range (x : Int) : -9223372036854775808 ≤ wrap64 x ∧ wrap64 x ≤ 9223372036854775807 := by unfold wrap64; omega
theorem bits_range (a b : Int) : -9223372036854775808 ≤ bits BinOp.and IntKind.i64 a b ∧ bits BinOp.and IntKind.i64 a b ≤ 9223372036854775807 := by
  unfold bits
  simp only [IntKind.wrap_i64]
  omega

theorem okm_setR {m : MS} (h : Okm m) (r : Nat) {n : Int} (h0 : -9223372036854775808 ≤ n) (h1 : n ≤ 9223372036854775807) : Okm (m.setR r n) :=
  ⟨fun k => by simp only [MS.setR]; split; exact ⟨h0, h1⟩; exact h.num k, h.cells, h.kept, h.input⟩
theorem okm_setC {m : MS} (h : Okm m) (r : Nat) {n : Int} (h0 : -9223372036854775808 ≤ n) (h1 : n ≤ 9223372036854775807) : Okm (m.setC r n) :=
  ⟨h.num, fun k => by simp only [MS.setC]; split; exact ⟨h0, h1⟩; exact h.cells k, h.kept, h.input⟩
theorem okm_setK {m : MS} (h : Okm m) (r : Nat) {n : Int} (h0 : -9223372036854775808 ≤ n) (h1 : n ≤ 9223372036854775807) : Okm (m.setK r n) :=
  ⟨h.num, h.cells, fun k => by simp only [MS.setK]; split; exact ⟨h0, h1⟩; exact h.kept k, h.input⟩
theorem okm_same {m m' : MS} (h : Okm m) (e : m'.num = m.num ∧ m'.cells = m.cells ∧ m'.kept = m.kept ∧ m'.input = m.input) : Okm m' :=
  ⟨by rw [e.1]; exact h.num, by rw [e.2.1]; exact h.cells, by rw [e.2.2.1]; exact h.kept, by rw [e.2.2.2]; exact h.input⟩

theorem okm_doF (row r s : Nat) (n : Int) (m : MS) (l : List UInt8) (h : Okm m) (h0 : -9223372036854775808 ≤ n) (h1 : n ≤ 9223372036854775807) : Okm (doF row r s n m l).2.1 := by
  unfold doF
  split
  · exact okm_setR h _ h0 h1
  · exact okm_setR h _ (h.num s).1 (h.num s).2
  · exact okm_setR h _ (wrap64_range _).1 (wrap64_range _).2
  · exact okm_setR h _ (wrap64_range _).1 (wrap64_range _).2
  · exact okm_setR h _ (wrap64_range _).1 (wrap64_range _).2
  · exact okm_setR h _ (bits_range _ _).1 (bits_range _ _).2
  · split
    · exact h
    · exact okm_setR h _ (wrap64_range _).1 (wrap64_range _).2
  · split
    · have := h.input (m.num s).toNat
      exact okm_setR h _ (by omega) (by omega)
    · exact h
  · split
    · exact okm_setR h _ (h.cells _).1 (h.cells _).2
    · exact h
  · split
    · exact okm_setC h _ (h.num _).1 (h.num _).2
    · exact h
  · split
    · exact okm_setR h _ (h.kept _).1 (h.kept _).2
    · exact h
  · split
    · exact okm_setK h _ (h.num _).1 (h.num _).2
    · exact h
  · exact h
  · exact okm_same h ⟨rfl, rfl, rfl, rfl⟩
  · dsimp only; split
    · exact okm_same h ⟨rfl, rfl, rfl, rfl⟩
    · exact h
  · dsimp only; split
    · exact okm_same h ⟨rfl, rfl, rfl, rfl⟩
    · exact h
  · exact okm_same h ⟨rfl, rfl, rfl, rfl⟩
  · exact h

theorem okm_stepF (row r s : Nat) (n : Int) (m : MS) (l : List UInt8) (h : Okm m) (h0 : -9223372036854775808 ≤ n) (h1 : n ≤ 9223372036854775807) : Okm (stepF row r s n m l).1 := by
  have hm1 : Okm { m with next := m.line + 1 } := okm_same h ⟨rfl, rfl, rfl, rfl⟩
  have hd := okm_doF row r s n { m with next := m.line + 1 } l hm1 h0 h1
  unfold stepF
  dsimp only
  split
  · exact okm_same h ⟨rfl, rfl, rfl, rfl⟩
  · split
    · exact hd
    · exact okm_same hd ⟨rfl, rfl, rfl, rfl⟩

/-- A number's text is short. -/
theorem itoa_len (n : Int) (h0 : -9223372036854775808 ≤ n) (h1 : n ≤ 9223372036854775807) : (Lib.itoa n).length ≤ 20 := by
  rcases Int.lt_trichotomy n 0 with h | h | h
  · obtain ⟨u, rfl⟩ : ∃ u : Nat, n = -(u : Int) := ⟨n.natAbs, by omega⟩
    rw [itoa_neg u (by omega)]
    have := dd_len20 u (by omega)
    simp; omega
  · subst h; decide +kernel
  · obtain ⟨u, rfl⟩ : ∃ u : Nat, n = (u : Int) := ⟨n.natAbs, by omega⟩
    rw [itoa_pos u (by omega)]
    have := dd_len20 u (by omega)
    omega
theorem putF_len (l : List UInt8) (n : Int) (h0 : -9223372036854775808 ≤ n) (h1 : n ≤ 9223372036854775807) : (putF l n).length ≤ l.length + 21 := by
  have := itoa_len n h0 h1
  unfold putF
  split
  · omega
  · simp; omega
theorem doF_len (row r s : Nat) (n : Int) (m : MS) (l : List UInt8) (h : Okm m) : (doF row r s n m l).2.2.length ≤ l.length + 21 := by
  have := putF_len l (m.num r) (h.num r).1 (h.num r).2
  unfold doF
  split <;> (try split) <;> first | omega | (simp only; omega)
theorem stepF_len (row r s : Nat) (n : Int) (m : MS) (l : List UInt8) (h : Okm m) : (stepF row r s n m l).2.length ≤ l.length + 21 := by
  have hm1 : Okm { m with next := m.line + 1 } := okm_same h ⟨rfl, rfl, rfl, rfl⟩
  have hd := doF_len row r s n { m with next := m.line + 1 } l hm1
  unfold stepF
  dsimp only
  split
  · exact Nat.le_add_right _ _
  · split
    · exact hd
    · exact hd

/-- The machine's slice does not matter. -/
theorem doF_out (row r s : Nat) (n : Int) (m : MS) (l : List UInt8) (v : Value) : doF row r s n { m with out := v } l = ((doF row r s n m l).1, { (doF row r s n m l).2.1 with out := v }, (doF row r s n m l).2.2) := by
  unfold doF
  split <;> dsimp only [MS.setR, MS.setC, MS.setK] <;> (try (split <;> rfl))
theorem stepF_out (row r s : Nat) (n : Int) (m : MS) (l : List UInt8) (v : Value) : stepF row r s n { m with out := v } l = ({ (stepF row r s n m l).1 with out := v }, (stepF row r s n m l).2) := by
  have hd := doF_out row r s n { m with next := m.line + 1 } l v
  unfold stepF
  dsimp only at hd ⊢
  have hu : unsetF row r s { m with out := v, next := m.line + 1 } = unsetF row r s { m with next := m.line + 1 } := rfl
  rw [hu, hd]
  split
  · rfl
  · dsimp only
    split
    · rfl
    · rfl

/-- Where a run goes on: the next line is one of the program's. -/
theorem doF_next (row r s : Nat) (n : Int) (m : MS) (l : List UInt8) (hrow : row < 17) : (doF row r s n m l).2.1.how = (if row = 16 then 1 else m.how) ∧ ((doF row r s n m l).2.1.next = m.next ∧ row ≠ 13 ∨ 13 ≤ row ∧ row ≤ 15 ∧ (doF row r s n m l).2.1.next = n) := by
  match row, hrow with
  | 0, _ => simp [doF, MS.setR]
  | 1, _ => simp [doF, MS.setR]
  | 2, _ => simp [doF, MS.setR]
  | 3, _ => simp [doF, MS.setR]
  | 4, _ => simp [doF, MS.setR]
  | 5, _ => simp [doF, MS.setR]
  | 6, _ => simp only [doF]; split <;> simp [MS.setR]
  | 7, _ => simp only [doF]; split <;> simp [MS.setR]
  | 8, _ => simp only [doF]; split <;> simp [MS.setR]
  | 9, _ => simp only [doF]; split <;> simp [MS.setC]
  | 10, _ => simp only [doF]; split <;> simp [MS.setR]
  | 11, _ => simp only [doF]; split <;> simp [MS.setK]
  | 12, _ => simp [doF]
  | 13, _ => simp [doF]
  | 14, _ => simp only [doF]; split <;> simp
  | 15, _ => simp only [doF]; split <;> simp
  | 16, _ => simp [doF]
  | k + 17, h => exact absurd h (by omega)

theorem falls_of (row : Nat) (h : row < 17) (h1 : row ≠ 13) (h2 : row ≠ 16) : wFalls row = true := by
  match row, h with
  | 0, _ => first | rfl | exact absurd rfl h1 | exact absurd rfl h2
  | 1, _ => first | rfl | exact absurd rfl h1 | exact absurd rfl h2
  | 2, _ => first | rfl | exact absurd rfl h1 | exact absurd rfl h2
  | 3, _ => first | rfl | exact absurd rfl h1 | exact absurd rfl h2
  | 4, _ => first | rfl | exact absurd rfl h1 | exact absurd rfl h2
  | 5, _ => first | rfl | exact absurd rfl h1 | exact absurd rfl h2
  | 6, _ => first | rfl | exact absurd rfl h1 | exact absurd rfl h2
  | 7, _ => first | rfl | exact absurd rfl h1 | exact absurd rfl h2
  | 8, _ => first | rfl | exact absurd rfl h1 | exact absurd rfl h2
  | 9, _ => first | rfl | exact absurd rfl h1 | exact absurd rfl h2
  | 10, _ => first | rfl | exact absurd rfl h1 | exact absurd rfl h2
  | 11, _ => first | rfl | exact absurd rfl h1 | exact absurd rfl h2
  | 12, _ => first | rfl | exact absurd rfl h1 | exact absurd rfl h2
  | 13, _ => first | rfl | exact absurd rfl h1 | exact absurd rfl h2
  | 14, _ => first | rfl | exact absurd rfl h1 | exact absurd rfl h2
  | 15, _ => first | rfl | exact absurd rfl h1 | exact absurd rfl h2
  | 16, _ => first | rfl | exact absurd rfl h1 | exact absurd rfl h2
  | k + 17, h => exact absurd h (by omega)
theorem stepF_next (L k : Nat) (x : Ln) (m : MS) (l : List UInt8) (hx : LineOk L k x) (hk : k < L) (hm : m.line = (k : Int)) (hg : (stepF x.word.toNat x.r.toNat x.s.toNat x.n m l).1.how = 0) :
    ∃ k' : Nat, k' < L ∧ (stepF x.word.toNat x.r.toNat x.s.toNat x.n m l).1.next = (k' : Int) := by
  obtain ⟨row, hrow, hw⟩ := hx.word
  have hwn : x.word.toNat = row := by omega
  have hf := hx.falls
  have hj := hx.jumps
  rw [hwn] at hg hf hj ⊢
  have hn := doF_next row x.r.toNat x.s.toNat x.n { m with next := m.line + 1 } l hrow
  unfold stepF at hg ⊢
  dsimp only at hg hn ⊢
  split at hg
  · cases hg
  · rename_i hu
    rw [if_neg hu]
    split at hg
    · rename_i h0
      rw [if_pos h0]
      rw [hg] at hn
      obtain ⟨h1, h2⟩ := hn
      have hr16 : row ≠ 16 := by intro e; rw [if_pos e] at h1; cases h1
      rcases h2 with ⟨h2, h13⟩ | ⟨ha, hb, h2⟩
      · refine ⟨k + 1, hf (falls_of row hrow h13 hr16), ?_⟩
        rw [h2, hm]; rfl
      · obtain ⟨hj0, hj1⟩ := hj ha hb
        exact ⟨x.n.toNat, by omega, by rw [h2]; omega⟩
    · cases hg

end Go.Proofs.YtngopilbpiplhaaGreatDoor
