/-
  Plain: the lines that Straight writes, read as lines; and what a run of them comes to, line by line.
-/
import Derived.Test.YtngopilbpiplhaaGreatDoorTxt
import Derived.Test.YtngopilbpiplhaaGreatDoorRun
namespace Go.Proofs.YtngopilbpiplhaaGreatDoor
open Go.RowKit

/-- A register's text. -/
def reg (a : Nat) : List UInt8 := 114 :: Lib.itoa (a : Int)

theorem lt8 {p : Nat → Prop} (h0 : p 0) (h1 : p 1) (h2 : p 2) (h3 : p 3) (h4 : p 4) (h5 : p 5) (h6 : p 6) (h7 : p 7) (a : Nat) (h : a < 8) : p a := by
  match a, h with
  | 0, _ => exact h0
  | 1, _ => exact h1
  | 2, _ => exact h2
  | 3, _ => exact h3
  | 4, _ => exact h4
  | 5, _ => exact h5
  | 6, _ => exact h6
  | 7, _ => exact h7
  | n + 8, h => exact absurd h (by omega)
theorem regF_reg (a : Nat) (h : a < 8) : regF (reg a) = some a := lt8 (p := fun a => regF (reg a) = some a) (by decide +kernel) (by decide +kernel) (by decide +kernel) (by decide +kernel) (by decide +kernel) (by decide +kernel) (by decide +kernel) (by decide +kernel) a h
theorem reg_plain (a : Nat) (h : a < 8) : 32 ∉ reg a ∧ 10 ∉ reg a ∧ (reg a).length = 2 := lt8 (p := fun a => 32 ∉ reg a ∧ 10 ∉ reg a ∧ (reg a).length = 2) (by decide +kernel) (by decide +kernel) (by decide +kernel) (by decide +kernel) (by decide +kernel) (by decide +kernel) (by decide +kernel) (by decide +kernel) a h

theorem dd_mem (u : Nat) (c : UInt8) (h : c ∈ dd u) : 48 ≤ c.toNat := by
  by_cases e : u = 0
  · subst e; simp [dd] at h
  · obtain ⟨d, r, h1, _, _, h4⟩ := dd_head u (u + 1) (by omega) e
    rw [h1] at h
    have := List.all_eq_true.1 h4 c h
    simp at this
    exact this.1
theorem itoa_mem (n : Int) (c : UInt8) (h : c ∈ Lib.itoa n) : c ≠ 32 ∧ c ≠ 10 := by
  have key : 45 ≤ c.toNat := by
    rcases Int.lt_trichotomy n 0 with q | q | q
    · obtain ⟨u, rfl⟩ : ∃ u : Nat, n = -(u : Int) := ⟨n.natAbs, by omega⟩
      rw [itoa_neg u (by omega)] at h
      rcases List.mem_cons.1 h with h | h
      · rw [h]; decide
      · have := dd_mem u c h; omega
    · subst q
      have e : Lib.itoa 0 = [48] := by decide +kernel
      rw [e] at h
      have : c = 48 := by simpa using h
      rw [this]; decide
    · obtain ⟨u, rfl⟩ : ∃ u : Nat, n = (u : Int) := ⟨n.natAbs, by omega⟩
      rw [itoa_pos u (by omega)] at h
      have := dd_mem u c h; omega
  exact ⟨fun e => by rw [e] at key; exact absurd key (by decide), fun e => by rw [e] at key; exact absurd key (by decide)⟩

/-- What a word's row must be for a text of it to be read. -/
structure WordOk (row : Nat) (ps : List UInt8) : Prop where
  find : findF (wName row) = some row
  parts : wParts row = ps
  blank : 32 ∉ wName row

theorem lineF_RS {row : Nat} (hw : WordOk row [82, 83]) (a b : Nat) (ha : a < 8) (hb : b < 8) : lineF (wName row ++ 32 :: (reg a ++ 32 :: reg b)) = some ⟨row, a, b, 0⟩ := by
  unfold lineF
  rw [cutAt_hit _ _ _ hw.blank, cutAt_hit _ _ _ (reg_plain a ha).1, cutAt_miss _ _ (reg_plain b hb).1]
  simp [hw.find, hw.parts, partsF, partF, regF_reg a ha, regF_reg b hb]
theorem lineF_R {row : Nat} (hw : WordOk row [82]) (a : Nat) (ha : a < 8) : lineF (wName row ++ 32 :: reg a) = some ⟨row, a, 0, 0⟩ := by
  unfold lineF
  rw [cutAt_hit _ _ _ hw.blank, cutAt_miss _ _ (reg_plain a ha).1]
  simp [hw.find, hw.parts, partsF, partF, regF_reg a ha]
theorem lineF_Rn {row : Nat} (hw : WordOk row [82, 110]) (a : Nat) (n : Int) (ha : a < 8) (h0 : -1000000000 ≤ n) (h1 : n ≤ 1000000000) : lineF (wName row ++ 32 :: (reg a ++ 32 :: Lib.itoa n)) = some ⟨row, a, 0, n⟩ := by
  unfold lineF
  rw [cutAt_hit _ _ _ hw.blank, cutAt_hit _ _ _ (reg_plain a ha).1, cutAt_miss _ _ (fun h => (itoa_mem n _ h).1 rfl)]
  simp [hw.find, hw.parts, partsF, partF, regF_reg a ha, numF_itoa n (by omega) (by omega), h0, h1]
theorem lineF_RSL {row : Nat} (hw : WordOk row [82, 83, 76]) (a b L : Nat) (ha : a < 8) (hb : b < 8) (hL : L < 1000) : lineF (wName row ++ 32 :: (reg a ++ 32 :: (reg b ++ 32 :: Lib.itoa (L : Int)))) = some ⟨row, a, b, L⟩ := by
  unfold lineF
  rw [cutAt_hit _ _ _ hw.blank, cutAt_hit _ _ _ (reg_plain a ha).1, cutAt_hit _ _ _ (reg_plain b hb).1, cutAt_miss _ _ (fun h => (itoa_mem _ _ h).1 rfl)]
  simp [hw.find, hw.parts, partsF, partF, regF_reg a ha, regF_reg b hb, numF_itoa (L : Int) (by omega) (by omega)]

theorem w0 : WordOk 0 [82, 110] := ⟨by decide +kernel, rfl, by decide +kernel⟩
theorem w1 : WordOk 1 [82, 83] := ⟨by decide +kernel, rfl, by decide +kernel⟩
theorem w2 : WordOk 2 [82, 83] := ⟨by decide +kernel, rfl, by decide +kernel⟩
theorem w3 : WordOk 3 [82, 83] := ⟨by decide +kernel, rfl, by decide +kernel⟩
theorem w4 : WordOk 4 [82, 83] := ⟨by decide +kernel, rfl, by decide +kernel⟩
theorem w5 : WordOk 5 [82, 83] := ⟨by decide +kernel, rfl, by decide +kernel⟩
theorem w6 : WordOk 6 [82, 83] := ⟨by decide +kernel, rfl, by decide +kernel⟩
theorem w7 : WordOk 7 [82, 83] := ⟨by decide +kernel, rfl, by decide +kernel⟩
theorem w8 : WordOk 8 [82, 83] := ⟨by decide +kernel, rfl, by decide +kernel⟩
theorem w9 : WordOk 9 [82, 83] := ⟨by decide +kernel, rfl, by decide +kernel⟩
theorem w12 : WordOk 12 [82] := ⟨by decide +kernel, rfl, by decide +kernel⟩
theorem w15 : WordOk 15 [82, 83, 76] := ⟨by decide +kernel, rfl, by decide +kernel⟩
theorem w16 : WordOk 16 [82] := ⟨by decide +kernel, rfl, by decide +kernel⟩

/-- Lines one behind the other, each with a line feed behind it. -/
def joined (ts : List (List UInt8)) : List UInt8 := (ts.map fun t => t ++ [10]).flatten
theorem joined_snoc (ts : List (List UInt8)) (t : List UInt8) : joined (ts ++ [t]) = joined ts ++ t ++ [10] := by simp [joined]
theorem cutAt_joined (z : List UInt8) (hz : 10 ∉ z) : ∀ ts : List (List UInt8), (∀ t ∈ ts, 10 ∉ t) → cutAt 10 (joined ts ++ z) = ts ++ [z]
  | [], _ => by simp [joined, cutAt_miss 10 z hz]
  | t :: ts, h => by
    have e : joined (t :: ts) ++ z = t ++ 10 :: (joined ts ++ z) := by simp [joined]
    rw [e, cutAt_hit 10 t _ (h t (by simp)), cutAt_joined z hz ts (fun u hu => h u (by simp [hu]))]
    rfl

/-- Lines were run, and led from one state to the other, whatever stands behind them. -/
def Exec (xs : List Ln) (a b : MS × List UInt8) : Prop := ∀ (ys : List Ln) (f : Nat), runF (xs ++ ys) (xs.length + f) a = runF (xs ++ ys) f b
theorem Exec.snoc {xs : List Ln} {a : MS × List UInt8} {m m' : MS} {l l' : List UInt8} (h : Exec xs a (m, l)) (x : Ln) (hl : m.line = (xs.length : Int)) (hs : stepF x.word.toNat x.r.toNat x.s.toNat x.n m l = (m', l')) (hh : m'.how = 0) :
    Exec (xs ++ [x]) a ({ m' with line := m'.next }, l') := by
  intro ys f
  have e := h (x :: ys) (f + 1)
  rw [show xs ++ [x] ++ ys = xs ++ x :: ys by simp, show (xs ++ [x]).length + f = xs.length + (f + 1) by simp; omega, e]
  have hg : (xs ++ x :: ys)[m.line.toNat]? = some x := by rw [hl]; simp
  conv => lhs; unfold runF
  rw [hg]
  dsimp only
  rw [hs]
  dsimp only
  rw [if_neg (by simpa using hh)]

end Go.Proofs.YtngopilbpiplhaaGreatDoor
