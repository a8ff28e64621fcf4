/-
  The plain mathematics of reading: numbers, registers and lines of a program as lists of bytes. Nothing of the program is used here.
-/
import Derived.Lib.ParseIntB
import Derived.Lib.Strings
import Derived.Lib.Bytealg
import Derived.Lib.ItoaNum
namespace Go.Proofs.YtngopilbpiplhaaGreatDoor

/-- A register's text: its number. -/
def regF (l : List UInt8) : Option Nat :=
  match l with
  | [a, b] => if a.toNat = 114 ∧ 48 ≤ b.toNat ∧ b.toNat < 56 then some (b.toNat - 48) else none
  | _ => none

/-- Are all of these digits? -/
def allDig (l : List UInt8) : Bool := l.all fun c => 48 ≤ c.toNat && c.toNat ≤ 57

def numOf : Lib.NumEnd Int → Option Int
  | .ok v => some v
  | _ => none
theorem allDig_snoc (l : List UInt8) (k : Nat) (h : k < l.length) : allDig (l.take (k + 1)) = (allDig (l.take k) && (48 ≤ l[k].toNat && l[k].toNat ≤ 57)) := by
  unfold allDig
  rw [List.take_succ_eq_append_getElem h, List.all_append]
  simp only [List.all_cons, List.all_nil, Bool.and_true]
theorem allDig_bad (l : List UInt8) (k : Nat) (h : k < l.length) (hb : ¬ (48 ≤ l[k].toNat ∧ l[k].toNat ≤ 57)) : allDig l = false := by
  rw [Bool.eq_false_iff]
  intro ha
  have := List.all_eq_true.1 ha l[k] (List.getElem_mem h)
  simp at this
  exact hb this

/-- A number's text: its number. -/
def numF (l : List UInt8) : Option Int :=
  let d := Lib.trimPrefix l [45]
  if d = [] ∨ (l ≠ [48] ∧ d.head? = some 48) then none
  else if allDig d then numOf (Lib.parseIntB 64 l) else none

/-- A line of a program: its word's row, R, S, and n or L. -/
structure Ln where
  word : Int
  r : Int
  s : Int
  n : Int

/-- One part of a line, by its kind (R, S, n, L). -/
def partF (x : Ln) (c : UInt8) (t : List UInt8) : Option Ln :=
  if c = 82 then (regF t).map fun (r : Nat) => { x with r := (r : Int) }
  else if c = 83 then (regF t).map fun (r : Nat) => { x with s := (r : Int) }
  else if c = 110 then (numF t).bind fun v => if -1000000000 ≤ v ∧ v ≤ 1000000000 then some { x with n := v } else none
  else if c = 76 then (numF t).bind fun v => if 0 ≤ v then some { x with n := v } else none
  else none

end Go.Proofs.YtngopilbpiplhaaGreatDoor
