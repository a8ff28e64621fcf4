/-
  What the search comes to on the two programs of the loop: proven with its guard; without it line 6's needs are not met.
-/
import Derived.Test.YtngopilbpiplhaaGreatDoorZClP
namespace Go.Proofs.YtngopilbpiplhaaGreatDoor
open Go.RowKit

def progA (n : Int) : List Ln := [⟨0,1,0,0⟩, ⟨0,2,0,0⟩, ⟨0,3,0,n⟩, ⟨0,4,0,1⟩, ⟨14,1,3,6⟩, ⟨16,2,0,0⟩, ⟨7,5,1,0⟩, ⟨2,2,5,0⟩, ⟨2,1,4,0⟩, ⟨13,0,0,4⟩]
def progB (n : Int) : List Ln := [⟨0,1,0,0⟩, ⟨0,2,0,0⟩, ⟨0,3,0,n⟩, ⟨0,4,0,1⟩, ⟨13,0,0,6⟩, ⟨16,2,0,0⟩, ⟨7,5,1,0⟩, ⟨2,2,5,0⟩, ⟨2,1,4,0⟩, ⟨13,0,0,4⟩]
/-- Are all numbers of a claim ones of 64 bits? -/
def clOkB (c : Cl) : Bool := (List.range 8).all fun k => !c.has k || (decide (-9223372036854775808 ≤ c.lo k) && decide (c.lo k ≤ 9223372036854775807) && decide (-9223372036854775808 ≤ c.hi k) && decide (c.hi k ≤ 9223372036854775807))
def okA (n : Nat) : Bool := searchK (progA (n : Int)) (fun p => (unmetF (progA (n : Int)) p).isNone && p.all clOkB) 20 (start0 10).1 (start0 10).2
def okB (n : Nat) : Bool := searchK (progB (n : Int)) (fun p => unmetF (progB (n : Int)) p == some 6 && p.all clOkB) 20 (start0 10).1 (start0 10).2
set_option maxRecDepth 100000 in
theorem okA_all : ∀ n, n < 65 → okA n = true := by decide +kernel
set_option maxRecDepth 100000 in
theorem okB_all : ∀ n, n < 65 → okB n = true := by decide +kernel

end Go.Proofs.YtngopilbpiplhaaGreatDoor
