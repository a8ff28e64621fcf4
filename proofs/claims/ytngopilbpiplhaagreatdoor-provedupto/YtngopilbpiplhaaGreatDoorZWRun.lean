/-
  The contract of ward.Run at a program and a fuel that may be: the state of the plain run.
  Plain: the lines that Straight writes, read as lines; and what a run of them comes to, line by line.
  Plain: what is so while Straight writes its lines: they are lines of a program, and a run of them has these registers and cells.
  What the lines that wardkeep.Straight writes do, one by one.
  The contract of search.count.
-/
import Derived.Test.YtngopilbpiplhaaGreatDoorZClB
import Derived.Test.YtngopilbpiplhaaGreatDoorZClS
import Derived.Test.YtngopilbpiplhaaGreatDoorZBase
import Derived.Laws.EntriesVeiled
import Derived.Test.YtngopilbpiplhaaGreatDoorZClT
import Derived.Test.YtngopilbpiplhaaGreatDoorZState
import Derived.Defers
namespace Go.Proofs.YtngopilbpiplhaaGreatDoor
open Go.RowKit
theorem Good.not_bad {l : List UInt8} (h : Good l) {c p : Int} : ¬ Bad l c p := by
  rintro (⟨h1, _⟩ | ⟨_, i, hi, _, _, h2, _⟩ | ⟨_, _, i, hi, _, _, h2, _⟩ | ⟨_, _, _, _, _, x, hx, h2⟩)
  · rw [h.short] at h1; cases h1
  · have := h.lines _ (List.getElem_mem hi); rw [h2] at this; cases this
  · have := h.jumps _ (List.getElem_mem hi); rw [this] at h2; cases h2
  · rw [h.last x hx] at h2; cases h2
end Go.Proofs.YtngopilbpiplhaaGreatDoor

namespace Go.Proofs.YtngopilbpiplhaaGreatDoor
open Go.RowKit
/-- What a word's row must be for a text of it to be read. -/
structure WordOk (row : Nat) (ps : List UInt8) : Prop where
  find : findF (wName row) = some row
  parts : wParts row = ps
  blank : 32 ∉ wName row
theorem w0 : WordOk 0 [82, 110] := ⟨by decide +kernel, rfl, by decide +kernel⟩
theorem w1 : WordOk 1 [82, 83] := ⟨by decide +kernel, rfl, by decide +kernel⟩
theorem w2 : WordOk 2 [82, 83] := ⟨by decide +kernel, rfl, by decide +kernel⟩
theorem w3 : WordOk 3 [82, 83] := ⟨by decide +kernel, rfl, by decide +kernel⟩
theorem w4 : WordOk 4 [82, 83] := ⟨by decide +kernel, rfl, by decide +kernel⟩
theorem w5 : WordOk 5 [82, 83] := ⟨by decide +kernel, rfl, by decide +kernel⟩
theorem w6 : WordOk 6 [82, 83] := ⟨by decide +kernel, rfl, by decide +kernel⟩
theorem w7 : WordOk 7 [82, 83] := ⟨by decide +kernel, rfl, by decide +kernel⟩
theorem w8 : WordOk 8 [82, 83] := ⟨by decide +kernel, rfl, by decide +kernel⟩
theorem w9 : WordOk 9 [82, 83] := ⟨by decide +kernel, rfl, by decide +kernel⟩
end Go.Proofs.YtngopilbpiplhaaGreatDoor

namespace Go.Proofs.YtngopilbpiplhaaGreatDoor
open Go.RowKit
def upd (n : Nat → Int) (r : Nat) (v : Int) : Nat → Int := fun k => if k = r then v else n k
end Go.Proofs.YtngopilbpiplhaaGreatDoor

namespace Go.Proofs.YtngopilbpiplhaaGreatDoor
open Go.RowKit
/-- The cells of an array of numbers. -/
def arrC (k : Nat) (n : Nat → Int) : Array Value := ((List.range k).map fun i => Value.int .i64 (n i)).toArray
theorem arrC_get (k : Nat) (n : Nat → Int) {i : Nat} (h : i < k) : (arrC k n)[i]? = some (.int .i64 (n i)) := by simp [arrC, h]
theorem arrC_set (k : Nat) (n : Nat → Int) (i : Nat) (v : Int) : (arrC k n).setIfInBounds i (.int .i64 v) = arrC k (upd n i v) := by
  apply Array.ext_getElem?
  intro j
  rw [Array.getElem?_setIfInBounds]
  by_cases h1 : j < k
  · rw [arrC_get k n h1, arrC_get k _ h1]
    by_cases h2 : i = j
    · subst h2; simp [arrC, h1, upd]
    · rw [if_neg h2]; simp only [upd]; rw [if_neg (fun e => h2 e.symm)]
  · have a1 : (arrC k n)[j]? = none := Array.getElem?_eq_none (by simp [arrC]; omega)
    have a2 : (arrC k (upd n i v))[j]? = none := Array.getElem?_eq_none (by simp [arrC]; omega)
    rw [a1, a2]
    by_cases h2 : i = j
    · subst h2; simp [arrC]; omega
    · rw [if_neg h2]
end Go.Proofs.YtngopilbpiplhaaGreatDoor

namespace Go.Proofs.YtngopilbpiplhaaGreatDoor
open Go.RowKit
/-- How often each claim was changed, the lines below k counted. -/
def cntF (bs : List Bool) (ch : Nat → Int) (k : Nat) : Nat → Int := fun j => if j < k ∧ bs.getD j false = true then ch j + 1 else ch j
theorem cntF_yes (bs : List Bool) (ch : Nat → Int) (k : Nat) (h : bs.getD k false = true) : cntF bs ch (k + 1) = upd (cntF bs ch k) k (ch k + 1) := by
  funext j
  unfold cntF upd
  by_cases e : j = k
  · subst e; simp only [Nat.lt_succ_self, h, and_self, if_true]
  · by_cases q : j < k
    · simp only [e, if_false, q, show j < k + 1 by omega, true_and]
    · simp only [e, if_false, q, show ¬ j < k + 1 by omega, false_and]
theorem cntF_no (bs : List Bool) (ch : Nat → Int) (k : Nat) (h : bs.getD k false = false) : cntF bs ch (k + 1) = cntF bs ch k := by
  funext j
  unfold cntF
  by_cases e : j = k
  · subst e; simp only [h, Bool.false_eq_true, and_false, if_false]
  · by_cases q : j < k
    · simp only [q, show j < k + 1 by omega, true_and]
    · simp only [q, show ¬ j < k + 1 by omega, false_and]
set_option maxRecDepth 100000 in
set_option maxHeartbeats 2000000 in
theorem count_any (bs : List Bool) (ch : Nat → Int) (sb cb hb n' cap : Nat) (w : World) (hl : bs.length ≤ 1000) (hch : ∀ j, 0 ≤ ch j ∧ ch j ≤ 1000000) (hne1 : sb ≠ hb) (hne2 : cb ≠ hb)
    (h3 : w.cell? ⟨sb, 3, none⟩ = some (.slice (some ⟨hb, 0, none⟩) bs.length n')) (hB : w.heap[hb]? = some (.cells (arrC bs.length ch) 3)) (hc : ∀ j, j < bs.length → w.cell? ⟨cb, j, none⟩ = some (.bool (bs.getD j false))) :
    Calls Tryz.prog 176 #[.pointer (some ⟨sb, 0, none⟩), .slice (some ⟨cb, 0, none⟩) bs.length cap] w fun e w' => e = .returned (.tuple #[]) ∧ w'.heap[hb]? = some (.cells (arrC bs.length (cntF bs ch bs.length)) 3) ∧ (∀ B, Keep B hb w w') := by
  have HC := hide hc
  have HB := hide hB
  have H3 := hide h3
  have HCH := hide hch
  clear hc hB h3 hch
  go_enter Tryz.func176, Tryz.ntmps176
  go_wp2_with fail
  go_loopw [8] (fun iv w' => ∃ k : Nat, k ≤ bs.length ∧ iv = .int .i64 k ∧ w'.heap[hb]? = some (.cells (arrC bs.length (cntF bs ch k)) 3) ∧ (∀ B, Keep B hb w w')) (fun iv _ => bs.length - (intOf iv).toNat)
  case atStart => exact ⟨0, by omega, rfl, by rw [show cntF bs ch 0 = ch from by funext j; simp [cntF]]; exact HB.out, fun B => Keep.refl B hb w⟩
  case round =>
    obtain ⟨k, hk, rfl, hBk, hkeep⟩ := hrel
    have HBk := hide hBk
    have HK := hide hkeep
    clear hBk hkeep
    by_cases hlt : k < bs.length
    · have hltI : (k : Int) < (bs.length : Int) := by omega
      have hcb : wr.cell? ⟨cb, k, none⟩ = some (.bool (bs.getD k false)) := ((HK.out (cb + 1)).cell (p := ⟨cb, k, none⟩) (by show cb < cb + 1; omega) (by show cb ≠ hb; omega)).trans (HC.out k hlt)
      have hsb : wr.cell? ⟨sb, 3, none⟩ = some (.slice (some ⟨hb, 0, none⟩) bs.length n') := ((HK.out (sb + 1)).cell (p := ⟨sb, 3, none⟩) (by show sb < sb + 1; omega) (by show sb ≠ hb; omega)).trans H3.out
      cases hb2 : bs.getD k false with
      | true =>
        rw [hb2] at hcb
        have hch0 := HCH.out k
        have hck : cntF bs ch k k = ch k := by simp [cntF]
        have hcell : wr.cell? ⟨hb, k, none⟩ = some (.int .i64 (ch k)) := by rw [cell_of_blk HBk.out k, arrC_get _ _ hlt, hck]
        have hfr := frozen_of_blk HBk.out
        have HY := hide (cntF_yes bs ch k hb2)
        clear hb2 hck
        go_wp2
        go_roundw
        case rel =>
          refine ⟨k + 1, by omega, by go_num, ?_, fun B => (HK.out B).setCell (p := ⟨hb, k, none⟩) (.inr rfl) _⟩
          rw [HY.out, ← arrC_set]
          exact blk_setCell HBk.out k _
        case measure => simp [intOf]; omega
      | false =>
        rw [hb2] at hcb
        have HY := hide (cntF_no bs ch k hb2)
        clear hb2
        go_wp2
        go_roundw
        case rel => exact ⟨k + 1, by omega, by go_num, by rw [HY.out]; exact HBk.out, HK.out⟩
        case measure => simp [intOf]; omega
    · obtain rfl : k = bs.length := by omega
      go_wp2
      go_end0
      exact ⟨rfl, HBk.out, HK.out⟩
end Go.Proofs.YtngopilbpiplhaaGreatDoor
