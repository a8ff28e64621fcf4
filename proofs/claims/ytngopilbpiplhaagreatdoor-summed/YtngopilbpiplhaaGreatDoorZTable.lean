/-
  The contract of words.Rows: the table of words in new memory.
-/
import Derived.Test.YtngopilbpiplhaaGreatDoorZBase
namespace Go.Proofs.YtngopilbpiplhaaGreatDoor
open Go.RowKit

set_option maxRecDepth 1000000 in
set_option maxHeartbeats 4000000 in
theorem Rows_world (w : World) :
    Calls Tryz.prog 31 #[] w fun e w' => e = .returned (.slice (some ⟨w.heap.size + 55, 0, none⟩) 17 17) ∧ w' = allocs w (tblocks w.heap.size) := by
  go_enter Tryz.func31, Tryz.ntmps31
  go_wp2_with (first
    | (go_at_call 52; refine (become_any _ _ _ _).mono ?_; rintro e w' ⟨rfl, rfl⟩)
    | (go_at_call 63; refine (reckon_any _ _ _ _).mono ?_; rintro e w' ⟨rfl, rfl⟩)
    | (go_at_call 88; refine (hand_any _ _ _ _).mono ?_; rintro e w' ⟨rfl, rfl⟩)
    | (go_at_call 91; refine (jump_any _ _ _ _).mono ?_; rintro e w' ⟨rfl, rfl⟩)
    | (go_at_call 55; refine (sets_any _ _ _ _).mono ?_; rintro e w' ⟨rfl, rfl⟩)
    | (go_at_call 54; refine (nothing_any _).mono ?_; rintro e w' ⟨rfl, rfl⟩)
    | (go_at_call 74; refine (divisor_any _).mono ?_; rintro e w' ⟨rfl, rfl⟩)
    | (go_at_call 58; refine (nowhere_any _).mono ?_; rintro e w' ⟨rfl, rfl⟩)
    | (go_at_call 85; refine (same_any _).mono ?_; rintro e w' ⟨rfl, rfl⟩)
    | (go_at_call 84; refine (placeR_any _ _).mono ?_; rintro e w' ⟨rfl, rfl⟩)
    | (go_at_call 78; refine (placeS_any _ _).mono ?_; rintro e w' ⟨rfl, rfl⟩)
    | (go_at_call 76; refine (fetch_any _ _ _ _ _).mono ?_; rintro e w' ⟨rfl, rfl⟩)
    | (go_at_call 82; refine (store_any _ _ _ _ _).mono ?_; rintro e w' ⟨rfl, rfl⟩)
    | (go_at_call 94; refine (turn_any _ _ _ _ _ _ _).mono ?_; rintro e w' ⟨rfl, rfl⟩)
    | (go_at_call 65; refine (reckons_any _ _ _ _).mono ?_; rintro e w' ⟨rfl, rfl⟩)
    | (go_at_call 79; refine (fetches_any _ _ _).mono ?_; rintro e w' ⟨rfl, rfl⟩)
    | (go_at_call 81; refine (All_any _).mono ?_; rintro e w' ⟨rfl, rfl⟩))
  simp only [Nat.add_assoc, Nat.reduceAdd]
  go_ret
  exact ⟨rfl, rfl⟩

theorem Rows_any (w : World) :
    Calls Tryz.prog 31 #[] w fun e w' => e = .returned (.slice (some ⟨w.heap.size + 55, 0, none⟩) 17 17) ∧ Table w.heap.size w' ∧ w'.heap.size = w.heap.size + 56 ∧ Below w.heap.size w w' := by
  refine (Rows_world w).mono ?_
  rintro e w' ⟨rfl, rfl⟩
  refine ⟨rfl, fun k hk => allocs_get _ _ _ hk, allocs_size _ _, allocs_below _ _⟩

end Go.Proofs.YtngopilbpiplhaaGreatDoor
