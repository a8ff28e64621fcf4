/-
  The contract of words.Rows: the table of words in new memory.
-/
import Derived.Test.YtbkbfjfghklddaaGreatDoorMakers
import Derived.Test.YtbkbfjfghklddaaGreatDoorTabDef
namespace Go.Proofs.YtbkbfjfghklddaaGreatDoor
open Go.RowKit

set_option maxRecDepth 1000000 in
set_option maxHeartbeats 4000000 in
theorem Rows_world (w : World) :
    Calls Tryz.prog 14 #[] w fun e w' => e = .returned (.slice (some ⟨w.heap.size + 55, 0, none⟩) 17 17) ∧ w' = allocs w (tblocks w.heap.size) := by
  go_enter Tryz.func14, Tryz.ntmps14
  go_wp2_with (first
    | (go_at_call 23; refine (become_any _ _ _ _).mono ?_; rintro e w' ⟨rfl, rfl⟩)
    | (go_at_call 34; refine (reckon_any _ _ _ _).mono ?_; rintro e w' ⟨rfl, rfl⟩)
    | (go_at_call 59; refine (hand_any _ _ _ _).mono ?_; rintro e w' ⟨rfl, rfl⟩)
    | (go_at_call 62; refine (jump_any _ _ _ _).mono ?_; rintro e w' ⟨rfl, rfl⟩)
    | (go_at_call 26; refine (sets_any _ _ _ _).mono ?_; rintro e w' ⟨rfl, rfl⟩)
    | (go_at_call 25; refine (nothing_any _).mono ?_; rintro e w' ⟨rfl, rfl⟩)
    | (go_at_call 45; refine (divisor_any _).mono ?_; rintro e w' ⟨rfl, rfl⟩)
    | (go_at_call 29; refine (nowhere_any _).mono ?_; rintro e w' ⟨rfl, rfl⟩)
    | (go_at_call 56; refine (same_any _).mono ?_; rintro e w' ⟨rfl, rfl⟩)
    | (go_at_call 55; refine (placeR_any _ _).mono ?_; rintro e w' ⟨rfl, rfl⟩)
    | (go_at_call 49; refine (placeS_any _ _).mono ?_; rintro e w' ⟨rfl, rfl⟩)
    | (go_at_call 47; refine (fetch_any _ _ _ _ _).mono ?_; rintro e w' ⟨rfl, rfl⟩)
    | (go_at_call 53; refine (store_any _ _ _ _ _).mono ?_; rintro e w' ⟨rfl, rfl⟩)
    | (go_at_call 65; refine (turn_any _ _ _ _ _ _ _).mono ?_; rintro e w' ⟨rfl, rfl⟩)
    | (go_at_call 36; refine (reckons_any _ _ _ _).mono ?_; rintro e w' ⟨rfl, rfl⟩)
    | (go_at_call 50; refine (fetches_any _ _ _).mono ?_; rintro e w' ⟨rfl, rfl⟩)
    | (go_at_call 52; refine (All_any _).mono ?_; rintro e w' ⟨rfl, rfl⟩))
  simp only [Nat.add_assoc, Nat.reduceAdd]
  go_ret
  exact ⟨rfl, rfl⟩

theorem Rows_any (w : World) :
    Calls Tryz.prog 14 #[] w fun e w' => e = .returned (.slice (some ⟨w.heap.size + 55, 0, none⟩) 17 17) ∧ Table w.heap.size w' ∧ w'.heap.size = w.heap.size + 56 ∧ Below w.heap.size w w' := by
  refine (Rows_world w).mono ?_
  rintro e w' ⟨rfl, rfl⟩
  refine ⟨rfl, fun k hk => allocs_get _ _ _ hk, allocs_size _ _, allocs_below _ _⟩

end Go.Proofs.YtbkbfjfghklddaaGreatDoor
