/-
  The contracts of Same and NotSame.
-/
import Derived.Test.YtngopilbpiplhaaGreatDoorZClG
import Derived.Test.YtngopilbpiplhaaGreatDoorZClQ
namespace Go.Proofs.YtngopilbpiplhaaGreatDoor
open Go.RowKit
set_option linter.unusedVariables false
theorem run_eqlSp (a b c d : Int) (w : World) : (binOp .eql 132 (spC a b) (spC c d)).run Tryz.prog w = .ok (.bool (a == c && b == d)) w := by
  rw [run_eql_struct, eqSpan w 9998]
  rfl
set_option maxRecDepth 100000 in
set_option maxHeartbeats 2000000 in
theorem Same_any (a b c d : Int) (w : World) : Calls Tryz.prog 99 #[spC a b, spC c d] w fun e w' =>
    e = .returned (if min b d < max a c then .tuple #[spC 0 0, spC 0 0, .bool false] else .tuple #[spC (max a c) (min b d), spC (max a c) (min b d), .bool true]) ∧ Below w.heap.size w w' := by
  by_cases h : min b d < max a c
  · rw [if_pos h]
    go_enter Tryz.func99, Tryz.ntmps99
    go_wp2
    exact bodyPost_ret (results_ccb rfl _ _ (w.heap.size + 1 + 1) (w.heap.size + 1 + 1 + 1) _ _ rfl rfl (blk_alloc (blk_alloc (blk2 w _ _ _) _) _) (blk_alloc (blk3 w _ _ _ _) _) rfl rfl) rfl ⟨rfl, (((((Below.refl _ _).alloc (Nat.le_refl _) _).alloc (by simp) _).alloc (by simp; omega) _).alloc (by simp; omega) _).alloc (by simp; omega) _⟩
  · rw [if_neg h]
    go_enter Tryz.func99, Tryz.ntmps99
    go_wp2_with fail
    go_region
    all_goals go_wp2
    all_goals exact bodyPost_ret (results_ccb rfl _ _ (w.heap.size + 1 + 1) (w.heap.size + 1 + 1 + 1) _ _ rfl rfl (blk_alloc (blk_alloc (blk2 w _ _ _) _) _) (blk_alloc (blk3 w _ _ _ _) _) rfl rfl) rfl ⟨rfl, ((((((Below.refl _ _).alloc (Nat.le_refl _) _).alloc (by simp) _).alloc (by simp; omega) _).alloc (by simp; omega) _).alloc (by simp; omega) _).drew⟩
set_option maxRecDepth 100000 in
set_option maxHeartbeats 2000000 in
theorem NotSame_any (a b c d : Int) (w : World) : Calls Tryz.prog 98 #[spC a b, spC c d] w fun e w' =>
    e = .returned (if a = c ∧ b = d ∧ a = b then .tuple #[spC 0 0, spC 0 0, .bool false] else .tuple #[spC a b, spC c d, .bool true]) ∧ Below w.heap.size w w' := by
  have heq := run_eqlSp a b c d
  by_cases h : a = c ∧ b = d ∧ a = b
  · rw [if_pos h]
    obtain ⟨rfl, rfl, rfl⟩ := h
    go_enter Tryz.func98, Tryz.ntmps98
    go_wp2
    exact bodyPost_ret (results_ccb rfl _ _ (w.heap.size + 1 + 1) (w.heap.size + 1 + 1 + 1) _ _ rfl rfl (blk_alloc (blk2 w _ _ _) _) (blk3 w _ _ _ _) rfl rfl) rfl ⟨rfl, ((((Below.refl _ _).alloc (Nat.le_refl _) _).alloc (by simp) _).alloc (by simp; omega) _).alloc (by simp; omega) _⟩
  · rw [if_neg h]
    cases h2 : (a == c && b == d) with
    | false =>
      rw [h2] at heq
      go_enter Tryz.func98, Tryz.ntmps98
      go_wp2_with fail
      go_region
      all_goals go_wp2
      all_goals exact bodyPost_ret (results_ccb rfl _ _ (w.heap.size + 1 + 1) (w.heap.size + 1 + 1 + 1) _ _ rfl rfl (blk_alloc (blk2 w _ _ _) _) (blk3 w _ _ _ _) rfl rfl) rfl ⟨rfl, (((((Below.refl _ _).alloc (Nat.le_refl _) _).alloc (by simp) _).alloc (by simp; omega) _).alloc (by simp; omega) _).drew⟩
    | true =>
      rw [h2] at heq
      have h3 : (a == b) = false := by simp at h2 ⊢; intro e; exact h ⟨h2.1, h2.2, e⟩
      go_enter Tryz.func98, Tryz.ntmps98
      go_wp2_with fail
      go_region
      all_goals go_wp2
      all_goals exact bodyPost_ret (results_ccb rfl _ _ (w.heap.size + 1 + 1) (w.heap.size + 1 + 1 + 1) _ _ rfl rfl (blk_alloc (blk2 w _ _ _) _) (blk3 w _ _ _ _) rfl rfl) rfl ⟨rfl, (((((Below.refl _ _).alloc (Nat.le_refl _) _).alloc (by simp) _).alloc (by simp; omega) _).alloc (by simp; omega) _).drew⟩
end Go.Proofs.YtngopilbpiplhaaGreatDoor
