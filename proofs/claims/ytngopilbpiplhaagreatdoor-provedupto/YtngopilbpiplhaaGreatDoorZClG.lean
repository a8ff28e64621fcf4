/-
  The contracts of claims.Less and claims.NotLess.
-/
import Derived.Test.YtngopilbpiplhaaGreatDoorZClB
namespace Go.Proofs.YtngopilbpiplhaaGreatDoor
open Go.RowKit
theorem blk3 (w : World) (A B C D : Obj) : ((((w.alloc A).alloc B).alloc C).alloc D).heap[w.heap.size + 1 + 1 + 1]? = some D := by
  have := blk_new (((w.alloc A).alloc B).alloc C) D
  rw [World.size_alloc, World.size_alloc, World.size_alloc] at this
  exact this
/-- Two spans and a tested slot handed back. -/
theorem results_ccb {fn : Func} {p q u : Tmp} (h : fn.results = #[.cell p 132, .cell q 132, .tmp u]) (tmps : Array Value) (w : World) (g1 g2 : Nat) (cs1 cs2 : Array Value)
    (hp : tmps.getD p undef = .pointer (some ⟨g1, 0, none⟩)) (hq : tmps.getD q undef = .pointer (some ⟨g2, 0, none⟩)) (h1 : w.heap[g1]? = some (.cells cs1 132)) (h2 : w.heap[g2]? = some (.cells cs2 132)) (s1 : cs1.size = 2) (s2 : cs2.size = 2) :
    (results fn tmps).run Tryz.prog w = .ok (.tuple #[.agg cs1, .agg cs2, tmps.getD u undef]) w := by
  have hp' : tmps[p]?.getD undef = .pointer (some ⟨g1, 0, none⟩) := by simpa using hp
  have hq' : tmps[q]?.getD undef = .pointer (some ⟨g2, 0, none⟩) := by simpa using hq
  have e1 := run_loadVar_row (P := Tryz.prog) w g1 132 132 cs1 _ _ h1 Tryz.underlying132 rfl (by rw [s1]; kernel_rfl)
  have e2 := run_loadVar_row (P := Tryz.prog) w g2 132 132 cs2 _ _ h2 Tryz.underlying132 rfl (by rw [s2]; kernel_rfl)
  simp [results, h, hp', hq', asAddr, e1, e2]
set_option maxRecDepth 100000 in
set_option maxHeartbeats 2000000 in
theorem Less_any (a b c d : Int) (w : World) : Calls Tryz.prog 96 #[spC a b, spC c d] w fun e w' =>
    e = .returned (if d ≤ a then .tuple #[spC 0 0, spC 0 0, .bool false] else .tuple #[spC (a) (min b (wrap64 (d - 1))), spC (max c (wrap64 (a + 1))) (d), .bool true]) ∧ Below w.heap.size w w' := by
  by_cases h : d ≤ a
  · rw [if_pos h]
    go_enter Tryz.func96, Tryz.ntmps96
    go_wp2
    exact bodyPost_ret (results_ccb rfl _ _ (w.heap.size + 1 + 1) (w.heap.size + 1 + 1 + 1) _ _ rfl rfl (blk_alloc (blk2 w _ _ _) _) (blk3 w _ _ _ _) rfl rfl) rfl ⟨rfl, ((((Below.refl _ _).alloc (Nat.le_refl _) _).alloc (by simp) _).alloc (by simp; omega) _).alloc (by simp; omega) _⟩
  · rw [if_neg h]
    go_enter Tryz.func96, Tryz.ntmps96
    go_wp2_with fail
    go_region
    all_goals go_wp2
    all_goals exact bodyPost_ret (results_ccb rfl _ _ (w.heap.size + 1 + 1) (w.heap.size + 1 + 1 + 1) _ _ rfl rfl (blk_alloc (blk2 w _ _ _) _) (blk3 w _ _ _ _) rfl rfl) rfl ⟨rfl, (((((Below.refl _ _).alloc (Nat.le_refl _) _).alloc (by simp) _).alloc (by simp; omega) _).alloc (by simp; omega) _).drew⟩
set_option maxRecDepth 100000 in
set_option maxHeartbeats 2000000 in
theorem NotLess_any (a b c d : Int) (w : World) : Calls Tryz.prog 95 #[spC a b, spC c d] w fun e w' =>
    e = .returned (if b < c then .tuple #[spC 0 0, spC 0 0, .bool false] else .tuple #[spC (max a c) (b), spC (c) (min d b), .bool true]) ∧ Below w.heap.size w w' := by
  by_cases h : b < c
  · rw [if_pos h]
    go_enter Tryz.func95, Tryz.ntmps95
    go_wp2
    exact bodyPost_ret (results_ccb rfl _ _ (w.heap.size + 1 + 1) (w.heap.size + 1 + 1 + 1) _ _ rfl rfl (blk_alloc (blk2 w _ _ _) _) (blk3 w _ _ _ _) rfl rfl) rfl ⟨rfl, ((((Below.refl _ _).alloc (Nat.le_refl _) _).alloc (by simp) _).alloc (by simp; omega) _).alloc (by simp; omega) _⟩
  · rw [if_neg h]
    go_enter Tryz.func95, Tryz.ntmps95
    go_wp2_with fail
    go_region
    all_goals go_wp2
    all_goals exact bodyPost_ret (results_ccb rfl _ _ (w.heap.size + 1 + 1) (w.heap.size + 1 + 1 + 1) _ _ rfl rfl (blk_alloc (blk2 w _ _ _) _) (blk3 w _ _ _ _) rfl rfl) rfl ⟨rfl, (((((Below.refl _ _).alloc (Nat.le_refl _) _).alloc (by simp) _).alloc (by simp; omega) _).alloc (by simp; omega) _).drew⟩
end Go.Proofs.YtngopilbpiplhaaGreatDoor
