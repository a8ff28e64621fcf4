/-
  What a run does (plain), and the contract of runner.Run's deferred function.
-/
import Derived.Test.YtngopilbpiplhaaGreatDoorStep
import Derived.Test.YtngopilbpiplhaaGreatDoorState
import Derived.Defers
namespace Go.Proofs.YtngopilbpiplhaaGreatDoor
open Go.RowKit

theorem keep_setRow (B q : Nat) (w : World) (cs : Array Value) : Keep B q w (w.setRow q cs) := by
  refine ⟨rfl, rfl, rfl, by simp [World.setRow], fun k _ hk => ?_⟩
  simp only [World.setRow, Array.getElem?_modify]
  rw [if_neg (by omega)]
theorem st_one (m : MS) (l : List UInt8) : (stCells m l).all (·.oneCell') = true := by simp [stCells, Value.oneCell']

set_option maxRecDepth 100000 in
set_option maxHeartbeats 2000000 in
theorem deferred_any (B b p q : Nat) (m : MS) (l : List UInt8) (u : FrameMode) (w : World) (old : Array Value) (hw : RunW B b m l w) (hp : w.cell? ⟨p, 0, none⟩ = some (.pointer (some ⟨b, 0, none⟩))) (hq : w.heap[q]? = some (.cells old 32)) (ho : old.size = 21) :
    CallsD Tryz.prog 106 #[.pointer (some ⟨p, 0, none⟩), .pointer (some ⟨q, 0, none⟩)] u w fun e u' w' => u' = u ∧ (e = .returned (.tuple #[]) ∧ w'.heap[q]? = some (.cells (stCells m l) 32) ∧ Keep w.heap.size q w w') := by
  have HW := hide hw
  have HQ := hide hq
  have hlq := blk_lt hq
  clear hw hq
  go_enter_d Tryz.func106, Tryz.ntmps106
  go_wp2_with fail
  refine (State_any B w b m l HW.out.mach HW.out.out).mono ?_
  rintro e w1 ⟨rfl, hb1⟩
  have hq1 : w1.heap[q]? = some (.cells old 32) := (hb1.block q hlq).trans HQ.out
  have HQ1 := hide hq1
  clear hq1
  go_wp2_with (refine wpList_plain rfl fun _ hK => wp_store_row 32 (.tmp 1) (.tmp 3) rfl q (stCells m l) rfl rfl _ _ HQ1.out (by kernel_rfl) ho (st_one m l) (hK _ _ ?_))
  go_end0
  exact ⟨rfl, setRow_heap _ _ _ _ _ _ HQ1.out, (Keep.of_below hb1).trans (keep_setRow _ q w1 _)⟩

end Go.Proofs.YtngopilbpiplhaaGreatDoor
