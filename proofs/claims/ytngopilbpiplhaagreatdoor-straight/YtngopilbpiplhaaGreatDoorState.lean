/-
  The contract of (*machine.Machine).State: the state is the machine's.
-/
import Derived.Test.YtngopilbpiplhaaGreatDoorNew
import Derived.StillTailTactics
namespace Go.Proofs.YtngopilbpiplhaaGreatDoor
open Go.RowKit

/-- A state's cells: how, line, why, value; the registers; what was put out. -/
def stCells (m : MS) (out : List UInt8) : Array Value :=
  #[.int .i64 m.how, .int .i64 m.line, .int .i64 m.why, .int .i64 m.value,
    .bool (m.set 0), .int .i64 (m.num 0), .bool (m.set 1), .int .i64 (m.num 1), .bool (m.set 2), .int .i64 (m.num 2), .bool (m.set 3), .int .i64 (m.num 3),
    .bool (m.set 4), .int .i64 (m.num 4), .bool (m.set 5), .int .i64 (m.num 5), .bool (m.set 6), .int .i64 (m.num 6), .bool (m.set 7), .int .i64 (m.num 7), .string ⟨out.toArray⟩]

theorem conv_out {B : Nat} {w : World} {v : Value} {l : List UInt8} (h : w.ownsRow B 5 1 v l.length (Lib.byteCells l)) : (convert 76 9 v).run Tryz.prog w = .ok (.string ⟨l.toArray⟩) w := by
  obtain ⟨h0, ⟨e, e2⟩ | ⟨g, cap, cur, e, hg, hb, hc, _, hsz, ht⟩⟩ := h
  · subst e
    have : l = [] := List.eq_nil_of_length_eq_zero e2
    subst this
    exact run_convert_bytes_nil w 76 5 Tryz.underlying76 Tryz.underlying5 0 0 9 Tryz.underlying9
  · subst e
    refine run_convert_bytes_back w 76 9 5 ⟨g, 0, none⟩ cap l Tryz.underlying76 Tryz.underlying5 Tryz.underlying9 (fun j hj => ?_)
    have e : (⟨g, 0, none⟩ : Addr).add j = ⟨g, j, none⟩ := by unfold Addr.add; split <;> simp_all
    rw [e, cell_of_blk hb]
    have h1 : (cur.toList.take (l.length * 1))[j]? = (Lib.byteCells l)[j]? := by rw [ht]
    rw [List.getElem?_take, if_pos (by omega), Array.getElem?_toList] at h1
    rw [h1]
    simp [Lib.byteCells, List.getElem?_eq_getElem hj]

theorem mixed : Tryz.prog.follows .mixedOrders = true := by kernel_rfl

set_option maxRecDepth 1000000 in
set_option maxHeartbeats 4000000 in
theorem State_any (B : Nat) (w : World) (b : Nat) (m : MS) (l : List UInt8) (h : Mach w b m) (ho : OutIs B w m l) :
    Calls Tryz.prog 107 #[.pointer (some ⟨b, 0, none⟩)] w fun e w' => e = .returned (.agg (stCells m l)) ∧ Below w.heap.size w w' := by
  have hbl := h.lt
  obtain ⟨a, c, hac⟩ := owns_len ho
  have HM := hide h
  have HO := hide ho
  have HAC := hide hac
  clear h ho hac
  go_enter Tryz.func107, Tryz.ntmps107
  go_wp2
  refine wp_region_still_tail 26 mixed (by kernel_rfl) ?_
  simp only [List.take_succ_cons, List.take_zero, List.drop_succ_cons, List.drop_zero]
  generalize hWW : ({ (w.alloc _) with drawn := _ } : World) = W
  have hW : Mach W b m := by rw [← hWW]; exact HM.out.alloc _
  have hnew : W.heap[w.heap.size]? = some (.cells #[.int .i64 0, .int .i64 0, .int .i64 0, .int .i64 0, .bool false, .int .i64 0, .bool false, .int .i64 0, .bool false, .int .i64 0, .bool false, .int .i64 0, .bool false, .int .i64 0, .bool false, .int .i64 0, .bool false, .int .i64 0, .bool false, .int .i64 0, .string ⟨#[]⟩] 32) := by rw [← hWW]; exact blk_new w _
  have hbW : Below w.heap.size w W := by rw [← hWW]; exact ((Below.refl _ _).alloc (Nat.le_refl _) _).drew
  have hoW : OutIs B W m l := by rw [← hWW]; exact HO.out.alloc _
  clear hWW
  have h109 := hW.cell109
  have hcv := conv_out hoW
  rw [HAC.out] at h109 hcv
  have c0 : W.cell? ⟨b, 0, none⟩ = some (.int .i64 m.line) := hW.cell (by omega)
  have c2 : W.cell? ⟨b, 2, none⟩ = some (.int .i64 m.how) := hW.cell (by omega)
  have c3 : W.cell? ⟨b, 3, none⟩ = some (.int .i64 m.why) := hW.cell (by omega)
  have c4 : W.cell? ⟨b, 4, none⟩ = some (.int .i64 m.value) := hW.cell (by omega)
  have r0 : W.cell? ⟨b, 93, none⟩ = some (.bool (m.set 0)) := hW.cell (by omega)
  have s0 : W.cell? ⟨b, 94, none⟩ = some (.int .i64 (m.num 0)) := hW.cell (by omega)
  have r1 : W.cell? ⟨b, 95, none⟩ = some (.bool (m.set 1)) := hW.cell (by omega)
  have s1 : W.cell? ⟨b, 96, none⟩ = some (.int .i64 (m.num 1)) := hW.cell (by omega)
  have r2 : W.cell? ⟨b, 97, none⟩ = some (.bool (m.set 2)) := hW.cell (by omega)
  have s2 : W.cell? ⟨b, 98, none⟩ = some (.int .i64 (m.num 2)) := hW.cell (by omega)
  have r3 : W.cell? ⟨b, 99, none⟩ = some (.bool (m.set 3)) := hW.cell (by omega)
  have s3 : W.cell? ⟨b, 100, none⟩ = some (.int .i64 (m.num 3)) := hW.cell (by omega)
  have r4 : W.cell? ⟨b, 101, none⟩ = some (.bool (m.set 4)) := hW.cell (by omega)
  have s4 : W.cell? ⟨b, 102, none⟩ = some (.int .i64 (m.num 4)) := hW.cell (by omega)
  have r5 : W.cell? ⟨b, 103, none⟩ = some (.bool (m.set 5)) := hW.cell (by omega)
  have s5 : W.cell? ⟨b, 104, none⟩ = some (.int .i64 (m.num 5)) := hW.cell (by omega)
  have r6 : W.cell? ⟨b, 105, none⟩ = some (.bool (m.set 6)) := hW.cell (by omega)
  have s6 : W.cell? ⟨b, 106, none⟩ = some (.int .i64 (m.num 6)) := hW.cell (by omega)
  have r7 : W.cell? ⟨b, 107, none⟩ = some (.bool (m.set 7)) := hW.cell (by omega)
  have s7 : W.cell? ⟨b, 108, none⟩ = some (.int .i64 (m.num 7)) := hW.cell (by omega)
  clear hW hoW
  repeat still_step
  refine wpStill_nil ?_
  clear h109 hcv c0 c2 c3 c4 r0 r1 r2 r3 r4 r5 r6 r7 s0 s1 s2 s3 s4 s5 s6 s7
  refine wpList_plain rfl fun _ hK => wp_store_row 32 _ _ rfl w.heap.size (stCells m l) rfl rfl _ _ hnew (by kernel_rfl) rfl (by simp [stCells, Value.oneCell']) (hK _ _ ?_)
  have hst := setRow_heap W w.heap.size _ (stCells m l) _ _ hnew
  have hb2 : Below w.heap.size w (W.setRow w.heap.size (stCells m l)) := by
    refine ⟨hbW.os, hbW.tape, hbW.output, ?_, fun k hk => ?_⟩
    · have := hbW.size; simpa [World.setRow] using this
    · rw [← hbW.block k hk]
      simp only [World.setRow, Array.getElem?_modify]
      rw [if_neg (by omega)]
  generalize W.setRow w.heap.size (stCells m l) = W2 at *
  clear hnew hbW
  have hload : (loadVar 32 ⟨w.heap.size, 0, none⟩).run Tryz.prog W2 = .ok (.agg (stCells m l)) W2 := run_loadVar_row W2 w.heap.size _ 32 (stCells m l) _ _ hst Tryz.underlying32 (by kernel_rfl) (by kernel_rfl)
  clear hst
  go_wp2
  exact bodyPost_ret (v := .agg (stCells m l)) (by simp [results, Tryz.results107, Act.put, asAddr, hload]) rfl ⟨rfl, hb2⟩

end Go.Proofs.YtngopilbpiplhaaGreatDoor
