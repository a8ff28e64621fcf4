/-
  The contract of wardkeep.awake: it answers true.
-/
import Derived.Test.YtngopilbpiplhaaGreatDoorWRun
import Derived.Test.YtngopilbpiplhaaGreatDoorStrE
namespace Go.Proofs.YtngopilbpiplhaaGreatDoor
open Go.RowKit

def awT : List UInt8 := [115, 101, 116, 32, 114, 49, 32, 53, 10, 97, 100, 100, 32, 114, 49, 32, 114, 48, 10, 105, 110, 32, 114, 50, 32, 114, 49, 10, 101, 110, 100, 32, 114, 50]
def awX : List Ln := [⟨0, 1, 0, 5⟩, ⟨2, 1, 0, 0⟩, ⟨7, 2, 1, 0⟩, ⟨16, 2, 0, 0⟩]
def awI : List UInt8 := [97, 98, 99]

theorem aw_prog : progF awT = awX := by kernel_rfl
theorem aw_good : Good awT := by
  refine ⟨by decide +kernel, by decide +kernel, ?_, ?_⟩
  · rw [aw_prog]
    intro x hx
    simp [awX] at hx
    rcases hx with rfl | rfl | rfl | rfl <;> decide +kernel
  · rw [aw_prog]
    intro x hx
    have : x = ⟨16, 2, 0, 0⟩ := by simpa [awX] using hx.symm
    rw [this]; rfl
theorem aw_ok : ∀ k (h : k < (progF awT).length), LineOk (progF awT).length k (progF awT)[k] := by
  rw [aw_prog]
  intro k h
  match k, h with
  | 0, _ =>
    show LineOk 4 0 ⟨0, 1, 0, 5⟩
    exact ⟨⟨0, by omega, rfl⟩, ⟨1, by omega, rfl⟩, ⟨0, by omega, rfl⟩, by decide, by decide, fun _ => by decide, fun q => absurd q (by decide)⟩
  | 1, _ =>
    show LineOk 4 1 ⟨2, 1, 0, 0⟩
    exact ⟨⟨2, by omega, rfl⟩, ⟨1, by omega, rfl⟩, ⟨0, by omega, rfl⟩, by decide, by decide, fun _ => by decide, fun q => absurd q (by decide)⟩
  | 2, _ =>
    show LineOk 4 2 ⟨7, 2, 1, 0⟩
    exact ⟨⟨7, by omega, rfl⟩, ⟨2, by omega, rfl⟩, ⟨1, by omega, rfl⟩, by decide, by decide, fun _ => by decide, fun q => absurd q (by decide)⟩
  | 3, _ =>
    show LineOk 4 3 ⟨16, 2, 0, 0⟩
    exact ⟨⟨16, by omega, rfl⟩, ⟨2, by omega, rfl⟩, ⟨0, by omega, rfl⟩, by decide, by decide, fun q => absurd q (by decide), fun _ q => absurd q (by decide)⟩
theorem aw_how : (runOf (progF awT) awI 9).1.how = 1 := by rw [aw_prog]; kernel_rfl
theorem aw_line : (runOf (progF awT) awI 9).1.line = 3 := by rw [aw_prog]; kernel_rfl
theorem aw_set : (runOf (progF awT) awI 9).1.set 1 = true := by rw [aw_prog]; kernel_rfl
theorem aw_num : (runOf (progF awT) awI 9).1.num 1 = 8 := by rw [aw_prog]; kernel_rfl

theorem st_cell (m : MS) (l : List UInt8) : (stCells m l)[0]? = some (.int .i64 m.how) ∧ (stCells m l)[1]? = some (.int .i64 m.line) ∧ (stCells m l)[6]? = some (.bool (m.set 1)) ∧ (stCells m l)[7]? = some (.int .i64 (m.num 1)) := ⟨rfl, rfl, rfl, rfl⟩

set_option maxRecDepth 100000 in
set_option maxHeartbeats 4000000 in
theorem awake_any (w : World) (hg : Glob w) (hp : PowT w) :
    Calls Tryz.prog 11 #[] w fun e w' => e = .returned (.bool true) ∧ Below w.heap.size w w' := by
  have HR := hide (wRun_any awT awI 9 w (by decide) (by decide) aw_good aw_ok (by rw [aw_prog]; decide) (by rw [aw_prog]; decide) hg hp)
  go_enter Tryz.func11, Tryz.ntmps11
  go_wp2_with fail
  refine HR.out.mono ?_
  rintro e w1 ⟨rfl, hb1⟩
  have h4 := st_cell (runOf (progF awT) awI 9).1 (runOf (progF awT) awI 9).2
  rw [aw_how, aw_line, aw_set, aw_num] at h4
  have hone := st_one (runOf (progF awT) awI 9).1 (runOf (progF awT) awI 9).2
  have hsz : (stCells (runOf (progF awT) awI 9).1 (runOf (progF awT) awI 9).2).size = 21 := rfl
  generalize stCells (runOf (progF awT) awI 9).1 (runOf (progF awT) awI 9).2 = SC at *
  have HS := hide hsz
  clear hsz
  have c0 : ∀ zs : Array Value, ((w1.alloc (.cells zs 32)).setRow w1.heap.size SC).cell? ⟨w1.heap.size, 0, none⟩ = some (.int .i64 1) := fun zs => (cell_of_blk (setRow_heap _ _ _ _ _ _ (blk_new w1 _)) 0).trans h4.1
  have c1 : ∀ zs : Array Value, ((w1.alloc (.cells zs 32)).setRow w1.heap.size SC).cell? ⟨w1.heap.size, 1, none⟩ = some (.int .i64 3) := fun zs => (cell_of_blk (setRow_heap _ _ _ _ _ _ (blk_new w1 _)) 1).trans h4.2.1
  have c6 : ∀ zs : Array Value, ((w1.alloc (.cells zs 32)).setRow w1.heap.size SC).cell? ⟨w1.heap.size, 6, none⟩ = some (.bool true) := fun zs => (cell_of_blk (setRow_heap _ _ _ _ _ _ (blk_new w1 _)) 6).trans h4.2.2.1
  have c7 : ∀ zs : Array Value, ((w1.alloc (.cells zs 32)).setRow w1.heap.size SC).cell? ⟨w1.heap.size, 7, none⟩ = some (.int .i64 8) := fun zs => (cell_of_blk (setRow_heap _ _ _ _ _ _ (blk_new w1 _)) 7).trans h4.2.2.2
  clear h4
  go_wp2_with (refine wpList_plain rfl fun _ hK => wp_store_row 32 (.tmp 1) (.tmp 6) rfl w1.heap.size SC rfl rfl _ _ (blk_new w1 _) (by rw [HS.out]; kernel_rfl) HS.out.symm hone (hK _ _ ?_))
  go_ret
  exact ⟨rfl, hb1.trans (((Below.refl _ _).alloc hb1.size _).trans ((keep_setRow w.heap.size w1.heap.size _ _).below hb1.size))⟩

end Go.Proofs.YtngopilbpiplhaaGreatDoor
