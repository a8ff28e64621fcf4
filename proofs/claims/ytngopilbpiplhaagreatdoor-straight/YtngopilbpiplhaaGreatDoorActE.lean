/-
  The contracts of the acts' closures: what each word does to the machine.
-/
import Derived.Test.YtngopilbpiplhaaGreatDoorSmall
namespace Go.Proofs.YtngopilbpiplhaaGreatDoor
open Go.RowKit

set_option maxRecDepth 100000 in
set_option maxHeartbeats 2000000 in
theorem act_jmp_yes (w : World) (b cb : Nat) (m : MS) (wd n : Int) (r s : Nat) (h : Mach w b m) (hc : w.heap[cb]? = some (.cells #[.func (.func 92) #[] #[]] 161)) :
    Calls Tryz.prog 153 #[.pointer (some ⟨b, 0, none⟩), lnV wd r s n, .pointer (some ⟨cb, 0, none⟩)] w fun e w' => ActRes b 0 { m with next := n } w e w' := by
  have HM := hide h
  have hcc : w.cell? ⟨cb, 0, none⟩ = some (.func (.func 92) #[] #[]) := cell_of_blk hc 0
  have hlt := blk_lt hc
  have hbl := h.lt
  clear h hc
  go_enter Tryz.func153, Tryz.ntmps153
  go_wp2_with fail
  refine (rows15_any _ _ wd r s n).mono ?_
  rintro e w1 ⟨rfl, hb1⟩
  have hm1 : Mach w1 b m := (HM.out.alloc _).mono (hb1.block b (by simp; omega))
  have hn1 := hm1.cell1
  have hf1 := hm1.frozen
  have hl3 : w1.cell? ⟨w.heap.size, 3, none⟩ = some (.int .i64 n) := (cell_of_blk ((hb1.block w.heap.size (by simp)).trans (blk_new w _)) 3)
  have HM1 := hide hm1
  have hkp : Keep w.heap.size b w w1 := (keep_alloc b w _).trans (Keep.of_below (hb1.mono (by simp)))
  clear hm1 hb1
  go_wp2
  go_ret
  exact ⟨rfl, HM1.out.setNext n, Keep.setb _ b hkp _ _⟩

set_option maxRecDepth 100000 in
set_option maxHeartbeats 2000000 in
theorem act_jlt_yes (w : World) (b cb : Nat) (m : MS) (wd n : Int) (r s : Nat) (hr : r < 8) (hs : s < 8) (hq : m.num r < m.num s) (h : Mach w b m) (hc : w.heap[cb]? = some (.cells #[.func (.func 93) #[] #[]] 161)) :
    Calls Tryz.prog 153 #[.pointer (some ⟨b, 0, none⟩), lnV wd r s n, .pointer (some ⟨cb, 0, none⟩)] w fun e w' => ActRes b 0 { m with next := n } w e w' := by
  have HM := hide h
  have hcc : w.cell? ⟨cb, 0, none⟩ = some (.func (.func 93) #[] #[]) := cell_of_blk hc 0
  have hlt := blk_lt hc
  have hbl := h.lt
  clear h hc
  have HQ := hide hq
  clear hq
  go_enter Tryz.func153, Tryz.ntmps153
  go_wp2_with fail
  refine (rows16_any _ b m wd n r s hr hs (HM.out.alloc _)).mono ?_
  rintro e w1 ⟨rfl, hb1⟩
  rw [show decide (m.num r < m.num s) = true from by simpa using HQ.out]
  have hm1 : Mach w1 b m := (HM.out.alloc _).mono (hb1.block b (by simp; omega))
  have hn1 := hm1.cell1
  have hf1 := hm1.frozen
  have hl3 : w1.cell? ⟨w.heap.size, 3, none⟩ = some (.int .i64 n) := (cell_of_blk ((hb1.block w.heap.size (by simp)).trans (blk_new w _)) 3)
  have HM1 := hide hm1
  have hkp : Keep w.heap.size b w w1 := (keep_alloc b w _).trans (Keep.of_below (hb1.mono (by simp)))
  clear hm1 hb1
  go_wp2
  go_ret
  exact ⟨rfl, HM1.out.setNext n, Keep.setb _ b hkp _ _⟩

set_option maxRecDepth 100000 in
set_option maxHeartbeats 2000000 in
theorem act_jlt_no (w : World) (b cb : Nat) (m : MS) (wd n : Int) (r s : Nat) (hr : r < 8) (hs : s < 8) (hq : ¬ m.num r < m.num s) (h : Mach w b m) (hc : w.heap[cb]? = some (.cells #[.func (.func 93) #[] #[]] 161)) :
    Calls Tryz.prog 153 #[.pointer (some ⟨b, 0, none⟩), lnV wd r s n, .pointer (some ⟨cb, 0, none⟩)] w fun e w' => ActRes b 0 m w e w' := by
  have HM := hide h
  have hcc : w.cell? ⟨cb, 0, none⟩ = some (.func (.func 93) #[] #[]) := cell_of_blk hc 0
  have hlt := blk_lt hc
  have hbl := h.lt
  clear h hc
  have HQ := hide hq
  clear hq
  go_enter Tryz.func153, Tryz.ntmps153
  go_wp2_with fail
  refine (rows16_any _ b m wd n r s hr hs (HM.out.alloc _)).mono ?_
  rintro e w1 ⟨rfl, hb1⟩
  rw [show decide (m.num r < m.num s) = false from by simpa using HQ.out]
  have hm1 : Mach w1 b m := (HM.out.alloc _).mono (hb1.block b (by simp; omega))
  have hn1 := hm1.cell1
  have hf1 := hm1.frozen
  have hl3 : w1.cell? ⟨w.heap.size, 3, none⟩ = some (.int .i64 n) := (cell_of_blk ((hb1.block w.heap.size (by simp)).trans (blk_new w _)) 3)
  have HM1 := hide hm1
  have hkp : Keep w.heap.size b w w1 := (keep_alloc b w _).trans (Keep.of_below (hb1.mono (by simp)))
  clear hm1 hb1
  go_wp2
  go_ret
  exact ⟨rfl, HM1.out, hkp⟩

set_option maxRecDepth 100000 in
set_option maxHeartbeats 2000000 in
theorem act_jeq_yes (w : World) (b cb : Nat) (m : MS) (wd n : Int) (r s : Nat) (hr : r < 8) (hs : s < 8) (hq : m.num r = m.num s) (h : Mach w b m) (hc : w.heap[cb]? = some (.cells #[.func (.func 97) #[] #[]] 161)) :
    Calls Tryz.prog 153 #[.pointer (some ⟨b, 0, none⟩), lnV wd r s n, .pointer (some ⟨cb, 0, none⟩)] w fun e w' => ActRes b 0 { m with next := n } w e w' := by
  have HM := hide h
  have hcc : w.cell? ⟨cb, 0, none⟩ = some (.func (.func 97) #[] #[]) := cell_of_blk hc 0
  have hlt := blk_lt hc
  have hbl := h.lt
  clear h hc
  have HQ := hide hq
  clear hq
  go_enter Tryz.func153, Tryz.ntmps153
  go_wp2_with fail
  refine (rows17_any _ b m wd n r s hr hs (HM.out.alloc _)).mono ?_
  rintro e w1 ⟨rfl, hb1⟩
  rw [show (m.num r == m.num s) = true from by simpa using HQ.out]
  have hm1 : Mach w1 b m := (HM.out.alloc _).mono (hb1.block b (by simp; omega))
  have hn1 := hm1.cell1
  have hf1 := hm1.frozen
  have hl3 : w1.cell? ⟨w.heap.size, 3, none⟩ = some (.int .i64 n) := (cell_of_blk ((hb1.block w.heap.size (by simp)).trans (blk_new w _)) 3)
  have HM1 := hide hm1
  have hkp : Keep w.heap.size b w w1 := (keep_alloc b w _).trans (Keep.of_below (hb1.mono (by simp)))
  clear hm1 hb1
  go_wp2
  go_ret
  exact ⟨rfl, HM1.out.setNext n, Keep.setb _ b hkp _ _⟩

set_option maxRecDepth 100000 in
set_option maxHeartbeats 2000000 in
theorem act_jeq_no (w : World) (b cb : Nat) (m : MS) (wd n : Int) (r s : Nat) (hr : r < 8) (hs : s < 8) (hq : ¬ m.num r = m.num s) (h : Mach w b m) (hc : w.heap[cb]? = some (.cells #[.func (.func 97) #[] #[]] 161)) :
    Calls Tryz.prog 153 #[.pointer (some ⟨b, 0, none⟩), lnV wd r s n, .pointer (some ⟨cb, 0, none⟩)] w fun e w' => ActRes b 0 m w e w' := by
  have HM := hide h
  have hcc : w.cell? ⟨cb, 0, none⟩ = some (.func (.func 97) #[] #[]) := cell_of_blk hc 0
  have hlt := blk_lt hc
  have hbl := h.lt
  clear h hc
  have HQ := hide hq
  clear hq
  go_enter Tryz.func153, Tryz.ntmps153
  go_wp2_with fail
  refine (rows17_any _ b m wd n r s hr hs (HM.out.alloc _)).mono ?_
  rintro e w1 ⟨rfl, hb1⟩
  rw [show (m.num r == m.num s) = false from by simpa using HQ.out]
  have hm1 : Mach w1 b m := (HM.out.alloc _).mono (hb1.block b (by simp; omega))
  have hn1 := hm1.cell1
  have hf1 := hm1.frozen
  have hl3 : w1.cell? ⟨w.heap.size, 3, none⟩ = some (.int .i64 n) := (cell_of_blk ((hb1.block w.heap.size (by simp)).trans (blk_new w _)) 3)
  have HM1 := hide hm1
  have hkp : Keep w.heap.size b w w1 := (keep_alloc b w _).trans (Keep.of_below (hb1.mono (by simp)))
  clear hm1 hb1
  go_wp2
  go_ret
  exact ⟨rfl, HM1.out, hkp⟩

end Go.Proofs.YtngopilbpiplhaaGreatDoor
