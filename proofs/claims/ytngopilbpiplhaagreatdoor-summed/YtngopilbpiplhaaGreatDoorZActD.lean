/-
  The contracts of the acts' closures: what each word does to the machine.
  The contracts of the acts' closures: what each word does to the machine.
-/
import Derived.Test.YtngopilbpiplhaaGreatDoorZMach
namespace Go.Proofs.YtngopilbpiplhaaGreatDoor
open Go.RowKit

theorem keep_drew_allocD (b : Nat) (w : World) (o : Obj) : Keep w.heap.size b w (w.alloc o).drew := (keep_alloc b w o).drew
set_option maxRecDepth 100000 in
set_option maxHeartbeats 2000000 in
theorem act_put (w : World) (b ca cb : Nat) (m : MS) (wd n : Int) (r s pl : Nat) (hr : r < 8) (hs : s < 8) (hpl : m.num r = (pl : Int)) (hp : pl < 16) (h : Mach w b m) (hca : w.heap[ca]? = some (.cells #[.int .i64 16] 2)) (hc : w.heap[cb]? = some (.cells #[.func (.func 83) #[] #[]] 156)) :
    Calls Tryz.prog 148 #[.pointer (some ⟨b, 0, none⟩), lnV wd r s n, .pointer (some ⟨ca, 0, none⟩), .pointer (some ⟨cb, 0, none⟩)] w fun e w' => ActRes b 0 (m.setC pl (m.num s)) w e w' := by
  have HM := hide h
  have hcc : w.cell? ⟨cb, 0, none⟩ = some (.func (.func 83) #[] #[]) := cell_of_blk hc 0
  have hcd : w.cell? ⟨ca, 0, none⟩ = some (.int .i64 16) := cell_of_blk hca 0
  have hlt := blk_lt hc
  have hlt2 := blk_lt hca
  have hbl := h.lt
  have HPL := hide hpl
  have hp' : (pl : Int) < 16 := by omega
  clear h hc hca hpl
  go_enter Tryz.func148, Tryz.ntmps148
  go_wp2_with (go_at_call_of 60 (Value.int IntKind.i64 (r : Int)); refine (Number_eq _ b r m pl hr HPL.out (HM.out.alloc _)).mono ?_; rintro e w' ⟨rfl, rfl⟩)
  go_region_with (first
    | (go_at_call 60; refine (Number_any _ b s m hs ?_).mono ?_; exact HM.out.alloc _; rintro e w1 ⟨rfl, rfl⟩)
    | (go_at_call 83; refine (rows11_any _ b pl m (m.num s) hp ?_).mono ?_; exact HM.out.alloc _; rintro e w2 ⟨rfl, rfl⟩))
  all_goals go_wp2
  all_goals go_ret
  all_goals exact ⟨rfl, (Mach.setCells hp HM.out _).alloc _, ((Keep.setb _ b (Keep.refl _ _ _) _ _).alloc (by simp) _).drew⟩

set_option maxRecDepth 100000 in
set_option maxHeartbeats 2000000 in
theorem act_put_bad (w : World) (b ca cb : Nat) (m : MS) (wd n : Int) (r s : Nat) (hr : r < 8) (hp : m.num r < 0 ∨ 16 ≤ m.num r) (h : Mach w b m) (hca : w.heap[ca]? = some (.cells #[.int .i64 16] 2)) :
    Calls Tryz.prog 148 #[.pointer (some ⟨b, 0, none⟩), lnV wd r s n, .pointer (some ⟨ca, 0, none⟩), .pointer (some ⟨cb, 0, none⟩)] w fun e w' => ActRes b 3 m w e w' := by
  have HM := hide h
  have hcd : w.cell? ⟨ca, 0, none⟩ = some (.int .i64 16) := cell_of_blk hca 0
  have hlt2 := blk_lt hca
  have hbl := h.lt
  clear h hca
  generalize hN : m.num r = N at *
  have HN := hide hN
  clear hN
  rcases hp with hp | hp
  · go_enter Tryz.func148, Tryz.ntmps148
    go_wp2_with (go_at_call 60; refine (Number_eq _ b r m N hr HN.out (HM.out.alloc _)).mono ?_; rintro e w' ⟨rfl, rfl⟩)
    go_ret
    exact ⟨rfl, HM.out.alloc _, keep_alloc b w _⟩
  · have hp0 : ¬ N < 0 := by omega
    go_enter Tryz.func148, Tryz.ntmps148
    go_wp2_with (go_at_call 60; refine (Number_eq _ b r m N hr HN.out (HM.out.alloc _)).mono ?_; rintro e w' ⟨rfl, rfl⟩)
    go_ret
    exact ⟨rfl, HM.out.alloc _, keep_alloc b w _⟩

set_option maxRecDepth 100000 in
set_option maxHeartbeats 2000000 in
theorem act_keep (w : World) (b ca cb : Nat) (m : MS) (wd n : Int) (r s pl : Nat) (hr : r < 8) (hs : s < 8) (hpl : m.num r = (pl : Int)) (hp : pl < 8) (h : Mach w b m) (hca : w.heap[ca]? = some (.cells #[.int .i64 8] 2)) (hc : w.heap[cb]? = some (.cells #[.func (.func 87) #[] #[]] 156)) :
    Calls Tryz.prog 148 #[.pointer (some ⟨b, 0, none⟩), lnV wd r s n, .pointer (some ⟨ca, 0, none⟩), .pointer (some ⟨cb, 0, none⟩)] w fun e w' => ActRes b 0 (m.setK pl (m.num s)) w e w' := by
  have HM := hide h
  have hcc : w.cell? ⟨cb, 0, none⟩ = some (.func (.func 87) #[] #[]) := cell_of_blk hc 0
  have hcd : w.cell? ⟨ca, 0, none⟩ = some (.int .i64 8) := cell_of_blk hca 0
  have hlt := blk_lt hc
  have hlt2 := blk_lt hca
  have hbl := h.lt
  have HPL := hide hpl
  have hp' : (pl : Int) < 8 := by omega
  clear h hc hca hpl
  go_enter Tryz.func148, Tryz.ntmps148
  go_wp2_with (go_at_call_of 60 (Value.int IntKind.i64 (r : Int)); refine (Number_eq _ b r m pl hr HPL.out (HM.out.alloc _)).mono ?_; rintro e w' ⟨rfl, rfl⟩)
  go_region_with (first
    | (go_at_call 60; refine (Number_any _ b s m hs ?_).mono ?_; exact HM.out.alloc _; rintro e w1 ⟨rfl, rfl⟩)
    | (go_at_call 87; refine (rows13_any _ b pl m (m.num s) hp ?_).mono ?_; exact HM.out.alloc _; rintro e w2 ⟨rfl, rfl⟩))
  all_goals go_wp2
  all_goals go_ret
  all_goals exact ⟨rfl, (Mach.setKept hp HM.out _).alloc _, ((Keep.setb _ b (Keep.refl _ _ _) _ _).alloc (by simp) _).drew⟩

set_option maxRecDepth 100000 in
set_option maxHeartbeats 2000000 in
theorem act_keep_bad (w : World) (b ca cb : Nat) (m : MS) (wd n : Int) (r s : Nat) (hr : r < 8) (hp : m.num r < 0 ∨ 8 ≤ m.num r) (h : Mach w b m) (hca : w.heap[ca]? = some (.cells #[.int .i64 8] 2)) :
    Calls Tryz.prog 148 #[.pointer (some ⟨b, 0, none⟩), lnV wd r s n, .pointer (some ⟨ca, 0, none⟩), .pointer (some ⟨cb, 0, none⟩)] w fun e w' => ActRes b 3 m w e w' := by
  have HM := hide h
  have hcd : w.cell? ⟨ca, 0, none⟩ = some (.int .i64 8) := cell_of_blk hca 0
  have hlt2 := blk_lt hca
  have hbl := h.lt
  clear h hca
  generalize hN : m.num r = N at *
  have HN := hide hN
  clear hN
  rcases hp with hp | hp
  · go_enter Tryz.func148, Tryz.ntmps148
    go_wp2_with (go_at_call 60; refine (Number_eq _ b r m N hr HN.out (HM.out.alloc _)).mono ?_; rintro e w' ⟨rfl, rfl⟩)
    go_ret
    exact ⟨rfl, HM.out.alloc _, keep_alloc b w _⟩
  · have hp0 : ¬ N < 0 := by omega
    go_enter Tryz.func148, Tryz.ntmps148
    go_wp2_with (go_at_call 60; refine (Number_eq _ b r m N hr HN.out (HM.out.alloc _)).mono ?_; rintro e w' ⟨rfl, rfl⟩)
    go_ret
    exact ⟨rfl, HM.out.alloc _, keep_alloc b w _⟩

end Go.Proofs.YtngopilbpiplhaaGreatDoor

namespace Go.Proofs.YtngopilbpiplhaaGreatDoor
open Go.RowKit

set_option maxRecDepth 100000 in
set_option maxHeartbeats 2000000 in
theorem act_jmp_yes (w : World) (b cb : Nat) (m : MS) (wd n : Int) (r s : Nat) (h : Mach w b m) (hc : w.heap[cb]? = some (.cells #[.func (.func 92) #[] #[]] 161)) :
    Calls Tryz.prog 153 #[.pointer (some ⟨b, 0, none⟩), lnV wd r s n, .pointer (some ⟨cb, 0, none⟩)] w fun e w' => ActRes b 0 { m with next := n } w e w' := by
  have HM := hide h
  have hcc : w.cell? ⟨cb, 0, none⟩ = some (.func (.func 92) #[] #[]) := cell_of_blk hc 0
  have hlt := blk_lt hc
  have hbl := h.lt
  clear h hc
  go_enter Tryz.func153, Tryz.ntmps153
  go_wp2_with fail
  refine (rows15_any _ _ wd r s n).mono ?_
  rintro e w1 ⟨rfl, hb1⟩
  have hm1 : Mach w1 b m := (HM.out.alloc _).mono (hb1.block b (by simp; omega))
  have hn1 := hm1.cell1
  have hf1 := hm1.frozen
  have hl3 : w1.cell? ⟨w.heap.size, 3, none⟩ = some (.int .i64 n) := (cell_of_blk ((hb1.block w.heap.size (by simp)).trans (blk_new w _)) 3)
  have HM1 := hide hm1
  have hkp : Keep w.heap.size b w w1 := (keep_alloc b w _).trans (Keep.of_below (hb1.mono (by simp)))
  clear hm1 hb1
  go_wp2
  go_ret
  exact ⟨rfl, HM1.out.setNext n, Keep.setb _ b hkp _ _⟩

set_option maxRecDepth 100000 in
set_option maxHeartbeats 2000000 in
theorem act_jlt_yes (w : World) (b cb : Nat) (m : MS) (wd n : Int) (r s : Nat) (hr : r < 8) (hs : s < 8) (hq : m.num r < m.num s) (h : Mach w b m) (hc : w.heap[cb]? = some (.cells #[.func (.func 93) #[] #[]] 161)) :
    Calls Tryz.prog 153 #[.pointer (some ⟨b, 0, none⟩), lnV wd r s n, .pointer (some ⟨cb, 0, none⟩)] w fun e w' => ActRes b 0 { m with next := n } w e w' := by
  have HM := hide h
  have hcc : w.cell? ⟨cb, 0, none⟩ = some (.func (.func 93) #[] #[]) := cell_of_blk hc 0
  have hlt := blk_lt hc
  have hbl := h.lt
  clear h hc
  have HQ := hide hq
  clear hq
  go_enter Tryz.func153, Tryz.ntmps153
  go_wp2_with fail
  refine (rows16_any _ b m wd n r s hr hs (HM.out.alloc _)).mono ?_
  rintro e w1 ⟨rfl, hb1⟩
  rw [show decide (m.num r < m.num s) = true from by simpa using HQ.out]
  have hm1 : Mach w1 b m := (HM.out.alloc _).mono (hb1.block b (by simp; omega))
  have hn1 := hm1.cell1
  have hf1 := hm1.frozen
  have hl3 : w1.cell? ⟨w.heap.size, 3, none⟩ = some (.int .i64 n) := (cell_of_blk ((hb1.block w.heap.size (by simp)).trans (blk_new w _)) 3)
  have HM1 := hide hm1
  have hkp : Keep w.heap.size b w w1 := (keep_alloc b w _).trans (Keep.of_below (hb1.mono (by simp)))
  clear hm1 hb1
  go_wp2
  go_ret
  exact ⟨rfl, HM1.out.setNext n, Keep.setb _ b hkp _ _⟩

set_option maxRecDepth 100000 in
set_option maxHeartbeats 2000000 in
theorem act_jlt_no (w : World) (b cb : Nat) (m : MS) (wd n : Int) (r s : Nat) (hr : r < 8) (hs : s < 8) (hq : ¬ m.num r < m.num s) (h : Mach w b m) (hc : w.heap[cb]? = some (.cells #[.func (.func 93) #[] #[]] 161)) :
    Calls Tryz.prog 153 #[.pointer (some ⟨b, 0, none⟩), lnV wd r s n, .pointer (some ⟨cb, 0, none⟩)] w fun e w' => ActRes b 0 m w e w' := by
  have HM := hide h
  have hcc : w.cell? ⟨cb, 0, none⟩ = some (.func (.func 93) #[] #[]) := cell_of_blk hc 0
  have hlt := blk_lt hc
  have hbl := h.lt
  clear h hc
  have HQ := hide hq
  clear hq
  go_enter Tryz.func153, Tryz.ntmps153
  go_wp2_with fail
  refine (rows16_any _ b m wd n r s hr hs (HM.out.alloc _)).mono ?_
  rintro e w1 ⟨rfl, hb1⟩
  rw [show decide (m.num r < m.num s) = false from by simpa using HQ.out]
  have hm1 : Mach w1 b m := (HM.out.alloc _).mono (hb1.block b (by simp; omega))
  have hn1 := hm1.cell1
  have hf1 := hm1.frozen
  have hl3 : w1.cell? ⟨w.heap.size, 3, none⟩ = some (.int .i64 n) := (cell_of_blk ((hb1.block w.heap.size (by simp)).trans (blk_new w _)) 3)
  have HM1 := hide hm1
  have hkp : Keep w.heap.size b w w1 := (keep_alloc b w _).trans (Keep.of_below (hb1.mono (by simp)))
  clear hm1 hb1
  go_wp2
  go_ret
  exact ⟨rfl, HM1.out, hkp⟩

set_option maxRecDepth 100000 in
set_option maxHeartbeats 2000000 in
theorem act_jeq_yes (w : World) (b cb : Nat) (m : MS) (wd n : Int) (r s : Nat) (hr : r < 8) (hs : s < 8) (hq : m.num r = m.num s) (h : Mach w b m) (hc : w.heap[cb]? = some (.cells #[.func (.func 97) #[] #[]] 161)) :
    Calls Tryz.prog 153 #[.pointer (some ⟨b, 0, none⟩), lnV wd r s n, .pointer (some ⟨cb, 0, none⟩)] w fun e w' => ActRes b 0 { m with next := n } w e w' := by
  have HM := hide h
  have hcc : w.cell? ⟨cb, 0, none⟩ = some (.func (.func 97) #[] #[]) := cell_of_blk hc 0
  have hlt := blk_lt hc
  have hbl := h.lt
  clear h hc
  have HQ := hide hq
  clear hq
  go_enter Tryz.func153, Tryz.ntmps153
  go_wp2_with fail
  refine (rows17_any _ b m wd n r s hr hs (HM.out.alloc _)).mono ?_
  rintro e w1 ⟨rfl, hb1⟩
  rw [show (m.num r == m.num s) = true from by simpa using HQ.out]
  have hm1 : Mach w1 b m := (HM.out.alloc _).mono (hb1.block b (by simp; omega))
  have hn1 := hm1.cell1
  have hf1 := hm1.frozen
  have hl3 : w1.cell? ⟨w.heap.size, 3, none⟩ = some (.int .i64 n) := (cell_of_blk ((hb1.block w.heap.size (by simp)).trans (blk_new w _)) 3)
  have HM1 := hide hm1
  have hkp : Keep w.heap.size b w w1 := (keep_alloc b w _).trans (Keep.of_below (hb1.mono (by simp)))
  clear hm1 hb1
  go_wp2
  go_ret
  exact ⟨rfl, HM1.out.setNext n, Keep.setb _ b hkp _ _⟩

set_option maxRecDepth 100000 in
set_option maxHeartbeats 2000000 in
theorem act_jeq_no (w : World) (b cb : Nat) (m : MS) (wd n : Int) (r s : Nat) (hr : r < 8) (hs : s < 8) (hq : ¬ m.num r = m.num s) (h : Mach w b m) (hc : w.heap[cb]? = some (.cells #[.func (.func 97) #[] #[]] 161)) :
    Calls Tryz.prog 153 #[.pointer (some ⟨b, 0, none⟩), lnV wd r s n, .pointer (some ⟨cb, 0, none⟩)] w fun e w' => ActRes b 0 m w e w' := by
  have HM := hide h
  have hcc : w.cell? ⟨cb, 0, none⟩ = some (.func (.func 97) #[] #[]) := cell_of_blk hc 0
  have hlt := blk_lt hc
  have hbl := h.lt
  clear h hc
  have HQ := hide hq
  clear hq
  go_enter Tryz.func153, Tryz.ntmps153
  go_wp2_with fail
  refine (rows17_any _ b m wd n r s hr hs (HM.out.alloc _)).mono ?_
  rintro e w1 ⟨rfl, hb1⟩
  rw [show (m.num r == m.num s) = false from by simpa using HQ.out]
  have hm1 : Mach w1 b m := (HM.out.alloc _).mono (hb1.block b (by simp; omega))
  have hn1 := hm1.cell1
  have hf1 := hm1.frozen
  have hl3 : w1.cell? ⟨w.heap.size, 3, none⟩ = some (.int .i64 n) := (cell_of_blk ((hb1.block w.heap.size (by simp)).trans (blk_new w _)) 3)
  have HM1 := hide hm1
  have hkp : Keep w.heap.size b w w1 := (keep_alloc b w _).trans (Keep.of_below (hb1.mono (by simp)))
  clear hm1 hb1
  go_wp2
  go_ret
  exact ⟨rfl, HM1.out, hkp⟩

end Go.Proofs.YtngopilbpiplhaaGreatDoor
