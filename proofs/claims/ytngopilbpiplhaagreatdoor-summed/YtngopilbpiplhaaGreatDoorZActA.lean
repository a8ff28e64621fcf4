/-
  The contracts of the acts' closures: what each word does to the machine.
  The contracts of the acts' closures: what each word does to the machine.
-/
import Derived.Test.YtngopilbpiplhaaGreatDoorZMach
namespace Go.Proofs.YtngopilbpiplhaaGreatDoor
open Go.RowKit

set_option maxHeartbeats 400000 in
theorem rows1_any (w : World) (p : Value) (x : Ln) :
    Calls Tryz.prog 53 #[p, .agg #[.int .i64 x.word, .int .i64 x.r, .int .i64 x.s, .int .i64 x.n]] w fun e w' => e = .returned (.int .i64 x.n) ∧ Below w.heap.size w w' := by
  go_enter Tryz.func53, Tryz.ntmps53
  go_wp2
  go_ret
  exact ⟨rfl, (Below.refl _ _).alloc (Nat.le_refl _) _⟩

set_option maxHeartbeats 400000 in
theorem rows3_any (w : World) (b : Nat) (m : MS) (wd r n : Int) (s : Nat) (hs : s < 8) (h : Mach w b m) :
    Calls Tryz.prog 59 #[.pointer (some ⟨b, 0, none⟩), .agg #[.int .i64 wd, .int .i64 r, .int .i64 (s : Int), .int .i64 n]] w fun e w' => e = .returned (.int .i64 (m.num s)) ∧ Below w.heap.size w w' := by
  have HM := hide h
  clear h
  go_enter Tryz.func59, Tryz.ntmps59
  go_wp2_with (go_at_call 60; refine (Number_any _ b s m hs (HM.out.alloc _)).mono ?_; rintro e w' ⟨rfl, rfl⟩)
  go_ret
  exact ⟨rfl, (Below.refl _ _).alloc (Nat.le_refl _) _⟩

set_option maxRecDepth 100000 in
set_option maxHeartbeats 2000000 in
theorem act_set (w : World) (b cb : Nat) (m : MS) (wd n : Int) (r s : Nat) (hr : r < 8) (h : Mach w b m) (hc : w.heap[cb]? = some (.cells #[.func (.func 53) #[] #[]] 123)) :
    Calls Tryz.prog 129 #[.pointer (some ⟨b, 0, none⟩), lnV wd r s n, .pointer (some ⟨cb, 0, none⟩)] w fun e w' => ActRes b 0 (m.setR r n) w e w' := by
  have HM := hide h
  have hcc : w.cell? ⟨cb, 0, none⟩ = some (.func (.func 53) #[] #[]) := cell_of_blk hc 0
  have hlt := blk_lt hc
  have hbl := h.lt
  clear h hc
  go_enter Tryz.func129, Tryz.ntmps129
  go_wp2
  go_region_with (first
    | (go_at_call 53; refine (rows1_any _ _ ⟨wd, r, s, n⟩).mono ?_; rintro e w1 ⟨rfl, hb1⟩; have hl1 : w1.cell? ⟨w.heap.size, 1, none⟩ = some (.int .i64 (r : Int)) := (cell_of_blk ((hb1.block w.heap.size (by simp)).trans (blk_new w _)) 1))
    | (go_at_call 109; refine (Set_any _ b r m n hr ?_).mono ?_; exact (HM.out.alloc _).mono (hb1.block b (by simp; omega)); rintro e w2 ⟨rfl, rfl⟩))
  all_goals go_wp2
  all_goals go_ret
  all_goals exact ⟨rfl, setW_mach hr ((HM.out.alloc _).mono (hb1.block b (by simp; omega))) _, ((((keep_alloc b w _).drew).trans (Keep.of_below (hb1.mono (B' := w.heap.size) (by simp)))).trans (setW_keep _ b _ r _))⟩

set_option maxRecDepth 100000 in
set_option maxHeartbeats 2000000 in
theorem act_mov (w : World) (b cb : Nat) (m : MS) (wd n : Int) (r s : Nat) (hr : r < 8) (hs : s < 8) (h : Mach w b m) (hc : w.heap[cb]? = some (.cells #[.func (.func 59) #[] #[]] 123)) :
    Calls Tryz.prog 129 #[.pointer (some ⟨b, 0, none⟩), lnV wd r s n, .pointer (some ⟨cb, 0, none⟩)] w fun e w' => ActRes b 0 (m.setR r (m.num s)) w e w' := by
  have HM := hide h
  have hcc : w.cell? ⟨cb, 0, none⟩ = some (.func (.func 59) #[] #[]) := cell_of_blk hc 0
  have hlt := blk_lt hc
  have hbl := h.lt
  clear h hc
  go_enter Tryz.func129, Tryz.ntmps129
  go_wp2
  go_region_with (first
    | (go_at_call 59; refine (rows3_any _ b m wd r n s hs ?_).mono ?_; exact HM.out.alloc _; rintro e w1 ⟨rfl, hb1⟩; have hl1 : w1.cell? ⟨w.heap.size, 1, none⟩ = some (.int .i64 (r : Int)) := (cell_of_blk ((hb1.block w.heap.size (by simp)).trans (blk_new w _)) 1))
    | (go_at_call 109; refine (Set_any _ b r m (m.num s) hr ?_).mono ?_; exact (HM.out.alloc _).mono (hb1.block b (by simp; omega)); rintro e w2 ⟨rfl, rfl⟩))
  all_goals go_wp2
  all_goals go_ret
  all_goals exact ⟨rfl, setW_mach hr ((HM.out.alloc _).mono (hb1.block b (by simp; omega))) _, ((((keep_alloc b w _).drew).trans (Keep.of_below (hb1.mono (B' := w.heap.size) (by simp)))).trans (setW_keep _ b _ r _))⟩

end Go.Proofs.YtngopilbpiplhaaGreatDoor

namespace Go.Proofs.YtngopilbpiplhaaGreatDoor
open Go.RowKit

set_option maxRecDepth 100000 in
set_option maxHeartbeats 2000000 in
theorem act_add (w : World) (b cb : Nat) (m : MS) (wd n : Int) (r s : Nat) (hr : r < 8) (hs : s < 8) (h : Mach w b m) (hc : w.heap[cb]? = some (.cells #[.func (.func 64) #[] #[]] 144)) :
    Calls Tryz.prog 135 #[.pointer (some ⟨b, 0, none⟩), lnV wd r s n, .pointer (some ⟨cb, 0, none⟩)] w fun e w' => ActRes b 0 (m.setR r (wrap64 (m.num r + m.num s))) w e w' := by
  have HM := hide h
  have hcc : w.cell? ⟨cb, 0, none⟩ = some (.func (.func 64) #[] #[]) := cell_of_blk hc 0
  have hlt := blk_lt hc
  have hbl := h.lt
  clear h hc
  go_enter Tryz.func135, Tryz.ntmps135
  go_wp2
  go_quiet (first
    | (go_at_call_of 60 (Value.int IntKind.i64 (r : Int)); exact Calls.quiet_of_same (Number_any _ b r m hr (HM.out.alloc _)))
    | (go_at_call_of 60 (Value.int IntKind.i64 (s : Int)); exact Calls.quiet_of_same (Number_any _ b s m hs (HM.out.alloc _)))
    | (go_at_call 64; exact Calls.quiet_of_same (rows5_any _ _ _)))
  go_wp2_with (go_at_call 109; refine (Set_any _ b r m (wrap64 (m.num r + m.num s)) hr ?_).mono ?_; exact HM.out.alloc _; rintro e w2 ⟨rfl, rfl⟩)
  go_ret
  exact ⟨rfl, setW_mach hr (HM.out.alloc _) _, ((keep_alloc b w _).drewN _).trans (setW_keep _ b _ r _)⟩

set_option maxRecDepth 100000 in
set_option maxHeartbeats 2000000 in
theorem act_sub (w : World) (b cb : Nat) (m : MS) (wd n : Int) (r s : Nat) (hr : r < 8) (hs : s < 8) (h : Mach w b m) (hc : w.heap[cb]? = some (.cells #[.func (.func 67) #[] #[]] 144)) :
    Calls Tryz.prog 135 #[.pointer (some ⟨b, 0, none⟩), lnV wd r s n, .pointer (some ⟨cb, 0, none⟩)] w fun e w' => ActRes b 0 (m.setR r (wrap64 (m.num r - m.num s))) w e w' := by
  have HM := hide h
  have hcc : w.cell? ⟨cb, 0, none⟩ = some (.func (.func 67) #[] #[]) := cell_of_blk hc 0
  have hlt := blk_lt hc
  have hbl := h.lt
  clear h hc
  go_enter Tryz.func135, Tryz.ntmps135
  go_wp2
  go_quiet (first
    | (go_at_call_of 60 (Value.int IntKind.i64 (r : Int)); exact Calls.quiet_of_same (Number_any _ b r m hr (HM.out.alloc _)))
    | (go_at_call_of 60 (Value.int IntKind.i64 (s : Int)); exact Calls.quiet_of_same (Number_any _ b s m hs (HM.out.alloc _)))
    | (go_at_call 67; exact Calls.quiet_of_same (rows6_any _ _ _)))
  go_wp2_with (go_at_call 109; refine (Set_any _ b r m (wrap64 (m.num r - m.num s)) hr ?_).mono ?_; exact HM.out.alloc _; rintro e w2 ⟨rfl, rfl⟩)
  go_ret
  exact ⟨rfl, setW_mach hr (HM.out.alloc _) _, ((keep_alloc b w _).drewN _).trans (setW_keep _ b _ r _)⟩

set_option maxRecDepth 100000 in
set_option maxHeartbeats 2000000 in
theorem act_mul (w : World) (b cb : Nat) (m : MS) (wd n : Int) (r s : Nat) (hr : r < 8) (hs : s < 8) (h : Mach w b m) (hc : w.heap[cb]? = some (.cells #[.func (.func 69) #[] #[]] 144)) :
    Calls Tryz.prog 135 #[.pointer (some ⟨b, 0, none⟩), lnV wd r s n, .pointer (some ⟨cb, 0, none⟩)] w fun e w' => ActRes b 0 (m.setR r (wrap64 (m.num r * m.num s))) w e w' := by
  have HM := hide h
  have hcc : w.cell? ⟨cb, 0, none⟩ = some (.func (.func 69) #[] #[]) := cell_of_blk hc 0
  have hlt := blk_lt hc
  have hbl := h.lt
  clear h hc
  go_enter Tryz.func135, Tryz.ntmps135
  go_wp2
  go_quiet (first
    | (go_at_call_of 60 (Value.int IntKind.i64 (r : Int)); exact Calls.quiet_of_same (Number_any _ b r m hr (HM.out.alloc _)))
    | (go_at_call_of 60 (Value.int IntKind.i64 (s : Int)); exact Calls.quiet_of_same (Number_any _ b s m hs (HM.out.alloc _)))
    | (go_at_call 69; exact Calls.quiet_of_same (rows7_any _ _ _)))
  go_wp2_with (go_at_call 109; refine (Set_any _ b r m (wrap64 (m.num r * m.num s)) hr ?_).mono ?_; exact HM.out.alloc _; rintro e w2 ⟨rfl, rfl⟩)
  go_ret
  exact ⟨rfl, setW_mach hr (HM.out.alloc _) _, ((keep_alloc b w _).drewN _).trans (setW_keep _ b _ r _)⟩

set_option maxRecDepth 100000 in
set_option maxHeartbeats 2000000 in
theorem act_and (w : World) (b cb : Nat) (m : MS) (wd n : Int) (r s : Nat) (hr : r < 8) (hs : s < 8) (h : Mach w b m) (hc : w.heap[cb]? = some (.cells #[.func (.func 71) #[] #[]] 144)) :
    Calls Tryz.prog 135 #[.pointer (some ⟨b, 0, none⟩), lnV wd r s n, .pointer (some ⟨cb, 0, none⟩)] w fun e w' => ActRes b 0 (m.setR r (bits BinOp.and IntKind.i64 (m.num r) (m.num s))) w e w' := by
  have HM := hide h
  have hcc : w.cell? ⟨cb, 0, none⟩ = some (.func (.func 71) #[] #[]) := cell_of_blk hc 0
  have hlt := blk_lt hc
  have hbl := h.lt
  clear h hc
  go_enter Tryz.func135, Tryz.ntmps135
  go_wp2
  go_quiet (first
    | (go_at_call_of 60 (Value.int IntKind.i64 (r : Int)); exact Calls.quiet_of_same (Number_any _ b r m hr (HM.out.alloc _)))
    | (go_at_call_of 60 (Value.int IntKind.i64 (s : Int)); exact Calls.quiet_of_same (Number_any _ b s m hs (HM.out.alloc _)))
    | (go_at_call 71; exact Calls.quiet_of_same (rows8_any _ _ _)))
  go_wp2_with (go_at_call 109; refine (Set_any _ b r m (bits BinOp.and IntKind.i64 (m.num r) (m.num s)) hr ?_).mono ?_; exact HM.out.alloc _; rintro e w2 ⟨rfl, rfl⟩)
  go_ret
  exact ⟨rfl, setW_mach hr (HM.out.alloc _) _, ((keep_alloc b w _).drewN _).trans (setW_keep _ b _ r _)⟩

set_option maxRecDepth 100000 in
set_option maxHeartbeats 2000000 in
theorem act_div (w : World) (b cb : Nat) (m : MS) (wd n : Int) (r s : Nat) (hr : r < 8) (hs : s < 8) (hz : ¬ m.num s = 0) (h : Mach w b m) (hc : w.heap[cb]? = some (.cells #[.func (.func 73) #[] #[]] 144)) :
    Calls Tryz.prog 135 #[.pointer (some ⟨b, 0, none⟩), lnV wd r s n, .pointer (some ⟨cb, 0, none⟩)] w fun e w' => ActRes b 0 (m.setR r (wrap64 ((m.num r).tdiv (m.num s)))) w e w' := by
  have HM := hide h
  have hcc : w.cell? ⟨cb, 0, none⟩ = some (.func (.func 73) #[] #[]) := cell_of_blk hc 0
  have hlt := blk_lt hc
  have hbl := h.lt
  clear h hc
  go_enter Tryz.func135, Tryz.ntmps135
  go_wp2
  go_quiet (first
    | (go_at_call_of 60 (Value.int IntKind.i64 (r : Int)); exact Calls.quiet_of_same (Number_any _ b r m hr (HM.out.alloc _)))
    | (go_at_call_of 60 (Value.int IntKind.i64 (s : Int)); exact Calls.quiet_of_same (Number_any _ b s m hs (HM.out.alloc _)))
    | (go_at_call 73; exact Calls.quiet_of_same (divide_any _ _ hz _)))
  go_wp2_with (go_at_call 109; refine (Set_any _ b r m (wrap64 ((m.num r).tdiv (m.num s))) hr ?_).mono ?_; exact HM.out.alloc _; rintro e w2 ⟨rfl, rfl⟩)
  go_ret
  exact ⟨rfl, setW_mach hr (HM.out.alloc _) _, ((keep_alloc b w _).drewN _).trans (setW_keep _ b _ r _)⟩

set_option maxRecDepth 100000 in
set_option maxHeartbeats 2000000 in
theorem act_div0 (w : World) (b cb : Nat) (m : MS) (wd n : Int) (r s : Nat) (hr : r < 8) (hs : s < 8) (hz : m.num s = 0) (h : Mach w b m) (hc : w.heap[cb]? = some (.cells #[.func (.func 73) #[] #[]] 144)) :
    Calls Tryz.prog 135 #[.pointer (some ⟨b, 0, none⟩), lnV wd r s n, .pointer (some ⟨cb, 0, none⟩)] w fun e w' => ActRes b 2 m w e w' := by
  have HM := hide h
  have hcc : w.cell? ⟨cb, 0, none⟩ = some (.func (.func 73) #[] #[]) := cell_of_blk hc 0
  have hlt := blk_lt hc
  have hbl := h.lt
  have HZ := hide hz
  clear h hc hz
  go_enter Tryz.func135, Tryz.ntmps135
  go_wp2
  go_quiet (first
    | (go_at_call_of 60 (Value.int IntKind.i64 (r : Int)); exact Calls.quiet_of_same (Number_any _ b r m hr (HM.out.alloc _)))
    | (go_at_call_of 60 (Value.int IntKind.i64 (s : Int)); exact Calls.quiet_of_same (Number_eq _ b s m 0 hs HZ.out (HM.out.alloc _)))
    | (go_at_call 73; exact Calls.quiet_of_same (divide_zero _ _)))
  go_wp2
  go_ret
  exact ⟨rfl, HM.out.alloc _, (keep_alloc b w _).drewN _⟩

end Go.Proofs.YtngopilbpiplhaaGreatDoor
