/-
  The contracts of the acts out and end.
-/
import Derived.Test.YtngopilbpiplhaaGreatDoorOut
namespace Go.Proofs.YtngopilbpiplhaaGreatDoor
open Go.RowKit

set_option maxRecDepth 100000 in
set_option maxHeartbeats 2000000 in
theorem act_end (w : World) (b cb : Nat) (m : MS) (wd n : Int) (r s : Nat) (hr : r < 8) (h : Mach w b m) (hc : w.heap[cb]? = some (.cells #[.func (.func 100) #[] #[]] 159)) :
    Calls Tryz.prog 151 #[.pointer (some ⟨b, 0, none⟩), lnV wd r s n, .pointer (some ⟨cb, 0, none⟩)] w fun e w' => ActRes b 0 { m with how := 1, value := m.num r } w e w' := by
  have HM := hide h
  have hcc : w.cell? ⟨cb, 0, none⟩ = some (.func (.func 100) #[] #[]) := cell_of_blk hc 0
  have hlt := blk_lt hc
  have hbl := h.lt
  clear h hc
  go_enter Tryz.func151, Tryz.ntmps151
  go_wp2
  go_region_with (first
    | (go_at_call 60; refine (Number_any _ b r m hr ?_).mono ?_; exact HM.out.alloc _; rintro e w1 ⟨rfl, rfl⟩)
    | (go_at_call 100; refine (rows18_any _ b m (m.num r) ?_).mono ?_; exact HM.out.alloc _; rintro e w2 ⟨rfl, hm2, hk2⟩))
  all_goals go_wp2
  all_goals go_ret
  all_goals exact ⟨rfl, hm2, ((keep_alloc b w _).drew).trans (hk2 _)⟩

/-- What out does: it answers 0; the numbers that were put out are now l'. -/
def OutAct (B b : Nat) (m : MS) (l' : List UInt8) (w : World) (e : Ending) (w' : World) : Prop :=
  e = .returned (.int .i64 0) ∧ ∃ v, Mach w' b { m with out := v } ∧ OutIs B w' { m with out := v } l' ∧ Keep B b w w'

set_option maxRecDepth 100000 in
set_option maxHeartbeats 2000000 in
theorem act_out (B : Nat) (w : World) (b cb : Nat) (m : MS) (l' : List UInt8) (wd n : Int) (r s : Nat) (hr : r < 8) (h : Mach w b m) (hB : B ≤ w.heap.size) (hc : w.heap[cb]? = some (.cells #[.func (.func 89) #[] #[]] 159))
    (hp : ∀ o : Obj, Calls Tryz.prog 90 #[.pointer (some ⟨b, 0, none⟩), .int .i64 (m.num r)] (w.alloc o).drew fun e w' => OutRes B b m l' (w.alloc o).drew e w') :
    Calls Tryz.prog 151 #[.pointer (some ⟨b, 0, none⟩), lnV wd r s n, .pointer (some ⟨cb, 0, none⟩)] w fun e w' => OutAct B b m l' w e w' := by
  have HM := hide h
  have HP := hide hp
  have hcc : w.cell? ⟨cb, 0, none⟩ = some (.func (.func 89) #[] #[]) := cell_of_blk hc 0
  have hlt := blk_lt hc
  have hbl := h.lt
  clear h hc hp
  go_enter Tryz.func151, Tryz.ntmps151
  go_wp2
  go_region_with (first
    | (go_at_call 60; refine (Number_any _ b r m hr ?_).mono ?_; exact HM.out.alloc _; rintro e w1 ⟨rfl, rfl⟩)
    | (go_at_call 89; refine (rows14_any B b m (m.num r) l' _ (HP.out _)).mono ?_; rintro e w2 ⟨rfl, v, hm2, ho2, hk2⟩))
  all_goals go_wp2
  all_goals go_ret
  all_goals exact ⟨rfl, v, hm2, ho2, ((((Keep.refl B b w).alloc hB _).drew).trans hk2)⟩

end Go.Proofs.YtngopilbpiplhaaGreatDoor
