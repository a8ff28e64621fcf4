/-
  The contracts of the acts' closures: what each word does to the machine.
  The contracts of the acts' closures: what each word does to the machine.
-/
import Derived.Test.YtngopilbpiplhaaGreatDoorZMach
namespace Go.Proofs.YtngopilbpiplhaaGreatDoor
open Go.RowKit

theorem keep_drew_alloc (b : Nat) (w : World) (o : Obj) : Keep w.heap.size b w (w.alloc o).drew := (keep_alloc b w o).drew
set_option maxRecDepth 100000 in
set_option maxHeartbeats 2000000 in
theorem act_in (w : World) (b ca cb : Nat) (m : MS) (wd n : Int) (r s pl : Nat) (hr : r < 8) (hs : s < 8) (hpl : m.num s = (pl : Int)) (hp : pl < 64) (hby : m.input pl < 256) (h : Mach w b m) (hca : w.heap[ca]? = some (.cells #[.int .i64 64] 2)) (hc : w.heap[cb]? = some (.cells #[.func (.func 77) #[] #[]] 151)) :
    Calls Tryz.prog 144 #[.pointer (some ⟨b, 0, none⟩), lnV wd r s n, .pointer (some ⟨ca, 0, none⟩), .pointer (some ⟨cb, 0, none⟩)] w fun e w' => ActRes b 0 (m.setR r ((m.input pl : Int))) w e w' := by
  have HM := hide h
  have hcc : w.cell? ⟨cb, 0, none⟩ = some (.func (.func 77) #[] #[]) := cell_of_blk hc 0
  have hcd : w.cell? ⟨ca, 0, none⟩ = some (.int .i64 64) := cell_of_blk hca 0
  have hlt := blk_lt hc
  have hlt2 := blk_lt hca
  have hbl := h.lt
  have HPL := hide hpl
  have hp' : (pl : Int) < 64 := by omega
  clear h hc hca hpl
  go_enter Tryz.func144, Tryz.ntmps144
  go_wp2_with (go_at_call 60; refine (Number_eq _ b s m pl hs HPL.out (HM.out.alloc _)).mono ?_; rintro e w' ⟨rfl, rfl⟩)
  go_region_with (first
    | (go_at_call 77; refine (rows9_any _ b pl m hp hby ?_).mono ?_; exact HM.out.alloc _; rintro e w1 ⟨rfl, rfl⟩)
    | (go_at_call 109; refine (Set_any _ b r m ((m.input pl : Int)) hr ?_).mono ?_; exact HM.out.alloc _; rintro e w2 ⟨rfl, rfl⟩))
  all_goals go_wp2
  all_goals go_ret
  all_goals exact ⟨rfl, setW_mach hr (HM.out.alloc _) _, (keep_drew_alloc b w _).trans (setW_keep _ b _ r _)⟩

set_option maxRecDepth 100000 in
set_option maxHeartbeats 2000000 in
theorem act_in_bad (w : World) (b ca cb : Nat) (m : MS) (wd n : Int) (r s : Nat) (hs : s < 8) (hp : m.num s < 0 ∨ 64 ≤ m.num s) (h : Mach w b m) (hca : w.heap[ca]? = some (.cells #[.int .i64 64] 2)) :
    Calls Tryz.prog 144 #[.pointer (some ⟨b, 0, none⟩), lnV wd r s n, .pointer (some ⟨ca, 0, none⟩), .pointer (some ⟨cb, 0, none⟩)] w fun e w' => ActRes b 3 m w e w' := by
  have HM := hide h
  have hcd : w.cell? ⟨ca, 0, none⟩ = some (.int .i64 64) := cell_of_blk hca 0
  have hlt2 := blk_lt hca
  have hbl := h.lt
  clear h hca
  generalize hN : m.num s = N at *
  have HN := hide hN
  clear hN
  rcases hp with hp | hp
  · go_enter Tryz.func144, Tryz.ntmps144
    go_wp2_with (go_at_call 60; refine (Number_eq _ b s m N hs HN.out (HM.out.alloc _)).mono ?_; rintro e w' ⟨rfl, rfl⟩)
    go_ret
    exact ⟨rfl, HM.out.alloc _, keep_alloc b w _⟩
  · have hp0 : ¬ N < 0 := by omega
    go_enter Tryz.func144, Tryz.ntmps144
    go_wp2_with (go_at_call 60; refine (Number_eq _ b s m N hs HN.out (HM.out.alloc _)).mono ?_; rintro e w' ⟨rfl, rfl⟩)
    go_ret
    exact ⟨rfl, HM.out.alloc _, keep_alloc b w _⟩

set_option maxRecDepth 100000 in
set_option maxHeartbeats 2000000 in
theorem act_get (w : World) (b ca cb : Nat) (m : MS) (wd n : Int) (r s pl : Nat) (hr : r < 8) (hs : s < 8) (hpl : m.num s = (pl : Int)) (hp : pl < 16) (h : Mach w b m) (hca : w.heap[ca]? = some (.cells #[.int .i64 16] 2)) (hc : w.heap[cb]? = some (.cells #[.func (.func 80) #[] #[]] 151)) :
    Calls Tryz.prog 144 #[.pointer (some ⟨b, 0, none⟩), lnV wd r s n, .pointer (some ⟨ca, 0, none⟩), .pointer (some ⟨cb, 0, none⟩)] w fun e w' => ActRes b 0 (m.setR r (m.cells pl)) w e w' := by
  have HM := hide h
  have hcc : w.cell? ⟨cb, 0, none⟩ = some (.func (.func 80) #[] #[]) := cell_of_blk hc 0
  have hcd : w.cell? ⟨ca, 0, none⟩ = some (.int .i64 16) := cell_of_blk hca 0
  have hlt := blk_lt hc
  have hlt2 := blk_lt hca
  have hbl := h.lt
  have HPL := hide hpl
  have hp' : (pl : Int) < 16 := by omega
  clear h hc hca hpl
  go_enter Tryz.func144, Tryz.ntmps144
  go_wp2_with (go_at_call 60; refine (Number_eq _ b s m pl hs HPL.out (HM.out.alloc _)).mono ?_; rintro e w' ⟨rfl, rfl⟩)
  go_region_with (first
    | (go_at_call 80; refine (rows10_any _ b pl m hp ?_).mono ?_; exact HM.out.alloc _; rintro e w1 ⟨rfl, rfl⟩)
    | (go_at_call 109; refine (Set_any _ b r m (m.cells pl) hr ?_).mono ?_; exact HM.out.alloc _; rintro e w2 ⟨rfl, rfl⟩))
  all_goals go_wp2
  all_goals go_ret
  all_goals exact ⟨rfl, setW_mach hr (HM.out.alloc _) _, (keep_drew_alloc b w _).trans (setW_keep _ b _ r _)⟩

set_option maxRecDepth 100000 in
set_option maxHeartbeats 2000000 in
theorem act_get_bad (w : World) (b ca cb : Nat) (m : MS) (wd n : Int) (r s : Nat) (hs : s < 8) (hp : m.num s < 0 ∨ 16 ≤ m.num s) (h : Mach w b m) (hca : w.heap[ca]? = some (.cells #[.int .i64 16] 2)) :
    Calls Tryz.prog 144 #[.pointer (some ⟨b, 0, none⟩), lnV wd r s n, .pointer (some ⟨ca, 0, none⟩), .pointer (some ⟨cb, 0, none⟩)] w fun e w' => ActRes b 3 m w e w' := by
  have HM := hide h
  have hcd : w.cell? ⟨ca, 0, none⟩ = some (.int .i64 16) := cell_of_blk hca 0
  have hlt2 := blk_lt hca
  have hbl := h.lt
  clear h hca
  generalize hN : m.num s = N at *
  have HN := hide hN
  clear hN
  rcases hp with hp | hp
  · go_enter Tryz.func144, Tryz.ntmps144
    go_wp2_with (go_at_call 60; refine (Number_eq _ b s m N hs HN.out (HM.out.alloc _)).mono ?_; rintro e w' ⟨rfl, rfl⟩)
    go_ret
    exact ⟨rfl, HM.out.alloc _, keep_alloc b w _⟩
  · have hp0 : ¬ N < 0 := by omega
    go_enter Tryz.func144, Tryz.ntmps144
    go_wp2_with (go_at_call 60; refine (Number_eq _ b s m N hs HN.out (HM.out.alloc _)).mono ?_; rintro e w' ⟨rfl, rfl⟩)
    go_ret
    exact ⟨rfl, HM.out.alloc _, keep_alloc b w _⟩

end Go.Proofs.YtngopilbpiplhaaGreatDoor

namespace Go.Proofs.YtngopilbpiplhaaGreatDoor
open Go.RowKit

set_option maxRecDepth 100000 in
set_option maxHeartbeats 2000000 in
theorem act_load (w : World) (b ca cb : Nat) (m : MS) (wd n : Int) (r s pl : Nat) (hr : r < 8) (hs : s < 8) (hpl : m.num s = (pl : Int)) (hp : pl < 8) (h : Mach w b m) (hca : w.heap[ca]? = some (.cells #[.int .i64 8] 2)) (hc : w.heap[cb]? = some (.cells #[.func (.func 86) #[] #[]] 151)) :
    Calls Tryz.prog 144 #[.pointer (some ⟨b, 0, none⟩), lnV wd r s n, .pointer (some ⟨ca, 0, none⟩), .pointer (some ⟨cb, 0, none⟩)] w fun e w' => ActRes b 0 (m.setR r (m.kept pl)) w e w' := by
  have HM := hide h
  have hcc : w.cell? ⟨cb, 0, none⟩ = some (.func (.func 86) #[] #[]) := cell_of_blk hc 0
  have hcd : w.cell? ⟨ca, 0, none⟩ = some (.int .i64 8) := cell_of_blk hca 0
  have hlt := blk_lt hc
  have hlt2 := blk_lt hca
  have hbl := h.lt
  have HPL := hide hpl
  have hp' : (pl : Int) < 8 := by omega
  clear h hc hca hpl
  go_enter Tryz.func144, Tryz.ntmps144
  go_wp2_with (go_at_call 60; refine (Number_eq _ b s m pl hs HPL.out (HM.out.alloc _)).mono ?_; rintro e w' ⟨rfl, rfl⟩)
  go_region_with (first
    | (go_at_call 86; refine (rows12_any _ b pl m hp ?_).mono ?_; exact HM.out.alloc _; rintro e w1 ⟨rfl, rfl⟩)
    | (go_at_call 109; refine (Set_any _ b r m (m.kept pl) hr ?_).mono ?_; exact HM.out.alloc _; rintro e w2 ⟨rfl, rfl⟩))
  all_goals go_wp2
  all_goals go_ret
  all_goals exact ⟨rfl, setW_mach hr (HM.out.alloc _) _, (keep_drew_alloc b w _).trans (setW_keep _ b _ r _)⟩

set_option maxRecDepth 100000 in
set_option maxHeartbeats 2000000 in
theorem act_load_bad (w : World) (b ca cb : Nat) (m : MS) (wd n : Int) (r s : Nat) (hs : s < 8) (hp : m.num s < 0 ∨ 8 ≤ m.num s) (h : Mach w b m) (hca : w.heap[ca]? = some (.cells #[.int .i64 8] 2)) :
    Calls Tryz.prog 144 #[.pointer (some ⟨b, 0, none⟩), lnV wd r s n, .pointer (some ⟨ca, 0, none⟩), .pointer (some ⟨cb, 0, none⟩)] w fun e w' => ActRes b 3 m w e w' := by
  have HM := hide h
  have hcd : w.cell? ⟨ca, 0, none⟩ = some (.int .i64 8) := cell_of_blk hca 0
  have hlt2 := blk_lt hca
  have hbl := h.lt
  clear h hca
  generalize hN : m.num s = N at *
  have HN := hide hN
  clear hN
  rcases hp with hp | hp
  · go_enter Tryz.func144, Tryz.ntmps144
    go_wp2_with (go_at_call 60; refine (Number_eq _ b s m N hs HN.out (HM.out.alloc _)).mono ?_; rintro e w' ⟨rfl, rfl⟩)
    go_ret
    exact ⟨rfl, HM.out.alloc _, keep_alloc b w _⟩
  · have hp0 : ¬ N < 0 := by omega
    go_enter Tryz.func144, Tryz.ntmps144
    go_wp2_with (go_at_call 60; refine (Number_eq _ b s m N hs HN.out (HM.out.alloc _)).mono ?_; rintro e w' ⟨rfl, rfl⟩)
    go_ret
    exact ⟨rfl, HM.out.alloc _, keep_alloc b w _⟩

end Go.Proofs.YtngopilbpiplhaaGreatDoor
