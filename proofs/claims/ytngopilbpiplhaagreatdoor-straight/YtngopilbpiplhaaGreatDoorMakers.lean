/-
  The contracts of the functions that make the table's closures: what each hands back, and which block holds what it captured.
-/
import Derived.Test.YtngopilbpiplhaaGreatDoorBase
namespace Go.Proofs.YtngopilbpiplhaaGreatDoor
open Go.RowKit

set_option maxHeartbeats 400000 in
theorem become_any (g : Fn) (a b : Array Value) (w : World) :
    Calls Tryz.prog 52 #[.func g a b] w fun e w' => e = .returned (.func (.func 129) #[] #[.pointer (some ⟨w.heap.size, 0, none⟩)]) ∧ w' = w.alloc (.cells #[.func g a b] 123) := by
  go_enter Tryz.func52, Tryz.ntmps52
  go_wp2
  go_ret
  exact ⟨rfl, rfl⟩
set_option maxHeartbeats 400000 in
theorem reckon_any (g : Fn) (a b : Array Value) (w : World) :
    Calls Tryz.prog 63 #[.func g a b] w fun e w' => e = .returned (.func (.func 135) #[] #[.pointer (some ⟨w.heap.size, 0, none⟩)]) ∧ w' = w.alloc (.cells #[.func g a b] 144) := by
  go_enter Tryz.func63, Tryz.ntmps63
  go_wp2
  go_ret
  exact ⟨rfl, rfl⟩
set_option maxHeartbeats 400000 in
theorem hand_any (g : Fn) (a b : Array Value) (w : World) :
    Calls Tryz.prog 88 #[.func g a b] w fun e w' => e = .returned (.func (.func 151) #[] #[.pointer (some ⟨w.heap.size, 0, none⟩)]) ∧ w' = w.alloc (.cells #[.func g a b] 159) := by
  go_enter Tryz.func88, Tryz.ntmps88
  go_wp2
  go_ret
  exact ⟨rfl, rfl⟩
set_option maxHeartbeats 400000 in
theorem jump_any (g : Fn) (a b : Array Value) (w : World) :
    Calls Tryz.prog 91 #[.func g a b] w fun e w' => e = .returned (.func (.func 153) #[] #[.pointer (some ⟨w.heap.size, 0, none⟩)]) ∧ w' = w.alloc (.cells #[.func g a b] 161) := by
  go_enter Tryz.func91, Tryz.ntmps91
  go_wp2
  go_ret
  exact ⟨rfl, rfl⟩
set_option maxHeartbeats 400000 in
theorem sets_any (g : Fn) (a b : Array Value) (w : World) :
    Calls Tryz.prog 55 #[.func g a b] w fun e w' => e = .returned (.func (.func 131) #[] #[.pointer (some ⟨w.heap.size, 0, none⟩)]) ∧ w' = w.alloc (.cells #[.func g a b] 137) := by
  go_enter Tryz.func55, Tryz.ntmps55
  go_wp2
  go_ret
  exact ⟨rfl, rfl⟩
set_option maxHeartbeats 400000 in
theorem nothing_any  (w : World) :
    Calls Tryz.prog 54 #[] w fun e w' => e = .returned (.func (.func 130) #[] #[]) ∧ w' = w := by
  go_enter Tryz.func54, Tryz.ntmps54
  go_wp2
  go_ret
  exact ⟨rfl, rfl⟩
set_option maxHeartbeats 400000 in
theorem divisor_any  (w : World) :
    Calls Tryz.prog 74 #[] w fun e w' => e = .returned (.func (.func 142) #[] #[]) ∧ w' = w := by
  go_enter Tryz.func74, Tryz.ntmps74
  go_wp2
  go_ret
  exact ⟨rfl, rfl⟩
set_option maxHeartbeats 400000 in
theorem nowhere_any  (w : World) :
    Calls Tryz.prog 58 #[] w fun e w' => e = .returned (.func (.func 133) #[] #[]) ∧ w' = w := by
  go_enter Tryz.func58, Tryz.ntmps58
  go_wp2
  go_ret
  exact ⟨rfl, rfl⟩
set_option maxHeartbeats 400000 in
theorem same_any  (w : World) :
    Calls Tryz.prog 85 #[] w fun e w' => e = .returned (.func (.func 150) #[] #[]) ∧ w' = w := by
  go_enter Tryz.func85, Tryz.ntmps85
  go_wp2
  go_ret
  exact ⟨rfl, rfl⟩
set_option maxHeartbeats 400000 in
theorem placeR_any (p : Int) (w : World) :
    Calls Tryz.prog 84 #[.int .i64 p] w fun e w' => e = .returned (.func (.func 149) #[] #[.pointer (some ⟨w.heap.size, 0, none⟩)]) ∧ w' = w.alloc (.cells #[.int .i64 p] 2) := by
  go_enter Tryz.func84, Tryz.ntmps84
  go_wp2
  go_ret
  exact ⟨rfl, rfl⟩
set_option maxHeartbeats 400000 in
theorem placeS_any (p : Int) (w : World) :
    Calls Tryz.prog 78 #[.int .i64 p] w fun e w' => e = .returned (.func (.func 145) #[] #[.pointer (some ⟨w.heap.size, 0, none⟩)]) ∧ w' = w.alloc (.cells #[.int .i64 p] 2) := by
  go_enter Tryz.func78, Tryz.ntmps78
  go_wp2
  go_ret
  exact ⟨rfl, rfl⟩
set_option maxHeartbeats 400000 in
theorem fetch_any (p : Int) (g : Fn) (a b : Array Value) (w : World) :
    Calls Tryz.prog 76 #[.int .i64 p, .func g a b] w fun e w' => e = .returned (.func (.func 144) #[] #[.pointer (some ⟨w.heap.size, 0, none⟩), .pointer (some ⟨w.heap.size + 1, 0, none⟩)]) ∧ w' = (w.alloc (.cells #[.int .i64 p] 2)).alloc (.cells #[.func g a b] 151) := by
  go_enter Tryz.func76, Tryz.ntmps76
  go_wp2
  go_ret
  exact ⟨rfl, rfl⟩
set_option maxHeartbeats 400000 in
theorem store_any (p : Int) (g : Fn) (a b : Array Value) (w : World) :
    Calls Tryz.prog 82 #[.int .i64 p, .func g a b] w fun e w' => e = .returned (.func (.func 148) #[] #[.pointer (some ⟨w.heap.size, 0, none⟩), .pointer (some ⟨w.heap.size + 1, 0, none⟩)]) ∧ w' = (w.alloc (.cells #[.int .i64 p] 2)).alloc (.cells #[.func g a b] 156) := by
  go_enter Tryz.func82, Tryz.ntmps82
  go_wp2
  go_ret
  exact ⟨rfl, rfl⟩
set_option maxHeartbeats 400000 in
theorem turn_any (g h : Fn) (a b c d : Array Value) (w : World) :
    Calls Tryz.prog 94 #[.func g a b, .func h c d] w fun e w' => e = .returned (.func (.func 154) #[] #[.pointer (some ⟨w.heap.size, 0, none⟩), .pointer (some ⟨w.heap.size + 1, 0, none⟩)]) ∧ w' = (w.alloc (.cells #[.func g a b] 128)).alloc (.cells #[.func h c d] 163) := by
  go_enter Tryz.func94, Tryz.ntmps94
  go_wp2
  go_ret
  exact ⟨rfl, rfl⟩
set_option maxHeartbeats 400000 in
theorem reckons_any (g : Fn) (a b : Array Value) (w : World) :
    Calls Tryz.prog 65 #[.func g a b] w fun e w' => e = .returned (.func (.func 131) #[] #[.pointer (some ⟨w.heap.size + 1, 0, none⟩)]) ∧ w' = (w.alloc (.cells #[.func g a b] 146)).alloc (.cells #[.func (.func 136) #[] #[.pointer (some ⟨w.heap.size, 0, none⟩)]] 137) := by
  go_enter Tryz.func65, Tryz.ntmps65
  go_wp2_with (go_at_call 55; refine (sets_any _ _ _ _).mono ?_; rintro e w' ⟨rfl, rfl⟩)
  go_ret
  exact ⟨rfl, rfl⟩
set_option maxHeartbeats 400000 in
theorem fetches_any (x y : Int) (w : World) :
    Calls Tryz.prog 79 #[.agg #[.int .i64 x, .int .i64 y]] w fun e w' => e = .returned (.func (.func 131) #[] #[.pointer (some ⟨w.heap.size + 1, 0, none⟩)]) ∧ w' = (w.alloc (.cells #[.int .i64 x, .int .i64 y] 132)).alloc (.cells #[.func (.func 147) #[] #[.pointer (some ⟨w.heap.size, 0, none⟩)]] 137) := by
  go_enter Tryz.func79, Tryz.ntmps79
  go_wp2_with (go_at_call 55; refine (sets_any _ _ _ _).mono ?_; rintro e w' ⟨rfl, rfl⟩)
  go_ret
  exact ⟨rfl, rfl⟩
set_option maxHeartbeats 400000 in
theorem All_any (w : World) :
    Calls Tryz.prog 81 #[] w fun e w' => e = .returned (.agg #[.int .i64 (-9223372036854775808), .int .i64 9223372036854775807]) ∧ w' = w.alloc (.cells #[.int .i64 (-9223372036854775808), .int .i64 9223372036854775807] 132) := by
  go_enter Tryz.func81, Tryz.ntmps81
  go_wp2
  exact bodyPost_ret (v := .agg #[.int .i64 (-9223372036854775808), .int .i64 9223372036854775807]) (by simp [results, Tryz.results81, go_sem]) rfl ⟨rfl, rfl⟩
end Go.Proofs.YtngopilbpiplhaaGreatDoor
