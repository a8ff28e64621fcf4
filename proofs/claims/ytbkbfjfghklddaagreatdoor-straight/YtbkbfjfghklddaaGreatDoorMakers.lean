/-
  The contracts of the functions that make the table's closures: what each hands back, and which block holds what it captured.
-/
import Derived.Test.YtbkbfjfghklddaaGreatDoorBase
namespace Go.Proofs.YtbkbfjfghklddaaGreatDoor
open Go.RowKit

set_option maxHeartbeats 400000 in
theorem become_any (g : Fn) (a b : Array Value) (w : World) :
    Calls Tryz.prog 23 #[.func g a b] w fun e w' => e = .returned (.func (.func 95) #[] #[.pointer (some ⟨w.heap.size, 0, none⟩)]) ∧ w' = w.alloc (.cells #[.func g a b] 67) := by
  go_enter Tryz.func23, Tryz.ntmps23
  go_wp2
  go_ret
  exact ⟨rfl, rfl⟩
set_option maxHeartbeats 400000 in
theorem reckon_any (g : Fn) (a b : Array Value) (w : World) :
    Calls Tryz.prog 34 #[.func g a b] w fun e w' => e = .returned (.func (.func 102) #[] #[.pointer (some ⟨w.heap.size, 0, none⟩)]) ∧ w' = w.alloc (.cells #[.func g a b] 88) := by
  go_enter Tryz.func34, Tryz.ntmps34
  go_wp2
  go_ret
  exact ⟨rfl, rfl⟩
set_option maxHeartbeats 400000 in
theorem hand_any (g : Fn) (a b : Array Value) (w : World) :
    Calls Tryz.prog 59 #[.func g a b] w fun e w' => e = .returned (.func (.func 118) #[] #[.pointer (some ⟨w.heap.size, 0, none⟩)]) ∧ w' = w.alloc (.cells #[.func g a b] 103) := by
  go_enter Tryz.func59, Tryz.ntmps59
  go_wp2
  go_ret
  exact ⟨rfl, rfl⟩
set_option maxHeartbeats 400000 in
theorem jump_any (g : Fn) (a b : Array Value) (w : World) :
    Calls Tryz.prog 62 #[.func g a b] w fun e w' => e = .returned (.func (.func 120) #[] #[.pointer (some ⟨w.heap.size, 0, none⟩)]) ∧ w' = w.alloc (.cells #[.func g a b] 105) := by
  go_enter Tryz.func62, Tryz.ntmps62
  go_wp2
  go_ret
  exact ⟨rfl, rfl⟩
set_option maxHeartbeats 400000 in
theorem sets_any (g : Fn) (a b : Array Value) (w : World) :
    Calls Tryz.prog 26 #[.func g a b] w fun e w' => e = .returned (.func (.func 98) #[] #[.pointer (some ⟨w.heap.size, 0, none⟩)]) ∧ w' = w.alloc (.cells #[.func g a b] 81) := by
  go_enter Tryz.func26, Tryz.ntmps26
  go_wp2
  go_ret
  exact ⟨rfl, rfl⟩
set_option maxHeartbeats 400000 in
theorem nothing_any  (w : World) :
    Calls Tryz.prog 25 #[] w fun e w' => e = .returned (.func (.func 97) #[] #[]) ∧ w' = w := by
  go_enter Tryz.func25, Tryz.ntmps25
  go_wp2
  go_ret
  exact ⟨rfl, rfl⟩
set_option maxHeartbeats 400000 in
theorem divisor_any  (w : World) :
    Calls Tryz.prog 45 #[] w fun e w' => e = .returned (.func (.func 109) #[] #[]) ∧ w' = w := by
  go_enter Tryz.func45, Tryz.ntmps45
  go_wp2
  go_ret
  exact ⟨rfl, rfl⟩
set_option maxHeartbeats 400000 in
theorem nowhere_any  (w : World) :
    Calls Tryz.prog 29 #[] w fun e w' => e = .returned (.func (.func 100) #[] #[]) ∧ w' = w := by
  go_enter Tryz.func29, Tryz.ntmps29
  go_wp2
  go_ret
  exact ⟨rfl, rfl⟩
set_option maxHeartbeats 400000 in
theorem same_any  (w : World) :
    Calls Tryz.prog 56 #[] w fun e w' => e = .returned (.func (.func 117) #[] #[]) ∧ w' = w := by
  go_enter Tryz.func56, Tryz.ntmps56
  go_wp2
  go_ret
  exact ⟨rfl, rfl⟩
set_option maxHeartbeats 400000 in
theorem placeR_any (p : Int) (w : World) :
    Calls Tryz.prog 55 #[.int .i64 p] w fun e w' => e = .returned (.func (.func 116) #[] #[.pointer (some ⟨w.heap.size, 0, none⟩)]) ∧ w' = w.alloc (.cells #[.int .i64 p] 2) := by
  go_enter Tryz.func55, Tryz.ntmps55
  go_wp2
  go_ret
  exact ⟨rfl, rfl⟩
set_option maxHeartbeats 400000 in
theorem placeS_any (p : Int) (w : World) :
    Calls Tryz.prog 49 #[.int .i64 p] w fun e w' => e = .returned (.func (.func 112) #[] #[.pointer (some ⟨w.heap.size, 0, none⟩)]) ∧ w' = w.alloc (.cells #[.int .i64 p] 2) := by
  go_enter Tryz.func49, Tryz.ntmps49
  go_wp2
  go_ret
  exact ⟨rfl, rfl⟩
set_option maxHeartbeats 400000 in
theorem fetch_any (p : Int) (g : Fn) (a b : Array Value) (w : World) :
    Calls Tryz.prog 47 #[.int .i64 p, .func g a b] w fun e w' => e = .returned (.func (.func 111) #[] #[.pointer (some ⟨w.heap.size, 0, none⟩), .pointer (some ⟨w.heap.size + 1, 0, none⟩)]) ∧ w' = (w.alloc (.cells #[.int .i64 p] 2)).alloc (.cells #[.func g a b] 95) := by
  go_enter Tryz.func47, Tryz.ntmps47
  go_wp2
  go_ret
  exact ⟨rfl, rfl⟩
set_option maxHeartbeats 400000 in
theorem store_any (p : Int) (g : Fn) (a b : Array Value) (w : World) :
    Calls Tryz.prog 53 #[.int .i64 p, .func g a b] w fun e w' => e = .returned (.func (.func 115) #[] #[.pointer (some ⟨w.heap.size, 0, none⟩), .pointer (some ⟨w.heap.size + 1, 0, none⟩)]) ∧ w' = (w.alloc (.cells #[.int .i64 p] 2)).alloc (.cells #[.func g a b] 100) := by
  go_enter Tryz.func53, Tryz.ntmps53
  go_wp2
  go_ret
  exact ⟨rfl, rfl⟩
set_option maxHeartbeats 400000 in
theorem turn_any (g h : Fn) (a b c d : Array Value) (w : World) :
    Calls Tryz.prog 65 #[.func g a b, .func h c d] w fun e w' => e = .returned (.func (.func 121) #[] #[.pointer (some ⟨w.heap.size, 0, none⟩), .pointer (some ⟨w.heap.size + 1, 0, none⟩)]) ∧ w' = (w.alloc (.cells #[.func g a b] 72)).alloc (.cells #[.func h c d] 107) := by
  go_enter Tryz.func65, Tryz.ntmps65
  go_wp2
  go_ret
  exact ⟨rfl, rfl⟩
set_option maxHeartbeats 400000 in
theorem reckons_any (g : Fn) (a b : Array Value) (w : World) :
    Calls Tryz.prog 36 #[.func g a b] w fun e w' => e = .returned (.func (.func 98) #[] #[.pointer (some ⟨w.heap.size + 1, 0, none⟩)]) ∧ w' = (w.alloc (.cells #[.func g a b] 90)).alloc (.cells #[.func (.func 103) #[] #[.pointer (some ⟨w.heap.size, 0, none⟩)]] 81) := by
  go_enter Tryz.func36, Tryz.ntmps36
  go_wp2_with (go_at_call 26; refine (sets_any _ _ _ _).mono ?_; rintro e w' ⟨rfl, rfl⟩)
  go_ret
  exact ⟨rfl, rfl⟩
set_option maxHeartbeats 400000 in
theorem fetches_any (x y : Int) (w : World) :
    Calls Tryz.prog 50 #[.agg #[.int .i64 x, .int .i64 y]] w fun e w' => e = .returned (.func (.func 98) #[] #[.pointer (some ⟨w.heap.size + 1, 0, none⟩)]) ∧ w' = (w.alloc (.cells #[.int .i64 x, .int .i64 y] 76)).alloc (.cells #[.func (.func 114) #[] #[.pointer (some ⟨w.heap.size, 0, none⟩)]] 81) := by
  go_enter Tryz.func50, Tryz.ntmps50
  go_wp2_with (go_at_call 26; refine (sets_any _ _ _ _).mono ?_; rintro e w' ⟨rfl, rfl⟩)
  go_ret
  exact ⟨rfl, rfl⟩
set_option maxHeartbeats 400000 in
theorem All_any (w : World) :
    Calls Tryz.prog 52 #[] w fun e w' => e = .returned (.agg #[.int .i64 (-9223372036854775808), .int .i64 9223372036854775807]) ∧ w' = w.alloc (.cells #[.int .i64 (-9223372036854775808), .int .i64 9223372036854775807] 76) := by
  go_enter Tryz.func52, Tryz.ntmps52
  go_wp2
  exact bodyPost_ret (v := .agg #[.int .i64 (-9223372036854775808), .int .i64 9223372036854775807]) (by simp [results, Tryz.results52, go_sem]) rfl ⟨rfl, rfl⟩
end Go.Proofs.YtbkbfjfghklddaaGreatDoor
