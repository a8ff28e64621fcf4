/-
  The contracts of words.Find, Jumps, TakesR, TakesS: what the table's row says; new blocks alone.
-/
import Derived.Test.YtngopilbpiplhaaGreatDoorTabDef
import Derived.Test.YtngopilbpiplhaaGreatDoorParse
import Derived.Laws.EntriesVeiled
namespace Go.Proofs.YtngopilbpiplhaaGreatDoor
open Go.RowKit

/-- The row of the word of that name. -/
def findF (nm : List UInt8) : Option Nat := (List.range 17).find? fun i => wName i == nm
theorem findF_some {nm : List UInt8} {k : Nat} (hk : k < 17) (h : wName k = nm) (hb : ∀ i, i < k → wName i ≠ nm) : findF nm = some k := by
  unfold findF
  rw [List.find?_range_eq_some]
  exact ⟨by simpa using h, by simpa using hk, fun j hj => by simpa using hb j hj⟩
theorem findF_none {nm : List UInt8} (hb : ∀ i, i < 17 → wName i ≠ nm) : findF nm = none := by
  unfold findF
  rw [List.find?_range_eq_none]
  intro i hi
  simpa using hb i hi

theorem row_funcs (s : Nat) {k : Nat} (hk : k < 17) : ∃ f4 b4 f5 b5 f6 b6 f7 b7, wDo s k = .func (.func f4) #[] b4 ∧ wNeeds s k = .func (.func f5) #[] b5 ∧ wNext s k = .func (.func f6) #[] b6 ∧ wJump s k = .func (.func f7) #[] b7 := by
  match k, hk with
  | 0, _ => exact ⟨_, _, _, _, _, _, _, _, rfl, rfl, rfl, rfl⟩
  | 1, _ => exact ⟨_, _, _, _, _, _, _, _, rfl, rfl, rfl, rfl⟩
  | 2, _ => exact ⟨_, _, _, _, _, _, _, _, rfl, rfl, rfl, rfl⟩
  | 3, _ => exact ⟨_, _, _, _, _, _, _, _, rfl, rfl, rfl, rfl⟩
  | 4, _ => exact ⟨_, _, _, _, _, _, _, _, rfl, rfl, rfl, rfl⟩
  | 5, _ => exact ⟨_, _, _, _, _, _, _, _, rfl, rfl, rfl, rfl⟩
  | 6, _ => exact ⟨_, _, _, _, _, _, _, _, rfl, rfl, rfl, rfl⟩
  | 7, _ => exact ⟨_, _, _, _, _, _, _, _, rfl, rfl, rfl, rfl⟩
  | 8, _ => exact ⟨_, _, _, _, _, _, _, _, rfl, rfl, rfl, rfl⟩
  | 9, _ => exact ⟨_, _, _, _, _, _, _, _, rfl, rfl, rfl, rfl⟩
  | 10, _ => exact ⟨_, _, _, _, _, _, _, _, rfl, rfl, rfl, rfl⟩
  | 11, _ => exact ⟨_, _, _, _, _, _, _, _, rfl, rfl, rfl, rfl⟩
  | 12, _ => exact ⟨_, _, _, _, _, _, _, _, rfl, rfl, rfl, rfl⟩
  | 13, _ => exact ⟨_, _, _, _, _, _, _, _, rfl, rfl, rfl, rfl⟩
  | 14, _ => exact ⟨_, _, _, _, _, _, _, _, rfl, rfl, rfl, rfl⟩
  | 15, _ => exact ⟨_, _, _, _, _, _, _, _, rfl, rfl, rfl, rfl⟩
  | 16, _ => exact ⟨_, _, _, _, _, _, _, _, rfl, rfl, rfl, rfl⟩
  | n + 17, h => exact absurd h (by omega)

set_option maxHeartbeats 1000000 in
theorem Find_any (nm : List UInt8) (s : Nat) (w : World) (ht : w.heap[s + 55]? = some (.cells (trows s) 140)) :
    Calls Tryz.prog 198 #[.slice (some ⟨s + 55, 0, none⟩) 17 17, .string ⟨nm.toArray⟩] w fun e w' => e = .returned (resReg (findF nm)) ∧ Below w.heap.size w w' := by
  have HT := hide ht
  have hlt := blk_lt ht
  clear ht
  go_enter Tryz.func198, Tryz.ntmps198
  go_wp2
  go_loopw [10] (fun i w' => ∃ k : Nat, k ≤ 17 ∧ i = .int .i64 k ∧ (∀ j, j < k → wName j ≠ nm) ∧ Below w.heap.size w w') (fun i _ => 17 - (intOf i).toNat)
  case atStart => exact ⟨0, by omega, rfl, fun j h => absurd h (by omega), Below.refl _ _⟩
  case round =>
    obtain ⟨k, hk, rfl, hno, hb⟩ := hrel
    have HN := hide hno
    clear hno
    by_cases hk7 : k < 17
    · have hr := rowAt (w := wr) (s := s) (i := k) (by rw [hb.block _ hlt]; exact HT.out) hk7
      obtain ⟨r0, r1, r2, r3, r4, r5, r6, r7⟩ := hr
      obtain ⟨f4, b4, f5, b5, f6, b6, f7, b7, e4, e5, e6, e7⟩ := row_funcs s hk7
      rw [e4] at r4
      rw [e5] at r5
      rw [e6] at r6
      rw [e7] at r7
      clear e4 e5 e6 e7
      by_cases hnm : wName k = nm
      · have HF := hide (findF_some hk7 hnm HN.out)
        have hnm' : (wName k == nm) = true := by simpa using hnm
        clear hnm
        go_wp2
        go_ret2
        refine ⟨by rw [HF.out]; rfl, ?_⟩
        exact hb.trans ((Below.refl _ _).alloc hb.size _)
      · have HF := hide hnm
        have hnm' : (wName k == nm) = false := by simpa using hnm
        clear hnm
        go_wp2
        go_roundw
        case rel =>
          refine ⟨k + 1, by omega, by go_num, fun j hj => ?_, hb.trans ((Below.refl _ _).alloc hb.size _)⟩
          rcases Nat.lt_succ_iff_lt_or_eq.1 hj with h | h
          · exact HN.out j h
          · rw [h]; exact HF.out
        case measure => simp [intOf]; omega
    · obtain rfl : k = 17 := by omega
      have HF := hide (findF_none HN.out)
      clear HN
      go_wp2
      go_ret2
      exact ⟨by rw [HF.out]; rfl, hb⟩

/-- Does a text bear a letter? -/
def hasB (l : List UInt8) (c : UInt8) : Bool := decide (0 ≤ Lib.indexByte l c)

set_option maxHeartbeats 400000 in
theorem Jumps_any (n p t : ByteArray) (fl : Bool) (f4 : FuncId) (b4 : Array Value) (f5 : FuncId) (b5 : Array Value) (f6 : FuncId) (b6 : Array Value) (f7 : FuncId) (b7 : Array Value) (w : World) :
    Calls Tryz.prog 158 #[.agg #[.string n, .string p, .string t, .bool fl, .func (.func f4) #[] b4, .func (.func f5) #[] b5, .func (.func f6) #[] b6, .func (.func f7) #[] b7]] w
      fun e w' => e = .returned (.bool (hasB p.data.toList 76)) ∧ Below w.heap.size w w' := by
  go_enter Tryz.func158, Tryz.ntmps158
  go_wp2_with (go_at_call 201; refine (Tryz.strings_Contains_one _ _ _).mono ?_; rintro e w' ⟨rfl, rfl⟩)
  go_ret
  exact ⟨rfl, (Below.refl _ _).alloc (Nat.le_refl _) _⟩
set_option maxHeartbeats 400000 in
theorem TakesR_any (n p t : ByteArray) (fl : Bool) (f4 : FuncId) (b4 : Array Value) (f5 : FuncId) (b5 : Array Value) (f6 : FuncId) (b6 : Array Value) (f7 : FuncId) (b7 : Array Value) (w : World) :
    Calls Tryz.prog 202 #[.agg #[.string n, .string p, .string t, .bool fl, .func (.func f4) #[] b4, .func (.func f5) #[] b5, .func (.func f6) #[] b6, .func (.func f7) #[] b7]] w
      fun e w' => e = .returned (.bool (hasB t.data.toList 82)) ∧ Below w.heap.size w w' := by
  go_enter Tryz.func202, Tryz.ntmps202
  go_wp2_with (go_at_call 201; refine (Tryz.strings_Contains_one _ _ _).mono ?_; rintro e w' ⟨rfl, rfl⟩)
  go_ret
  exact ⟨rfl, (Below.refl _ _).alloc (Nat.le_refl _) _⟩
set_option maxHeartbeats 400000 in
theorem TakesS_any (n p t : ByteArray) (fl : Bool) (f4 : FuncId) (b4 : Array Value) (f5 : FuncId) (b5 : Array Value) (f6 : FuncId) (b6 : Array Value) (f7 : FuncId) (b7 : Array Value) (w : World) :
    Calls Tryz.prog 204 #[.agg #[.string n, .string p, .string t, .bool fl, .func (.func f4) #[] b4, .func (.func f5) #[] b5, .func (.func f6) #[] b6, .func (.func f7) #[] b7]] w
      fun e w' => e = .returned (.bool (hasB t.data.toList 83)) ∧ Below w.heap.size w w' := by
  go_enter Tryz.func204, Tryz.ntmps204
  go_wp2_with (go_at_call 201; refine (Tryz.strings_Contains_one _ _ _).mono ?_; rintro e w' ⟨rfl, rfl⟩)
  go_ret
  exact ⟨rfl, (Below.refl _ _).alloc (Nat.le_refl _) _⟩

end Go.Proofs.YtngopilbpiplhaaGreatDoor
