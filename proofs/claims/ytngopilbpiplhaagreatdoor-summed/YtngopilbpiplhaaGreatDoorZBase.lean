/-
  Small facts used by the walks: a block that is a known object, a world in which all blocks below a number but one are as they were, and the contracts of two small functions (pick, decimal). Conditions stand in each theorem's head.
  The plain mathematics of reading: numbers, registers and lines of a program as lists of bytes. Nothing of the program is used here.
  The contracts of the functions that make the table's closures: what each hands back, and which block holds what it captured.
  The contract of words.Rows: the table of words in new memory; each call lays the same 56 blocks, the last of which holds the rows.
-/
import Derived.Test.YtngopilbpiplhaaGreatDoorProg
import Derived.WalkKit
import Derived.WalkSpells
import Derived.WalkLawsBesides
import Derived.BigQuiet
import Derived.Deep.QuietTactic
import Derived.Deep.RegionWith
import Derived.Lib.ItoaNum
import Derived.Lib.ParseIntB
import Derived.Lib.Strings
import Derived.Lib.Bytealg
namespace Go.Proofs.YtngopilbpiplhaaGreatDoor
open Go.RowKit

/-- Below block number B all but block b is as it was; the streams are as they were; no block has gone. -/
structure Keep (B b : Nat) (w w' : World) : Prop where
  os : w'.os = w.os
  tape : w'.tape = w.tape
  output : w'.output = w.output
  size : w.heap.size ≤ w'.heap.size
  block : ∀ k, k < B → k ≠ b → w'.heap[k]? = w.heap[k]?

theorem Keep.refl (B b : Nat) (w : World) : Keep B b w w := ⟨rfl, rfl, rfl, Nat.le_refl _, fun _ _ _ => rfl⟩
theorem Keep.trans {B b : Nat} {u v w : World} (h : Keep B b u v) (k : Keep B b v w) : Keep B b u w :=
  ⟨k.os.trans h.os, k.tape.trans h.tape, k.output.trans h.output, Nat.le_trans h.size k.size, fun i hi hb => (k.block i hi hb).trans (h.block i hi hb)⟩
theorem Keep.drew {B b : Nat} {a w : World} (h : Keep B b a w) : Keep B b a w.drew := ⟨h.os, h.tape, h.output, h.size, h.block⟩
theorem Keep.alloc {B b : Nat} {a w : World} (h : Keep B b a w) (hB : B ≤ w.heap.size) (o : Obj) : Keep B b a (w.alloc o) :=
  ⟨h.os, h.tape, h.output, by rw [World.size_alloc]; have := h.size; omega, fun k hk hb => (Below.heap_alloc w o k (by omega)).trans (h.block k hk hb)⟩
theorem Keep.setCell {B b : Nat} {a w : World} (h : Keep B b a w) {p : Addr} (hp : B ≤ p.block ∨ p.block = b) (u : Value) : Keep B b a (w.setCell p u) :=
  ⟨h.os, h.tape, h.output, by rw [World.size_setCell]; exact h.size, fun k hk hb => (Below.heap_setCell w p u k (by omega)).trans (h.block k hk hb)⟩
theorem Keep.of_below {B b : Nat} {w w' : World} (h : Below B w w') : Keep B b w w' := ⟨h.os, h.tape, h.output, h.size, fun k hk _ => h.block k hk⟩
theorem Keep.mono {B B' b : Nat} {w w' : World} (h : Keep B b w w') (hB : B' ≤ B) : Keep B' b w w' := ⟨h.os, h.tape, h.output, h.size, fun k hk hb => h.block k (by omega) hb⟩
theorem Keep.below {B b : Nat} {w w' : World} (h : Keep B b w w') (hb : B ≤ b) : Below B w w' := ⟨h.os, h.tape, h.output, h.size, fun k hk => h.block k hk (by omega)⟩
theorem Keep.cell {B b : Nat} {w w' : World} (h : Keep B b w w') {p : Addr} (hp : p.block < B) (hb : p.block ≠ b) : w'.cell? p = w.cell? p := World.cell?_of_block (w := w) (h.block p.block hp hb)

theorem bcell {W w1 : World} (hb : Below W.heap.size W w1) : (∀ b o, b < W.heap.size → w1.cell? ⟨b, o, none⟩ = W.cell? ⟨b, o, none⟩) ∧ (∀ b o, b < W.heap.size → w1.frozen? ⟨b, o, none⟩ = W.frozen? ⟨b, o, none⟩) :=
  ⟨fun b o h => hb.cell (p := ⟨b, o, none⟩) h, fun b o h => hb.frozen (p := ⟨b, o, none⟩) h⟩

theorem cell_of_blk {w : World} {b : Nat} {arr : Array Value} {t : TypeId} {z : Nat × Nat} (h : w.heap[b]? = some (.cells arr t z)) (o : Nat) : w.cell? ⟨b, o, none⟩ = arr[o]? := by
  simp [World.cell?, h]
theorem frozen_of_blk {w : World} {b : Nat} {arr : Array Value} {t : TypeId} (h : w.heap[b]? = some (.cells arr t (0, 0))) (o : Nat) : w.frozen? ⟨b, o, none⟩ = false := by
  simp [World.frozen?, h]
theorem blk_setCell {w : World} {b : Nat} {arr : Array Value} {t : TypeId} {z : Nat × Nat} (h : w.heap[b]? = some (.cells arr t z)) (o : Nat) (v : Value) : (w.setCell ⟨b, o, none⟩ v).heap[b]? = some (.cells (arr.setIfInBounds o v) t z) := by
  simp [World.setCell, Array.getElem?_modify, h]
theorem blk_alloc {w : World} {b : Nat} {o : Obj} (h : w.heap[b]? = some o) (o' : Obj) : (w.alloc o').heap[b]? = some o := by
  have hb : b < w.heap.size := by rcases Nat.lt_or_ge b w.heap.size with q | q; exact q; rw [Array.getElem?_eq_none q] at h; cases h
  rw [Below.heap_alloc w o' b hb, h]
theorem blk_new (w : World) (o : Obj) : (w.alloc o).heap[w.heap.size]? = some o := by
  show (w.heap.push o)[w.heap.size]? = some o
  simp
theorem blk_lt {w : World} {b : Nat} {o : Obj} (h : w.heap[b]? = some o) : b < w.heap.size := by
  rcases Nat.lt_or_ge b w.heap.size with q | q; exact q; rw [Array.getElem?_eq_none q] at h; cases h

theorem below_drewN {B : Nat} {a w : World} (h : Below B a w) (n : Nat) : Below B a (w.drewN n) := ⟨h.os, h.tape, h.output, h.size, h.block⟩
theorem Keep.drewN {B b : Nat} {a w : World} (h : Keep B b a w) (n : Nat) : Keep B b a (w.drewN n) := ⟨h.os, h.tape, h.output, h.size, h.block⟩
theorem hide {p : Prop} (h : p) : Hid p := h
theorem unhide {p : Prop} (h : Hid p) : p := h

/-- What the calls lean on of the package-level variables (blocks 0 to 7): MaxLen is a number, ErrSyntax and ErrRange are set. -/
structure Glob (w : World) : Prop where
  maxLen : ∃ m : Int, w.cell? ⟨0, 0, none⟩ = some (.int .i64 m)
  errSyntax : ∃ t p, w.cell? ⟨6, 0, none⟩ = some (.iface t p)
  errRange : ∃ t p, w.cell? ⟨7, 0, none⟩ = some (.iface t p)
  size : 8 ≤ w.heap.size
theorem Glob.mono {w w' : World} (h : Glob w) (hs : w.heap.size ≤ w'.heap.size) (hb : ∀ k, k < 8 → w'.heap[k]? = w.heap[k]?) : Glob w' :=
  ⟨by obtain ⟨m, e⟩ := h.maxLen; exact ⟨m, (World.cell?_of_block (hb 0 (by omega))).trans e⟩, by obtain ⟨t, p, e⟩ := h.errSyntax; exact ⟨t, p, (World.cell?_of_block (hb 6 (by omega))).trans e⟩,
   by obtain ⟨t, p, e⟩ := h.errRange; exact ⟨t, p, (World.cell?_of_block (hb 7 (by omega))).trans e⟩, Nat.le_trans h.size hs⟩
theorem Glob.below {B : Nat} {w w' : World} (h : Glob w) (hb : Below B w w') (hB : 8 ≤ B) : Glob w' := h.mono hb.size fun k hk => hb.block k (by omega)

theorem ret_int {k : IntKind} {a b : Int} (h : a = b) : Ending.returned (.int k a) = .returned (.int k b) := by rw [h]

/-- wardkeep.pick. -/
def pickF (c n : Int) : Int := (if c < 0 then -(c + 1) else c) % n
theorem pickF_lt (c n : Int) (hn : 0 < n) : 0 ≤ pickF c n ∧ pickF c n < n := ⟨Int.emod_nonneg _ (by omega), Int.emod_lt_of_pos _ hn⟩

set_option maxHeartbeats 400000 in
theorem pick_any (c n : Int) (w : World) (h0 : -9223372036854775808 ≤ c) (h1 : c ≤ 9223372036854775807) (hn : 0 < n) (hn2 : n ≤ 9223372036854775807) :
    Calls Tryz.prog 12 #[.int .i64 c, .int .i64 n] w fun e w' => e = .returned (.int .i64 (pickF c n)) ∧ w' = w := by
  have hn0 : ¬ n = 0 := by omega
  by_cases hc : c < 0
  · go_enter Tryz.func12, Tryz.ntmps12
    go_wp2
    go_ret
    refine ⟨ret_int ?_, rfl⟩
    unfold pickF; rw [if_pos hc, ← Int.neg_tmod, Int.tmod_eq_emod_of_nonneg (by omega)]
  · go_enter Tryz.func12, Tryz.ntmps12
    go_wp2
    go_ret
    exact ⟨ret_int (by unfold pickF; rw [if_neg (by omega)]), rfl⟩

/-- The digits of a number, none for 0. -/
def dd (u : Nat) : List UInt8 := if u = 0 then [] else Lib.decDigits u
theorem dd_step (u : Nat) (h : u ≠ 0) : dd u = dd (u / 10) ++ [UInt8.ofNat (48 + u % 10)] := by
  unfold dd
  rw [if_neg h]
  by_cases h1 : u < 10
  · rw [Lib.decDigits_one h1, if_pos (by omega), Nat.mod_eq_of_lt h1]; rfl
  · rw [Lib.decDigits, dif_neg h1, if_neg (by omega)]
theorem dd_len : ∀ (k u : Nat), u < 10 ^ k → (dd u).length ≤ k
  | 0, u, h => by
    have e : u = 0 := by simpa using h
    subst e; simp [dd]
  | k + 1, u, h => by
    by_cases e : u = 0
    · subst e; simp [dd]
    · rw [dd_step u e]
      have := dd_len k (u / 10) (by rw [Nat.pow_succ] at h; omega)
      simp; omega
theorem dd_len20 (u : Nat) (h : (u : Int) ≤ 9223372036854775808) : (dd u).length ≤ 19 := dd_len 19 u (by have : (10 : Nat) ^ 19 = 10000000000000000000 := rfl; omega)
theorem itoa_pos (u : Nat) (h : u ≠ 0) : Lib.itoa u = dd u := by unfold Lib.itoa dd; rw [if_neg (by omega), if_neg h]; rfl
theorem itoa_neg (u : Nat) (h : u ≠ 0) : Lib.itoa (-(u : Int)) = 45 :: dd u := by unfold Lib.itoa dd; rw [if_pos (by omega), if_neg h]; simp

theorem conv_digit (wr : World) (q : Nat) (d : Int) (hd : d = 48 + (q : Int)) (hq : q < 10) :
    (convert 76 9 (.slice (some ⟨wr.heap.size, 0, none⟩) 1 1)).run Tryz.prog (wr.alloc (.cells #[.int .u8 d] 5)) = .ok (.string ⟨#[UInt8.ofNat (48 + q)]⟩) (wr.alloc (.cells #[.int .u8 d] 5)) := by
  have h := run_convert_bytes_back (P := Tryz.prog) (wr.alloc (.cells #[.int .u8 d] 5)) 76 9 5 ⟨wr.heap.size, 0, none⟩ 1 [UInt8.ofNat (48 + q)] Tryz.underlying76 Tryz.underlying5 Tryz.underlying9
    (fun j hj => by
      obtain rfl : j = 0 := by simp at hj; omega
      have e : (⟨wr.heap.size, 0, none⟩ : Addr).add 0 = ⟨wr.heap.size, 0, none⟩ := by unfold Addr.add; split <;> simp_all
      rw [e, cell_of_blk (blk_new wr _)]
      simp [hd]
      omega)
  exact h

set_option maxRecDepth 100000 in
set_option maxHeartbeats 400000 in
theorem decimal_pos (u : Nat) (hu : u ≠ 0) (h1 : (u : Int) ≤ 9223372036854775807) (w : World) :
    Calls Tryz.prog 13 #[.int .i64 u] w fun e w' => e = .returned (.string ⟨(dd u).toArray⟩) ∧ Below w.heap.size w w' := by
  have b0 : ((u : Int) == 0) = false := beq_eq_false_iff_ne.2 (by omega)
  go_enter Tryz.func13, Tryz.ntmps13
  go_wp2
  go_loopw [3, 4] (fun s m w' => ∃ (q : Nat) (l : List UInt8), q ≤ u ∧ m = .int .i64 q ∧ s = .string ⟨l.toArray⟩ ∧ dd u = dd q ++ l ∧ Below w.heap.size w w') (fun _ m _ => (intOf m).toNat)
  case atStart => exact ⟨u, [], Nat.le_refl _, rfl, rfl, by simp, Below.refl _ _⟩
  case round =>
    obtain ⟨q, l, hq, rfl, rfl, hd, hb⟩ := hrel
    have HD : Hid (dd u = dd q ++ l) := hd
    clear hd
    by_cases hz : q = 0
    · subst hz
      go_wp2
      go_ret
      exact ⟨by rw [HD.out]; rfl, hb⟩
    · have q0 : ((q : Int) != 0) = true := by rw [bne_iff_ne]; omega
      have qq : (q : Int) ≤ 9223372036854775807 := by omega
      have qm : (q : Int) % 10 < 10 := by omega
      have qm0 : 0 ≤ (q : Int) % 10 := by omega
      have hl := congrArg List.length HD.out
      rw [List.length_append] at hl
      have hl9 := dd_len20 u (by omega)
      have hl2 : ¬ 9223372036854775807 < 1 + l.length := by omega
      clear hl hl9
      have hcv := conv_digit wr (q % 10) (48 + (q : Int) % 10) (by omega) (by omega)
      go_wp2
      go_roundw
      case rel =>
        refine ⟨q / 10, UInt8.ofNat (48 + q % 10) :: l, by omega, by go_num, ?_, ?_, ?_⟩
        · exact congrArg Value.string (ByteArray.ext (by simp [ByteArray.data_append]))
        · rw [HD.out, dd_step q hz]; simp
        · exact hb.trans ((Below.refl _ _).alloc hb.size _)
      case measure => simp [intOf]; omega

set_option maxRecDepth 100000 in
set_option maxHeartbeats 400000 in
theorem decimal_neg (u : Nat) (hu : u ≠ 0) (h1 : (u : Int) ≤ 9223372036854775808) (w : World) :
    Calls Tryz.prog 13 #[.int .i64 (-(u : Int))] w fun e w' => e = .returned (.string ⟨(45 :: dd u).toArray⟩) ∧ Below w.heap.size w w' := by
  have b0 : (-(u : Int) == 0) = false := beq_eq_false_iff_ne.2 (by omega)
  have bn : -(u : Int) < 0 := by omega
  go_enter Tryz.func13, Tryz.ntmps13
  go_wp2
  go_loopw [3, 4] (fun s m w' => ∃ (q : Nat) (l : List UInt8), q ≤ u ∧ m = .int .i64 (-(q : Int)) ∧ s = .string ⟨l.toArray⟩ ∧ dd u = dd q ++ l ∧ Below w.heap.size w w') (fun _ m _ => (-(intOf m)).toNat)
  case atStart => exact ⟨u, [], Nat.le_refl _, rfl, rfl, by simp, Below.refl _ _⟩
  case round =>
    obtain ⟨q, l, hq, rfl, rfl, hd, hb⟩ := hrel
    have HD : Hid (dd u = dd q ++ l) := hd
    clear hd
    have hl := congrArg List.length HD.out
    rw [List.length_append] at hl
    have hl9 := dd_len20 u (by omega)
    have hl2 : ¬ 9223372036854775807 < 1 + l.length := by omega
    clear hl hl9
    by_cases hz : q = 0
    · subst hz
      go_wp2
      go_ret
      exact ⟨by rw [HD.out]; exact congrArg (fun z => Ending.returned (Value.string z)) (ByteArray.ext (by simp [ByteArray.data_append, dd])), hb⟩
    · have q0 : (-(q : Int) != 0) = true := by rw [bne_iff_ne]; omega
      have qq : (q : Int) ≤ 9223372036854775808 := by omega
      have qm : (q : Int) % 10 < 10 := by omega
      have qm0 : 0 ≤ (q : Int) % 10 := by omega
      by_cases hx : (q : Int) % 10 = 0
      · have hcv := conv_digit wr 0 48 (by rfl) (by omega)
        go_wp2
        go_roundw
        case rel =>
          refine ⟨q / 10, UInt8.ofNat (48 + q % 10) :: l, by omega, by go_num, ?_, ?_, ?_⟩
          · have e : q % 10 = 0 := by omega
            rw [e]
            exact congrArg Value.string (ByteArray.ext (by simp [ByteArray.data_append]))
          · rw [HD.out, dd_step q hz]; simp
          · exact hb.trans ((Below.refl _ _).alloc hb.size _)
        case measure => simp [intOf]; omega
      · have hcv := conv_digit wr (q % 10) (48 + (q : Int) % 10) (by omega) (by omega)
        go_wp2
        go_roundw
        case rel =>
          refine ⟨q / 10, UInt8.ofNat (48 + q % 10) :: l, by omega, by go_num, ?_, ?_, ?_⟩
          · exact congrArg Value.string (ByteArray.ext (by simp [ByteArray.data_append]))
          · rw [HD.out, dd_step q hz]; simp
          · exact hb.trans ((Below.refl _ _).alloc hb.size _)
        case measure => simp [intOf]; omega

set_option maxHeartbeats 400000 in
theorem decimal_zero (w : World) :
    Calls Tryz.prog 13 #[.int .i64 0] w fun e w' => e = .returned (.string ⟨#[48]⟩) ∧ w' = w := by
  go_enter Tryz.func13, Tryz.ntmps13
  go_wp2
  go_ret
  exact ⟨rfl, rfl⟩

/-- wardkeep.decimal, at every number of 64 bits: its decimal text; new blocks alone. -/
theorem decimal_any (n : Int) (h0 : -9223372036854775808 ≤ n) (h1 : n ≤ 9223372036854775807) (w : World) :
    Calls Tryz.prog 13 #[.int .i64 n] w fun e w' => e = .returned (.string ⟨(Lib.itoa n).toArray⟩) ∧ Below w.heap.size w w' := by
  rcases Int.lt_trichotomy n 0 with h | h | h
  · obtain ⟨u, rfl⟩ : ∃ u : Nat, n = -(u : Int) := ⟨n.natAbs, by omega⟩
    rw [itoa_neg u (by omega)]
    exact decimal_neg u (by omega) (by omega) w
  · subst h
    refine (decimal_zero w).mono ?_
    rintro e w' ⟨rfl, rfl⟩
    exact ⟨by rw [show Lib.itoa 0 = [48] by decide +kernel], Below.refl _ _⟩
  · obtain ⟨u, rfl⟩ : ∃ u : Nat, n = (u : Int) := ⟨n.natAbs, by omega⟩
    rw [itoa_pos u (by omega)]
    exact decimal_pos u (by omega) (by omega) w

end Go.Proofs.YtngopilbpiplhaaGreatDoor

namespace Go.Proofs.YtngopilbpiplhaaGreatDoor

/-- A register's text: its number. -/
def regF (l : List UInt8) : Option Nat :=
  match l with
  | [a, b] => if a.toNat = 114 ∧ 48 ≤ b.toNat ∧ b.toNat < 56 then some (b.toNat - 48) else none
  | _ => none

/-- Are all of these digits? -/
def allDig (l : List UInt8) : Bool := l.all fun c => 48 ≤ c.toNat && c.toNat ≤ 57

def numOf : Lib.NumEnd Int → Option Int
  | .ok v => some v
  | _ => none
theorem allDig_snoc (l : List UInt8) (k : Nat) (h : k < l.length) : allDig (l.take (k + 1)) = (allDig (l.take k) && (48 ≤ l[k].toNat && l[k].toNat ≤ 57)) := by
  unfold allDig
  rw [List.take_succ_eq_append_getElem h, List.all_append]
  simp only [List.all_cons, List.all_nil, Bool.and_true]
theorem allDig_bad (l : List UInt8) (k : Nat) (h : k < l.length) (hb : ¬ (48 ≤ l[k].toNat ∧ l[k].toNat ≤ 57)) : allDig l = false := by
  rw [Bool.eq_false_iff]
  intro ha
  have := List.all_eq_true.1 ha l[k] (List.getElem_mem h)
  simp at this
  exact hb this

/-- A number's text: its number. -/
def numF (l : List UInt8) : Option Int :=
  let d := Lib.trimPrefix l [45]
  if d = [] ∨ (l ≠ [48] ∧ d.head? = some 48) then none
  else if allDig d then numOf (Lib.parseIntB 64 l) else none

/-- A line of a program: its word's row, R, S, and n or L. -/
structure Ln where
  word : Int
  r : Int
  s : Int
  n : Int

/-- One part of a line, by its kind (R, S, n, L). -/
def partF (x : Ln) (c : UInt8) (t : List UInt8) : Option Ln :=
  if c = 82 then (regF t).map fun (r : Nat) => { x with r := (r : Int) }
  else if c = 83 then (regF t).map fun (r : Nat) => { x with s := (r : Int) }
  else if c = 110 then (numF t).bind fun v => if -1000000000 ≤ v ∧ v ≤ 1000000000 then some { x with n := v } else none
  else if c = 76 then (numF t).bind fun v => if 0 ≤ v then some { x with n := v } else none
  else none

end Go.Proofs.YtngopilbpiplhaaGreatDoor

namespace Go.Proofs.YtngopilbpiplhaaGreatDoor
open Go.RowKit

set_option maxHeartbeats 400000 in
theorem become_any (g : Fn) (a b : Array Value) (w : World) :
    Calls Tryz.prog 52 #[.func g a b] w fun e w' => e = .returned (.func (.func 129) #[] #[.pointer (some ⟨w.heap.size, 0, none⟩)]) ∧ w' = w.alloc (.cells #[.func g a b] 123) := by
  go_enter Tryz.func52, Tryz.ntmps52
  go_wp2
  go_ret
  exact ⟨rfl, rfl⟩
set_option maxHeartbeats 400000 in
theorem reckon_any (g : Fn) (a b : Array Value) (w : World) :
    Calls Tryz.prog 63 #[.func g a b] w fun e w' => e = .returned (.func (.func 135) #[] #[.pointer (some ⟨w.heap.size, 0, none⟩)]) ∧ w' = w.alloc (.cells #[.func g a b] 144) := by
  go_enter Tryz.func63, Tryz.ntmps63
  go_wp2
  go_ret
  exact ⟨rfl, rfl⟩
set_option maxHeartbeats 400000 in
theorem hand_any (g : Fn) (a b : Array Value) (w : World) :
    Calls Tryz.prog 88 #[.func g a b] w fun e w' => e = .returned (.func (.func 151) #[] #[.pointer (some ⟨w.heap.size, 0, none⟩)]) ∧ w' = w.alloc (.cells #[.func g a b] 159) := by
  go_enter Tryz.func88, Tryz.ntmps88
  go_wp2
  go_ret
  exact ⟨rfl, rfl⟩
set_option maxHeartbeats 400000 in
theorem jump_any (g : Fn) (a b : Array Value) (w : World) :
    Calls Tryz.prog 91 #[.func g a b] w fun e w' => e = .returned (.func (.func 153) #[] #[.pointer (some ⟨w.heap.size, 0, none⟩)]) ∧ w' = w.alloc (.cells #[.func g a b] 161) := by
  go_enter Tryz.func91, Tryz.ntmps91
  go_wp2
  go_ret
  exact ⟨rfl, rfl⟩
set_option maxHeartbeats 400000 in
theorem sets_any (g : Fn) (a b : Array Value) (w : World) :
    Calls Tryz.prog 55 #[.func g a b] w fun e w' => e = .returned (.func (.func 131) #[] #[.pointer (some ⟨w.heap.size, 0, none⟩)]) ∧ w' = w.alloc (.cells #[.func g a b] 137) := by
  go_enter Tryz.func55, Tryz.ntmps55
  go_wp2
  go_ret
  exact ⟨rfl, rfl⟩
set_option maxHeartbeats 400000 in
theorem nothing_any  (w : World) :
    Calls Tryz.prog 54 #[] w fun e w' => e = .returned (.func (.func 130) #[] #[]) ∧ w' = w := by
  go_enter Tryz.func54, Tryz.ntmps54
  go_wp2
  go_ret
  exact ⟨rfl, rfl⟩
set_option maxHeartbeats 400000 in
theorem divisor_any  (w : World) :
    Calls Tryz.prog 74 #[] w fun e w' => e = .returned (.func (.func 142) #[] #[]) ∧ w' = w := by
  go_enter Tryz.func74, Tryz.ntmps74
  go_wp2
  go_ret
  exact ⟨rfl, rfl⟩
set_option maxHeartbeats 400000 in
theorem nowhere_any  (w : World) :
    Calls Tryz.prog 58 #[] w fun e w' => e = .returned (.func (.func 133) #[] #[]) ∧ w' = w := by
  go_enter Tryz.func58, Tryz.ntmps58
  go_wp2
  go_ret
  exact ⟨rfl, rfl⟩
set_option maxHeartbeats 400000 in
theorem same_any  (w : World) :
    Calls Tryz.prog 85 #[] w fun e w' => e = .returned (.func (.func 150) #[] #[]) ∧ w' = w := by
  go_enter Tryz.func85, Tryz.ntmps85
  go_wp2
  go_ret
  exact ⟨rfl, rfl⟩
set_option maxHeartbeats 400000 in
theorem placeR_any (p : Int) (w : World) :
    Calls Tryz.prog 84 #[.int .i64 p] w fun e w' => e = .returned (.func (.func 149) #[] #[.pointer (some ⟨w.heap.size, 0, none⟩)]) ∧ w' = w.alloc (.cells #[.int .i64 p] 2) := by
  go_enter Tryz.func84, Tryz.ntmps84
  go_wp2
  go_ret
  exact ⟨rfl, rfl⟩
set_option maxHeartbeats 400000 in
theorem placeS_any (p : Int) (w : World) :
    Calls Tryz.prog 78 #[.int .i64 p] w fun e w' => e = .returned (.func (.func 145) #[] #[.pointer (some ⟨w.heap.size, 0, none⟩)]) ∧ w' = w.alloc (.cells #[.int .i64 p] 2) := by
  go_enter Tryz.func78, Tryz.ntmps78
  go_wp2
  go_ret
  exact ⟨rfl, rfl⟩
set_option maxHeartbeats 400000 in
theorem fetch_any (p : Int) (g : Fn) (a b : Array Value) (w : World) :
    Calls Tryz.prog 76 #[.int .i64 p, .func g a b] w fun e w' => e = .returned (.func (.func 144) #[] #[.pointer (some ⟨w.heap.size, 0, none⟩), .pointer (some ⟨w.heap.size + 1, 0, none⟩)]) ∧ w' = (w.alloc (.cells #[.int .i64 p] 2)).alloc (.cells #[.func g a b] 151) := by
  go_enter Tryz.func76, Tryz.ntmps76
  go_wp2
  go_ret
  exact ⟨rfl, rfl⟩
set_option maxHeartbeats 400000 in
theorem store_any (p : Int) (g : Fn) (a b : Array Value) (w : World) :
    Calls Tryz.prog 82 #[.int .i64 p, .func g a b] w fun e w' => e = .returned (.func (.func 148) #[] #[.pointer (some ⟨w.heap.size, 0, none⟩), .pointer (some ⟨w.heap.size + 1, 0, none⟩)]) ∧ w' = (w.alloc (.cells #[.int .i64 p] 2)).alloc (.cells #[.func g a b] 156) := by
  go_enter Tryz.func82, Tryz.ntmps82
  go_wp2
  go_ret
  exact ⟨rfl, rfl⟩
set_option maxHeartbeats 400000 in
theorem turn_any (g h : Fn) (a b c d : Array Value) (w : World) :
    Calls Tryz.prog 94 #[.func g a b, .func h c d] w fun e w' => e = .returned (.func (.func 154) #[] #[.pointer (some ⟨w.heap.size, 0, none⟩), .pointer (some ⟨w.heap.size + 1, 0, none⟩)]) ∧ w' = (w.alloc (.cells #[.func g a b] 128)).alloc (.cells #[.func h c d] 163) := by
  go_enter Tryz.func94, Tryz.ntmps94
  go_wp2
  go_ret
  exact ⟨rfl, rfl⟩
set_option maxHeartbeats 400000 in
theorem reckons_any (g : Fn) (a b : Array Value) (w : World) :
    Calls Tryz.prog 65 #[.func g a b] w fun e w' => e = .returned (.func (.func 131) #[] #[.pointer (some ⟨w.heap.size + 1, 0, none⟩)]) ∧ w' = (w.alloc (.cells #[.func g a b] 146)).alloc (.cells #[.func (.func 136) #[] #[.pointer (some ⟨w.heap.size, 0, none⟩)]] 137) := by
  go_enter Tryz.func65, Tryz.ntmps65
  go_wp2_with (go_at_call 55; refine (sets_any _ _ _ _).mono ?_; rintro e w' ⟨rfl, rfl⟩)
  go_ret
  exact ⟨rfl, rfl⟩
set_option maxHeartbeats 400000 in
theorem fetches_any (x y : Int) (w : World) :
    Calls Tryz.prog 79 #[.agg #[.int .i64 x, .int .i64 y]] w fun e w' => e = .returned (.func (.func 131) #[] #[.pointer (some ⟨w.heap.size + 1, 0, none⟩)]) ∧ w' = (w.alloc (.cells #[.int .i64 x, .int .i64 y] 132)).alloc (.cells #[.func (.func 147) #[] #[.pointer (some ⟨w.heap.size, 0, none⟩)]] 137) := by
  go_enter Tryz.func79, Tryz.ntmps79
  go_wp2_with (go_at_call 55; refine (sets_any _ _ _ _).mono ?_; rintro e w' ⟨rfl, rfl⟩)
  go_ret
  exact ⟨rfl, rfl⟩
set_option maxHeartbeats 400000 in
theorem All_any (w : World) :
    Calls Tryz.prog 81 #[] w fun e w' => e = .returned (.agg #[.int .i64 (-9223372036854775808), .int .i64 9223372036854775807]) ∧ w' = w.alloc (.cells #[.int .i64 (-9223372036854775808), .int .i64 9223372036854775807] 132) := by
  go_enter Tryz.func81, Tryz.ntmps81
  go_wp2
  exact bodyPost_ret (v := .agg #[.int .i64 (-9223372036854775808), .int .i64 9223372036854775807]) (by simp [results, Tryz.results81, go_sem]) rfl ⟨rfl, rfl⟩
end Go.Proofs.YtngopilbpiplhaaGreatDoor

namespace Go.Proofs.YtngopilbpiplhaaGreatDoor
open Go.RowKit

/-- The blocks that the table's closures captured; s: the number of the first. -/
def tcaps (s : Nat) : List Obj := [
  .cells #[.func (.func 53) #[] #[]] 123,
  .cells #[.func (.func 56) #[] #[]] 137,
  .cells #[.func (.func 59) #[] #[]] 123,
  .cells #[.func (.func 61) #[] #[]] 137,
  .cells #[.func (.func 64) #[] #[]] 144,
  .cells #[.func (.func 66) #[] #[]] 146,
  .cells #[.func (.func 136) #[] #[.pointer (some ⟨s + 5, 0, none⟩)]] 137,
  .cells #[.func (.func 67) #[] #[]] 144,
  .cells #[.func (.func 68) #[] #[]] 146,
  .cells #[.func (.func 136) #[] #[.pointer (some ⟨s + 8, 0, none⟩)]] 137,
  .cells #[.func (.func 69) #[] #[]] 144,
  .cells #[.func (.func 70) #[] #[]] 146,
  .cells #[.func (.func 136) #[] #[.pointer (some ⟨s + 11, 0, none⟩)]] 137,
  .cells #[.func (.func 71) #[] #[]] 144,
  .cells #[.func (.func 72) #[] #[]] 146,
  .cells #[.func (.func 136) #[] #[.pointer (some ⟨s + 14, 0, none⟩)]] 137,
  .cells #[.func (.func 73) #[] #[]] 144,
  .cells #[.func (.func 75) #[] #[]] 146,
  .cells #[.func (.func 136) #[] #[.pointer (some ⟨s + 17, 0, none⟩)]] 137,
  .cells #[.int .i64 64] 2,
  .cells #[.func (.func 77) #[] #[]] 151,
  .cells #[.int .i64 64] 2,
  .cells #[.int .i64 0, .int .i64 255] 132,
  .cells #[.func (.func 147) #[] #[.pointer (some ⟨s + 22, 0, none⟩)]] 137,
  .cells #[.int .i64 16] 2,
  .cells #[.func (.func 80) #[] #[]] 151,
  .cells #[.int .i64 16] 2,
  .cells #[.int .i64 (-9223372036854775808), .int .i64 9223372036854775807] 132,
  .cells #[.int .i64 (-9223372036854775808), .int .i64 9223372036854775807] 132,
  .cells #[.func (.func 147) #[] #[.pointer (some ⟨s + 28, 0, none⟩)]] 137,
  .cells #[.int .i64 16] 2,
  .cells #[.func (.func 83) #[] #[]] 156,
  .cells #[.int .i64 16] 2,
  .cells #[.int .i64 8] 2,
  .cells #[.func (.func 86) #[] #[]] 151,
  .cells #[.int .i64 8] 2,
  .cells #[.int .i64 (-9223372036854775808), .int .i64 9223372036854775807] 132,
  .cells #[.int .i64 (-9223372036854775808), .int .i64 9223372036854775807] 132,
  .cells #[.func (.func 147) #[] #[.pointer (some ⟨s + 37, 0, none⟩)]] 137,
  .cells #[.int .i64 8] 2,
  .cells #[.func (.func 87) #[] #[]] 156,
  .cells #[.int .i64 8] 2,
  .cells #[.func (.func 89) #[] #[]] 159,
  .cells #[.func (.func 92) #[] #[]] 161,
  .cells #[.func (.func 93) #[] #[]] 161,
  .cells #[.func (.func 150) #[] #[]] 128,
  .cells #[.func (.func 95) #[] #[]] 163,
  .cells #[.func (.func 133) #[] #[]] 128,
  .cells #[.func (.func 96) #[] #[]] 163,
  .cells #[.func (.func 97) #[] #[]] 161,
  .cells #[.func (.func 133) #[] #[]] 128,
  .cells #[.func (.func 98) #[] #[]] 163,
  .cells #[.func (.func 150) #[] #[]] 128,
  .cells #[.func (.func 99) #[] #[]] 163,
  .cells #[.func (.func 100) #[] #[]] 159]
/-- The rows: name, parts, takes, falls; do, needs, next, jump. -/
def trows (s : Nat) : Array Value := #[
  .string ⟨#[115, 101, 116]⟩, .string ⟨#[82, 110]⟩, .string ⟨#[]⟩, .bool true, .func (.func 129) #[] #[.pointer (some ⟨s + 0, 0, none⟩)], .func (.func 130) #[] #[], .func (.func 131) #[] #[.pointer (some ⟨s + 1, 0, none⟩)], .func (.func 133) #[] #[],
  .string ⟨#[109, 111, 118]⟩, .string ⟨#[82, 83]⟩, .string ⟨#[83]⟩, .bool true, .func (.func 129) #[] #[.pointer (some ⟨s + 2, 0, none⟩)], .func (.func 130) #[] #[], .func (.func 131) #[] #[.pointer (some ⟨s + 3, 0, none⟩)], .func (.func 133) #[] #[],
  .string ⟨#[97, 100, 100]⟩, .string ⟨#[82, 83]⟩, .string ⟨#[82, 83]⟩, .bool true, .func (.func 135) #[] #[.pointer (some ⟨s + 4, 0, none⟩)], .func (.func 130) #[] #[], .func (.func 131) #[] #[.pointer (some ⟨s + 6, 0, none⟩)], .func (.func 133) #[] #[],
  .string ⟨#[115, 117, 98]⟩, .string ⟨#[82, 83]⟩, .string ⟨#[82, 83]⟩, .bool true, .func (.func 135) #[] #[.pointer (some ⟨s + 7, 0, none⟩)], .func (.func 130) #[] #[], .func (.func 131) #[] #[.pointer (some ⟨s + 9, 0, none⟩)], .func (.func 133) #[] #[],
  .string ⟨#[109, 117, 108]⟩, .string ⟨#[82, 83]⟩, .string ⟨#[82, 83]⟩, .bool true, .func (.func 135) #[] #[.pointer (some ⟨s + 10, 0, none⟩)], .func (.func 130) #[] #[], .func (.func 131) #[] #[.pointer (some ⟨s + 12, 0, none⟩)], .func (.func 133) #[] #[],
  .string ⟨#[97, 110, 100]⟩, .string ⟨#[82, 83]⟩, .string ⟨#[82, 83]⟩, .bool true, .func (.func 135) #[] #[.pointer (some ⟨s + 13, 0, none⟩)], .func (.func 130) #[] #[], .func (.func 131) #[] #[.pointer (some ⟨s + 15, 0, none⟩)], .func (.func 133) #[] #[],
  .string ⟨#[100, 105, 118]⟩, .string ⟨#[82, 83]⟩, .string ⟨#[82, 83]⟩, .bool true, .func (.func 135) #[] #[.pointer (some ⟨s + 16, 0, none⟩)], .func (.func 142) #[] #[], .func (.func 131) #[] #[.pointer (some ⟨s + 18, 0, none⟩)], .func (.func 133) #[] #[],
  .string ⟨#[105, 110]⟩, .string ⟨#[82, 83]⟩, .string ⟨#[83]⟩, .bool true, .func (.func 144) #[] #[.pointer (some ⟨s + 19, 0, none⟩), .pointer (some ⟨s + 20, 0, none⟩)], .func (.func 145) #[] #[.pointer (some ⟨s + 21, 0, none⟩)], .func (.func 131) #[] #[.pointer (some ⟨s + 23, 0, none⟩)], .func (.func 133) #[] #[],
  .string ⟨#[103, 101, 116]⟩, .string ⟨#[82, 83]⟩, .string ⟨#[83]⟩, .bool true, .func (.func 144) #[] #[.pointer (some ⟨s + 24, 0, none⟩), .pointer (some ⟨s + 25, 0, none⟩)], .func (.func 145) #[] #[.pointer (some ⟨s + 26, 0, none⟩)], .func (.func 131) #[] #[.pointer (some ⟨s + 29, 0, none⟩)], .func (.func 133) #[] #[],
  .string ⟨#[112, 117, 116]⟩, .string ⟨#[82, 83]⟩, .string ⟨#[82, 83]⟩, .bool true, .func (.func 148) #[] #[.pointer (some ⟨s + 30, 0, none⟩), .pointer (some ⟨s + 31, 0, none⟩)], .func (.func 149) #[] #[.pointer (some ⟨s + 32, 0, none⟩)], .func (.func 150) #[] #[], .func (.func 133) #[] #[],
  .string ⟨#[108, 111, 97, 100]⟩, .string ⟨#[82, 83]⟩, .string ⟨#[83]⟩, .bool true, .func (.func 144) #[] #[.pointer (some ⟨s + 33, 0, none⟩), .pointer (some ⟨s + 34, 0, none⟩)], .func (.func 145) #[] #[.pointer (some ⟨s + 35, 0, none⟩)], .func (.func 131) #[] #[.pointer (some ⟨s + 38, 0, none⟩)], .func (.func 133) #[] #[],
  .string ⟨#[107, 101, 101, 112]⟩, .string ⟨#[82, 83]⟩, .string ⟨#[82, 83]⟩, .bool true, .func (.func 148) #[] #[.pointer (some ⟨s + 39, 0, none⟩), .pointer (some ⟨s + 40, 0, none⟩)], .func (.func 149) #[] #[.pointer (some ⟨s + 41, 0, none⟩)], .func (.func 150) #[] #[], .func (.func 133) #[] #[],
  .string ⟨#[111, 117, 116]⟩, .string ⟨#[82]⟩, .string ⟨#[82]⟩, .bool true, .func (.func 151) #[] #[.pointer (some ⟨s + 42, 0, none⟩)], .func (.func 130) #[] #[], .func (.func 150) #[] #[], .func (.func 133) #[] #[],
  .string ⟨#[106, 109, 112]⟩, .string ⟨#[76]⟩, .string ⟨#[]⟩, .bool false, .func (.func 153) #[] #[.pointer (some ⟨s + 43, 0, none⟩)], .func (.func 130) #[] #[], .func (.func 133) #[] #[], .func (.func 150) #[] #[],
  .string ⟨#[106, 108, 116]⟩, .string ⟨#[82, 83, 76]⟩, .string ⟨#[82, 83]⟩, .bool true, .func (.func 153) #[] #[.pointer (some ⟨s + 44, 0, none⟩)], .func (.func 130) #[] #[], .func (.func 154) #[] #[.pointer (some ⟨s + 45, 0, none⟩), .pointer (some ⟨s + 46, 0, none⟩)], .func (.func 154) #[] #[.pointer (some ⟨s + 47, 0, none⟩), .pointer (some ⟨s + 48, 0, none⟩)],
  .string ⟨#[106, 101, 113]⟩, .string ⟨#[82, 83, 76]⟩, .string ⟨#[82, 83]⟩, .bool true, .func (.func 153) #[] #[.pointer (some ⟨s + 49, 0, none⟩)], .func (.func 130) #[] #[], .func (.func 154) #[] #[.pointer (some ⟨s + 50, 0, none⟩), .pointer (some ⟨s + 51, 0, none⟩)], .func (.func 154) #[] #[.pointer (some ⟨s + 52, 0, none⟩), .pointer (some ⟨s + 53, 0, none⟩)],
  .string ⟨#[101, 110, 100]⟩, .string ⟨#[82]⟩, .string ⟨#[82]⟩, .bool false, .func (.func 151) #[] #[.pointer (some ⟨s + 54, 0, none⟩)], .func (.func 130) #[] #[], .func (.func 133) #[] #[], .func (.func 133) #[] #[]]
def tblocks (s : Nat) : List Obj := tcaps s ++ [.cells (trows s) 140]

def allocs (w : World) (l : List Obj) : World := l.foldl World.alloc w
theorem allocs_size (l : List Obj) : ∀ w, (allocs w l).heap.size = w.heap.size + l.length := by
  induction l with
  | nil => intro w; rfl
  | cons o l ih => intro w; show (allocs (w.alloc o) l).heap.size = _; rw [ih]; simp; omega
theorem allocs_below (l : List Obj) : ∀ w, Below w.heap.size w (allocs w l) := by
  induction l with
  | nil => intro w; exact Below.refl _ _
  | cons o l ih => intro w; exact ((Below.refl _ _).alloc (Nat.le_refl _) o).trans ((ih (w.alloc o)).mono (by simp))
theorem allocs_get (l : List Obj) : ∀ w k, k < l.length → (allocs w l).heap[w.heap.size + k]? = l[k]? := by
  induction l with
  | nil => intro w k h; cases h
  | cons o l ih =>
    intro w k h
    show (allocs (w.alloc o) l).heap[_]? = _
    cases k with
    | zero => rw [Nat.add_zero, (allocs_below l (w.alloc o)).block _ (by simp), blk_new]; rfl
    | succ k => rw [show w.heap.size + (k + 1) = (w.alloc o).heap.size + k by simp; omega, ih _ _ (by simpa using h)]; rfl

/-- The table lies at block s and behind it. -/
def Table (s : Nat) (w : World) : Prop := ∀ k, k < 56 → w.heap[s + k]? = (tblocks s)[k]?
theorem Table.mono {s : Nat} {w w' : World} (h : Table s w) (hb : ∀ k, s ≤ k → k < s + 56 → w'.heap[k]? = w.heap[k]?) : Table s w' :=
  fun k hk => (hb (s + k) (by omega) (by omega)).trans (h k hk)



/-- The names, the parts, and which of R and S must be set, row by row. -/
def wName : Nat → List UInt8
  | 0 => [115, 101, 116]
  | 1 => [109, 111, 118]
  | 2 => [97, 100, 100]
  | 3 => [115, 117, 98]
  | 4 => [109, 117, 108]
  | 5 => [97, 110, 100]
  | 6 => [100, 105, 118]
  | 7 => [105, 110]
  | 8 => [103, 101, 116]
  | 9 => [112, 117, 116]
  | 10 => [108, 111, 97, 100]
  | 11 => [107, 101, 101, 112]
  | 12 => [111, 117, 116]
  | 13 => [106, 109, 112]
  | 14 => [106, 108, 116]
  | 15 => [106, 101, 113]
  | 16 => [101, 110, 100]
  | _ => []
def wParts : Nat → List UInt8
  | 0 => [82, 110]
  | 1 => [82, 83]
  | 2 => [82, 83]
  | 3 => [82, 83]
  | 4 => [82, 83]
  | 5 => [82, 83]
  | 6 => [82, 83]
  | 7 => [82, 83]
  | 8 => [82, 83]
  | 9 => [82, 83]
  | 10 => [82, 83]
  | 11 => [82, 83]
  | 12 => [82]
  | 13 => [76]
  | 14 => [82, 83, 76]
  | 15 => [82, 83, 76]
  | 16 => [82]
  | _ => []
def wTakes : Nat → List UInt8
  | 0 => []
  | 1 => [83]
  | 2 => [82, 83]
  | 3 => [82, 83]
  | 4 => [82, 83]
  | 5 => [82, 83]
  | 6 => [82, 83]
  | 7 => [83]
  | 8 => [83]
  | 9 => [82, 83]
  | 10 => [83]
  | 11 => [82, 83]
  | 12 => [82]
  | 13 => []
  | 14 => [82, 83]
  | 15 => [82, 83]
  | 16 => [82]
  | _ => []
def wFalls : Nat → Bool
  | 0 => true
  | 1 => true
  | 2 => true
  | 3 => true
  | 4 => true
  | 5 => true
  | 6 => true
  | 7 => true
  | 8 => true
  | 9 => true
  | 10 => true
  | 11 => true
  | 12 => true
  | 13 => false
  | 14 => true
  | 15 => true
  | 16 => false
  | _ => false
def wDo (s : Nat) : Nat → Value
  | 0 => .func (.func 129) #[] #[.pointer (some ⟨s + 0, 0, none⟩)]
  | 1 => .func (.func 129) #[] #[.pointer (some ⟨s + 2, 0, none⟩)]
  | 2 => .func (.func 135) #[] #[.pointer (some ⟨s + 4, 0, none⟩)]
  | 3 => .func (.func 135) #[] #[.pointer (some ⟨s + 7, 0, none⟩)]
  | 4 => .func (.func 135) #[] #[.pointer (some ⟨s + 10, 0, none⟩)]
  | 5 => .func (.func 135) #[] #[.pointer (some ⟨s + 13, 0, none⟩)]
  | 6 => .func (.func 135) #[] #[.pointer (some ⟨s + 16, 0, none⟩)]
  | 7 => .func (.func 144) #[] #[.pointer (some ⟨s + 19, 0, none⟩), .pointer (some ⟨s + 20, 0, none⟩)]
  | 8 => .func (.func 144) #[] #[.pointer (some ⟨s + 24, 0, none⟩), .pointer (some ⟨s + 25, 0, none⟩)]
  | 9 => .func (.func 148) #[] #[.pointer (some ⟨s + 30, 0, none⟩), .pointer (some ⟨s + 31, 0, none⟩)]
  | 10 => .func (.func 144) #[] #[.pointer (some ⟨s + 33, 0, none⟩), .pointer (some ⟨s + 34, 0, none⟩)]
  | 11 => .func (.func 148) #[] #[.pointer (some ⟨s + 39, 0, none⟩), .pointer (some ⟨s + 40, 0, none⟩)]
  | 12 => .func (.func 151) #[] #[.pointer (some ⟨s + 42, 0, none⟩)]
  | 13 => .func (.func 153) #[] #[.pointer (some ⟨s + 43, 0, none⟩)]
  | 14 => .func (.func 153) #[] #[.pointer (some ⟨s + 44, 0, none⟩)]
  | 15 => .func (.func 153) #[] #[.pointer (some ⟨s + 49, 0, none⟩)]
  | 16 => .func (.func 151) #[] #[.pointer (some ⟨s + 54, 0, none⟩)]
  | _ => .nilFunc
def wNeeds (s : Nat) : Nat → Value
  | 0 => .func (.func 130) #[] #[]
  | 1 => .func (.func 130) #[] #[]
  | 2 => .func (.func 130) #[] #[]
  | 3 => .func (.func 130) #[] #[]
  | 4 => .func (.func 130) #[] #[]
  | 5 => .func (.func 130) #[] #[]
  | 6 => .func (.func 142) #[] #[]
  | 7 => .func (.func 145) #[] #[.pointer (some ⟨s + 21, 0, none⟩)]
  | 8 => .func (.func 145) #[] #[.pointer (some ⟨s + 26, 0, none⟩)]
  | 9 => .func (.func 149) #[] #[.pointer (some ⟨s + 32, 0, none⟩)]
  | 10 => .func (.func 145) #[] #[.pointer (some ⟨s + 35, 0, none⟩)]
  | 11 => .func (.func 149) #[] #[.pointer (some ⟨s + 41, 0, none⟩)]
  | 12 => .func (.func 130) #[] #[]
  | 13 => .func (.func 130) #[] #[]
  | 14 => .func (.func 130) #[] #[]
  | 15 => .func (.func 130) #[] #[]
  | 16 => .func (.func 130) #[] #[]
  | _ => .nilFunc
def wNext (s : Nat) : Nat → Value
  | 0 => .func (.func 131) #[] #[.pointer (some ⟨s + 1, 0, none⟩)]
  | 1 => .func (.func 131) #[] #[.pointer (some ⟨s + 3, 0, none⟩)]
  | 2 => .func (.func 131) #[] #[.pointer (some ⟨s + 6, 0, none⟩)]
  | 3 => .func (.func 131) #[] #[.pointer (some ⟨s + 9, 0, none⟩)]
  | 4 => .func (.func 131) #[] #[.pointer (some ⟨s + 12, 0, none⟩)]
  | 5 => .func (.func 131) #[] #[.pointer (some ⟨s + 15, 0, none⟩)]
  | 6 => .func (.func 131) #[] #[.pointer (some ⟨s + 18, 0, none⟩)]
  | 7 => .func (.func 131) #[] #[.pointer (some ⟨s + 23, 0, none⟩)]
  | 8 => .func (.func 131) #[] #[.pointer (some ⟨s + 29, 0, none⟩)]
  | 9 => .func (.func 150) #[] #[]
  | 10 => .func (.func 131) #[] #[.pointer (some ⟨s + 38, 0, none⟩)]
  | 11 => .func (.func 150) #[] #[]
  | 12 => .func (.func 150) #[] #[]
  | 13 => .func (.func 133) #[] #[]
  | 14 => .func (.func 154) #[] #[.pointer (some ⟨s + 45, 0, none⟩), .pointer (some ⟨s + 46, 0, none⟩)]
  | 15 => .func (.func 154) #[] #[.pointer (some ⟨s + 50, 0, none⟩), .pointer (some ⟨s + 51, 0, none⟩)]
  | 16 => .func (.func 133) #[] #[]
  | _ => .nilFunc
def wJump (s : Nat) : Nat → Value
  | 0 => .func (.func 133) #[] #[]
  | 1 => .func (.func 133) #[] #[]
  | 2 => .func (.func 133) #[] #[]
  | 3 => .func (.func 133) #[] #[]
  | 4 => .func (.func 133) #[] #[]
  | 5 => .func (.func 133) #[] #[]
  | 6 => .func (.func 133) #[] #[]
  | 7 => .func (.func 133) #[] #[]
  | 8 => .func (.func 133) #[] #[]
  | 9 => .func (.func 133) #[] #[]
  | 10 => .func (.func 133) #[] #[]
  | 11 => .func (.func 133) #[] #[]
  | 12 => .func (.func 133) #[] #[]
  | 13 => .func (.func 150) #[] #[]
  | 14 => .func (.func 154) #[] #[.pointer (some ⟨s + 47, 0, none⟩), .pointer (some ⟨s + 48, 0, none⟩)]
  | 15 => .func (.func 154) #[] #[.pointer (some ⟨s + 52, 0, none⟩), .pointer (some ⟨s + 53, 0, none⟩)]
  | 16 => .func (.func 133) #[] #[]
  | _ => .nilFunc

structure RowAt (s : Nat) (w : World) (i : Nat) : Prop where
  name : w.cell? ⟨s + 55, i * 8, none⟩ = some (.string ⟨(wName i).toArray⟩)
  parts : w.cell? ⟨s + 55, i * 8 + 1, none⟩ = some (.string ⟨(wParts i).toArray⟩)
  takes : w.cell? ⟨s + 55, i * 8 + 2, none⟩ = some (.string ⟨(wTakes i).toArray⟩)
  falls : w.cell? ⟨s + 55, i * 8 + 3, none⟩ = some (.bool (wFalls i))
  act : w.cell? ⟨s + 55, i * 8 + 4, none⟩ = some (wDo s i)
  needs : w.cell? ⟨s + 55, i * 8 + 5, none⟩ = some (wNeeds s i)
  next : w.cell? ⟨s + 55, i * 8 + 6, none⟩ = some (wNext s i)
  jump : w.cell? ⟨s + 55, i * 8 + 7, none⟩ = some (wJump s i)
theorem rowAt {s : Nat} {w : World} (h : w.heap[s + 55]? = some (.cells (trows s) 140)) {i : Nat} (hi : i < 17) : RowAt s w i := by
  have hc := cell_of_blk h
  match i, hi with
  | 0, _ => exact ⟨hc 0, hc 1, hc 2, hc 3, hc 4, hc 5, hc 6, hc 7⟩
  | 1, _ => exact ⟨hc 8, hc 9, hc 10, hc 11, hc 12, hc 13, hc 14, hc 15⟩
  | 2, _ => exact ⟨hc 16, hc 17, hc 18, hc 19, hc 20, hc 21, hc 22, hc 23⟩
  | 3, _ => exact ⟨hc 24, hc 25, hc 26, hc 27, hc 28, hc 29, hc 30, hc 31⟩
  | 4, _ => exact ⟨hc 32, hc 33, hc 34, hc 35, hc 36, hc 37, hc 38, hc 39⟩
  | 5, _ => exact ⟨hc 40, hc 41, hc 42, hc 43, hc 44, hc 45, hc 46, hc 47⟩
  | 6, _ => exact ⟨hc 48, hc 49, hc 50, hc 51, hc 52, hc 53, hc 54, hc 55⟩
  | 7, _ => exact ⟨hc 56, hc 57, hc 58, hc 59, hc 60, hc 61, hc 62, hc 63⟩
  | 8, _ => exact ⟨hc 64, hc 65, hc 66, hc 67, hc 68, hc 69, hc 70, hc 71⟩
  | 9, _ => exact ⟨hc 72, hc 73, hc 74, hc 75, hc 76, hc 77, hc 78, hc 79⟩
  | 10, _ => exact ⟨hc 80, hc 81, hc 82, hc 83, hc 84, hc 85, hc 86, hc 87⟩
  | 11, _ => exact ⟨hc 88, hc 89, hc 90, hc 91, hc 92, hc 93, hc 94, hc 95⟩
  | 12, _ => exact ⟨hc 96, hc 97, hc 98, hc 99, hc 100, hc 101, hc 102, hc 103⟩
  | 13, _ => exact ⟨hc 104, hc 105, hc 106, hc 107, hc 108, hc 109, hc 110, hc 111⟩
  | 14, _ => exact ⟨hc 112, hc 113, hc 114, hc 115, hc 116, hc 117, hc 118, hc 119⟩
  | 15, _ => exact ⟨hc 120, hc 121, hc 122, hc 123, hc 124, hc 125, hc 126, hc 127⟩
  | 16, _ => exact ⟨hc 128, hc 129, hc 130, hc 131, hc 132, hc 133, hc 134, hc 135⟩
  | n + 17, h => exact absurd h (by omega)
theorem Table.rows {s : Nat} {w : World} (h : Table s w) : w.heap[s + 55]? = some (.cells (trows s) 140) := h 55 (by omega)

end Go.Proofs.YtngopilbpiplhaaGreatDoor
