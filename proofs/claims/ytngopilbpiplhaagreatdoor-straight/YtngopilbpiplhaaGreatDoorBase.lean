/-
  Small facts used by the walks: a block that is a known object, a world in which all blocks below a number but one are as they were, and the contracts of two small functions (pick, decimal). Conditions stand in each theorem's head.
-/
import Derived.Test.YtngopilbpiplhaaGreatDoorProg
import Derived.WalkKit
import Derived.WalkSpells
import Derived.WalkLawsBesides
import Derived.BigQuiet
import Derived.Deep.QuietTactic
import Derived.Deep.RegionWith
import Derived.Lib.ItoaNum
namespace Go.Proofs.YtngopilbpiplhaaGreatDoor
open Go.RowKit

/-- Below block number B all but block b is as it was; the streams are as they were; no block has gone. -/
structure Keep (B b : Nat) (w w' : World) : Prop where
  os : w'.os = w.os
  tape : w'.tape = w.tape
  output : w'.output = w.output
  size : w.heap.size ≤ w'.heap.size
  block : ∀ k, k < B → k ≠ b → w'.heap[k]? = w.heap[k]?

theorem Keep.refl (B b : Nat) (w : World) : Keep B b w w := ⟨rfl, rfl, rfl, Nat.le_refl _, fun _ _ _ => rfl⟩
theorem Keep.trans {B b : Nat} {u v w : World} (h : Keep B b u v) (k : Keep B b v w) : Keep B b u w :=
  ⟨k.os.trans h.os, k.tape.trans h.tape, k.output.trans h.output, Nat.le_trans h.size k.size, fun i hi hb => (k.block i hi hb).trans (h.block i hi hb)⟩
theorem Keep.drew {B b : Nat} {a w : World} (h : Keep B b a w) : Keep B b a w.drew := ⟨h.os, h.tape, h.output, h.size, h.block⟩
theorem Keep.alloc {B b : Nat} {a w : World} (h : Keep B b a w) (hB : B ≤ w.heap.size) (o : Obj) : Keep B b a (w.alloc o) :=
  ⟨h.os, h.tape, h.output, by rw [World.size_alloc]; have := h.size; omega, fun k hk hb => (Below.heap_alloc w o k (by omega)).trans (h.block k hk hb)⟩
theorem Keep.setCell {B b : Nat} {a w : World} (h : Keep B b a w) {p : Addr} (hp : B ≤ p.block ∨ p.block = b) (u : Value) : Keep B b a (w.setCell p u) :=
  ⟨h.os, h.tape, h.output, by rw [World.size_setCell]; exact h.size, fun k hk hb => (Below.heap_setCell w p u k (by omega)).trans (h.block k hk hb)⟩
theorem Keep.of_below {B b : Nat} {w w' : World} (h : Below B w w') : Keep B b w w' := ⟨h.os, h.tape, h.output, h.size, fun k hk _ => h.block k hk⟩
theorem Keep.mono {B B' b : Nat} {w w' : World} (h : Keep B b w w') (hB : B' ≤ B) : Keep B' b w w' := ⟨h.os, h.tape, h.output, h.size, fun k hk hb => h.block k (by omega) hb⟩
theorem Keep.below {B b : Nat} {w w' : World} (h : Keep B b w w') (hb : B ≤ b) : Below B w w' := ⟨h.os, h.tape, h.output, h.size, fun k hk => h.block k hk (by omega)⟩
theorem Keep.cell {B b : Nat} {w w' : World} (h : Keep B b w w') {p : Addr} (hp : p.block < B) (hb : p.block ≠ b) : w'.cell? p = w.cell? p := World.cell?_of_block (w := w) (h.block p.block hp hb)

theorem bcell {W w1 : World} (hb : Below W.heap.size W w1) : (∀ b o, b < W.heap.size → w1.cell? ⟨b, o, none⟩ = W.cell? ⟨b, o, none⟩) ∧ (∀ b o, b < W.heap.size → w1.frozen? ⟨b, o, none⟩ = W.frozen? ⟨b, o, none⟩) :=
  ⟨fun b o h => hb.cell (p := ⟨b, o, none⟩) h, fun b o h => hb.frozen (p := ⟨b, o, none⟩) h⟩

theorem cell_of_blk {w : World} {b : Nat} {arr : Array Value} {t : TypeId} {z : Nat × Nat} (h : w.heap[b]? = some (.cells arr t z)) (o : Nat) : w.cell? ⟨b, o, none⟩ = arr[o]? := by
  simp [World.cell?, h]
theorem frozen_of_blk {w : World} {b : Nat} {arr : Array Value} {t : TypeId} (h : w.heap[b]? = some (.cells arr t (0, 0))) (o : Nat) : w.frozen? ⟨b, o, none⟩ = false := by
  simp [World.frozen?, h]
theorem blk_setCell {w : World} {b : Nat} {arr : Array Value} {t : TypeId} {z : Nat × Nat} (h : w.heap[b]? = some (.cells arr t z)) (o : Nat) (v : Value) : (w.setCell ⟨b, o, none⟩ v).heap[b]? = some (.cells (arr.setIfInBounds o v) t z) := by
  simp [World.setCell, Array.getElem?_modify, h]
theorem blk_alloc {w : World} {b : Nat} {o : Obj} (h : w.heap[b]? = some o) (o' : Obj) : (w.alloc o').heap[b]? = some o := by
  have hb : b < w.heap.size := by rcases Nat.lt_or_ge b w.heap.size with q | q; exact q; rw [Array.getElem?_eq_none q] at h; cases h
  rw [Below.heap_alloc w o' b hb, h]
theorem blk_new (w : World) (o : Obj) : (w.alloc o).heap[w.heap.size]? = some o := by
  show (w.heap.push o)[w.heap.size]? = some o
  simp
theorem blk_lt {w : World} {b : Nat} {o : Obj} (h : w.heap[b]? = some o) : b < w.heap.size := by
  rcases Nat.lt_or_ge b w.heap.size with q | q; exact q; rw [Array.getElem?_eq_none q] at h; cases h

theorem below_drewN {B : Nat} {a w : World} (h : Below B a w) (n : Nat) : Below B a (w.drewN n) := ⟨h.os, h.tape, h.output, h.size, h.block⟩
theorem Keep.drewN {B b : Nat} {a w : World} (h : Keep B b a w) (n : Nat) : Keep B b a (w.drewN n) := ⟨h.os, h.tape, h.output, h.size, h.block⟩
theorem hide {p : Prop} (h : p) : Hid p := h
theorem unhide {p : Prop} (h : Hid p) : p := h

/-- What the calls lean on of the package-level variables (blocks 0 to 7): MaxLen is a number, ErrSyntax and ErrRange are set. -/
structure Glob (w : World) : Prop where
  maxLen : ∃ m : Int, w.cell? ⟨0, 0, none⟩ = some (.int .i64 m)
  errSyntax : ∃ t p, w.cell? ⟨6, 0, none⟩ = some (.iface t p)
  errRange : ∃ t p, w.cell? ⟨7, 0, none⟩ = some (.iface t p)
  size : 8 ≤ w.heap.size
theorem Glob.mono {w w' : World} (h : Glob w) (hs : w.heap.size ≤ w'.heap.size) (hb : ∀ k, k < 8 → w'.heap[k]? = w.heap[k]?) : Glob w' :=
  ⟨by obtain ⟨m, e⟩ := h.maxLen; exact ⟨m, (World.cell?_of_block (hb 0 (by omega))).trans e⟩, by obtain ⟨t, p, e⟩ := h.errSyntax; exact ⟨t, p, (World.cell?_of_block (hb 6 (by omega))).trans e⟩,
   by obtain ⟨t, p, e⟩ := h.errRange; exact ⟨t, p, (World.cell?_of_block (hb 7 (by omega))).trans e⟩, Nat.le_trans h.size hs⟩
theorem Glob.below {B : Nat} {w w' : World} (h : Glob w) (hb : Below B w w') (hB : 8 ≤ B) : Glob w' := h.mono hb.size fun k hk => hb.block k (by omega)

theorem ret_int {k : IntKind} {a b : Int} (h : a = b) : Ending.returned (.int k a) = .returned (.int k b) := by rw [h]

/-- wardkeep.pick. -/
def pickF (c n : Int) : Int := (if c < 0 then -(c + 1) else c) % n
theorem pickF_lt (c n : Int) (hn : 0 < n) : 0 ≤ pickF c n ∧ pickF c n < n := ⟨Int.emod_nonneg _ (by omega), Int.emod_lt_of_pos _ hn⟩

set_option maxHeartbeats 400000 in
theorem pick_any (c n : Int) (w : World) (h0 : -9223372036854775808 ≤ c) (h1 : c ≤ 9223372036854775807) (hn : 0 < n) (hn2 : n ≤ 9223372036854775807) :
    Calls Tryz.prog 12 #[.int .i64 c, .int .i64 n] w fun e w' => e = .returned (.int .i64 (pickF c n)) ∧ w' = w := by
  have hn0 : ¬ n = 0 := by omega
  by_cases hc : c < 0
  · go_enter Tryz.func12, Tryz.ntmps12
    go_wp2
    go_ret
    refine ⟨ret_int ?_, rfl⟩
    unfold pickF; rw [if_pos hc, ← Int.neg_tmod, Int.tmod_eq_emod_of_nonneg (by omega)]
  · go_enter Tryz.func12, Tryz.ntmps12
    go_wp2
    go_ret
    exact ⟨ret_int (by unfold pickF; rw [if_neg (by omega)]), rfl⟩

/-- The digits of a number, none for 0. -/
def dd (u : Nat) : List UInt8 := if u = 0 then [] else Lib.decDigits u
theorem dd_step (u : Nat) (h : u ≠ 0) : dd u = dd (u / 10) ++ [UInt8.ofNat (48 + u % 10)] := by
  unfold dd
  rw [if_neg h]
  by_cases h1 : u < 10
  · rw [Lib.decDigits_one h1, if_pos (by omega), Nat.mod_eq_of_lt h1]; rfl
  · rw [Lib.decDigits, dif_neg h1, if_neg (by omega)]
theorem dd_len : ∀ (k u : Nat), u < 10 ^ k → (dd u).length ≤ k
  | 0, u, h => by
    have e : u = 0 := by simpa using h
    subst e; simp [dd]
  | k + 1, u, h => by
    by_cases e : u = 0
    · subst e; simp [dd]
    · rw [dd_step u e]
      have := dd_len k (u / 10) (by rw [Nat.pow_succ] at h; omega)
      simp; omega
theorem dd_len20 (u : Nat) (h : (u : Int) ≤ 9223372036854775808) : (dd u).length ≤ 19 := dd_len 19 u (by have : (10 : Nat) ^ 19 = 10000000000000000000 := rfl; omega)
theorem itoa_pos (u : Nat) (h : u ≠ 0) : Lib.itoa u = dd u := by unfold Lib.itoa dd; rw [if_neg (by omega), if_neg h]; rfl
theorem itoa_neg (u : Nat) (h : u ≠ 0) : Lib.itoa (-(u : Int)) = 45 :: dd u := by unfold Lib.itoa dd; rw [if_pos (by omega), if_neg h]; simp

theorem conv_digit (wr : World) (q : Nat) (d : Int) (hd : d = 48 + (q : Int)) (hq : q < 10) :
    (convert 76 9 (.slice (some ⟨wr.heap.size, 0, none⟩) 1 1)).run Tryz.prog (wr.alloc (.cells #[.int .u8 d] 5)) = .ok (.string ⟨#[UInt8.ofNat (48 + q)]⟩) (wr.alloc (.cells #[.int .u8 d] 5)) := by
  have h := run_convert_bytes_back (P := Tryz.prog) (wr.alloc (.cells #[.int .u8 d] 5)) 76 9 5 ⟨wr.heap.size, 0, none⟩ 1 [UInt8.ofNat (48 + q)] Tryz.underlying76 Tryz.underlying5 Tryz.underlying9
    (fun j hj => by
      obtain rfl : j = 0 := by simp at hj; omega
      have e : (⟨wr.heap.size, 0, none⟩ : Addr).add 0 = ⟨wr.heap.size, 0, none⟩ := by unfold Addr.add; split <;> simp_all
      rw [e, cell_of_blk (blk_new wr _)]
      simp [hd]
      omega)
  exact h

set_option maxRecDepth 100000 in
set_option maxHeartbeats 400000 in
theorem decimal_pos (u : Nat) (hu : u ≠ 0) (h1 : (u : Int) ≤ 9223372036854775807) (w : World) :
    Calls Tryz.prog 13 #[.int .i64 u] w fun e w' => e = .returned (.string ⟨(dd u).toArray⟩) ∧ Below w.heap.size w w' := by
  have b0 : ((u : Int) == 0) = false := beq_eq_false_iff_ne.2 (by omega)
  go_enter Tryz.func13, Tryz.ntmps13
  go_wp2
  go_loopw [3, 4] (fun s m w' => ∃ (q : Nat) (l : List UInt8), q ≤ u ∧ m = .int .i64 q ∧ s = .string ⟨l.toArray⟩ ∧ dd u = dd q ++ l ∧ Below w.heap.size w w') (fun _ m _ => (intOf m).toNat)
  case atStart => exact ⟨u, [], Nat.le_refl _, rfl, rfl, by simp, Below.refl _ _⟩
  case round =>
    obtain ⟨q, l, hq, rfl, rfl, hd, hb⟩ := hrel
    have HD : Hid (dd u = dd q ++ l) := hd
    clear hd
    by_cases hz : q = 0
    · subst hz
      go_wp2
      go_ret
      exact ⟨by rw [HD.out]; rfl, hb⟩
    · have q0 : ((q : Int) != 0) = true := by rw [bne_iff_ne]; omega
      have qq : (q : Int) ≤ 9223372036854775807 := by omega
      have qm : (q : Int) % 10 < 10 := by omega
      have qm0 : 0 ≤ (q : Int) % 10 := by omega
      have hl := congrArg List.length HD.out
      rw [List.length_append] at hl
      have hl9 := dd_len20 u (by omega)
      have hl2 : ¬ 9223372036854775807 < 1 + l.length := by omega
      clear hl hl9
      have hcv := conv_digit wr (q % 10) (48 + (q : Int) % 10) (by omega) (by omega)
      go_wp2
      go_roundw
      case rel =>
        refine ⟨q / 10, UInt8.ofNat (48 + q % 10) :: l, by omega, by go_num, ?_, ?_, ?_⟩
        · exact congrArg Value.string (ByteArray.ext (by simp [ByteArray.data_append]))
        · rw [HD.out, dd_step q hz]; simp
        · exact hb.trans ((Below.refl _ _).alloc hb.size _)
      case measure => simp [intOf]; omega

set_option maxRecDepth 100000 in
set_option maxHeartbeats 400000 in
theorem decimal_neg (u : Nat) (hu : u ≠ 0) (h1 : (u : Int) ≤ 9223372036854775808) (w : World) :
    Calls Tryz.prog 13 #[.int .i64 (-(u : Int))] w fun e w' => e = .returned (.string ⟨(45 :: dd u).toArray⟩) ∧ Below w.heap.size w w' := by
  have b0 : (-(u : Int) == 0) = false := beq_eq_false_iff_ne.2 (by omega)
  have bn : -(u : Int) < 0 := by omega
  go_enter Tryz.func13, Tryz.ntmps13
  go_wp2
  go_loopw [3, 4] (fun s m w' => ∃ (q : Nat) (l : List UInt8), q ≤ u ∧ m = .int .i64 (-(q : Int)) ∧ s = .string ⟨l.toArray⟩ ∧ dd u = dd q ++ l ∧ Below w.heap.size w w') (fun _ m _ => (-(intOf m)).toNat)
  case atStart => exact ⟨u, [], Nat.le_refl _, rfl, rfl, by simp, Below.refl _ _⟩
  case round =>
    obtain ⟨q, l, hq, rfl, rfl, hd, hb⟩ := hrel
    have HD : Hid (dd u = dd q ++ l) := hd
    clear hd
    have hl := congrArg List.length HD.out
    rw [List.length_append] at hl
    have hl9 := dd_len20 u (by omega)
    have hl2 : ¬ 9223372036854775807 < 1 + l.length := by omega
    clear hl hl9
    by_cases hz : q = 0
    · subst hz
      go_wp2
      go_ret
      exact ⟨by rw [HD.out]; exact congrArg (fun z => Ending.returned (Value.string z)) (ByteArray.ext (by simp [ByteArray.data_append, dd])), hb⟩
    · have q0 : (-(q : Int) != 0) = true := by rw [bne_iff_ne]; omega
      have qq : (q : Int) ≤ 9223372036854775808 := by omega
      have qm : (q : Int) % 10 < 10 := by omega
      have qm0 : 0 ≤ (q : Int) % 10 := by omega
      by_cases hx : (q : Int) % 10 = 0
      · have hcv := conv_digit wr 0 48 (by rfl) (by omega)
        go_wp2
        go_roundw
        case rel =>
          refine ⟨q / 10, UInt8.ofNat (48 + q % 10) :: l, by omega, by go_num, ?_, ?_, ?_⟩
          · have e : q % 10 = 0 := by omega
            rw [e]
            exact congrArg Value.string (ByteArray.ext (by simp [ByteArray.data_append]))
          · rw [HD.out, dd_step q hz]; simp
          · exact hb.trans ((Below.refl _ _).alloc hb.size _)
        case measure => simp [intOf]; omega
      · have hcv := conv_digit wr (q % 10) (48 + (q : Int) % 10) (by omega) (by omega)
        go_wp2
        go_roundw
        case rel =>
          refine ⟨q / 10, UInt8.ofNat (48 + q % 10) :: l, by omega, by go_num, ?_, ?_, ?_⟩
          · exact congrArg Value.string (ByteArray.ext (by simp [ByteArray.data_append]))
          · rw [HD.out, dd_step q hz]; simp
          · exact hb.trans ((Below.refl _ _).alloc hb.size _)
        case measure => simp [intOf]; omega

set_option maxHeartbeats 400000 in
theorem decimal_zero (w : World) :
    Calls Tryz.prog 13 #[.int .i64 0] w fun e w' => e = .returned (.string ⟨#[48]⟩) ∧ w' = w := by
  go_enter Tryz.func13, Tryz.ntmps13
  go_wp2
  go_ret
  exact ⟨rfl, rfl⟩

/-- wardkeep.decimal, at every number of 64 bits: its decimal text; new blocks alone. -/
theorem decimal_any (n : Int) (h0 : -9223372036854775808 ≤ n) (h1 : n ≤ 9223372036854775807) (w : World) :
    Calls Tryz.prog 13 #[.int .i64 n] w fun e w' => e = .returned (.string ⟨(Lib.itoa n).toArray⟩) ∧ Below w.heap.size w w' := by
  rcases Int.lt_trichotomy n 0 with h | h | h
  · obtain ⟨u, rfl⟩ : ∃ u : Nat, n = -(u : Int) := ⟨n.natAbs, by omega⟩
    rw [itoa_neg u (by omega)]
    exact decimal_neg u (by omega) (by omega) w
  · subst h
    refine (decimal_zero w).mono ?_
    rintro e w' ⟨rfl, rfl⟩
    exact ⟨by rw [show Lib.itoa 0 = [48] by decide +kernel], Below.refl _ _⟩
  · obtain ⟨u, rfl⟩ : ∃ u : Nat, n = (u : Int) := ⟨n.natAbs, by omega⟩
    rw [itoa_pos u (by omega)]
    exact decimal_pos u (by omega) (by omega) w

end Go.Proofs.YtngopilbpiplhaaGreatDoor
