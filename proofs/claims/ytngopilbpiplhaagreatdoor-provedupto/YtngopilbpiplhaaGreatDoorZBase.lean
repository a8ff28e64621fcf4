/-
  Small facts used by the walks: a block that is a known object, a world in which all blocks below a number but one are as they were, and the contracts of two small functions (pick, decimal). Conditions stand in each theorem's head.
  The contract of words.Rows: the table of words in new memory; each call lays the same 56 blocks, the last of which holds the rows.
  The plain mathematics of reading: numbers, registers and lines of a program as lists of bytes. Nothing of the program is used here.
  DERIVED: THE SHELF's CONTRACTS AT THIS DUMP, IN PLAIN WORDS (tools/lay-plain.mjs out of 'TryzShelf.lean', which tools/lay-shelf.mjs wrote): THE SAME DECLARATIONS UNDER THE SAME NAMES: 'import', 'namespace', 'open', 'def', 'theorem' AND NOTHING ELSE: no command of the shelf's: FOR A HAND-IN. Each laying: the table of numbers ('.._ren') and one theorem, a field a fact of the dump's own or the kernel's comparison; each contract: ONE APPLICATION.
  The contracts of the small functions of package reader: parseRegister, parseNumber. Each answers what the plain function of its bytes says; nothing old is changed.
  The contracts of words.Find, Jumps, TakesR, TakesS: what the table's row says; new blocks alone.
  Claims as plain data; the contracts of the small functions of package claims.
-/
import Derived.Test.YtngopilbpiplhaaGreatDoorProg
import Derived.WalkKit
import Derived.WalkSpells
import Derived.WalkLawsBesides
import Derived.BigQuiet
import Derived.Deep.QuietTactic
import Derived.Deep.RegionWith
import Derived.Lib.ItoaNum
import Derived.Lib.Bytealg
import Derived.Lib.ParseIntB
import Derived.Lib.Strings
import Derived.Shelf.Strings.Builder1
import Derived.Shelf.Strings.Builder2
import Derived.Shelf.Strings.OnBuilder
import Derived.Shelf.Strconv.Itoa0
import Derived.Shelf.Strconv.Itoa1
import Derived.Shelf.LaysM
import Derived.Shelf.Strconv.Itoa2
import Derived.Shelf.Strconv.Itoa3
import Derived.Shelf.Strconv.Itoa4
import Derived.Shelf.Strconv.ParseIntEmpty
import Derived.Shelf.Strconv.Clone
import Derived.Shelf.Strconv.SyntaxError
import Derived.Shelf.LaysC
import Derived.Shelf.Strconv.ToError
import Derived.Shelf.Strconv.Lower
import Derived.Shelf.Strconv.ParseUint10
import Derived.Shelf.Strconv.ParseUint10Empty
import Derived.Shelf.Strconv.ParseUint10Any
import Derived.Shelf.Strconv.ParseInt10
import Derived.Shelf.Strconv.RangeError
import Derived.Shelf.Strconv.ToErrorRange
import Derived.Shelf.Strconv.ParseUintEmpty
import Derived.Shelf.Strconv.ParseUint10b64
import Derived.Shelf.Strconv.ParseUint10b32
import Derived.Shelf.Strconv.ParseUint10b16
import Derived.Shelf.Strconv.ParseUint10b8
import Derived.Shelf.Strconv.ParseUint10At
import Derived.Shelf.Strconv.ParseInt10At64
import Derived.Shelf.Strconv.ParseInt10At32
import Derived.Shelf.Strconv.ParseInt10At16
import Derived.Shelf.Strconv.ParseInt10At8
import Derived.Shelf.Strconv.ParseInt10All
import Derived.Shelf.Strconv.ParseIntPublic10
import Derived.Shelf.Strconv.ErrVarParseInt
import Derived.Shelf.Strings.Search1
import Derived.Shelf.Strings.Search2
import Derived.Shelf.Strings.Search3
import Derived.Shelf.Strings.Cut
import Derived.Shelf.Strings.Count
import Derived.Shelf.Strings.Shaped
import Derived.Shelf.Strconv.AppendUint10
import Derived.Shelf.Strconv.AppendInt10
import Derived.Shelf.Strconv.AppendIntPublic10
import Derived.Shelf.Strings.Prefix
import Derived.Shelf.Strings.Split
import Derived.Shelf.Strings.SplitShaped
import Derived.Shelf.Unicode.DecodeSlow
import Derived.Laws.EntriesVeiled
namespace Go.Proofs.YtngopilbpiplhaaGreatDoor
theorem zzA {α : Type} (l : List α) (i : Nat) (a : α) : l.toArray.setIfInBounds i a = (l.set i a).toArray := by simp
theorem zzB {α : Type} (l : List α) (a b : α) : (a :: l).set 0 b = b :: l := rfl
theorem zzC {α : Type} (l : List α) (a b : α) (n : Nat) : (a :: l).set (n + 1) b = a :: l.set n b := rfl
open Go.RowKit
/-- Below block number B all but block b is as it was; the streams are as they were; no block has gone. -/
structure Keep (B b : Nat) (w w' : World) : Prop where
  os : w'.os = w.os
  tape : w'.tape = w.tape
  output : w'.output = w.output
  size : w.heap.size ≤ w'.heap.size
  block : ∀ k, k < B → k ≠ b → w'.heap[k]? = w.heap[k]?
theorem Keep.refl (B b : Nat) (w : World) : Keep B b w w := ⟨rfl, rfl, rfl, Nat.le_refl _, fun _ _ _ => rfl⟩
theorem Keep.trans {B b : Nat} {u v w : World} (h : Keep B b u v) (k : Keep B b v w) : Keep B b u w :=
  ⟨k.os.trans h.os, k.tape.trans h.tape, k.output.trans h.output, Nat.le_trans h.size k.size, fun i hi hb => (k.block i hi hb).trans (h.block i hi hb)⟩
theorem Keep.drew {B b : Nat} {a w : World} (h : Keep B b a w) : Keep B b a w.drew := ⟨h.os, h.tape, h.output, h.size, h.block⟩
theorem Keep.alloc {B b : Nat} {a w : World} (h : Keep B b a w) (hB : B ≤ w.heap.size) (o : Obj) : Keep B b a (w.alloc o) :=
  ⟨h.os, h.tape, h.output, by rw [World.size_alloc]; have := h.size; omega, fun k hk hb => (Below.heap_alloc w o k (by omega)).trans (h.block k hk hb)⟩
theorem Keep.setCell {B b : Nat} {a w : World} (h : Keep B b a w) {p : Addr} (hp : B ≤ p.block ∨ p.block = b) (u : Value) : Keep B b a (w.setCell p u) :=
  ⟨h.os, h.tape, h.output, by rw [World.size_setCell]; exact h.size, fun k hk hb => (Below.heap_setCell w p u k (by omega)).trans (h.block k hk hb)⟩
theorem Keep.of_below {B b : Nat} {w w' : World} (h : Below B w w') : Keep B b w w' := ⟨h.os, h.tape, h.output, h.size, fun k hk _ => h.block k hk⟩
theorem Keep.mono {B B' b : Nat} {w w' : World} (h : Keep B b w w') (hB : B' ≤ B) : Keep B' b w w' := ⟨h.os, h.tape, h.output, h.size, fun k hk hb => h.block k (by omega) hb⟩
theorem Keep.below {B b : Nat} {w w' : World} (h : Keep B b w w') (hb : B ≤ b) : Below B w w' := ⟨h.os, h.tape, h.output, h.size, fun k hk => h.block k hk (by omega)⟩
theorem Keep.cell {B b : Nat} {w w' : World} (h : Keep B b w w') {p : Addr} (hp : p.block < B) (hb : p.block ≠ b) : w'.cell? p = w.cell? p := World.cell?_of_block (w := w) (h.block p.block hp hb)
theorem cell_of_blk {w : World} {b : Nat} {arr : Array Value} {t : TypeId} {z : Nat × Nat} (h : w.heap[b]? = some (.cells arr t z)) (o : Nat) : w.cell? ⟨b, o, none⟩ = arr[o]? := by
  simp [World.cell?, h]
theorem frozen_of_blk {w : World} {b : Nat} {arr : Array Value} {t : TypeId} (h : w.heap[b]? = some (.cells arr t (0, 0))) (o : Nat) : w.frozen? ⟨b, o, none⟩ = false := by
  simp [World.frozen?, h]
theorem blk_setCell {w : World} {b : Nat} {arr : Array Value} {t : TypeId} {z : Nat × Nat} (h : w.heap[b]? = some (.cells arr t z)) (o : Nat) (v : Value) : (w.setCell ⟨b, o, none⟩ v).heap[b]? = some (.cells (arr.setIfInBounds o v) t z) := by
  simp [World.setCell, Array.getElem?_modify, h]
theorem blk_alloc {w : World} {b : Nat} {o : Obj} (h : w.heap[b]? = some o) (o' : Obj) : (w.alloc o').heap[b]? = some o := by
  have hb : b < w.heap.size := by rcases Nat.lt_or_ge b w.heap.size with q | q; exact q; rw [Array.getElem?_eq_none q] at h; cases h
  rw [Below.heap_alloc w o' b hb, h]
theorem blk_new (w : World) (o : Obj) : (w.alloc o).heap[w.heap.size]? = some o := by
  show (w.heap.push o)[w.heap.size]? = some o
  simp
theorem blk_lt {w : World} {b : Nat} {o : Obj} (h : w.heap[b]? = some o) : b < w.heap.size := by
  rcases Nat.lt_or_ge b w.heap.size with q | q; exact q; rw [Array.getElem?_eq_none q] at h; cases h
theorem below_drewN {B : Nat} {a w : World} (h : Below B a w) (n : Nat) : Below B a (w.drewN n) := ⟨h.os, h.tape, h.output, h.size, h.block⟩
theorem Keep.drewN {B b : Nat} {a w : World} (h : Keep B b a w) (n : Nat) : Keep B b a (w.drewN n) := ⟨h.os, h.tape, h.output, h.size, h.block⟩
theorem hide {p : Prop} (h : p) : Hid p := h
theorem unhide {p : Prop} (h : Hid p) : p := h
/-- What the calls lean on of the package-level variables (blocks 0 to 7): MaxLen is a number, ErrSyntax and ErrRange are set. -/
structure Glob (w : World) : Prop where
  maxLen : ∃ m : Int, w.cell? ⟨0, 0, none⟩ = some (.int .i64 m)
  errSyntax : ∃ t p, w.cell? ⟨6, 0, none⟩ = some (.iface t p)
  errRange : ∃ t p, w.cell? ⟨7, 0, none⟩ = some (.iface t p)
  size : 8 ≤ w.heap.size
theorem Glob.mono {w w' : World} (h : Glob w) (hs : w.heap.size ≤ w'.heap.size) (hb : ∀ k, k < 8 → w'.heap[k]? = w.heap[k]?) : Glob w' :=
  ⟨by obtain ⟨m, e⟩ := h.maxLen; exact ⟨m, (World.cell?_of_block (hb 0 (by omega))).trans e⟩, by obtain ⟨t, p, e⟩ := h.errSyntax; exact ⟨t, p, (World.cell?_of_block (hb 6 (by omega))).trans e⟩,
   by obtain ⟨t, p, e⟩ := h.errRange; exact ⟨t, p, (World.cell?_of_block (hb 7 (by omega))).trans e⟩, Nat.le_trans h.size hs⟩
theorem Glob.below {B : Nat} {w w' : World} (h : Glob w) (hb : Below B w w') (hB : 8 ≤ B) : Glob w' := h.mono hb.size fun k hk => hb.block k (by omega)
/-- The digits of a number, none for 0. -/
def dd (u : Nat) : List UInt8 := if u = 0 then [] else Lib.decDigits u
theorem dd_step (u : Nat) (h : u ≠ 0) : dd u = dd (u / 10) ++ [UInt8.ofNat (48 + u % 10)] := by
  unfold dd
  rw [if_neg h]
  by_cases h1 : u < 10
  · rw [Lib.decDigits_one h1, if_pos (by omega), Nat.mod_eq_of_lt h1]; rfl
  · rw [Lib.decDigits, dif_neg h1, if_neg (by omega)]
theorem dd_len : ∀ (k u : Nat), u < 10 ^ k → (dd u).length ≤ k
  | 0, u, h => by
    have e : u = 0 := by simpa using h
    subst e; simp [dd]
  | k + 1, u, h => by
    by_cases e : u = 0
    · subst e; simp [dd]
    · rw [dd_step u e]
      have := dd_len k (u / 10) (by rw [Nat.pow_succ] at h; omega)
      simp; omega
theorem dd_len20 (u : Nat) (h : (u : Int) ≤ 9223372036854775808) : (dd u).length ≤ 19 := dd_len 19 u (by have : (10 : Nat) ^ 19 = 10000000000000000000 := rfl; omega)
theorem itoa_pos (u : Nat) (h : u ≠ 0) : Lib.itoa u = dd u := by unfold Lib.itoa dd; rw [if_neg (by omega), if_neg h]; rfl
theorem itoa_neg (u : Nat) (h : u ≠ 0) : Lib.itoa (-(u : Int)) = 45 :: dd u := by unfold Lib.itoa dd; rw [if_pos (by omega), if_neg h]; simp
end Go.Proofs.YtngopilbpiplhaaGreatDoor

namespace Go.Proofs.YtngopilbpiplhaaGreatDoor
open Go.RowKit
/-- The blocks that the table's closures captured; s: the number of the first. -/
def tcaps (s : Nat) : List Obj := [
  .cells #[.func (.func 53) #[] #[]] 123,
  .cells #[.func (.func 56) #[] #[]] 137,
  .cells #[.func (.func 59) #[] #[]] 123,
  .cells #[.func (.func 61) #[] #[]] 137,
  .cells #[.func (.func 64) #[] #[]] 144,
  .cells #[.func (.func 66) #[] #[]] 146,
  .cells #[.func (.func 136) #[] #[.pointer (some ⟨s + 5, 0, none⟩)]] 137,
  .cells #[.func (.func 67) #[] #[]] 144,
  .cells #[.func (.func 68) #[] #[]] 146,
  .cells #[.func (.func 136) #[] #[.pointer (some ⟨s + 8, 0, none⟩)]] 137,
  .cells #[.func (.func 69) #[] #[]] 144,
  .cells #[.func (.func 70) #[] #[]] 146,
  .cells #[.func (.func 136) #[] #[.pointer (some ⟨s + 11, 0, none⟩)]] 137,
  .cells #[.func (.func 71) #[] #[]] 144,
  .cells #[.func (.func 72) #[] #[]] 146,
  .cells #[.func (.func 136) #[] #[.pointer (some ⟨s + 14, 0, none⟩)]] 137,
  .cells #[.func (.func 73) #[] #[]] 144,
  .cells #[.func (.func 75) #[] #[]] 146,
  .cells #[.func (.func 136) #[] #[.pointer (some ⟨s + 17, 0, none⟩)]] 137,
  .cells #[.int .i64 64] 2,
  .cells #[.func (.func 77) #[] #[]] 151,
  .cells #[.int .i64 64] 2,
  .cells #[.int .i64 0, .int .i64 255] 132,
  .cells #[.func (.func 147) #[] #[.pointer (some ⟨s + 22, 0, none⟩)]] 137,
  .cells #[.int .i64 16] 2,
  .cells #[.func (.func 80) #[] #[]] 151,
  .cells #[.int .i64 16] 2,
  .cells #[.int .i64 (-9223372036854775808), .int .i64 9223372036854775807] 132,
  .cells #[.int .i64 (-9223372036854775808), .int .i64 9223372036854775807] 132,
  .cells #[.func (.func 147) #[] #[.pointer (some ⟨s + 28, 0, none⟩)]] 137,
  .cells #[.int .i64 16] 2,
  .cells #[.func (.func 83) #[] #[]] 156,
  .cells #[.int .i64 16] 2,
  .cells #[.int .i64 8] 2,
  .cells #[.func (.func 86) #[] #[]] 151,
  .cells #[.int .i64 8] 2,
  .cells #[.int .i64 (-9223372036854775808), .int .i64 9223372036854775807] 132,
  .cells #[.int .i64 (-9223372036854775808), .int .i64 9223372036854775807] 132,
  .cells #[.func (.func 147) #[] #[.pointer (some ⟨s + 37, 0, none⟩)]] 137,
  .cells #[.int .i64 8] 2,
  .cells #[.func (.func 87) #[] #[]] 156,
  .cells #[.int .i64 8] 2,
  .cells #[.func (.func 89) #[] #[]] 159,
  .cells #[.func (.func 92) #[] #[]] 161,
  .cells #[.func (.func 93) #[] #[]] 161,
  .cells #[.func (.func 150) #[] #[]] 128,
  .cells #[.func (.func 95) #[] #[]] 163,
  .cells #[.func (.func 133) #[] #[]] 128,
  .cells #[.func (.func 96) #[] #[]] 163,
  .cells #[.func (.func 97) #[] #[]] 161,
  .cells #[.func (.func 133) #[] #[]] 128,
  .cells #[.func (.func 98) #[] #[]] 163,
  .cells #[.func (.func 150) #[] #[]] 128,
  .cells #[.func (.func 99) #[] #[]] 163,
  .cells #[.func (.func 100) #[] #[]] 159]
/-- The rows: name, parts, takes, falls; do, needs, next, jump. -/
def trows (s : Nat) : Array Value := #[
  .string ⟨#[115, 101, 116]⟩, .string ⟨#[82, 110]⟩, .string ⟨#[]⟩, .bool true, .func (.func 129) #[] #[.pointer (some ⟨s + 0, 0, none⟩)], .func (.func 130) #[] #[], .func (.func 131) #[] #[.pointer (some ⟨s + 1, 0, none⟩)], .func (.func 133) #[] #[],
  .string ⟨#[109, 111, 118]⟩, .string ⟨#[82, 83]⟩, .string ⟨#[83]⟩, .bool true, .func (.func 129) #[] #[.pointer (some ⟨s + 2, 0, none⟩)], .func (.func 130) #[] #[], .func (.func 131) #[] #[.pointer (some ⟨s + 3, 0, none⟩)], .func (.func 133) #[] #[],
  .string ⟨#[97, 100, 100]⟩, .string ⟨#[82, 83]⟩, .string ⟨#[82, 83]⟩, .bool true, .func (.func 135) #[] #[.pointer (some ⟨s + 4, 0, none⟩)], .func (.func 130) #[] #[], .func (.func 131) #[] #[.pointer (some ⟨s + 6, 0, none⟩)], .func (.func 133) #[] #[],
  .string ⟨#[115, 117, 98]⟩, .string ⟨#[82, 83]⟩, .string ⟨#[82, 83]⟩, .bool true, .func (.func 135) #[] #[.pointer (some ⟨s + 7, 0, none⟩)], .func (.func 130) #[] #[], .func (.func 131) #[] #[.pointer (some ⟨s + 9, 0, none⟩)], .func (.func 133) #[] #[],
  .string ⟨#[109, 117, 108]⟩, .string ⟨#[82, 83]⟩, .string ⟨#[82, 83]⟩, .bool true, .func (.func 135) #[] #[.pointer (some ⟨s + 10, 0, none⟩)], .func (.func 130) #[] #[], .func (.func 131) #[] #[.pointer (some ⟨s + 12, 0, none⟩)], .func (.func 133) #[] #[],
  .string ⟨#[97, 110, 100]⟩, .string ⟨#[82, 83]⟩, .string ⟨#[82, 83]⟩, .bool true, .func (.func 135) #[] #[.pointer (some ⟨s + 13, 0, none⟩)], .func (.func 130) #[] #[], .func (.func 131) #[] #[.pointer (some ⟨s + 15, 0, none⟩)], .func (.func 133) #[] #[],
  .string ⟨#[100, 105, 118]⟩, .string ⟨#[82, 83]⟩, .string ⟨#[82, 83]⟩, .bool true, .func (.func 135) #[] #[.pointer (some ⟨s + 16, 0, none⟩)], .func (.func 142) #[] #[], .func (.func 131) #[] #[.pointer (some ⟨s + 18, 0, none⟩)], .func (.func 133) #[] #[],
  .string ⟨#[105, 110]⟩, .string ⟨#[82, 83]⟩, .string ⟨#[83]⟩, .bool true, .func (.func 144) #[] #[.pointer (some ⟨s + 19, 0, none⟩), .pointer (some ⟨s + 20, 0, none⟩)], .func (.func 145) #[] #[.pointer (some ⟨s + 21, 0, none⟩)], .func (.func 131) #[] #[.pointer (some ⟨s + 23, 0, none⟩)], .func (.func 133) #[] #[],
  .string ⟨#[103, 101, 116]⟩, .string ⟨#[82, 83]⟩, .string ⟨#[83]⟩, .bool true, .func (.func 144) #[] #[.pointer (some ⟨s + 24, 0, none⟩), .pointer (some ⟨s + 25, 0, none⟩)], .func (.func 145) #[] #[.pointer (some ⟨s + 26, 0, none⟩)], .func (.func 131) #[] #[.pointer (some ⟨s + 29, 0, none⟩)], .func (.func 133) #[] #[],
  .string ⟨#[112, 117, 116]⟩, .string ⟨#[82, 83]⟩, .string ⟨#[82, 83]⟩, .bool true, .func (.func 148) #[] #[.pointer (some ⟨s + 30, 0, none⟩), .pointer (some ⟨s + 31, 0, none⟩)], .func (.func 149) #[] #[.pointer (some ⟨s + 32, 0, none⟩)], .func (.func 150) #[] #[], .func (.func 133) #[] #[],
  .string ⟨#[108, 111, 97, 100]⟩, .string ⟨#[82, 83]⟩, .string ⟨#[83]⟩, .bool true, .func (.func 144) #[] #[.pointer (some ⟨s + 33, 0, none⟩), .pointer (some ⟨s + 34, 0, none⟩)], .func (.func 145) #[] #[.pointer (some ⟨s + 35, 0, none⟩)], .func (.func 131) #[] #[.pointer (some ⟨s + 38, 0, none⟩)], .func (.func 133) #[] #[],
  .string ⟨#[107, 101, 101, 112]⟩, .string ⟨#[82, 83]⟩, .string ⟨#[82, 83]⟩, .bool true, .func (.func 148) #[] #[.pointer (some ⟨s + 39, 0, none⟩), .pointer (some ⟨s + 40, 0, none⟩)], .func (.func 149) #[] #[.pointer (some ⟨s + 41, 0, none⟩)], .func (.func 150) #[] #[], .func (.func 133) #[] #[],
  .string ⟨#[111, 117, 116]⟩, .string ⟨#[82]⟩, .string ⟨#[82]⟩, .bool true, .func (.func 151) #[] #[.pointer (some ⟨s + 42, 0, none⟩)], .func (.func 130) #[] #[], .func (.func 150) #[] #[], .func (.func 133) #[] #[],
  .string ⟨#[106, 109, 112]⟩, .string ⟨#[76]⟩, .string ⟨#[]⟩, .bool false, .func (.func 153) #[] #[.pointer (some ⟨s + 43, 0, none⟩)], .func (.func 130) #[] #[], .func (.func 133) #[] #[], .func (.func 150) #[] #[],
  .string ⟨#[106, 108, 116]⟩, .string ⟨#[82, 83, 76]⟩, .string ⟨#[82, 83]⟩, .bool true, .func (.func 153) #[] #[.pointer (some ⟨s + 44, 0, none⟩)], .func (.func 130) #[] #[], .func (.func 154) #[] #[.pointer (some ⟨s + 45, 0, none⟩), .pointer (some ⟨s + 46, 0, none⟩)], .func (.func 154) #[] #[.pointer (some ⟨s + 47, 0, none⟩), .pointer (some ⟨s + 48, 0, none⟩)],
  .string ⟨#[106, 101, 113]⟩, .string ⟨#[82, 83, 76]⟩, .string ⟨#[82, 83]⟩, .bool true, .func (.func 153) #[] #[.pointer (some ⟨s + 49, 0, none⟩)], .func (.func 130) #[] #[], .func (.func 154) #[] #[.pointer (some ⟨s + 50, 0, none⟩), .pointer (some ⟨s + 51, 0, none⟩)], .func (.func 154) #[] #[.pointer (some ⟨s + 52, 0, none⟩), .pointer (some ⟨s + 53, 0, none⟩)],
  .string ⟨#[101, 110, 100]⟩, .string ⟨#[82]⟩, .string ⟨#[82]⟩, .bool false, .func (.func 151) #[] #[.pointer (some ⟨s + 54, 0, none⟩)], .func (.func 130) #[] #[], .func (.func 133) #[] #[], .func (.func 133) #[] #[]]
def tblocks (s : Nat) : List Obj := tcaps s ++ [.cells (trows s) 140]
def allocs (w : World) (l : List Obj) : World := l.foldl World.alloc w
theorem allocs_size (l : List Obj) : ∀ w, (allocs w l).heap.size = w.heap.size + l.length := by
  induction l with
  | nil => intro w; rfl
  | cons o l ih => intro w; show (allocs (w.alloc o) l).heap.size = _; rw [ih]; simp; omega
theorem allocs_below (l : List Obj) : ∀ w, Below w.heap.size w (allocs w l) := by
  induction l with
  | nil => intro w; exact Below.refl _ _
  | cons o l ih => intro w; exact ((Below.refl _ _).alloc (Nat.le_refl _) o).trans ((ih (w.alloc o)).mono (by simp))
theorem allocs_get (l : List Obj) : ∀ w k, k < l.length → (allocs w l).heap[w.heap.size + k]? = l[k]? := by
  induction l with
  | nil => intro w k h; cases h
  | cons o l ih =>
    intro w k h
    show (allocs (w.alloc o) l).heap[_]? = _
    cases k with
    | zero => rw [Nat.add_zero, (allocs_below l (w.alloc o)).block _ (by simp), blk_new]; rfl
    | succ k => rw [show w.heap.size + (k + 1) = (w.alloc o).heap.size + k by simp; omega, ih _ _ (by simpa using h)]; rfl
/-- The table lies at block s and behind it. -/
def Table (s : Nat) (w : World) : Prop := ∀ k, k < 56 → w.heap[s + k]? = (tblocks s)[k]?
theorem Table.mono {s : Nat} {w w' : World} (h : Table s w) (hb : ∀ k, s ≤ k → k < s + 56 → w'.heap[k]? = w.heap[k]?) : Table s w' :=
  fun k hk => (hb (s + k) (by omega) (by omega)).trans (h k hk)
/-- The names, the parts, and which of R and S must be set, row by row. -/
def wName : Nat → List UInt8
  | 0 => [115, 101, 116]
  | 1 => [109, 111, 118]
  | 2 => [97, 100, 100]
  | 3 => [115, 117, 98]
  | 4 => [109, 117, 108]
  | 5 => [97, 110, 100]
  | 6 => [100, 105, 118]
  | 7 => [105, 110]
  | 8 => [103, 101, 116]
  | 9 => [112, 117, 116]
  | 10 => [108, 111, 97, 100]
  | 11 => [107, 101, 101, 112]
  | 12 => [111, 117, 116]
  | 13 => [106, 109, 112]
  | 14 => [106, 108, 116]
  | 15 => [106, 101, 113]
  | 16 => [101, 110, 100]
  | _ => []
def wParts : Nat → List UInt8
  | 0 => [82, 110]
  | 1 => [82, 83]
  | 2 => [82, 83]
  | 3 => [82, 83]
  | 4 => [82, 83]
  | 5 => [82, 83]
  | 6 => [82, 83]
  | 7 => [82, 83]
  | 8 => [82, 83]
  | 9 => [82, 83]
  | 10 => [82, 83]
  | 11 => [82, 83]
  | 12 => [82]
  | 13 => [76]
  | 14 => [82, 83, 76]
  | 15 => [82, 83, 76]
  | 16 => [82]
  | _ => []
def wTakes : Nat → List UInt8
  | 0 => []
  | 1 => [83]
  | 2 => [82, 83]
  | 3 => [82, 83]
  | 4 => [82, 83]
  | 5 => [82, 83]
  | 6 => [82, 83]
  | 7 => [83]
  | 8 => [83]
  | 9 => [82, 83]
  | 10 => [83]
  | 11 => [82, 83]
  | 12 => [82]
  | 13 => []
  | 14 => [82, 83]
  | 15 => [82, 83]
  | 16 => [82]
  | _ => []
def wFalls : Nat → Bool
  | 0 => true
  | 1 => true
  | 2 => true
  | 3 => true
  | 4 => true
  | 5 => true
  | 6 => true
  | 7 => true
  | 8 => true
  | 9 => true
  | 10 => true
  | 11 => true
  | 12 => true
  | 13 => false
  | 14 => true
  | 15 => true
  | 16 => false
  | _ => false
def wDo (s : Nat) : Nat → Value
  | 0 => .func (.func 129) #[] #[.pointer (some ⟨s + 0, 0, none⟩)]
  | 1 => .func (.func 129) #[] #[.pointer (some ⟨s + 2, 0, none⟩)]
  | 2 => .func (.func 135) #[] #[.pointer (some ⟨s + 4, 0, none⟩)]
  | 3 => .func (.func 135) #[] #[.pointer (some ⟨s + 7, 0, none⟩)]
  | 4 => .func (.func 135) #[] #[.pointer (some ⟨s + 10, 0, none⟩)]
  | 5 => .func (.func 135) #[] #[.pointer (some ⟨s + 13, 0, none⟩)]
  | 6 => .func (.func 135) #[] #[.pointer (some ⟨s + 16, 0, none⟩)]
  | 7 => .func (.func 144) #[] #[.pointer (some ⟨s + 19, 0, none⟩), .pointer (some ⟨s + 20, 0, none⟩)]
  | 8 => .func (.func 144) #[] #[.pointer (some ⟨s + 24, 0, none⟩), .pointer (some ⟨s + 25, 0, none⟩)]
  | 9 => .func (.func 148) #[] #[.pointer (some ⟨s + 30, 0, none⟩), .pointer (some ⟨s + 31, 0, none⟩)]
  | 10 => .func (.func 144) #[] #[.pointer (some ⟨s + 33, 0, none⟩), .pointer (some ⟨s + 34, 0, none⟩)]
  | 11 => .func (.func 148) #[] #[.pointer (some ⟨s + 39, 0, none⟩), .pointer (some ⟨s + 40, 0, none⟩)]
  | 12 => .func (.func 151) #[] #[.pointer (some ⟨s + 42, 0, none⟩)]
  | 13 => .func (.func 153) #[] #[.pointer (some ⟨s + 43, 0, none⟩)]
  | 14 => .func (.func 153) #[] #[.pointer (some ⟨s + 44, 0, none⟩)]
  | 15 => .func (.func 153) #[] #[.pointer (some ⟨s + 49, 0, none⟩)]
  | 16 => .func (.func 151) #[] #[.pointer (some ⟨s + 54, 0, none⟩)]
  | _ => .nilFunc
def wNeeds (s : Nat) : Nat → Value
  | 0 => .func (.func 130) #[] #[]
  | 1 => .func (.func 130) #[] #[]
  | 2 => .func (.func 130) #[] #[]
  | 3 => .func (.func 130) #[] #[]
  | 4 => .func (.func 130) #[] #[]
  | 5 => .func (.func 130) #[] #[]
  | 6 => .func (.func 142) #[] #[]
  | 7 => .func (.func 145) #[] #[.pointer (some ⟨s + 21, 0, none⟩)]
  | 8 => .func (.func 145) #[] #[.pointer (some ⟨s + 26, 0, none⟩)]
  | 9 => .func (.func 149) #[] #[.pointer (some ⟨s + 32, 0, none⟩)]
  | 10 => .func (.func 145) #[] #[.pointer (some ⟨s + 35, 0, none⟩)]
  | 11 => .func (.func 149) #[] #[.pointer (some ⟨s + 41, 0, none⟩)]
  | 12 => .func (.func 130) #[] #[]
  | 13 => .func (.func 130) #[] #[]
  | 14 => .func (.func 130) #[] #[]
  | 15 => .func (.func 130) #[] #[]
  | 16 => .func (.func 130) #[] #[]
  | _ => .nilFunc
def wNext (s : Nat) : Nat → Value
  | 0 => .func (.func 131) #[] #[.pointer (some ⟨s + 1, 0, none⟩)]
  | 1 => .func (.func 131) #[] #[.pointer (some ⟨s + 3, 0, none⟩)]
  | 2 => .func (.func 131) #[] #[.pointer (some ⟨s + 6, 0, none⟩)]
  | 3 => .func (.func 131) #[] #[.pointer (some ⟨s + 9, 0, none⟩)]
  | 4 => .func (.func 131) #[] #[.pointer (some ⟨s + 12, 0, none⟩)]
  | 5 => .func (.func 131) #[] #[.pointer (some ⟨s + 15, 0, none⟩)]
  | 6 => .func (.func 131) #[] #[.pointer (some ⟨s + 18, 0, none⟩)]
  | 7 => .func (.func 131) #[] #[.pointer (some ⟨s + 23, 0, none⟩)]
  | 8 => .func (.func 131) #[] #[.pointer (some ⟨s + 29, 0, none⟩)]
  | 9 => .func (.func 150) #[] #[]
  | 10 => .func (.func 131) #[] #[.pointer (some ⟨s + 38, 0, none⟩)]
  | 11 => .func (.func 150) #[] #[]
  | 12 => .func (.func 150) #[] #[]
  | 13 => .func (.func 133) #[] #[]
  | 14 => .func (.func 154) #[] #[.pointer (some ⟨s + 45, 0, none⟩), .pointer (some ⟨s + 46, 0, none⟩)]
  | 15 => .func (.func 154) #[] #[.pointer (some ⟨s + 50, 0, none⟩), .pointer (some ⟨s + 51, 0, none⟩)]
  | 16 => .func (.func 133) #[] #[]
  | _ => .nilFunc
def wJump (s : Nat) : Nat → Value
  | 0 => .func (.func 133) #[] #[]
  | 1 => .func (.func 133) #[] #[]
  | 2 => .func (.func 133) #[] #[]
  | 3 => .func (.func 133) #[] #[]
  | 4 => .func (.func 133) #[] #[]
  | 5 => .func (.func 133) #[] #[]
  | 6 => .func (.func 133) #[] #[]
  | 7 => .func (.func 133) #[] #[]
  | 8 => .func (.func 133) #[] #[]
  | 9 => .func (.func 133) #[] #[]
  | 10 => .func (.func 133) #[] #[]
  | 11 => .func (.func 133) #[] #[]
  | 12 => .func (.func 133) #[] #[]
  | 13 => .func (.func 150) #[] #[]
  | 14 => .func (.func 154) #[] #[.pointer (some ⟨s + 47, 0, none⟩), .pointer (some ⟨s + 48, 0, none⟩)]
  | 15 => .func (.func 154) #[] #[.pointer (some ⟨s + 52, 0, none⟩), .pointer (some ⟨s + 53, 0, none⟩)]
  | 16 => .func (.func 133) #[] #[]
  | _ => .nilFunc
structure RowAt (s : Nat) (w : World) (i : Nat) : Prop where
  name : w.cell? ⟨s + 55, i * 8, none⟩ = some (.string ⟨(wName i).toArray⟩)
  parts : w.cell? ⟨s + 55, i * 8 + 1, none⟩ = some (.string ⟨(wParts i).toArray⟩)
  takes : w.cell? ⟨s + 55, i * 8 + 2, none⟩ = some (.string ⟨(wTakes i).toArray⟩)
  falls : w.cell? ⟨s + 55, i * 8 + 3, none⟩ = some (.bool (wFalls i))
  act : w.cell? ⟨s + 55, i * 8 + 4, none⟩ = some (wDo s i)
  needs : w.cell? ⟨s + 55, i * 8 + 5, none⟩ = some (wNeeds s i)
  next : w.cell? ⟨s + 55, i * 8 + 6, none⟩ = some (wNext s i)
  jump : w.cell? ⟨s + 55, i * 8 + 7, none⟩ = some (wJump s i)
theorem rowAt {s : Nat} {w : World} (h : w.heap[s + 55]? = some (.cells (trows s) 140)) {i : Nat} (hi : i < 17) : RowAt s w i := by
  have hc := cell_of_blk h
  match i, hi with
  | 0, _ => exact ⟨hc 0, hc 1, hc 2, hc 3, hc 4, hc 5, hc 6, hc 7⟩
  | 1, _ => exact ⟨hc 8, hc 9, hc 10, hc 11, hc 12, hc 13, hc 14, hc 15⟩
  | 2, _ => exact ⟨hc 16, hc 17, hc 18, hc 19, hc 20, hc 21, hc 22, hc 23⟩
  | 3, _ => exact ⟨hc 24, hc 25, hc 26, hc 27, hc 28, hc 29, hc 30, hc 31⟩
  | 4, _ => exact ⟨hc 32, hc 33, hc 34, hc 35, hc 36, hc 37, hc 38, hc 39⟩
  | 5, _ => exact ⟨hc 40, hc 41, hc 42, hc 43, hc 44, hc 45, hc 46, hc 47⟩
  | 6, _ => exact ⟨hc 48, hc 49, hc 50, hc 51, hc 52, hc 53, hc 54, hc 55⟩
  | 7, _ => exact ⟨hc 56, hc 57, hc 58, hc 59, hc 60, hc 61, hc 62, hc 63⟩
  | 8, _ => exact ⟨hc 64, hc 65, hc 66, hc 67, hc 68, hc 69, hc 70, hc 71⟩
  | 9, _ => exact ⟨hc 72, hc 73, hc 74, hc 75, hc 76, hc 77, hc 78, hc 79⟩
  | 10, _ => exact ⟨hc 80, hc 81, hc 82, hc 83, hc 84, hc 85, hc 86, hc 87⟩
  | 11, _ => exact ⟨hc 88, hc 89, hc 90, hc 91, hc 92, hc 93, hc 94, hc 95⟩
  | 12, _ => exact ⟨hc 96, hc 97, hc 98, hc 99, hc 100, hc 101, hc 102, hc 103⟩
  | 13, _ => exact ⟨hc 104, hc 105, hc 106, hc 107, hc 108, hc 109, hc 110, hc 111⟩
  | 14, _ => exact ⟨hc 112, hc 113, hc 114, hc 115, hc 116, hc 117, hc 118, hc 119⟩
  | 15, _ => exact ⟨hc 120, hc 121, hc 122, hc 123, hc 124, hc 125, hc 126, hc 127⟩
  | 16, _ => exact ⟨hc 128, hc 129, hc 130, hc 131, hc 132, hc 133, hc 134, hc 135⟩
  | n + 17, h => exact absurd h (by omega)
theorem Table.rows {s : Nat} {w : World} (h : Table s w) : w.heap[s + 55]? = some (.cells (trows s) 140) := h 55 (by omega)
end Go.Proofs.YtngopilbpiplhaaGreatDoor

namespace Go.Proofs.YtngopilbpiplhaaGreatDoor
/-- A register's text: its number. -/
def regF (l : List UInt8) : Option Nat :=
  match l with
  | [a, b] => if a.toNat = 114 ∧ 48 ≤ b.toNat ∧ b.toNat < 56 then some (b.toNat - 48) else none
  | _ => none
/-- Are all of these digits? -/
def allDig (l : List UInt8) : Bool := l.all fun c => 48 ≤ c.toNat && c.toNat ≤ 57
def numOf : Lib.NumEnd Int → Option Int
  | .ok v => some v
  | _ => none
theorem allDig_snoc (l : List UInt8) (k : Nat) (h : k < l.length) : allDig (l.take (k + 1)) = (allDig (l.take k) && (48 ≤ l[k].toNat && l[k].toNat ≤ 57)) := by
  unfold allDig
  rw [List.take_succ_eq_append_getElem h, List.all_append]
  simp only [List.all_cons, List.all_nil, Bool.and_true]
theorem allDig_bad (l : List UInt8) (k : Nat) (h : k < l.length) (hb : ¬ (48 ≤ l[k].toNat ∧ l[k].toNat ≤ 57)) : allDig l = false := by
  rw [Bool.eq_false_iff]
  intro ha
  have := List.all_eq_true.1 ha l[k] (List.getElem_mem h)
  simp at this
  exact hb this
/-- A number's text: its number. -/
def numF (l : List UInt8) : Option Int :=
  let d := Lib.trimPrefix l [45]
  if d = [] ∨ (l ≠ [48] ∧ d.head? = some 48) then none
  else if allDig d then numOf (Lib.parseIntB 64 l) else none
/-- A line of a program: its word's row, R, S, and n or L. -/
structure Ln where
  word : Int
  r : Int
  s : Int
  n : Int
/-- One part of a line, by its kind (R, S, n, L). -/
def partF (x : Ln) (c : UInt8) (t : List UInt8) : Option Ln :=
  if c = 82 then (regF t).map fun (r : Nat) => { x with r := (r : Int) }
  else if c = 83 then (regF t).map fun (r : Nat) => { x with s := (r : Int) }
  else if c = 110 then (numF t).bind fun v => if -1000000000 ≤ v ∧ v ≤ 1000000000 then some { x with n := v } else none
  else if c = 76 then (numF t).bind fun v => if 0 ≤ v then some { x with n := v } else none
  else none
end Go.Proofs.YtngopilbpiplhaaGreatDoor

namespace Go.Proofs
open Go.Shelf
def Tryz.lays156_ren : Go.Shelf.Ren := ⟨fun | 156 => 121 | 165 => 180 | 166 => 181 | 169 => 182 | 240 => 218 | 241 => 219 | 276 => 251 | 277 => 252 | n => n, fun | 31 => 46 | 9 => 9 | 3 => 3 | 4 => 4 | 0 => 0 | 20 => 20 | 72 => 249 | 76 => 252 | 70 => 247 | 37 => 76 | 75 => 251 | 127 => 289 | 164 => 294 | 5 => 5 | 80 => 191 | n => n, fun | n => n⟩
theorem Tryz.lays156 : Go.Proofs.Lays.n156 Tryz.prog Tryz.lays156_ren := {
  mixed := by kernel_rfl
  f156 := Tryz.func121.trans (congrArg some (by kernel_rfl))
  f165 := Tryz.func180.trans (congrArg some (by kernel_rfl))
  f166 := Tryz.func181.trans (congrArg some (by kernel_rfl))
  f169 := Tryz.func182.trans (congrArg some (by kernel_rfl))
  f240 := Tryz.func218.trans (congrArg some (by kernel_rfl))
  f241 := Tryz.func219.trans (congrArg some (by kernel_rfl))
  f276 := Tryz.func251.trans (congrArg some (by kernel_rfl))
  f277 := Tryz.func252.trans (congrArg some (by kernel_rfl))
  t0 := Tryz.underlying0
  a0 := Tryz.isAgg0
  z0 := Tryz.sizeOf0
  v0 := Tryz.zeroValue0
  t3 := Tryz.underlying3
  a3 := Tryz.isAgg3
  z3 := Tryz.sizeOf3
  v3 := Tryz.zeroValue3
  t4 := Tryz.underlying4
  a4 := Tryz.isAgg4
  z4 := Tryz.sizeOf4
  v4 := Tryz.zeroValue4
  t9 := Tryz.underlying9
  a9 := Tryz.isAgg9
  z9 := Tryz.sizeOf9
  v9 := Tryz.zeroValue9
  t20 := Tryz.underlying20
  a20 := Tryz.isAgg20
  z20 := Tryz.sizeOf20
  v20 := Tryz.zeroValue20
  t31 := Tryz.underlying46
  a31 := Tryz.isAgg46
  z31 := Tryz.sizeOf46
  v31 := Tryz.zeroValue46
  t37 := Tryz.underlying76
  a37 := Tryz.isAgg76
  z37 := Tryz.sizeOf76
  v37 := Tryz.zeroValue76
  t70 := Tryz.underlying247
  a70 := Tryz.isAgg247
  z70 := Tryz.sizeOf247
  v70 := Tryz.zeroValue247
  t72 := Tryz.underlying249
  a72 := Tryz.isAgg249
  z72 := Tryz.sizeOf249
  v72 := Tryz.zeroValue249
  t75 := Tryz.underlying251
  a75 := Tryz.isAgg251
  z75 := Tryz.sizeOf251
  v75 := Tryz.zeroValue251
  t76 := Tryz.underlying252
  a76 := Tryz.isAgg252
  z76 := Tryz.sizeOf252
  v76 := Tryz.zeroValue252
  t127 := Tryz.underlying289
  a127 := Tryz.isAgg289
  z127 := Tryz.sizeOf289
  v127 := Tryz.zeroValue289
  t164 := Tryz.underlying294
  a164 := Tryz.isAgg294
  z164 := Tryz.sizeOf294
  v164 := Tryz.zeroValue294 }
theorem Tryz.Builder_Extra_156 : Builder.Extra Tryz.prog Tryz.lays156_ren := {
  sizeBuilder := by kernel_rfl
  liesBuilder := by kernel_rfl
  t5 := Tryz.underlying5
  a5 := Tryz.isAgg5
  z5 := Tryz.sizeOf5
  v5 := Tryz.zeroValue5
  infoByte := by kernel_rfl
  cellsByte := by kernel_rfl
  sizeByte := by kernel_rfl
  neB5 := by decide }
open Go.RowKit in
/-- strings.Join: "Join concatenates the elements of its first argument to create a single string. The separator string sep is placed between elements in the resulting string.": HOWEVER MANY ELEMENTS. Below the heap's end the world is as it was. (LAID: no walk: one application.) -/
theorem Tryz.strings_Join (bk o c : Nat) (xs : List ByteArray) (sep : ByteArray) (w : World) (hcells : ∀ (j : Nat) x, xs[j]? = some x → w.cell? ⟨bk, o + j, none⟩ = some (.string x)) (hbk : bk < w.heap.size) (hN : xs.length ≤ 140737488355328) (hcap : xs.length ≤ c) (hlen : (Lib.join (xs.map (·.data.toList)) sep.data.toList).length ≤ 140737488355328) :
    Calls Tryz.prog 121 #[.slice (some ⟨bk, o, none⟩) xs.length c, .string sep] w fun e w' => e = .returned (.string ⟨(Lib.join (xs.map (·.data.toList)) sep.data.toList).toArray⟩) ∧ Below w.heap.size w w' := Any.strings_Join Tryz.lays156 Tryz.Builder_Extra_156 bk o c xs sep w hcells hbk hN hcap hlen
def Tryz.lays171_ren : Go.Shelf.Ren := ⟨fun | 171 => 126 | 243 => 192 | 246 => 240 | 283 => 260 | 284 => 261 | 285 => 262 | 286 => 263 | 129 => 273 | 317 => 272 | 318 => 274 | 319 => 275 | 320 => 276 | 337 => 282 | 338 => 283 | n => n, fun | 3 => 3 | 9 => 9 | 2 => 2 | 4 => 4 | 171 => 329 | 0 => 0 | 53 => 262 | 37 => 76 | 5 => 5 | 173 => 332 | 212 => 339 | 51 => 265 | 20 => 20 | 213 => 340 | 46 => 299 | 232 => 356 | 233 => 148 | n => n, fun | 17 => 1 | 18 => 4 | 19 => 5 | n => n⟩
theorem Tryz.lays171 : Go.Proofs.Lays.n171 Tryz.prog Tryz.lays171_ren := {
  mixed := by kernel_rfl
  f129 := Tryz.func273.trans (congrArg some (by kernel_rfl))
  f171 := Tryz.func126.trans (congrArg some (by kernel_rfl))
  f243 := Tryz.func192.trans (congrArg some (by kernel_rfl))
  f246 := Tryz.func240.trans (congrArg some (by kernel_rfl))
  f283 := Tryz.func260.trans (congrArg some (by kernel_rfl))
  f284 := Tryz.func261.trans (congrArg some (by kernel_rfl))
  f285 := Tryz.func262.trans (congrArg some (by kernel_rfl))
  f286 := Tryz.func263.trans (congrArg some (by kernel_rfl))
  f317 := Tryz.func272.trans (congrArg some (by kernel_rfl))
  f318 := Tryz.func274.trans (congrArg some (by kernel_rfl))
  f319 := Tryz.func275.trans (congrArg some (by kernel_rfl))
  f320 := Tryz.func276.trans (congrArg some (by kernel_rfl))
  f337 := Tryz.func282.trans (congrArg some (by kernel_rfl))
  f338 := Tryz.func283.trans (congrArg some (by kernel_rfl))
  t0 := Tryz.underlying0
  a0 := Tryz.isAgg0
  z0 := Tryz.sizeOf0
  v0 := Tryz.zeroValue0
  t2 := Tryz.underlying2
  a2 := Tryz.isAgg2
  z2 := Tryz.sizeOf2
  v2 := Tryz.zeroValue2
  t3 := Tryz.underlying3
  a3 := Tryz.isAgg3
  z3 := Tryz.sizeOf3
  v3 := Tryz.zeroValue3
  t4 := Tryz.underlying4
  a4 := Tryz.isAgg4
  z4 := Tryz.sizeOf4
  v4 := Tryz.zeroValue4
  t5 := Tryz.underlying5
  a5 := Tryz.isAgg5
  z5 := Tryz.sizeOf5
  v5 := Tryz.zeroValue5
  t9 := Tryz.underlying9
  a9 := Tryz.isAgg9
  z9 := Tryz.sizeOf9
  v9 := Tryz.zeroValue9
  t20 := Tryz.underlying20
  a20 := Tryz.isAgg20
  z20 := Tryz.sizeOf20
  v20 := Tryz.zeroValue20
  t37 := Tryz.underlying76
  a37 := Tryz.isAgg76
  z37 := Tryz.sizeOf76
  v37 := Tryz.zeroValue76
  t46 := Tryz.underlying299
  a46 := Tryz.isAgg299
  z46 := Tryz.sizeOf299
  v46 := Tryz.zeroValue299
  t51 := Tryz.underlying265
  a51 := Tryz.isAgg265
  z51 := Tryz.sizeOf265
  v51 := Tryz.zeroValue265
  t53 := Tryz.underlying262
  a53 := Tryz.isAgg262
  z53 := Tryz.sizeOf262
  v53 := Tryz.zeroValue262
  t171 := Tryz.underlying329
  a171 := Tryz.isAgg329
  z171 := Tryz.sizeOf329
  v171 := Tryz.zeroValue329
  t173 := Tryz.underlying332
  a173 := Tryz.isAgg332
  z173 := Tryz.sizeOf332
  v173 := Tryz.zeroValue332
  t212 := Tryz.underlying339
  a212 := Tryz.isAgg339
  z212 := Tryz.sizeOf339
  v212 := Tryz.zeroValue339
  t213 := Tryz.underlying340
  a213 := Tryz.isAgg340
  z213 := Tryz.sizeOf340
  t232 := Tryz.underlying356
  a232 := Tryz.isAgg356
  z232 := Tryz.sizeOf356
  v232 := Tryz.zeroValue356
  t233 := Tryz.underlying148
  a233 := Tryz.isAgg148
  z233 := Tryz.sizeOf148
  v233 := Tryz.zeroValue148
  g17 := by kernel_rfl
  g18 := by kernel_rfl
  g19 := by kernel_rfl }
open Go.RowKit Go.Sort Go.Lib in
/-- THE ROAD WITHOUT THE TABLE: 0 <= i < 100: NO PREMISE ON THE WORLD, AND THE WORLD IS AS IT WAS: a row that keeps its argument in that range need list no table ('laid = []'). (LAID: no walk: one application.) -/
theorem Tryz.strconv_Itoa_small (i : Nat) (hi : i < 100) (w : World) :
    Calls Tryz.prog 126 #[.int .i64 i] w fun e w' => e = .returned (.string ⟨(Lib.decDigits i).toArray⟩) ∧ w' = w := Any.strconv_Itoa_small Tryz.lays171 i hi w
def Tryz.laysM173_ren : Go.Shelf.Ren := ⟨fun | 173 => 217 | 246 => 240 | 283 => 260 | 284 => 261 | 285 => 262 | 286 => 263 | 129 => 273 | 317 => 272 | 318 => 274 | 319 => 275 | 320 => 276 | 337 => 282 | 338 => 283 | n => n, fun | 2 => 2 | 3 => 3 | 9 => 9 | 4 => 4 | 171 => 329 | 0 => 0 | 53 => 262 | 37 => 76 | 5 => 5 | 173 => 332 | 212 => 339 | 51 => 265 | 20 => 20 | 213 => 340 | 46 => 299 | 232 => 356 | 233 => 148 | n => n, fun | 17 => 1 | 18 => 4 | 19 => 5 | n => n⟩
theorem Tryz.laysM173 : Go.Proofs.LaysM.n173 Tryz.prog Tryz.laysM173_ren := {
  mixed := by kernel_rfl
  f129 := Tryz.func273.trans (congrArg some (by kernel_rfl))
  f173 := Tryz.func217.trans (congrArg some (by kernel_rfl))
  f246 := Tryz.func240.trans (congrArg some (by kernel_rfl))
  f283 := Tryz.func260.trans (congrArg some (by kernel_rfl))
  f284 := Tryz.func261.trans (congrArg some (by kernel_rfl))
  f285 := Tryz.func262.trans (congrArg some (by kernel_rfl))
  f286 := Tryz.func263.trans (congrArg some (by kernel_rfl))
  f317 := Tryz.func272.trans (congrArg some (by kernel_rfl))
  f318 := Tryz.func274.trans (congrArg some (by kernel_rfl))
  f319 := Tryz.func275.trans (congrArg some (by kernel_rfl))
  f320 := Tryz.func276.trans (congrArg some (by kernel_rfl))
  f337 := Tryz.func282.trans (congrArg some (by kernel_rfl))
  f338 := Tryz.func283.trans (congrArg some (by kernel_rfl))
  t0 := Tryz.underlying0
  a0 := Tryz.isAgg0
  z0 := Tryz.sizeOf0
  v0 := Tryz.zeroValue0
  t2 := Tryz.underlying2
  a2 := Tryz.isAgg2
  z2 := Tryz.sizeOf2
  v2 := Tryz.zeroValue2
  t3 := Tryz.underlying3
  a3 := Tryz.isAgg3
  z3 := Tryz.sizeOf3
  v3 := Tryz.zeroValue3
  t4 := Tryz.underlying4
  a4 := Tryz.isAgg4
  z4 := Tryz.sizeOf4
  v4 := Tryz.zeroValue4
  t5 := Tryz.underlying5
  a5 := Tryz.isAgg5
  z5 := Tryz.sizeOf5
  v5 := Tryz.zeroValue5
  t9 := Tryz.underlying9
  a9 := Tryz.isAgg9
  z9 := Tryz.sizeOf9
  v9 := Tryz.zeroValue9
  t20 := Tryz.underlying20
  a20 := Tryz.isAgg20
  z20 := Tryz.sizeOf20
  v20 := Tryz.zeroValue20
  t37 := Tryz.underlying76
  a37 := Tryz.isAgg76
  z37 := Tryz.sizeOf76
  v37 := Tryz.zeroValue76
  t46 := Tryz.underlying299
  a46 := Tryz.isAgg299
  z46 := Tryz.sizeOf299
  v46 := Tryz.zeroValue299
  t51 := Tryz.underlying265
  a51 := Tryz.isAgg265
  z51 := Tryz.sizeOf265
  v51 := Tryz.zeroValue265
  t53 := Tryz.underlying262
  a53 := Tryz.isAgg262
  z53 := Tryz.sizeOf262
  v53 := Tryz.zeroValue262
  t171 := Tryz.underlying329
  a171 := Tryz.isAgg329
  z171 := Tryz.sizeOf329
  v171 := Tryz.zeroValue329
  t173 := Tryz.underlying332
  a173 := Tryz.isAgg332
  z173 := Tryz.sizeOf332
  v173 := Tryz.zeroValue332
  t212 := Tryz.underlying339
  a212 := Tryz.isAgg339
  z212 := Tryz.sizeOf339
  v212 := Tryz.zeroValue339
  t213 := Tryz.underlying340
  a213 := Tryz.isAgg340
  z213 := Tryz.sizeOf340
  t232 := Tryz.underlying356
  a232 := Tryz.isAgg356
  z232 := Tryz.sizeOf356
  v232 := Tryz.zeroValue356
  t233 := Tryz.underlying148
  a233 := Tryz.isAgg148
  z233 := Tryz.sizeOf148
  v233 := Tryz.zeroValue148
  g17 := by kernel_rfl
  g18 := by kernel_rfl
  g19 := by kernel_rfl
  i0 := by kernel_rfl
  i2 := by kernel_rfl
  i3 := by kernel_rfl
  i4 := by kernel_rfl
  i5 := by kernel_rfl
  i9 := by kernel_rfl
  i20 := by kernel_rfl
  i37 := by kernel_rfl
  i46 := by kernel_rfl
  i51 := by kernel_rfl
  i53 := by kernel_rfl
  i171 := by kernel_rfl
  i173 := by kernel_rfl
  i212 := by kernel_rfl
  i232 := by kernel_rfl
  i233 := by kernel_rfl
  m17 := by kernel_rfl
  m18 := by kernel_rfl
  m19 := by kernel_rfl }
open Go.RowKit Go.Sort Go.Lib in
/-- strconv.FormatInt: "FormatInt returns the string representation of i in the given base": AT BASE 10: i's decimal numeral, for every int64. (LAID: no walk: one application.) -/
theorem Tryz.strconv_FormatInt_10 (n : Int) (h0 : -9223372036854775808 ≤ n) (h1 : n ≤ 9223372036854775807) (w : World) (htab : Lib.TabIs Tryz.prog w "internal/strconv.uint64pow10" .u64 Lib.pow10Tab) :
    Calls Tryz.prog 217 #[.int .i64 n, .int .i64 10] w fun e w' => e = .returned (.string ⟨(Lib.itoa n).toArray⟩) ∧ ∃ k os, w' = grow (w.drewN k) os := Any.strconv_FormatInt_10 Tryz.laysM173 n h0 h1 w htab
def Tryz.laysC174_ren : Go.Shelf.Ren := ⟨fun | 174 => 269 | 247 => 280 | 245 => 281 | 287 => 285 | 279 => 286 | 280 => 287 | 281 => 288 | 282 => 289 | 321 => 290 | 322 => 291 | 316 => 292 | 171 => 126 | 205 => 293 | 243 => 192 | 246 => 240 | 283 => 260 | 284 => 261 | 285 => 262 | 286 => 263 | 129 => 273 | 317 => 272 | 318 => 274 | 319 => 275 | 320 => 276 | 337 => 282 | 338 => 283 | n => n, fun | 9 => 9 | 3 => 3 | 2 => 2 | 75 => 251 | 85 => 336 | 4 => 4 | 167 => 350 | 5 => 5 | 53 => 262 | 175 => 351 | 46 => 299 | 168 => 353 | 37 => 76 | 0 => 0 | 210 => 359 | 21 => 21 | 127 => 289 | 145 => 363 | 143 => 361 | 171 => 329 | 173 => 332 | 212 => 339 | 51 => 265 | 20 => 20 | 213 => 340 | 232 => 356 | 233 => 148 | 80 => 191 | n => n, fun | 15 => 6 | 16 => 7 | 17 => 1 | 18 => 4 | 19 => 5 | n => n⟩
theorem Tryz.laysC174 : Go.Proofs.LaysC.n174 Tryz.prog Tryz.laysC174_ren := {
  mixed := by kernel_rfl
  f129 := Tryz.func273.trans (congrArg some (by kernel_rfl))
  f171 := Tryz.func126.trans (congrArg some (by kernel_rfl))
  f174 := Tryz.func269.trans (congrArg some (by kernel_rfl))
  f205 := Tryz.func293.trans (congrArg some (by kernel_rfl))
  f243 := Tryz.func192.trans (congrArg some (by kernel_rfl))
  f245 := Tryz.func281.trans (congrArg some (by kernel_rfl))
  f246 := Tryz.func240.trans (congrArg some (by kernel_rfl))
  f247 := Tryz.func280.trans (congrArg some (by kernel_rfl))
  f279 := Tryz.func286.trans (congrArg some (by kernel_rfl))
  f280 := Tryz.func287.trans (congrArg some (by kernel_rfl))
  f281 := Tryz.func288.trans (congrArg some (by kernel_rfl))
  f282 := Tryz.func289.trans (congrArg some (by kernel_rfl))
  f283 := Tryz.func260.trans (congrArg some (by kernel_rfl))
  f284 := Tryz.func261.trans (congrArg some (by kernel_rfl))
  f285 := Tryz.func262.trans (congrArg some (by kernel_rfl))
  f286 := Tryz.func263.trans (congrArg some (by kernel_rfl))
  f287 := Tryz.func285.trans (congrArg some (by kernel_rfl))
  f316 := Tryz.func292.trans (congrArg some (by kernel_rfl))
  f317 := Tryz.func272.trans (congrArg some (by kernel_rfl))
  f318 := Tryz.func274.trans (congrArg some (by kernel_rfl))
  f319 := Tryz.func275.trans (congrArg some (by kernel_rfl))
  f320 := Tryz.func276.trans (congrArg some (by kernel_rfl))
  f321 := Tryz.func290.trans (congrArg some (by kernel_rfl))
  f322 := Tryz.func291.trans (congrArg some (by kernel_rfl))
  f337 := Tryz.func282.trans (congrArg some (by kernel_rfl))
  f338 := Tryz.func283.trans (congrArg some (by kernel_rfl))
  t0 := Tryz.underlying0
  a0 := Tryz.isAgg0
  z0 := Tryz.sizeOf0
  v0 := Tryz.zeroValue0
  t2 := Tryz.underlying2
  a2 := Tryz.isAgg2
  z2 := Tryz.sizeOf2
  v2 := Tryz.zeroValue2
  t3 := Tryz.underlying3
  a3 := Tryz.isAgg3
  z3 := Tryz.sizeOf3
  v3 := Tryz.zeroValue3
  t4 := Tryz.underlying4
  a4 := Tryz.isAgg4
  z4 := Tryz.sizeOf4
  v4 := Tryz.zeroValue4
  t5 := Tryz.underlying5
  a5 := Tryz.isAgg5
  z5 := Tryz.sizeOf5
  v5 := Tryz.zeroValue5
  t9 := Tryz.underlying9
  a9 := Tryz.isAgg9
  z9 := Tryz.sizeOf9
  v9 := Tryz.zeroValue9
  t20 := Tryz.underlying20
  a20 := Tryz.isAgg20
  z20 := Tryz.sizeOf20
  v20 := Tryz.zeroValue20
  t21 := Tryz.underlying21
  a21 := Tryz.isAgg21
  z21 := Tryz.sizeOf21
  v21 := Tryz.zeroValue21
  t37 := Tryz.underlying76
  a37 := Tryz.isAgg76
  z37 := Tryz.sizeOf76
  v37 := Tryz.zeroValue76
  t46 := Tryz.underlying299
  a46 := Tryz.isAgg299
  z46 := Tryz.sizeOf299
  v46 := Tryz.zeroValue299
  t51 := Tryz.underlying265
  a51 := Tryz.isAgg265
  z51 := Tryz.sizeOf265
  v51 := Tryz.zeroValue265
  t53 := Tryz.underlying262
  a53 := Tryz.isAgg262
  z53 := Tryz.sizeOf262
  v53 := Tryz.zeroValue262
  t75 := Tryz.underlying251
  a75 := Tryz.isAgg251
  z75 := Tryz.sizeOf251
  v75 := Tryz.zeroValue251
  t85 := Tryz.underlying336
  a85 := Tryz.isAgg336
  z85 := Tryz.sizeOf336
  v85 := Tryz.zeroValue336
  t127 := Tryz.underlying289
  a127 := Tryz.isAgg289
  z127 := Tryz.sizeOf289
  v127 := Tryz.zeroValue289
  t143 := Tryz.underlying361
  a143 := Tryz.isAgg361
  z143 := Tryz.sizeOf361
  v143 := Tryz.zeroValue361
  t145 := Tryz.underlying363
  a145 := Tryz.isAgg363
  z145 := Tryz.sizeOf363
  v145 := Tryz.zeroValue363
  t167 := Tryz.underlying350
  a167 := Tryz.isAgg350
  z167 := Tryz.sizeOf350
  v167 := Tryz.zeroValue350
  t168 := Tryz.underlying353
  a168 := Tryz.isAgg353
  z168 := Tryz.sizeOf353
  v168 := Tryz.zeroValue353
  t171 := Tryz.underlying329
  a171 := Tryz.isAgg329
  z171 := Tryz.sizeOf329
  v171 := Tryz.zeroValue329
  t173 := Tryz.underlying332
  a173 := Tryz.isAgg332
  z173 := Tryz.sizeOf332
  v173 := Tryz.zeroValue332
  t175 := Tryz.underlying351
  a175 := Tryz.isAgg351
  z175 := Tryz.sizeOf351
  v175 := Tryz.zeroValue351
  t210 := Tryz.underlying359
  a210 := Tryz.isAgg359
  z210 := Tryz.sizeOf359
  v210 := Tryz.zeroValue359
  t212 := Tryz.underlying339
  a212 := Tryz.isAgg339
  z212 := Tryz.sizeOf339
  v212 := Tryz.zeroValue339
  t213 := Tryz.underlying340
  a213 := Tryz.isAgg340
  z213 := Tryz.sizeOf340
  t232 := Tryz.underlying356
  a232 := Tryz.isAgg356
  z232 := Tryz.sizeOf356
  v232 := Tryz.zeroValue356
  t233 := Tryz.underlying148
  a233 := Tryz.isAgg148
  z233 := Tryz.sizeOf148
  v233 := Tryz.zeroValue148
  g15 := by kernel_rfl
  g16 := by kernel_rfl
  g17 := by kernel_rfl
  g18 := by kernel_rfl
  g19 := by kernel_rfl
  t80 := Tryz.underlying191
  a80 := Tryz.isAgg191
  z80 := Tryz.sizeOf191
  v80 := Tryz.zeroValue191
  i0 := by kernel_rfl
  i2 := by kernel_rfl
  i3 := by kernel_rfl
  i4 := by kernel_rfl
  i5 := by kernel_rfl
  i9 := by kernel_rfl
  i20 := by kernel_rfl
  i21 := by kernel_rfl
  i37 := by kernel_rfl
  i46 := by kernel_rfl
  i51 := by kernel_rfl
  i53 := by kernel_rfl
  i75 := by kernel_rfl
  i80 := by kernel_rfl
  i85 := by kernel_rfl
  i127 := by kernel_rfl
  i143 := by kernel_rfl
  i145 := by kernel_rfl
  i167 := by kernel_rfl
  i168 := by kernel_rfl
  i171 := by kernel_rfl
  i173 := by kernel_rfl
  i175 := by kernel_rfl
  i210 := by kernel_rfl
  i212 := by kernel_rfl
  i232 := by kernel_rfl
  i233 := by kernel_rfl
  m15 := by kernel_rfl
  m16 := by kernel_rfl
  m17 := by kernel_rfl
  m18 := by kernel_rfl
  m19 := by kernel_rfl
  c0 := by kernel_rfl
  c2 := by kernel_rfl
  c3 := by kernel_rfl
  c4 := by kernel_rfl
  c5 := by kernel_rfl
  c9 := by kernel_rfl
  c20 := by kernel_rfl
  c21 := by kernel_rfl
  c37 := by kernel_rfl
  c46 := by kernel_rfl
  c51 := by kernel_rfl
  c53 := by kernel_rfl
  c75 := by kernel_rfl
  c80 := by kernel_rfl
  c85 := by kernel_rfl
  c127 := by kernel_rfl
  c143 := by kernel_rfl
  c145 := by kernel_rfl
  c167 := by kernel_rfl
  c168 := by kernel_rfl
  c171 := by kernel_rfl
  c173 := by kernel_rfl
  c175 := by kernel_rfl
  c210 := by kernel_rfl
  c212 := by kernel_rfl
  c213 := by kernel_rfl
  c232 := by kernel_rfl
  c233 := by kernel_rfl }
open Go.RowKit in
/-- strconv.ParseInt(s, 10, 64), AT EVERY STRING THAT SPELLS AN int64 ('Lib.parseIntB 64 s.data.toList = .ok v'): v, AND NO ERROR. (LAID: no walk: one application.) -/
theorem Tryz.strconv_ParseInt_10_at64_ok (s : ByteArray) (hmax : s.size ≤ 9223372036854775806) (v : Int) (h : Lib.parseIntB 64 s.data.toList = .ok v) (w : World) :
    Calls Tryz.prog 269 #[.string s, .int .i64 10, .int .i64 64] w fun e w' => e = .returned (.tuple #[.int .i64 v, .nilIface]) ∧ (w' = w ∨ ∃ t, w' = Lib.bytesWorld w 5 t) := Any.strconv_ParseInt_10_at64_ok Tryz.laysC174 s hmax v h w
open Go.RowKit in
/-- strconv.ParseInt(s, 10, 64), AT EVERY STRING THAT IS NO DECIMAL NUMERAL: 0, AND AN ERROR THAT IS NOT nil: a *NumError in a new block N: {Func: "ParseInt", Num: s's bytes, Err: what the variable ErrSyntax holds}. Of what was there nothing has turned. (LAID: no walk: one application.) -/
theorem Tryz.strconv_ParseInt_10_at64_syntax (s : ByteArray) (hlim : s.size ≤ 281474976710656) (h : Lib.parseIntB 64 s.data.toList = .«syntax») (ev : Value) (w : World) (hv : w.cell? ⟨6, 0, none⟩ = some ev) (hev : ev = .nilIface ∨ ∃ te pe, ev = .iface te pe) :
    Calls Tryz.prog 269 #[.string s, .int .i64 10, .int .i64 64] w fun e w' => ∃ N, e = .returned (.tuple #[.int .i64 (0), .iface 353 (.pointer (some ⟨N, 0, none⟩))]) ∧ w.heap.size ≤ N ∧ w'.heap[N]? = some (.cells #[.string ⟨#[80, 97, 114, 115, 101, 73, 110, 116]⟩, .string s, ev] 359 (0, 0)) ∧ Below w.heap.size w w' := Any.strconv_ParseInt_10_at64_syntax Tryz.laysC174 s hlim h ev w hv hev
open Go.RowKit in
/-- strconv.ParseInt(s, 10, 64), AT EVERY NUMERAL THAT NO int64 HOLDS: THE GREATEST OR THE LEAST int64, BY THE SIGN ('Lib.intSat 64'), AND AN ERROR THAT IS NOT nil: a *NumError in a new block N: {Func: "ParseInt", Num: s's bytes, Err: what the variable ErrRange holds}. Of what was there nothing has turned. (LAID: no walk: one application.) -/
theorem Tryz.strconv_ParseInt_10_at64_range (s : ByteArray) (hlim : s.size ≤ 281474976710656) (h : Lib.parseIntB 64 s.data.toList = .range) (ev : Value) (w : World) (hv : w.cell? ⟨7, 0, none⟩ = some ev) (hev : ev = .nilIface ∨ ∃ te pe, ev = .iface te pe) :
    Calls Tryz.prog 269 #[.string s, .int .i64 10, .int .i64 64] w fun e w' => ∃ N, e = .returned (.tuple #[.int .i64 (Lib.intSat 64 s.data.toList), .iface 353 (.pointer (some ⟨N, 0, none⟩))]) ∧ w.heap.size ≤ N ∧ w'.heap[N]? = some (.cells #[.string ⟨#[80, 97, 114, 115, 101, 73, 110, 116]⟩, .string s, ev] 359 (0, 0)) ∧ Below w.heap.size w w' := Any.strconv_ParseInt_10_at64_range Tryz.laysC174 s hlim h ev w hv hev
def Tryz.lays144_ren : Go.Shelf.Ren := ⟨fun | 144 => 201 | 143 => 197 | 219 => 244 | 217 => 264 | 225 => 265 | 224 => 266 | 267 => 267 | 266 => 277 | 314 => 278 | n => n, fun | 9 => 9 | 4 => 4 | 3 => 3 | 5 => 5 | 46 => 299 | 146 => 342 | 51 => 265 | n => n, fun | 1 => 0 | n => n⟩
theorem Tryz.lays144 : Go.Proofs.Lays.n144 Tryz.prog Tryz.lays144_ren := {
  mixed := by kernel_rfl
  f143 := Tryz.func197.trans (congrArg some (by kernel_rfl))
  f144 := Tryz.func201.trans (congrArg some (by kernel_rfl))
  f217 := Tryz.func264.trans (congrArg some (by kernel_rfl))
  f219 := Tryz.func244.trans (congrArg some (by kernel_rfl))
  f224 := Tryz.func266.trans (congrArg some (by kernel_rfl))
  f225 := Tryz.func265.trans (congrArg some (by kernel_rfl))
  f266 := Tryz.func277.trans (congrArg some (by kernel_rfl))
  f267 := Tryz.func267.trans (congrArg some (by kernel_rfl))
  f314 := Tryz.func278.trans (congrArg some (by kernel_rfl))
  t3 := Tryz.underlying3
  a3 := Tryz.isAgg3
  z3 := Tryz.sizeOf3
  v3 := Tryz.zeroValue3
  t4 := Tryz.underlying4
  a4 := Tryz.isAgg4
  z4 := Tryz.sizeOf4
  v4 := Tryz.zeroValue4
  t5 := Tryz.underlying5
  a5 := Tryz.isAgg5
  z5 := Tryz.sizeOf5
  v5 := Tryz.zeroValue5
  t9 := Tryz.underlying9
  a9 := Tryz.isAgg9
  z9 := Tryz.sizeOf9
  v9 := Tryz.zeroValue9
  t46 := Tryz.underlying299
  a46 := Tryz.isAgg299
  z46 := Tryz.sizeOf299
  v46 := Tryz.zeroValue299
  t51 := Tryz.underlying265
  a51 := Tryz.isAgg265
  z51 := Tryz.sizeOf265
  v51 := Tryz.zeroValue265
  t146 := Tryz.underlying342
  a146 := Tryz.isAgg342
  z146 := Tryz.sizeOf342
  v146 := Tryz.zeroValue342
  g1 := by kernel_rfl }
open Go.RowKit Go.Lib in
/-- strings.Contains: "Contains reports whether substr is within s.": AT A substr OF ONE BYTE c: IT RETURNS 'decide (0 ≤ Lib.indexByte s c)'; the world is as it was. (LAID: no walk: one application.) -/
theorem Tryz.strings_Contains_one (s : ByteArray) (c : UInt8) (w : World) :
    Calls Tryz.prog 201 #[.string s, .string ⟨#[c]⟩] w fun e w' => e = .returned (.bool (decide (0 ≤ Lib.indexByte s.data.toList c))) ∧ w' = w := Any.strings_Contains_one Tryz.lays144 s c w
def Tryz.lays138_ren : Go.Shelf.Ren := ⟨fun | 138 => 155 | 195 => 195 | 218 => 196 | 143 => 197 | 219 => 244 | 217 => 264 | 225 => 265 | 224 => 266 | 267 => 267 | 266 => 277 | 314 => 278 | n => n, fun | 9 => 9 | 3 => 3 | 4 => 4 | 5 => 5 | 0 => 0 | 46 => 299 | 146 => 342 | 51 => 265 | n => n, fun | 1 => 0 | n => n⟩
theorem Tryz.lays138 : Go.Proofs.Lays.n138 Tryz.prog Tryz.lays138_ren := {
  mixed := by kernel_rfl
  f138 := Tryz.func155.trans (congrArg some (by kernel_rfl))
  f143 := Tryz.func197.trans (congrArg some (by kernel_rfl))
  f195 := Tryz.func195.trans (congrArg some (by kernel_rfl))
  f217 := Tryz.func264.trans (congrArg some (by kernel_rfl))
  f218 := Tryz.func196.trans (congrArg some (by kernel_rfl))
  f219 := Tryz.func244.trans (congrArg some (by kernel_rfl))
  f224 := Tryz.func266.trans (congrArg some (by kernel_rfl))
  f225 := Tryz.func265.trans (congrArg some (by kernel_rfl))
  f266 := Tryz.func277.trans (congrArg some (by kernel_rfl))
  f267 := Tryz.func267.trans (congrArg some (by kernel_rfl))
  f314 := Tryz.func278.trans (congrArg some (by kernel_rfl))
  t0 := Tryz.underlying0
  a0 := Tryz.isAgg0
  z0 := Tryz.sizeOf0
  v0 := Tryz.zeroValue0
  t3 := Tryz.underlying3
  a3 := Tryz.isAgg3
  z3 := Tryz.sizeOf3
  v3 := Tryz.zeroValue3
  t4 := Tryz.underlying4
  a4 := Tryz.isAgg4
  z4 := Tryz.sizeOf4
  v4 := Tryz.zeroValue4
  t5 := Tryz.underlying5
  a5 := Tryz.isAgg5
  z5 := Tryz.sizeOf5
  v5 := Tryz.zeroValue5
  t9 := Tryz.underlying9
  a9 := Tryz.isAgg9
  z9 := Tryz.sizeOf9
  v9 := Tryz.zeroValue9
  t46 := Tryz.underlying299
  a46 := Tryz.isAgg299
  z46 := Tryz.sizeOf299
  v46 := Tryz.zeroValue299
  t51 := Tryz.underlying265
  a51 := Tryz.isAgg265
  z51 := Tryz.sizeOf265
  v51 := Tryz.zeroValue265
  t146 := Tryz.underlying342
  a146 := Tryz.isAgg342
  z146 := Tryz.sizeOf342
  v146 := Tryz.zeroValue342
  g1 := by kernel_rfl }
open Go.RowKit Go.Lib in
/-- strings.Count AT A substr OF ONE BYTE ('hp'): "Count counts the number of non-overlapping instances of substr in s.": IT RETURNS 'Lib.countByte s (that byte)'; the world is as it was. ✋ NO CONTRACT HERE YET at an empty substr (utf8.RuneCountInString) or at a longer one (a loop over strings.Index). (LAID: no walk: one application.) -/
theorem Tryz.strings_Count_one (s : ByteArray) (c : UInt8) (w : World) :
    Calls Tryz.prog 155 #[.string s, .string ⟨#[c]⟩] w fun e w' => e = .returned (.int .i64 (Lib.countByte s.data.toList c)) ∧ w' = w := Any.strings_Count_one Tryz.lays138 s c w
def Tryz.lays101_ren : Go.Shelf.Ren := ⟨fun | 101 => 268 | 208 => 279 | 206 => 284 | n => n, fun | 9 => 9 | 4 => 4 | 3 => 3 | n => n, fun | n => n⟩
theorem Tryz.lays101 : Go.Proofs.Lays.n101 Tryz.prog Tryz.lays101_ren := {
  mixed := by kernel_rfl
  f101 := Tryz.func268.trans (congrArg some (by kernel_rfl))
  f206 := Tryz.func284.trans (congrArg some (by kernel_rfl))
  f208 := Tryz.func279.trans (congrArg some (by kernel_rfl))
  t3 := Tryz.underlying3
  a3 := Tryz.isAgg3
  z3 := Tryz.sizeOf3
  v3 := Tryz.zeroValue3
  t4 := Tryz.underlying4
  a4 := Tryz.isAgg4
  z4 := Tryz.sizeOf4
  v4 := Tryz.zeroValue4
  t9 := Tryz.underlying9
  a9 := Tryz.isAgg9
  z9 := Tryz.sizeOf9
  v9 := Tryz.zeroValue9 }
open Go.RowKit Go.Lib in
/-- strings.TrimPrefix: "TrimPrefix returns s without the provided leading prefix string. If s doesn't start with prefix, s is returned unchanged.": IT RETURNS 'Lib.trimPrefix s prefix'; the world is as it was. (LAID: no walk: one application.) -/
theorem Tryz.strings_TrimPrefix (s p : ByteArray) (w : World) :
    Calls Tryz.prog 268 #[.string s, .string p] w fun e w' => e = .returned (.string ⟨(Lib.trimPrefix s.data.toList p.data.toList).toArray⟩) ∧ w' = w := Any.strings_TrimPrefix Tryz.lays101 s p w
def Tryz.lays146_ren : Go.Shelf.Ren := ⟨fun | 146 => 104 | 221 => 157 | 268 => 200 | 138 => 155 | 143 => 197 | 195 => 195 | 197 => 247 | 218 => 196 | 219 => 244 | 260 => 270 | 217 => 264 | 225 => 265 | 224 => 266 | 267 => 267 | 266 => 277 | 314 => 278 | n => n, fun | 9 => 9 | 31 => 46 | 3 => 3 | 4 => 4 | 0 => 0 | 105 => 313 | 21 => 21 | 5 => 5 | 46 => 299 | 119 => 345 | 139 => 348 | 138 => 347 | 146 => 342 | 51 => 265 | n => n, fun | 1 => 0 | 3 => 2 | 4 => 3 | n => n⟩
theorem Tryz.lays146 : Go.Proofs.Lays.n146 Tryz.prog Tryz.lays146_ren := {
  mixed := by kernel_rfl
  f138 := Tryz.func155.trans (congrArg some (by kernel_rfl))
  f143 := Tryz.func197.trans (congrArg some (by kernel_rfl))
  f146 := Tryz.func104.trans (congrArg some (by kernel_rfl))
  f195 := Tryz.func195.trans (congrArg some (by kernel_rfl))
  f197 := Tryz.func247.trans (congrArg some (by kernel_rfl))
  f217 := Tryz.func264.trans (congrArg some (by kernel_rfl))
  f218 := Tryz.func196.trans (congrArg some (by kernel_rfl))
  f219 := Tryz.func244.trans (congrArg some (by kernel_rfl))
  f221 := Tryz.func157.trans (congrArg some (by kernel_rfl))
  f224 := Tryz.func266.trans (congrArg some (by kernel_rfl))
  f225 := Tryz.func265.trans (congrArg some (by kernel_rfl))
  f260 := Tryz.func270.trans (congrArg some (by kernel_rfl))
  f266 := Tryz.func277.trans (congrArg some (by kernel_rfl))
  f267 := Tryz.func267.trans (congrArg some (by kernel_rfl))
  f268 := Tryz.func200.trans (congrArg some (by kernel_rfl))
  f314 := Tryz.func278.trans (congrArg some (by kernel_rfl))
  t0 := Tryz.underlying0
  a0 := Tryz.isAgg0
  z0 := Tryz.sizeOf0
  v0 := Tryz.zeroValue0
  t3 := Tryz.underlying3
  a3 := Tryz.isAgg3
  z3 := Tryz.sizeOf3
  v3 := Tryz.zeroValue3
  t4 := Tryz.underlying4
  a4 := Tryz.isAgg4
  z4 := Tryz.sizeOf4
  v4 := Tryz.zeroValue4
  t5 := Tryz.underlying5
  a5 := Tryz.isAgg5
  z5 := Tryz.sizeOf5
  v5 := Tryz.zeroValue5
  t9 := Tryz.underlying9
  a9 := Tryz.isAgg9
  z9 := Tryz.sizeOf9
  v9 := Tryz.zeroValue9
  t21 := Tryz.underlying21
  a21 := Tryz.isAgg21
  z21 := Tryz.sizeOf21
  v21 := Tryz.zeroValue21
  t31 := Tryz.underlying46
  a31 := Tryz.isAgg46
  z31 := Tryz.sizeOf46
  v31 := Tryz.zeroValue46
  t46 := Tryz.underlying299
  a46 := Tryz.isAgg299
  z46 := Tryz.sizeOf299
  v46 := Tryz.zeroValue299
  t51 := Tryz.underlying265
  a51 := Tryz.isAgg265
  z51 := Tryz.sizeOf265
  v51 := Tryz.zeroValue265
  t105 := Tryz.underlying313
  a105 := Tryz.isAgg313
  z105 := Tryz.sizeOf313
  v105 := Tryz.zeroValue313
  t119 := Tryz.underlying345
  a119 := Tryz.isAgg345
  z119 := Tryz.sizeOf345
  t138 := Tryz.underlying347
  a138 := Tryz.isAgg347
  z138 := Tryz.sizeOf347
  v138 := Tryz.zeroValue347
  t139 := Tryz.underlying348
  a139 := Tryz.isAgg348
  z139 := Tryz.sizeOf348
  v139 := Tryz.zeroValue348
  t146 := Tryz.underlying342
  a146 := Tryz.isAgg342
  z146 := Tryz.sizeOf342
  v146 := Tryz.zeroValue342
  g1 := by kernel_rfl
  g3 := by kernel_rfl
  g4 := by kernel_rfl }
open Go.RowKit Go.Lib in
/-- strings.Split. (LAID: no walk: one application.) -/
theorem Tryz.strings_Split (s sep : ByteArray) (m : Int) (w : World) (hs : s.size < 4294967281) (hm : w.cell? ⟨0, 0, none⟩ = some (.int .i64 m)) (h1 : 1 ≤ sep.size) :
    Calls Tryz.prog 104 #[.string s, .string sep] w fun e w' =>
      e = .returned (.slice (some ⟨w.heap.size, 0, none⟩) (Lib.countB s sep + 1) (Lib.countB s sep + 1)) ∧ w' = w.alloc (.cells ((Lib.splitB sep 0 (Lib.countB s sep) s).map Value.string).toArray 9) := Any.strings_Split Tryz.lays146 (by kernel_rfl) s sep m w hs hm h1
def Tryz.laysM146_ren : Go.Shelf.Ren := ⟨fun | 146 => 104 | 221 => 157 | 268 => 200 | 138 => 155 | 143 => 197 | 195 => 195 | 197 => 247 | 218 => 196 | 219 => 244 | 260 => 270 | 217 => 264 | 225 => 265 | 224 => 266 | 267 => 267 | 266 => 277 | 314 => 278 | n => n, fun | 9 => 9 | 31 => 46 | 3 => 3 | 4 => 4 | 0 => 0 | 105 => 313 | 21 => 21 | 5 => 5 | 46 => 299 | 119 => 345 | 139 => 348 | 138 => 347 | 146 => 342 | 51 => 265 | n => n, fun | 1 => 0 | 3 => 2 | 4 => 3 | n => n⟩
theorem Tryz.laysM146 : Go.Proofs.LaysM.n146 Tryz.prog Tryz.laysM146_ren := {
  mixed := by kernel_rfl
  f138 := Tryz.func155.trans (congrArg some (by kernel_rfl))
  f143 := Tryz.func197.trans (congrArg some (by kernel_rfl))
  f146 := Tryz.func104.trans (congrArg some (by kernel_rfl))
  f195 := Tryz.func195.trans (congrArg some (by kernel_rfl))
  f197 := Tryz.func247.trans (congrArg some (by kernel_rfl))
  f217 := Tryz.func264.trans (congrArg some (by kernel_rfl))
  f218 := Tryz.func196.trans (congrArg some (by kernel_rfl))
  f219 := Tryz.func244.trans (congrArg some (by kernel_rfl))
  f221 := Tryz.func157.trans (congrArg some (by kernel_rfl))
  f224 := Tryz.func266.trans (congrArg some (by kernel_rfl))
  f225 := Tryz.func265.trans (congrArg some (by kernel_rfl))
  f260 := Tryz.func270.trans (congrArg some (by kernel_rfl))
  f266 := Tryz.func277.trans (congrArg some (by kernel_rfl))
  f267 := Tryz.func267.trans (congrArg some (by kernel_rfl))
  f268 := Tryz.func200.trans (congrArg some (by kernel_rfl))
  f314 := Tryz.func278.trans (congrArg some (by kernel_rfl))
  t0 := Tryz.underlying0
  a0 := Tryz.isAgg0
  z0 := Tryz.sizeOf0
  v0 := Tryz.zeroValue0
  t3 := Tryz.underlying3
  a3 := Tryz.isAgg3
  z3 := Tryz.sizeOf3
  v3 := Tryz.zeroValue3
  t4 := Tryz.underlying4
  a4 := Tryz.isAgg4
  z4 := Tryz.sizeOf4
  v4 := Tryz.zeroValue4
  t5 := Tryz.underlying5
  a5 := Tryz.isAgg5
  z5 := Tryz.sizeOf5
  v5 := Tryz.zeroValue5
  t9 := Tryz.underlying9
  a9 := Tryz.isAgg9
  z9 := Tryz.sizeOf9
  v9 := Tryz.zeroValue9
  t21 := Tryz.underlying21
  a21 := Tryz.isAgg21
  z21 := Tryz.sizeOf21
  v21 := Tryz.zeroValue21
  t31 := Tryz.underlying46
  a31 := Tryz.isAgg46
  z31 := Tryz.sizeOf46
  v31 := Tryz.zeroValue46
  t46 := Tryz.underlying299
  a46 := Tryz.isAgg299
  z46 := Tryz.sizeOf299
  v46 := Tryz.zeroValue299
  t51 := Tryz.underlying265
  a51 := Tryz.isAgg265
  z51 := Tryz.sizeOf265
  v51 := Tryz.zeroValue265
  t105 := Tryz.underlying313
  a105 := Tryz.isAgg313
  z105 := Tryz.sizeOf313
  v105 := Tryz.zeroValue313
  t119 := Tryz.underlying345
  a119 := Tryz.isAgg345
  z119 := Tryz.sizeOf345
  t138 := Tryz.underlying347
  a138 := Tryz.isAgg347
  z138 := Tryz.sizeOf347
  v138 := Tryz.zeroValue347
  t139 := Tryz.underlying348
  a139 := Tryz.isAgg348
  z139 := Tryz.sizeOf348
  v139 := Tryz.zeroValue348
  t146 := Tryz.underlying342
  a146 := Tryz.isAgg342
  z146 := Tryz.sizeOf342
  v146 := Tryz.zeroValue342
  g1 := by kernel_rfl
  g3 := by kernel_rfl
  g4 := by kernel_rfl
  i0 := by kernel_rfl
  i3 := by kernel_rfl
  i4 := by kernel_rfl
  i5 := by kernel_rfl
  i9 := by kernel_rfl
  i21 := by kernel_rfl
  i31 := by kernel_rfl
  i46 := by kernel_rfl
  i51 := by kernel_rfl
  i105 := by kernel_rfl
  i138 := by kernel_rfl
  i139 := by kernel_rfl
  i146 := by kernel_rfl
  m1 := by kernel_rfl
  s1_3 := fun w h => Go.Proofs.cell_of_shapedOpen_int (zero := #[.int .i64 0]) (t := 3) h (of_decide_eq_true (by kernel_rfl)) (by kernel_rfl) rfl (by kernel_rfl) (by kernel_rfl) Tryz.underlying3
  m3 := by kernel_rfl
  m4 := by kernel_rfl }
end Go.Proofs

namespace Go.Proofs.YtngopilbpiplhaaGreatDoor
open Go.RowKit
def resReg (o : Option Nat) : Value := match o with | some r => .tuple #[.int .i64 (r : Int), .bool true] | none => .tuple #[.int .i64 0, .bool false]
theorem two_bytes (s : ByteArray) (h : s.size = 2) : ∃ a b : UInt8, s = ⟨#[a, b]⟩ := by
  obtain ⟨⟨l⟩⟩ := s
  match l, h with
  | [a, b], _ => exact ⟨a, b, rfl⟩
theorem bget0 (a b : UInt8) (h : 0 < (⟨#[a, b]⟩ : ByteArray).size) : (⟨#[a, b]⟩ : ByteArray)[0] = a := rfl
theorem bget1 (a b : UInt8) (h : 1 < (⟨#[a, b]⟩ : ByteArray).size) : (⟨#[a, b]⟩ : ByteArray)[1] = b := rfl
theorem ret2_eq {k : IntKind} {a b : Int} {x y : Bool} (h : a = b) (g : x = y) : Ending.returned (.tuple #[.int k a, .bool x]) = .returned (.tuple #[.int k b, .bool y]) := by rw [h, g]
set_option maxHeartbeats 1000000 in
theorem parseRegister_any (s : ByteArray) (w : World) :
    Calls Tryz.prog 245 #[.string s] w fun e w' => e = .returned (resReg (regF s.data.toList)) ∧ w' = w := by
  by_cases h2 : s.size = 2
  · obtain ⟨a, b, rfl⟩ := two_bytes s h2
    clear h2
    go_enter Tryz.func245, Tryz.ntmps245
    go_wp2
    all_goals go_ret2
    all_goals refine ⟨?_, rfl⟩
    all_goals simp only [bget0, bget1] at *
    all_goals first
      | (rw [show regF [a, b] = none from if_neg (by omega)]; rfl)
      | (rw [show regF [a, b] = some (b.toNat - 48) from if_pos (by omega)]; exact ret2_eq (by omega) rfl)
  · have h2' : ((s.size : Int) != 2) = true := by rw [bne_iff_ne]; omega
    have hn : regF s.data.toList = none := by
      unfold regF
      split
      · rename_i a b e
        exact absurd (show s.size = 2 by rw [Lib.size_eq, e]; rfl) h2
      · rfl
    have HN := hide hn
    clear hn
    go_enter Tryz.func245, Tryz.ntmps245
    go_wp2
    all_goals go_ret2
    all_goals exact ⟨by rw [unhide HN]; rfl, rfl⟩
theorem numF_nil {l : List UInt8} (h : Lib.trimPrefix l [45] = []) : numF l = none := by simp [numF, h]
theorem numF_lead {l : List UInt8} {c : UInt8} {D : List UInt8} (h : Lib.trimPrefix l [45] = c :: D) (h1 : l ≠ [48]) (h2 : c.toNat = 48) : numF l = none := by
  have e : c = 48 := UInt8.toNat_inj.1 h2
  simp [numF, h, h1, e]
theorem numF_bad {l : List UInt8} {D : List UInt8} (h : Lib.trimPrefix l [45] = D) (h1 : allDig D = false) : numF l = none := by
  simp only [numF, h]
  split
  · rfl
  · simp [h1]
theorem numF_good {l : List UInt8} {c : UInt8} {D : List UInt8} (h : Lib.trimPrefix l [45] = c :: D) (h1 : l = [48] ∨ c.toNat ≠ 48) (h2 : allDig (c :: D) = true) :
    numF l = numOf (Lib.parseIntB 64 l) := by
  simp only [numF, h]
  have hno : ¬ (c :: D = [] ∨ l ≠ [48] ∧ (c :: D).head? = some 48) := by
    rintro (q | ⟨q, r⟩)
    · cases q
    · rcases h1 with h1 | h1
      · exact q h1
      · have e : c = 48 := by simpa using r
        exact h1 (by rw [e]; rfl)
  rw [if_neg hno, if_pos h2]
theorem trim_len (l p : List UInt8) : (Lib.trimPrefix l p).length ≤ l.length := by
  unfold Lib.trimPrefix
  split
  · simp
  · exact Nat.le_refl _
theorem sgetk (L : List UInt8) (k : Nat) (h : k < (⟨L.toArray⟩ : ByteArray).size) : (⟨L.toArray⟩ : ByteArray)[k] = L[k]'(by rw [Lib.size_eq] at h; simpa using h) := rfl
theorem sget0 (c : UInt8) (D : List UInt8) (h : 0 < (⟨(c :: D).toArray⟩ : ByteArray).size) : (⟨(c :: D).toArray⟩ : ByteArray)[0] = c := rfl
def NumRes (l : List UInt8) (w : World) (e : Ending) (w' : World) : Prop :=
  ∃ (n : Int) (ok : Bool), e = .returned (.tuple #[.int .i64 n, .bool ok]) ∧ (numF l = some n ∧ ok = true ∨ numF l = none ∧ ok = false) ∧ Below w.heap.size w w'
theorem below_bytesWorld (w : World) (e : TypeId) (s : ByteArray) : Below w.heap.size w (Lib.bytesWorld w e s) := by
  unfold Lib.bytesWorld
  have h : Below w.heap.size w (w.drew.alloc (.cells (Lib.bytesCells w e s) e)) := ((Below.refl _ _).drew).alloc (Nat.le_refl _) _
  refine ⟨h.os, h.tape, h.output, ?_, ?_⟩
  · unfold World.freeze; rw [if_neg (by omega)]; simp
  · intro k hk
    unfold World.freeze; rw [if_neg (by omega)]
    rw [← h.block k hk]
    simp only [Array.getElem?_modify]
    rw [if_neg (by omega)]
theorem NumRes.no {l : List UInt8} {w w' : World} (n : Int) (h : numF l = none) (hb : Below w.heap.size w w') : NumRes l w (.returned (.tuple #[.int .i64 n, .bool false])) w' := ⟨n, false, rfl, .inr ⟨h, rfl⟩, hb⟩
theorem NumRes.yes {l : List UInt8} {w w' : World} {n : Int} (h : numF l = some n) (hb : Below w.heap.size w w') : NumRes l w (.returned (.tuple #[.int .i64 n, .bool true])) w' := ⟨n, true, rfl, .inl ⟨h, rfl⟩, hb⟩
set_option maxHeartbeats 1000000 in
theorem parseNumber_any (l : List UInt8) (w : World) (hs : l.length ≤ 281474976710656) (hg : Glob w) :
    Calls Tryz.prog 246 #[.string ⟨l.toArray⟩] w fun e w' => NumRes l w e w' := by
  obtain ⟨ts, ps, hes⟩ := hg.errSyntax
  obtain ⟨tr, pr, her⟩ := hg.errRange
  go_enter Tryz.func246, Tryz.ntmps246
  go_wp2_with fail
  refine (Tryz.strings_TrimPrefix _ _ _).mono ?_
  rintro e w' ⟨rfl, rfl⟩
  generalize hD : Lib.trimPrefix (⟨l.toArray⟩ : ByteArray).data.toList (⟨#[45]⟩ : ByteArray).data.toList = D
  have HD : Hid (Lib.trimPrefix l [45] = D) := hide (by simpa using hD)
  clear hD
  cases D with
  | nil =>
    go_wp2
    go_ret2
    exact NumRes.no _ (numF_nil HD.out) (Below.refl _ _)
  | cons c D =>
    have hsz : 0 < (⟨(c :: D).toArray⟩ : ByteArray).size := by show 0 < (c :: D).toArray.size; simp
    have hlen := congrArg List.length HD.out
    have hlen2 := trim_len l [45]
    have hle : (c :: D).length ≤ 281474976710656 := by omega
    clear hlen hlen2
    by_cases hkey : l ≠ [48] ∧ c.toNat = 48
    · obtain ⟨hz, hc⟩ := hkey
      have hz' : (l == [48]) = false := by simpa using hz
      have hc' : (((⟨(c :: D).toArray⟩ : ByteArray)[0].toNat : Int) == 48) = true := by rw [sget0]; simp; omega
      go_wp2
      go_ret2
      exact NumRes.no _ (numF_lead HD.out hz hc) (Below.refl _ _)
    · have hor : l = [48] ∨ c.toNat ≠ 48 := by
        by_cases q : l = [48]
        · exact .inl q
        · exact .inr fun e => hkey ⟨q, e⟩
      clear hkey
      have HG := hide (numF_good HD.out hor)
      have HB := hide (numF_bad HD.out)
      have hcase : (l == [48]) = true ∨ (l == [48]) = false ∧ (((⟨(c :: D).toArray⟩ : ByteArray)[0].toNat : Int) == 48) = false := by
        rcases hor with h | h
        · exact .inl (by simpa using h)
        · by_cases q : l = [48]
          · exact .inl (by simpa using q)
          · exact .inr ⟨by simpa using q, by rw [sget0]; simp; omega⟩
      clear hor
      have hne : ((c :: D) == []) = false := rfl
      have hpos : 0 < (c :: D).length := by simp
      generalize c :: D = L at *
      rcases hcase with hz' | ⟨hz', hc'⟩
      all_goals
        go_wp2
        go_loop [23] (fun i => ∃ k : Nat, k ≤ L.length ∧ i = .int .i64 k ∧ allDig (L.take k) = true) (fun i => L.length - (intOf i).toNat)
        case atStart => exact ⟨0, Nat.zero_le _, rfl, rfl⟩
        case round =>
          obtain ⟨k, hk, rfl, hd⟩ := hrel
          have Hd := hide hd
          clear hd
          by_cases hlt : k < L.length
          · have hsn := allDig_snoc L k hlt
            have hbad := allDig_bad L k hlt
            have HS := hide hsn
            have HBD := hide hbad
            clear hsn hbad
            go_wp2
            all_goals simp only [sgetk] at *
            all_goals first
              | (go_round
                 case rel => exact ⟨k + 1, by omega, by go_num, by rw [HS.out, Hd.out]; simp; omega⟩
                 case measure => simp [intOf]; omega)
              | (go_ret2
                 exact NumRes.no _ (HB.out (HBD.out (by omega))) (Below.refl _ _))
          · have ha : allDig L = true := by have := Hd.out; rwa [List.take_of_length_le (by omega)] at this
            have HF := hide (HG.out ha)
            clear ha HG HB Hd
            have hsl : (⟨l.toArray⟩ : ByteArray).size = l.length := by simp [Lib.size_eq]
            have HL := hide hsl
            clear hsl
            go_wp2_with fail
            cases hp : Lib.parseIntB 64 l with
            | ok v =>
              have HP : Hid (Lib.parseIntB 64 l = .ok v) := hp
              clear hp
              refine (Tryz.strconv_ParseInt_10_at64_ok _ (by rw [HL.out]; omega) v (by simpa using HP.out) _).mono ?_
              rintro e w1 ⟨rfl, hw⟩
              have hb : Below w'.heap.size w' w1 := by
                rcases hw with rfl | ⟨t, rfl⟩
                · exact Below.refl _ _
                · exact below_bytesWorld _ _ _
              clear hw
              go_wp2
              go_quiet (fail)
              go_wp2
              go_ret2
              exact NumRes.yes (by rw [HF.out, HP.out]; rfl) (below_drewN hb _)
            | «syntax» =>
              have HP : Hid (Lib.parseIntB 64 l = .«syntax») := hp
              clear hp
              refine (Tryz.strconv_ParseInt_10_at64_syntax _ (by rw [HL.out]; omega) (by simpa using HP.out) _ _ hes (.inr ⟨_, _, rfl⟩)).mono ?_
              rintro e w1 ⟨N, rfl, hN, hcN, hb⟩
              clear hcN hN
              go_wp2
              go_quiet (fail)
              go_wp2
              go_ret2
              exact NumRes.no _ (by rw [HF.out, HP.out]; rfl) (below_drewN hb _)
            | range =>
              have HP : Hid (Lib.parseIntB 64 l = .range) := hp
              clear hp
              refine (Tryz.strconv_ParseInt_10_at64_range _ (by rw [HL.out]; omega) (by simpa using HP.out) _ _ her (.inr ⟨_, _, rfl⟩)).mono ?_
              rintro e w1 ⟨N, rfl, hN, hcN, hb⟩
              clear hcN hN
              go_wp2
              go_quiet (fail)
              go_wp2
              go_ret2
              exact NumRes.no _ (by rw [HF.out, HP.out]; rfl) (below_drewN hb _)
end Go.Proofs.YtngopilbpiplhaaGreatDoor

namespace Go.Proofs.YtngopilbpiplhaaGreatDoor
open Go.RowKit
/-- The row of the word of that name. -/
def findF (nm : List UInt8) : Option Nat := (List.range 17).find? fun i => wName i == nm
theorem findF_some {nm : List UInt8} {k : Nat} (hk : k < 17) (h : wName k = nm) (hb : ∀ i, i < k → wName i ≠ nm) : findF nm = some k := by
  unfold findF
  rw [List.find?_range_eq_some]
  exact ⟨by simpa using h, by simpa using hk, fun j hj => by simpa using hb j hj⟩
theorem findF_none {nm : List UInt8} (hb : ∀ i, i < 17 → wName i ≠ nm) : findF nm = none := by
  unfold findF
  rw [List.find?_range_eq_none]
  intro i hi
  simpa using hb i hi
theorem row_funcs (s : Nat) {k : Nat} (hk : k < 17) : ∃ f4 b4 f5 b5 f6 b6 f7 b7, wDo s k = .func (.func f4) #[] b4 ∧ wNeeds s k = .func (.func f5) #[] b5 ∧ wNext s k = .func (.func f6) #[] b6 ∧ wJump s k = .func (.func f7) #[] b7 := by
  match k, hk with
  | 0, _ => exact ⟨_, _, _, _, _, _, _, _, rfl, rfl, rfl, rfl⟩
  | 1, _ => exact ⟨_, _, _, _, _, _, _, _, rfl, rfl, rfl, rfl⟩
  | 2, _ => exact ⟨_, _, _, _, _, _, _, _, rfl, rfl, rfl, rfl⟩
  | 3, _ => exact ⟨_, _, _, _, _, _, _, _, rfl, rfl, rfl, rfl⟩
  | 4, _ => exact ⟨_, _, _, _, _, _, _, _, rfl, rfl, rfl, rfl⟩
  | 5, _ => exact ⟨_, _, _, _, _, _, _, _, rfl, rfl, rfl, rfl⟩
  | 6, _ => exact ⟨_, _, _, _, _, _, _, _, rfl, rfl, rfl, rfl⟩
  | 7, _ => exact ⟨_, _, _, _, _, _, _, _, rfl, rfl, rfl, rfl⟩
  | 8, _ => exact ⟨_, _, _, _, _, _, _, _, rfl, rfl, rfl, rfl⟩
  | 9, _ => exact ⟨_, _, _, _, _, _, _, _, rfl, rfl, rfl, rfl⟩
  | 10, _ => exact ⟨_, _, _, _, _, _, _, _, rfl, rfl, rfl, rfl⟩
  | 11, _ => exact ⟨_, _, _, _, _, _, _, _, rfl, rfl, rfl, rfl⟩
  | 12, _ => exact ⟨_, _, _, _, _, _, _, _, rfl, rfl, rfl, rfl⟩
  | 13, _ => exact ⟨_, _, _, _, _, _, _, _, rfl, rfl, rfl, rfl⟩
  | 14, _ => exact ⟨_, _, _, _, _, _, _, _, rfl, rfl, rfl, rfl⟩
  | 15, _ => exact ⟨_, _, _, _, _, _, _, _, rfl, rfl, rfl, rfl⟩
  | 16, _ => exact ⟨_, _, _, _, _, _, _, _, rfl, rfl, rfl, rfl⟩
  | n + 17, h => exact absurd h (by omega)
set_option maxHeartbeats 1000000 in
theorem Find_any (nm : List UInt8) (s : Nat) (w : World) (ht : w.heap[s + 55]? = some (.cells (trows s) 140)) :
    Calls Tryz.prog 198 #[.slice (some ⟨s + 55, 0, none⟩) 17 17, .string ⟨nm.toArray⟩] w fun e w' => e = .returned (resReg (findF nm)) ∧ Below w.heap.size w w' := by
  have HT := hide ht
  have hlt := blk_lt ht
  clear ht
  go_enter Tryz.func198, Tryz.ntmps198
  go_wp2
  go_loopw [10] (fun i w' => ∃ k : Nat, k ≤ 17 ∧ i = .int .i64 k ∧ (∀ j, j < k → wName j ≠ nm) ∧ Below w.heap.size w w') (fun i _ => 17 - (intOf i).toNat)
  case atStart => exact ⟨0, by omega, rfl, fun j h => absurd h (by omega), Below.refl _ _⟩
  case round =>
    obtain ⟨k, hk, rfl, hno, hb⟩ := hrel
    have HN := hide hno
    clear hno
    by_cases hk7 : k < 17
    · have hr := rowAt (w := wr) (s := s) (i := k) (by rw [hb.block _ hlt]; exact HT.out) hk7
      obtain ⟨r0, r1, r2, r3, r4, r5, r6, r7⟩ := hr
      obtain ⟨f4, b4, f5, b5, f6, b6, f7, b7, e4, e5, e6, e7⟩ := row_funcs s hk7
      rw [e4] at r4
      rw [e5] at r5
      rw [e6] at r6
      rw [e7] at r7
      clear e4 e5 e6 e7
      by_cases hnm : wName k = nm
      · have HF := hide (findF_some hk7 hnm HN.out)
        have hnm' : (wName k == nm) = true := by simpa using hnm
        clear hnm
        go_wp2
        go_ret2
        refine ⟨by rw [HF.out]; rfl, ?_⟩
        exact hb.trans ((Below.refl _ _).alloc hb.size _)
      · have HF := hide hnm
        have hnm' : (wName k == nm) = false := by simpa using hnm
        clear hnm
        go_wp2
        go_roundw
        case rel =>
          refine ⟨k + 1, by omega, by go_num, fun j hj => ?_, hb.trans ((Below.refl _ _).alloc hb.size _)⟩
          rcases Nat.lt_succ_iff_lt_or_eq.1 hj with h | h
          · exact HN.out j h
          · rw [h]; exact HF.out
        case measure => simp [intOf]; omega
    · obtain rfl : k = 17 := by omega
      have HF := hide (findF_none HN.out)
      clear HN
      go_wp2
      go_ret2
      exact ⟨by rw [HF.out]; rfl, hb⟩
/-- Does a text bear a letter? -/
def hasB (l : List UInt8) (c : UInt8) : Bool := decide (0 ≤ Lib.indexByte l c)
set_option maxHeartbeats 400000 in
theorem Jumps_any (n p t : ByteArray) (fl : Bool) (f4 : FuncId) (b4 : Array Value) (f5 : FuncId) (b5 : Array Value) (f6 : FuncId) (b6 : Array Value) (f7 : FuncId) (b7 : Array Value) (w : World) :
    Calls Tryz.prog 158 #[.agg #[.string n, .string p, .string t, .bool fl, .func (.func f4) #[] b4, .func (.func f5) #[] b5, .func (.func f6) #[] b6, .func (.func f7) #[] b7]] w
      fun e w' => e = .returned (.bool (hasB p.data.toList 76)) ∧ Below w.heap.size w w' := by
  go_enter Tryz.func158, Tryz.ntmps158
  go_wp2_with (go_at_call 201; refine (Tryz.strings_Contains_one _ _ _).mono ?_; rintro e w' ⟨rfl, rfl⟩)
  go_ret
  exact ⟨rfl, (Below.refl _ _).alloc (Nat.le_refl _) _⟩
set_option maxHeartbeats 400000 in
theorem TakesR_any (n p t : ByteArray) (fl : Bool) (f4 : FuncId) (b4 : Array Value) (f5 : FuncId) (b5 : Array Value) (f6 : FuncId) (b6 : Array Value) (f7 : FuncId) (b7 : Array Value) (w : World) :
    Calls Tryz.prog 202 #[.agg #[.string n, .string p, .string t, .bool fl, .func (.func f4) #[] b4, .func (.func f5) #[] b5, .func (.func f6) #[] b6, .func (.func f7) #[] b7]] w
      fun e w' => e = .returned (.bool (hasB t.data.toList 82)) ∧ Below w.heap.size w w' := by
  go_enter Tryz.func202, Tryz.ntmps202
  go_wp2_with (go_at_call 201; refine (Tryz.strings_Contains_one _ _ _).mono ?_; rintro e w' ⟨rfl, rfl⟩)
  go_ret
  exact ⟨rfl, (Below.refl _ _).alloc (Nat.le_refl _) _⟩
set_option maxHeartbeats 400000 in
theorem TakesS_any (n p t : ByteArray) (fl : Bool) (f4 : FuncId) (b4 : Array Value) (f5 : FuncId) (b5 : Array Value) (f6 : FuncId) (b6 : Array Value) (f7 : FuncId) (b7 : Array Value) (w : World) :
    Calls Tryz.prog 204 #[.agg #[.string n, .string p, .string t, .bool fl, .func (.func f4) #[] b4, .func (.func f5) #[] b5, .func (.func f6) #[] b6, .func (.func f7) #[] b7]] w
      fun e w' => e = .returned (.bool (hasB t.data.toList 83)) ∧ Below w.heap.size w w' := by
  go_enter Tryz.func204, Tryz.ntmps204
  go_wp2_with (go_at_call 201; refine (Tryz.strings_Contains_one _ _ _).mono ?_; rintro e w' ⟨rfl, rfl⟩)
  go_ret
  exact ⟨rfl, (Below.refl _ _).alloc (Nat.le_refl _) _⟩
end Go.Proofs.YtngopilbpiplhaaGreatDoor

namespace Go.Proofs.YtngopilbpiplhaaGreatDoor
open Go.RowKit
/-- A claim: never, or which registers it speaks of, and from where to where each is. -/
structure Cl where
  never : Bool
  has : Nat → Bool
  lo : Nat → Int
  hi : Nat → Int
/-- A claim's cells. -/
def clCells (c : Cl) : Array Value := #[.bool c.never,
  .bool (c.has 0), .bool (c.has 1), .bool (c.has 2), .bool (c.has 3), .bool (c.has 4), .bool (c.has 5), .bool (c.has 6), .bool (c.has 7),
  .int .i64 (c.lo 0), .int .i64 (c.hi 0), .int .i64 (c.lo 1), .int .i64 (c.hi 1), .int .i64 (c.lo 2), .int .i64 (c.hi 2), .int .i64 (c.lo 3), .int .i64 (c.hi 3),
  .int .i64 (c.lo 4), .int .i64 (c.hi 4), .int .i64 (c.lo 5), .int .i64 (c.hi 5), .int .i64 (c.lo 6), .int .i64 (c.hi 6), .int .i64 (c.lo 7), .int .i64 (c.hi 7)]
theorem lt8' {p : Nat → Prop} (h0 : p 0) (h1 : p 1) (h2 : p 2) (h3 : p 3) (h4 : p 4) (h5 : p 5) (h6 : p 6) (h7 : p 7) (a : Nat) (h : a < 8) : p a := by
  match a, h with
  | 0, _ => exact h0
  | 1, _ => exact h1
  | 2, _ => exact h2
  | 3, _ => exact h3
  | 4, _ => exact h4
  | 5, _ => exact h5
  | 6, _ => exact h6
  | 7, _ => exact h7
  | n + 8, h => exact absurd h (by omega)
theorem cl_size (c : Cl) : (clCells c).size = 25 := rfl
theorem cl_one (c : Cl) : (clCells c).all (·.oneCell') = true := by simp [clCells, Value.oneCell']
theorem cl_never (c : Cl) : (clCells c)[0]? = some (.bool c.never) := rfl
theorem cl_has (c : Cl) (r : Nat) (h : r < 8) : (clCells c)[1 + r]? = some (.bool (c.has r)) :=
  lt8' (p := fun r => (clCells c)[1 + r]? = some (.bool (c.has r))) rfl rfl rfl rfl rfl rfl rfl rfl r h
theorem cl_lo (c : Cl) (r : Nat) (h : r < 8) : (clCells c)[9 + r * 2]? = some (.int .i64 (c.lo r)) :=
  lt8' (p := fun r => (clCells c)[9 + r * 2]? = some (.int .i64 (c.lo r))) rfl rfl rfl rfl rfl rfl rfl rfl r h
theorem cl_hi (c : Cl) (r : Nat) (h : r < 8) : (clCells c)[9 + r * 2 + 1]? = some (.int .i64 (c.hi r)) :=
  lt8' (p := fun r => (clCells c)[9 + r * 2 + 1]? = some (.int .i64 (c.hi r))) rfl rfl rfl rfl rfl rfl rfl rfl r h
theorem keep_setRow' (B q : Nat) (w : World) (cs : Array Value) : Keep B q w (w.setRow q cs) := by
  refine ⟨rfl, rfl, rfl, by simp [World.setRow], fun k _ hk => ?_⟩
  simp only [World.setRow, Array.getElem?_modify]
  rw [if_neg (by omega)]
/-- A span's cells. -/
abbrev spC (a b : Int) : Value := .agg #[.int .i64 a, .int .i64 b]
set_option maxHeartbeats 400000 in
theorem Span_any (c : Cl) (r : Nat) (hr : r < 8) (w : World) :
    Calls Tryz.prog 62 #[.agg (clCells c), .int .i64 r] w fun e w' => e = .returned (spC (c.lo r) (c.hi r)) ∧ w' = (w.alloc (.cells (clCells c) 135)).alloc (.cells #[.int .i64 (c.lo r), .int .i64 (c.hi r)] 132) := by
  have hrI : (r : Int) < 8 := by omega
  have h1 := cl_lo c r hr
  have h2 := cl_hi c r hr
  go_enter Tryz.func62, Tryz.ntmps62
  go_wp2
  exact bodyPost_ret (results_cell_row rfl _ _ (w.heap.size + 1) 132 _ _ _ rfl (heap_alloc2_new w _ _) Tryz.underlying132 rfl (by kernel_rfl)) rfl ⟨rfl, rfl⟩
set_option maxHeartbeats 400000 in
theorem Has_any (c : Cl) (r : Nat) (hr : r < 8) (w : World) :
    Calls Tryz.prog 216 #[.agg (clCells c), .int .i64 r] w fun e w' => e = .returned (.bool (c.has r)) ∧ w' = w.alloc (.cells (clCells c) 135) := by
  have hrI : (r : Int) < 8 := by omega
  have h1 := cl_has c r hr
  go_enter Tryz.func216, Tryz.ntmps216
  go_wp2
  go_ret
  exact ⟨rfl, rfl⟩
set_option maxHeartbeats 400000 in
theorem One_any (n : Int) (w : World) : Calls Tryz.prog 57 #[.int .i64 n] w fun e w' => e = .returned (spC n n) ∧ w' = w.alloc (.cells #[.int .i64 n, .int .i64 n] 132) := by
  go_enter Tryz.func57, Tryz.ntmps57
  go_wp2
  exact bodyPost_ret (results_cell_row rfl _ _ w.heap.size 132 _ _ _ rfl (blk_new w _) Tryz.underlying132 rfl (by kernel_rfl)) rfl ⟨rfl, rfl⟩
set_option maxHeartbeats 400000 in
theorem clAll_any (w : World) : Calls Tryz.prog 81 #[] w fun e w' => e = .returned (spC (-9223372036854775808) 9223372036854775807) ∧ w' = w.alloc (.cells #[.int .i64 (-9223372036854775808), .int .i64 9223372036854775807] 132) := by
  go_enter Tryz.func81, Tryz.ntmps81
  go_wp2
  exact bodyPost_ret (results_cell_row rfl _ _ w.heap.size 132 _ _ _ rfl (blk_new w _) Tryz.underlying132 rfl (by kernel_rfl)) rfl ⟨rfl, rfl⟩
/-- No run comes there. -/
def clNever : Cl := ⟨true, fun _ => false, fun _ => 0, fun _ => 0⟩
/-- Nothing is said. -/
def clNone : Cl := ⟨false, fun _ => false, fun _ => 0, fun _ => 0⟩
theorem alloc_setRow (w : World) (old cs : Array Value) (t : TypeId) : (w.alloc (.cells old t)).setRow w.heap.size cs = w.alloc (.cells cs t) := by
  unfold World.setRow World.alloc
  congr 1
  apply Array.ext_getElem?
  intro j
  simp only [Array.getElem?_modify, Array.getElem?_push]
  by_cases h : j = w.heap.size
  · subst h; simp
  · simp [h, Ne.symm h]
/-- A whole claim stored into a variable. -/
theorem wpList_storeCl {ops : Array Oper} {rest : List Oper} {o : Oper} {a : Act} {w : World} {Q : Exit → Act → World → Prop} (hgd : o.guard = none) (x y : Operand) (ho : o.op = .store 135 x y) (g : Nat) (SC old : Array Value) (t : TypeId)
    (hx : a.eval x = .pointer (some ⟨g, 0, none⟩)) (hy : a.eval y = .agg SC) (hg : w.heap[g]? = some (.cells old t)) (hsz : SC.size = 25) (hold : old.size = 25) (hone : SC.all (·.oneCell') = true)
    (h : ∀ w', Hid (w' = w.setRow g SC) → wpList Tryz.prog ops Q rest (a.put o.dst undef) w') : wpList Tryz.prog ops Q (o :: rest) a w :=
  wpList_plain hgd fun _ hK => wp_store_row 135 x y ho g SC hx hy t old hg (by rw [hsz]; kernel_rfl) (by rw [hsz, hold]) hone
    (hK _ _ (h _ (hide rfl)))
set_option maxHeartbeats 400000 in
theorem Never_any (w : World) : Calls Tryz.prog 134 #[] w fun e w' => e = .returned (.agg (clCells clNever)) ∧ w' = w.alloc (.cells (clCells clNever) 135) := by
  go_enter Tryz.func134, Tryz.ntmps134
  go_wp2_with (refine wpList_storeCl rfl (.tmp 0) (.tmp 1) rfl w.heap.size (clCells clNever) _ _ rfl rfl (blk_new w _) rfl rfl (cl_one _) ?_)
  intro w' hw
  have hw' := hw.out
  rw [alloc_setRow] at hw'
  subst hw'
  go_wp2
  exact bodyPost_ret (results_cell_row rfl _ _ w.heap.size 135 _ _ _ rfl (blk_new w _) Tryz.underlying135 rfl (by kernel_rfl)) rfl ⟨rfl, rfl⟩
set_option maxHeartbeats 400000 in
theorem isPlace_any (a b p : Int) (w : World) : Calls Tryz.prog 146 #[spC a b, .int .i64 p] w fun e w' => e = .returned (.bool (decide (0 ≤ a) && decide (b < p))) ∧ w' = w.alloc (.cells #[.int .i64 a, .int .i64 b] 132) := by
  by_cases h : 0 ≤ a
  · by_cases h2 : b < p
    · go_enter Tryz.func146, Tryz.ntmps146
      go_wp2
      go_ret
      exact ⟨by simp [h, h2], rfl⟩
    · go_enter Tryz.func146, Tryz.ntmps146
      go_wp2
      go_ret
      exact ⟨by simp [h2], rfl⟩
  · go_enter Tryz.func146, Tryz.ntmps146
    go_wp2
    go_ret
    exact ⟨by rw [decide_eq_false (p := 0 ≤ a) (by omega)]; rfl, rfl⟩
end Go.Proofs.YtngopilbpiplhaaGreatDoor
