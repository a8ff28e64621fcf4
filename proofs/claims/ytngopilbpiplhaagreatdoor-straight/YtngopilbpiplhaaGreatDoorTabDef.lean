/-
  The contract of words.Rows: the table of words in new memory; each call lays the same 56 blocks, the last of which holds the rows.
-/
import Derived.Test.YtngopilbpiplhaaGreatDoorBase
import Derived.Lib.Bytealg
namespace Go.Proofs.YtngopilbpiplhaaGreatDoor
open Go.RowKit

/-- The blocks that the table's closures captured; s: the number of the first. -/
def tcaps (s : Nat) : List Obj := [
  .cells #[.func (.func 53) #[] #[]] 123,
  .cells #[.func (.func 56) #[] #[]] 137,
  .cells #[.func (.func 59) #[] #[]] 123,
  .cells #[.func (.func 61) #[] #[]] 137,
  .cells #[.func (.func 64) #[] #[]] 144,
  .cells #[.func (.func 66) #[] #[]] 146,
  .cells #[.func (.func 136) #[] #[.pointer (some ⟨s + 5, 0, none⟩)]] 137,
  .cells #[.func (.func 67) #[] #[]] 144,
  .cells #[.func (.func 68) #[] #[]] 146,
  .cells #[.func (.func 136) #[] #[.pointer (some ⟨s + 8, 0, none⟩)]] 137,
  .cells #[.func (.func 69) #[] #[]] 144,
  .cells #[.func (.func 70) #[] #[]] 146,
  .cells #[.func (.func 136) #[] #[.pointer (some ⟨s + 11, 0, none⟩)]] 137,
  .cells #[.func (.func 71) #[] #[]] 144,
  .cells #[.func (.func 72) #[] #[]] 146,
  .cells #[.func (.func 136) #[] #[.pointer (some ⟨s + 14, 0, none⟩)]] 137,
  .cells #[.func (.func 73) #[] #[]] 144,
  .cells #[.func (.func 75) #[] #[]] 146,
  .cells #[.func (.func 136) #[] #[.pointer (some ⟨s + 17, 0, none⟩)]] 137,
  .cells #[.int .i64 64] 2,
  .cells #[.func (.func 77) #[] #[]] 151,
  .cells #[.int .i64 64] 2,
  .cells #[.int .i64 0, .int .i64 255] 132,
  .cells #[.func (.func 147) #[] #[.pointer (some ⟨s + 22, 0, none⟩)]] 137,
  .cells #[.int .i64 16] 2,
  .cells #[.func (.func 80) #[] #[]] 151,
  .cells #[.int .i64 16] 2,
  .cells #[.int .i64 (-9223372036854775808), .int .i64 9223372036854775807] 132,
  .cells #[.int .i64 (-9223372036854775808), .int .i64 9223372036854775807] 132,
  .cells #[.func (.func 147) #[] #[.pointer (some ⟨s + 28, 0, none⟩)]] 137,
  .cells #[.int .i64 16] 2,
  .cells #[.func (.func 83) #[] #[]] 156,
  .cells #[.int .i64 16] 2,
  .cells #[.int .i64 8] 2,
  .cells #[.func (.func 86) #[] #[]] 151,
  .cells #[.int .i64 8] 2,
  .cells #[.int .i64 (-9223372036854775808), .int .i64 9223372036854775807] 132,
  .cells #[.int .i64 (-9223372036854775808), .int .i64 9223372036854775807] 132,
  .cells #[.func (.func 147) #[] #[.pointer (some ⟨s + 37, 0, none⟩)]] 137,
  .cells #[.int .i64 8] 2,
  .cells #[.func (.func 87) #[] #[]] 156,
  .cells #[.int .i64 8] 2,
  .cells #[.func (.func 89) #[] #[]] 159,
  .cells #[.func (.func 92) #[] #[]] 161,
  .cells #[.func (.func 93) #[] #[]] 161,
  .cells #[.func (.func 150) #[] #[]] 128,
  .cells #[.func (.func 95) #[] #[]] 163,
  .cells #[.func (.func 133) #[] #[]] 128,
  .cells #[.func (.func 96) #[] #[]] 163,
  .cells #[.func (.func 97) #[] #[]] 161,
  .cells #[.func (.func 133) #[] #[]] 128,
  .cells #[.func (.func 98) #[] #[]] 163,
  .cells #[.func (.func 150) #[] #[]] 128,
  .cells #[.func (.func 99) #[] #[]] 163,
  .cells #[.func (.func 100) #[] #[]] 159]
/-- The rows: name, parts, takes, falls; do, needs, next, jump. -/
def trows (s : Nat) : Array Value := #[
  .string ⟨#[115, 101, 116]⟩, .string ⟨#[82, 110]⟩, .string ⟨#[]⟩, .bool true, .func (.func 129) #[] #[.pointer (some ⟨s + 0, 0, none⟩)], .func (.func 130) #[] #[], .func (.func 131) #[] #[.pointer (some ⟨s + 1, 0, none⟩)], .func (.func 133) #[] #[],
  .string ⟨#[109, 111, 118]⟩, .string ⟨#[82, 83]⟩, .string ⟨#[83]⟩, .bool true, .func (.func 129) #[] #[.pointer (some ⟨s + 2, 0, none⟩)], .func (.func 130) #[] #[], .func (.func 131) #[] #[.pointer (some ⟨s + 3, 0, none⟩)], .func (.func 133) #[] #[],
  .string ⟨#[97, 100, 100]⟩, .string ⟨#[82, 83]⟩, .string ⟨#[82, 83]⟩, .bool true, .func (.func 135) #[] #[.pointer (some ⟨s + 4, 0, none⟩)], .func (.func 130) #[] #[], .func (.func 131) #[] #[.pointer (some ⟨s + 6, 0, none⟩)], .func (.func 133) #[] #[],
  .string ⟨#[115, 117, 98]⟩, .string ⟨#[82, 83]⟩, .string ⟨#[82, 83]⟩, .bool true, .func (.func 135) #[] #[.pointer (some ⟨s + 7, 0, none⟩)], .func (.func 130) #[] #[], .func (.func 131) #[] #[.pointer (some ⟨s + 9, 0, none⟩)], .func (.func 133) #[] #[],
  .string ⟨#[109, 117, 108]⟩, .string ⟨#[82, 83]⟩, .string ⟨#[82, 83]⟩, .bool true, .func (.func 135) #[] #[.pointer (some ⟨s + 10, 0, none⟩)], .func (.func 130) #[] #[], .func (.func 131) #[] #[.pointer (some ⟨s + 12, 0, none⟩)], .func (.func 133) #[] #[],
  .string ⟨#[97, 110, 100]⟩, .string ⟨#[82, 83]⟩, .string ⟨#[82, 83]⟩, .bool true, .func (.func 135) #[] #[.pointer (some ⟨s + 13, 0, none⟩)], .func (.func 130) #[] #[], .func (.func 131) #[] #[.pointer (some ⟨s + 15, 0, none⟩)], .func (.func 133) #[] #[],
  .string ⟨#[100, 105, 118]⟩, .string ⟨#[82, 83]⟩, .string ⟨#[82, 83]⟩, .bool true, .func (.func 135) #[] #[.pointer (some ⟨s + 16, 0, none⟩)], .func (.func 142) #[] #[], .func (.func 131) #[] #[.pointer (some ⟨s + 18, 0, none⟩)], .func (.func 133) #[] #[],
  .string ⟨#[105, 110]⟩, .string ⟨#[82, 83]⟩, .string ⟨#[83]⟩, .bool true, .func (.func 144) #[] #[.pointer (some ⟨s + 19, 0, none⟩), .pointer (some ⟨s + 20, 0, none⟩)], .func (.func 145) #[] #[.pointer (some ⟨s + 21, 0, none⟩)], .func (.func 131) #[] #[.pointer (some ⟨s + 23, 0, none⟩)], .func (.func 133) #[] #[],
  .string ⟨#[103, 101, 116]⟩, .string ⟨#[82, 83]⟩, .string ⟨#[83]⟩, .bool true, .func (.func 144) #[] #[.pointer (some ⟨s + 24, 0, none⟩), .pointer (some ⟨s + 25, 0, none⟩)], .func (.func 145) #[] #[.pointer (some ⟨s + 26, 0, none⟩)], .func (.func 131) #[] #[.pointer (some ⟨s + 29, 0, none⟩)], .func (.func 133) #[] #[],
  .string ⟨#[112, 117, 116]⟩, .string ⟨#[82, 83]⟩, .string ⟨#[82, 83]⟩, .bool true, .func (.func 148) #[] #[.pointer (some ⟨s + 30, 0, none⟩), .pointer (some ⟨s + 31, 0, none⟩)], .func (.func 149) #[] #[.pointer (some ⟨s + 32, 0, none⟩)], .func (.func 150) #[] #[], .func (.func 133) #[] #[],
  .string ⟨#[108, 111, 97, 100]⟩, .string ⟨#[82, 83]⟩, .string ⟨#[83]⟩, .bool true, .func (.func 144) #[] #[.pointer (some ⟨s + 33, 0, none⟩), .pointer (some ⟨s + 34, 0, none⟩)], .func (.func 145) #[] #[.pointer (some ⟨s + 35, 0, none⟩)], .func (.func 131) #[] #[.pointer (some ⟨s + 38, 0, none⟩)], .func (.func 133) #[] #[],
  .string ⟨#[107, 101, 101, 112]⟩, .string ⟨#[82, 83]⟩, .string ⟨#[82, 83]⟩, .bool true, .func (.func 148) #[] #[.pointer (some ⟨s + 39, 0, none⟩), .pointer (some ⟨s + 40, 0, none⟩)], .func (.func 149) #[] #[.pointer (some ⟨s + 41, 0, none⟩)], .func (.func 150) #[] #[], .func (.func 133) #[] #[],
  .string ⟨#[111, 117, 116]⟩, .string ⟨#[82]⟩, .string ⟨#[82]⟩, .bool true, .func (.func 151) #[] #[.pointer (some ⟨s + 42, 0, none⟩)], .func (.func 130) #[] #[], .func (.func 150) #[] #[], .func (.func 133) #[] #[],
  .string ⟨#[106, 109, 112]⟩, .string ⟨#[76]⟩, .string ⟨#[]⟩, .bool false, .func (.func 153) #[] #[.pointer (some ⟨s + 43, 0, none⟩)], .func (.func 130) #[] #[], .func (.func 133) #[] #[], .func (.func 150) #[] #[],
  .string ⟨#[106, 108, 116]⟩, .string ⟨#[82, 83, 76]⟩, .string ⟨#[82, 83]⟩, .bool true, .func (.func 153) #[] #[.pointer (some ⟨s + 44, 0, none⟩)], .func (.func 130) #[] #[], .func (.func 154) #[] #[.pointer (some ⟨s + 45, 0, none⟩), .pointer (some ⟨s + 46, 0, none⟩)], .func (.func 154) #[] #[.pointer (some ⟨s + 47, 0, none⟩), .pointer (some ⟨s + 48, 0, none⟩)],
  .string ⟨#[106, 101, 113]⟩, .string ⟨#[82, 83, 76]⟩, .string ⟨#[82, 83]⟩, .bool true, .func (.func 153) #[] #[.pointer (some ⟨s + 49, 0, none⟩)], .func (.func 130) #[] #[], .func (.func 154) #[] #[.pointer (some ⟨s + 50, 0, none⟩), .pointer (some ⟨s + 51, 0, none⟩)], .func (.func 154) #[] #[.pointer (some ⟨s + 52, 0, none⟩), .pointer (some ⟨s + 53, 0, none⟩)],
  .string ⟨#[101, 110, 100]⟩, .string ⟨#[82]⟩, .string ⟨#[82]⟩, .bool false, .func (.func 151) #[] #[.pointer (some ⟨s + 54, 0, none⟩)], .func (.func 130) #[] #[], .func (.func 133) #[] #[], .func (.func 133) #[] #[]]
def tblocks (s : Nat) : List Obj := tcaps s ++ [.cells (trows s) 140]

def allocs (w : World) (l : List Obj) : World := l.foldl World.alloc w
theorem allocs_size (l : List Obj) : ∀ w, (allocs w l).heap.size = w.heap.size + l.length := by
  induction l with
  | nil => intro w; rfl
  | cons o l ih => intro w; show (allocs (w.alloc o) l).heap.size = _; rw [ih]; simp; omega
theorem allocs_below (l : List Obj) : ∀ w, Below w.heap.size w (allocs w l) := by
  induction l with
  | nil => intro w; exact Below.refl _ _
  | cons o l ih => intro w; exact ((Below.refl _ _).alloc (Nat.le_refl _) o).trans ((ih (w.alloc o)).mono (by simp))
theorem allocs_get (l : List Obj) : ∀ w k, k < l.length → (allocs w l).heap[w.heap.size + k]? = l[k]? := by
  induction l with
  | nil => intro w k h; cases h
  | cons o l ih =>
    intro w k h
    show (allocs (w.alloc o) l).heap[_]? = _
    cases k with
    | zero => rw [Nat.add_zero, (allocs_below l (w.alloc o)).block _ (by simp), blk_new]; rfl
    | succ k => rw [show w.heap.size + (k + 1) = (w.alloc o).heap.size + k by simp; omega, ih _ _ (by simpa using h)]; rfl

/-- The table lies at block s and behind it. -/
def Table (s : Nat) (w : World) : Prop := ∀ k, k < 56 → w.heap[s + k]? = (tblocks s)[k]?
theorem Table.mono {s : Nat} {w w' : World} (h : Table s w) (hb : ∀ k, s ≤ k → k < s + 56 → w'.heap[k]? = w.heap[k]?) : Table s w' :=
  fun k hk => (hb (s + k) (by omega) (by omega)).trans (h k hk)



/-- The names, the parts, and which of R and S must be set, row by row. -/
def wName : Nat → List UInt8
  | 0 => [115, 101, 116]
  | 1 => [109, 111, 118]
  | 2 => [97, 100, 100]
  | 3 => [115, 117, 98]
  | 4 => [109, 117, 108]
  | 5 => [97, 110, 100]
  | 6 => [100, 105, 118]
  | 7 => [105, 110]
  | 8 => [103, 101, 116]
  | 9 => [112, 117, 116]
  | 10 => [108, 111, 97, 100]
  | 11 => [107, 101, 101, 112]
  | 12 => [111, 117, 116]
  | 13 => [106, 109, 112]
  | 14 => [106, 108, 116]
  | 15 => [106, 101, 113]
  | 16 => [101, 110, 100]
  | _ => []
def wParts : Nat → List UInt8
  | 0 => [82, 110]
  | 1 => [82, 83]
  | 2 => [82, 83]
  | 3 => [82, 83]
  | 4 => [82, 83]
  | 5 => [82, 83]
  | 6 => [82, 83]
  | 7 => [82, 83]
  | 8 => [82, 83]
  | 9 => [82, 83]
  | 10 => [82, 83]
  | 11 => [82, 83]
  | 12 => [82]
  | 13 => [76]
  | 14 => [82, 83, 76]
  | 15 => [82, 83, 76]
  | 16 => [82]
  | _ => []
def wTakes : Nat → List UInt8
  | 0 => []
  | 1 => [83]
  | 2 => [82, 83]
  | 3 => [82, 83]
  | 4 => [82, 83]
  | 5 => [82, 83]
  | 6 => [82, 83]
  | 7 => [83]
  | 8 => [83]
  | 9 => [82, 83]
  | 10 => [83]
  | 11 => [82, 83]
  | 12 => [82]
  | 13 => []
  | 14 => [82, 83]
  | 15 => [82, 83]
  | 16 => [82]
  | _ => []
def wFalls : Nat → Bool
  | 0 => true
  | 1 => true
  | 2 => true
  | 3 => true
  | 4 => true
  | 5 => true
  | 6 => true
  | 7 => true
  | 8 => true
  | 9 => true
  | 10 => true
  | 11 => true
  | 12 => true
  | 13 => false
  | 14 => true
  | 15 => true
  | 16 => false
  | _ => false
def wDo (s : Nat) : Nat → Value
  | 0 => .func (.func 129) #[] #[.pointer (some ⟨s + 0, 0, none⟩)]
  | 1 => .func (.func 129) #[] #[.pointer (some ⟨s + 2, 0, none⟩)]
  | 2 => .func (.func 135) #[] #[.pointer (some ⟨s + 4, 0, none⟩)]
  | 3 => .func (.func 135) #[] #[.pointer (some ⟨s + 7, 0, none⟩)]
  | 4 => .func (.func 135) #[] #[.pointer (some ⟨s + 10, 0, none⟩)]
  | 5 => .func (.func 135) #[] #[.pointer (some ⟨s + 13, 0, none⟩)]
  | 6 => .func (.func 135) #[] #[.pointer (some ⟨s + 16, 0, none⟩)]
  | 7 => .func (.func 144) #[] #[.pointer (some ⟨s + 19, 0, none⟩), .pointer (some ⟨s + 20, 0, none⟩)]
  | 8 => .func (.func 144) #[] #[.pointer (some ⟨s + 24, 0, none⟩), .pointer (some ⟨s + 25, 0, none⟩)]
  | 9 => .func (.func 148) #[] #[.pointer (some ⟨s + 30, 0, none⟩), .pointer (some ⟨s + 31, 0, none⟩)]
  | 10 => .func (.func 144) #[] #[.pointer (some ⟨s + 33, 0, none⟩), .pointer (some ⟨s + 34, 0, none⟩)]
  | 11 => .func (.func 148) #[] #[.pointer (some ⟨s + 39, 0, none⟩), .pointer (some ⟨s + 40, 0, none⟩)]
  | 12 => .func (.func 151) #[] #[.pointer (some ⟨s + 42, 0, none⟩)]
  | 13 => .func (.func 153) #[] #[.pointer (some ⟨s + 43, 0, none⟩)]
  | 14 => .func (.func 153) #[] #[.pointer (some ⟨s + 44, 0, none⟩)]
  | 15 => .func (.func 153) #[] #[.pointer (some ⟨s + 49, 0, none⟩)]
  | 16 => .func (.func 151) #[] #[.pointer (some ⟨s + 54, 0, none⟩)]
  | _ => .nilFunc
def wNeeds (s : Nat) : Nat → Value
  | 0 => .func (.func 130) #[] #[]
  | 1 => .func (.func 130) #[] #[]
  | 2 => .func (.func 130) #[] #[]
  | 3 => .func (.func 130) #[] #[]
  | 4 => .func (.func 130) #[] #[]
  | 5 => .func (.func 130) #[] #[]
  | 6 => .func (.func 142) #[] #[]
  | 7 => .func (.func 145) #[] #[.pointer (some ⟨s + 21, 0, none⟩)]
  | 8 => .func (.func 145) #[] #[.pointer (some ⟨s + 26, 0, none⟩)]
  | 9 => .func (.func 149) #[] #[.pointer (some ⟨s + 32, 0, none⟩)]
  | 10 => .func (.func 145) #[] #[.pointer (some ⟨s + 35, 0, none⟩)]
  | 11 => .func (.func 149) #[] #[.pointer (some ⟨s + 41, 0, none⟩)]
  | 12 => .func (.func 130) #[] #[]
  | 13 => .func (.func 130) #[] #[]
  | 14 => .func (.func 130) #[] #[]
  | 15 => .func (.func 130) #[] #[]
  | 16 => .func (.func 130) #[] #[]
  | _ => .nilFunc
def wNext (s : Nat) : Nat → Value
  | 0 => .func (.func 131) #[] #[.pointer (some ⟨s + 1, 0, none⟩)]
  | 1 => .func (.func 131) #[] #[.pointer (some ⟨s + 3, 0, none⟩)]
  | 2 => .func (.func 131) #[] #[.pointer (some ⟨s + 6, 0, none⟩)]
  | 3 => .func (.func 131) #[] #[.pointer (some ⟨s + 9, 0, none⟩)]
  | 4 => .func (.func 131) #[] #[.pointer (some ⟨s + 12, 0, none⟩)]
  | 5 => .func (.func 131) #[] #[.pointer (some ⟨s + 15, 0, none⟩)]
  | 6 => .func (.func 131) #[] #[.pointer (some ⟨s + 18, 0, none⟩)]
  | 7 => .func (.func 131) #[] #[.pointer (some ⟨s + 23, 0, none⟩)]
  | 8 => .func (.func 131) #[] #[.pointer (some ⟨s + 29, 0, none⟩)]
  | 9 => .func (.func 150) #[] #[]
  | 10 => .func (.func 131) #[] #[.pointer (some ⟨s + 38, 0, none⟩)]
  | 11 => .func (.func 150) #[] #[]
  | 12 => .func (.func 150) #[] #[]
  | 13 => .func (.func 133) #[] #[]
  | 14 => .func (.func 154) #[] #[.pointer (some ⟨s + 45, 0, none⟩), .pointer (some ⟨s + 46, 0, none⟩)]
  | 15 => .func (.func 154) #[] #[.pointer (some ⟨s + 50, 0, none⟩), .pointer (some ⟨s + 51, 0, none⟩)]
  | 16 => .func (.func 133) #[] #[]
  | _ => .nilFunc
def wJump (s : Nat) : Nat → Value
  | 0 => .func (.func 133) #[] #[]
  | 1 => .func (.func 133) #[] #[]
  | 2 => .func (.func 133) #[] #[]
  | 3 => .func (.func 133) #[] #[]
  | 4 => .func (.func 133) #[] #[]
  | 5 => .func (.func 133) #[] #[]
  | 6 => .func (.func 133) #[] #[]
  | 7 => .func (.func 133) #[] #[]
  | 8 => .func (.func 133) #[] #[]
  | 9 => .func (.func 133) #[] #[]
  | 10 => .func (.func 133) #[] #[]
  | 11 => .func (.func 133) #[] #[]
  | 12 => .func (.func 133) #[] #[]
  | 13 => .func (.func 150) #[] #[]
  | 14 => .func (.func 154) #[] #[.pointer (some ⟨s + 47, 0, none⟩), .pointer (some ⟨s + 48, 0, none⟩)]
  | 15 => .func (.func 154) #[] #[.pointer (some ⟨s + 52, 0, none⟩), .pointer (some ⟨s + 53, 0, none⟩)]
  | 16 => .func (.func 133) #[] #[]
  | _ => .nilFunc

structure RowAt (s : Nat) (w : World) (i : Nat) : Prop where
  name : w.cell? ⟨s + 55, i * 8, none⟩ = some (.string ⟨(wName i).toArray⟩)
  parts : w.cell? ⟨s + 55, i * 8 + 1, none⟩ = some (.string ⟨(wParts i).toArray⟩)
  takes : w.cell? ⟨s + 55, i * 8 + 2, none⟩ = some (.string ⟨(wTakes i).toArray⟩)
  falls : w.cell? ⟨s + 55, i * 8 + 3, none⟩ = some (.bool (wFalls i))
  act : w.cell? ⟨s + 55, i * 8 + 4, none⟩ = some (wDo s i)
  needs : w.cell? ⟨s + 55, i * 8 + 5, none⟩ = some (wNeeds s i)
  next : w.cell? ⟨s + 55, i * 8 + 6, none⟩ = some (wNext s i)
  jump : w.cell? ⟨s + 55, i * 8 + 7, none⟩ = some (wJump s i)
theorem rowAt {s : Nat} {w : World} (h : w.heap[s + 55]? = some (.cells (trows s) 140)) {i : Nat} (hi : i < 17) : RowAt s w i := by
  have hc := cell_of_blk h
  match i, hi with
  | 0, _ => exact ⟨hc 0, hc 1, hc 2, hc 3, hc 4, hc 5, hc 6, hc 7⟩
  | 1, _ => exact ⟨hc 8, hc 9, hc 10, hc 11, hc 12, hc 13, hc 14, hc 15⟩
  | 2, _ => exact ⟨hc 16, hc 17, hc 18, hc 19, hc 20, hc 21, hc 22, hc 23⟩
  | 3, _ => exact ⟨hc 24, hc 25, hc 26, hc 27, hc 28, hc 29, hc 30, hc 31⟩
  | 4, _ => exact ⟨hc 32, hc 33, hc 34, hc 35, hc 36, hc 37, hc 38, hc 39⟩
  | 5, _ => exact ⟨hc 40, hc 41, hc 42, hc 43, hc 44, hc 45, hc 46, hc 47⟩
  | 6, _ => exact ⟨hc 48, hc 49, hc 50, hc 51, hc 52, hc 53, hc 54, hc 55⟩
  | 7, _ => exact ⟨hc 56, hc 57, hc 58, hc 59, hc 60, hc 61, hc 62, hc 63⟩
  | 8, _ => exact ⟨hc 64, hc 65, hc 66, hc 67, hc 68, hc 69, hc 70, hc 71⟩
  | 9, _ => exact ⟨hc 72, hc 73, hc 74, hc 75, hc 76, hc 77, hc 78, hc 79⟩
  | 10, _ => exact ⟨hc 80, hc 81, hc 82, hc 83, hc 84, hc 85, hc 86, hc 87⟩
  | 11, _ => exact ⟨hc 88, hc 89, hc 90, hc 91, hc 92, hc 93, hc 94, hc 95⟩
  | 12, _ => exact ⟨hc 96, hc 97, hc 98, hc 99, hc 100, hc 101, hc 102, hc 103⟩
  | 13, _ => exact ⟨hc 104, hc 105, hc 106, hc 107, hc 108, hc 109, hc 110, hc 111⟩
  | 14, _ => exact ⟨hc 112, hc 113, hc 114, hc 115, hc 116, hc 117, hc 118, hc 119⟩
  | 15, _ => exact ⟨hc 120, hc 121, hc 122, hc 123, hc 124, hc 125, hc 126, hc 127⟩
  | 16, _ => exact ⟨hc 128, hc 129, hc 130, hc 131, hc 132, hc 133, hc 134, hc 135⟩
  | n + 17, h => exact absurd h (by omega)
theorem Table.rows {s : Nat} {w : World} (h : Table s w) : w.heap[s + 55]? = some (.cells (trows s) 140) := h 55 (by omega)

end Go.Proofs.YtngopilbpiplhaaGreatDoor
