/-
  The contract of reader.parsePart: the line's block is as the plain function says; nothing else that was there is changed.
-/
import Derived.Test.YtngopilbpiplhaaGreatDoorWords
import Derived.Test.YtngopilbpiplhaaGreatDoorCut
namespace Go.Proofs.YtngopilbpiplhaaGreatDoor
open Go.RowKit

def lnArr (x : Ln) : Array Value := #[.int .i64 x.word, .int .i64 x.r, .int .i64 x.s, .int .i64 x.n]

/-- What parsePart leaves. -/
def PartRes (x : Ln) (c : UInt8) (t : List UInt8) (b : Nat) (w : World) (e : Ending) (w' : World) : Prop :=
  ∃ x' : Ln, e = .returned (.bool (partF x c t).isSome) ∧ w'.heap[b]? = some (.cells (lnArr x') 122) ∧ (∀ y, partF x c t = some y → x' = y) ∧ Keep w.heap.size b w w'

theorem lncells {w : World} {b : Nat} {x : Ln} (hb : w.heap[b]? = some (.cells (lnArr x) 122)) :
    (w.cell? ⟨b, 0, none⟩ = some (.int .i64 x.word) ∧ w.cell? ⟨b, 1, none⟩ = some (.int .i64 x.r) ∧ w.cell? ⟨b, 2, none⟩ = some (.int .i64 x.s) ∧ w.cell? ⟨b, 3, none⟩ = some (.int .i64 x.n)) ∧ ∀ o, w.frozen? ⟨b, o, none⟩ = false :=
  ⟨⟨cell_of_blk hb 0, cell_of_blk hb 1, cell_of_blk hb 2, cell_of_blk hb 3⟩, frozen_of_blk hb⟩

theorem PartRes.of {x : Ln} (x' : Ln) {c : UInt8} {t : List UInt8} {b : Nat} {w w1 : World} {k : Bool} {v : Value} {o : Nat} (hk : k = (partF x c t).isSome) (hb : w1.heap[b]? = some (.cells (lnArr x) 122))
    (hs : (lnArr x).setIfInBounds o v = lnArr x') (hy : ∀ y, partF x c t = some y → x' = y) (hbl : Below w.heap.size w w1) : PartRes x c t b w (.returned (.bool k)) (w1.setCell ⟨b, o, none⟩ v) :=
  ⟨x', by rw [hk], by rw [← hs]; exact blk_setCell hb _ _, hy, (Keep.of_below hbl).setCell (p := ⟨b, o, none⟩) (.inr rfl) _⟩

set_option maxHeartbeats 1000000 in
theorem parsePart_R (x : Ln) (t : List UInt8) (b : Nat) (w : World) (hb : w.heap[b]? = some (.cells (lnArr x) 122)) :
    Calls Tryz.prog 199 #[.pointer (some ⟨b, 0, none⟩), .int .u8 82, .string ⟨t.toArray⟩] w fun e w' => PartRes x 82 t b w e w' := by
  obtain ⟨⟨c0, c1, c2, c3⟩, fz⟩ := lncells hb
  have HB := hide hb
  clear hb
  have HP : Hid (partF x 82 t = (regF t).map fun (r : Nat) => { x with r := (r : Int) }) := hide (by simp [partF])
  go_enter Tryz.func199, Tryz.ntmps199
  go_wp2_with fail
  refine (parseRegister_any _ _).mono ?_
  rintro e w' ⟨rfl, rfl⟩
  cases hr : regF t with
  | none =>
    have HR := hide hr
    clear hr
    rw [show resReg none = .tuple #[.int .i64 0, .bool false] from rfl]
    go_wp2
    go_ret
    exact PartRes.of { x with r := 0 } (by rw [HP.out, HR.out]; rfl) HB.out rfl (fun y hy => by rw [HP.out, HR.out] at hy; cases hy) (Below.refl _ _)
  | some r =>
    have HR := hide hr
    clear hr
    rw [show resReg (some r) = .tuple #[.int .i64 (r : Int), .bool true] from rfl]
    go_wp2
    go_ret
    exact PartRes.of { x with r := (r : Int) } (by rw [HP.out, HR.out]; rfl) HB.out rfl (fun y hy => by rw [HP.out, HR.out] at hy; cases hy; rfl) (Below.refl _ _)

set_option maxHeartbeats 1000000 in
theorem parsePart_S (x : Ln) (t : List UInt8) (b : Nat) (w : World) (hb : w.heap[b]? = some (.cells (lnArr x) 122)) :
    Calls Tryz.prog 199 #[.pointer (some ⟨b, 0, none⟩), .int .u8 83, .string ⟨t.toArray⟩] w fun e w' => PartRes x 83 t b w e w' := by
  obtain ⟨⟨c0, c1, c2, c3⟩, fz⟩ := lncells hb
  have HB := hide hb
  clear hb
  have HP : Hid (partF x 83 t = (regF t).map fun (r : Nat) => { x with s := (r : Int) }) := hide (by simp [partF])
  go_enter Tryz.func199, Tryz.ntmps199
  go_wp2_with fail
  refine (parseRegister_any _ _).mono ?_
  rintro e w' ⟨rfl, rfl⟩
  cases hr : regF t with
  | none =>
    have HR := hide hr
    clear hr
    rw [show resReg none = .tuple #[.int .i64 0, .bool false] from rfl]
    go_wp2
    go_ret
    exact PartRes.of { x with s := 0 } (by rw [HP.out, HR.out]; rfl) HB.out rfl (fun y hy => by rw [HP.out, HR.out] at hy; cases hy) (Below.refl _ _)
  | some r =>
    have HR := hide hr
    clear hr
    rw [show resReg (some r) = .tuple #[.int .i64 (r : Int), .bool true] from rfl]
    go_wp2
    go_ret
    exact PartRes.of { x with s := (r : Int) } (by rw [HP.out, HR.out]; rfl) HB.out rfl (fun y hy => by rw [HP.out, HR.out] at hy; cases hy; rfl) (Below.refl _ _)

set_option maxHeartbeats 1000000 in
theorem parsePart_n (x : Ln) (t : List UInt8) (b : Nat) (w : World) (hb : w.heap[b]? = some (.cells (lnArr x) 122)) (ht : t.length ≤ 281474976710656) (hg : Glob w) :
    Calls Tryz.prog 199 #[.pointer (some ⟨b, 0, none⟩), .int .u8 110, .string ⟨t.toArray⟩] w fun e w' => PartRes x 110 t b w e w' := by
  have HB := hide hb
  have hlt := blk_lt hb
  clear hb
  have HP : Hid (partF x 110 t = (numF t).bind fun v => if -1000000000 ≤ v ∧ v ≤ 1000000000 then some { x with n := v } else none) := hide (by simp [partF])
  go_enter Tryz.func199, Tryz.ntmps199
  go_wp2_with fail
  refine (parseNumber_any _ _ ht hg).mono ?_
  rintro e w1 ⟨n, ok, rfl, hor, hbl⟩
  have hb1 : w1.heap[b]? = some (.cells (lnArr x) 122) := (hbl.block b hlt).trans HB.out
  obtain ⟨⟨c0, c1, c2, c3⟩, fz⟩ := lncells hb1
  have HB1 := hide hb1
  clear hb1
  rcases hor with ⟨hn, rfl⟩ | ⟨hn, rfl⟩
  · have HN := hide hn
    clear hn
    go_wp2
    all_goals go_ret
    all_goals
      refine PartRes.of { x with n := n } ?_ HB1.out rfl (fun y hy => ?_) hbl
      · rw [HP.out, HN.out, Option.bind_some]
        by_cases q : (-1000000000 ≤ n ∧ n ≤ 1000000000)
        · rw [if_pos q]; first | rfl | (simp; omega)
        · rw [if_neg q]; first | rfl | (simp; omega) | (exfalso; omega)
      · rw [HP.out, HN.out, Option.bind_some] at hy
        split at hy
        · cases hy; rfl
        · cases hy
  · have HN := hide hn
    clear hn
    go_wp2
    go_ret
    exact PartRes.of { x with n := n } (by rw [HP.out, HN.out]; rfl) HB1.out rfl (fun y hy => by rw [HP.out, HN.out] at hy; cases hy) hbl

set_option maxHeartbeats 1000000 in
theorem parsePart_L (x : Ln) (t : List UInt8) (b : Nat) (w : World) (hb : w.heap[b]? = some (.cells (lnArr x) 122)) (ht : t.length ≤ 281474976710656) (hg : Glob w) :
    Calls Tryz.prog 199 #[.pointer (some ⟨b, 0, none⟩), .int .u8 76, .string ⟨t.toArray⟩] w fun e w' => PartRes x 76 t b w e w' := by
  have HB := hide hb
  have hlt := blk_lt hb
  clear hb
  have HP : Hid (partF x 76 t = (numF t).bind fun v => if 0 ≤ v then some { x with n := v } else none) := hide (by simp [partF])
  go_enter Tryz.func199, Tryz.ntmps199
  go_wp2_with fail
  refine (parseNumber_any _ _ ht hg).mono ?_
  rintro e w1 ⟨n, ok, rfl, hor, hbl⟩
  have hb1 : w1.heap[b]? = some (.cells (lnArr x) 122) := (hbl.block b hlt).trans HB.out
  obtain ⟨⟨c0, c1, c2, c3⟩, fz⟩ := lncells hb1
  have HB1 := hide hb1
  clear hb1
  rcases hor with ⟨hn, rfl⟩ | ⟨hn, rfl⟩
  · have HN := hide hn
    clear hn
    go_wp2
    all_goals go_ret
    all_goals
      refine PartRes.of { x with n := n } ?_ HB1.out rfl (fun y hy => ?_) hbl
      · rw [HP.out, HN.out, Option.bind_some]
        by_cases q : (0 ≤ n)
        · rw [if_pos q]; first | rfl | (simp; omega)
        · rw [if_neg q]; first | rfl | (simp; omega) | (exfalso; omega)
      · rw [HP.out, HN.out, Option.bind_some] at hy
        split at hy
        · cases hy; rfl
        · cases hy
  · have HN := hide hn
    clear hn
    go_wp2
    go_ret
    exact PartRes.of { x with n := n } (by rw [HP.out, HN.out]; rfl) HB1.out rfl (fun y hy => by rw [HP.out, HN.out] at hy; cases hy) hbl

/-- reader.parsePart, at each kind that a word of the table has. -/
theorem parsePart_any (x : Ln) (c : UInt8) (t : List UInt8) (b : Nat) (w : World) (hc : c = 82 ∨ c = 83 ∨ c = 110 ∨ c = 76) (hb : w.heap[b]? = some (.cells (lnArr x) 122)) (ht : t.length ≤ 281474976710656) (hg : Glob w) :
    Calls Tryz.prog 199 #[.pointer (some ⟨b, 0, none⟩), .int .u8 (c.toNat : Int), .string ⟨t.toArray⟩] w fun e w' => PartRes x c t b w e w' := by
  rcases hc with rfl | rfl | rfl | rfl
  · rw [show (((82 : UInt8).toNat : Nat) : Int) = 82 from rfl]; exact parsePart_R x t b w hb
  · rw [show (((83 : UInt8).toNat : Nat) : Int) = 83 from rfl]; exact parsePart_S x t b w hb
  · rw [show (((110 : UInt8).toNat : Nat) : Int) = 110 from rfl]; exact parsePart_n x t b w hb ht hg
  · rw [show (((76 : UInt8).toNat : Nat) : Int) = 76 from rfl]; exact parsePart_L x t b w hb ht hg

/-- strings.Split at one byte. -/
theorem Split_one (l : List UInt8) (c : UInt8) (w : World) (hs : l.length < 4294967281) (hg : Glob w) :
    Calls Tryz.prog 104 #[.string ⟨l.toArray⟩, .string ⟨#[c]⟩] w fun e w' =>
      e = .returned (.slice (some ⟨w.heap.size, 0, none⟩) (cutAt c l).length (cutAt c l).length) ∧ w' = w.alloc (.cells ((cutAt c l).map fun p => Value.string ⟨p.toArray⟩).toArray 9) := by
  obtain ⟨m, hm⟩ := hg.maxLen
  refine (Tryz.strings_Split ⟨l.toArray⟩ ⟨#[c]⟩ m w (by rw [Lib.size_eq]; simpa using hs) hm (Nat.le_refl _)).mono ?_
  rintro e w' ⟨rfl, rfl⟩
  have h1 : Lib.countB ⟨l.toArray⟩ ⟨#[c]⟩ + 1 = (cutAt c l).length := countB_one ⟨l.toArray⟩ c
  have h2 : Lib.splitB ⟨#[c]⟩ 0 (Lib.countB ⟨l.toArray⟩ ⟨#[c]⟩) ⟨l.toArray⟩ = (cutAt c l).map fun l => ⟨l.toArray⟩ := splitB_one c _ ⟨l.toArray⟩ (Nat.le_refl _)
  rw [h1, h2, List.map_map]
  exact ⟨rfl, rfl⟩

/-- The parts of a line, one behind the other. -/
def partsF : Ln → List UInt8 → List (List UInt8) → Option Ln
  | x, [], [] => some x
  | x, c :: cs, p :: ps => (partF x c p).bind fun y => partsF y cs ps
  | _, _, _ => none
/-- A line of a program. -/
def lineF (t : List UInt8) : Option Ln :=
  match cutAt 32 t with
  | [] => none
  | nm :: ps => (findF nm).bind fun row => if ps.length = (wParts row).length then partsF ⟨row, 0, 0, 0⟩ (wParts row) ps else none

theorem kinds_ok {row : Nat} (hr : row < 17) : ∀ c ∈ wParts row, c = 82 ∨ c = 83 ∨ c = 110 ∨ c = 76 := by
  match row, hr with
  | 0, _ => decide
  | 1, _ => decide
  | 2, _ => decide
  | 3, _ => decide
  | 4, _ => decide
  | 5, _ => decide
  | 6, _ => decide
  | 7, _ => decide
  | 8, _ => decide
  | 9, _ => decide
  | 10, _ => decide
  | 11, _ => decide
  | 12, _ => decide
  | 13, _ => decide
  | 14, _ => decide
  | 15, _ => decide
  | 16, _ => decide
  | n + 17, h => exact absurd h (by omega)
theorem parts_len {row : Nat} (hr : row < 17) : (wParts row).length ≤ 3 := by
  match row, hr with
  | 0, _ => decide
  | 1, _ => decide
  | 2, _ => decide
  | 3, _ => decide
  | 4, _ => decide
  | 5, _ => decide
  | 6, _ => decide
  | 7, _ => decide
  | 8, _ => decide
  | 9, _ => decide
  | 10, _ => decide
  | 11, _ => decide
  | 12, _ => decide
  | 13, _ => decide
  | 14, _ => decide
  | 15, _ => decide
  | 16, _ => decide
  | n + 17, h => exact absurd h (by omega)
theorem parts_pos {row : Nat} (hr : row < 17) : 1 ≤ (wParts row).length := by
  match row, hr with
  | 0, _ => decide
  | 1, _ => decide
  | 2, _ => decide
  | 3, _ => decide
  | 4, _ => decide
  | 5, _ => decide
  | 6, _ => decide
  | 7, _ => decide
  | 8, _ => decide
  | 9, _ => decide
  | 10, _ => decide
  | 11, _ => decide
  | 12, _ => decide
  | 13, _ => decide
  | 14, _ => decide
  | 15, _ => decide
  | 16, _ => decide
  | n + 17, h => exact absurd h (by omega)
theorem partsF_drop (x : Ln) (cs : List UInt8) (ps : List (List UInt8)) (k : Nat) (h1 : k < cs.length) (h2 : k < ps.length) :
    partsF x (cs.drop k) (ps.drop k) = (partF x cs[k] ps[k]).bind fun y => partsF y (cs.drop (k + 1)) (ps.drop (k + 1)) := by
  rw [List.drop_eq_getElem_cons h1, List.drop_eq_getElem_cons h2]
  rfl
theorem findF_lt {nm : List UInt8} {k : Nat} (h : findF nm = some k) : k < 17 := by
  have := List.mem_of_find?_eq_some h
  simpa using this

end Go.Proofs.YtngopilbpiplhaaGreatDoor
