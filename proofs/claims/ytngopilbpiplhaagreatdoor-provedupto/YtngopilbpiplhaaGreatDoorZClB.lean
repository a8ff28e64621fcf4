/-
  The contracts of Claim.With and claims.Start.
  A text cut at one byte: the library's pieces are those of a plain function on lists.
  The contract of reader.parsePart: the line's block is as the plain function says; nothing else that was there is changed.
  The contracts of plus, Less, NotLess and of the small closures.
  The contracts of claims.among at two sums, and of claims.Add.
  The machine's block, and the contracts of its small methods.
  The contracts of PutOut (and the table's closure that calls it), New, State.
-/
import Derived.Test.YtngopilbpiplhaaGreatDoorZBase
import Derived.Lib.SplitLaws
import Derived.Lib.Split
import Derived.Lib.CountLaws
import Derived.Lib.CutLaws
import Derived.Lib.IndexBytes
import Derived.Lib.IndexLaws
import Derived.Laws.ResultCell
import Derived.Laws.EntriesVeiled
namespace Go.Proofs.YtngopilbpiplhaaGreatDoor
open Go.RowKit
/-- The claim with a register in a span. -/
def Cl.with_ (c : Cl) (r : Nat) (a b : Int) : Cl := ⟨c.never, fun k => if k = r then true else c.has k, fun k => if k = r then a else c.lo k, fun k => if k = r then b else c.hi k⟩
theorem cl_with (c : Cl) (r : Nat) (h : r < 8) (a b : Int) : (((clCells c).setIfInBounds (1 + r) (.bool true)).setIfInBounds (9 + r * 2) (.int .i64 a)).setIfInBounds (9 + r * 2 + 1) (.int .i64 b) = clCells (c.with_ r a b) :=
  lt8' (p := fun r => (((clCells c).setIfInBounds (1 + r) (.bool true)).setIfInBounds (9 + r * 2) (.int .i64 a)).setIfInBounds (9 + r * 2 + 1) (.int .i64 b) = clCells (c.with_ r a b)) rfl rfl rfl rfl rfl rfl rfl rfl r h
theorem three_blocks (w : World) (A B C : Obj) : (((w.alloc A).alloc B).alloc C).drew.heap[w.heap.size]? = some A ∧ (((w.alloc A).alloc B).alloc C).drew.heap[w.heap.size + 1 + 1]? = some C ∧ Below w.heap.size w (((w.alloc A).alloc B).alloc C).drew := by
  refine ⟨blk_alloc (blk_alloc (blk_new w A) B) C, ?_, ((((Below.refl _ _).alloc (Nat.le_refl _) _).alloc (by simp) _).alloc (by simp; omega) _).drew⟩
  have := blk_new ((w.alloc A).alloc B) C
  rw [World.size_alloc, World.size_alloc] at this
  exact this
set_option maxHeartbeats 1000000 in
theorem With_any (c : Cl) (r : Nat) (hr : r < 8) (a b : Int) (w : World) :
    Calls Tryz.prog 132 #[.agg (clCells c), .int .i64 r, spC a b] w fun e w' => e = .returned (.agg (clCells (c.with_ r a b))) ∧ w' = (((w.alloc (.cells (clCells (c.with_ r a b)) 135)).alloc (.cells #[.int .i64 a, .int .i64 b] 132)).alloc (.cells (clCells (c.with_ r a b)) 135)).drew := by
  have hrI : (r : Int) < 8 := by omega
  have h0 := cl_has c r hr
  have h1 := cl_lo c r hr
  have h2 := cl_hi c r hr
  have g1 : ((clCells c).setIfInBounds (1 + r) (.bool true))[9 + r * 2]? = some (.int .i64 (c.lo r)) := by rw [Array.getElem?_setIfInBounds_ne (by omega)]; exact h1
  have g2 : (((clCells c).setIfInBounds (1 + r) (.bool true)).setIfInBounds (9 + r * 2) (.int .i64 a))[9 + r * 2 + 1]? = some (.int .i64 (c.hi r)) := by rw [Array.getElem?_setIfInBounds_ne (by omega), Array.getElem?_setIfInBounds_ne (by omega)]; exact h2
  go_enter Tryz.func132, Tryz.ntmps132
  go_wp2_with fail
  go_region
  rw [cl_with c r hr a b]
  clear h0 h1 h2 g1 g2
  have hA := (three_blocks w (.cells (clCells (c.with_ r a b)) 135) (.cells #[.int .i64 a, .int .i64 b] 132) (.cells (clCells clNone) 135)).1
  have hC := (three_blocks w (.cells (clCells (c.with_ r a b)) 135) (.cells #[.int .i64 a, .int .i64 b] 132) (.cells (clCells clNone) 135)).2.1
  go_wp2_with (first | (refine wpList_load_row rfl 135 (.tmp 3) rfl w.heap.size rfl _ _ _ _ hA Tryz.underlying135 rfl (by kernel_rfl) ?_) | (refine wpList_storeCl rfl (.tmp 6) (.tmp 14) rfl (w.heap.size + 1 + 1) (clCells (c.with_ r a b)) _ _ rfl rfl hC rfl rfl (cl_one _) ?_))
  intro w' hw
  have hw' := hw.out
  have hw2 : w' = (((w.alloc (.cells (clCells (c.with_ r a b)) 135)).alloc (.cells #[.int .i64 a, .int .i64 b] 132)).alloc (.cells (clCells (c.with_ r a b)) 135)).drew := by
    rw [hw']
    have := alloc_setRow ((w.alloc (.cells (clCells (c.with_ r a b)) 135)).alloc (.cells #[.int .i64 a, .int .i64 b] 132)) (clCells clNone) (clCells (c.with_ r a b)) 135
    rw [World.size_alloc, World.size_alloc] at this
    rw [← this]; rfl
  have hg := (three_blocks w (.cells (clCells (c.with_ r a b)) 135) (.cells #[.int .i64 a, .int .i64 b] 132) (.cells (clCells (c.with_ r a b)) 135)).2.1
  rw [← hw2] at hg
  go_wp2
  exact bodyPost_ret (results_cell_row rfl _ _ (w.heap.size + 1 + 1) 135 _ _ _ rfl hg Tryz.underlying135 rfl (by kernel_rfl)) rfl ⟨rfl, hw2⟩
end Go.Proofs.YtngopilbpiplhaaGreatDoor

namespace Go.Proofs.YtngopilbpiplhaaGreatDoor
/-- A list cut at a byte. -/
def cutAt (c : UInt8) : List UInt8 → List (List UInt8)
  | [] => [[]]
  | b :: l => if b = c then [] :: cutAt c l else
    match cutAt c l with
    | [] => [[b]]
    | p :: r => (b :: p) :: r
theorem cutAt_ne (c : UInt8) (l : List UInt8) : cutAt c l ≠ [] := by
  cases l with
  | nil => simp [cutAt]
  | cons b l =>
    unfold cutAt
    split
    · simp
    · split <;> simp
theorem cutAt_miss (c : UInt8) : ∀ l : List UInt8, c ∉ l → cutAt c l = [l]
  | [], _ => rfl
  | b :: l, h => by
    have h1 : b ≠ c := fun e => h (by simp [e])
    have h2 := cutAt_miss c l (fun e => h (by simp [e]))
    simp [cutAt, h1, h2]
theorem cutAt_hit (c : UInt8) : ∀ (p l : List UInt8), c ∉ p → cutAt c (p ++ c :: l) = p :: cutAt c l
  | [], l, _ => by simp [cutAt]
  | b :: p, l, h => by
    have h1 : b ≠ c := fun e => h (by simp [e])
    have h2 := cutAt_hit c p l (fun e => h (by simp [e]))
    simp [cutAt, h1, h2]
theorem not_mem_of_get {c : UInt8} {l : List UInt8} (h : ∀ k : Nat, l[k]? ≠ some c) : c ∉ l := fun hm => by
  obtain ⟨k, hk, e⟩ := List.getElem_of_mem hm
  exact h k (by rw [List.getElem?_eq_getElem hk, e])
theorem splitB_one (c : UInt8) : ∀ (n : Nat) (s : ByteArray), s.size ≤ n →
    Lib.splitB ⟨#[c]⟩ 0 (Lib.countB s ⟨#[c]⟩) s = (cutAt c s.data.toList).map fun l => ⟨l.toArray⟩ := by
  intro n
  induction n with
  | zero =>
    intro s hs
    have e : s.data.toList = [] := by
      have := Lib.size_eq s
      exact List.eq_nil_of_length_eq_zero (by omega)
    have hi : Lib.indexB s ⟨#[c]⟩ = -1 := by
      show Lib.index s.data.toList [c] = -1
      rw [e]; rfl
    rw [Lib.splitB_miss _ _ _ _ hi, e]
    simp only [cutAt, List.map_cons, List.map_nil]
    rw [← e]
  | succ n ih =>
    intro s hs
    have ho : Lib.indexB s ⟨#[c]⟩ = Lib.indexByte s.data.toList c := Lib.index_one s.data.toList c
    rcases Lib.indexB_cases s ⟨#[c]⟩ with hi | ⟨i, hi, hle⟩
    · rw [Lib.splitB_miss _ _ _ _ hi]
      have hm : c ∉ s.data.toList := not_mem_of_get (Lib.indexByte_none (by rw [← ho, hi]))
      rw [cutAt_miss c _ hm]
      simp
    · have h1 : (1 : Nat) ≤ (⟨#[c]⟩ : ByteArray).size := Nat.le_refl _
      have hz : (⟨#[c]⟩ : ByteArray).size = 1 := rfl
      rw [Lib.countB_hit s ⟨#[c]⟩ i h1 hi, Nat.add_comm, Lib.splitB_hit _ _ _ _ i hi]
      rw [hz] at hle
      rw [hz, ih _ (by rw [ByteArray.size_extract]; omega)]
      obtain ⟨hc, hno⟩ := Lib.indexByte_some (l := s.data.toList) (c := c) (o := i) (by rw [← ho, hi])
      have hlen := Lib.size_eq s
      have hil : i < s.data.toList.length := by omega
      have hsp : s.data.toList = s.data.toList.take i ++ c :: s.data.toList.drop (i + 1) := by
        have e : s.data.toList[i] = c := by rw [List.getElem?_eq_getElem hil] at hc; exact Option.some.inj hc
        conv => lhs; rw [← List.take_append_drop i s.data.toList, List.drop_eq_getElem_cons hil, e]
      have hm : c ∉ s.data.toList.take i := not_mem_of_get (fun k => by
        rw [List.getElem?_take]
        split
        · exact hno k (by assumption)
        · simp)
      have hx : (s.extract (i + 1) s.size).data.toList = s.data.toList.drop (i + 1) := by
        rw [ByteArray.data_extract, Array.toList_extract, List.extract_eq_take_drop]
        rw [List.take_of_length_le (by rw [List.length_drop]; omega)]
      have hcut : cutAt c s.data.toList = s.data.toList.take i :: cutAt c (s.data.toList.drop (i + 1)) := by
        conv => lhs; rw [hsp]
        exact cutAt_hit c _ _ hm
      rw [hcut, hx]
      simp only [List.map_cons]
      congr 1
      exact ByteArray.ext (by
        have h := Lib.extract_from_zero s (i + 0)
        rw [Nat.add_zero] at h ⊢
        show _ = (List.take i s.data.toList).toArray
        rw [← h])
theorem countB_one (s : ByteArray) (c : UInt8) : Lib.countB s ⟨#[c]⟩ + 1 = (cutAt c s.data.toList).length := by
  have h := splitB_one c s.size s (Nat.le_refl _)
  have h2 := Lib.splitB_all ⟨#[c]⟩ (Nat.le_refl _) 0 (Lib.countB s ⟨#[c]⟩) s rfl
  rw [h] at h2
  simpa using h2.symm
theorem cutAt_len (c : UInt8) : ∀ l : List UInt8, (cutAt c l).length ≤ l.length + 1
  | [] => by simp [cutAt]
  | b :: l => by
    have h := cutAt_len c l
    unfold cutAt
    split
    · simp; omega
    · split
      · simp
      · rename_i p r e
        rw [e] at h
        simp at h ⊢; omega
theorem cutAt_piece (c : UInt8) : ∀ l p : List UInt8, p ∈ cutAt c l → p.length ≤ l.length
  | [], p, h => by simp [cutAt] at h; simp [h]
  | b :: l, p, h => by
    have ih := cutAt_piece c l
    unfold cutAt at h
    split at h
    · rcases List.mem_cons.1 h with h | h
      · simp [h]
      · have := ih p h; simp; omega
    · split at h
      · simp at h; simp [h]
      · rename_i q r e
        rcases List.mem_cons.1 h with h | h
        · have := ih q (by rw [e]; simp); simp [h]; omega
        · have := ih p (by rw [e]; simp [h]); simp; omega
end Go.Proofs.YtngopilbpiplhaaGreatDoor

namespace Go.Proofs.YtngopilbpiplhaaGreatDoor
open Go.RowKit
def lnArr (x : Ln) : Array Value := #[.int .i64 x.word, .int .i64 x.r, .int .i64 x.s, .int .i64 x.n]
/-- What parsePart leaves. -/
def PartRes (x : Ln) (c : UInt8) (t : List UInt8) (b : Nat) (w : World) (e : Ending) (w' : World) : Prop :=
  ∃ x' : Ln, e = .returned (.bool (partF x c t).isSome) ∧ w'.heap[b]? = some (.cells (lnArr x') 122) ∧ (∀ y, partF x c t = some y → x' = y) ∧ Keep w.heap.size b w w'
theorem lncells {w : World} {b : Nat} {x : Ln} (hb : w.heap[b]? = some (.cells (lnArr x) 122)) :
    (w.cell? ⟨b, 0, none⟩ = some (.int .i64 x.word) ∧ w.cell? ⟨b, 1, none⟩ = some (.int .i64 x.r) ∧ w.cell? ⟨b, 2, none⟩ = some (.int .i64 x.s) ∧ w.cell? ⟨b, 3, none⟩ = some (.int .i64 x.n)) ∧ ∀ o, w.frozen? ⟨b, o, none⟩ = false :=
  ⟨⟨cell_of_blk hb 0, cell_of_blk hb 1, cell_of_blk hb 2, cell_of_blk hb 3⟩, frozen_of_blk hb⟩
theorem PartRes.of {x : Ln} (x' : Ln) {c : UInt8} {t : List UInt8} {b : Nat} {w w1 : World} {k : Bool} {v : Value} {o : Nat} (hk : k = (partF x c t).isSome) (hb : w1.heap[b]? = some (.cells (lnArr x) 122))
    (hs : (lnArr x).setIfInBounds o v = lnArr x') (hy : ∀ y, partF x c t = some y → x' = y) (hbl : Below w.heap.size w w1) : PartRes x c t b w (.returned (.bool k)) (w1.setCell ⟨b, o, none⟩ v) :=
  ⟨x', by rw [hk], by rw [← hs]; exact blk_setCell hb _ _, hy, (Keep.of_below hbl).setCell (p := ⟨b, o, none⟩) (.inr rfl) _⟩
set_option maxHeartbeats 1000000 in
theorem parsePart_R (x : Ln) (t : List UInt8) (b : Nat) (w : World) (hb : w.heap[b]? = some (.cells (lnArr x) 122)) :
    Calls Tryz.prog 199 #[.pointer (some ⟨b, 0, none⟩), .int .u8 82, .string ⟨t.toArray⟩] w fun e w' => PartRes x 82 t b w e w' := by
  obtain ⟨⟨c0, c1, c2, c3⟩, fz⟩ := lncells hb
  have HB := hide hb
  clear hb
  have HP : Hid (partF x 82 t = (regF t).map fun (r : Nat) => { x with r := (r : Int) }) := hide (by simp [partF])
  go_enter Tryz.func199, Tryz.ntmps199
  go_wp2_with fail
  refine (parseRegister_any _ _).mono ?_
  rintro e w' ⟨rfl, rfl⟩
  cases hr : regF t with
  | none =>
    have HR := hide hr
    clear hr
    rw [show resReg none = .tuple #[.int .i64 0, .bool false] from rfl]
    go_wp2
    go_ret
    exact PartRes.of { x with r := 0 } (by rw [HP.out, HR.out]; rfl) HB.out rfl (fun y hy => by rw [HP.out, HR.out] at hy; cases hy) (Below.refl _ _)
  | some r =>
    have HR := hide hr
    clear hr
    rw [show resReg (some r) = .tuple #[.int .i64 (r : Int), .bool true] from rfl]
    go_wp2
    go_ret
    exact PartRes.of { x with r := (r : Int) } (by rw [HP.out, HR.out]; rfl) HB.out rfl (fun y hy => by rw [HP.out, HR.out] at hy; cases hy; rfl) (Below.refl _ _)
set_option maxHeartbeats 1000000 in
theorem parsePart_S (x : Ln) (t : List UInt8) (b : Nat) (w : World) (hb : w.heap[b]? = some (.cells (lnArr x) 122)) :
    Calls Tryz.prog 199 #[.pointer (some ⟨b, 0, none⟩), .int .u8 83, .string ⟨t.toArray⟩] w fun e w' => PartRes x 83 t b w e w' := by
  obtain ⟨⟨c0, c1, c2, c3⟩, fz⟩ := lncells hb
  have HB := hide hb
  clear hb
  have HP : Hid (partF x 83 t = (regF t).map fun (r : Nat) => { x with s := (r : Int) }) := hide (by simp [partF])
  go_enter Tryz.func199, Tryz.ntmps199
  go_wp2_with fail
  refine (parseRegister_any _ _).mono ?_
  rintro e w' ⟨rfl, rfl⟩
  cases hr : regF t with
  | none =>
    have HR := hide hr
    clear hr
    rw [show resReg none = .tuple #[.int .i64 0, .bool false] from rfl]
    go_wp2
    go_ret
    exact PartRes.of { x with s := 0 } (by rw [HP.out, HR.out]; rfl) HB.out rfl (fun y hy => by rw [HP.out, HR.out] at hy; cases hy) (Below.refl _ _)
  | some r =>
    have HR := hide hr
    clear hr
    rw [show resReg (some r) = .tuple #[.int .i64 (r : Int), .bool true] from rfl]
    go_wp2
    go_ret
    exact PartRes.of { x with s := (r : Int) } (by rw [HP.out, HR.out]; rfl) HB.out rfl (fun y hy => by rw [HP.out, HR.out] at hy; cases hy; rfl) (Below.refl _ _)
set_option maxHeartbeats 1000000 in
theorem parsePart_n (x : Ln) (t : List UInt8) (b : Nat) (w : World) (hb : w.heap[b]? = some (.cells (lnArr x) 122)) (ht : t.length ≤ 281474976710656) (hg : Glob w) :
    Calls Tryz.prog 199 #[.pointer (some ⟨b, 0, none⟩), .int .u8 110, .string ⟨t.toArray⟩] w fun e w' => PartRes x 110 t b w e w' := by
  have HB := hide hb
  have hlt := blk_lt hb
  clear hb
  have HP : Hid (partF x 110 t = (numF t).bind fun v => if -1000000000 ≤ v ∧ v ≤ 1000000000 then some { x with n := v } else none) := hide (by simp [partF])
  go_enter Tryz.func199, Tryz.ntmps199
  go_wp2_with fail
  refine (parseNumber_any _ _ ht hg).mono ?_
  rintro e w1 ⟨n, ok, rfl, hor, hbl⟩
  have hb1 : w1.heap[b]? = some (.cells (lnArr x) 122) := (hbl.block b hlt).trans HB.out
  obtain ⟨⟨c0, c1, c2, c3⟩, fz⟩ := lncells hb1
  have HB1 := hide hb1
  clear hb1
  rcases hor with ⟨hn, rfl⟩ | ⟨hn, rfl⟩
  · have HN := hide hn
    clear hn
    go_wp2
    all_goals go_ret
    all_goals
      refine PartRes.of { x with n := n } ?_ HB1.out rfl (fun y hy => ?_) hbl
      · rw [HP.out, HN.out, Option.bind_some]
        by_cases q : (-1000000000 ≤ n ∧ n ≤ 1000000000)
        · rw [if_pos q]; first | rfl | (simp; omega)
        · rw [if_neg q]; first | rfl | (simp; omega) | (exfalso; omega)
      · rw [HP.out, HN.out, Option.bind_some] at hy
        split at hy
        · cases hy; rfl
        · cases hy
  · have HN := hide hn
    clear hn
    go_wp2
    go_ret
    exact PartRes.of { x with n := n } (by rw [HP.out, HN.out]; rfl) HB1.out rfl (fun y hy => by rw [HP.out, HN.out] at hy; cases hy) hbl
set_option maxHeartbeats 1000000 in
theorem parsePart_L (x : Ln) (t : List UInt8) (b : Nat) (w : World) (hb : w.heap[b]? = some (.cells (lnArr x) 122)) (ht : t.length ≤ 281474976710656) (hg : Glob w) :
    Calls Tryz.prog 199 #[.pointer (some ⟨b, 0, none⟩), .int .u8 76, .string ⟨t.toArray⟩] w fun e w' => PartRes x 76 t b w e w' := by
  have HB := hide hb
  have hlt := blk_lt hb
  clear hb
  have HP : Hid (partF x 76 t = (numF t).bind fun v => if 0 ≤ v then some { x with n := v } else none) := hide (by simp [partF])
  go_enter Tryz.func199, Tryz.ntmps199
  go_wp2_with fail
  refine (parseNumber_any _ _ ht hg).mono ?_
  rintro e w1 ⟨n, ok, rfl, hor, hbl⟩
  have hb1 : w1.heap[b]? = some (.cells (lnArr x) 122) := (hbl.block b hlt).trans HB.out
  obtain ⟨⟨c0, c1, c2, c3⟩, fz⟩ := lncells hb1
  have HB1 := hide hb1
  clear hb1
  rcases hor with ⟨hn, rfl⟩ | ⟨hn, rfl⟩
  · have HN := hide hn
    clear hn
    go_wp2
    all_goals go_ret
    all_goals
      refine PartRes.of { x with n := n } ?_ HB1.out rfl (fun y hy => ?_) hbl
      · rw [HP.out, HN.out, Option.bind_some]
        by_cases q : (0 ≤ n)
        · rw [if_pos q]; first | rfl | (simp; omega)
        · rw [if_neg q]; first | rfl | (simp; omega) | (exfalso; omega)
      · rw [HP.out, HN.out, Option.bind_some] at hy
        split at hy
        · cases hy; rfl
        · cases hy
  · have HN := hide hn
    clear hn
    go_wp2
    go_ret
    exact PartRes.of { x with n := n } (by rw [HP.out, HN.out]; rfl) HB1.out rfl (fun y hy => by rw [HP.out, HN.out] at hy; cases hy) hbl
/-- reader.parsePart, at each kind that a word of the table has. -/
theorem parsePart_any (x : Ln) (c : UInt8) (t : List UInt8) (b : Nat) (w : World) (hc : c = 82 ∨ c = 83 ∨ c = 110 ∨ c = 76) (hb : w.heap[b]? = some (.cells (lnArr x) 122)) (ht : t.length ≤ 281474976710656) (hg : Glob w) :
    Calls Tryz.prog 199 #[.pointer (some ⟨b, 0, none⟩), .int .u8 (c.toNat : Int), .string ⟨t.toArray⟩] w fun e w' => PartRes x c t b w e w' := by
  rcases hc with rfl | rfl | rfl | rfl
  · rw [show (((82 : UInt8).toNat : Nat) : Int) = 82 from rfl]; exact parsePart_R x t b w hb
  · rw [show (((83 : UInt8).toNat : Nat) : Int) = 83 from rfl]; exact parsePart_S x t b w hb
  · rw [show (((110 : UInt8).toNat : Nat) : Int) = 110 from rfl]; exact parsePart_n x t b w hb ht hg
  · rw [show (((76 : UInt8).toNat : Nat) : Int) = 76 from rfl]; exact parsePart_L x t b w hb ht hg
/-- strings.Split at one byte. -/
theorem Split_one (l : List UInt8) (c : UInt8) (w : World) (hs : l.length < 4294967281) (hg : Glob w) :
    Calls Tryz.prog 104 #[.string ⟨l.toArray⟩, .string ⟨#[c]⟩] w fun e w' =>
      e = .returned (.slice (some ⟨w.heap.size, 0, none⟩) (cutAt c l).length (cutAt c l).length) ∧ w' = w.alloc (.cells ((cutAt c l).map fun p => Value.string ⟨p.toArray⟩).toArray 9) := by
  obtain ⟨m, hm⟩ := hg.maxLen
  refine (Tryz.strings_Split ⟨l.toArray⟩ ⟨#[c]⟩ m w (by rw [Lib.size_eq]; simpa using hs) hm (Nat.le_refl _)).mono ?_
  rintro e w' ⟨rfl, rfl⟩
  have h1 : Lib.countB ⟨l.toArray⟩ ⟨#[c]⟩ + 1 = (cutAt c l).length := countB_one ⟨l.toArray⟩ c
  have h2 : Lib.splitB ⟨#[c]⟩ 0 (Lib.countB ⟨l.toArray⟩ ⟨#[c]⟩) ⟨l.toArray⟩ = (cutAt c l).map fun l => ⟨l.toArray⟩ := splitB_one c _ ⟨l.toArray⟩ (Nat.le_refl _)
  rw [h1, h2, List.map_map]
  exact ⟨rfl, rfl⟩
/-- The parts of a line, one behind the other. -/
def partsF : Ln → List UInt8 → List (List UInt8) → Option Ln
  | x, [], [] => some x
  | x, c :: cs, p :: ps => (partF x c p).bind fun y => partsF y cs ps
  | _, _, _ => none
/-- A line of a program. -/
def lineF (t : List UInt8) : Option Ln :=
  match cutAt 32 t with
  | [] => none
  | nm :: ps => (findF nm).bind fun row => if ps.length = (wParts row).length then partsF ⟨row, 0, 0, 0⟩ (wParts row) ps else none
theorem kinds_ok {row : Nat} (hr : row < 17) : ∀ c ∈ wParts row, c = 82 ∨ c = 83 ∨ c = 110 ∨ c = 76 := by
  match row, hr with
  | 0, _ => decide
  | 1, _ => decide
  | 2, _ => decide
  | 3, _ => decide
  | 4, _ => decide
  | 5, _ => decide
  | 6, _ => decide
  | 7, _ => decide
  | 8, _ => decide
  | 9, _ => decide
  | 10, _ => decide
  | 11, _ => decide
  | 12, _ => decide
  | 13, _ => decide
  | 14, _ => decide
  | 15, _ => decide
  | 16, _ => decide
  | n + 17, h => exact absurd h (by omega)
theorem parts_len {row : Nat} (hr : row < 17) : (wParts row).length ≤ 3 := by
  match row, hr with
  | 0, _ => decide
  | 1, _ => decide
  | 2, _ => decide
  | 3, _ => decide
  | 4, _ => decide
  | 5, _ => decide
  | 6, _ => decide
  | 7, _ => decide
  | 8, _ => decide
  | 9, _ => decide
  | 10, _ => decide
  | 11, _ => decide
  | 12, _ => decide
  | 13, _ => decide
  | 14, _ => decide
  | 15, _ => decide
  | 16, _ => decide
  | n + 17, h => exact absurd h (by omega)
theorem parts_pos {row : Nat} (hr : row < 17) : 1 ≤ (wParts row).length := by
  match row, hr with
  | 0, _ => decide
  | 1, _ => decide
  | 2, _ => decide
  | 3, _ => decide
  | 4, _ => decide
  | 5, _ => decide
  | 6, _ => decide
  | 7, _ => decide
  | 8, _ => decide
  | 9, _ => decide
  | 10, _ => decide
  | 11, _ => decide
  | 12, _ => decide
  | 13, _ => decide
  | 14, _ => decide
  | 15, _ => decide
  | 16, _ => decide
  | n + 17, h => exact absurd h (by omega)
theorem partsF_drop (x : Ln) (cs : List UInt8) (ps : List (List UInt8)) (k : Nat) (h1 : k < cs.length) (h2 : k < ps.length) :
    partsF x (cs.drop k) (ps.drop k) = (partF x cs[k] ps[k]).bind fun y => partsF y (cs.drop (k + 1)) (ps.drop (k + 1)) := by
  rw [List.drop_eq_getElem_cons h1, List.drop_eq_getElem_cons h2]
  rfl
theorem findF_lt {nm : List UInt8} {k : Nat} (h : findF nm = some k) : k < 17 := by
  have := List.mem_of_find?_eq_some h
  simpa using this
end Go.Proofs.YtngopilbpiplhaaGreatDoor

namespace Go.Proofs.YtngopilbpiplhaaGreatDoor
open Go.RowKit
/-- A sum, and whether it is a number of 64 bits. -/
def plusF (x y : Int) : Int × Bool := (wrap64 (x + y), decide (wrap64 (x + y) < x) == decide (y < 0))
set_option maxHeartbeats 400000 in
theorem plus_any (x y : Int) (w : World) : Calls Tryz.prog 138 #[.int .i64 x, .int .i64 y] w fun e w' => e = .returned (.tuple #[.int .i64 (plusF x y).1, .bool (plusF x y).2]) ∧ w' = w := by
  go_enter Tryz.func138, Tryz.ntmps138
  go_wp2
  go_ret2
  exact ⟨rfl, rfl⟩
abbrev clB (c : Cl) : Obj := .cells (clCells c) 135
abbrev lnB (x : Ln) : Obj := .cells #[.int .i64 x.word, .int .i64 x.r, .int .i64 x.s, .int .i64 x.n] 122
abbrev spB (a b : Int) : Obj := .cells #[.int .i64 a, .int .i64 b] 132
theorem blk2 (w : World) (A B C : Obj) : (((w.alloc A).alloc B).alloc C).heap[w.heap.size + 1 + 1]? = some C := by
  have := blk_new ((w.alloc A).alloc B) C
  rw [World.size_alloc, World.size_alloc] at this
  exact this
set_option maxHeartbeats 400000 in
theorem rows2_any (c : Cl) (x : Ln) (w : World) : Calls Tryz.prog 56 #[.agg (clCells c), .agg (lnArr x)] w fun e w' => e = .returned (spC x.n x.n) ∧ w' = (((w.alloc (clB c)).alloc (lnB x)).alloc (spB x.n x.n)).alloc (spB x.n x.n) := by
  unfold lnArr
  go_enter Tryz.func56, Tryz.ntmps56
  go_wp2_with (go_at_call 57; refine (One_any _ _).mono ?_; rintro e w2 ⟨rfl, rfl⟩)
  exact bodyPost_ret (results_cell_row rfl _ _ (w.heap.size + 1 + 1) 132 _ _ _ rfl (blk_alloc (blk2 w _ _ _) _) Tryz.underlying132 rfl (by kernel_rfl)) rfl ⟨rfl, rfl⟩
set_option maxHeartbeats 400000 in
theorem nothingC_any (c : Cl) (x : Ln) (w : World) : Calls Tryz.prog 130 #[.agg (clCells c), .agg (lnArr x)] w fun e w' => e = .returned (.bool true) ∧ w' = (w.alloc (clB c)).alloc (lnB x) := by
  unfold lnArr
  go_enter Tryz.func130, Tryz.ntmps130
  go_wp2
  go_ret
  exact ⟨rfl, rfl⟩
set_option maxHeartbeats 400000 in
theorem fetchesC_any (c : Cl) (x : Ln) (cb : Nat) (a b : Int) (w : World) (hc : w.heap[cb]? = some (spB a b)) : Calls Tryz.prog 147 #[.agg (clCells c), .agg (lnArr x), .pointer (some ⟨cb, 0, none⟩)] w fun e w' => e = .returned (spC a b) ∧ w' = ((w.alloc (clB c)).alloc (lnB x)).alloc (spB a b) := by
  unfold lnArr
  have c0 : ∀ A B C : Obj, (((w.alloc A).alloc B).alloc C).cell? ⟨cb, 0, none⟩ = some (.int .i64 a) := fun A B C => cell_of_blk (blk_alloc (blk_alloc (blk_alloc hc A) B) C) 0
  have c1 : ∀ A B C : Obj, (((w.alloc A).alloc B).alloc C).cell? ⟨cb, 1, none⟩ = some (.int .i64 b) := fun A B C => cell_of_blk (blk_alloc (blk_alloc (blk_alloc hc A) B) C) 1
  clear hc
  go_enter Tryz.func147, Tryz.ntmps147
  go_wp2
  exact bodyPost_ret (results_cell_row rfl _ _ (w.heap.size + 1 + 1) 132 _ _ _ rfl (blk2 w _ _ _) Tryz.underlying132 rfl (by kernel_rfl)) rfl ⟨rfl, rfl⟩
theorem alloc2_setRow (w : World) (A B : Obj) (old cs : Array Value) (t : TypeId) : (((w.alloc A).alloc B).alloc (.cells old t)).setRow (w.heap.size + 1 + 1) cs = ((w.alloc A).alloc B).alloc (.cells cs t) := by
  have := alloc_setRow ((w.alloc A).alloc B) old cs t
  rw [World.size_alloc, World.size_alloc] at this
  exact this
set_option maxHeartbeats 400000 in
theorem sameC_any (c : Cl) (x : Ln) (w : World) : Calls Tryz.prog 150 #[.agg (clCells c), .agg (lnArr x)] w fun e w' => e = .returned (.agg (clCells c)) ∧ w' = ((w.alloc (clB c)).alloc (lnB x)).alloc (clB c) := by
  unfold lnArr
  have hA : (((w.alloc (clB c)).alloc (lnB x)).alloc (clB clNone)).heap[w.heap.size]? = some (clB c) := blk_alloc (blk_alloc (blk_new w _) _) _
  have hC : (((w.alloc (clB c)).alloc (lnB x)).alloc (clB clNone)).heap[w.heap.size + 1 + 1]? = some (clB clNone) := blk2 w _ _ _
  go_enter Tryz.func150, Tryz.ntmps150
  go_wp2_with (first | (refine wpList_load_row rfl 135 (.tmp 2) rfl w.heap.size rfl _ _ _ _ hA Tryz.underlying135 rfl (by kernel_rfl) ?_) | (refine wpList_storeCl rfl (.tmp 4) (.tmp 5) rfl (w.heap.size + 1 + 1) (clCells c) _ _ rfl rfl hC rfl rfl (cl_one _) ?_))
  intro w' hw
  obtain rfl : w' = ((w.alloc (clB c)).alloc (lnB x)).alloc (clB c) := hw.out.trans (alloc2_setRow w _ _ _ _ _)
  go_wp2
  exact bodyPost_ret (results_cell_row rfl _ _ (w.heap.size + 1 + 1) 135 _ _ _ rfl (blk2 w _ _ _) Tryz.underlying135 rfl (by kernel_rfl)) rfl ⟨rfl, rfl⟩
set_option maxHeartbeats 400000 in
theorem nowhereC_any (c : Cl) (x : Ln) (w : World) : Calls Tryz.prog 133 #[.agg (clCells c), .agg (lnArr x)] w fun e w' => e = .returned (.agg (clCells clNever)) ∧ Below w.heap.size w w' := by
  unfold lnArr
  have hC : (((w.alloc (clB c)).alloc (lnB x)).alloc (clB clNone)).heap[w.heap.size + 1 + 1]? = some (clB clNone) := blk2 w _ _ _
  go_enter Tryz.func133, Tryz.ntmps133
  go_wp2_with (first | (go_at_call 134; refine (Never_any _).mono ?_; rintro e w2 ⟨rfl, rfl⟩) | (refine wpList_storeCl rfl (.tmp 4) (.tmp 5) rfl (w.heap.size + 1 + 1) (clCells clNever) _ _ rfl rfl (blk_alloc hC _) rfl rfl (cl_one _) ?_))
  intro w' hw
  have hb : Below w.heap.size w w' := by
    rw [hw.out]
    exact (((((Below.refl _ _).alloc (Nat.le_refl _) _).alloc (by simp) _).alloc (by simp; omega) _).alloc (by simp; omega) _).trans ((keep_setRow' w.heap.size _ _ _).below (by omega))
  have hg : w'.heap[w.heap.size + 1 + 1]? = some (clB clNever) := by rw [hw.out]; exact setRow_heap _ _ _ _ _ _ (blk_alloc hC _)
  go_wp2
  exact bodyPost_ret (results_cell_row rfl _ _ (w.heap.size + 1 + 1) 135 _ _ _ rfl hg Tryz.underlying135 rfl (by kernel_rfl)) rfl ⟨rfl, hb⟩
end Go.Proofs.YtngopilbpiplhaaGreatDoor

namespace Go.Proofs.YtngopilbpiplhaaGreatDoor
open Go.RowKit
/-- From the least to the greatest of two sums; all, if one of them is no number of 64 bits. -/
def amLo (a b c d : Int) : Nat → Int
  | 0 => 9223372036854775807
  | 1 => min 9223372036854775807 (plusF a c).1
  | _ => min (min 9223372036854775807 (plusF a c).1) (plusF b d).1
def amHi (a b c d : Int) : Nat → Int
  | 0 => -9223372036854775808
  | 1 => max (-9223372036854775808) (plusF a c).1
  | _ => max (max (-9223372036854775808) (plusF a c).1) (plusF b d).1
def addLo (a b c d : Int) : Int := if (plusF a c).2 && (plusF b d).2 then amLo a b c d 2 else -9223372036854775808
def addHi (a b c d : Int) : Int := if (plusF a c).2 && (plusF b d).2 then amHi a b c d 2 else 9223372036854775807
set_option maxRecDepth 100000 in
set_option maxHeartbeats 2000000 in
theorem among_any (a b c d : Int) (g : Nat) (w : World) (hg : w.heap[g]? = some (.cells #[.int .i64 a, .int .i64 c, .int .i64 b, .int .i64 d] 215)) :
    Calls Tryz.prog 137 #[.func (.func 138) #[] #[], .slice (some ⟨g, 0, none⟩) 2 2] w fun e w' => e = .returned (spC (addLo a b c d) (addHi a b c d)) ∧ Below w.heap.size w w' := by
  have HG := hide hg
  have hlt := blk_lt hg
  clear hg
  go_enter Tryz.func137, Tryz.ntmps137
  go_wp2_with fail
  have hb0 : Below w.heap.size w ((w.alloc (spB 0 0)).alloc (spB 9223372036854775807 (-9223372036854775808))) := ((Below.refl _ _).alloc (Nat.le_refl _) _).alloc (by simp) _
  have h0 : ((w.alloc (spB 0 0)).alloc (spB 9223372036854775807 (-9223372036854775808))).heap[w.heap.size]? = some (spB 0 0) := blk_alloc (blk_new w _) _
  have h1 : ((w.alloc (spB 0 0)).alloc (spB 9223372036854775807 (-9223372036854775808))).heap[w.heap.size + 1]? = some (spB 9223372036854775807 (-9223372036854775808)) := heap_alloc2_new w _ _
  go_loopw [13] (fun iv w' => ∃ i : Nat, i ≤ 2 ∧ iv = .int .i64 i ∧ (1 ≤ i → (plusF a c).2 = true) ∧ (2 ≤ i → (plusF b d).2 = true) ∧ w'.heap[w.heap.size]? = some (spB 0 0) ∧ w'.heap[w.heap.size + 1]? = some (spB (amLo a b c d i) (amHi a b c d i)) ∧ Below w.heap.size w w') (fun iv _ => 2 - (intOf iv).toNat)
  case atStart => exact ⟨0, by omega, rfl, fun h => absurd h (by omega), fun h => absurd h (by omega), h0, h1, hb0⟩
  case round =>
    clear hb0 h0 h1
    obtain ⟨i, hi, rfl, hf0, hf1, hR, hO, hb⟩ := hrel
    have hw := (hb.block _ hlt).trans HG.out
    have HR := hide hR
    have HO := hide hO
    have hsz := blk_lt hO
    match i, hi with
    | 0, _ =>
      have p0 : wr.cell? ⟨g, 0, none⟩ = some (.int .i64 a) := cell_of_blk hw 0
      have p1 : wr.cell? ⟨g, 1, none⟩ = some (.int .i64 c) := cell_of_blk hw 1
      clear hR hO
      have HF0 := hide hf0
      have HF1 := hide hf1
      clear hf0 hf1
      go_wp2_with fail
      refine (plus_any a c _).mono ?_
      rintro e w2 ⟨rfl, rfl⟩
      clear p0 p1
      have hb3 : Below wr.heap.size wr (wr.alloc (.cells #[.int .i64 a, .int .i64 c] 215)) := (Below.refl _ _).alloc (Nat.le_refl _) _
      generalize wr.alloc (.cells #[.int .i64 a, .int .i64 c] 215) = W3 at *
      have HR3 := hide ((hb3.block _ (by omega)).trans HR.out)
      have HO3 := hide ((hb3.block _ (by omega)).trans HO.out)
      have hbW : Below w.heap.size w W3 := hb.trans (hb3.mono (by omega))
      clear hb3 HR HO hw
      cases hf : (plusF a c).2 with
      | true =>
        have o0 : W3.cell? ⟨w.heap.size + 1, 0, none⟩ = some (.int .i64 (amLo a b c d 0)) := cell_of_blk HO3.out 0
        have o1 : W3.cell? ⟨w.heap.size + 1, 1, none⟩ = some (.int .i64 (amHi a b c d 0)) := cell_of_blk HO3.out 1
        have fr := frozen_of_blk HO3.out
        go_wp2
        go_roundw
        case rel =>
          refine ⟨1, by omega, by go_num, fun _ => hf, fun h => absurd h (by omega), ?_, ?_, ?_⟩
          · rw [Below.heap_setCell _ _ _ _ (by show w.heap.size ≠ w.heap.size + 1; omega), Below.heap_setCell _ _ _ _ (by show w.heap.size ≠ w.heap.size + 1; omega)]; exact HR3.out
          · exact blk_setCell (blk_setCell HO3.out 0 _) 1 _
          · exact (hbW.setCell (p := ⟨w.heap.size + 1, _, none⟩) (by show w.heap.size ≤ w.heap.size + 1; omega) _).setCell (p := ⟨w.heap.size + 1, _, none⟩) (by show w.heap.size ≤ w.heap.size + 1; omega) _
        case measure => simp [intOf]
      | false =>
        have o0 : W3.cell? ⟨w.heap.size, 0, none⟩ = some (.int .i64 0) := cell_of_blk HR3.out 0
        have o1 : W3.cell? ⟨w.heap.size, 1, none⟩ = some (.int .i64 0) := cell_of_blk HR3.out 1
        have fr := frozen_of_blk HR3.out
        have hltR := blk_lt HR3.out
        go_wp2_with (go_at_call 81; refine (clAll_any _).mono ?_; rintro e w4 ⟨rfl, rfl⟩)
        have e1 : addLo a b c d = -9223372036854775808 := by simp [addLo, hf]
        have e2 : addHi a b c d = 9223372036854775807 := by simp [addHi, hf]
        exact bodyPost_ret (results_cell_row rfl _ _ w.heap.size 132 _ _ _ rfl (blk_alloc (blk_setCell (blk_setCell HR3.out 0 _) 1 _) _) Tryz.underlying132 rfl (by kernel_rfl)) rfl
          ⟨by rw [e1, e2]; rfl, ((hbW.setCell (p := ⟨w.heap.size, _, none⟩) (Nat.le_refl _) _).setCell (p := ⟨w.heap.size, _, none⟩) (Nat.le_refl _) _).alloc (by simp; omega) _⟩
    | 1, _ =>
      have p0 : wr.cell? ⟨g, 2, none⟩ = some (.int .i64 b) := cell_of_blk hw 2
      have p1 : wr.cell? ⟨g, 3, none⟩ = some (.int .i64 d) := cell_of_blk hw 3
      clear hR hO
      have HF0 := hide hf0
      have HF1 := hide hf1
      clear hf0 hf1
      go_wp2_with fail
      refine (plus_any b d _).mono ?_
      rintro e w2 ⟨rfl, rfl⟩
      clear p0 p1
      have hb3 : Below wr.heap.size wr (wr.alloc (.cells #[.int .i64 b, .int .i64 d] 215)) := (Below.refl _ _).alloc (Nat.le_refl _) _
      generalize wr.alloc (.cells #[.int .i64 b, .int .i64 d] 215) = W3 at *
      have HR3 := hide ((hb3.block _ (by omega)).trans HR.out)
      have HO3 := hide ((hb3.block _ (by omega)).trans HO.out)
      have hbW : Below w.heap.size w W3 := hb.trans (hb3.mono (by omega))
      clear hb3 HR HO hw
      cases hf : (plusF b d).2 with
      | true =>
        have o0 : W3.cell? ⟨w.heap.size + 1, 0, none⟩ = some (.int .i64 (amLo a b c d 1)) := cell_of_blk HO3.out 0
        have o1 : W3.cell? ⟨w.heap.size + 1, 1, none⟩ = some (.int .i64 (amHi a b c d 1)) := cell_of_blk HO3.out 1
        have fr := frozen_of_blk HO3.out
        go_wp2
        go_roundw
        case rel =>
          refine ⟨2, by omega, by go_num, fun _ => HF0.out (by omega), fun _ => hf, ?_, ?_, ?_⟩
          · rw [Below.heap_setCell _ _ _ _ (by show w.heap.size ≠ w.heap.size + 1; omega), Below.heap_setCell _ _ _ _ (by show w.heap.size ≠ w.heap.size + 1; omega)]; exact HR3.out
          · exact blk_setCell (blk_setCell HO3.out 0 _) 1 _
          · exact (hbW.setCell (p := ⟨w.heap.size + 1, _, none⟩) (by show w.heap.size ≤ w.heap.size + 1; omega) _).setCell (p := ⟨w.heap.size + 1, _, none⟩) (by show w.heap.size ≤ w.heap.size + 1; omega) _
        case measure => simp [intOf]
      | false =>
        have o0 : W3.cell? ⟨w.heap.size, 0, none⟩ = some (.int .i64 0) := cell_of_blk HR3.out 0
        have o1 : W3.cell? ⟨w.heap.size, 1, none⟩ = some (.int .i64 0) := cell_of_blk HR3.out 1
        have fr := frozen_of_blk HR3.out
        have hltR := blk_lt HR3.out
        go_wp2_with (go_at_call 81; refine (clAll_any _).mono ?_; rintro e w4 ⟨rfl, rfl⟩)
        have e1 : addLo a b c d = -9223372036854775808 := by simp [addLo, hf]
        have e2 : addHi a b c d = 9223372036854775807 := by simp [addHi, hf]
        exact bodyPost_ret (results_cell_row rfl _ _ w.heap.size 132 _ _ _ rfl (blk_alloc (blk_setCell (blk_setCell HR3.out 0 _) 1 _) _) Tryz.underlying132 rfl (by kernel_rfl)) rfl
          ⟨by rw [e1, e2]; rfl, ((hbW.setCell (p := ⟨w.heap.size, _, none⟩) (Nat.le_refl _) _).setCell (p := ⟨w.heap.size, _, none⟩) (Nat.le_refl _) _).alloc (by simp; omega) _⟩
    | 2, _ =>
      have o0 : wr.cell? ⟨w.heap.size + 1, 0, none⟩ = some (.int .i64 (amLo a b c d 2)) := cell_of_blk HO.out 0
      have o1 : wr.cell? ⟨w.heap.size + 1, 1, none⟩ = some (.int .i64 (amHi a b c d 2)) := cell_of_blk HO.out 1
      have r0 : wr.cell? ⟨w.heap.size, 0, none⟩ = some (.int .i64 0) := cell_of_blk HR.out 0
      have r1 : wr.cell? ⟨w.heap.size, 1, none⟩ = some (.int .i64 0) := cell_of_blk HR.out 1
      have fr := frozen_of_blk HR.out
      have e1 : addLo a b c d = amLo a b c d 2 := by simp [addLo, hf0 (by omega), hf1 (by omega)]
      have e2 : addHi a b c d = amHi a b c d 2 := by simp [addHi, hf0 (by omega), hf1 (by omega)]
      have HE1 := hide e1
      have HE2 := hide e2
      clear e1 e2 hR hO hw hf0 hf1
      go_wp2
      exact bodyPost_ret (results_cell_row rfl _ _ w.heap.size 132 _ _ _ rfl (blk_setCell (blk_setCell HR.out 0 _) 1 _) Tryz.underlying132 rfl (by kernel_rfl)) rfl
          ⟨by rw [HE1.out, HE2.out]; rfl, (hb.setCell (p := ⟨w.heap.size, _, none⟩) (Nat.le_refl _) _).setCell (p := ⟨w.heap.size, _, none⟩) (Nat.le_refl _) _⟩
    | k + 3, h => exact absurd h (by omega)
set_option maxRecDepth 100000 in
set_option maxHeartbeats 2000000 in
theorem Add_any (a b c d : Int) (w : World) : Calls Tryz.prog 66 #[spC a b, spC c d] w fun e w' => e = .returned (spC (addLo a b c d) (addHi a b c d)) ∧ Below w.heap.size w w' := by
  go_enter Tryz.func66, Tryz.ntmps66
  go_wp2_with fail
  have h3 : ((((w.alloc (spB a b)).alloc (spB c d)).alloc (spB 0 0)).alloc (.cells #[.int .i64 a, .int .i64 c, .int .i64 b, .int .i64 d] 215)).heap[w.heap.size + 1 + 1 + 1]? = some (.cells #[.int .i64 a, .int .i64 c, .int .i64 b, .int .i64 d] 215) := by
    have := blk_new (((w.alloc (spB a b)).alloc (spB c d)).alloc (spB 0 0)) (.cells #[.int .i64 a, .int .i64 c, .int .i64 b, .int .i64 d] 215)
    rw [World.size_alloc, World.size_alloc, World.size_alloc] at this
    exact this
  have h2 : ((((w.alloc (spB a b)).alloc (spB c d)).alloc (spB 0 0)).alloc (.cells #[.int .i64 a, .int .i64 c, .int .i64 b, .int .i64 d] 215)).heap[w.heap.size + 1 + 1]? = some (spB 0 0) := blk_alloc (blk2 w _ _ _) _
  have hb : Below w.heap.size w ((((w.alloc (spB a b)).alloc (spB c d)).alloc (spB 0 0)).alloc (.cells #[.int .i64 a, .int .i64 c, .int .i64 b, .int .i64 d] 215)) := ((((Below.refl _ _).alloc (Nat.le_refl _) _).alloc (by simp) _).alloc (by simp; omega) _).alloc (by simp; omega) _
  refine (among_any a b c d _ _ h3).mono ?_
  generalize (((w.alloc (spB a b)).alloc (spB c d)).alloc (spB 0 0)).alloc (.cells #[.int .i64 a, .int .i64 c, .int .i64 b, .int .i64 d] 215) = W at *
  rintro e w2 ⟨rfl, hb2⟩
  have HR := hide ((hb2.block _ (blk_lt h2)).trans h2)
  have hbw : Below w.heap.size w w2 := hb.trans (hb2.mono hb.size)
  clear h2 h3 hb hb2
  have r0 : w2.cell? ⟨w.heap.size + 1 + 1, 0, none⟩ = some (.int .i64 0) := cell_of_blk HR.out 0
  have r1 : w2.cell? ⟨w.heap.size + 1 + 1, 1, none⟩ = some (.int .i64 0) := cell_of_blk HR.out 1
  have fr := frozen_of_blk HR.out
  go_wp2
  exact bodyPost_ret (results_cell_row rfl _ _ (w.heap.size + 1 + 1) 132 _ _ _ rfl (blk_setCell (blk_setCell HR.out 0 _) 1 _) Tryz.underlying132 rfl (by kernel_rfl)) rfl
    ⟨rfl, (hbw.setCell (p := ⟨w.heap.size + 1 + 1, _, none⟩) (by show w.heap.size ≤ w.heap.size + 1 + 1; omega) _).setCell (p := ⟨w.heap.size + 1 + 1, _, none⟩) (by show w.heap.size ≤ w.heap.size + 1 + 1; omega) _⟩
end Go.Proofs.YtngopilbpiplhaaGreatDoor

namespace Go.Proofs.YtngopilbpiplhaaGreatDoor
open Go.RowKit
theorem Keep.setb (B b : Nat) {a w : World} (h : Keep B b a w) (o : Nat) (v : Value) : Keep B b a (w.setCell ⟨b, o, none⟩ v) := h.setCell (p := ⟨b, o, none⟩) (.inr rfl) v
end Go.Proofs.YtngopilbpiplhaaGreatDoor

namespace Go.Proofs.YtngopilbpiplhaaGreatDoor
open Go.RowKit
/-- The library's table of powers of ten is as its text lays it. -/
def PowT (w : World) : Prop := Lib.TabIs Tryz.prog w "internal/strconv.uint64pow10" .u64 Lib.pow10Tab
theorem gPow : Tryz.prog.globalNamed "internal/strconv.uint64pow10" = some 1 := by kernel_rfl
theorem PowT.mono {w w' : World} (h : PowT w) (hb : w'.heap[(1 : Nat)]? = w.heap[(1 : Nat)]?) : PowT w' := by
  unfold PowT Lib.TabIs World.var? at h ⊢
  rw [gPow] at h ⊢
  simp only [Option.bind_some] at h ⊢
  rw [hb]; exact h
theorem PowT.below {B : Nat} {w : World} (h : PowT w) (hB : 8 ≤ B) : Lib.TabBelow Tryz.prog B w "internal/strconv.uint64pow10" .u64 Lib.pow10Tab := fun _ hb => h.mono (hb.block _ (by omega))
theorem PowT.keep {B b : Nat} {w w' : World} (h : PowT w) (hk : Keep B b w w') (hB : 8 ≤ B) (hb : 8 ≤ b) : PowT w' := h.mono (hk.block _ (by omega) (by omega))
end Go.Proofs.YtngopilbpiplhaaGreatDoor
