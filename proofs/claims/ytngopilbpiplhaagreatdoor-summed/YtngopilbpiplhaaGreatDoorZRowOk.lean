/-
  Each row's act: what its closure does is what the plain function says.
-/
import Derived.Test.YtngopilbpiplhaaGreatDoorZOut
import Derived.Test.YtngopilbpiplhaaGreatDoorZActA
import Derived.Test.YtngopilbpiplhaaGreatDoorZActC
import Derived.Test.YtngopilbpiplhaaGreatDoorZActD
namespace Go.Proofs.YtngopilbpiplhaaGreatDoor
open Go.RowKit

/-- A number behind those that were put out. -/
def putF (l : List UInt8) (n : Int) : List UInt8 := if l = [] then Lib.itoa n else l ++ [32] ++ Lib.itoa n

/-- What a word does to the machine: why it goes wrong (else 0), the machine behind it, what was put out. -/
def doF (row r s : Nat) (n : Int) (m : MS) (l : List UInt8) : Int × MS × List UInt8 :=
  match row with
  | 0 => (0, m.setR r n, l)
  | 1 => (0, m.setR r (m.num s), l)
  | 2 => (0, m.setR r (wrap64 (m.num r + m.num s)), l)
  | 3 => (0, m.setR r (wrap64 (m.num r - m.num s)), l)
  | 4 => (0, m.setR r (wrap64 (m.num r * m.num s)), l)
  | 5 => (0, m.setR r (bits BinOp.and IntKind.i64 (m.num r) (m.num s)), l)
  | 6 => if m.num s = 0 then (2, m, l) else (0, m.setR r (wrap64 ((m.num r).tdiv (m.num s))), l)
  | 7 => if 0 ≤ m.num s ∧ m.num s < 64 then (0, m.setR r (m.input (m.num s).toNat : Int), l) else (3, m, l)
  | 8 => if 0 ≤ m.num s ∧ m.num s < 16 then (0, m.setR r (m.cells (m.num s).toNat), l) else (3, m, l)
  | 9 => if 0 ≤ m.num r ∧ m.num r < 16 then (0, m.setC (m.num r).toNat (m.num s), l) else (3, m, l)
  | 10 => if 0 ≤ m.num s ∧ m.num s < 8 then (0, m.setR r (m.kept (m.num s).toNat), l) else (3, m, l)
  | 11 => if 0 ≤ m.num r ∧ m.num r < 8 then (0, m.setK (m.num r).toNat (m.num s), l) else (3, m, l)
  | 12 => (0, m, putF l (m.num r))
  | 13 => (0, { m with next := n }, l)
  | 14 => (0, if m.num r < m.num s then { m with next := n } else m, l)
  | 15 => (0, if m.num r = m.num s then { m with next := n } else m, l)
  | 16 => (0, { m with how := 1, value := m.num r }, l)
  | _ => (0, m, l)

theorem ActRes.run {B b : Nat} {why : Int} {m m' : MS} {l : List UInt8} {w : World} {e : Ending} {w' : World} (h : ActRes b why m' w e w') (hw : RunW B b m l w) (ho : m'.out = m.out) : DoRes B b why m' l w e w' := by
  obtain ⟨h1, h2, h3⟩ := h
  refine ⟨h1, m'.out, h2, ?_, h3.mono hw.big⟩
  have ho2 := hw.out
  unfold OutIs at ho2 ⊢
  rw [ho]
  exact ownsRow_below ho2 (fun g hg hlt => h3.block g hlt (by have := hw.low; omega))
theorem OutAct.run {B b : Nat} {m : MS} {l' : List UInt8} {w : World} {e : Ending} {w' : World} (h : OutAct B b m l' w e w') : DoRes B b 0 m l' w e w' := h

theorem PutOut_any (B : Nat) (w : World) (b : Nat) (m : MS) (n : Int) (l : List UInt8) (hl1 : l.length ≤ 1000000) (h0 : -9223372036854775808 ≤ n) (h1 : n ≤ 9223372036854775807) (hw : RunW B b m l w) :
    Calls Tryz.prog 90 #[.pointer (some ⟨b, 0, none⟩), .int .i64 n] w fun e w' => OutRes B b m (putF l n) w e w' := by
  unfold putF
  by_cases e : l = []
  · rw [if_pos e]
    subst e
    exact PutOut_first B w b m n h0 h1 hw.mach hw.out hw.low hw.big hw.old hw.pow
  · rw [if_neg e]
    exact PutOut_more B w b m n l (List.length_pos_iff.2 e) hl1 h0 h1 hw.mach hw.out hw.low hw.big hw.old hw.pow
theorem RunW.drew {B b : Nat} {m : MS} {l : List UInt8} {w : World} (h : RunW B b m l w) : RunW B b m l w.drew := h.keep (Below.refl _ _).drew

/-- Each number is one of 64 bits, each byte of the input a byte. -/
structure Okm (m : MS) : Prop where
  num : ∀ k, -9223372036854775808 ≤ m.num k ∧ m.num k ≤ 9223372036854775807
  cells : ∀ k, -9223372036854775808 ≤ m.cells k ∧ m.cells k ≤ 9223372036854775807
  kept : ∀ k, -9223372036854775808 ≤ m.kept k ∧ m.kept k ≤ 9223372036854775807
  input : ∀ k, m.input k < 256

/-- A block of the table, in a world of the run. -/
theorem tabAt {s B b k : Nat} {w0 w : World} {o : Obj} (ht : Table s w0) (hk : Keep B b w0 w) (hs : s + 56 ≤ b) (hb : b < B) (h : k < 56) (he : (tblocks s)[k]? = some o) : w.heap[s + k]? = some o := by
  rw [hk.block _ (by omega) (by omega), ht k h, he]

theorem toNat_place {x : Int} {p : Nat} (h : 0 ≤ x ∧ x < (p : Int)) : x = ((x.toNat : Nat) : Int) ∧ x.toNat < p := by omega

set_option maxRecDepth 100000 in
theorem enter_become (args : Array Value) (w : World) : (callFunc 129 args).run Tryz.prog w = .ok (.enter 129 args) w := by go_simp
set_option maxRecDepth 100000 in
theorem enter_reckon (args : Array Value) (w : World) : (callFunc 135 args).run Tryz.prog w = .ok (.enter 135 args) w := by go_simp
set_option maxRecDepth 100000 in
theorem enter_fetch (args : Array Value) (w : World) : (callFunc 144 args).run Tryz.prog w = .ok (.enter 144 args) w := by go_simp
set_option maxRecDepth 100000 in
theorem enter_store (args : Array Value) (w : World) : (callFunc 148 args).run Tryz.prog w = .ok (.enter 148 args) w := by go_simp
set_option maxRecDepth 100000 in
theorem enter_hand (args : Array Value) (w : World) : (callFunc 151 args).run Tryz.prog w = .ok (.enter 151 args) w := by go_simp
set_option maxRecDepth 100000 in
theorem enter_jump (args : Array Value) (w : World) : (callFunc 153 args).run Tryz.prog w = .ok (.enter 153 args) w := by go_simp

/-- What act_ok says of one row. -/
def RowOk (s0 B b row r s : Nat) (n : Int) (m : MS) (l : List UInt8) (w0 : World) : Prop :=
  ∃ f4 b4, wDo s0 row = .func (.func f4) #[] b4 ∧ (∀ (args : Array Value) (w : World), (callFunc f4 args).run Tryz.prog w = .ok (.enter f4 args) w) ∧ ActOk B b f4 b4 row r s n m l (doF row r s n m l).1 (doF row r s n m l).2.1 (doF row r s n m l).2.2 w0

theorem rowOk_0 (s0 B b r s : Nat) (n : Int) (m : MS) (l : List UInt8) (w0 : World) (ht : Table s0 w0) (hs0 : s0 + 56 ≤ b) (hb : b < B) (hr : r < 8) (hs : s < 8) (hm : Okm m) (hl : l.length ≤ 1000000) : RowOk s0 B b 0 r s n m l w0 := by
  have _u := And.intro hr (And.intro hs hl)
  have _v := hm
  refine ⟨_, _, rfl, enter_become, fun w hw hk => ?_⟩
  exact (act_set w b (s0 + 0) m 0 n r s hr hw.mach (tabAt ht hk hs0 hb (by omega) rfl)).mono fun e w' h => h.run hw rfl

theorem rowOk_1 (s0 B b r s : Nat) (n : Int) (m : MS) (l : List UInt8) (w0 : World) (ht : Table s0 w0) (hs0 : s0 + 56 ≤ b) (hb : b < B) (hr : r < 8) (hs : s < 8) (hm : Okm m) (hl : l.length ≤ 1000000) : RowOk s0 B b 1 r s n m l w0 := by
  have _u := And.intro hr (And.intro hs hl)
  have _v := hm
  refine ⟨_, _, rfl, enter_become, fun w hw hk => ?_⟩
  exact (act_mov w b (s0 + 2) m 1 n r s hr hs hw.mach (tabAt ht hk hs0 hb (by omega) rfl)).mono fun e w' h => h.run hw rfl

theorem rowOk_2 (s0 B b r s : Nat) (n : Int) (m : MS) (l : List UInt8) (w0 : World) (ht : Table s0 w0) (hs0 : s0 + 56 ≤ b) (hb : b < B) (hr : r < 8) (hs : s < 8) (hm : Okm m) (hl : l.length ≤ 1000000) : RowOk s0 B b 2 r s n m l w0 := by
  have _u := And.intro hr (And.intro hs hl)
  have _v := hm
  refine ⟨_, _, rfl, enter_reckon, fun w hw hk => ?_⟩
  exact (act_add w b (s0 + 4) m 2 n r s hr hs hw.mach (tabAt ht hk hs0 hb (by omega) rfl)).mono fun e w' h => h.run hw rfl

theorem rowOk_3 (s0 B b r s : Nat) (n : Int) (m : MS) (l : List UInt8) (w0 : World) (ht : Table s0 w0) (hs0 : s0 + 56 ≤ b) (hb : b < B) (hr : r < 8) (hs : s < 8) (hm : Okm m) (hl : l.length ≤ 1000000) : RowOk s0 B b 3 r s n m l w0 := by
  have _u := And.intro hr (And.intro hs hl)
  have _v := hm
  refine ⟨_, _, rfl, enter_reckon, fun w hw hk => ?_⟩
  exact (act_sub w b (s0 + 7) m 3 n r s hr hs hw.mach (tabAt ht hk hs0 hb (by omega) rfl)).mono fun e w' h => h.run hw rfl

theorem rowOk_4 (s0 B b r s : Nat) (n : Int) (m : MS) (l : List UInt8) (w0 : World) (ht : Table s0 w0) (hs0 : s0 + 56 ≤ b) (hb : b < B) (hr : r < 8) (hs : s < 8) (hm : Okm m) (hl : l.length ≤ 1000000) : RowOk s0 B b 4 r s n m l w0 := by
  have _u := And.intro hr (And.intro hs hl)
  have _v := hm
  refine ⟨_, _, rfl, enter_reckon, fun w hw hk => ?_⟩
  exact (act_mul w b (s0 + 10) m 4 n r s hr hs hw.mach (tabAt ht hk hs0 hb (by omega) rfl)).mono fun e w' h => h.run hw rfl

theorem rowOk_5 (s0 B b r s : Nat) (n : Int) (m : MS) (l : List UInt8) (w0 : World) (ht : Table s0 w0) (hs0 : s0 + 56 ≤ b) (hb : b < B) (hr : r < 8) (hs : s < 8) (hm : Okm m) (hl : l.length ≤ 1000000) : RowOk s0 B b 5 r s n m l w0 := by
  have _u := And.intro hr (And.intro hs hl)
  have _v := hm
  refine ⟨_, _, rfl, enter_reckon, fun w hw hk => ?_⟩
  exact (act_and w b (s0 + 13) m 5 n r s hr hs hw.mach (tabAt ht hk hs0 hb (by omega) rfl)).mono fun e w' h => h.run hw rfl

theorem rowOk_6 (s0 B b r s : Nat) (n : Int) (m : MS) (l : List UInt8) (w0 : World) (ht : Table s0 w0) (hs0 : s0 + 56 ≤ b) (hb : b < B) (hr : r < 8) (hs : s < 8) (hm : Okm m) (hl : l.length ≤ 1000000) : RowOk s0 B b 6 r s n m l w0 := by
  have _u := And.intro hr (And.intro hs hl)
  have _v := hm
  refine ⟨_, _, rfl, enter_reckon, fun w hw hk => ?_⟩
  unfold doF
  by_cases q : m.num s = 0
  · simp only [if_pos q]
    exact (act_div0 w b (s0 + 16) m 6 n r s hr hs q hw.mach (tabAt ht hk hs0 hb (by omega) rfl)).mono fun e w' h => h.run hw rfl
  · simp only [if_neg q]
    exact (act_div w b (s0 + 16) m 6 n r s hr hs q hw.mach (tabAt ht hk hs0 hb (by omega) rfl)).mono fun e w' h => h.run hw rfl

theorem rowOk_7 (s0 B b r s : Nat) (n : Int) (m : MS) (l : List UInt8) (w0 : World) (ht : Table s0 w0) (hs0 : s0 + 56 ≤ b) (hb : b < B) (hr : r < 8) (hs : s < 8) (hm : Okm m) (hl : l.length ≤ 1000000) : RowOk s0 B b 7 r s n m l w0 := by
  have _u := And.intro hr (And.intro hs hl)
  have _v := hm
  refine ⟨_, _, rfl, enter_fetch, fun w hw hk => ?_⟩
  unfold doF
  by_cases q : 0 ≤ m.num s ∧ m.num s < 64
  · simp only [if_pos q]
    obtain ⟨q1, q2⟩ := toNat_place (p := 64) q
    exact (act_in w b (s0 + 19) (s0 + 20) m 7 n r s (m.num s).toNat hr hs q1 q2 (hm.input _) hw.mach (tabAt ht hk hs0 hb (by omega) rfl) (tabAt ht hk hs0 hb (by omega) rfl)).mono fun e w' h => h.run hw rfl
  · simp only [if_neg q]
    exact (act_in_bad w b (s0 + 19) (s0 + 20) m 7 n r s hs (by omega) hw.mach (tabAt ht hk hs0 hb (by omega) rfl)).mono fun e w' h => h.run hw rfl

theorem rowOk_8 (s0 B b r s : Nat) (n : Int) (m : MS) (l : List UInt8) (w0 : World) (ht : Table s0 w0) (hs0 : s0 + 56 ≤ b) (hb : b < B) (hr : r < 8) (hs : s < 8) (hm : Okm m) (hl : l.length ≤ 1000000) : RowOk s0 B b 8 r s n m l w0 := by
  have _u := And.intro hr (And.intro hs hl)
  have _v := hm
  refine ⟨_, _, rfl, enter_fetch, fun w hw hk => ?_⟩
  unfold doF
  by_cases q : 0 ≤ m.num s ∧ m.num s < 16
  · simp only [if_pos q]
    obtain ⟨q1, q2⟩ := toNat_place (p := 16) q
    exact (act_get w b (s0 + 24) (s0 + 25) m 8 n r s (m.num s).toNat hr hs q1 q2 hw.mach (tabAt ht hk hs0 hb (by omega) rfl) (tabAt ht hk hs0 hb (by omega) rfl)).mono fun e w' h => h.run hw rfl
  · simp only [if_neg q]
    exact (act_get_bad w b (s0 + 24) (s0 + 25) m 8 n r s hs (by omega) hw.mach (tabAt ht hk hs0 hb (by omega) rfl)).mono fun e w' h => h.run hw rfl

theorem rowOk_9 (s0 B b r s : Nat) (n : Int) (m : MS) (l : List UInt8) (w0 : World) (ht : Table s0 w0) (hs0 : s0 + 56 ≤ b) (hb : b < B) (hr : r < 8) (hs : s < 8) (hm : Okm m) (hl : l.length ≤ 1000000) : RowOk s0 B b 9 r s n m l w0 := by
  have _u := And.intro hr (And.intro hs hl)
  have _v := hm
  refine ⟨_, _, rfl, enter_store, fun w hw hk => ?_⟩
  unfold doF
  by_cases q : 0 ≤ m.num r ∧ m.num r < 16
  · simp only [if_pos q]
    obtain ⟨q1, q2⟩ := toNat_place (p := 16) q
    exact (act_put w b (s0 + 30) (s0 + 31) m 9 n r s (m.num r).toNat hr hs q1 q2 hw.mach (tabAt ht hk hs0 hb (by omega) rfl) (tabAt ht hk hs0 hb (by omega) rfl)).mono fun e w' h => h.run hw rfl
  · simp only [if_neg q]
    exact (act_put_bad w b (s0 + 30) (s0 + 31) m 9 n r s hr (by omega) hw.mach (tabAt ht hk hs0 hb (by omega) rfl)).mono fun e w' h => h.run hw rfl

theorem rowOk_10 (s0 B b r s : Nat) (n : Int) (m : MS) (l : List UInt8) (w0 : World) (ht : Table s0 w0) (hs0 : s0 + 56 ≤ b) (hb : b < B) (hr : r < 8) (hs : s < 8) (hm : Okm m) (hl : l.length ≤ 1000000) : RowOk s0 B b 10 r s n m l w0 := by
  have _u := And.intro hr (And.intro hs hl)
  have _v := hm
  refine ⟨_, _, rfl, enter_fetch, fun w hw hk => ?_⟩
  unfold doF
  by_cases q : 0 ≤ m.num s ∧ m.num s < 8
  · simp only [if_pos q]
    obtain ⟨q1, q2⟩ := toNat_place (p := 8) q
    exact (act_load w b (s0 + 33) (s0 + 34) m 10 n r s (m.num s).toNat hr hs q1 q2 hw.mach (tabAt ht hk hs0 hb (by omega) rfl) (tabAt ht hk hs0 hb (by omega) rfl)).mono fun e w' h => h.run hw rfl
  · simp only [if_neg q]
    exact (act_load_bad w b (s0 + 33) (s0 + 34) m 10 n r s hs (by omega) hw.mach (tabAt ht hk hs0 hb (by omega) rfl)).mono fun e w' h => h.run hw rfl

theorem rowOk_11 (s0 B b r s : Nat) (n : Int) (m : MS) (l : List UInt8) (w0 : World) (ht : Table s0 w0) (hs0 : s0 + 56 ≤ b) (hb : b < B) (hr : r < 8) (hs : s < 8) (hm : Okm m) (hl : l.length ≤ 1000000) : RowOk s0 B b 11 r s n m l w0 := by
  have _u := And.intro hr (And.intro hs hl)
  have _v := hm
  refine ⟨_, _, rfl, enter_store, fun w hw hk => ?_⟩
  unfold doF
  by_cases q : 0 ≤ m.num r ∧ m.num r < 8
  · simp only [if_pos q]
    obtain ⟨q1, q2⟩ := toNat_place (p := 8) q
    exact (act_keep w b (s0 + 39) (s0 + 40) m 11 n r s (m.num r).toNat hr hs q1 q2 hw.mach (tabAt ht hk hs0 hb (by omega) rfl) (tabAt ht hk hs0 hb (by omega) rfl)).mono fun e w' h => h.run hw rfl
  · simp only [if_neg q]
    exact (act_keep_bad w b (s0 + 39) (s0 + 40) m 11 n r s hr (by omega) hw.mach (tabAt ht hk hs0 hb (by omega) rfl)).mono fun e w' h => h.run hw rfl

theorem rowOk_12 (s0 B b r s : Nat) (n : Int) (m : MS) (l : List UInt8) (w0 : World) (ht : Table s0 w0) (hs0 : s0 + 56 ≤ b) (hb : b < B) (hr : r < 8) (hs : s < 8) (hm : Okm m) (hl : l.length ≤ 1000000) : RowOk s0 B b 12 r s n m l w0 := by
  have _u := And.intro hr (And.intro hs hl)
  have _v := hm
  refine ⟨_, _, rfl, enter_hand, fun w hw hk => ?_⟩
  exact (act_out B w b (s0 + 42) m (putF l (m.num r)) 12 n r s hr hw.mach hw.big (tabAt ht hk hs0 hb (by omega) rfl) (fun o => PutOut_any B _ b m (m.num r) l hl (hm.num r).1 (hm.num r).2 (hw.alloc o).drew)).mono fun e w' h => h.run

theorem rowOk_13 (s0 B b r s : Nat) (n : Int) (m : MS) (l : List UInt8) (w0 : World) (ht : Table s0 w0) (hs0 : s0 + 56 ≤ b) (hb : b < B) (hr : r < 8) (hs : s < 8) (hm : Okm m) (hl : l.length ≤ 1000000) : RowOk s0 B b 13 r s n m l w0 := by
  have _u := And.intro hr (And.intro hs hl)
  have _v := hm
  refine ⟨_, _, rfl, enter_jump, fun w hw hk => ?_⟩
  exact (act_jmp_yes w b (s0 + 43) m 13 n r s hw.mach (tabAt ht hk hs0 hb (by omega) rfl)).mono fun e w' h => h.run hw rfl

theorem rowOk_14 (s0 B b r s : Nat) (n : Int) (m : MS) (l : List UInt8) (w0 : World) (ht : Table s0 w0) (hs0 : s0 + 56 ≤ b) (hb : b < B) (hr : r < 8) (hs : s < 8) (hm : Okm m) (hl : l.length ≤ 1000000) : RowOk s0 B b 14 r s n m l w0 := by
  have _u := And.intro hr (And.intro hs hl)
  have _v := hm
  refine ⟨_, _, rfl, enter_jump, fun w hw hk => ?_⟩
  unfold doF
  by_cases q : m.num r < m.num s
  · simp only [if_pos q]
    exact (act_jlt_yes w b (s0 + 44) m 14 n r s hr hs q hw.mach (tabAt ht hk hs0 hb (by omega) rfl)).mono fun e w' h => h.run hw rfl
  · simp only [if_neg q]
    exact (act_jlt_no w b (s0 + 44) m 14 n r s hr hs q hw.mach (tabAt ht hk hs0 hb (by omega) rfl)).mono fun e w' h => h.run hw rfl

theorem rowOk_15 (s0 B b r s : Nat) (n : Int) (m : MS) (l : List UInt8) (w0 : World) (ht : Table s0 w0) (hs0 : s0 + 56 ≤ b) (hb : b < B) (hr : r < 8) (hs : s < 8) (hm : Okm m) (hl : l.length ≤ 1000000) : RowOk s0 B b 15 r s n m l w0 := by
  have _u := And.intro hr (And.intro hs hl)
  have _v := hm
  refine ⟨_, _, rfl, enter_jump, fun w hw hk => ?_⟩
  unfold doF
  by_cases q : m.num r = m.num s
  · simp only [if_pos q]
    exact (act_jeq_yes w b (s0 + 49) m 15 n r s hr hs q hw.mach (tabAt ht hk hs0 hb (by omega) rfl)).mono fun e w' h => h.run hw rfl
  · simp only [if_neg q]
    exact (act_jeq_no w b (s0 + 49) m 15 n r s hr hs q hw.mach (tabAt ht hk hs0 hb (by omega) rfl)).mono fun e w' h => h.run hw rfl

theorem rowOk_16 (s0 B b r s : Nat) (n : Int) (m : MS) (l : List UInt8) (w0 : World) (ht : Table s0 w0) (hs0 : s0 + 56 ≤ b) (hb : b < B) (hr : r < 8) (hs : s < 8) (hm : Okm m) (hl : l.length ≤ 1000000) : RowOk s0 B b 16 r s n m l w0 := by
  have _u := And.intro hr (And.intro hs hl)
  have _v := hm
  refine ⟨_, _, rfl, enter_hand, fun w hw hk => ?_⟩
  exact (act_end w b (s0 + 54) m 16 n r s hr hw.mach (tabAt ht hk hs0 hb (by omega) rfl)).mono fun e w' h => h.run hw rfl

theorem rowOk (s0 B b row r s : Nat) (n : Int) (m : MS) (l : List UInt8) (w0 : World) (hrow : row < 17) (ht : Table s0 w0) (hs0 : s0 + 56 ≤ b) (hb : b < B) (hr : r < 8) (hs : s < 8) (hm : Okm m) (hl : l.length ≤ 1000000) : RowOk s0 B b row r s n m l w0 := by
  match row, hrow with
  | 0, _ => exact rowOk_0 s0 B b r s n m l w0 ht hs0 hb hr hs hm hl
  | 1, _ => exact rowOk_1 s0 B b r s n m l w0 ht hs0 hb hr hs hm hl
  | 2, _ => exact rowOk_2 s0 B b r s n m l w0 ht hs0 hb hr hs hm hl
  | 3, _ => exact rowOk_3 s0 B b r s n m l w0 ht hs0 hb hr hs hm hl
  | 4, _ => exact rowOk_4 s0 B b r s n m l w0 ht hs0 hb hr hs hm hl
  | 5, _ => exact rowOk_5 s0 B b r s n m l w0 ht hs0 hb hr hs hm hl
  | 6, _ => exact rowOk_6 s0 B b r s n m l w0 ht hs0 hb hr hs hm hl
  | 7, _ => exact rowOk_7 s0 B b r s n m l w0 ht hs0 hb hr hs hm hl
  | 8, _ => exact rowOk_8 s0 B b r s n m l w0 ht hs0 hb hr hs hm hl
  | 9, _ => exact rowOk_9 s0 B b r s n m l w0 ht hs0 hb hr hs hm hl
  | 10, _ => exact rowOk_10 s0 B b r s n m l w0 ht hs0 hb hr hs hm hl
  | 11, _ => exact rowOk_11 s0 B b r s n m l w0 ht hs0 hb hr hs hm hl
  | 12, _ => exact rowOk_12 s0 B b r s n m l w0 ht hs0 hb hr hs hm hl
  | 13, _ => exact rowOk_13 s0 B b r s n m l w0 ht hs0 hb hr hs hm hl
  | 14, _ => exact rowOk_14 s0 B b r s n m l w0 ht hs0 hb hr hs hm hl
  | 15, _ => exact rowOk_15 s0 B b r s n m l w0 ht hs0 hb hr hs hm hl
  | 16, _ => exact rowOk_16 s0 B b r s n m l w0 ht hs0 hb hr hs hm hl
  | k + 17, h => exact absurd h (by omega)

end Go.Proofs.YtngopilbpiplhaaGreatDoor
