/-
  Claims as plain data; the contracts of the small functions of package claims.
  The contracts of Claim.With and claims.Start.
  The contracts of plus, Less, NotLess and of the small closures.
  The contracts of the closures that set a register's span.
-/
import Derived.Test.YtngopilbpiplhaaGreatDoorZParse
import Derived.Laws.ResultCell
import Derived.OrdersHeld
import Derived.Test.YtngopilbpiplhaaGreatDoorZNew
namespace Go.Proofs.YtngopilbpiplhaaGreatDoor
open Go.RowKit

/-- A claim: never, or which registers it speaks of, and from where to where each is. -/
structure Cl where
  never : Bool
  has : Nat → Bool
  lo : Nat → Int
  hi : Nat → Int
/-- A claim's cells. -/
def clCells (c : Cl) : Array Value := #[.bool c.never,
  .bool (c.has 0), .bool (c.has 1), .bool (c.has 2), .bool (c.has 3), .bool (c.has 4), .bool (c.has 5), .bool (c.has 6), .bool (c.has 7),
  .int .i64 (c.lo 0), .int .i64 (c.hi 0), .int .i64 (c.lo 1), .int .i64 (c.hi 1), .int .i64 (c.lo 2), .int .i64 (c.hi 2), .int .i64 (c.lo 3), .int .i64 (c.hi 3),
  .int .i64 (c.lo 4), .int .i64 (c.hi 4), .int .i64 (c.lo 5), .int .i64 (c.hi 5), .int .i64 (c.lo 6), .int .i64 (c.hi 6), .int .i64 (c.lo 7), .int .i64 (c.hi 7)]

theorem lt8' {p : Nat → Prop} (h0 : p 0) (h1 : p 1) (h2 : p 2) (h3 : p 3) (h4 : p 4) (h5 : p 5) (h6 : p 6) (h7 : p 7) (a : Nat) (h : a < 8) : p a := by
  match a, h with
  | 0, _ => exact h0
  | 1, _ => exact h1
  | 2, _ => exact h2
  | 3, _ => exact h3
  | 4, _ => exact h4
  | 5, _ => exact h5
  | 6, _ => exact h6
  | 7, _ => exact h7
  | n + 8, h => exact absurd h (by omega)
theorem cl_size (c : Cl) : (clCells c).size = 25 := rfl
theorem cl_one (c : Cl) : (clCells c).all (·.oneCell') = true := by simp [clCells, Value.oneCell']
theorem cl_never (c : Cl) : (clCells c)[0]? = some (.bool c.never) := rfl
theorem cl_has (c : Cl) (r : Nat) (h : r < 8) : (clCells c)[1 + r]? = some (.bool (c.has r)) :=
  lt8' (p := fun r => (clCells c)[1 + r]? = some (.bool (c.has r))) rfl rfl rfl rfl rfl rfl rfl rfl r h
theorem cl_lo (c : Cl) (r : Nat) (h : r < 8) : (clCells c)[9 + r * 2]? = some (.int .i64 (c.lo r)) :=
  lt8' (p := fun r => (clCells c)[9 + r * 2]? = some (.int .i64 (c.lo r))) rfl rfl rfl rfl rfl rfl rfl rfl r h
theorem cl_hi (c : Cl) (r : Nat) (h : r < 8) : (clCells c)[9 + r * 2 + 1]? = some (.int .i64 (c.hi r)) :=
  lt8' (p := fun r => (clCells c)[9 + r * 2 + 1]? = some (.int .i64 (c.hi r))) rfl rfl rfl rfl rfl rfl rfl rfl r h

theorem keep_setRow' (B q : Nat) (w : World) (cs : Array Value) : Keep B q w (w.setRow q cs) := by
  refine ⟨rfl, rfl, rfl, by simp [World.setRow], fun k _ hk => ?_⟩
  simp only [World.setRow, Array.getElem?_modify]
  rw [if_neg (by omega)]
/-- A span's cells. -/
abbrev spC (a b : Int) : Value := .agg #[.int .i64 a, .int .i64 b]

set_option maxHeartbeats 400000 in
theorem Span_any (c : Cl) (r : Nat) (hr : r < 8) (w : World) :
    Calls Tryz.prog 62 #[.agg (clCells c), .int .i64 r] w fun e w' => e = .returned (spC (c.lo r) (c.hi r)) ∧ w' = (w.alloc (.cells (clCells c) 135)).alloc (.cells #[.int .i64 (c.lo r), .int .i64 (c.hi r)] 132) := by
  have hrI : (r : Int) < 8 := by omega
  have h1 := cl_lo c r hr
  have h2 := cl_hi c r hr
  go_enter Tryz.func62, Tryz.ntmps62
  go_wp2
  exact bodyPost_ret (results_cell_row rfl _ _ (w.heap.size + 1) 132 _ _ _ rfl (heap_alloc2_new w _ _) Tryz.underlying132 rfl (by kernel_rfl)) rfl ⟨rfl, rfl⟩

set_option maxHeartbeats 400000 in
theorem Has_any (c : Cl) (r : Nat) (hr : r < 8) (w : World) :
    Calls Tryz.prog 216 #[.agg (clCells c), .int .i64 r] w fun e w' => e = .returned (.bool (c.has r)) ∧ w' = w.alloc (.cells (clCells c) 135) := by
  have hrI : (r : Int) < 8 := by omega
  have h1 := cl_has c r hr
  go_enter Tryz.func216, Tryz.ntmps216
  go_wp2
  go_ret
  exact ⟨rfl, rfl⟩

set_option maxHeartbeats 400000 in
theorem One_any (n : Int) (w : World) : Calls Tryz.prog 57 #[.int .i64 n] w fun e w' => e = .returned (spC n n) ∧ w' = w.alloc (.cells #[.int .i64 n, .int .i64 n] 132) := by
  go_enter Tryz.func57, Tryz.ntmps57
  go_wp2
  exact bodyPost_ret (results_cell_row rfl _ _ w.heap.size 132 _ _ _ rfl (blk_new w _) Tryz.underlying132 rfl (by kernel_rfl)) rfl ⟨rfl, rfl⟩

set_option maxHeartbeats 400000 in
theorem clAll_any (w : World) : Calls Tryz.prog 81 #[] w fun e w' => e = .returned (spC (-9223372036854775808) 9223372036854775807) ∧ w' = w.alloc (.cells #[.int .i64 (-9223372036854775808), .int .i64 9223372036854775807] 132) := by
  go_enter Tryz.func81, Tryz.ntmps81
  go_wp2
  exact bodyPost_ret (results_cell_row rfl _ _ w.heap.size 132 _ _ _ rfl (blk_new w _) Tryz.underlying132 rfl (by kernel_rfl)) rfl ⟨rfl, rfl⟩

/-- No run comes there. -/
def clNever : Cl := ⟨true, fun _ => false, fun _ => 0, fun _ => 0⟩
/-- Nothing is said. -/
def clNone : Cl := ⟨false, fun _ => false, fun _ => 0, fun _ => 0⟩

theorem alloc_setRow (w : World) (old cs : Array Value) (t : TypeId) : (w.alloc (.cells old t)).setRow w.heap.size cs = w.alloc (.cells cs t) := by
  unfold World.setRow World.alloc
  congr 1
  apply Array.ext_getElem?
  intro j
  simp only [Array.getElem?_modify, Array.getElem?_push]
  by_cases h : j = w.heap.size
  · subst h; simp
  · simp [h, Ne.symm h]
/-- A whole claim stored into a variable. -/
theorem wpList_storeCl {ops : Array Oper} {rest : List Oper} {o : Oper} {a : Act} {w : World} {Q : Exit → Act → World → Prop} (hgd : o.guard = none) (x y : Operand) (ho : o.op = .store 135 x y) (g : Nat) (SC old : Array Value) (t : TypeId)
    (hx : a.eval x = .pointer (some ⟨g, 0, none⟩)) (hy : a.eval y = .agg SC) (hg : w.heap[g]? = some (.cells old t)) (hsz : SC.size = 25) (hold : old.size = 25) (hone : SC.all (·.oneCell') = true)
    (h : ∀ w', Hid (w' = w.setRow g SC) → wpList Tryz.prog ops Q rest (a.put o.dst undef) w') : wpList Tryz.prog ops Q (o :: rest) a w :=
  wpList_plain hgd fun _ hK => wp_store_row 135 x y ho g SC hx hy t old hg (by rw [hsz]; kernel_rfl) (by rw [hsz, hold]) hone
    (hK _ _ (h _ (hide rfl)))

set_option maxHeartbeats 400000 in
theorem Never_any (w : World) : Calls Tryz.prog 134 #[] w fun e w' => e = .returned (.agg (clCells clNever)) ∧ w' = w.alloc (.cells (clCells clNever) 135) := by
  go_enter Tryz.func134, Tryz.ntmps134
  go_wp2_with (refine wpList_storeCl rfl (.tmp 0) (.tmp 1) rfl w.heap.size (clCells clNever) _ _ rfl rfl (blk_new w _) rfl rfl (cl_one _) ?_)
  intro w' hw
  have hw' := hw.out
  rw [alloc_setRow] at hw'
  subst hw'
  go_wp2
  exact bodyPost_ret (results_cell_row rfl _ _ w.heap.size 135 _ _ _ rfl (blk_new w _) Tryz.underlying135 rfl (by kernel_rfl)) rfl ⟨rfl, rfl⟩

set_option maxHeartbeats 400000 in
theorem isPlace_any (a b p : Int) (w : World) : Calls Tryz.prog 146 #[spC a b, .int .i64 p] w fun e w' => e = .returned (.bool (decide (0 ≤ a) && decide (b < p))) ∧ w' = w.alloc (.cells #[.int .i64 a, .int .i64 b] 132) := by
  by_cases h : 0 ≤ a
  · by_cases h2 : b < p
    · go_enter Tryz.func146, Tryz.ntmps146
      go_wp2
      go_ret
      exact ⟨by simp [h, h2], rfl⟩
    · go_enter Tryz.func146, Tryz.ntmps146
      go_wp2
      go_ret
      exact ⟨by simp [h2], rfl⟩
  · go_enter Tryz.func146, Tryz.ntmps146
    go_wp2
    go_ret
    exact ⟨by rw [decide_eq_false (p := 0 ≤ a) (by omega)]; rfl, rfl⟩

end Go.Proofs.YtngopilbpiplhaaGreatDoor

namespace Go.Proofs.YtngopilbpiplhaaGreatDoor
open Go.RowKit

/-- The claim with a register in a span. -/
def Cl.with_ (c : Cl) (r : Nat) (a b : Int) : Cl := ⟨c.never, fun k => if k = r then true else c.has k, fun k => if k = r then a else c.lo k, fun k => if k = r then b else c.hi k⟩
theorem cl_with (c : Cl) (r : Nat) (h : r < 8) (a b : Int) : (((clCells c).setIfInBounds (1 + r) (.bool true)).setIfInBounds (9 + r * 2) (.int .i64 a)).setIfInBounds (9 + r * 2 + 1) (.int .i64 b) = clCells (c.with_ r a b) :=
  lt8' (p := fun r => (((clCells c).setIfInBounds (1 + r) (.bool true)).setIfInBounds (9 + r * 2) (.int .i64 a)).setIfInBounds (9 + r * 2 + 1) (.int .i64 b) = clCells (c.with_ r a b)) rfl rfl rfl rfl rfl rfl rfl rfl r h

theorem three_blocks (w : World) (A B C : Obj) : (((w.alloc A).alloc B).alloc C).drew.heap[w.heap.size]? = some A ∧ (((w.alloc A).alloc B).alloc C).drew.heap[w.heap.size + 1 + 1]? = some C ∧ Below w.heap.size w (((w.alloc A).alloc B).alloc C).drew := by
  refine ⟨blk_alloc (blk_alloc (blk_new w A) B) C, ?_, ((((Below.refl _ _).alloc (Nat.le_refl _) _).alloc (by simp) _).alloc (by simp; omega) _).drew⟩
  have := blk_new ((w.alloc A).alloc B) C
  rw [World.size_alloc, World.size_alloc] at this
  exact this

set_option maxHeartbeats 1000000 in
theorem With_any (c : Cl) (r : Nat) (hr : r < 8) (a b : Int) (w : World) :
    Calls Tryz.prog 132 #[.agg (clCells c), .int .i64 r, spC a b] w fun e w' => e = .returned (.agg (clCells (c.with_ r a b))) ∧ w' = (((w.alloc (.cells (clCells (c.with_ r a b)) 135)).alloc (.cells #[.int .i64 a, .int .i64 b] 132)).alloc (.cells (clCells (c.with_ r a b)) 135)).drew := by
  have hrI : (r : Int) < 8 := by omega
  have h0 := cl_has c r hr
  have h1 := cl_lo c r hr
  have h2 := cl_hi c r hr
  have g1 : ((clCells c).setIfInBounds (1 + r) (.bool true))[9 + r * 2]? = some (.int .i64 (c.lo r)) := by rw [Array.getElem?_setIfInBounds_ne (by omega)]; exact h1
  have g2 : (((clCells c).setIfInBounds (1 + r) (.bool true)).setIfInBounds (9 + r * 2) (.int .i64 a))[9 + r * 2 + 1]? = some (.int .i64 (c.hi r)) := by rw [Array.getElem?_setIfInBounds_ne (by omega), Array.getElem?_setIfInBounds_ne (by omega)]; exact h2
  go_enter Tryz.func132, Tryz.ntmps132
  go_wp2_with fail
  go_region
  rw [cl_with c r hr a b]
  clear h0 h1 h2 g1 g2
  have hA := (three_blocks w (.cells (clCells (c.with_ r a b)) 135) (.cells #[.int .i64 a, .int .i64 b] 132) (.cells (clCells clNone) 135)).1
  have hC := (three_blocks w (.cells (clCells (c.with_ r a b)) 135) (.cells #[.int .i64 a, .int .i64 b] 132) (.cells (clCells clNone) 135)).2.1
  go_wp2_with (first | (refine wpList_load_row rfl 135 (.tmp 3) rfl w.heap.size rfl _ _ _ _ hA Tryz.underlying135 rfl (by kernel_rfl) ?_) | (refine wpList_storeCl rfl (.tmp 6) (.tmp 14) rfl (w.heap.size + 1 + 1) (clCells (c.with_ r a b)) _ _ rfl rfl hC rfl rfl (cl_one _) ?_))
  intro w' hw
  have hw' := hw.out
  have hw2 : w' = (((w.alloc (.cells (clCells (c.with_ r a b)) 135)).alloc (.cells #[.int .i64 a, .int .i64 b] 132)).alloc (.cells (clCells (c.with_ r a b)) 135)).drew := by
    rw [hw']
    have := alloc_setRow ((w.alloc (.cells (clCells (c.with_ r a b)) 135)).alloc (.cells #[.int .i64 a, .int .i64 b] 132)) (clCells clNone) (clCells (c.with_ r a b)) 135
    rw [World.size_alloc, World.size_alloc] at this
    rw [← this]; rfl
  have hg := (three_blocks w (.cells (clCells (c.with_ r a b)) 135) (.cells #[.int .i64 a, .int .i64 b] 132) (.cells (clCells (c.with_ r a b)) 135)).2.1
  rw [← hw2] at hg
  go_wp2
  exact bodyPost_ret (results_cell_row rfl _ _ (w.heap.size + 1 + 1) 135 _ _ _ rfl hg Tryz.underlying135 rfl (by kernel_rfl)) rfl ⟨rfl, hw2⟩

end Go.Proofs.YtngopilbpiplhaaGreatDoor

namespace Go.Proofs.YtngopilbpiplhaaGreatDoor
open Go.RowKit

/-- A sum, and whether it is a number of 64 bits. -/
def plusF (x y : Int) : Int × Bool := (wrap64 (x + y), decide (wrap64 (x + y) < x) == decide (y < 0))

set_option maxHeartbeats 400000 in
theorem plus_any (x y : Int) (w : World) : Calls Tryz.prog 138 #[.int .i64 x, .int .i64 y] w fun e w' => e = .returned (.tuple #[.int .i64 (plusF x y).1, .bool (plusF x y).2]) ∧ w' = w := by
  go_enter Tryz.func138, Tryz.ntmps138
  go_wp2
  go_ret2
  exact ⟨rfl, rfl⟩

abbrev clB (c : Cl) : Obj := .cells (clCells c) 135
abbrev lnB (x : Ln) : Obj := .cells #[.int .i64 x.word, .int .i64 x.r, .int .i64 x.s, .int .i64 x.n] 122
abbrev spB (a b : Int) : Obj := .cells #[.int .i64 a, .int .i64 b] 132
theorem blk2 (w : World) (A B C : Obj) : (((w.alloc A).alloc B).alloc C).heap[w.heap.size + 1 + 1]? = some C := by
  have := blk_new ((w.alloc A).alloc B) C
  rw [World.size_alloc, World.size_alloc] at this
  exact this

set_option maxHeartbeats 400000 in
theorem rows2_any (c : Cl) (x : Ln) (w : World) : Calls Tryz.prog 56 #[.agg (clCells c), .agg (lnArr x)] w fun e w' => e = .returned (spC x.n x.n) ∧ w' = (((w.alloc (clB c)).alloc (lnB x)).alloc (spB x.n x.n)).alloc (spB x.n x.n) := by
  unfold lnArr
  go_enter Tryz.func56, Tryz.ntmps56
  go_wp2_with (go_at_call 57; refine (One_any _ _).mono ?_; rintro e w2 ⟨rfl, rfl⟩)
  exact bodyPost_ret (results_cell_row rfl _ _ (w.heap.size + 1 + 1) 132 _ _ _ rfl (blk_alloc (blk2 w _ _ _) _) Tryz.underlying132 rfl (by kernel_rfl)) rfl ⟨rfl, rfl⟩

set_option maxHeartbeats 400000 in
theorem nothingC_any (c : Cl) (x : Ln) (w : World) : Calls Tryz.prog 130 #[.agg (clCells c), .agg (lnArr x)] w fun e w' => e = .returned (.bool true) ∧ w' = (w.alloc (clB c)).alloc (lnB x) := by
  unfold lnArr
  go_enter Tryz.func130, Tryz.ntmps130
  go_wp2
  go_ret
  exact ⟨rfl, rfl⟩

set_option maxHeartbeats 400000 in
theorem fetchesC_any (c : Cl) (x : Ln) (cb : Nat) (a b : Int) (w : World) (hc : w.heap[cb]? = some (spB a b)) : Calls Tryz.prog 147 #[.agg (clCells c), .agg (lnArr x), .pointer (some ⟨cb, 0, none⟩)] w fun e w' => e = .returned (spC a b) ∧ w' = ((w.alloc (clB c)).alloc (lnB x)).alloc (spB a b) := by
  unfold lnArr
  have c0 : ∀ A B C : Obj, (((w.alloc A).alloc B).alloc C).cell? ⟨cb, 0, none⟩ = some (.int .i64 a) := fun A B C => cell_of_blk (blk_alloc (blk_alloc (blk_alloc hc A) B) C) 0
  have c1 : ∀ A B C : Obj, (((w.alloc A).alloc B).alloc C).cell? ⟨cb, 1, none⟩ = some (.int .i64 b) := fun A B C => cell_of_blk (blk_alloc (blk_alloc (blk_alloc hc A) B) C) 1
  clear hc
  go_enter Tryz.func147, Tryz.ntmps147
  go_wp2
  exact bodyPost_ret (results_cell_row rfl _ _ (w.heap.size + 1 + 1) 132 _ _ _ rfl (blk2 w _ _ _) Tryz.underlying132 rfl (by kernel_rfl)) rfl ⟨rfl, rfl⟩

theorem alloc2_setRow (w : World) (A B : Obj) (old cs : Array Value) (t : TypeId) : (((w.alloc A).alloc B).alloc (.cells old t)).setRow (w.heap.size + 1 + 1) cs = ((w.alloc A).alloc B).alloc (.cells cs t) := by
  have := alloc_setRow ((w.alloc A).alloc B) old cs t
  rw [World.size_alloc, World.size_alloc] at this
  exact this

set_option maxHeartbeats 400000 in
theorem sameC_any (c : Cl) (x : Ln) (w : World) : Calls Tryz.prog 150 #[.agg (clCells c), .agg (lnArr x)] w fun e w' => e = .returned (.agg (clCells c)) ∧ w' = ((w.alloc (clB c)).alloc (lnB x)).alloc (clB c) := by
  unfold lnArr
  have hA : (((w.alloc (clB c)).alloc (lnB x)).alloc (clB clNone)).heap[w.heap.size]? = some (clB c) := blk_alloc (blk_alloc (blk_new w _) _) _
  have hC : (((w.alloc (clB c)).alloc (lnB x)).alloc (clB clNone)).heap[w.heap.size + 1 + 1]? = some (clB clNone) := blk2 w _ _ _
  go_enter Tryz.func150, Tryz.ntmps150
  go_wp2_with (first | (refine wpList_load_row rfl 135 (.tmp 2) rfl w.heap.size rfl _ _ _ _ hA Tryz.underlying135 rfl (by kernel_rfl) ?_) | (refine wpList_storeCl rfl (.tmp 4) (.tmp 5) rfl (w.heap.size + 1 + 1) (clCells c) _ _ rfl rfl hC rfl rfl (cl_one _) ?_))
  intro w' hw
  obtain rfl : w' = ((w.alloc (clB c)).alloc (lnB x)).alloc (clB c) := hw.out.trans (alloc2_setRow w _ _ _ _ _)
  go_wp2
  exact bodyPost_ret (results_cell_row rfl _ _ (w.heap.size + 1 + 1) 135 _ _ _ rfl (blk2 w _ _ _) Tryz.underlying135 rfl (by kernel_rfl)) rfl ⟨rfl, rfl⟩

set_option maxHeartbeats 400000 in
theorem nowhereC_any (c : Cl) (x : Ln) (w : World) : Calls Tryz.prog 133 #[.agg (clCells c), .agg (lnArr x)] w fun e w' => e = .returned (.agg (clCells clNever)) ∧ Below w.heap.size w w' := by
  unfold lnArr
  have hC : (((w.alloc (clB c)).alloc (lnB x)).alloc (clB clNone)).heap[w.heap.size + 1 + 1]? = some (clB clNone) := blk2 w _ _ _
  go_enter Tryz.func133, Tryz.ntmps133
  go_wp2_with (first | (go_at_call 134; refine (Never_any _).mono ?_; rintro e w2 ⟨rfl, rfl⟩) | (refine wpList_storeCl rfl (.tmp 4) (.tmp 5) rfl (w.heap.size + 1 + 1) (clCells clNever) _ _ rfl rfl (blk_alloc hC _) rfl rfl (cl_one _) ?_))
  intro w' hw
  have hb : Below w.heap.size w w' := by
    rw [hw.out]
    exact (((((Below.refl _ _).alloc (Nat.le_refl _) _).alloc (by simp) _).alloc (by simp; omega) _).alloc (by simp; omega) _).trans ((keep_setRow' w.heap.size _ _ _).below (by omega))
  have hg : w'.heap[w.heap.size + 1 + 1]? = some (clB clNever) := by rw [hw.out]; exact setRow_heap _ _ _ _ _ _ (blk_alloc hC _)
  go_wp2
  exact bodyPost_ret (results_cell_row rfl _ _ (w.heap.size + 1 + 1) 135 _ _ _ rfl hg Tryz.underlying135 rfl (by kernel_rfl)) rfl ⟨rfl, hb⟩

end Go.Proofs.YtngopilbpiplhaaGreatDoor

namespace Go.Proofs.YtngopilbpiplhaaGreatDoor
open Go.RowKit

theorem clCells_eq (c : Cl) : clCells c = #[.bool c.never,
    .bool (c.has 0), .bool (c.has 1), .bool (c.has 2), .bool (c.has 3), .bool (c.has 4), .bool (c.has 5), .bool (c.has 6), .bool (c.has 7),
    .int .i64 (c.lo 0), .int .i64 (c.hi 0), .int .i64 (c.lo 1), .int .i64 (c.hi 1), .int .i64 (c.lo 2), .int .i64 (c.hi 2), .int .i64 (c.lo 3), .int .i64 (c.hi 3),
    .int .i64 (c.lo 4), .int .i64 (c.hi 4), .int .i64 (c.lo 5), .int .i64 (c.hi 5), .int .i64 (c.lo 6), .int .i64 (c.hi 6), .int .i64 (c.lo 7), .int .i64 (c.hi 7)] := rfl

theorem store_at (w : World) (g : Nat) (old : Array Value) (z : Cl) (hg : w.heap[g]? = some (.cells old 135)) (h : old.size = 25) :
    (storeCells ⟨g, 0, none⟩ (clCells z).toList).run Tryz.prog w = .ok () (w.setRow g (clCells z)) := by
  have := run_storeCells_from (P := Tryz.prog) g 135 (clCells z).toList 0 old _ hg (by rw [h]; rfl) (fun v hv => (Array.all_eq_true_iff_forall_mem.1 (cl_one z)) v (by simpa using hv))
  rw [this]; rfl

/-- Blocks more: what was handed in (a claim, a line), and room for an answer. -/
structure Two (w : World) (c : Cl) (x : Ln) (W : World) : Prop where
  A : W.heap[w.heap.size]? = some (clB c)
  B : W.heap[w.heap.size + 1]? = some (lnB x)
  b : Below w.heap.size w W
  s : w.heap.size + 3 ≤ W.heap.size
theorem two_mk (w : World) (c : Cl) (x : Ln) (z : Obj) : Two w c x (((w.alloc (clB c)).alloc (lnB x)).alloc z) :=
  ⟨blk_alloc (blk_alloc (blk_new w _) _) _, by have := blk_new (w.alloc (clB c)) (lnB x); rw [World.size_alloc] at this; exact blk_alloc this _,
   (((Below.refl _ _).alloc (Nat.le_refl _) _).alloc (by simp) _).alloc (by simp; omega) _, by simp⟩
theorem Two.below {w W W' : World} {c : Cl} {x : Ln} (h : Two w c x W) (hb : Below W.heap.size W W') : Two w c x W' :=
  ⟨(hb.block _ (blk_lt h.A)).trans h.A, (hb.block _ (blk_lt h.B)).trans h.B, h.b.trans (hb.mono (by have := h.s; omega)), Nat.le_trans h.s hb.size⟩
theorem Two.old {w W : World} {c : Cl} {x : Ln} {o : Obj} {k : Nat} (h : Two w c x W) (hk : w.heap[k]? = some o) : W.heap[k]? = some o := (h.b.block k (blk_lt hk)).trans hk
theorem Two.setRow {w W : World} {c : Cl} {x : Ln} (h : Two w c x W) (cs : Array Value) : Two w c x (W.setRow (w.heap.size + 1 + 1) cs) :=
  ⟨(setRow_other _ _ _ _ (by omega)).trans h.A, (setRow_other _ _ _ _ (by omega)).trans h.B, h.b.trans ((keep_setRow' w.heap.size _ _ _).below (by omega)), by rw [setRow_size]; exact h.s⟩

section
variable {P : Program} {ops : Array Oper} {Q : Exit → Act → World → Prop} {S : World → Prop}
theorem yields_row {o : Oper} {a : Act} (hw : Region.wanted o (yielded ops a.tmps) = true) (ty : TypeId) (x : Operand) (ho : o.op = .load ty x) (g : Nat) (hx : a.eval x = .pointer (some ⟨g, 0, none⟩)) (cs : Array Value) (t : TypeId) (d : TypeDesc)
    (hS : ∀ w, S w → w.heap[g]? = some (.cells cs t)) (hu : P.underlying ty = some d) (hd : (match d with | .struct _ | .array _ _ => true | _ => false) = true) (hi : (P.info? ty).map (·.size) = some cs.size) : YieldsIf P ops S o (.agg cs) a :=
  .inl ⟨hw, fun w h => by
    unfold execOp
    simp only [ho, hx, Instr.loadAt, Instr.sureAddr, Sem.run_bind, Sem.run_pure, Result.andThen_ok, run_loadVar_row w g t ty cs _ d (hS w h) hu hd hi]⟩
theorem held_take {i : Nat} {o : Oper} {v : Value} {fuel : Nat} {listed : Array Bool} {a : Act} {w : World} (d : Option Tmp) (hi : ops[i]? = some o) (hd : o.dst = d)
    (hs : Region.noSelect ops = true) (hf : Region.free .any ops listed i = true) (hr : (Region.ready .any ops listed).contains i = true)
    (hQ : ∀ c a w, Q (.panic c) (a.put d v) w → Q (.panic c) a w) (hy : YieldsIf P ops S o v a) (hS : S w)
    (h : wpAnyH P .any ops Q S fuel (listed.setIfInBounds i true) (a.put d v) w) : wpAnyH P .any ops Q S (fuel + 1) listed a w := by
  subst hd
  exact wpAnyH_take hi hs hf hr hQ hy hS h
theorem held_call {i : Nat} {o : Oper} {a : Act} {w : World} {fuel : Nat} {listed : Array Bool} {f : FuncId} {args : Array Value} (d : Option Tmp) (hr : Region.ready .any ops listed = [i]) (hi : ops[i]? = some o) (hd : o.dst = d) (hw : Region.wanted o (yielded ops a.tmps) = true)
    (he : (execOp a.eval o).run P w = .ok (.enter f args) w) (hc : Calls P f args w fun e w' => ∃ v, e = .returned v ∧ S w' ∧ wpAnyH P .any ops Q S fuel (listed.setIfInBounds i true) (a.put d v) w') : wpAnyH P .any ops Q S (fuel + 1) listed a w := by
  subst hd
  refine wpAnyH_all hr (by simp) fun j hj => ?_
  obtain rfl : j = i := by simpa using hj
  unfold wpOp
  simp only [hi, hw, if_true]
  refine .inl ?_
  unfold Oper.wp
  rw [he]
  show Calls P f args w _
  refine hc.mono ?_
  rintro e w' ⟨v, rfl, h1, h2⟩
  exact ⟨h1, h2⟩
theorem held_skip {i : Nat} {o : Oper} {a : Act} {w w' : World} {fuel : Nat} {listed : Array Bool} (hr : Region.ready .any ops listed = [i]) (hi : ops[i]? = some o) (hw : Region.wanted o (yielded ops a.tmps) = true)
    (he : (execOp a.eval o).run P w = .ok .skip w') (hS : S w') (h : wpAnyH P .any ops Q S fuel (listed.setIfInBounds i true) (a.put o.dst undef) w') : wpAnyH P .any ops Q S (fuel + 1) listed a w := by
  refine wpAnyH_all hr (by simp) fun j hj => ?_
  obtain rfl : j = i := by simpa using hj
  unfold wpOp
  simp only [hi, hw, if_true]
  refine .inl ?_
  unfold Oper.wp
  rw [he]
  exact ⟨hS, h⟩
end
/-- A store of a claim. -/
theorem exec_storeCl {o : Oper} {a : Act} {w : World} (x y : Operand) (ho : o.op = .store 135 x y) (g : Nat) (SC old : Array Value) (hx : a.eval x = .pointer (some ⟨g, 0, none⟩)) (hy : a.eval y = .agg SC) (hg : w.heap[g]? = some (.cells old 135)) (hsz : SC.size = 25) (hold : old.size = 25) (hone : SC.all (·.oneCell') = true) :
    (execOp a.eval o).run Tryz.prog w = .ok .skip (w.setRow g SC) := by
  unfold execOp
  simp only [ho, hx, hy, Instr.storeAt, Instr.sureAddr, Sem.run_bind, Sem.run_pure, Result.andThen_ok, run_storeVar_row (P := Tryz.prog) w g 135 135 old SC hg (by rw [hsz]; kernel_rfl) (by rw [hsz, hold]) hone]

theorem held_storeCl {ops : Array Oper} {Q : Exit → Act → World → Prop} {S : World → Prop} {i : Nat} {o : Oper} {a : Act} {w : World} {fuel : Nat} {listed : Array Bool} (x y : Operand) (g : Nat) (SC old : Array Value)
    (hr : Region.ready .any ops listed = [i]) (hi : ops[i]? = some o) (hw : Region.wanted o (yielded ops a.tmps) = true) (ho : o.op = .store 135 x y) (hx : a.eval x = .pointer (some ⟨g, 0, none⟩)) (hy : a.eval y = .agg SC)
    (hg : w.heap[g]? = some (.cells old 135)) (hsz : SC.size = 25) (hold : old.size = 25) (hone : SC.all (·.oneCell') = true) (hS : S (w.setRow g SC))
    (hd : o.dst = none) (h : ∀ w', Hid (w' = w.setRow g SC) → wpAnyH Tryz.prog .any ops Q S fuel (listed.setIfInBounds i true) a w') : wpAnyH Tryz.prog .any ops Q S (fuel + 1) listed a w :=
  held_skip hr hi hw (exec_storeCl x y ho g SC old hx hy hg hsz hold hone) hS (by rw [hd]; exact h _ (hide rfl))

/-- A store of a span. -/
theorem exec_storeSp {o : Oper} {a : Act} {w : World} (x y : Operand) (ho : o.op = .store 132 x y) (g : Nat) (SC old : Array Value) (hx : a.eval x = .pointer (some ⟨g, 0, none⟩)) (hy : a.eval y = .agg SC) (hg : w.heap[g]? = some (.cells old 132)) (hsz : SC.size = 2) (hold : old.size = 2) (hone : SC.all (·.oneCell') = true) :
    (execOp a.eval o).run Tryz.prog w = .ok .skip (w.setRow g SC) := by
  unfold execOp
  simp only [ho, hx, hy, Instr.storeAt, Instr.sureAddr, Sem.run_bind, Sem.run_pure, Result.andThen_ok, run_storeVar_row (P := Tryz.prog) w g 132 132 old SC hg (by rw [hsz]; kernel_rfl) (by rw [hsz, hold]) hone]
theorem held_storeSp {ops : Array Oper} {Q : Exit → Act → World → Prop} {S : World → Prop} {i : Nat} {o : Oper} {a : Act} {w : World} {fuel : Nat} {listed : Array Bool} (x y : Operand) (g : Nat) (SC old : Array Value)
    (hr : Region.ready .any ops listed = [i]) (hi : ops[i]? = some o) (hw : Region.wanted o (yielded ops a.tmps) = true) (ho : o.op = .store 132 x y) (hx : a.eval x = .pointer (some ⟨g, 0, none⟩)) (hy : a.eval y = .agg SC)
    (hg : w.heap[g]? = some (.cells old 132)) (hsz : SC.size = 2) (hold : old.size = 2) (hone : SC.all (·.oneCell') = true) (hS : S (w.setRow g SC))
    (hd : o.dst = none) (h : ∀ w', Hid (w' = w.setRow g SC) → wpAnyH Tryz.prog .any ops Q S fuel (listed.setIfInBounds i true) a w') : wpAnyH Tryz.prog .any ops Q S (fuel + 1) listed a w :=
  held_skip hr hi hw (exec_storeSp x y ho g SC old hx hy hg hsz hold hone) hS (by rw [hd]; exact h _ (hide rfl))

section
variable {P : Program} {ops : Array Oper} {Q : Exit → Act → World → Prop}
theorem exec_loadRow {o : Oper} {a : Act} {w : World} (ty : TypeId) (x : Operand) (ho : o.op = .load ty x) (g : Nat) (hx : a.eval x = .pointer (some ⟨g, 0, none⟩)) (cs : Array Value) (t : TypeId) (d : TypeDesc) (hg : w.heap[g]? = some (.cells cs t)) (hu : P.underlying ty = some d) (hd : (match d with | .struct _ | .array _ _ => true | _ => false) = true) (hi : (P.info? ty).map (·.size) = some cs.size) :
    (execOp a.eval o).run P w = .ok (.value (.agg cs)) w := by
  unfold execOp
  simp only [ho, hx, Instr.loadAt, Instr.sureAddr, Sem.run_bind, Sem.run_pure, Result.andThen_ok, run_loadVar_row w g t ty cs _ d hg hu hd hi]
theorem wpOp_val {i : Nat} {o : Oper} {a : Act} {w : World} {v : Value} {K : Act → World → Prop} (d : Option Tmp) (hi : ops[i]? = some o) (hd : o.dst = d) (hw : Region.wanted o (yielded ops a.tmps) = true) (he : (execOp a.eval o).run P w = .ok (.value v) w) (h : K (a.put d v) w) : wpOp P ops Q i K a w := by
  subst hd
  unfold wpOp
  simp only [hi, hw, if_true]
  refine .inl ?_
  unfold Oper.wp
  rw [he]
  exact h
theorem wpOp_call {i : Nat} {o : Oper} {a : Act} {w : World} {f : FuncId} {args : Array Value} {K : Act → World → Prop} (d : Option Tmp) (hi : ops[i]? = some o) (hd : o.dst = d) (hw : Region.wanted o (yielded ops a.tmps) = true)
    (he : (execOp a.eval o).run P w = .ok (.enter f args) w) (hc : Calls P f args w fun e w' => ∃ v, e = .returned v ∧ K (a.put d v) w') : wpOp P ops Q i K a w := by
  subst hd
  unfold wpOp
  simp only [hi, hw, if_true]
  refine .inl ?_
  unfold Oper.wp
  rw [he]
  show Calls P f args w _
  refine hc.mono ?_
  rintro e w' ⟨v, rfl, h⟩
  exact h
end

end Go.Proofs.YtngopilbpiplhaaGreatDoor
