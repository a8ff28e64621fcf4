/-
  The contract of Word.IsMet at the words that need nothing, and at the word that reads a place.
-/
import Derived.Test.YtngopilbpiplhaaGreatDoorZClE
import Derived.BigFrame
namespace Go.Proofs.YtngopilbpiplhaaGreatDoor
open Go.RowKit
set_option linter.unusedVariables false
set_option linter.unusedSimpArgs false

/-- Are all needs of a line met? (tr, ts: must R and S be set; nd: what else the word needs) -/
def metF (tr ts hr hs nd : Bool) : Bool := if (tr && !hr) || (ts && !hs) then false else nd
abbrev wdB (n p t : ByteArray) (fl : Bool) (a b c d : Value) : Obj := .cells #[.string n, .string p, .string t, .bool fl, a, b, c, d] 140
/-- A word, a claim and a line handed in. -/
structure WCL (w : World) (o : Obj) (c : Cl) (x : Ln) (W : World) : Prop where
  A : W.heap[w.heap.size]? = some o
  B : W.heap[w.heap.size + 1]? = some (clB c)
  C : W.heap[w.heap.size + 1 + 1]? = some (lnB x)
  b : Below w.heap.size w W
theorem wcl_mk (w : World) (o : Obj) (c : Cl) (x : Ln) : WCL w o c x (((w.alloc o).alloc (clB c)).alloc (lnB x)) :=
  ⟨blk_alloc (blk_alloc (blk_new w _) _) _, by have := blk_new (w.alloc o) (clB c); rw [World.size_alloc] at this; exact blk_alloc this _, blk2 w _ _ _,
   (((Below.refl _ _).alloc (Nat.le_refl _) _).alloc (by simp) _).alloc (by simp; omega) _⟩
theorem WCL.below {w W W' : World} {o : Obj} {c : Cl} {x : Ln} (h : WCL w o c x W) (hb : Below W.heap.size W W') : WCL w o c x W' :=
  ⟨(hb.block _ (blk_lt h.A)).trans h.A, (hb.block _ (blk_lt h.B)).trans h.B, (hb.block _ (blk_lt h.C)).trans h.C, h.b.trans (hb.mono h.b.size)⟩

theorem WCL.old {w W : World} {o z : Obj} {c : Cl} {x : Ln} {k : Nat} (h : WCL w o c x W) (hk : w.heap[k]? = some z) : W.heap[k]? = some z := (h.b.block k (blk_lt hk)).trans hk

theorem wpList_wantRow {ops : Array Oper} {rest : List Oper} {o : Oper} {a : Act} {w : World} {Q : Exit → Act → World → Prop} (ty : TypeId) (x : Operand) (ho : o.op = .load ty x) (g : Nat) (hx : a.eval x = .pointer (some ⟨g, 0, none⟩)) (t : TypeId) (cs : Array Value) (fr : Nat × Nat) (d : TypeDesc) (hg : w.heap[g]? = some (.cells cs t fr))
    (hd : (match d with | .struct _ | .array _ _ => true | _ => false) = true) (hu : Tryz.prog.underlying ty = some d) (hi : (Tryz.prog.info? ty).map (·.size) = some cs.size) (hw : Region.wanted o (yielded ops a.tmps) = true)
    (h : wpList Tryz.prog ops Q rest (a.put o.dst (.agg cs)) w) : wpList Tryz.prog ops Q (o :: rest) a w :=
  BigFrame.wpList_want hw fun _ hK => wp_load_row ty x ho g hx t cs fr d hg hu (by cases d <;> first | rfl | exact absurd hd (by simp)) hi (hK _ _ h)

set_option maxRecDepth 100000 in
set_option maxHeartbeats 4000000 in
theorem IsMet_nothing_00 (n p t : ByteArray) (fl : Bool) (f4 : FuncId) (b4 : Array Value) (f6 : FuncId) (b6 : Array Value) (f7 : FuncId) (b7 : Array Value) (c : Cl) (x : Ln) (r s : Nat) (hx : x.r = (r : Int)) (hy : x.s = (s : Int)) (hr : r < 8) (hs : s < 8) (w : World) (h1 : hasB t.data.toList 82 = false) (h2 : hasB t.data.toList 83 = false) :
    Calls Tryz.prog 178 #[.agg #[.string n, .string p, .string t, .bool fl, .func (.func f4) #[] b4, .func (.func 130) #[] #[], .func (.func f6) #[] b6, .func (.func f7) #[] b7], .agg (clCells c), .agg (lnArr x)] w
      fun e w' => e = .returned (.bool (metF (hasB t.data.toList 82) (hasB t.data.toList 83) (c.has r) (c.has s) true)) ∧ Below w.heap.size w w' := by
  obtain ⟨wd, xr, xs, xn⟩ := x
  subst hx hy
  have H1 := hide h1
  have H2 := hide h2
  clear h1 h2
  have hw0 := wcl_mk w (.cells #[.string n, .string p, .string t, .bool fl, .func (.func f4) #[] b4, .func (.func 130) #[] #[], .func (.func f6) #[] b6, .func (.func f7) #[] b7] 140) c ⟨wd, r, s, xn⟩
  unfold lnArr
  go_enter Tryz.func178, Tryz.ntmps178
  go_upto_region 1 with fail
  change Code.wp _ _ _ _ (((w.alloc (.cells #[.string n, .string p, .string t, .bool fl, .func (.func f4) #[] b4, .func (.func 130) #[] #[], .func (.func f6) #[] b6, .func (.func f7) #[] b7] 140)).alloc (clB c)).alloc (lnB ⟨wd, r, s, xn⟩))
  generalize ((w.alloc (.cells #[.string n, .string p, .string t, .bool fl, .func (.func f4) #[] b4, .func (.func 130) #[] #[], .func (.func f6) #[] b6, .func (.func f7) #[] b7] 140)).alloc (clB c)).alloc (lnB ⟨wd, r, s, xn⟩) = w0 at *
  have HT0 := hide hw0
  clear hw0
  have cr0 : w0.cell? ⟨w.heap.size + 1 + 1, 1, none⟩ = some (.int .i64 (r : Int)) := cell_of_blk HT0.out.C 1
  have cs0 : w0.cell? ⟨w.heap.size + 1 + 1, 2, none⟩ = some (.int .i64 (s : Int)) := cell_of_blk HT0.out.C 2
  have cn0 : w0.cell? ⟨w.heap.size, 5, none⟩ = some (.func (.func 130) #[] #[]) := cell_of_blk HT0.out.A 5
  go_wp2_with (first | (refine wpList_wantRow 140 (.tmp 3) rfl w.heap.size rfl _ _ _ _ HT0.out.A rfl Tryz.underlying140 (by kernel_rfl) (by rfl) ?_) | (refine wpList_wantRow 135 (.tmp 4) rfl (w.heap.size + 1) rfl _ _ _ _ HT0.out.B rfl Tryz.underlying135 (by kernel_rfl) (by rfl) ?_) | (refine wpList_wantRow 122 (.tmp 5) rfl (w.heap.size + 1 + 1) rfl _ _ _ _ HT0.out.C rfl Tryz.underlying122 (by kernel_rfl) (by rfl) ?_))
  refine (TakesR_any _ _ _ _ _ _ _ _ _ _ _ _ _).mono ?_
  rintro e w1 ⟨rfl, hb⟩
  have HT1 := hide (HT0.out.below hb)
  clear hb cr0 cs0 cn0
  rw [H1.out]
  have cr1 : w1.cell? ⟨w.heap.size + 1 + 1, 1, none⟩ = some (.int .i64 (r : Int)) := cell_of_blk HT1.out.C 1
  have cs1 : w1.cell? ⟨w.heap.size + 1 + 1, 2, none⟩ = some (.int .i64 (s : Int)) := cell_of_blk HT1.out.C 2
  have cn1 : w1.cell? ⟨w.heap.size, 5, none⟩ = some (.func (.func 130) #[] #[]) := cell_of_blk HT1.out.A 5
  go_wp2_with (first | (refine wpList_wantRow 140 (.tmp 3) rfl w.heap.size rfl _ _ _ _ HT1.out.A rfl Tryz.underlying140 (by kernel_rfl) (by rfl) ?_) | (refine wpList_wantRow 135 (.tmp 4) rfl (w.heap.size + 1) rfl _ _ _ _ HT1.out.B rfl Tryz.underlying135 (by kernel_rfl) (by rfl) ?_) | (refine wpList_wantRow 122 (.tmp 5) rfl (w.heap.size + 1 + 1) rfl _ _ _ _ HT1.out.C rfl Tryz.underlying122 (by kernel_rfl) (by rfl) ?_))
  refine (TakesS_any _ _ _ _ _ _ _ _ _ _ _ _ _).mono ?_
  rintro e w2 ⟨rfl, hb⟩
  have HT2 := hide (HT1.out.below hb)
  clear hb cr1 cs1 cn1
  rw [H2.out]
  have cr2 : w2.cell? ⟨w.heap.size + 1 + 1, 1, none⟩ = some (.int .i64 (r : Int)) := cell_of_blk HT2.out.C 1
  have cs2 : w2.cell? ⟨w.heap.size + 1 + 1, 2, none⟩ = some (.int .i64 (s : Int)) := cell_of_blk HT2.out.C 2
  have cn2 : w2.cell? ⟨w.heap.size, 5, none⟩ = some (.func (.func 130) #[] #[]) := cell_of_blk HT2.out.A 5
  go_wp2_with (first | (refine wpList_wantRow 140 (.tmp 3) rfl w.heap.size rfl _ _ _ _ HT2.out.A rfl Tryz.underlying140 (by kernel_rfl) (by rfl) ?_) | (refine wpList_wantRow 135 (.tmp 4) rfl (w.heap.size + 1) rfl _ _ _ _ HT2.out.B rfl Tryz.underlying135 (by kernel_rfl) (by rfl) ?_) | (refine wpList_wantRow 122 (.tmp 5) rfl (w.heap.size + 1 + 1) rfl _ _ _ _ HT2.out.C rfl Tryz.underlying122 (by kernel_rfl) (by rfl) ?_))
  refine ((nothingC_any c ⟨wd, r, s, xn⟩ _)).mono ?_
  rintro e w3 ⟨rfl, hb⟩
  have HT3 := hide (HT2.out.below (W' := w3) (by rw [hb]; exact ((Below.refl _ _).alloc (Nat.le_refl _) _).alloc (by simp) _))
  clear hb cr2 cs2 cn2
  go_wp2
  go_ret
  exact ⟨by simp [metF, H1.out, H2.out], HT3.out.b⟩

set_option maxRecDepth 100000 in
set_option maxHeartbeats 4000000 in
theorem IsMet_nothing_10 (n p t : ByteArray) (fl : Bool) (f4 : FuncId) (b4 : Array Value) (f6 : FuncId) (b6 : Array Value) (f7 : FuncId) (b7 : Array Value) (c : Cl) (x : Ln) (r s : Nat) (hx : x.r = (r : Int)) (hy : x.s = (s : Int)) (hr : r < 8) (hs : s < 8) (w : World) (h1 : hasB t.data.toList 82 = true) (h2 : hasB t.data.toList 83 = false) :
    Calls Tryz.prog 178 #[.agg #[.string n, .string p, .string t, .bool fl, .func (.func f4) #[] b4, .func (.func 130) #[] #[], .func (.func f6) #[] b6, .func (.func f7) #[] b7], .agg (clCells c), .agg (lnArr x)] w
      fun e w' => e = .returned (.bool (metF (hasB t.data.toList 82) (hasB t.data.toList 83) (c.has r) (c.has s) true)) ∧ Below w.heap.size w w' := by
  obtain ⟨wd, xr, xs, xn⟩ := x
  subst hx hy
  have H1 := hide h1
  have H2 := hide h2
  clear h1 h2
  have hw0 := wcl_mk w (.cells #[.string n, .string p, .string t, .bool fl, .func (.func f4) #[] b4, .func (.func 130) #[] #[], .func (.func f6) #[] b6, .func (.func f7) #[] b7] 140) c ⟨wd, r, s, xn⟩
  unfold lnArr
  go_enter Tryz.func178, Tryz.ntmps178
  go_upto_region 1 with fail
  change Code.wp _ _ _ _ (((w.alloc (.cells #[.string n, .string p, .string t, .bool fl, .func (.func f4) #[] b4, .func (.func 130) #[] #[], .func (.func f6) #[] b6, .func (.func f7) #[] b7] 140)).alloc (clB c)).alloc (lnB ⟨wd, r, s, xn⟩))
  generalize ((w.alloc (.cells #[.string n, .string p, .string t, .bool fl, .func (.func f4) #[] b4, .func (.func 130) #[] #[], .func (.func f6) #[] b6, .func (.func f7) #[] b7] 140)).alloc (clB c)).alloc (lnB ⟨wd, r, s, xn⟩) = w0 at *
  have HT0 := hide hw0
  clear hw0
  cases h3 : c.has r
  · have cr0 : w0.cell? ⟨w.heap.size + 1 + 1, 1, none⟩ = some (.int .i64 (r : Int)) := cell_of_blk HT0.out.C 1
    have cs0 : w0.cell? ⟨w.heap.size + 1 + 1, 2, none⟩ = some (.int .i64 (s : Int)) := cell_of_blk HT0.out.C 2
    have cn0 : w0.cell? ⟨w.heap.size, 5, none⟩ = some (.func (.func 130) #[] #[]) := cell_of_blk HT0.out.A 5
    go_wp2_with (first | (refine wpList_wantRow 140 (.tmp 3) rfl w.heap.size rfl _ _ _ _ HT0.out.A rfl Tryz.underlying140 (by kernel_rfl) (by rfl) ?_) | (refine wpList_wantRow 135 (.tmp 4) rfl (w.heap.size + 1) rfl _ _ _ _ HT0.out.B rfl Tryz.underlying135 (by kernel_rfl) (by rfl) ?_) | (refine wpList_wantRow 122 (.tmp 5) rfl (w.heap.size + 1 + 1) rfl _ _ _ _ HT0.out.C rfl Tryz.underlying122 (by kernel_rfl) (by rfl) ?_))
    refine (TakesR_any _ _ _ _ _ _ _ _ _ _ _ _ _).mono ?_
    rintro e w1 ⟨rfl, hb⟩
    have HT1 := hide (HT0.out.below hb)
    clear hb cr0 cs0 cn0
    rw [H1.out]
    have cr1 : w1.cell? ⟨w.heap.size + 1 + 1, 1, none⟩ = some (.int .i64 (r : Int)) := cell_of_blk HT1.out.C 1
    have cs1 : w1.cell? ⟨w.heap.size + 1 + 1, 2, none⟩ = some (.int .i64 (s : Int)) := cell_of_blk HT1.out.C 2
    have cn1 : w1.cell? ⟨w.heap.size, 5, none⟩ = some (.func (.func 130) #[] #[]) := cell_of_blk HT1.out.A 5
    go_wp2_with (first | (refine wpList_wantRow 140 (.tmp 3) rfl w.heap.size rfl _ _ _ _ HT1.out.A rfl Tryz.underlying140 (by kernel_rfl) (by rfl) ?_) | (refine wpList_wantRow 135 (.tmp 4) rfl (w.heap.size + 1) rfl _ _ _ _ HT1.out.B rfl Tryz.underlying135 (by kernel_rfl) (by rfl) ?_) | (refine wpList_wantRow 122 (.tmp 5) rfl (w.heap.size + 1 + 1) rfl _ _ _ _ HT1.out.C rfl Tryz.underlying122 (by kernel_rfl) (by rfl) ?_))
    refine (Has_any c r hr _).mono ?_
    rintro e w2 ⟨rfl, hb⟩
    have HT2 := hide (HT1.out.below (W' := w2) (by rw [hb]; exact (Below.refl _ _).alloc (Nat.le_refl _) _))
    clear hb cr1 cs1 cn1
    rw [h3]
    go_wp2
    go_ret
    exact ⟨by simp [metF, H1.out, H2.out, h3], HT2.out.b⟩
  · have cr0 : w0.cell? ⟨w.heap.size + 1 + 1, 1, none⟩ = some (.int .i64 (r : Int)) := cell_of_blk HT0.out.C 1
    have cs0 : w0.cell? ⟨w.heap.size + 1 + 1, 2, none⟩ = some (.int .i64 (s : Int)) := cell_of_blk HT0.out.C 2
    have cn0 : w0.cell? ⟨w.heap.size, 5, none⟩ = some (.func (.func 130) #[] #[]) := cell_of_blk HT0.out.A 5
    go_wp2_with (first | (refine wpList_wantRow 140 (.tmp 3) rfl w.heap.size rfl _ _ _ _ HT0.out.A rfl Tryz.underlying140 (by kernel_rfl) (by rfl) ?_) | (refine wpList_wantRow 135 (.tmp 4) rfl (w.heap.size + 1) rfl _ _ _ _ HT0.out.B rfl Tryz.underlying135 (by kernel_rfl) (by rfl) ?_) | (refine wpList_wantRow 122 (.tmp 5) rfl (w.heap.size + 1 + 1) rfl _ _ _ _ HT0.out.C rfl Tryz.underlying122 (by kernel_rfl) (by rfl) ?_))
    refine (TakesR_any _ _ _ _ _ _ _ _ _ _ _ _ _).mono ?_
    rintro e w1 ⟨rfl, hb⟩
    have HT1 := hide (HT0.out.below hb)
    clear hb cr0 cs0 cn0
    rw [H1.out]
    have cr1 : w1.cell? ⟨w.heap.size + 1 + 1, 1, none⟩ = some (.int .i64 (r : Int)) := cell_of_blk HT1.out.C 1
    have cs1 : w1.cell? ⟨w.heap.size + 1 + 1, 2, none⟩ = some (.int .i64 (s : Int)) := cell_of_blk HT1.out.C 2
    have cn1 : w1.cell? ⟨w.heap.size, 5, none⟩ = some (.func (.func 130) #[] #[]) := cell_of_blk HT1.out.A 5
    go_wp2_with (first | (refine wpList_wantRow 140 (.tmp 3) rfl w.heap.size rfl _ _ _ _ HT1.out.A rfl Tryz.underlying140 (by kernel_rfl) (by rfl) ?_) | (refine wpList_wantRow 135 (.tmp 4) rfl (w.heap.size + 1) rfl _ _ _ _ HT1.out.B rfl Tryz.underlying135 (by kernel_rfl) (by rfl) ?_) | (refine wpList_wantRow 122 (.tmp 5) rfl (w.heap.size + 1 + 1) rfl _ _ _ _ HT1.out.C rfl Tryz.underlying122 (by kernel_rfl) (by rfl) ?_))
    refine (Has_any c r hr _).mono ?_
    rintro e w2 ⟨rfl, hb⟩
    have HT2 := hide (HT1.out.below (W' := w2) (by rw [hb]; exact (Below.refl _ _).alloc (Nat.le_refl _) _))
    clear hb cr1 cs1 cn1
    rw [h3]
    have cr2 : w2.cell? ⟨w.heap.size + 1 + 1, 1, none⟩ = some (.int .i64 (r : Int)) := cell_of_blk HT2.out.C 1
    have cs2 : w2.cell? ⟨w.heap.size + 1 + 1, 2, none⟩ = some (.int .i64 (s : Int)) := cell_of_blk HT2.out.C 2
    have cn2 : w2.cell? ⟨w.heap.size, 5, none⟩ = some (.func (.func 130) #[] #[]) := cell_of_blk HT2.out.A 5
    go_wp2_with (first | (refine wpList_wantRow 140 (.tmp 3) rfl w.heap.size rfl _ _ _ _ HT2.out.A rfl Tryz.underlying140 (by kernel_rfl) (by rfl) ?_) | (refine wpList_wantRow 135 (.tmp 4) rfl (w.heap.size + 1) rfl _ _ _ _ HT2.out.B rfl Tryz.underlying135 (by kernel_rfl) (by rfl) ?_) | (refine wpList_wantRow 122 (.tmp 5) rfl (w.heap.size + 1 + 1) rfl _ _ _ _ HT2.out.C rfl Tryz.underlying122 (by kernel_rfl) (by rfl) ?_))
    refine (TakesS_any _ _ _ _ _ _ _ _ _ _ _ _ _).mono ?_
    rintro e w3 ⟨rfl, hb⟩
    have HT3 := hide (HT2.out.below hb)
    clear hb cr2 cs2 cn2
    rw [H2.out]
    have cr3 : w3.cell? ⟨w.heap.size + 1 + 1, 1, none⟩ = some (.int .i64 (r : Int)) := cell_of_blk HT3.out.C 1
    have cs3 : w3.cell? ⟨w.heap.size + 1 + 1, 2, none⟩ = some (.int .i64 (s : Int)) := cell_of_blk HT3.out.C 2
    have cn3 : w3.cell? ⟨w.heap.size, 5, none⟩ = some (.func (.func 130) #[] #[]) := cell_of_blk HT3.out.A 5
    go_wp2_with (first | (refine wpList_wantRow 140 (.tmp 3) rfl w.heap.size rfl _ _ _ _ HT3.out.A rfl Tryz.underlying140 (by kernel_rfl) (by rfl) ?_) | (refine wpList_wantRow 135 (.tmp 4) rfl (w.heap.size + 1) rfl _ _ _ _ HT3.out.B rfl Tryz.underlying135 (by kernel_rfl) (by rfl) ?_) | (refine wpList_wantRow 122 (.tmp 5) rfl (w.heap.size + 1 + 1) rfl _ _ _ _ HT3.out.C rfl Tryz.underlying122 (by kernel_rfl) (by rfl) ?_))
    refine ((nothingC_any c ⟨wd, r, s, xn⟩ _)).mono ?_
    rintro e w4 ⟨rfl, hb⟩
    have HT4 := hide (HT3.out.below (W' := w4) (by rw [hb]; exact ((Below.refl _ _).alloc (Nat.le_refl _) _).alloc (by simp) _))
    clear hb cr3 cs3 cn3
    go_wp2
    go_ret
    exact ⟨by simp [metF, H1.out, H2.out, h3], HT4.out.b⟩

set_option maxRecDepth 100000 in
set_option maxHeartbeats 4000000 in
theorem IsMet_nothing_11 (n p t : ByteArray) (fl : Bool) (f4 : FuncId) (b4 : Array Value) (f6 : FuncId) (b6 : Array Value) (f7 : FuncId) (b7 : Array Value) (c : Cl) (x : Ln) (r s : Nat) (hx : x.r = (r : Int)) (hy : x.s = (s : Int)) (hr : r < 8) (hs : s < 8) (w : World) (h1 : hasB t.data.toList 82 = true) (h2 : hasB t.data.toList 83 = true) :
    Calls Tryz.prog 178 #[.agg #[.string n, .string p, .string t, .bool fl, .func (.func f4) #[] b4, .func (.func 130) #[] #[], .func (.func f6) #[] b6, .func (.func f7) #[] b7], .agg (clCells c), .agg (lnArr x)] w
      fun e w' => e = .returned (.bool (metF (hasB t.data.toList 82) (hasB t.data.toList 83) (c.has r) (c.has s) true)) ∧ Below w.heap.size w w' := by
  obtain ⟨wd, xr, xs, xn⟩ := x
  subst hx hy
  have H1 := hide h1
  have H2 := hide h2
  clear h1 h2
  have hw0 := wcl_mk w (.cells #[.string n, .string p, .string t, .bool fl, .func (.func f4) #[] b4, .func (.func 130) #[] #[], .func (.func f6) #[] b6, .func (.func f7) #[] b7] 140) c ⟨wd, r, s, xn⟩
  unfold lnArr
  go_enter Tryz.func178, Tryz.ntmps178
  go_upto_region 1 with fail
  change Code.wp _ _ _ _ (((w.alloc (.cells #[.string n, .string p, .string t, .bool fl, .func (.func f4) #[] b4, .func (.func 130) #[] #[], .func (.func f6) #[] b6, .func (.func f7) #[] b7] 140)).alloc (clB c)).alloc (lnB ⟨wd, r, s, xn⟩))
  generalize ((w.alloc (.cells #[.string n, .string p, .string t, .bool fl, .func (.func f4) #[] b4, .func (.func 130) #[] #[], .func (.func f6) #[] b6, .func (.func f7) #[] b7] 140)).alloc (clB c)).alloc (lnB ⟨wd, r, s, xn⟩) = w0 at *
  have HT0 := hide hw0
  clear hw0
  cases h3 : c.has r
  · have cr0 : w0.cell? ⟨w.heap.size + 1 + 1, 1, none⟩ = some (.int .i64 (r : Int)) := cell_of_blk HT0.out.C 1
    have cs0 : w0.cell? ⟨w.heap.size + 1 + 1, 2, none⟩ = some (.int .i64 (s : Int)) := cell_of_blk HT0.out.C 2
    have cn0 : w0.cell? ⟨w.heap.size, 5, none⟩ = some (.func (.func 130) #[] #[]) := cell_of_blk HT0.out.A 5
    go_wp2_with (first | (refine wpList_wantRow 140 (.tmp 3) rfl w.heap.size rfl _ _ _ _ HT0.out.A rfl Tryz.underlying140 (by kernel_rfl) (by rfl) ?_) | (refine wpList_wantRow 135 (.tmp 4) rfl (w.heap.size + 1) rfl _ _ _ _ HT0.out.B rfl Tryz.underlying135 (by kernel_rfl) (by rfl) ?_) | (refine wpList_wantRow 122 (.tmp 5) rfl (w.heap.size + 1 + 1) rfl _ _ _ _ HT0.out.C rfl Tryz.underlying122 (by kernel_rfl) (by rfl) ?_))
    refine (TakesR_any _ _ _ _ _ _ _ _ _ _ _ _ _).mono ?_
    rintro e w1 ⟨rfl, hb⟩
    have HT1 := hide (HT0.out.below hb)
    clear hb cr0 cs0 cn0
    rw [H1.out]
    have cr1 : w1.cell? ⟨w.heap.size + 1 + 1, 1, none⟩ = some (.int .i64 (r : Int)) := cell_of_blk HT1.out.C 1
    have cs1 : w1.cell? ⟨w.heap.size + 1 + 1, 2, none⟩ = some (.int .i64 (s : Int)) := cell_of_blk HT1.out.C 2
    have cn1 : w1.cell? ⟨w.heap.size, 5, none⟩ = some (.func (.func 130) #[] #[]) := cell_of_blk HT1.out.A 5
    go_wp2_with (first | (refine wpList_wantRow 140 (.tmp 3) rfl w.heap.size rfl _ _ _ _ HT1.out.A rfl Tryz.underlying140 (by kernel_rfl) (by rfl) ?_) | (refine wpList_wantRow 135 (.tmp 4) rfl (w.heap.size + 1) rfl _ _ _ _ HT1.out.B rfl Tryz.underlying135 (by kernel_rfl) (by rfl) ?_) | (refine wpList_wantRow 122 (.tmp 5) rfl (w.heap.size + 1 + 1) rfl _ _ _ _ HT1.out.C rfl Tryz.underlying122 (by kernel_rfl) (by rfl) ?_))
    refine (Has_any c r hr _).mono ?_
    rintro e w2 ⟨rfl, hb⟩
    have HT2 := hide (HT1.out.below (W' := w2) (by rw [hb]; exact (Below.refl _ _).alloc (Nat.le_refl _) _))
    clear hb cr1 cs1 cn1
    rw [h3]
    go_wp2
    go_ret
    exact ⟨by simp [metF, H1.out, H2.out, h3], HT2.out.b⟩
  · cases h4 : c.has s
    · have cr0 : w0.cell? ⟨w.heap.size + 1 + 1, 1, none⟩ = some (.int .i64 (r : Int)) := cell_of_blk HT0.out.C 1
      have cs0 : w0.cell? ⟨w.heap.size + 1 + 1, 2, none⟩ = some (.int .i64 (s : Int)) := cell_of_blk HT0.out.C 2
      have cn0 : w0.cell? ⟨w.heap.size, 5, none⟩ = some (.func (.func 130) #[] #[]) := cell_of_blk HT0.out.A 5
      go_wp2_with (first | (refine wpList_wantRow 140 (.tmp 3) rfl w.heap.size rfl _ _ _ _ HT0.out.A rfl Tryz.underlying140 (by kernel_rfl) (by rfl) ?_) | (refine wpList_wantRow 135 (.tmp 4) rfl (w.heap.size + 1) rfl _ _ _ _ HT0.out.B rfl Tryz.underlying135 (by kernel_rfl) (by rfl) ?_) | (refine wpList_wantRow 122 (.tmp 5) rfl (w.heap.size + 1 + 1) rfl _ _ _ _ HT0.out.C rfl Tryz.underlying122 (by kernel_rfl) (by rfl) ?_))
      refine (TakesR_any _ _ _ _ _ _ _ _ _ _ _ _ _).mono ?_
      rintro e w1 ⟨rfl, hb⟩
      have HT1 := hide (HT0.out.below hb)
      clear hb cr0 cs0 cn0
      rw [H1.out]
      have cr1 : w1.cell? ⟨w.heap.size + 1 + 1, 1, none⟩ = some (.int .i64 (r : Int)) := cell_of_blk HT1.out.C 1
      have cs1 : w1.cell? ⟨w.heap.size + 1 + 1, 2, none⟩ = some (.int .i64 (s : Int)) := cell_of_blk HT1.out.C 2
      have cn1 : w1.cell? ⟨w.heap.size, 5, none⟩ = some (.func (.func 130) #[] #[]) := cell_of_blk HT1.out.A 5
      go_wp2_with (first | (refine wpList_wantRow 140 (.tmp 3) rfl w.heap.size rfl _ _ _ _ HT1.out.A rfl Tryz.underlying140 (by kernel_rfl) (by rfl) ?_) | (refine wpList_wantRow 135 (.tmp 4) rfl (w.heap.size + 1) rfl _ _ _ _ HT1.out.B rfl Tryz.underlying135 (by kernel_rfl) (by rfl) ?_) | (refine wpList_wantRow 122 (.tmp 5) rfl (w.heap.size + 1 + 1) rfl _ _ _ _ HT1.out.C rfl Tryz.underlying122 (by kernel_rfl) (by rfl) ?_))
      refine (Has_any c r hr _).mono ?_
      rintro e w2 ⟨rfl, hb⟩
      have HT2 := hide (HT1.out.below (W' := w2) (by rw [hb]; exact (Below.refl _ _).alloc (Nat.le_refl _) _))
      clear hb cr1 cs1 cn1
      rw [h3]
      have cr2 : w2.cell? ⟨w.heap.size + 1 + 1, 1, none⟩ = some (.int .i64 (r : Int)) := cell_of_blk HT2.out.C 1
      have cs2 : w2.cell? ⟨w.heap.size + 1 + 1, 2, none⟩ = some (.int .i64 (s : Int)) := cell_of_blk HT2.out.C 2
      have cn2 : w2.cell? ⟨w.heap.size, 5, none⟩ = some (.func (.func 130) #[] #[]) := cell_of_blk HT2.out.A 5
      go_wp2_with (first | (refine wpList_wantRow 140 (.tmp 3) rfl w.heap.size rfl _ _ _ _ HT2.out.A rfl Tryz.underlying140 (by kernel_rfl) (by rfl) ?_) | (refine wpList_wantRow 135 (.tmp 4) rfl (w.heap.size + 1) rfl _ _ _ _ HT2.out.B rfl Tryz.underlying135 (by kernel_rfl) (by rfl) ?_) | (refine wpList_wantRow 122 (.tmp 5) rfl (w.heap.size + 1 + 1) rfl _ _ _ _ HT2.out.C rfl Tryz.underlying122 (by kernel_rfl) (by rfl) ?_))
      refine (TakesS_any _ _ _ _ _ _ _ _ _ _ _ _ _).mono ?_
      rintro e w3 ⟨rfl, hb⟩
      have HT3 := hide (HT2.out.below hb)
      clear hb cr2 cs2 cn2
      rw [H2.out]
      have cr3 : w3.cell? ⟨w.heap.size + 1 + 1, 1, none⟩ = some (.int .i64 (r : Int)) := cell_of_blk HT3.out.C 1
      have cs3 : w3.cell? ⟨w.heap.size + 1 + 1, 2, none⟩ = some (.int .i64 (s : Int)) := cell_of_blk HT3.out.C 2
      have cn3 : w3.cell? ⟨w.heap.size, 5, none⟩ = some (.func (.func 130) #[] #[]) := cell_of_blk HT3.out.A 5
      go_wp2_with (first | (refine wpList_wantRow 140 (.tmp 3) rfl w.heap.size rfl _ _ _ _ HT3.out.A rfl Tryz.underlying140 (by kernel_rfl) (by rfl) ?_) | (refine wpList_wantRow 135 (.tmp 4) rfl (w.heap.size + 1) rfl _ _ _ _ HT3.out.B rfl Tryz.underlying135 (by kernel_rfl) (by rfl) ?_) | (refine wpList_wantRow 122 (.tmp 5) rfl (w.heap.size + 1 + 1) rfl _ _ _ _ HT3.out.C rfl Tryz.underlying122 (by kernel_rfl) (by rfl) ?_))
      refine (Has_any c s hs _).mono ?_
      rintro e w4 ⟨rfl, hb⟩
      have HT4 := hide (HT3.out.below (W' := w4) (by rw [hb]; exact (Below.refl _ _).alloc (Nat.le_refl _) _))
      clear hb cr3 cs3 cn3
      rw [h4]
      go_wp2
      go_ret
      exact ⟨by simp [metF, H1.out, H2.out, h3, h4], HT4.out.b⟩
    · have cr0 : w0.cell? ⟨w.heap.size + 1 + 1, 1, none⟩ = some (.int .i64 (r : Int)) := cell_of_blk HT0.out.C 1
      have cs0 : w0.cell? ⟨w.heap.size + 1 + 1, 2, none⟩ = some (.int .i64 (s : Int)) := cell_of_blk HT0.out.C 2
      have cn0 : w0.cell? ⟨w.heap.size, 5, none⟩ = some (.func (.func 130) #[] #[]) := cell_of_blk HT0.out.A 5
      go_wp2_with (first | (refine wpList_wantRow 140 (.tmp 3) rfl w.heap.size rfl _ _ _ _ HT0.out.A rfl Tryz.underlying140 (by kernel_rfl) (by rfl) ?_) | (refine wpList_wantRow 135 (.tmp 4) rfl (w.heap.size + 1) rfl _ _ _ _ HT0.out.B rfl Tryz.underlying135 (by kernel_rfl) (by rfl) ?_) | (refine wpList_wantRow 122 (.tmp 5) rfl (w.heap.size + 1 + 1) rfl _ _ _ _ HT0.out.C rfl Tryz.underlying122 (by kernel_rfl) (by rfl) ?_))
      refine (TakesR_any _ _ _ _ _ _ _ _ _ _ _ _ _).mono ?_
      rintro e w1 ⟨rfl, hb⟩
      have HT1 := hide (HT0.out.below hb)
      clear hb cr0 cs0 cn0
      rw [H1.out]
      have cr1 : w1.cell? ⟨w.heap.size + 1 + 1, 1, none⟩ = some (.int .i64 (r : Int)) := cell_of_blk HT1.out.C 1
      have cs1 : w1.cell? ⟨w.heap.size + 1 + 1, 2, none⟩ = some (.int .i64 (s : Int)) := cell_of_blk HT1.out.C 2
      have cn1 : w1.cell? ⟨w.heap.size, 5, none⟩ = some (.func (.func 130) #[] #[]) := cell_of_blk HT1.out.A 5
      go_wp2_with (first | (refine wpList_wantRow 140 (.tmp 3) rfl w.heap.size rfl _ _ _ _ HT1.out.A rfl Tryz.underlying140 (by kernel_rfl) (by rfl) ?_) | (refine wpList_wantRow 135 (.tmp 4) rfl (w.heap.size + 1) rfl _ _ _ _ HT1.out.B rfl Tryz.underlying135 (by kernel_rfl) (by rfl) ?_) | (refine wpList_wantRow 122 (.tmp 5) rfl (w.heap.size + 1 + 1) rfl _ _ _ _ HT1.out.C rfl Tryz.underlying122 (by kernel_rfl) (by rfl) ?_))
      refine (Has_any c r hr _).mono ?_
      rintro e w2 ⟨rfl, hb⟩
      have HT2 := hide (HT1.out.below (W' := w2) (by rw [hb]; exact (Below.refl _ _).alloc (Nat.le_refl _) _))
      clear hb cr1 cs1 cn1
      rw [h3]
      have cr2 : w2.cell? ⟨w.heap.size + 1 + 1, 1, none⟩ = some (.int .i64 (r : Int)) := cell_of_blk HT2.out.C 1
      have cs2 : w2.cell? ⟨w.heap.size + 1 + 1, 2, none⟩ = some (.int .i64 (s : Int)) := cell_of_blk HT2.out.C 2
      have cn2 : w2.cell? ⟨w.heap.size, 5, none⟩ = some (.func (.func 130) #[] #[]) := cell_of_blk HT2.out.A 5
      go_wp2_with (first | (refine wpList_wantRow 140 (.tmp 3) rfl w.heap.size rfl _ _ _ _ HT2.out.A rfl Tryz.underlying140 (by kernel_rfl) (by rfl) ?_) | (refine wpList_wantRow 135 (.tmp 4) rfl (w.heap.size + 1) rfl _ _ _ _ HT2.out.B rfl Tryz.underlying135 (by kernel_rfl) (by rfl) ?_) | (refine wpList_wantRow 122 (.tmp 5) rfl (w.heap.size + 1 + 1) rfl _ _ _ _ HT2.out.C rfl Tryz.underlying122 (by kernel_rfl) (by rfl) ?_))
      refine (TakesS_any _ _ _ _ _ _ _ _ _ _ _ _ _).mono ?_
      rintro e w3 ⟨rfl, hb⟩
      have HT3 := hide (HT2.out.below hb)
      clear hb cr2 cs2 cn2
      rw [H2.out]
      have cr3 : w3.cell? ⟨w.heap.size + 1 + 1, 1, none⟩ = some (.int .i64 (r : Int)) := cell_of_blk HT3.out.C 1
      have cs3 : w3.cell? ⟨w.heap.size + 1 + 1, 2, none⟩ = some (.int .i64 (s : Int)) := cell_of_blk HT3.out.C 2
      have cn3 : w3.cell? ⟨w.heap.size, 5, none⟩ = some (.func (.func 130) #[] #[]) := cell_of_blk HT3.out.A 5
      go_wp2_with (first | (refine wpList_wantRow 140 (.tmp 3) rfl w.heap.size rfl _ _ _ _ HT3.out.A rfl Tryz.underlying140 (by kernel_rfl) (by rfl) ?_) | (refine wpList_wantRow 135 (.tmp 4) rfl (w.heap.size + 1) rfl _ _ _ _ HT3.out.B rfl Tryz.underlying135 (by kernel_rfl) (by rfl) ?_) | (refine wpList_wantRow 122 (.tmp 5) rfl (w.heap.size + 1 + 1) rfl _ _ _ _ HT3.out.C rfl Tryz.underlying122 (by kernel_rfl) (by rfl) ?_))
      refine (Has_any c s hs _).mono ?_
      rintro e w4 ⟨rfl, hb⟩
      have HT4 := hide (HT3.out.below (W' := w4) (by rw [hb]; exact (Below.refl _ _).alloc (Nat.le_refl _) _))
      clear hb cr3 cs3 cn3
      rw [h4]
      have cr4 : w4.cell? ⟨w.heap.size + 1 + 1, 1, none⟩ = some (.int .i64 (r : Int)) := cell_of_blk HT4.out.C 1
      have cs4 : w4.cell? ⟨w.heap.size + 1 + 1, 2, none⟩ = some (.int .i64 (s : Int)) := cell_of_blk HT4.out.C 2
      have cn4 : w4.cell? ⟨w.heap.size, 5, none⟩ = some (.func (.func 130) #[] #[]) := cell_of_blk HT4.out.A 5
      go_wp2_with (first | (refine wpList_wantRow 140 (.tmp 3) rfl w.heap.size rfl _ _ _ _ HT4.out.A rfl Tryz.underlying140 (by kernel_rfl) (by rfl) ?_) | (refine wpList_wantRow 135 (.tmp 4) rfl (w.heap.size + 1) rfl _ _ _ _ HT4.out.B rfl Tryz.underlying135 (by kernel_rfl) (by rfl) ?_) | (refine wpList_wantRow 122 (.tmp 5) rfl (w.heap.size + 1 + 1) rfl _ _ _ _ HT4.out.C rfl Tryz.underlying122 (by kernel_rfl) (by rfl) ?_))
      refine ((nothingC_any c ⟨wd, r, s, xn⟩ _)).mono ?_
      rintro e w5 ⟨rfl, hb⟩
      have HT5 := hide (HT4.out.below (W' := w5) (by rw [hb]; exact ((Below.refl _ _).alloc (Nat.le_refl _) _).alloc (by simp) _))
      clear hb cr4 cs4 cn4
      go_wp2
      go_ret
      exact ⟨by simp [metF, H1.out, H2.out, h3, h4], HT5.out.b⟩

set_option maxRecDepth 100000 in
set_option maxHeartbeats 4000000 in
theorem IsMet_placeS_01 (n p t : ByteArray) (fl : Bool) (f4 : FuncId) (b4 : Array Value) (f6 : FuncId) (b6 : Array Value) (f7 : FuncId) (b7 : Array Value) (c : Cl) (x : Ln) (r s : Nat) (hx : x.r = (r : Int)) (hy : x.s = (s : Int)) (hr : r < 8) (hs : s < 8) (w : World) (cb : Nat) (q : Int) (hc : w.heap[cb]? = some (.cells #[.int .i64 q] 2)) (h1 : hasB t.data.toList 82 = false) (h2 : hasB t.data.toList 83 = true) :
    Calls Tryz.prog 178 #[.agg #[.string n, .string p, .string t, .bool fl, .func (.func f4) #[] b4, .func (.func 145) #[] #[.pointer (some ⟨cb, 0, none⟩)], .func (.func f6) #[] b6, .func (.func f7) #[] b7], .agg (clCells c), .agg (lnArr x)] w
      fun e w' => e = .returned (.bool (metF (hasB t.data.toList 82) (hasB t.data.toList 83) (c.has r) (c.has s) (decide (0 ≤ c.lo s) && decide (c.hi s < q)))) ∧ Below w.heap.size w w' := by
  obtain ⟨wd, xr, xs, xn⟩ := x
  subst hx hy
  have H1 := hide h1
  have H2 := hide h2
  clear h1 h2
  have HCB := hide hc
  clear hc
  have hw0 := wcl_mk w (.cells #[.string n, .string p, .string t, .bool fl, .func (.func f4) #[] b4, .func (.func 145) #[] #[.pointer (some ⟨cb, 0, none⟩)], .func (.func f6) #[] b6, .func (.func f7) #[] b7] 140) c ⟨wd, r, s, xn⟩
  unfold lnArr
  go_enter Tryz.func178, Tryz.ntmps178
  go_upto_region 1 with fail
  change Code.wp _ _ _ _ (((w.alloc (.cells #[.string n, .string p, .string t, .bool fl, .func (.func f4) #[] b4, .func (.func 145) #[] #[.pointer (some ⟨cb, 0, none⟩)], .func (.func f6) #[] b6, .func (.func f7) #[] b7] 140)).alloc (clB c)).alloc (lnB ⟨wd, r, s, xn⟩))
  generalize ((w.alloc (.cells #[.string n, .string p, .string t, .bool fl, .func (.func f4) #[] b4, .func (.func 145) #[] #[.pointer (some ⟨cb, 0, none⟩)], .func (.func f6) #[] b6, .func (.func f7) #[] b7] 140)).alloc (clB c)).alloc (lnB ⟨wd, r, s, xn⟩) = w0 at *
  have HT0 := hide hw0
  clear hw0
  cases h4 : c.has s
  · have cr0 : w0.cell? ⟨w.heap.size + 1 + 1, 1, none⟩ = some (.int .i64 (r : Int)) := cell_of_blk HT0.out.C 1
    have cs0 : w0.cell? ⟨w.heap.size + 1 + 1, 2, none⟩ = some (.int .i64 (s : Int)) := cell_of_blk HT0.out.C 2
    have cn0 : w0.cell? ⟨w.heap.size, 5, none⟩ = some (.func (.func 145) #[] #[.pointer (some ⟨cb, 0, none⟩)]) := cell_of_blk HT0.out.A 5
    go_wp2_with (first | (refine wpList_wantRow 140 (.tmp 3) rfl w.heap.size rfl _ _ _ _ HT0.out.A rfl Tryz.underlying140 (by kernel_rfl) (by rfl) ?_) | (refine wpList_wantRow 135 (.tmp 4) rfl (w.heap.size + 1) rfl _ _ _ _ HT0.out.B rfl Tryz.underlying135 (by kernel_rfl) (by rfl) ?_) | (refine wpList_wantRow 122 (.tmp 5) rfl (w.heap.size + 1 + 1) rfl _ _ _ _ HT0.out.C rfl Tryz.underlying122 (by kernel_rfl) (by rfl) ?_))
    refine (TakesR_any _ _ _ _ _ _ _ _ _ _ _ _ _).mono ?_
    rintro e w1 ⟨rfl, hb⟩
    have HT1 := hide (HT0.out.below hb)
    clear hb cr0 cs0 cn0
    rw [H1.out]
    have cr1 : w1.cell? ⟨w.heap.size + 1 + 1, 1, none⟩ = some (.int .i64 (r : Int)) := cell_of_blk HT1.out.C 1
    have cs1 : w1.cell? ⟨w.heap.size + 1 + 1, 2, none⟩ = some (.int .i64 (s : Int)) := cell_of_blk HT1.out.C 2
    have cn1 : w1.cell? ⟨w.heap.size, 5, none⟩ = some (.func (.func 145) #[] #[.pointer (some ⟨cb, 0, none⟩)]) := cell_of_blk HT1.out.A 5
    go_wp2_with (first | (refine wpList_wantRow 140 (.tmp 3) rfl w.heap.size rfl _ _ _ _ HT1.out.A rfl Tryz.underlying140 (by kernel_rfl) (by rfl) ?_) | (refine wpList_wantRow 135 (.tmp 4) rfl (w.heap.size + 1) rfl _ _ _ _ HT1.out.B rfl Tryz.underlying135 (by kernel_rfl) (by rfl) ?_) | (refine wpList_wantRow 122 (.tmp 5) rfl (w.heap.size + 1 + 1) rfl _ _ _ _ HT1.out.C rfl Tryz.underlying122 (by kernel_rfl) (by rfl) ?_))
    refine (TakesS_any _ _ _ _ _ _ _ _ _ _ _ _ _).mono ?_
    rintro e w2 ⟨rfl, hb⟩
    have HT2 := hide (HT1.out.below hb)
    clear hb cr1 cs1 cn1
    rw [H2.out]
    have cr2 : w2.cell? ⟨w.heap.size + 1 + 1, 1, none⟩ = some (.int .i64 (r : Int)) := cell_of_blk HT2.out.C 1
    have cs2 : w2.cell? ⟨w.heap.size + 1 + 1, 2, none⟩ = some (.int .i64 (s : Int)) := cell_of_blk HT2.out.C 2
    have cn2 : w2.cell? ⟨w.heap.size, 5, none⟩ = some (.func (.func 145) #[] #[.pointer (some ⟨cb, 0, none⟩)]) := cell_of_blk HT2.out.A 5
    go_wp2_with (first | (refine wpList_wantRow 140 (.tmp 3) rfl w.heap.size rfl _ _ _ _ HT2.out.A rfl Tryz.underlying140 (by kernel_rfl) (by rfl) ?_) | (refine wpList_wantRow 135 (.tmp 4) rfl (w.heap.size + 1) rfl _ _ _ _ HT2.out.B rfl Tryz.underlying135 (by kernel_rfl) (by rfl) ?_) | (refine wpList_wantRow 122 (.tmp 5) rfl (w.heap.size + 1 + 1) rfl _ _ _ _ HT2.out.C rfl Tryz.underlying122 (by kernel_rfl) (by rfl) ?_))
    refine (Has_any c s hs _).mono ?_
    rintro e w3 ⟨rfl, hb⟩
    have HT3 := hide (HT2.out.below (W' := w3) (by rw [hb]; exact (Below.refl _ _).alloc (Nat.le_refl _) _))
    clear hb cr2 cs2 cn2
    rw [h4]
    go_wp2
    go_ret
    exact ⟨by simp [metF, H1.out, H2.out, h4], HT3.out.b⟩
  · have cr0 : w0.cell? ⟨w.heap.size + 1 + 1, 1, none⟩ = some (.int .i64 (r : Int)) := cell_of_blk HT0.out.C 1
    have cs0 : w0.cell? ⟨w.heap.size + 1 + 1, 2, none⟩ = some (.int .i64 (s : Int)) := cell_of_blk HT0.out.C 2
    have cn0 : w0.cell? ⟨w.heap.size, 5, none⟩ = some (.func (.func 145) #[] #[.pointer (some ⟨cb, 0, none⟩)]) := cell_of_blk HT0.out.A 5
    go_wp2_with (first | (refine wpList_wantRow 140 (.tmp 3) rfl w.heap.size rfl _ _ _ _ HT0.out.A rfl Tryz.underlying140 (by kernel_rfl) (by rfl) ?_) | (refine wpList_wantRow 135 (.tmp 4) rfl (w.heap.size + 1) rfl _ _ _ _ HT0.out.B rfl Tryz.underlying135 (by kernel_rfl) (by rfl) ?_) | (refine wpList_wantRow 122 (.tmp 5) rfl (w.heap.size + 1 + 1) rfl _ _ _ _ HT0.out.C rfl Tryz.underlying122 (by kernel_rfl) (by rfl) ?_))
    refine (TakesR_any _ _ _ _ _ _ _ _ _ _ _ _ _).mono ?_
    rintro e w1 ⟨rfl, hb⟩
    have HT1 := hide (HT0.out.below hb)
    clear hb cr0 cs0 cn0
    rw [H1.out]
    have cr1 : w1.cell? ⟨w.heap.size + 1 + 1, 1, none⟩ = some (.int .i64 (r : Int)) := cell_of_blk HT1.out.C 1
    have cs1 : w1.cell? ⟨w.heap.size + 1 + 1, 2, none⟩ = some (.int .i64 (s : Int)) := cell_of_blk HT1.out.C 2
    have cn1 : w1.cell? ⟨w.heap.size, 5, none⟩ = some (.func (.func 145) #[] #[.pointer (some ⟨cb, 0, none⟩)]) := cell_of_blk HT1.out.A 5
    go_wp2_with (first | (refine wpList_wantRow 140 (.tmp 3) rfl w.heap.size rfl _ _ _ _ HT1.out.A rfl Tryz.underlying140 (by kernel_rfl) (by rfl) ?_) | (refine wpList_wantRow 135 (.tmp 4) rfl (w.heap.size + 1) rfl _ _ _ _ HT1.out.B rfl Tryz.underlying135 (by kernel_rfl) (by rfl) ?_) | (refine wpList_wantRow 122 (.tmp 5) rfl (w.heap.size + 1 + 1) rfl _ _ _ _ HT1.out.C rfl Tryz.underlying122 (by kernel_rfl) (by rfl) ?_))
    refine (TakesS_any _ _ _ _ _ _ _ _ _ _ _ _ _).mono ?_
    rintro e w2 ⟨rfl, hb⟩
    have HT2 := hide (HT1.out.below hb)
    clear hb cr1 cs1 cn1
    rw [H2.out]
    have cr2 : w2.cell? ⟨w.heap.size + 1 + 1, 1, none⟩ = some (.int .i64 (r : Int)) := cell_of_blk HT2.out.C 1
    have cs2 : w2.cell? ⟨w.heap.size + 1 + 1, 2, none⟩ = some (.int .i64 (s : Int)) := cell_of_blk HT2.out.C 2
    have cn2 : w2.cell? ⟨w.heap.size, 5, none⟩ = some (.func (.func 145) #[] #[.pointer (some ⟨cb, 0, none⟩)]) := cell_of_blk HT2.out.A 5
    go_wp2_with (first | (refine wpList_wantRow 140 (.tmp 3) rfl w.heap.size rfl _ _ _ _ HT2.out.A rfl Tryz.underlying140 (by kernel_rfl) (by rfl) ?_) | (refine wpList_wantRow 135 (.tmp 4) rfl (w.heap.size + 1) rfl _ _ _ _ HT2.out.B rfl Tryz.underlying135 (by kernel_rfl) (by rfl) ?_) | (refine wpList_wantRow 122 (.tmp 5) rfl (w.heap.size + 1 + 1) rfl _ _ _ _ HT2.out.C rfl Tryz.underlying122 (by kernel_rfl) (by rfl) ?_))
    refine (Has_any c s hs _).mono ?_
    rintro e w3 ⟨rfl, hb⟩
    have HT3 := hide (HT2.out.below (W' := w3) (by rw [hb]; exact (Below.refl _ _).alloc (Nat.le_refl _) _))
    clear hb cr2 cs2 cn2
    rw [h4]
    have cr3 : w3.cell? ⟨w.heap.size + 1 + 1, 1, none⟩ = some (.int .i64 (r : Int)) := cell_of_blk HT3.out.C 1
    have cs3 : w3.cell? ⟨w.heap.size + 1 + 1, 2, none⟩ = some (.int .i64 (s : Int)) := cell_of_blk HT3.out.C 2
    have cn3 : w3.cell? ⟨w.heap.size, 5, none⟩ = some (.func (.func 145) #[] #[.pointer (some ⟨cb, 0, none⟩)]) := cell_of_blk HT3.out.A 5
    go_wp2_with (first | (refine wpList_wantRow 140 (.tmp 3) rfl w.heap.size rfl _ _ _ _ HT3.out.A rfl Tryz.underlying140 (by kernel_rfl) (by rfl) ?_) | (refine wpList_wantRow 135 (.tmp 4) rfl (w.heap.size + 1) rfl _ _ _ _ HT3.out.B rfl Tryz.underlying135 (by kernel_rfl) (by rfl) ?_) | (refine wpList_wantRow 122 (.tmp 5) rfl (w.heap.size + 1 + 1) rfl _ _ _ _ HT3.out.C rfl Tryz.underlying122 (by kernel_rfl) (by rfl) ?_))
    refine ((placeSC_any c ⟨wd, r, s, xn⟩ s q rfl hs cb _ (WCL.old HT3.out HCB.out))).mono ?_
    rintro e w4 ⟨rfl, hb⟩
    have HT4 := hide (HT3.out.below hb)
    clear hb cr3 cs3 cn3
    go_wp2
    go_ret
    exact ⟨by simp [metF, H1.out, H2.out, h4], HT4.out.b⟩

end Go.Proofs.YtngopilbpiplhaaGreatDoor
