/-
  The contract of Word.IsMet at whatever closure tells the needs.
-/
import Derived.Test.YtngopilbpiplhaaGreatDoorZClM
namespace Go.Proofs.YtngopilbpiplhaaGreatDoor
open Go.RowKit
set_option linter.unusedVariables false
set_option linter.unusedSimpArgs false
set_option maxRecDepth 100000 in
set_option maxHeartbeats 4000000 in
theorem IsMet_gen_00 (n p t : ByteArray) (fl : Bool) (f4 : FuncId) (b4 : Array Value) (f6 : FuncId) (b6 : Array Value) (f7 : FuncId) (b7 : Array Value) (c : Cl) (x : Ln) (r s : Nat) (hx : x.r = (r : Int)) (hy : x.s = (s : Int)) (hr : r < 8) (hs : s < 8) (w : World) (f : FuncId) (hent : ∀ (args : Array Value) (w : World), (callFunc f args).run Tryz.prog w = .ok (.enter f args) w) (bn : Array Value) (nd : Bool) (hF : ∀ W : World, Below w.heap.size w W → Calls Tryz.prog f (#[.agg (clCells c), .agg (lnArr x)] ++ bn) W fun e w' => e = .returned (.bool nd) ∧ Below W.heap.size W w') (h1 : hasB t.data.toList 82 = false) (h2 : hasB t.data.toList 83 = false) :
    Calls Tryz.prog 178 #[.agg #[.string n, .string p, .string t, .bool fl, .func (.func f4) #[] b4, .func (.func f) #[] bn, .func (.func f6) #[] b6, .func (.func f7) #[] b7], .agg (clCells c), .agg (lnArr x)] w
      fun e w' => e = .returned (.bool (metF (hasB t.data.toList 82) (hasB t.data.toList 83) (c.has r) (c.has s) nd)) ∧ Below w.heap.size w w' := by
  obtain ⟨wd, xr, xs, xn⟩ := x
  subst hx hy
  have H1 := hide h1
  have H2 := hide h2
  clear h1 h2
  have HF := hide hF
  clear hF
  have hw0 := wcl_mk w (.cells #[.string n, .string p, .string t, .bool fl, .func (.func f4) #[] b4, .func (.func f) #[] bn, .func (.func f6) #[] b6, .func (.func f7) #[] b7] 140) c ⟨wd, r, s, xn⟩
  unfold lnArr
  go_enter Tryz.func178, Tryz.ntmps178
  go_upto_region 1 with fail
  change Code.wp _ _ _ _ (((w.alloc (.cells #[.string n, .string p, .string t, .bool fl, .func (.func f4) #[] b4, .func (.func f) #[] bn, .func (.func f6) #[] b6, .func (.func f7) #[] b7] 140)).alloc (clB c)).alloc (lnB ⟨wd, r, s, xn⟩))
  generalize ((w.alloc (.cells #[.string n, .string p, .string t, .bool fl, .func (.func f4) #[] b4, .func (.func f) #[] bn, .func (.func f6) #[] b6, .func (.func f7) #[] b7] 140)).alloc (clB c)).alloc (lnB ⟨wd, r, s, xn⟩) = w0 at *
  have HT0 := hide hw0
  clear hw0
  have cr0 : w0.cell? ⟨w.heap.size + 1 + 1, 1, none⟩ = some (.int .i64 (r : Int)) := cell_of_blk HT0.out.C 1
  have cs0 : w0.cell? ⟨w.heap.size + 1 + 1, 2, none⟩ = some (.int .i64 (s : Int)) := cell_of_blk HT0.out.C 2
  have cn0 : w0.cell? ⟨w.heap.size, 5, none⟩ = some (.func (.func f) #[] bn) := cell_of_blk HT0.out.A 5
  go_wp2_with (first | (refine wpList_wantRow 140 (.tmp 3) rfl w.heap.size rfl _ _ _ _ HT0.out.A rfl Tryz.underlying140 (by kernel_rfl) (by rfl) ?_) | (refine wpList_wantRow 135 (.tmp 4) rfl (w.heap.size + 1) rfl _ _ _ _ HT0.out.B rfl Tryz.underlying135 (by kernel_rfl) (by rfl) ?_) | (refine wpList_wantRow 122 (.tmp 5) rfl (w.heap.size + 1 + 1) rfl _ _ _ _ HT0.out.C rfl Tryz.underlying122 (by kernel_rfl) (by rfl) ?_))
  refine (TakesR_any _ _ _ _ _ _ _ _ _ _ _ _ _).mono ?_
  rintro e w1 ⟨rfl, hb⟩
  have HT1 := hide (HT0.out.below hb)
  clear hb cr0 cs0 cn0
  rw [H1.out]
  have cr1 : w1.cell? ⟨w.heap.size + 1 + 1, 1, none⟩ = some (.int .i64 (r : Int)) := cell_of_blk HT1.out.C 1
  have cs1 : w1.cell? ⟨w.heap.size + 1 + 1, 2, none⟩ = some (.int .i64 (s : Int)) := cell_of_blk HT1.out.C 2
  have cn1 : w1.cell? ⟨w.heap.size, 5, none⟩ = some (.func (.func f) #[] bn) := cell_of_blk HT1.out.A 5
  go_wp2_with (first | (refine wpList_wantRow 140 (.tmp 3) rfl w.heap.size rfl _ _ _ _ HT1.out.A rfl Tryz.underlying140 (by kernel_rfl) (by rfl) ?_) | (refine wpList_wantRow 135 (.tmp 4) rfl (w.heap.size + 1) rfl _ _ _ _ HT1.out.B rfl Tryz.underlying135 (by kernel_rfl) (by rfl) ?_) | (refine wpList_wantRow 122 (.tmp 5) rfl (w.heap.size + 1 + 1) rfl _ _ _ _ HT1.out.C rfl Tryz.underlying122 (by kernel_rfl) (by rfl) ?_))
  refine (TakesS_any _ _ _ _ _ _ _ _ _ _ _ _ _).mono ?_
  rintro e w2 ⟨rfl, hb⟩
  have HT2 := hide (HT1.out.below hb)
  clear hb cr1 cs1 cn1
  rw [H2.out]
  have cr2 : w2.cell? ⟨w.heap.size + 1 + 1, 1, none⟩ = some (.int .i64 (r : Int)) := cell_of_blk HT2.out.C 1
  have cs2 : w2.cell? ⟨w.heap.size + 1 + 1, 2, none⟩ = some (.int .i64 (s : Int)) := cell_of_blk HT2.out.C 2
  have cn2 : w2.cell? ⟨w.heap.size, 5, none⟩ = some (.func (.func f) #[] bn) := cell_of_blk HT2.out.A 5
  go_wp2_with (first | (refine wpList_wantRow 140 (.tmp 3) rfl w.heap.size rfl _ _ _ _ HT2.out.A rfl Tryz.underlying140 (by kernel_rfl) (by rfl) ?_) | (refine wpList_wantRow 135 (.tmp 4) rfl (w.heap.size + 1) rfl _ _ _ _ HT2.out.B rfl Tryz.underlying135 (by kernel_rfl) (by rfl) ?_) | (refine wpList_wantRow 122 (.tmp 5) rfl (w.heap.size + 1 + 1) rfl _ _ _ _ HT2.out.C rfl Tryz.underlying122 (by kernel_rfl) (by rfl) ?_))
  refine (HF.out w2 HT2.out.b).mono ?_
  rintro e w3 ⟨rfl, hb⟩
  have HT3 := hide (HT2.out.below hb)
  clear hb cr2 cs2 cn2
  go_wp2
  go_ret
  exact ⟨by simp [metF, H1.out, H2.out], HT3.out.b⟩
set_option maxRecDepth 100000 in
set_option maxHeartbeats 4000000 in
theorem IsMet_gen_10 (n p t : ByteArray) (fl : Bool) (f4 : FuncId) (b4 : Array Value) (f6 : FuncId) (b6 : Array Value) (f7 : FuncId) (b7 : Array Value) (c : Cl) (x : Ln) (r s : Nat) (hx : x.r = (r : Int)) (hy : x.s = (s : Int)) (hr : r < 8) (hs : s < 8) (w : World) (f : FuncId) (hent : ∀ (args : Array Value) (w : World), (callFunc f args).run Tryz.prog w = .ok (.enter f args) w) (bn : Array Value) (nd : Bool) (hF : ∀ W : World, Below w.heap.size w W → Calls Tryz.prog f (#[.agg (clCells c), .agg (lnArr x)] ++ bn) W fun e w' => e = .returned (.bool nd) ∧ Below W.heap.size W w') (h1 : hasB t.data.toList 82 = true) (h2 : hasB t.data.toList 83 = false) :
    Calls Tryz.prog 178 #[.agg #[.string n, .string p, .string t, .bool fl, .func (.func f4) #[] b4, .func (.func f) #[] bn, .func (.func f6) #[] b6, .func (.func f7) #[] b7], .agg (clCells c), .agg (lnArr x)] w
      fun e w' => e = .returned (.bool (metF (hasB t.data.toList 82) (hasB t.data.toList 83) (c.has r) (c.has s) nd)) ∧ Below w.heap.size w w' := by
  obtain ⟨wd, xr, xs, xn⟩ := x
  subst hx hy
  have H1 := hide h1
  have H2 := hide h2
  clear h1 h2
  have HF := hide hF
  clear hF
  have hw0 := wcl_mk w (.cells #[.string n, .string p, .string t, .bool fl, .func (.func f4) #[] b4, .func (.func f) #[] bn, .func (.func f6) #[] b6, .func (.func f7) #[] b7] 140) c ⟨wd, r, s, xn⟩
  unfold lnArr
  go_enter Tryz.func178, Tryz.ntmps178
  go_upto_region 1 with fail
  change Code.wp _ _ _ _ (((w.alloc (.cells #[.string n, .string p, .string t, .bool fl, .func (.func f4) #[] b4, .func (.func f) #[] bn, .func (.func f6) #[] b6, .func (.func f7) #[] b7] 140)).alloc (clB c)).alloc (lnB ⟨wd, r, s, xn⟩))
  generalize ((w.alloc (.cells #[.string n, .string p, .string t, .bool fl, .func (.func f4) #[] b4, .func (.func f) #[] bn, .func (.func f6) #[] b6, .func (.func f7) #[] b7] 140)).alloc (clB c)).alloc (lnB ⟨wd, r, s, xn⟩) = w0 at *
  have HT0 := hide hw0
  clear hw0
  cases h3 : c.has r
  · have cr0 : w0.cell? ⟨w.heap.size + 1 + 1, 1, none⟩ = some (.int .i64 (r : Int)) := cell_of_blk HT0.out.C 1
    have cs0 : w0.cell? ⟨w.heap.size + 1 + 1, 2, none⟩ = some (.int .i64 (s : Int)) := cell_of_blk HT0.out.C 2
    have cn0 : w0.cell? ⟨w.heap.size, 5, none⟩ = some (.func (.func f) #[] bn) := cell_of_blk HT0.out.A 5
    go_wp2_with (first | (refine wpList_wantRow 140 (.tmp 3) rfl w.heap.size rfl _ _ _ _ HT0.out.A rfl Tryz.underlying140 (by kernel_rfl) (by rfl) ?_) | (refine wpList_wantRow 135 (.tmp 4) rfl (w.heap.size + 1) rfl _ _ _ _ HT0.out.B rfl Tryz.underlying135 (by kernel_rfl) (by rfl) ?_) | (refine wpList_wantRow 122 (.tmp 5) rfl (w.heap.size + 1 + 1) rfl _ _ _ _ HT0.out.C rfl Tryz.underlying122 (by kernel_rfl) (by rfl) ?_))
    refine (TakesR_any _ _ _ _ _ _ _ _ _ _ _ _ _).mono ?_
    rintro e w1 ⟨rfl, hb⟩
    have HT1 := hide (HT0.out.below hb)
    clear hb cr0 cs0 cn0
    rw [H1.out]
    have cr1 : w1.cell? ⟨w.heap.size + 1 + 1, 1, none⟩ = some (.int .i64 (r : Int)) := cell_of_blk HT1.out.C 1
    have cs1 : w1.cell? ⟨w.heap.size + 1 + 1, 2, none⟩ = some (.int .i64 (s : Int)) := cell_of_blk HT1.out.C 2
    have cn1 : w1.cell? ⟨w.heap.size, 5, none⟩ = some (.func (.func f) #[] bn) := cell_of_blk HT1.out.A 5
    go_wp2_with (first | (refine wpList_wantRow 140 (.tmp 3) rfl w.heap.size rfl _ _ _ _ HT1.out.A rfl Tryz.underlying140 (by kernel_rfl) (by rfl) ?_) | (refine wpList_wantRow 135 (.tmp 4) rfl (w.heap.size + 1) rfl _ _ _ _ HT1.out.B rfl Tryz.underlying135 (by kernel_rfl) (by rfl) ?_) | (refine wpList_wantRow 122 (.tmp 5) rfl (w.heap.size + 1 + 1) rfl _ _ _ _ HT1.out.C rfl Tryz.underlying122 (by kernel_rfl) (by rfl) ?_))
    refine (Has_any c r hr _).mono ?_
    rintro e w2 ⟨rfl, hb⟩
    have HT2 := hide (HT1.out.below (W' := w2) (by rw [hb]; exact (Below.refl _ _).alloc (Nat.le_refl _) _))
    clear hb cr1 cs1 cn1
    rw [h3]
    go_wp2
    go_ret
    exact ⟨by simp [metF, H1.out, H2.out, h3], HT2.out.b⟩
  · have cr0 : w0.cell? ⟨w.heap.size + 1 + 1, 1, none⟩ = some (.int .i64 (r : Int)) := cell_of_blk HT0.out.C 1
    have cs0 : w0.cell? ⟨w.heap.size + 1 + 1, 2, none⟩ = some (.int .i64 (s : Int)) := cell_of_blk HT0.out.C 2
    have cn0 : w0.cell? ⟨w.heap.size, 5, none⟩ = some (.func (.func f) #[] bn) := cell_of_blk HT0.out.A 5
    go_wp2_with (first | (refine wpList_wantRow 140 (.tmp 3) rfl w.heap.size rfl _ _ _ _ HT0.out.A rfl Tryz.underlying140 (by kernel_rfl) (by rfl) ?_) | (refine wpList_wantRow 135 (.tmp 4) rfl (w.heap.size + 1) rfl _ _ _ _ HT0.out.B rfl Tryz.underlying135 (by kernel_rfl) (by rfl) ?_) | (refine wpList_wantRow 122 (.tmp 5) rfl (w.heap.size + 1 + 1) rfl _ _ _ _ HT0.out.C rfl Tryz.underlying122 (by kernel_rfl) (by rfl) ?_))
    refine (TakesR_any _ _ _ _ _ _ _ _ _ _ _ _ _).mono ?_
    rintro e w1 ⟨rfl, hb⟩
    have HT1 := hide (HT0.out.below hb)
    clear hb cr0 cs0 cn0
    rw [H1.out]
    have cr1 : w1.cell? ⟨w.heap.size + 1 + 1, 1, none⟩ = some (.int .i64 (r : Int)) := cell_of_blk HT1.out.C 1
    have cs1 : w1.cell? ⟨w.heap.size + 1 + 1, 2, none⟩ = some (.int .i64 (s : Int)) := cell_of_blk HT1.out.C 2
    have cn1 : w1.cell? ⟨w.heap.size, 5, none⟩ = some (.func (.func f) #[] bn) := cell_of_blk HT1.out.A 5
    go_wp2_with (first | (refine wpList_wantRow 140 (.tmp 3) rfl w.heap.size rfl _ _ _ _ HT1.out.A rfl Tryz.underlying140 (by kernel_rfl) (by rfl) ?_) | (refine wpList_wantRow 135 (.tmp 4) rfl (w.heap.size + 1) rfl _ _ _ _ HT1.out.B rfl Tryz.underlying135 (by kernel_rfl) (by rfl) ?_) | (refine wpList_wantRow 122 (.tmp 5) rfl (w.heap.size + 1 + 1) rfl _ _ _ _ HT1.out.C rfl Tryz.underlying122 (by kernel_rfl) (by rfl) ?_))
    refine (Has_any c r hr _).mono ?_
    rintro e w2 ⟨rfl, hb⟩
    have HT2 := hide (HT1.out.below (W' := w2) (by rw [hb]; exact (Below.refl _ _).alloc (Nat.le_refl _) _))
    clear hb cr1 cs1 cn1
    rw [h3]
    have cr2 : w2.cell? ⟨w.heap.size + 1 + 1, 1, none⟩ = some (.int .i64 (r : Int)) := cell_of_blk HT2.out.C 1
    have cs2 : w2.cell? ⟨w.heap.size + 1 + 1, 2, none⟩ = some (.int .i64 (s : Int)) := cell_of_blk HT2.out.C 2
    have cn2 : w2.cell? ⟨w.heap.size, 5, none⟩ = some (.func (.func f) #[] bn) := cell_of_blk HT2.out.A 5
    go_wp2_with (first | (refine wpList_wantRow 140 (.tmp 3) rfl w.heap.size rfl _ _ _ _ HT2.out.A rfl Tryz.underlying140 (by kernel_rfl) (by rfl) ?_) | (refine wpList_wantRow 135 (.tmp 4) rfl (w.heap.size + 1) rfl _ _ _ _ HT2.out.B rfl Tryz.underlying135 (by kernel_rfl) (by rfl) ?_) | (refine wpList_wantRow 122 (.tmp 5) rfl (w.heap.size + 1 + 1) rfl _ _ _ _ HT2.out.C rfl Tryz.underlying122 (by kernel_rfl) (by rfl) ?_))
    refine (TakesS_any _ _ _ _ _ _ _ _ _ _ _ _ _).mono ?_
    rintro e w3 ⟨rfl, hb⟩
    have HT3 := hide (HT2.out.below hb)
    clear hb cr2 cs2 cn2
    rw [H2.out]
    have cr3 : w3.cell? ⟨w.heap.size + 1 + 1, 1, none⟩ = some (.int .i64 (r : Int)) := cell_of_blk HT3.out.C 1
    have cs3 : w3.cell? ⟨w.heap.size + 1 + 1, 2, none⟩ = some (.int .i64 (s : Int)) := cell_of_blk HT3.out.C 2
    have cn3 : w3.cell? ⟨w.heap.size, 5, none⟩ = some (.func (.func f) #[] bn) := cell_of_blk HT3.out.A 5
    go_wp2_with (first | (refine wpList_wantRow 140 (.tmp 3) rfl w.heap.size rfl _ _ _ _ HT3.out.A rfl Tryz.underlying140 (by kernel_rfl) (by rfl) ?_) | (refine wpList_wantRow 135 (.tmp 4) rfl (w.heap.size + 1) rfl _ _ _ _ HT3.out.B rfl Tryz.underlying135 (by kernel_rfl) (by rfl) ?_) | (refine wpList_wantRow 122 (.tmp 5) rfl (w.heap.size + 1 + 1) rfl _ _ _ _ HT3.out.C rfl Tryz.underlying122 (by kernel_rfl) (by rfl) ?_))
    refine (HF.out w3 HT3.out.b).mono ?_
    rintro e w4 ⟨rfl, hb⟩
    have HT4 := hide (HT3.out.below hb)
    clear hb cr3 cs3 cn3
    go_wp2
    go_ret
    exact ⟨by simp [metF, H1.out, H2.out, h3], HT4.out.b⟩
set_option maxRecDepth 100000 in
set_option maxHeartbeats 4000000 in
theorem IsMet_gen_01 (n p t : ByteArray) (fl : Bool) (f4 : FuncId) (b4 : Array Value) (f6 : FuncId) (b6 : Array Value) (f7 : FuncId) (b7 : Array Value) (c : Cl) (x : Ln) (r s : Nat) (hx : x.r = (r : Int)) (hy : x.s = (s : Int)) (hr : r < 8) (hs : s < 8) (w : World) (f : FuncId) (hent : ∀ (args : Array Value) (w : World), (callFunc f args).run Tryz.prog w = .ok (.enter f args) w) (bn : Array Value) (nd : Bool) (hF : ∀ W : World, Below w.heap.size w W → Calls Tryz.prog f (#[.agg (clCells c), .agg (lnArr x)] ++ bn) W fun e w' => e = .returned (.bool nd) ∧ Below W.heap.size W w') (h1 : hasB t.data.toList 82 = false) (h2 : hasB t.data.toList 83 = true) :
    Calls Tryz.prog 178 #[.agg #[.string n, .string p, .string t, .bool fl, .func (.func f4) #[] b4, .func (.func f) #[] bn, .func (.func f6) #[] b6, .func (.func f7) #[] b7], .agg (clCells c), .agg (lnArr x)] w
      fun e w' => e = .returned (.bool (metF (hasB t.data.toList 82) (hasB t.data.toList 83) (c.has r) (c.has s) nd)) ∧ Below w.heap.size w w' := by
  obtain ⟨wd, xr, xs, xn⟩ := x
  subst hx hy
  have H1 := hide h1
  have H2 := hide h2
  clear h1 h2
  have HF := hide hF
  clear hF
  have hw0 := wcl_mk w (.cells #[.string n, .string p, .string t, .bool fl, .func (.func f4) #[] b4, .func (.func f) #[] bn, .func (.func f6) #[] b6, .func (.func f7) #[] b7] 140) c ⟨wd, r, s, xn⟩
  unfold lnArr
  go_enter Tryz.func178, Tryz.ntmps178
  go_upto_region 1 with fail
  change Code.wp _ _ _ _ (((w.alloc (.cells #[.string n, .string p, .string t, .bool fl, .func (.func f4) #[] b4, .func (.func f) #[] bn, .func (.func f6) #[] b6, .func (.func f7) #[] b7] 140)).alloc (clB c)).alloc (lnB ⟨wd, r, s, xn⟩))
  generalize ((w.alloc (.cells #[.string n, .string p, .string t, .bool fl, .func (.func f4) #[] b4, .func (.func f) #[] bn, .func (.func f6) #[] b6, .func (.func f7) #[] b7] 140)).alloc (clB c)).alloc (lnB ⟨wd, r, s, xn⟩) = w0 at *
  have HT0 := hide hw0
  clear hw0
  cases h4 : c.has s
  · have cr0 : w0.cell? ⟨w.heap.size + 1 + 1, 1, none⟩ = some (.int .i64 (r : Int)) := cell_of_blk HT0.out.C 1
    have cs0 : w0.cell? ⟨w.heap.size + 1 + 1, 2, none⟩ = some (.int .i64 (s : Int)) := cell_of_blk HT0.out.C 2
    have cn0 : w0.cell? ⟨w.heap.size, 5, none⟩ = some (.func (.func f) #[] bn) := cell_of_blk HT0.out.A 5
    go_wp2_with (first | (refine wpList_wantRow 140 (.tmp 3) rfl w.heap.size rfl _ _ _ _ HT0.out.A rfl Tryz.underlying140 (by kernel_rfl) (by rfl) ?_) | (refine wpList_wantRow 135 (.tmp 4) rfl (w.heap.size + 1) rfl _ _ _ _ HT0.out.B rfl Tryz.underlying135 (by kernel_rfl) (by rfl) ?_) | (refine wpList_wantRow 122 (.tmp 5) rfl (w.heap.size + 1 + 1) rfl _ _ _ _ HT0.out.C rfl Tryz.underlying122 (by kernel_rfl) (by rfl) ?_))
    refine (TakesR_any _ _ _ _ _ _ _ _ _ _ _ _ _).mono ?_
    rintro e w1 ⟨rfl, hb⟩
    have HT1 := hide (HT0.out.below hb)
    clear hb cr0 cs0 cn0
    rw [H1.out]
    have cr1 : w1.cell? ⟨w.heap.size + 1 + 1, 1, none⟩ = some (.int .i64 (r : Int)) := cell_of_blk HT1.out.C 1
    have cs1 : w1.cell? ⟨w.heap.size + 1 + 1, 2, none⟩ = some (.int .i64 (s : Int)) := cell_of_blk HT1.out.C 2
    have cn1 : w1.cell? ⟨w.heap.size, 5, none⟩ = some (.func (.func f) #[] bn) := cell_of_blk HT1.out.A 5
    go_wp2_with (first | (refine wpList_wantRow 140 (.tmp 3) rfl w.heap.size rfl _ _ _ _ HT1.out.A rfl Tryz.underlying140 (by kernel_rfl) (by rfl) ?_) | (refine wpList_wantRow 135 (.tmp 4) rfl (w.heap.size + 1) rfl _ _ _ _ HT1.out.B rfl Tryz.underlying135 (by kernel_rfl) (by rfl) ?_) | (refine wpList_wantRow 122 (.tmp 5) rfl (w.heap.size + 1 + 1) rfl _ _ _ _ HT1.out.C rfl Tryz.underlying122 (by kernel_rfl) (by rfl) ?_))
    refine (TakesS_any _ _ _ _ _ _ _ _ _ _ _ _ _).mono ?_
    rintro e w2 ⟨rfl, hb⟩
    have HT2 := hide (HT1.out.below hb)
    clear hb cr1 cs1 cn1
    rw [H2.out]
    have cr2 : w2.cell? ⟨w.heap.size + 1 + 1, 1, none⟩ = some (.int .i64 (r : Int)) := cell_of_blk HT2.out.C 1
    have cs2 : w2.cell? ⟨w.heap.size + 1 + 1, 2, none⟩ = some (.int .i64 (s : Int)) := cell_of_blk HT2.out.C 2
    have cn2 : w2.cell? ⟨w.heap.size, 5, none⟩ = some (.func (.func f) #[] bn) := cell_of_blk HT2.out.A 5
    go_wp2_with (first | (refine wpList_wantRow 140 (.tmp 3) rfl w.heap.size rfl _ _ _ _ HT2.out.A rfl Tryz.underlying140 (by kernel_rfl) (by rfl) ?_) | (refine wpList_wantRow 135 (.tmp 4) rfl (w.heap.size + 1) rfl _ _ _ _ HT2.out.B rfl Tryz.underlying135 (by kernel_rfl) (by rfl) ?_) | (refine wpList_wantRow 122 (.tmp 5) rfl (w.heap.size + 1 + 1) rfl _ _ _ _ HT2.out.C rfl Tryz.underlying122 (by kernel_rfl) (by rfl) ?_))
    refine (Has_any c s hs _).mono ?_
    rintro e w3 ⟨rfl, hb⟩
    have HT3 := hide (HT2.out.below (W' := w3) (by rw [hb]; exact (Below.refl _ _).alloc (Nat.le_refl _) _))
    clear hb cr2 cs2 cn2
    rw [h4]
    go_wp2
    go_ret
    exact ⟨by simp [metF, H1.out, H2.out, h4], HT3.out.b⟩
  · have cr0 : w0.cell? ⟨w.heap.size + 1 + 1, 1, none⟩ = some (.int .i64 (r : Int)) := cell_of_blk HT0.out.C 1
    have cs0 : w0.cell? ⟨w.heap.size + 1 + 1, 2, none⟩ = some (.int .i64 (s : Int)) := cell_of_blk HT0.out.C 2
    have cn0 : w0.cell? ⟨w.heap.size, 5, none⟩ = some (.func (.func f) #[] bn) := cell_of_blk HT0.out.A 5
    go_wp2_with (first | (refine wpList_wantRow 140 (.tmp 3) rfl w.heap.size rfl _ _ _ _ HT0.out.A rfl Tryz.underlying140 (by kernel_rfl) (by rfl) ?_) | (refine wpList_wantRow 135 (.tmp 4) rfl (w.heap.size + 1) rfl _ _ _ _ HT0.out.B rfl Tryz.underlying135 (by kernel_rfl) (by rfl) ?_) | (refine wpList_wantRow 122 (.tmp 5) rfl (w.heap.size + 1 + 1) rfl _ _ _ _ HT0.out.C rfl Tryz.underlying122 (by kernel_rfl) (by rfl) ?_))
    refine (TakesR_any _ _ _ _ _ _ _ _ _ _ _ _ _).mono ?_
    rintro e w1 ⟨rfl, hb⟩
    have HT1 := hide (HT0.out.below hb)
    clear hb cr0 cs0 cn0
    rw [H1.out]
    have cr1 : w1.cell? ⟨w.heap.size + 1 + 1, 1, none⟩ = some (.int .i64 (r : Int)) := cell_of_blk HT1.out.C 1
    have cs1 : w1.cell? ⟨w.heap.size + 1 + 1, 2, none⟩ = some (.int .i64 (s : Int)) := cell_of_blk HT1.out.C 2
    have cn1 : w1.cell? ⟨w.heap.size, 5, none⟩ = some (.func (.func f) #[] bn) := cell_of_blk HT1.out.A 5
    go_wp2_with (first | (refine wpList_wantRow 140 (.tmp 3) rfl w.heap.size rfl _ _ _ _ HT1.out.A rfl Tryz.underlying140 (by kernel_rfl) (by rfl) ?_) | (refine wpList_wantRow 135 (.tmp 4) rfl (w.heap.size + 1) rfl _ _ _ _ HT1.out.B rfl Tryz.underlying135 (by kernel_rfl) (by rfl) ?_) | (refine wpList_wantRow 122 (.tmp 5) rfl (w.heap.size + 1 + 1) rfl _ _ _ _ HT1.out.C rfl Tryz.underlying122 (by kernel_rfl) (by rfl) ?_))
    refine (TakesS_any _ _ _ _ _ _ _ _ _ _ _ _ _).mono ?_
    rintro e w2 ⟨rfl, hb⟩
    have HT2 := hide (HT1.out.below hb)
    clear hb cr1 cs1 cn1
    rw [H2.out]
    have cr2 : w2.cell? ⟨w.heap.size + 1 + 1, 1, none⟩ = some (.int .i64 (r : Int)) := cell_of_blk HT2.out.C 1
    have cs2 : w2.cell? ⟨w.heap.size + 1 + 1, 2, none⟩ = some (.int .i64 (s : Int)) := cell_of_blk HT2.out.C 2
    have cn2 : w2.cell? ⟨w.heap.size, 5, none⟩ = some (.func (.func f) #[] bn) := cell_of_blk HT2.out.A 5
    go_wp2_with (first | (refine wpList_wantRow 140 (.tmp 3) rfl w.heap.size rfl _ _ _ _ HT2.out.A rfl Tryz.underlying140 (by kernel_rfl) (by rfl) ?_) | (refine wpList_wantRow 135 (.tmp 4) rfl (w.heap.size + 1) rfl _ _ _ _ HT2.out.B rfl Tryz.underlying135 (by kernel_rfl) (by rfl) ?_) | (refine wpList_wantRow 122 (.tmp 5) rfl (w.heap.size + 1 + 1) rfl _ _ _ _ HT2.out.C rfl Tryz.underlying122 (by kernel_rfl) (by rfl) ?_))
    refine (Has_any c s hs _).mono ?_
    rintro e w3 ⟨rfl, hb⟩
    have HT3 := hide (HT2.out.below (W' := w3) (by rw [hb]; exact (Below.refl _ _).alloc (Nat.le_refl _) _))
    clear hb cr2 cs2 cn2
    rw [h4]
    have cr3 : w3.cell? ⟨w.heap.size + 1 + 1, 1, none⟩ = some (.int .i64 (r : Int)) := cell_of_blk HT3.out.C 1
    have cs3 : w3.cell? ⟨w.heap.size + 1 + 1, 2, none⟩ = some (.int .i64 (s : Int)) := cell_of_blk HT3.out.C 2
    have cn3 : w3.cell? ⟨w.heap.size, 5, none⟩ = some (.func (.func f) #[] bn) := cell_of_blk HT3.out.A 5
    go_wp2_with (first | (refine wpList_wantRow 140 (.tmp 3) rfl w.heap.size rfl _ _ _ _ HT3.out.A rfl Tryz.underlying140 (by kernel_rfl) (by rfl) ?_) | (refine wpList_wantRow 135 (.tmp 4) rfl (w.heap.size + 1) rfl _ _ _ _ HT3.out.B rfl Tryz.underlying135 (by kernel_rfl) (by rfl) ?_) | (refine wpList_wantRow 122 (.tmp 5) rfl (w.heap.size + 1 + 1) rfl _ _ _ _ HT3.out.C rfl Tryz.underlying122 (by kernel_rfl) (by rfl) ?_))
    refine (HF.out w3 HT3.out.b).mono ?_
    rintro e w4 ⟨rfl, hb⟩
    have HT4 := hide (HT3.out.below hb)
    clear hb cr3 cs3 cn3
    go_wp2
    go_ret
    exact ⟨by simp [metF, H1.out, H2.out, h4], HT4.out.b⟩
set_option maxRecDepth 100000 in
set_option maxHeartbeats 4000000 in
theorem IsMet_gen_11 (n p t : ByteArray) (fl : Bool) (f4 : FuncId) (b4 : Array Value) (f6 : FuncId) (b6 : Array Value) (f7 : FuncId) (b7 : Array Value) (c : Cl) (x : Ln) (r s : Nat) (hx : x.r = (r : Int)) (hy : x.s = (s : Int)) (hr : r < 8) (hs : s < 8) (w : World) (f : FuncId) (hent : ∀ (args : Array Value) (w : World), (callFunc f args).run Tryz.prog w = .ok (.enter f args) w) (bn : Array Value) (nd : Bool) (hF : ∀ W : World, Below w.heap.size w W → Calls Tryz.prog f (#[.agg (clCells c), .agg (lnArr x)] ++ bn) W fun e w' => e = .returned (.bool nd) ∧ Below W.heap.size W w') (h1 : hasB t.data.toList 82 = true) (h2 : hasB t.data.toList 83 = true) :
    Calls Tryz.prog 178 #[.agg #[.string n, .string p, .string t, .bool fl, .func (.func f4) #[] b4, .func (.func f) #[] bn, .func (.func f6) #[] b6, .func (.func f7) #[] b7], .agg (clCells c), .agg (lnArr x)] w
      fun e w' => e = .returned (.bool (metF (hasB t.data.toList 82) (hasB t.data.toList 83) (c.has r) (c.has s) nd)) ∧ Below w.heap.size w w' := by
  obtain ⟨wd, xr, xs, xn⟩ := x
  subst hx hy
  have H1 := hide h1
  have H2 := hide h2
  clear h1 h2
  have HF := hide hF
  clear hF
  have hw0 := wcl_mk w (.cells #[.string n, .string p, .string t, .bool fl, .func (.func f4) #[] b4, .func (.func f) #[] bn, .func (.func f6) #[] b6, .func (.func f7) #[] b7] 140) c ⟨wd, r, s, xn⟩
  unfold lnArr
  go_enter Tryz.func178, Tryz.ntmps178
  go_upto_region 1 with fail
  change Code.wp _ _ _ _ (((w.alloc (.cells #[.string n, .string p, .string t, .bool fl, .func (.func f4) #[] b4, .func (.func f) #[] bn, .func (.func f6) #[] b6, .func (.func f7) #[] b7] 140)).alloc (clB c)).alloc (lnB ⟨wd, r, s, xn⟩))
  generalize ((w.alloc (.cells #[.string n, .string p, .string t, .bool fl, .func (.func f4) #[] b4, .func (.func f) #[] bn, .func (.func f6) #[] b6, .func (.func f7) #[] b7] 140)).alloc (clB c)).alloc (lnB ⟨wd, r, s, xn⟩) = w0 at *
  have HT0 := hide hw0
  clear hw0
  cases h3 : c.has r
  · have cr0 : w0.cell? ⟨w.heap.size + 1 + 1, 1, none⟩ = some (.int .i64 (r : Int)) := cell_of_blk HT0.out.C 1
    have cs0 : w0.cell? ⟨w.heap.size + 1 + 1, 2, none⟩ = some (.int .i64 (s : Int)) := cell_of_blk HT0.out.C 2
    have cn0 : w0.cell? ⟨w.heap.size, 5, none⟩ = some (.func (.func f) #[] bn) := cell_of_blk HT0.out.A 5
    go_wp2_with (first | (refine wpList_wantRow 140 (.tmp 3) rfl w.heap.size rfl _ _ _ _ HT0.out.A rfl Tryz.underlying140 (by kernel_rfl) (by rfl) ?_) | (refine wpList_wantRow 135 (.tmp 4) rfl (w.heap.size + 1) rfl _ _ _ _ HT0.out.B rfl Tryz.underlying135 (by kernel_rfl) (by rfl) ?_) | (refine wpList_wantRow 122 (.tmp 5) rfl (w.heap.size + 1 + 1) rfl _ _ _ _ HT0.out.C rfl Tryz.underlying122 (by kernel_rfl) (by rfl) ?_))
    refine (TakesR_any _ _ _ _ _ _ _ _ _ _ _ _ _).mono ?_
    rintro e w1 ⟨rfl, hb⟩
    have HT1 := hide (HT0.out.below hb)
    clear hb cr0 cs0 cn0
    rw [H1.out]
    have cr1 : w1.cell? ⟨w.heap.size + 1 + 1, 1, none⟩ = some (.int .i64 (r : Int)) := cell_of_blk HT1.out.C 1
    have cs1 : w1.cell? ⟨w.heap.size + 1 + 1, 2, none⟩ = some (.int .i64 (s : Int)) := cell_of_blk HT1.out.C 2
    have cn1 : w1.cell? ⟨w.heap.size, 5, none⟩ = some (.func (.func f) #[] bn) := cell_of_blk HT1.out.A 5
    go_wp2_with (first | (refine wpList_wantRow 140 (.tmp 3) rfl w.heap.size rfl _ _ _ _ HT1.out.A rfl Tryz.underlying140 (by kernel_rfl) (by rfl) ?_) | (refine wpList_wantRow 135 (.tmp 4) rfl (w.heap.size + 1) rfl _ _ _ _ HT1.out.B rfl Tryz.underlying135 (by kernel_rfl) (by rfl) ?_) | (refine wpList_wantRow 122 (.tmp 5) rfl (w.heap.size + 1 + 1) rfl _ _ _ _ HT1.out.C rfl Tryz.underlying122 (by kernel_rfl) (by rfl) ?_))
    refine (Has_any c r hr _).mono ?_
    rintro e w2 ⟨rfl, hb⟩
    have HT2 := hide (HT1.out.below (W' := w2) (by rw [hb]; exact (Below.refl _ _).alloc (Nat.le_refl _) _))
    clear hb cr1 cs1 cn1
    rw [h3]
    go_wp2
    go_ret
    exact ⟨by simp [metF, H1.out, H2.out, h3], HT2.out.b⟩
  · cases h4 : c.has s
    · have cr0 : w0.cell? ⟨w.heap.size + 1 + 1, 1, none⟩ = some (.int .i64 (r : Int)) := cell_of_blk HT0.out.C 1
      have cs0 : w0.cell? ⟨w.heap.size + 1 + 1, 2, none⟩ = some (.int .i64 (s : Int)) := cell_of_blk HT0.out.C 2
      have cn0 : w0.cell? ⟨w.heap.size, 5, none⟩ = some (.func (.func f) #[] bn) := cell_of_blk HT0.out.A 5
      go_wp2_with (first | (refine wpList_wantRow 140 (.tmp 3) rfl w.heap.size rfl _ _ _ _ HT0.out.A rfl Tryz.underlying140 (by kernel_rfl) (by rfl) ?_) | (refine wpList_wantRow 135 (.tmp 4) rfl (w.heap.size + 1) rfl _ _ _ _ HT0.out.B rfl Tryz.underlying135 (by kernel_rfl) (by rfl) ?_) | (refine wpList_wantRow 122 (.tmp 5) rfl (w.heap.size + 1 + 1) rfl _ _ _ _ HT0.out.C rfl Tryz.underlying122 (by kernel_rfl) (by rfl) ?_))
      refine (TakesR_any _ _ _ _ _ _ _ _ _ _ _ _ _).mono ?_
      rintro e w1 ⟨rfl, hb⟩
      have HT1 := hide (HT0.out.below hb)
      clear hb cr0 cs0 cn0
      rw [H1.out]
      have cr1 : w1.cell? ⟨w.heap.size + 1 + 1, 1, none⟩ = some (.int .i64 (r : Int)) := cell_of_blk HT1.out.C 1
      have cs1 : w1.cell? ⟨w.heap.size + 1 + 1, 2, none⟩ = some (.int .i64 (s : Int)) := cell_of_blk HT1.out.C 2
      have cn1 : w1.cell? ⟨w.heap.size, 5, none⟩ = some (.func (.func f) #[] bn) := cell_of_blk HT1.out.A 5
      go_wp2_with (first | (refine wpList_wantRow 140 (.tmp 3) rfl w.heap.size rfl _ _ _ _ HT1.out.A rfl Tryz.underlying140 (by kernel_rfl) (by rfl) ?_) | (refine wpList_wantRow 135 (.tmp 4) rfl (w.heap.size + 1) rfl _ _ _ _ HT1.out.B rfl Tryz.underlying135 (by kernel_rfl) (by rfl) ?_) | (refine wpList_wantRow 122 (.tmp 5) rfl (w.heap.size + 1 + 1) rfl _ _ _ _ HT1.out.C rfl Tryz.underlying122 (by kernel_rfl) (by rfl) ?_))
      refine (Has_any c r hr _).mono ?_
      rintro e w2 ⟨rfl, hb⟩
      have HT2 := hide (HT1.out.below (W' := w2) (by rw [hb]; exact (Below.refl _ _).alloc (Nat.le_refl _) _))
      clear hb cr1 cs1 cn1
      rw [h3]
      have cr2 : w2.cell? ⟨w.heap.size + 1 + 1, 1, none⟩ = some (.int .i64 (r : Int)) := cell_of_blk HT2.out.C 1
      have cs2 : w2.cell? ⟨w.heap.size + 1 + 1, 2, none⟩ = some (.int .i64 (s : Int)) := cell_of_blk HT2.out.C 2
      have cn2 : w2.cell? ⟨w.heap.size, 5, none⟩ = some (.func (.func f) #[] bn) := cell_of_blk HT2.out.A 5
      go_wp2_with (first | (refine wpList_wantRow 140 (.tmp 3) rfl w.heap.size rfl _ _ _ _ HT2.out.A rfl Tryz.underlying140 (by kernel_rfl) (by rfl) ?_) | (refine wpList_wantRow 135 (.tmp 4) rfl (w.heap.size + 1) rfl _ _ _ _ HT2.out.B rfl Tryz.underlying135 (by kernel_rfl) (by rfl) ?_) | (refine wpList_wantRow 122 (.tmp 5) rfl (w.heap.size + 1 + 1) rfl _ _ _ _ HT2.out.C rfl Tryz.underlying122 (by kernel_rfl) (by rfl) ?_))
      refine (TakesS_any _ _ _ _ _ _ _ _ _ _ _ _ _).mono ?_
      rintro e w3 ⟨rfl, hb⟩
      have HT3 := hide (HT2.out.below hb)
      clear hb cr2 cs2 cn2
      rw [H2.out]
      have cr3 : w3.cell? ⟨w.heap.size + 1 + 1, 1, none⟩ = some (.int .i64 (r : Int)) := cell_of_blk HT3.out.C 1
      have cs3 : w3.cell? ⟨w.heap.size + 1 + 1, 2, none⟩ = some (.int .i64 (s : Int)) := cell_of_blk HT3.out.C 2
      have cn3 : w3.cell? ⟨w.heap.size, 5, none⟩ = some (.func (.func f) #[] bn) := cell_of_blk HT3.out.A 5
      go_wp2_with (first | (refine wpList_wantRow 140 (.tmp 3) rfl w.heap.size rfl _ _ _ _ HT3.out.A rfl Tryz.underlying140 (by kernel_rfl) (by rfl) ?_) | (refine wpList_wantRow 135 (.tmp 4) rfl (w.heap.size + 1) rfl _ _ _ _ HT3.out.B rfl Tryz.underlying135 (by kernel_rfl) (by rfl) ?_) | (refine wpList_wantRow 122 (.tmp 5) rfl (w.heap.size + 1 + 1) rfl _ _ _ _ HT3.out.C rfl Tryz.underlying122 (by kernel_rfl) (by rfl) ?_))
      refine (Has_any c s hs _).mono ?_
      rintro e w4 ⟨rfl, hb⟩
      have HT4 := hide (HT3.out.below (W' := w4) (by rw [hb]; exact (Below.refl _ _).alloc (Nat.le_refl _) _))
      clear hb cr3 cs3 cn3
      rw [h4]
      go_wp2
      go_ret
      exact ⟨by simp [metF, H1.out, H2.out, h3, h4], HT4.out.b⟩
    · have cr0 : w0.cell? ⟨w.heap.size + 1 + 1, 1, none⟩ = some (.int .i64 (r : Int)) := cell_of_blk HT0.out.C 1
      have cs0 : w0.cell? ⟨w.heap.size + 1 + 1, 2, none⟩ = some (.int .i64 (s : Int)) := cell_of_blk HT0.out.C 2
      have cn0 : w0.cell? ⟨w.heap.size, 5, none⟩ = some (.func (.func f) #[] bn) := cell_of_blk HT0.out.A 5
      go_wp2_with (first | (refine wpList_wantRow 140 (.tmp 3) rfl w.heap.size rfl _ _ _ _ HT0.out.A rfl Tryz.underlying140 (by kernel_rfl) (by rfl) ?_) | (refine wpList_wantRow 135 (.tmp 4) rfl (w.heap.size + 1) rfl _ _ _ _ HT0.out.B rfl Tryz.underlying135 (by kernel_rfl) (by rfl) ?_) | (refine wpList_wantRow 122 (.tmp 5) rfl (w.heap.size + 1 + 1) rfl _ _ _ _ HT0.out.C rfl Tryz.underlying122 (by kernel_rfl) (by rfl) ?_))
      refine (TakesR_any _ _ _ _ _ _ _ _ _ _ _ _ _).mono ?_
      rintro e w1 ⟨rfl, hb⟩
      have HT1 := hide (HT0.out.below hb)
      clear hb cr0 cs0 cn0
      rw [H1.out]
      have cr1 : w1.cell? ⟨w.heap.size + 1 + 1, 1, none⟩ = some (.int .i64 (r : Int)) := cell_of_blk HT1.out.C 1
      have cs1 : w1.cell? ⟨w.heap.size + 1 + 1, 2, none⟩ = some (.int .i64 (s : Int)) := cell_of_blk HT1.out.C 2
      have cn1 : w1.cell? ⟨w.heap.size, 5, none⟩ = some (.func (.func f) #[] bn) := cell_of_blk HT1.out.A 5
      go_wp2_with (first | (refine wpList_wantRow 140 (.tmp 3) rfl w.heap.size rfl _ _ _ _ HT1.out.A rfl Tryz.underlying140 (by kernel_rfl) (by rfl) ?_) | (refine wpList_wantRow 135 (.tmp 4) rfl (w.heap.size + 1) rfl _ _ _ _ HT1.out.B rfl Tryz.underlying135 (by kernel_rfl) (by rfl) ?_) | (refine wpList_wantRow 122 (.tmp 5) rfl (w.heap.size + 1 + 1) rfl _ _ _ _ HT1.out.C rfl Tryz.underlying122 (by kernel_rfl) (by rfl) ?_))
      refine (Has_any c r hr _).mono ?_
      rintro e w2 ⟨rfl, hb⟩
      have HT2 := hide (HT1.out.below (W' := w2) (by rw [hb]; exact (Below.refl _ _).alloc (Nat.le_refl _) _))
      clear hb cr1 cs1 cn1
      rw [h3]
      have cr2 : w2.cell? ⟨w.heap.size + 1 + 1, 1, none⟩ = some (.int .i64 (r : Int)) := cell_of_blk HT2.out.C 1
      have cs2 : w2.cell? ⟨w.heap.size + 1 + 1, 2, none⟩ = some (.int .i64 (s : Int)) := cell_of_blk HT2.out.C 2
      have cn2 : w2.cell? ⟨w.heap.size, 5, none⟩ = some (.func (.func f) #[] bn) := cell_of_blk HT2.out.A 5
      go_wp2_with (first | (refine wpList_wantRow 140 (.tmp 3) rfl w.heap.size rfl _ _ _ _ HT2.out.A rfl Tryz.underlying140 (by kernel_rfl) (by rfl) ?_) | (refine wpList_wantRow 135 (.tmp 4) rfl (w.heap.size + 1) rfl _ _ _ _ HT2.out.B rfl Tryz.underlying135 (by kernel_rfl) (by rfl) ?_) | (refine wpList_wantRow 122 (.tmp 5) rfl (w.heap.size + 1 + 1) rfl _ _ _ _ HT2.out.C rfl Tryz.underlying122 (by kernel_rfl) (by rfl) ?_))
      refine (TakesS_any _ _ _ _ _ _ _ _ _ _ _ _ _).mono ?_
      rintro e w3 ⟨rfl, hb⟩
      have HT3 := hide (HT2.out.below hb)
      clear hb cr2 cs2 cn2
      rw [H2.out]
      have cr3 : w3.cell? ⟨w.heap.size + 1 + 1, 1, none⟩ = some (.int .i64 (r : Int)) := cell_of_blk HT3.out.C 1
      have cs3 : w3.cell? ⟨w.heap.size + 1 + 1, 2, none⟩ = some (.int .i64 (s : Int)) := cell_of_blk HT3.out.C 2
      have cn3 : w3.cell? ⟨w.heap.size, 5, none⟩ = some (.func (.func f) #[] bn) := cell_of_blk HT3.out.A 5
      go_wp2_with (first | (refine wpList_wantRow 140 (.tmp 3) rfl w.heap.size rfl _ _ _ _ HT3.out.A rfl Tryz.underlying140 (by kernel_rfl) (by rfl) ?_) | (refine wpList_wantRow 135 (.tmp 4) rfl (w.heap.size + 1) rfl _ _ _ _ HT3.out.B rfl Tryz.underlying135 (by kernel_rfl) (by rfl) ?_) | (refine wpList_wantRow 122 (.tmp 5) rfl (w.heap.size + 1 + 1) rfl _ _ _ _ HT3.out.C rfl Tryz.underlying122 (by kernel_rfl) (by rfl) ?_))
      refine (Has_any c s hs _).mono ?_
      rintro e w4 ⟨rfl, hb⟩
      have HT4 := hide (HT3.out.below (W' := w4) (by rw [hb]; exact (Below.refl _ _).alloc (Nat.le_refl _) _))
      clear hb cr3 cs3 cn3
      rw [h4]
      have cr4 : w4.cell? ⟨w.heap.size + 1 + 1, 1, none⟩ = some (.int .i64 (r : Int)) := cell_of_blk HT4.out.C 1
      have cs4 : w4.cell? ⟨w.heap.size + 1 + 1, 2, none⟩ = some (.int .i64 (s : Int)) := cell_of_blk HT4.out.C 2
      have cn4 : w4.cell? ⟨w.heap.size, 5, none⟩ = some (.func (.func f) #[] bn) := cell_of_blk HT4.out.A 5
      go_wp2_with (first | (refine wpList_wantRow 140 (.tmp 3) rfl w.heap.size rfl _ _ _ _ HT4.out.A rfl Tryz.underlying140 (by kernel_rfl) (by rfl) ?_) | (refine wpList_wantRow 135 (.tmp 4) rfl (w.heap.size + 1) rfl _ _ _ _ HT4.out.B rfl Tryz.underlying135 (by kernel_rfl) (by rfl) ?_) | (refine wpList_wantRow 122 (.tmp 5) rfl (w.heap.size + 1 + 1) rfl _ _ _ _ HT4.out.C rfl Tryz.underlying122 (by kernel_rfl) (by rfl) ?_))
      refine (HF.out w4 HT4.out.b).mono ?_
      rintro e w5 ⟨rfl, hb⟩
      have HT5 := hide (HT4.out.below hb)
      clear hb cr4 cs4 cn4
      go_wp2
      go_ret
      exact ⟨by simp [metF, H1.out, H2.out, h3, h4], HT5.out.b⟩
end Go.Proofs.YtngopilbpiplhaaGreatDoor
