/-
  The contracts of the closures that set a register's span, at whatever closure or operation they captured.
  The contracts of the closures of places, divisors and moves; of a jump whose registers are one.
-/
import Derived.Test.YtngopilbpiplhaaGreatDoorZClE
import Derived.Test.YtngopilbpiplhaaGreatDoorZClT
namespace Go.Proofs.YtngopilbpiplhaaGreatDoor
open Go.RowKit
set_option linter.unusedVariables false
set_option maxRecDepth 100000 in
set_option maxHeartbeats 2000000 in
theorem sets_gen (f : FuncId) (hent : ∀ (args : Array Value) (w : World), (callFunc f args).run Tryz.prog w = .ok (.enter f args) w) (bn : Array Value) (lo hi : Int) (c : Cl) (x : Ln) (r : Nat) (hx : x.r = (r : Int)) (hr : r < 8) (cb : Nat) (w : World)
    (hF : ∀ W : World, Two w c x W → Calls Tryz.prog f (#[.agg (clCells c), .agg (lnArr x)] ++ bn) W fun e w' => e = .returned (spC lo hi) ∧ Below W.heap.size W w')
    (hc : w.heap[cb]? = some (.cells #[.func (.func f) #[] bn] 137)) :
    Calls Tryz.prog 131 #[.agg (clCells c), .agg (lnArr x), .pointer (some ⟨cb, 0, none⟩)] w fun e w' => e = .returned (.agg (clCells (c.with_ r lo hi))) ∧ Below w.heap.size w w' := by
  have HF := hide hF
  clear hF
  have HC := hide hc
  clear hc
  go_enter Tryz.func131, Tryz.ntmps131
  go_wp2_with fail
  have ht := two_mk w c x (clB clNone)
  have hz := blk2 w (clB c) (lnB x) (clB clNone)
  change Code.wp _ _ _ _ (((w.alloc (clB c)).alloc (lnB x)).alloc (clB clNone))
  generalize ((w.alloc (clB c)).alloc (lnB x)).alloc (clB clNone) = W at *
  have HT := hide ht
  have HZ := hide hz
  clear ht hz
  refine wp_region_held (S := Two w c x) mixed ?_
  have hb0 : Below W.heap.size W { W with drawn := W.drawn + 1 } := (Below.refl _ _).drew
  generalize ({ W with drawn := W.drawn + 1 } : World) = w0 at *
  have HT0 := hide (HT.out.below hb0)
  have HZ0 := hide ((hb0.block _ (blk_lt HZ.out)).trans HZ.out)
  clear hb0
  refine hT 0 6 rfl rfl (by kernel_rfl) (fun _ _ _ h => h) (yields_row (by kernel_rfl) 135 (.tmp 3) rfl w.heap.size rfl (clCells c) _ _ (fun w' h => h.A) Tryz.underlying135 rfl (by kernel_rfl)) HT0.out ?_
  simp only [Act.put, zzA, zzB, zzC]
  refine hT 1 7 rfl rfl (by kernel_rfl) (fun _ _ _ h => h) (.inl ⟨by kernel_rfl, fun w' h => by go_simp; rfl⟩) HT0.out ?_
  simp only [Act.put, zzA, zzB, zzC]
  refine hT 2 8 rfl rfl (by kernel_rfl) (fun _ _ _ h => h) (.inl ⟨by kernel_rfl, fun w' h => by have hc := (cell_of_blk h.B 1 : w'.cell? ⟨w.heap.size + 1, 1, none⟩ = some (.int .i64 x.r)); go_simp; rfl⟩) HT0.out ?_
  simp only [Act.put, zzA, zzB, zzC]
  refine hT 3 9 rfl rfl (by kernel_rfl) (fun _ _ _ h => h) (.inl ⟨by kernel_rfl, fun w' h => by have hc := (cell_of_blk (h.old HC.out) 0 : w'.cell? ⟨cb, 0, none⟩ = some (.func (.func f) #[] bn)); go_simp; rfl⟩) HT0.out ?_
  simp only [Act.put, zzA, zzB, zzC]
  refine hT 4 10 rfl rfl (by kernel_rfl) (fun _ _ _ h => h) (yields_row (by kernel_rfl) 135 (.tmp 3) rfl w.heap.size rfl (clCells c) _ _ (fun w' h => h.A) Tryz.underlying135 rfl (by kernel_rfl)) HT0.out ?_
  simp only [Act.put, zzA, zzB, zzC]
  refine hT 5 11 rfl rfl (by kernel_rfl) (fun _ _ _ h => h) (yields_row (by kernel_rfl) 122 (.tmp 4) rfl (w.heap.size + 1) rfl (lnArr x) _ _ (fun w' h => h.B) Tryz.underlying122 rfl (by kernel_rfl)) HT0.out ?_
  simp only [Act.put, zzA, zzB, zzC]
  refine held_call (i := 6) (some 12) (by kernel_rfl) rfl rfl (by kernel_rfl) (by go_simp; exact ⟨rfl, rfl⟩) ?_
  refine (HF.out w0 HT0.out).mono ?_
  rintro e w1 ⟨rfl, hb1⟩
  have HT1 := hide (HT0.out.below hb1)
  have HZ1 := hide ((hb1.block _ (blk_lt HZ0.out)).trans HZ0.out)
  clear hb1
  refine ⟨_, rfl, HT1.out, ?_⟩
  simp only [Act.put, zzA, zzB, zzC]
  refine held_call (i := 7) (some 13) (by kernel_rfl) rfl rfl (by kernel_rfl) (by go_simp; exact ⟨rfl, rfl⟩) ?_
  refine (With_any c r hr lo hi _).mono ?_
  rintro e w2 ⟨rfl, hw2⟩
  have hb2 : Below w1.heap.size w1 w2 := by rw [hw2]; exact ((((Below.refl _ _).alloc (Nat.le_refl _) _).alloc (by simp) _).alloc (by simp; omega) _).drew
  have HT2 := hide (HT1.out.below hb2)
  have HZ2 := hide ((hb2.block _ (blk_lt HZ1.out)).trans HZ1.out)
  clear hb2
  clear hw2
  refine ⟨_, rfl, HT2.out, ?_⟩
  simp only [Act.put, zzA, zzB, zzC]
  refine held_storeCl (i := 8) (.tmp 5) (.tmp 13) (w.heap.size + 1 + 1) (clCells (c.with_ r lo hi)) _ (by kernel_rfl) rfl (by kernel_rfl) rfl (by kernel_rfl) (by kernel_rfl) HZ2.out (cl_size _) (cl_size _) (cl_one _) (HT2.out.setRow _) rfl ?_
  intro w3 hw3
  have hg : w3.heap[w.heap.size + 1 + 1]? = some (clB (c.with_ r lo hi)) := by rw [hw3.out]; exact setRow_heap w2 _ _ _ _ _ HZ2.out
  have hb : Below w.heap.size w w3 := by rw [hw3.out]; exact (HT2.out.setRow _).b
  clear hw3
  refine wpAnyH_done (by kernel_rfl) ?_ _
  go_wp2
  exact bodyPost_ret (results_cell_row rfl _ _ (w.heap.size + 1 + 1) 135 _ _ _ rfl hg Tryz.underlying135 rfl (by kernel_rfl)) rfl ⟨rfl, hb⟩
set_option maxRecDepth 100000 in
set_option maxHeartbeats 2000000 in
theorem reckons_gen (f : FuncId) (hent : ∀ (args : Array Value) (w : World), (callFunc f args).run Tryz.prog w = .ok (.enter f args) w) (lo hi : Int) (c : Cl) (x : Ln) (r s : Nat) (hx : x.r = (r : Int)) (hy : x.s = (s : Int)) (hr : r < 8) (hs : s < 8) (cb : Nat) (w : World)
    (hF : ∀ W : World, Calls Tryz.prog f #[spC (c.lo r) (c.hi r), spC (c.lo s) (c.hi s)] W fun e w' => e = .returned (spC lo hi) ∧ Below W.heap.size W w') (hc : w.heap[cb]? = some (.cells #[.func (.func f) #[] #[]] 146)) :
    Calls Tryz.prog 136 #[.agg (clCells c), .agg (lnArr x), .pointer (some ⟨cb, 0, none⟩)] w fun e w' => e = .returned (spC lo hi) ∧ Below w.heap.size w w' := by
  have HF := hide hF
  clear hF
  have HC := hide hc
  clear hc
  go_enter Tryz.func136, Tryz.ntmps136
  go_wp2_with fail
  have ht := two_mk w c x (spB 0 0)
  have hz := blk2 w (clB c) (lnB x) (spB 0 0)
  change Code.wp _ _ _ _ (((w.alloc (clB c)).alloc (lnB x)).alloc (spB 0 0))
  generalize ((w.alloc (clB c)).alloc (lnB x)).alloc (spB 0 0) = W at *
  have HT := hide ht
  have HZ := hide hz
  clear ht hz
  refine wp_region_held (S := Two w c x) mixed ?_
  have hb0 : Below W.heap.size W { W with drawn := W.drawn + 1 } := (Below.refl _ _).drew
  generalize ({ W with drawn := W.drawn + 1 } : World) = w0 at *
  have HT0 := hide (HT.out.below hb0)
  have HZ0 := hide ((hb0.block _ (blk_lt HZ.out)).trans HZ.out)
  clear hb0
  refine hT 0 6 rfl rfl (by kernel_rfl) (fun _ _ _ h => h) (.inl ⟨by kernel_rfl, fun w' h => by have hc := (cell_of_blk (h.old HC.out) 0 : w'.cell? ⟨cb, 0, none⟩ = some (.func (.func f) #[] #[])); go_simp; rfl⟩) HT0.out ?_
  simp only [Act.put, zzA, zzB, zzC]
  refine hT 1 7 rfl rfl (by kernel_rfl) (fun _ _ _ h => h) (yields_row (by kernel_rfl) 135 (.tmp 3) rfl w.heap.size rfl (clCells c) _ _ (fun w' h => h.A) Tryz.underlying135 rfl (by kernel_rfl)) HT0.out ?_
  simp only [Act.put, zzA, zzB, zzC]
  refine hT 2 8 rfl rfl (by kernel_rfl) (fun _ _ _ h => h) (.inl ⟨by kernel_rfl, fun w' h => by go_simp; rfl⟩) HT0.out ?_
  simp only [Act.put, zzA, zzB, zzC]
  refine hT 3 9 rfl rfl (by kernel_rfl) (fun _ _ _ h => h) (.inl ⟨by kernel_rfl, fun w' h => by have hc := (cell_of_blk h.B 1 : w'.cell? ⟨w.heap.size + 1, 1, none⟩ = some (.int .i64 x.r)); go_simp; rfl⟩) HT0.out ?_
  simp only [Act.put, zzA, zzB, zzC]
  refine hT 5 11 rfl rfl (by kernel_rfl) (fun _ _ _ h => h) (yields_row (by kernel_rfl) 135 (.tmp 3) rfl w.heap.size rfl (clCells c) _ _ (fun w' h => h.A) Tryz.underlying135 rfl (by kernel_rfl)) HT0.out ?_
  simp only [Act.put, zzA, zzB, zzC]
  refine hT 6 12 rfl rfl (by kernel_rfl) (fun _ _ _ h => h) (.inl ⟨by kernel_rfl, fun w' h => by go_simp; rfl⟩) HT0.out ?_
  simp only [Act.put, zzA, zzB, zzC]
  refine hT 7 13 rfl rfl (by kernel_rfl) (fun _ _ _ h => h) (.inl ⟨by kernel_rfl, fun w' h => by have hc := (cell_of_blk h.B 2 : w'.cell? ⟨w.heap.size + 1, 2, none⟩ = some (.int .i64 x.s)); go_simp; rfl⟩) HT0.out ?_
  simp only [Act.put, zzA, zzB, zzC]
  refine held_call (i := 4) (some 10) (by kernel_rfl) rfl rfl (by kernel_rfl) (by go_simp; exact ⟨rfl, rfl⟩) ?_
  refine (Span_any c r hr _).mono ?_
  rintro e w1 ⟨rfl, hw1⟩
  have hb1 : Below w0.heap.size w0 w1 := by rw [hw1]; exact ((Below.refl _ _).alloc (Nat.le_refl _) _).alloc (by simp) _
  have HT1 := hide (HT0.out.below hb1)
  have HZ1 := hide ((hb1.block _ (blk_lt HZ0.out)).trans HZ0.out)
  clear hb1
  clear hw1
  refine ⟨_, rfl, HT1.out, ?_⟩
  simp only [Act.put, zzA, zzB, zzC]
  refine held_call (i := 8) (some 14) (by kernel_rfl) rfl rfl (by kernel_rfl) (by go_simp; exact ⟨rfl, rfl⟩) ?_
  refine (Span_any c s hs _).mono ?_
  rintro e w2 ⟨rfl, hw2⟩
  have hb2 : Below w1.heap.size w1 w2 := by rw [hw2]; exact ((Below.refl _ _).alloc (Nat.le_refl _) _).alloc (by simp) _
  have HT2 := hide (HT1.out.below hb2)
  have HZ2 := hide ((hb2.block _ (blk_lt HZ1.out)).trans HZ1.out)
  clear hb2
  clear hw2
  refine ⟨_, rfl, HT2.out, ?_⟩
  simp only [Act.put, zzA, zzB, zzC]
  refine held_call (i := 9) (some 15) (by kernel_rfl) rfl rfl (by kernel_rfl) (by go_simp; exact ⟨rfl, rfl⟩) ?_
  refine (HF.out _).mono ?_
  rintro e w3 ⟨rfl, hb⟩
  have hb3 : Below w2.heap.size w2 w3 := hb
  have HT3 := hide (HT2.out.below hb3)
  have HZ3 := hide ((hb3.block _ (blk_lt HZ2.out)).trans HZ2.out)
  clear hb3
  clear hb
  refine ⟨_, rfl, HT3.out, ?_⟩
  simp only [Act.put, zzA, zzB, zzC]
  refine held_storeSp (i := 10) (.tmp 5) (.tmp 15) (w.heap.size + 1 + 1) #[.int .i64 lo, .int .i64 hi] _ (by kernel_rfl) rfl (by kernel_rfl) rfl (by kernel_rfl) (by kernel_rfl) HZ3.out rfl rfl (by simp [Value.oneCell']) (HT3.out.setRow _) rfl ?_
  intro w4 hw4
  have hg : w4.heap[w.heap.size + 1 + 1]? = some (spB lo hi) := by rw [hw4.out]; exact setRow_heap w3 _ _ _ _ _ HZ3.out
  have hb : Below w.heap.size w w4 := by rw [hw4.out]; exact (HT3.out.setRow _).b
  clear hw4
  refine wpAnyH_done (by kernel_rfl) ?_ _
  go_wp2
  exact bodyPost_ret (results_cell_row rfl _ _ (w.heap.size + 1 + 1) 132 _ _ _ rfl hg Tryz.underlying132 rfl (by kernel_rfl)) rfl ⟨rfl, hb⟩
end Go.Proofs.YtngopilbpiplhaaGreatDoor

namespace Go.Proofs.YtngopilbpiplhaaGreatDoor
open Go.RowKit
set_option linter.unusedVariables false
set_option maxRecDepth 100000 in
set_option maxHeartbeats 2000000 in
theorem placeRC_any (c : Cl) (x : Ln) (r : Nat) (p : Int) (hx : x.r = (r : Int)) (hr : r < 8) (cb : Nat) (w : World) (hc : w.heap[cb]? = some (.cells #[.int .i64 p] 2)) :
    Calls Tryz.prog 149 #[.agg (clCells c), .agg (lnArr x), .pointer (some ⟨cb, 0, none⟩)] w fun e w' => e = .returned (.bool (decide (0 ≤ c.lo r) && decide (c.hi r < p))) ∧ Below w.heap.size w w' := by
  have HC := hide hc
  clear hc
  go_enter Tryz.func149, Tryz.ntmps149
  go_wp2_with fail
  have ht := two_mk2 w c x
  change Code.wp _ _ _ _ ((w.alloc (clB c)).alloc (lnB x))
  generalize (w.alloc (clB c)).alloc (lnB x) = W at *
  have HT := hide ht
  clear ht
  refine wp_region_held (S := Two2 w c x) mixed ?_
  have hb0 : Below W.heap.size W { W with drawn := W.drawn + 1 } := (Below.refl _ _).drew
  generalize ({ W with drawn := W.drawn + 1 } : World) = w0 at *
  have HT0 := hide (HT.out.below hb0)
  clear hb0
  refine hT 0 6 rfl rfl (by kernel_rfl) (fun _ _ _ h => h) (yields_row (by kernel_rfl) 135 (.tmp 3) rfl w.heap.size rfl (clCells c) _ _ (fun w' h => h.A) Tryz.underlying135 rfl (by kernel_rfl)) HT0.out ?_
  simp only [Act.put, zzA, zzB, zzC]
  refine hT 1 7 rfl rfl (by kernel_rfl) (fun _ _ _ h => h) (.inl ⟨by kernel_rfl, fun w' h => by go_simp; rfl⟩) HT0.out ?_
  simp only [Act.put, zzA, zzB, zzC]
  refine hT 2 8 rfl rfl (by kernel_rfl) (fun _ _ _ h => h) (.inl ⟨by kernel_rfl, fun w' h => by have hc := (cell_of_blk h.B 1 : w'.cell? ⟨w.heap.size + 1, 1, none⟩ = some (.int .i64 x.r)); go_simp; rfl⟩) HT0.out ?_
  simp only [Act.put, zzA, zzB, zzC]
  refine hT 4 10 rfl rfl (by kernel_rfl) (fun _ _ _ h => h) (.inl ⟨by kernel_rfl, fun w' h => by have hc := (cell_of_blk (h.old HC.out) 0 : w'.cell? ⟨cb, 0, none⟩ = some (.int .i64 p)); go_simp; rfl⟩) HT0.out ?_
  simp only [Act.put, zzA, zzB, zzC]
  refine held_call (i := 3) (some 9) (by kernel_rfl) rfl rfl (by kernel_rfl) (by go_simp; exact ⟨rfl, rfl⟩) ?_
  refine (Span_any c r hr _).mono ?_
  rintro e w1 ⟨rfl, hw1⟩
  have HT1 := hide (HT0.out.below (W' := w1) (by rw [hw1]; exact ((Below.refl _ _).alloc (Nat.le_refl _) _).alloc (by simp) _))
  clear hw1
  refine ⟨_, rfl, HT1.out, ?_⟩
  simp only [Act.put, zzA, zzB, zzC]
  refine held_call (i := 5) (some 11) (by kernel_rfl) rfl rfl (by kernel_rfl) (by go_simp; exact ⟨rfl, rfl⟩) ?_
  refine (isPlace_any _ _ _ _).mono ?_
  rintro e w2 ⟨rfl, hw2⟩
  have HT2 := hide (HT1.out.below (W' := w2) (by rw [hw2]; exact (Below.refl _ _).alloc (Nat.le_refl _) _))
  clear hw2
  refine ⟨_, rfl, HT2.out, ?_⟩
  simp only [Act.put, zzA, zzB, zzC]
  refine hT 6 5 rfl rfl (by kernel_rfl) (fun _ _ _ h => h) (.inl ⟨by kernel_rfl, fun w' h => by go_simp; rfl⟩) HT2.out ?_
  simp only [Act.put, zzA, zzB, zzC]
  have hb := HT2.out.b
  refine wpAnyH_done (by kernel_rfl) ?_ _
  go_wp2
  go_ret
  exact ⟨rfl, hb⟩
set_option maxRecDepth 100000 in
set_option maxHeartbeats 2000000 in
theorem rows4_any (c : Cl) (x : Ln) (s : Nat) (hy : x.s = (s : Int)) (hs : s < 8) (w : World) :
    Calls Tryz.prog 61 #[.agg (clCells c), .agg (lnArr x)] w fun e w' => e = .returned (spC (c.lo s) (c.hi s)) ∧ Below w.heap.size w w' := by
  have ht := two_mk w c x (spB 0 0)
  have hz := blk2 w (clB c) (lnB x) (spB 0 0)
  have u2 : (lnArr x)[2]? = some (.int .i64 s) := by unfold lnArr; rw [hy]; rfl
  go_enter Tryz.func61, Tryz.ntmps61
  go_wp2_with (refine wpList_load_row rfl 135 (.tmp 2) rfl w.heap.size rfl _ _ _ _ ht.A Tryz.underlying135 rfl (by kernel_rfl) ?_)
  refine (Span_any c s hs _).mono ?_
  rintro e w2 ⟨rfl, hw2⟩
  have hb2 : Below (((w.alloc (clB c)).alloc (lnB x)).alloc (spB 0 0)).heap.size (((w.alloc (clB c)).alloc (lnB x)).alloc (spB 0 0)) w2 := by rw [hw2]; exact ((Below.refl _ _).alloc (Nat.le_refl _) _).alloc (by simp) _
  clear hw2
  generalize ((w.alloc (clB c)).alloc (lnB x)).alloc (spB 0 0) = W at *
  have HR := hide ((hb2.block _ (blk_lt hz)).trans hz)
  have hbw : Below w.heap.size w w2 := (ht.below hb2).b
  clear hb2 ht hz u2
  have r0 : w2.cell? ⟨w.heap.size + 1 + 1, 0, none⟩ = some (.int .i64 0) := cell_of_blk HR.out 0
  have r1 : w2.cell? ⟨w.heap.size + 1 + 1, 1, none⟩ = some (.int .i64 0) := cell_of_blk HR.out 1
  have fr := frozen_of_blk HR.out
  go_wp2
  exact bodyPost_ret (results_cell_row rfl _ _ (w.heap.size + 1 + 1) 132 _ _ _ rfl (blk_setCell (blk_setCell HR.out 0 _) 1 _) Tryz.underlying132 rfl (by kernel_rfl)) rfl
    ⟨rfl, (hbw.setCell (p := ⟨w.heap.size + 1 + 1, _, none⟩) (by show w.heap.size ≤ w.heap.size + 1 + 1; omega) _).setCell (p := ⟨w.heap.size + 1 + 1, _, none⟩) (by show w.heap.size ≤ w.heap.size + 1 + 1; omega) _⟩
set_option maxRecDepth 100000 in
set_option maxHeartbeats 2000000 in
theorem divisorC_any (c : Cl) (x : Ln) (s : Nat) (hy : x.s = (s : Int)) (hs : s < 8) (w : World) :
    Calls Tryz.prog 142 #[.agg (clCells c), .agg (lnArr x)] w fun e w' => e = .returned (.bool (decide (0 < c.lo s) || decide (c.hi s < 0))) ∧ Below w.heap.size w w' := by
  have ht := two_mk2 w c x
  have u2 : (lnArr x)[2]? = some (.int .i64 s) := by unfold lnArr; rw [hy]; rfl
  go_enter Tryz.func142, Tryz.ntmps142
  go_wp2_with (refine wpList_load_row rfl 135 (.tmp 2) rfl w.heap.size rfl _ _ _ _ ht.A Tryz.underlying135 rfl (by kernel_rfl) ?_)
  refine (Span_any c s hs _).mono ?_
  rintro e w2 ⟨rfl, hw2⟩
  have hb2 : Below ((w.alloc (clB c)).alloc (lnB x)).heap.size ((w.alloc (clB c)).alloc (lnB x)) w2 := by rw [hw2]; exact ((Below.refl _ _).alloc (Nat.le_refl _) _).alloc (by simp) _
  clear hw2
  generalize (w.alloc (clB c)).alloc (lnB x) = W at *
  have hbw : Below w.heap.size w w2 := (ht.below hb2).b
  have hszw := hbw.size
  clear hb2 ht u2
  by_cases h1 : 0 < c.lo s
  · have HD : Hid ((decide (0 < c.lo s) || decide (c.hi s < 0)) = true) := hide (by simp [h1])
    go_wp2
    go_ret
    exact ⟨by rw [HD.out]; rfl, hbw.alloc hszw _⟩
  · have HD : Hid ((decide (0 < c.lo s) || decide (c.hi s < 0)) = decide (c.hi s < 0)) := hide (by simp [h1])
    go_wp2
    go_ret
    exact ⟨by rw [HD.out]; rfl, hbw.alloc hszw _⟩
set_option maxRecDepth 100000 in
set_option maxHeartbeats 2000000 in
theorem turn_alike (f : FuncId) (hent : ∀ (args : Array Value) (w : World), (callFunc f args).run Tryz.prog w = .ok (.enter f args) w) (d : Cl) (c : Cl) (x : Ln) (r : Nat) (hx : x.r = (r : Int)) (hy : x.s = (r : Int)) (ca cn : Nat) (w : World)
    (hF : ∀ W : World, Below w.heap.size w W → Calls Tryz.prog f #[.agg (clCells c), .agg (lnArr x)] W fun e w' => e = .returned (.agg (clCells d)) ∧ Below W.heap.size W w') (hn : w.heap[ca]? = some (.cells #[.func (.func f) #[] #[]] 128)) :
    Calls Tryz.prog 154 #[.agg (clCells c), .agg (lnArr x), .pointer (some ⟨ca, 0, none⟩), .pointer (some ⟨cn, 0, none⟩)] w fun e w' => e = .returned (.agg (clCells d)) ∧ Below w.heap.size w w' := by
  have HF := hide hF
  clear hF
  have ht := two_mk w c x (clB clNone)
  have hz := blk2 w (clB c) (lnB x) (clB clNone)
  have u1 : (lnArr x)[1]? = some (.int .i64 r) := by unfold lnArr; rw [hx]; rfl
  have u2 : (lnArr x)[2]? = some (.int .i64 r) := by unfold lnArr; rw [hy]; rfl
  have k0 : ∀ A B C : Obj, (((w.alloc A).alloc B).alloc C).cell? ⟨ca, 0, none⟩ = some (.func (.func f) #[] #[]) := fun A B C => cell_of_blk (blk_alloc (blk_alloc (blk_alloc hn A) B) C) 0
  go_enter Tryz.func154, Tryz.ntmps154
  go_wp2_with (first | (refine wpList_load_row rfl 135 (.tmp 4) rfl w.heap.size rfl _ _ _ _ ht.A Tryz.underlying135 rfl (by kernel_rfl) ?_) | (refine wpList_load_row rfl 122 (.tmp 5) rfl (w.heap.size + 1) rfl _ _ _ _ ht.B Tryz.underlying122 rfl (by kernel_rfl) ?_))
  have hl : lnArr x = #[.int .i64 x.word, .int .i64 (r : Int), .int .i64 (r : Int), .int .i64 x.n] := by unfold lnArr; rw [hx, hy]
  have hh := HF.out _ ht.b
  rw [hl] at hh
  refine hh.mono ?_
  generalize ((w.alloc (clB c)).alloc (lnB x)).alloc (clB clNone) = W at *
  rintro e w2 ⟨rfl, hb2⟩
  have HZ2 := hide ((hb2.block _ (blk_lt hz)).trans hz)
  have hbw := (ht.below hb2).b
  clear hh hl hb2 ht hz u1 u2 k0 hn
  go_wp2_with (refine wpList_storeCl rfl (.tmp 6) (.tmp 18) rfl (w.heap.size + 1 + 1) (clCells d) _ _ rfl rfl HZ2.out (cl_size _) (cl_size _) (cl_one _) ?_)
  intro v hv
  have hg : v.heap[w.heap.size + 1 + 1]? = some (clB d) := by rw [hv.out]; exact setRow_heap _ _ _ _ _ _ HZ2.out
  have hb : Below w.heap.size w v := by rw [hv.out]; exact hbw.trans ((keep_setRow' w.heap.size _ _ _).below (by omega))
  clear hv
  go_wp2
  exact bodyPost_ret (results_cell_row rfl _ _ (w.heap.size + 1 + 1) 135 _ _ _ rfl hg Tryz.underlying135 rfl (by kernel_rfl)) rfl ⟨rfl, hb⟩
end Go.Proofs.YtngopilbpiplhaaGreatDoor
