/-
  The contracts of the closures that add.
-/
import Derived.Test.YtngopilbpiplhaaGreatDoorZClE
import Derived.Test.YtngopilbpiplhaaGreatDoorZClF
namespace Go.Proofs.YtngopilbpiplhaaGreatDoor
open Go.RowKit

set_option maxRecDepth 100000 in
set_option maxHeartbeats 2000000 in
theorem reckons_add (c : Cl) (x : Ln) (r s : Nat) (hx : x.r = (r : Int)) (hy : x.s = (s : Int)) (hr : r < 8) (hs : s < 8) (cb : Nat) (w : World) (hc : w.heap[cb]? = some (.cells #[.func (.func 66) #[] #[]] 146)) :
    Calls Tryz.prog 136 #[.agg (clCells c), .agg (lnArr x), .pointer (some ⟨cb, 0, none⟩)] w fun e w' => e = .returned (spC (addLo (c.lo r) (c.hi r) (c.lo s) (c.hi s)) (addHi (c.lo r) (c.hi r) (c.lo s) (c.hi s))) ∧ Below w.heap.size w w' := by
  have HC := hide hc
  clear hc
  go_enter Tryz.func136, Tryz.ntmps136
  go_wp2_with fail
  have ht := two_mk w c x (spB 0 0)
  have hz := blk2 w (clB c) (lnB x) (spB 0 0)
  change Code.wp _ _ _ _ (((w.alloc (clB c)).alloc (lnB x)).alloc (spB 0 0))
  generalize ((w.alloc (clB c)).alloc (lnB x)).alloc (spB 0 0) = W at *
  have HT := hide ht
  have HZ := hide hz
  clear ht hz
  refine wp_region_held (S := Two w c x) mixed ?_
  have hb0 : Below W.heap.size W { W with drawn := W.drawn + 1 } := (Below.refl _ _).drew
  generalize ({ W with drawn := W.drawn + 1 } : World) = w0 at *
  have HT0 := hide (HT.out.below hb0)
  have HZ0 := hide ((hb0.block _ (blk_lt HZ.out)).trans HZ.out)
  clear hb0
  refine held_take (i := 0) (some 6) rfl rfl (by kernel_rfl) (by kernel_rfl) (by kernel_rfl) (fun _ _ _ h => h) (.inl ⟨by kernel_rfl, fun w' h => by have hc := (cell_of_blk (h.old HC.out) 0 : w'.cell? ⟨cb, 0, none⟩ = some (.func (.func 66) #[] #[])); go_simp; rfl⟩) HT0.out ?_
  simp only [Act.put, List.setIfInBounds_toArray, List.set_cons_zero, List.set_cons_succ]
  refine held_take (i := 1) (some 7) rfl rfl (by kernel_rfl) (by kernel_rfl) (by kernel_rfl) (fun _ _ _ h => h) (yields_row (by kernel_rfl) 135 (.tmp 3) rfl w.heap.size rfl (clCells c) _ _ (fun w' h => h.A) Tryz.underlying135 rfl (by kernel_rfl)) HT0.out ?_
  simp only [Act.put, List.setIfInBounds_toArray, List.set_cons_zero, List.set_cons_succ]
  refine held_take (i := 2) (some 8) rfl rfl (by kernel_rfl) (by kernel_rfl) (by kernel_rfl) (fun _ _ _ h => h) (.inl ⟨by kernel_rfl, fun w' h => by go_simp; rfl⟩) HT0.out ?_
  simp only [Act.put, List.setIfInBounds_toArray, List.set_cons_zero, List.set_cons_succ]
  refine held_take (i := 3) (some 9) rfl rfl (by kernel_rfl) (by kernel_rfl) (by kernel_rfl) (fun _ _ _ h => h) (.inl ⟨by kernel_rfl, fun w' h => by have hc := (cell_of_blk h.B 1 : w'.cell? ⟨w.heap.size + 1, 1, none⟩ = some (.int .i64 x.r)); go_simp; rfl⟩) HT0.out ?_
  simp only [Act.put, List.setIfInBounds_toArray, List.set_cons_zero, List.set_cons_succ]
  refine held_take (i := 5) (some 11) rfl rfl (by kernel_rfl) (by kernel_rfl) (by kernel_rfl) (fun _ _ _ h => h) (yields_row (by kernel_rfl) 135 (.tmp 3) rfl w.heap.size rfl (clCells c) _ _ (fun w' h => h.A) Tryz.underlying135 rfl (by kernel_rfl)) HT0.out ?_
  simp only [Act.put, List.setIfInBounds_toArray, List.set_cons_zero, List.set_cons_succ]
  refine held_take (i := 6) (some 12) rfl rfl (by kernel_rfl) (by kernel_rfl) (by kernel_rfl) (fun _ _ _ h => h) (.inl ⟨by kernel_rfl, fun w' h => by go_simp; rfl⟩) HT0.out ?_
  simp only [Act.put, List.setIfInBounds_toArray, List.set_cons_zero, List.set_cons_succ]
  refine held_take (i := 7) (some 13) rfl rfl (by kernel_rfl) (by kernel_rfl) (by kernel_rfl) (fun _ _ _ h => h) (.inl ⟨by kernel_rfl, fun w' h => by have hc := (cell_of_blk h.B 2 : w'.cell? ⟨w.heap.size + 1, 2, none⟩ = some (.int .i64 x.s)); go_simp; rfl⟩) HT0.out ?_
  simp only [Act.put, List.setIfInBounds_toArray, List.set_cons_zero, List.set_cons_succ]
  refine held_call (i := 4) (some 10) (by kernel_rfl) rfl rfl (by kernel_rfl) (by go_simp; exact ⟨rfl, rfl⟩) ?_
  refine (Span_any c r hr _).mono ?_
  rintro e w1 ⟨rfl, hw1⟩
  have hb1 : Below w0.heap.size w0 w1 := by rw [hw1]; exact ((Below.refl _ _).alloc (Nat.le_refl _) _).alloc (by simp) _
  have HT1 := hide (HT0.out.below hb1)
  have HZ1 := hide ((hb1.block _ (blk_lt HZ0.out)).trans HZ0.out)
  clear hb1
  clear hw1
  refine ⟨_, rfl, HT1.out, ?_⟩
  simp only [Act.put, List.setIfInBounds_toArray, List.set_cons_zero, List.set_cons_succ]
  refine held_call (i := 8) (some 14) (by kernel_rfl) rfl rfl (by kernel_rfl) (by go_simp; exact ⟨rfl, rfl⟩) ?_
  refine (Span_any c s hs _).mono ?_
  rintro e w2 ⟨rfl, hw2⟩
  have hb2 : Below w1.heap.size w1 w2 := by rw [hw2]; exact ((Below.refl _ _).alloc (Nat.le_refl _) _).alloc (by simp) _
  have HT2 := hide (HT1.out.below hb2)
  have HZ2 := hide ((hb2.block _ (blk_lt HZ1.out)).trans HZ1.out)
  clear hb2
  clear hw2
  refine ⟨_, rfl, HT2.out, ?_⟩
  simp only [Act.put, List.setIfInBounds_toArray, List.set_cons_zero, List.set_cons_succ]
  refine held_call (i := 9) (some 15) (by kernel_rfl) rfl rfl (by kernel_rfl) (by go_simp; exact ⟨rfl, rfl⟩) ?_
  refine (Add_any _ _ _ _ _).mono ?_
  rintro e w3 ⟨rfl, hb⟩
  have hb3 : Below w2.heap.size w2 w3 := hb
  have HT3 := hide (HT2.out.below hb3)
  have HZ3 := hide ((hb3.block _ (blk_lt HZ2.out)).trans HZ2.out)
  clear hb3
  clear hb
  refine ⟨_, rfl, HT3.out, ?_⟩
  simp only [Act.put, List.setIfInBounds_toArray, List.set_cons_zero, List.set_cons_succ]
  refine held_storeSp (i := 10) (.tmp 5) (.tmp 15) (w.heap.size + 1 + 1) #[.int .i64 (addLo (c.lo r) (c.hi r) (c.lo s) (c.hi s)), .int .i64 (addHi (c.lo r) (c.hi r) (c.lo s) (c.hi s))] _ (by kernel_rfl) rfl (by kernel_rfl) rfl (by kernel_rfl) (by kernel_rfl) HZ3.out rfl rfl (by simp [Value.oneCell']) (HT3.out.setRow _) rfl ?_
  intro w4 hw4
  have hg : w4.heap[w.heap.size + 1 + 1]? = some (spB (addLo (c.lo r) (c.hi r) (c.lo s) (c.hi s)) (addHi (c.lo r) (c.hi r) (c.lo s) (c.hi s))) := by rw [hw4.out]; exact setRow_heap w3 _ _ _ _ _ HZ3.out
  have hb : Below w.heap.size w w4 := by rw [hw4.out]; exact (HT3.out.setRow _).b
  clear hw4
  refine wpAnyH_done (by kernel_rfl) ?_ _
  go_wp2
  exact bodyPost_ret (results_cell_row rfl _ _ (w.heap.size + 1 + 1) 132 _ _ _ rfl hg Tryz.underlying132 rfl (by kernel_rfl)) rfl ⟨rfl, hb⟩

set_option maxRecDepth 100000 in
set_option maxHeartbeats 2000000 in
theorem sets_reckons (c : Cl) (x : Ln) (r : Nat) (hx : x.r = (r : Int)) (hr : r < 8) (cb : Nat) (w : World) (s : Nat) (hy : x.s = (s : Int)) (hs : s < 8) (k : Nat) (hk : w.heap[k]? = some (.cells #[.func (.func 66) #[] #[]] 146)) (hc : w.heap[cb]? = some (.cells #[.func (.func 136) #[] #[.pointer (some ⟨k, 0, none⟩)]] 137)) :
    Calls Tryz.prog 131 #[.agg (clCells c), .agg (lnArr x), .pointer (some ⟨cb, 0, none⟩)] w fun e w' => e = .returned (.agg (clCells (c.with_ r (addLo (c.lo r) (c.hi r) (c.lo s) (c.hi s)) (addHi (c.lo r) (c.hi r) (c.lo s) (c.hi s))))) ∧ Below w.heap.size w w' := by
  have HC := hide hc
  clear hc
  have HK := hide hk
  clear hk
  go_enter Tryz.func131, Tryz.ntmps131
  go_wp2_with fail
  have ht := two_mk w c x (clB clNone)
  have hz := blk2 w (clB c) (lnB x) (clB clNone)
  change Code.wp _ _ _ _ (((w.alloc (clB c)).alloc (lnB x)).alloc (clB clNone))
  generalize ((w.alloc (clB c)).alloc (lnB x)).alloc (clB clNone) = W at *
  have HT := hide ht
  have HZ := hide hz
  clear ht hz
  refine wp_region_held (S := Two w c x) mixed ?_
  have hb0 : Below W.heap.size W { W with drawn := W.drawn + 1 } := (Below.refl _ _).drew
  generalize ({ W with drawn := W.drawn + 1 } : World) = w0 at *
  have HT0 := hide (HT.out.below hb0)
  have HZ0 := hide ((hb0.block _ (blk_lt HZ.out)).trans HZ.out)
  clear hb0
  refine held_take (i := 0) (some 6) rfl rfl (by kernel_rfl) (by kernel_rfl) (by kernel_rfl) (fun _ _ _ h => h) (yields_row (by kernel_rfl) 135 (.tmp 3) rfl w.heap.size rfl (clCells c) _ _ (fun w' h => h.A) Tryz.underlying135 rfl (by kernel_rfl)) HT0.out ?_
  simp only [Act.put, List.setIfInBounds_toArray, List.set_cons_zero, List.set_cons_succ]
  refine held_take (i := 1) (some 7) rfl rfl (by kernel_rfl) (by kernel_rfl) (by kernel_rfl) (fun _ _ _ h => h) (.inl ⟨by kernel_rfl, fun w' h => by go_simp; rfl⟩) HT0.out ?_
  simp only [Act.put, List.setIfInBounds_toArray, List.set_cons_zero, List.set_cons_succ]
  refine held_take (i := 2) (some 8) rfl rfl (by kernel_rfl) (by kernel_rfl) (by kernel_rfl) (fun _ _ _ h => h) (.inl ⟨by kernel_rfl, fun w' h => by have hc := (cell_of_blk h.B 1 : w'.cell? ⟨w.heap.size + 1, 1, none⟩ = some (.int .i64 x.r)); go_simp; rfl⟩) HT0.out ?_
  simp only [Act.put, List.setIfInBounds_toArray, List.set_cons_zero, List.set_cons_succ]
  refine held_take (i := 3) (some 9) rfl rfl (by kernel_rfl) (by kernel_rfl) (by kernel_rfl) (fun _ _ _ h => h) (.inl ⟨by kernel_rfl, fun w' h => by have hc := (cell_of_blk (h.old HC.out) 0 : w'.cell? ⟨cb, 0, none⟩ = some (.func (.func 136) #[] #[.pointer (some ⟨k, 0, none⟩)])); go_simp; rfl⟩) HT0.out ?_
  simp only [Act.put, List.setIfInBounds_toArray, List.set_cons_zero, List.set_cons_succ]
  refine held_take (i := 4) (some 10) rfl rfl (by kernel_rfl) (by kernel_rfl) (by kernel_rfl) (fun _ _ _ h => h) (yields_row (by kernel_rfl) 135 (.tmp 3) rfl w.heap.size rfl (clCells c) _ _ (fun w' h => h.A) Tryz.underlying135 rfl (by kernel_rfl)) HT0.out ?_
  simp only [Act.put, List.setIfInBounds_toArray, List.set_cons_zero, List.set_cons_succ]
  refine held_take (i := 5) (some 11) rfl rfl (by kernel_rfl) (by kernel_rfl) (by kernel_rfl) (fun _ _ _ h => h) (yields_row (by kernel_rfl) 122 (.tmp 4) rfl (w.heap.size + 1) rfl (lnArr x) _ _ (fun w' h => h.B) Tryz.underlying122 rfl (by kernel_rfl)) HT0.out ?_
  simp only [Act.put, List.setIfInBounds_toArray, List.set_cons_zero, List.set_cons_succ]
  refine held_call (i := 6) (some 12) (by kernel_rfl) rfl rfl (by kernel_rfl) (by go_simp; exact ⟨rfl, rfl⟩) ?_
  refine (reckons_add c x r s hx hy hr hs k _ (HT0.out.old HK.out)).mono ?_
  rintro e w1 ⟨rfl, hw1⟩
  have hb1 : Below w0.heap.size w0 w1 := hw1
  have HT1 := hide (HT0.out.below hb1)
  have HZ1 := hide ((hb1.block _ (blk_lt HZ0.out)).trans HZ0.out)
  clear hb1
  clear hw1
  refine ⟨_, rfl, HT1.out, ?_⟩
  simp only [Act.put, List.setIfInBounds_toArray, List.set_cons_zero, List.set_cons_succ]
  refine held_call (i := 7) (some 13) (by kernel_rfl) rfl rfl (by kernel_rfl) (by go_simp; exact ⟨rfl, rfl⟩) ?_
  refine (With_any c r hr (addLo (c.lo r) (c.hi r) (c.lo s) (c.hi s)) (addHi (c.lo r) (c.hi r) (c.lo s) (c.hi s)) _).mono ?_
  rintro e w2 ⟨rfl, hw2⟩
  have hb2 : Below w1.heap.size w1 w2 := by rw [hw2]; exact ((((Below.refl _ _).alloc (Nat.le_refl _) _).alloc (by simp) _).alloc (by simp; omega) _).drew
  have HT2 := hide (HT1.out.below hb2)
  have HZ2 := hide ((hb2.block _ (blk_lt HZ1.out)).trans HZ1.out)
  clear hb2
  clear hw2
  refine ⟨_, rfl, HT2.out, ?_⟩
  simp only [Act.put, List.setIfInBounds_toArray, List.set_cons_zero, List.set_cons_succ]
  refine held_storeCl (i := 8) (.tmp 5) (.tmp 13) (w.heap.size + 1 + 1) (clCells (c.with_ r (addLo (c.lo r) (c.hi r) (c.lo s) (c.hi s)) (addHi (c.lo r) (c.hi r) (c.lo s) (c.hi s)))) _ (by kernel_rfl) rfl (by kernel_rfl) rfl (by kernel_rfl) (by kernel_rfl) HZ2.out (cl_size _) (cl_size _) (cl_one _) (HT2.out.setRow _) rfl ?_
  intro w3 hw3
  have hg : w3.heap[w.heap.size + 1 + 1]? = some (clB (c.with_ r (addLo (c.lo r) (c.hi r) (c.lo s) (c.hi s)) (addHi (c.lo r) (c.hi r) (c.lo s) (c.hi s)))) := by rw [hw3.out]; exact setRow_heap w2 _ _ _ _ _ HZ2.out
  have hb : Below w.heap.size w w3 := by rw [hw3.out]; exact (HT2.out.setRow _).b
  clear hw3
  refine wpAnyH_done (by kernel_rfl) ?_ _
  go_wp2
  exact bodyPost_ret (results_cell_row rfl _ _ (w.heap.size + 1 + 1) 135 _ _ _ rfl hg Tryz.underlying135 rfl (by kernel_rfl)) rfl ⟨rfl, hb⟩

end Go.Proofs.YtngopilbpiplhaaGreatDoor
