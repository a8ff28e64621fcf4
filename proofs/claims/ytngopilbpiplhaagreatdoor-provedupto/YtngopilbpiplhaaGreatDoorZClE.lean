/-
  The contracts of the closures that set a register's span.
-/
import Derived.Test.YtngopilbpiplhaaGreatDoorZState
namespace Go.Proofs.YtngopilbpiplhaaGreatDoor
open Go.RowKit
set_option maxRecDepth 100000 in
set_option maxHeartbeats 2000000 in
theorem sets_rows2 (c : Cl) (x : Ln) (r : Nat) (hx : x.r = (r : Int)) (hr : r < 8) (cb : Nat) (w : World) (hc : w.heap[cb]? = some (.cells #[.func (.func 56) #[] #[]] 137)) :
    Calls Tryz.prog 131 #[.agg (clCells c), .agg (lnArr x), .pointer (some ⟨cb, 0, none⟩)] w fun e w' => e = .returned (.agg (clCells (c.with_ r (x.n) (x.n)))) ∧ Below w.heap.size w w' := by
  have HC := hide hc
  clear hc
  go_enter Tryz.func131, Tryz.ntmps131
  go_wp2_with fail
  have ht := two_mk w c x (clB clNone)
  have hz := blk2 w (clB c) (lnB x) (clB clNone)
  change Code.wp _ _ _ _ (((w.alloc (clB c)).alloc (lnB x)).alloc (clB clNone))
  generalize ((w.alloc (clB c)).alloc (lnB x)).alloc (clB clNone) = W at *
  have HT := hide ht
  have HZ := hide hz
  clear ht hz
  refine wp_region_held (S := Two w c x) mixed ?_
  have hb0 : Below W.heap.size W { W with drawn := W.drawn + 1 } := (Below.refl _ _).drew
  generalize ({ W with drawn := W.drawn + 1 } : World) = w0 at *
  have HT0 := hide (HT.out.below hb0)
  have HZ0 := hide ((hb0.block _ (blk_lt HZ.out)).trans HZ.out)
  clear hb0
  refine hT 0 6 rfl rfl (by kernel_rfl) (fun _ _ _ h => h) (yields_row (by kernel_rfl) 135 (.tmp 3) rfl w.heap.size rfl (clCells c) _ _ (fun w' h => h.A) Tryz.underlying135 rfl (by kernel_rfl)) HT0.out ?_
  simp only [Act.put, zzA, zzB, zzC]
  refine hT 1 7 rfl rfl (by kernel_rfl) (fun _ _ _ h => h) (.inl ⟨by kernel_rfl, fun w' h => by go_simp; rfl⟩) HT0.out ?_
  simp only [Act.put, zzA, zzB, zzC]
  refine hT 2 8 rfl rfl (by kernel_rfl) (fun _ _ _ h => h) (.inl ⟨by kernel_rfl, fun w' h => by have hc := (cell_of_blk h.B 1 : w'.cell? ⟨w.heap.size + 1, 1, none⟩ = some (.int .i64 x.r)); go_simp; rfl⟩) HT0.out ?_
  simp only [Act.put, zzA, zzB, zzC]
  refine hT 3 9 rfl rfl (by kernel_rfl) (fun _ _ _ h => h) (.inl ⟨by kernel_rfl, fun w' h => by have hc := (cell_of_blk (h.old HC.out) 0 : w'.cell? ⟨cb, 0, none⟩ = some (.func (.func 56) #[] #[])); go_simp; rfl⟩) HT0.out ?_
  simp only [Act.put, zzA, zzB, zzC]
  refine hT 4 10 rfl rfl (by kernel_rfl) (fun _ _ _ h => h) (yields_row (by kernel_rfl) 135 (.tmp 3) rfl w.heap.size rfl (clCells c) _ _ (fun w' h => h.A) Tryz.underlying135 rfl (by kernel_rfl)) HT0.out ?_
  simp only [Act.put, zzA, zzB, zzC]
  refine hT 5 11 rfl rfl (by kernel_rfl) (fun _ _ _ h => h) (yields_row (by kernel_rfl) 122 (.tmp 4) rfl (w.heap.size + 1) rfl (lnArr x) _ _ (fun w' h => h.B) Tryz.underlying122 rfl (by kernel_rfl)) HT0.out ?_
  simp only [Act.put, zzA, zzB, zzC]
  refine held_call (i := 6) (some 12) (by kernel_rfl) rfl rfl (by kernel_rfl) (by go_simp; exact ⟨rfl, rfl⟩) ?_
  refine (rows2_any c x _).mono ?_
  rintro e w1 ⟨rfl, hw1⟩
  have hb1 : Below w0.heap.size w0 w1 := by rw [hw1]; exact ((((Below.refl _ _).alloc (Nat.le_refl _) _).alloc (by simp) _).alloc (by simp; omega) _).alloc (by simp; omega) _
  have HT1 := hide (HT0.out.below hb1)
  have HZ1 := hide ((hb1.block _ (blk_lt HZ0.out)).trans HZ0.out)
  clear hb1
  clear hw1
  refine ⟨_, rfl, HT1.out, ?_⟩
  simp only [Act.put, zzA, zzB, zzC]
  refine held_call (i := 7) (some 13) (by kernel_rfl) rfl rfl (by kernel_rfl) (by go_simp; exact ⟨rfl, rfl⟩) ?_
  refine (With_any c r hr (x.n) (x.n) _).mono ?_
  rintro e w2 ⟨rfl, hw2⟩
  have hb2 : Below w1.heap.size w1 w2 := by rw [hw2]; exact ((((Below.refl _ _).alloc (Nat.le_refl _) _).alloc (by simp) _).alloc (by simp; omega) _).drew
  have HT2 := hide (HT1.out.below hb2)
  have HZ2 := hide ((hb2.block _ (blk_lt HZ1.out)).trans HZ1.out)
  clear hb2
  clear hw2
  refine ⟨_, rfl, HT2.out, ?_⟩
  simp only [Act.put, zzA, zzB, zzC]
  refine held_storeCl (i := 8) (.tmp 5) (.tmp 13) (w.heap.size + 1 + 1) (clCells (c.with_ r (x.n) (x.n))) _ (by kernel_rfl) rfl (by kernel_rfl) rfl (by kernel_rfl) (by kernel_rfl) HZ2.out (cl_size _) (cl_size _) (cl_one _) (HT2.out.setRow _) rfl ?_
  intro w3 hw3
  have hg : w3.heap[w.heap.size + 1 + 1]? = some (clB (c.with_ r (x.n) (x.n))) := by rw [hw3.out]; exact setRow_heap w2 _ _ _ _ _ HZ2.out
  have hb : Below w.heap.size w w3 := by rw [hw3.out]; exact (HT2.out.setRow _).b
  clear hw3
  refine wpAnyH_done (by kernel_rfl) ?_ _
  go_wp2
  exact bodyPost_ret (results_cell_row rfl _ _ (w.heap.size + 1 + 1) 135 _ _ _ rfl hg Tryz.underlying135 rfl (by kernel_rfl)) rfl ⟨rfl, hb⟩
set_option maxRecDepth 100000 in
set_option maxHeartbeats 2000000 in
theorem sets_fetches (c : Cl) (x : Ln) (r : Nat) (hx : x.r = (r : Int)) (hr : r < 8) (cb : Nat) (w : World) (k : Nat) (lo hi : Int) (hk : w.heap[k]? = some (spB lo hi)) (hc : w.heap[cb]? = some (.cells #[.func (.func 147) #[] #[.pointer (some ⟨k, 0, none⟩)]] 137)) :
    Calls Tryz.prog 131 #[.agg (clCells c), .agg (lnArr x), .pointer (some ⟨cb, 0, none⟩)] w fun e w' => e = .returned (.agg (clCells (c.with_ r (lo) (hi)))) ∧ Below w.heap.size w w' := by
  have HC := hide hc
  clear hc
  have HK := hide hk
  clear hk
  go_enter Tryz.func131, Tryz.ntmps131
  go_wp2_with fail
  have ht := two_mk w c x (clB clNone)
  have hz := blk2 w (clB c) (lnB x) (clB clNone)
  change Code.wp _ _ _ _ (((w.alloc (clB c)).alloc (lnB x)).alloc (clB clNone))
  generalize ((w.alloc (clB c)).alloc (lnB x)).alloc (clB clNone) = W at *
  have HT := hide ht
  have HZ := hide hz
  clear ht hz
  refine wp_region_held (S := Two w c x) mixed ?_
  have hb0 : Below W.heap.size W { W with drawn := W.drawn + 1 } := (Below.refl _ _).drew
  generalize ({ W with drawn := W.drawn + 1 } : World) = w0 at *
  have HT0 := hide (HT.out.below hb0)
  have HZ0 := hide ((hb0.block _ (blk_lt HZ.out)).trans HZ.out)
  clear hb0
  refine hT 0 6 rfl rfl (by kernel_rfl) (fun _ _ _ h => h) (yields_row (by kernel_rfl) 135 (.tmp 3) rfl w.heap.size rfl (clCells c) _ _ (fun w' h => h.A) Tryz.underlying135 rfl (by kernel_rfl)) HT0.out ?_
  simp only [Act.put, zzA, zzB, zzC]
  refine hT 1 7 rfl rfl (by kernel_rfl) (fun _ _ _ h => h) (.inl ⟨by kernel_rfl, fun w' h => by go_simp; rfl⟩) HT0.out ?_
  simp only [Act.put, zzA, zzB, zzC]
  refine hT 2 8 rfl rfl (by kernel_rfl) (fun _ _ _ h => h) (.inl ⟨by kernel_rfl, fun w' h => by have hc := (cell_of_blk h.B 1 : w'.cell? ⟨w.heap.size + 1, 1, none⟩ = some (.int .i64 x.r)); go_simp; rfl⟩) HT0.out ?_
  simp only [Act.put, zzA, zzB, zzC]
  refine hT 3 9 rfl rfl (by kernel_rfl) (fun _ _ _ h => h) (.inl ⟨by kernel_rfl, fun w' h => by have hc := (cell_of_blk (h.old HC.out) 0 : w'.cell? ⟨cb, 0, none⟩ = some (.func (.func 147) #[] #[.pointer (some ⟨k, 0, none⟩)])); go_simp; rfl⟩) HT0.out ?_
  simp only [Act.put, zzA, zzB, zzC]
  refine hT 4 10 rfl rfl (by kernel_rfl) (fun _ _ _ h => h) (yields_row (by kernel_rfl) 135 (.tmp 3) rfl w.heap.size rfl (clCells c) _ _ (fun w' h => h.A) Tryz.underlying135 rfl (by kernel_rfl)) HT0.out ?_
  simp only [Act.put, zzA, zzB, zzC]
  refine hT 5 11 rfl rfl (by kernel_rfl) (fun _ _ _ h => h) (yields_row (by kernel_rfl) 122 (.tmp 4) rfl (w.heap.size + 1) rfl (lnArr x) _ _ (fun w' h => h.B) Tryz.underlying122 rfl (by kernel_rfl)) HT0.out ?_
  simp only [Act.put, zzA, zzB, zzC]
  refine held_call (i := 6) (some 12) (by kernel_rfl) rfl rfl (by kernel_rfl) (by go_simp; exact ⟨rfl, rfl⟩) ?_
  refine (fetchesC_any c x k lo hi _ (HT0.out.old HK.out)).mono ?_
  rintro e w1 ⟨rfl, hw1⟩
  have hb1 : Below w0.heap.size w0 w1 := by rw [hw1]; exact (((Below.refl _ _).alloc (Nat.le_refl _) _).alloc (by simp) _).alloc (by simp; omega) _
  have HT1 := hide (HT0.out.below hb1)
  have HZ1 := hide ((hb1.block _ (blk_lt HZ0.out)).trans HZ0.out)
  clear hb1
  clear hw1
  refine ⟨_, rfl, HT1.out, ?_⟩
  simp only [Act.put, zzA, zzB, zzC]
  refine held_call (i := 7) (some 13) (by kernel_rfl) rfl rfl (by kernel_rfl) (by go_simp; exact ⟨rfl, rfl⟩) ?_
  refine (With_any c r hr (lo) (hi) _).mono ?_
  rintro e w2 ⟨rfl, hw2⟩
  have hb2 : Below w1.heap.size w1 w2 := by rw [hw2]; exact ((((Below.refl _ _).alloc (Nat.le_refl _) _).alloc (by simp) _).alloc (by simp; omega) _).drew
  have HT2 := hide (HT1.out.below hb2)
  have HZ2 := hide ((hb2.block _ (blk_lt HZ1.out)).trans HZ1.out)
  clear hb2
  clear hw2
  refine ⟨_, rfl, HT2.out, ?_⟩
  simp only [Act.put, zzA, zzB, zzC]
  refine held_storeCl (i := 8) (.tmp 5) (.tmp 13) (w.heap.size + 1 + 1) (clCells (c.with_ r (lo) (hi))) _ (by kernel_rfl) rfl (by kernel_rfl) rfl (by kernel_rfl) (by kernel_rfl) HZ2.out (cl_size _) (cl_size _) (cl_one _) (HT2.out.setRow _) rfl ?_
  intro w3 hw3
  have hg : w3.heap[w.heap.size + 1 + 1]? = some (clB (c.with_ r (lo) (hi))) := by rw [hw3.out]; exact setRow_heap w2 _ _ _ _ _ HZ2.out
  have hb : Below w.heap.size w w3 := by rw [hw3.out]; exact (HT2.out.setRow _).b
  clear hw3
  refine wpAnyH_done (by kernel_rfl) ?_ _
  go_wp2
  exact bodyPost_ret (results_cell_row rfl _ _ (w.heap.size + 1 + 1) 135 _ _ _ rfl hg Tryz.underlying135 rfl (by kernel_rfl)) rfl ⟨rfl, hb⟩
/-- What was handed in (a claim, a line). -/
structure Two2 (w : World) (c : Cl) (x : Ln) (W : World) : Prop where
  A : W.heap[w.heap.size]? = some (clB c)
  B : W.heap[w.heap.size + 1]? = some (lnB x)
  b : Below w.heap.size w W
theorem two_mk2 (w : World) (c : Cl) (x : Ln) : Two2 w c x ((w.alloc (clB c)).alloc (lnB x)) :=
  ⟨blk_alloc (blk_new w _) _, heap_alloc2_new w _ _, ((Below.refl _ _).alloc (Nat.le_refl _) _).alloc (by simp) _⟩
theorem Two2.below {w W W' : World} {c : Cl} {x : Ln} (h : Two2 w c x W) (hb : Below W.heap.size W W') : Two2 w c x W' :=
  ⟨(hb.block _ (blk_lt h.A)).trans h.A, (hb.block _ (blk_lt h.B)).trans h.B, h.b.trans (hb.mono h.b.size)⟩
theorem Two2.old {w W : World} {c : Cl} {x : Ln} {o : Obj} {k : Nat} (h : Two2 w c x W) (hk : w.heap[k]? = some o) : W.heap[k]? = some o := (h.b.block k (blk_lt hk)).trans hk
set_option maxRecDepth 100000 in
set_option maxHeartbeats 2000000 in
theorem placeSC_any (c : Cl) (x : Ln) (s : Nat) (p : Int) (hy : x.s = (s : Int)) (hs : s < 8) (cb : Nat) (w : World) (hc : w.heap[cb]? = some (.cells #[.int .i64 p] 2)) :
    Calls Tryz.prog 145 #[.agg (clCells c), .agg (lnArr x), .pointer (some ⟨cb, 0, none⟩)] w fun e w' => e = .returned (.bool (decide (0 ≤ c.lo s) && decide (c.hi s < p))) ∧ Below w.heap.size w w' := by
  have HC := hide hc
  clear hc
  go_enter Tryz.func145, Tryz.ntmps145
  go_wp2_with fail
  have ht := two_mk2 w c x
  change Code.wp _ _ _ _ ((w.alloc (clB c)).alloc (lnB x))
  generalize (w.alloc (clB c)).alloc (lnB x) = W at *
  have HT := hide ht
  clear ht
  refine wp_region_held (S := Two2 w c x) mixed ?_
  have hb0 : Below W.heap.size W { W with drawn := W.drawn + 1 } := (Below.refl _ _).drew
  generalize ({ W with drawn := W.drawn + 1 } : World) = w0 at *
  have HT0 := hide (HT.out.below hb0)
  clear hb0
  refine hT 0 6 rfl rfl (by kernel_rfl) (fun _ _ _ h => h) (yields_row (by kernel_rfl) 135 (.tmp 3) rfl w.heap.size rfl (clCells c) _ _ (fun w' h => h.A) Tryz.underlying135 rfl (by kernel_rfl)) HT0.out ?_
  simp only [Act.put, zzA, zzB, zzC]
  refine hT 1 7 rfl rfl (by kernel_rfl) (fun _ _ _ h => h) (.inl ⟨by kernel_rfl, fun w' h => by go_simp; rfl⟩) HT0.out ?_
  simp only [Act.put, zzA, zzB, zzC]
  refine hT 2 8 rfl rfl (by kernel_rfl) (fun _ _ _ h => h) (.inl ⟨by kernel_rfl, fun w' h => by have hc := (cell_of_blk h.B 2 : w'.cell? ⟨w.heap.size + 1, 2, none⟩ = some (.int .i64 x.s)); go_simp; rfl⟩) HT0.out ?_
  simp only [Act.put, zzA, zzB, zzC]
  refine hT 4 10 rfl rfl (by kernel_rfl) (fun _ _ _ h => h) (.inl ⟨by kernel_rfl, fun w' h => by have hc := (cell_of_blk (h.old HC.out) 0 : w'.cell? ⟨cb, 0, none⟩ = some (.int .i64 p)); go_simp; rfl⟩) HT0.out ?_
  simp only [Act.put, zzA, zzB, zzC]
  refine held_call (i := 3) (some 9) (by kernel_rfl) rfl rfl (by kernel_rfl) (by go_simp; exact ⟨rfl, rfl⟩) ?_
  refine (Span_any c s hs _).mono ?_
  rintro e w1 ⟨rfl, hw1⟩
  have HT1 := hide (HT0.out.below (W' := w1) (by rw [hw1]; exact ((Below.refl _ _).alloc (Nat.le_refl _) _).alloc (by simp) _))
  clear hw1
  refine ⟨_, rfl, HT1.out, ?_⟩
  simp only [Act.put, zzA, zzB, zzC]
  refine held_call (i := 5) (some 11) (by kernel_rfl) rfl rfl (by kernel_rfl) (by go_simp; exact ⟨rfl, rfl⟩) ?_
  refine (isPlace_any _ _ _ _).mono ?_
  rintro e w2 ⟨rfl, hw2⟩
  have HT2 := hide (HT1.out.below (W' := w2) (by rw [hw2]; exact (Below.refl _ _).alloc (Nat.le_refl _) _))
  clear hw2
  refine ⟨_, rfl, HT2.out, ?_⟩
  simp only [Act.put, zzA, zzB, zzC]
  refine hT 6 5 rfl rfl (by kernel_rfl) (fun _ _ _ h => h) (.inl ⟨by kernel_rfl, fun w' h => by go_simp; rfl⟩) HT2.out ?_
  simp only [Act.put, zzA, zzB, zzC]
  have hb := HT2.out.b
  refine wpAnyH_done (by kernel_rfl) ?_ _
  go_wp2
  go_ret
  exact ⟨rfl, hb⟩
end Go.Proofs.YtngopilbpiplhaaGreatDoor
