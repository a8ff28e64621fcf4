/-
  The contract of search.joined.
-/
import Derived.Test.YtngopilbpiplhaaGreatDoorZClL
import Derived.Test.YtngopilbpiplhaaGreatDoorZClX
import Derived.Test.YtngopilbpiplhaaGreatDoorZClT
import Derived.Deep.MidRow
namespace Go.Proofs.YtngopilbpiplhaaGreatDoor
open Go.RowKit
set_option linter.unusedVariables false

/-- A way out handed in. -/
structure EIn (w : World) (o : Obj) (W : World) : Prop where
  A : W.heap[w.heap.size]? = some o
  b : Below w.heap.size w W
  s : w.heap.size + 2 ≤ W.heap.size
theorem EIn.below {w W W' : World} {o : Obj} (h : EIn w o W) (hb : Below W.heap.size W W') : EIn w o W' :=
  ⟨(hb.block _ (blk_lt h.A)).trans h.A, h.b.trans (hb.mono (by have := h.s; omega)), Nat.le_trans h.s hb.size⟩
theorem ein_mk (w : World) (o z : Obj) : EIn w o ((w.alloc o).alloc z) := ⟨blk_alloc (blk_new w _) _, ((Below.refl _ _).alloc (Nat.le_refl _) _).alloc (by simp) _, by simp⟩
theorem EIn.range {w W : World} {o : Obj} (h : EIn w o W) {b i : Nat} {cs : List Value} (hb : b < w.heap.size) (hr : w.rangeAt b i cs) : W.rangeAt b i cs := fun j v hv => (h.b.cell (p := ⟨b, i + j, none⟩) hb).trans (hr j v hv)

theorem exec_allocCl {o : Oper} {a : Act} {w : World} (ho : o.op = .alloc 135) : (execOp a.eval o).run Tryz.prog w = .ok (.value (.pointer (some ⟨w.heap.size, 0, none⟩))) (w.alloc (clB clNone)) := by
  unfold execOp
  simp only [ho]
  kernel_rfl
theorem EIn.setG {w W : World} {o : Obj} (h : EIn w o W) (g : Nat) (hg : w.heap.size < g) (cs : Array Value) : EIn w o (W.setRow g cs) :=
  ⟨(setRow_other _ _ _ _ (by omega)).trans h.A, h.b.trans ((keep_setRow' w.heap.size _ _ _).below (by omega)), by rw [setRow_size]; exact h.s⟩

set_option maxRecDepth 100000 in
set_option maxHeartbeats 4000000 in
theorem joined_any (sb pb hb n n1 n2 : Nat) (from_ to_ : Nat) (was ec : Cl) (chg : Int) (w : World) (hsb : sb < w.heap.size) (hpb : pb < w.heap.size) (hhb : hb < w.heap.size) (hto : to_ < n) (hn : n ≤ 1000)
    (hP : w.cell? ⟨sb, 2, none⟩ = some (.slice (some ⟨pb, 0, none⟩) n n1)) (hR : w.rangeAt pb (to_ * 25) (clCells was).toList) (hH : w.cell? ⟨sb, 3, none⟩ = some (.slice (some ⟨hb, 0, none⟩) n n2)) (hHc : w.cell? ⟨hb, to_, none⟩ = some (.int .i64 chg)) :
    Calls Tryz.prog 175 #[.pointer (some ⟨sb, 0, none⟩), .int .i64 from_, .agg (exC to_ ec).toArray] w fun e w' => e = .returned (.agg (clCells (if to_ ≤ from_ ∧ 6 < chg then letK (joinF was ec) was 8 else joinF was ec))) ∧ Below w.heap.size w w' := by
  generalize hRR : (if to_ ≤ from_ ∧ 6 < chg then letK (joinF was ec) was 8 else joinF was ec) = RR
  have HRR := hide hRR
  clear hRR
  have hw0 := ein_mk w (.cells (exC to_ ec).toArray 243) (clB clNone)
  have hz0 : ((w.alloc (.cells (exC to_ ec).toArray 243)).alloc (clB clNone)).heap[w.heap.size + 1]? = some (clB clNone) := heap_alloc2_new w _ _
  go_enter Tryz.func175, Tryz.ntmps175
  go_upto_region 1 with fail
  change Code.wp _ _ _ _ ((w.alloc (.cells (exC to_ ec).toArray 243)).alloc (clB clNone))
  generalize (w.alloc (.cells (exC to_ ec).toArray 243)).alloc (clB clNone) = W at *
  have HE := hide hw0
  have HZ := hide hz0
  have HP := hide hP
  have HR := hide hR
  have HH := hide hH
  have HHC := hide hHc
  clear hw0 hz0 hP hR hH hHc
  refine wp_region_held (S := EIn w (.cells (exC to_ ec).toArray 243)) mixed ?_
  have hb0 : Below W.heap.size W { W with drawn := W.drawn + 1 } := (Below.refl _ _).drew
  generalize ({ W with drawn := W.drawn + 1 } : World) = w0 at *
  have HE0 := hide (HE.out.below hb0)
  have HZ0 := hide ((hb0.block _ (blk_lt HZ.out)).trans HZ.out)
  clear hb0
  have htI : (to_ : Int) < (n : Int) := by omega
  refine held_take (i := 0) (some 10) rfl rfl (by kernel_rfl) (by kernel_rfl) (by kernel_rfl) (fun _ _ _ h => h) (.inl ⟨by kernel_rfl, fun w' h => by go_simp; rfl⟩) HE0.out ?_
  simp only [Act.put, List.setIfInBounds_toArray, List.set_cons_zero, List.set_cons_succ]
  refine held_take (i := 1) (some 11) rfl rfl (by kernel_rfl) (by kernel_rfl) (by kernel_rfl) (fun _ _ _ h => h) (.inl ⟨by kernel_rfl, fun w' h => by go_simp; rfl⟩) HE0.out ?_
  simp only [Act.put, List.setIfInBounds_toArray, List.set_cons_zero, List.set_cons_succ]
  refine held_take (i := 2) (some 12) rfl rfl (by kernel_rfl) (by kernel_rfl) (by kernel_rfl) (fun _ _ _ h => h) (.inl ⟨by kernel_rfl, fun w' h => by go_simp; rfl⟩) HE0.out ?_
  simp only [Act.put, List.setIfInBounds_toArray, List.set_cons_zero, List.set_cons_succ]
  refine held_take (i := 3) (some 13) rfl rfl (by kernel_rfl) (by kernel_rfl) (by kernel_rfl) (fun _ _ _ h => h) (.inl ⟨by kernel_rfl, fun w' h => by have hc := (h.b.cell (p := ⟨sb, 2, none⟩) hsb).trans HP.out; go_simp; rfl⟩) HE0.out ?_
  simp only [Act.put, List.setIfInBounds_toArray, List.set_cons_zero, List.set_cons_succ]
  refine held_take (i := 4) (some 14) rfl rfl (by kernel_rfl) (by kernel_rfl) (by kernel_rfl) (fun _ _ _ h => h) (.inl ⟨by kernel_rfl, fun w' h => by go_simp; rfl⟩) HE0.out ?_
  simp only [Act.put, List.setIfInBounds_toArray, List.set_cons_zero, List.set_cons_succ]
  refine held_take (i := 5) (some 15) rfl rfl (by kernel_rfl) (by kernel_rfl) (by kernel_rfl) (fun _ _ _ h => h) (.inl ⟨by kernel_rfl, fun w' h => by have hc : w'.cell? ⟨w.heap.size, 0, none⟩ = some (.int .i64 to_) := cell_of_blk h.A 0; go_simp; rfl⟩) HE0.out ?_
  simp only [Act.put, List.setIfInBounds_toArray, List.set_cons_zero, List.set_cons_succ]
  refine held_take (i := 6) (some 16) rfl rfl (by kernel_rfl) (by kernel_rfl) (by kernel_rfl) (fun _ _ _ h => h) (.inl ⟨by kernel_rfl, fun w' h => by go_simp; rfl⟩) HE0.out ?_
  simp only [Act.put, List.setIfInBounds_toArray, List.set_cons_zero, List.set_cons_succ]
  refine held_take (i := 7) (some 17) rfl rfl (by kernel_rfl) (by kernel_rfl) (by kernel_rfl) (fun _ _ _ h => h) (yieldsIf_load_mid (by kernel_rfl) 135 (.tmp 16) rfl pb (to_ * 25) (by kernel_rfl) (clCells was).toList _ (fun w' h => h.range hpb HR.out) Tryz.underlying135 rfl (by kernel_rfl)) HE0.out ?_
  simp only [Act.put, List.setIfInBounds_toArray, List.set_cons_zero, List.set_cons_succ, Array.toArray_toList]
  refine wpAnyH_all (rs := [8]) (by kernel_rfl) (by simp) ?_
  intro i hi
  obtain rfl : i = 8 := by simpa using hi
  clear hi
  refine wpOp_new (some 7) rfl rfl (by kernel_rfl) (exec_allocCl rfl) ?_
  have hb1 : Below w0.heap.size w0 (w0.alloc (clB clNone)) := (Below.refl _ _).alloc (Nat.le_refl _) _
  have hg1 := blk_new w0 (clB clNone)
  generalize w0.alloc (clB clNone) = w1 at *
  have HE1 := hide (HE0.out.below hb1)
  have HZ1 := hide ((hb1.block _ (blk_lt HZ0.out)).trans HZ0.out)
  have HG1 := hide hg1
  have hs0 := HE0.out.s
  clear hb1 hg1
  refine ⟨HE1.out, ?_⟩
  simp only [Act.put, List.setIfInBounds_toArray, List.set_cons_zero, List.set_cons_succ]
  refine held_storeCl (i := 9) (.tmp 7) (.tmp 17) w0.heap.size (clCells was) _ (by kernel_rfl) rfl (by kernel_rfl) rfl (by kernel_rfl) (by kernel_rfl) HG1.out (cl_size _) (cl_size _) (cl_one _) (HE1.out.setG _ (by omega) _) rfl ?_
  intro w2 hw2
  have HE2 : Hid (EIn w (.cells (exC to_ ec).toArray 243) w2) := hide (by rw [hw2.out]; exact HE1.out.setG _ (by omega) _)
  have HZ2 : Hid (w2.heap[w.heap.size + 1]? = some (clB clNone)) := hide (by rw [hw2.out, setRow_other _ _ _ _ (by omega)]; exact HZ1.out)
  have HG2 : Hid (w2.heap[w0.heap.size]? = some (clB was)) := hide (by rw [hw2.out]; exact setRow_heap _ _ _ _ _ _ HG1.out)
  clear hw2 HE1 HZ1 HG1 HE0 HZ0 HE HZ
  refine wpAnyH_done (by kernel_rfl) ?_ _
  have hr1 : w2.rangeAt w.heap.size 1 (clCells ec).toList := fun j v hv => by
    rw [show 1 + j = j + 1 by omega, cell_of_blk HE2.out.A (j + 1)]
    simpa [exC] using hv
  go_wp2_with (first | (refine wpList_load_row rfl 135 (.tmp 7) rfl w0.heap.size rfl _ _ _ _ HG2.out Tryz.underlying135 rfl (by kernel_rfl) ?_) | (refine wpList_load_mid rfl 135 (.tmp 19) rfl w.heap.size 1 rfl (clCells ec).toList _ hr1 Tryz.underlying135 rfl (by kernel_rfl) ?_))
  clear hr1
  refine (Join_any was ec _).mono ?_
  rintro e w3 ⟨rfl, hb3⟩
  have HE3 := hide (HE2.out.below hb3)
  have HZ3 := hide ((hb3.block _ (blk_lt HZ2.out)).trans HZ2.out)
  have HG3 := hide ((hb3.block _ (blk_lt HG2.out)).trans HG2.out)
  clear hb3 HE2 HZ2 HG2
  go_wp2_with (refine wpList_storeCl rfl (.tmp 8) (.tmp 21) rfl w3.heap.size (clCells (joinF was ec)) _ _ rfl rfl (blk_new w3 _) (cl_size _) rfl (cl_one _) ?_)
  intro w4 hw4
  have hb4 : Below w3.heap.size w3 w4 := by rw [hw4.out]; exact ((Below.refl _ _).alloc (Nat.le_refl _) _).trans ((keep_setRow' w3.heap.size _ _ _).below (Nat.le_refl _))
  have HJ4 : Hid (w4.heap[w3.heap.size]? = some (clB (joinF was ec))) := hide (by rw [hw4.out]; exact setRow_heap _ _ _ _ _ _ (blk_new w3 _))
  have HE4 := hide (HE3.out.below hb4)
  have HZ4 := hide ((hb4.block _ (blk_lt HZ3.out)).trans HZ3.out)
  have HG4 := hide ((hb4.block _ (blk_lt HG3.out)).trans HG3.out)
  clear hb4 hw4 HE3 HZ3 HG3
  have c0 : w4.cell? ⟨w.heap.size, 0, none⟩ = some (.int .i64 to_) := cell_of_blk HE4.out.A 0
  by_cases hback : to_ ≤ from_
  · have hbI : (to_ : Int) ≤ (from_ : Int) := by omega
    by_cases hc6 : 6 < chg
    · have HR6 : Hid ((if to_ ≤ from_ ∧ 6 < chg then letK (joinF was ec) was 8 else joinF was ec) = letK (joinF was ec) was 8) := hide (if_pos (by omega))
      go_upto_region 4 with fail
      clear c0
      refine wp_region_still_lit mixed (by kernel_rfl) ?_
      have hb5 : Below w4.heap.size w4 { w4 with drawn := w4.drawn + 1 } := (Below.refl _ _).drew
      generalize ({ w4 with drawn := w4.drawn + 1 } : World) = w5 at *
      have HE5 := hide (HE4.out.below hb5)
      have HZ5 := hide ((hb5.block _ (blk_lt HZ4.out)).trans HZ4.out)
      have HG5 := hide ((hb5.block _ (blk_lt HG4.out)).trans HG4.out)
      have HJ5 := hide ((hb5.block _ (blk_lt HJ4.out)).trans HJ4.out)
      clear hb5 HE4 HZ4 HG4 HJ4
      have c0 : w5.cell? ⟨w.heap.size, 0, none⟩ = some (.int .i64 to_) := cell_of_blk HE5.out.A 0
      have c3 : w5.cell? ⟨sb, 3, none⟩ = some (.slice (some ⟨hb, 0, none⟩) n n2) := (HE5.out.b.cell (p := ⟨sb, 3, none⟩) hsb).trans HH.out
      have ch : w5.cell? ⟨hb, to_, none⟩ = some (.int .i64 chg) := (HE5.out.b.cell (p := ⟨hb, to_, none⟩) hhb).trans HHC.out
      repeat still_step
      refine wpStill_nil ?_
      clear c0 c3 ch
      go_wp2_with (first | (refine wpList_load_row rfl 135 (.tmp 8) rfl w3.heap.size rfl _ _ _ _ HJ5.out Tryz.underlying135 rfl (by kernel_rfl) ?_) | (refine wpList_load_row rfl 135 (.tmp 7) rfl w0.heap.size rfl _ _ _ _ HG5.out Tryz.underlying135 rfl (by kernel_rfl) ?_))
      refine (LetGo_any (joinF was ec) was _).mono ?_
      rintro e w6 ⟨rfl, hb6⟩
      have HE6 := hide (HE5.out.below hb6)
      have HZ6 := hide ((hb6.block _ (blk_lt HZ5.out)).trans HZ5.out)
      clear hb6
      go_wp2_with (refine wpList_storeCl rfl (.tmp 6) (.tmp 40) rfl (w.heap.size + 1) (clCells (letK (joinF was ec) was 8)) _ _ rfl rfl HZ6.out (cl_size _) (cl_size _) (cl_one _) ?_)
      intro w7 hw7
      have hg : w7.heap[w.heap.size + 1]? = some (clB (letK (joinF was ec) was 8)) := by rw [hw7.out]; exact setRow_heap _ _ _ _ _ _ HZ6.out
      have hbw : Below w.heap.size w w7 := by rw [hw7.out]; exact (HE6.out.setG _ (by omega) _).b
      clear hw7
      go_wp2
      exact bodyPost_ret (results_cell_row rfl _ _ (w.heap.size + 1) 135 _ _ _ rfl hg Tryz.underlying135 rfl (by kernel_rfl)) rfl ⟨by first | rw [← HRR.out, HR6.out] | rw [← HRR.out], hbw⟩
    · have HR6 : Hid ((if to_ ≤ from_ ∧ 6 < chg then letK (joinF was ec) was 8 else joinF was ec) = joinF was ec) := hide (if_neg (by omega))
      go_upto_region 4 with fail
      clear c0
      refine wp_region_still_lit mixed (by kernel_rfl) ?_
      have hb5 : Below w4.heap.size w4 { w4 with drawn := w4.drawn + 1 } := (Below.refl _ _).drew
      generalize ({ w4 with drawn := w4.drawn + 1 } : World) = w5 at *
      have HE5 := hide (HE4.out.below hb5)
      have HZ5 := hide ((hb5.block _ (blk_lt HZ4.out)).trans HZ4.out)
      have HG5 := hide ((hb5.block _ (blk_lt HG4.out)).trans HG4.out)
      have HJ5 := hide ((hb5.block _ (blk_lt HJ4.out)).trans HJ4.out)
      clear hb5 HE4 HZ4 HG4 HJ4
      have c0 : w5.cell? ⟨w.heap.size, 0, none⟩ = some (.int .i64 to_) := cell_of_blk HE5.out.A 0
      have c3 : w5.cell? ⟨sb, 3, none⟩ = some (.slice (some ⟨hb, 0, none⟩) n n2) := (HE5.out.b.cell (p := ⟨sb, 3, none⟩) hsb).trans HH.out
      have ch : w5.cell? ⟨hb, to_, none⟩ = some (.int .i64 chg) := (HE5.out.b.cell (p := ⟨hb, to_, none⟩) hhb).trans HHC.out
      repeat still_step
      refine wpStill_nil ?_
      clear c0 c3 ch
      go_wp2_with (first | (refine wpList_load_row rfl 135 (.tmp 8) rfl w3.heap.size rfl _ _ _ _ HJ5.out Tryz.underlying135 rfl (by kernel_rfl) ?_) | (refine wpList_storeCl rfl (.tmp 6) (.tmp 41) rfl (w.heap.size + 1) (clCells (joinF was ec)) _ _ rfl rfl HZ5.out (cl_size _) (cl_size _) (cl_one _) ?_))
      intro w7 hw7
      have hg : w7.heap[w.heap.size + 1]? = some (clB (joinF was ec)) := by rw [hw7.out]; exact setRow_heap _ _ _ _ _ _ HZ5.out
      have hbw : Below w.heap.size w w7 := by rw [hw7.out]; exact (HE5.out.setG _ (by omega) _).b
      clear hw7
      go_wp2
      exact bodyPost_ret (results_cell_row rfl _ _ (w.heap.size + 1) 135 _ _ _ rfl hg Tryz.underlying135 rfl (by kernel_rfl)) rfl ⟨by first | rw [← HRR.out, HR6.out] | rw [← HRR.out], hbw⟩
  · have hbD : decide (to_ ≤ from_) = false := decide_eq_false hback
    have HR6 : Hid ((if to_ ≤ from_ ∧ 6 < chg then letK (joinF was ec) was 8 else joinF was ec) = joinF was ec) := hide (if_neg (by omega))
    clear hto htI hback
    go_upto_region 4 with fail
    clear c0 hbD
    refine wp_region_held (S := EIn w (.cells (exC to_ ec).toArray 243)) mixed ?_
    have hb5 : Below w4.heap.size w4 { w4 with drawn := w4.drawn + 1 } := (Below.refl _ _).drew
    generalize ({ w4 with drawn := w4.drawn + 1 } : World) = w5 at *
    have HE5 := hide (HE4.out.below hb5)
    have HZ5 := hide ((hb5.block _ (blk_lt HZ4.out)).trans HZ4.out)
    have HG5 := hide ((hb5.block _ (blk_lt HG4.out)).trans HG4.out)
    have HJ5 := hide ((hb5.block _ (blk_lt HJ4.out)).trans HJ4.out)
    clear hb5 HE4 HZ4 HG4 HJ4
    refine held_take (i := 0) (some 26) rfl rfl (by kernel_rfl) (by kernel_rfl) (by kernel_rfl) (fun _ _ _ h => h) (.inl ⟨by kernel_rfl, fun w' h => by go_simp; rfl⟩) HE5.out ?_
    simp only [Act.put, List.setIfInBounds_toArray, List.set_cons_zero, List.set_cons_succ]
    refine held_take (i := 1) (some 27) rfl rfl (by kernel_rfl) (by kernel_rfl) (by kernel_rfl) (fun _ _ _ h => h) (.inl ⟨by kernel_rfl, fun w' h => by go_simp; rfl⟩) HE5.out ?_
    simp only [Act.put, List.setIfInBounds_toArray, List.set_cons_zero, List.set_cons_succ]
    refine held_take (i := 2) (some 28) rfl rfl (by kernel_rfl) (by kernel_rfl) (by kernel_rfl) (fun _ _ _ h => h) (.inr ⟨by kernel_rfl, rfl⟩) HE5.out ?_
    simp only [Act.put, List.setIfInBounds_toArray, List.set_cons_zero, List.set_cons_succ]
    refine held_take (i := 3) (some 29) rfl rfl (by kernel_rfl) (by kernel_rfl) (by kernel_rfl) (fun _ _ _ h => h) (.inr ⟨by kernel_rfl, rfl⟩) HE5.out ?_
    simp only [Act.put, List.setIfInBounds_toArray, List.set_cons_zero, List.set_cons_succ]
    refine held_take (i := 4) (some 30) rfl rfl (by kernel_rfl) (by kernel_rfl) (by kernel_rfl) (fun _ _ _ h => h) (.inr ⟨by kernel_rfl, rfl⟩) HE5.out ?_
    simp only [Act.put, List.setIfInBounds_toArray, List.set_cons_zero, List.set_cons_succ]
    refine held_take (i := 5) (some 31) rfl rfl (by kernel_rfl) (by kernel_rfl) (by kernel_rfl) (fun _ _ _ h => h) (.inr ⟨by kernel_rfl, rfl⟩) HE5.out ?_
    simp only [Act.put, List.setIfInBounds_toArray, List.set_cons_zero, List.set_cons_succ]
    refine held_take (i := 6) (some 32) rfl rfl (by kernel_rfl) (by kernel_rfl) (by kernel_rfl) (fun _ _ _ h => h) (.inr ⟨by kernel_rfl, rfl⟩) HE5.out ?_
    simp only [Act.put, List.setIfInBounds_toArray, List.set_cons_zero, List.set_cons_succ]
    refine held_take (i := 7) (some 33) rfl rfl (by kernel_rfl) (by kernel_rfl) (by kernel_rfl) (fun _ _ _ h => h) (.inr ⟨by kernel_rfl, rfl⟩) HE5.out ?_
    simp only [Act.put, List.setIfInBounds_toArray, List.set_cons_zero, List.set_cons_succ]
    refine held_take (i := 8) (some 34) rfl rfl (by kernel_rfl) (by kernel_rfl) (by kernel_rfl) (fun _ _ _ h => h) (.inr ⟨by kernel_rfl, rfl⟩) HE5.out ?_
    simp only [Act.put, List.setIfInBounds_toArray, List.set_cons_zero, List.set_cons_succ]
    refine held_take (i := 9) (some 35) rfl rfl (by kernel_rfl) (by kernel_rfl) (by kernel_rfl) (fun _ _ _ h => h) (.inr ⟨by kernel_rfl, rfl⟩) HE5.out ?_
    simp only [Act.put, List.setIfInBounds_toArray, List.set_cons_zero, List.set_cons_succ]
    refine held_take (i := 10) (some 36) rfl rfl (by kernel_rfl) (by kernel_rfl) (by kernel_rfl) (fun _ _ _ h => h) (.inr ⟨by kernel_rfl, rfl⟩) HE5.out ?_
    simp only [Act.put, List.setIfInBounds_toArray, List.set_cons_zero, List.set_cons_succ]
    refine held_take (i := 11) (some 37) rfl rfl (by kernel_rfl) (by kernel_rfl) (by kernel_rfl) (fun _ _ _ h => h) (.inl ⟨by kernel_rfl, fun w' h => by go_simp; rfl⟩) HE5.out ?_
    simp only [Act.put, List.setIfInBounds_toArray, List.set_cons_zero, List.set_cons_succ]
    refine wpAnyH_done (by kernel_rfl) ?_ _
    go_wp2_with (first | (refine wpList_load_row rfl 135 (.tmp 8) rfl w3.heap.size rfl _ _ _ _ HJ5.out Tryz.underlying135 rfl (by kernel_rfl) ?_) | (refine wpList_storeCl rfl (.tmp 6) (.tmp 41) rfl (w.heap.size + 1) (clCells (joinF was ec)) _ _ rfl rfl HZ5.out (cl_size _) (cl_size _) (cl_one _) ?_))
    intro w7 hw7
    have hg : w7.heap[w.heap.size + 1]? = some (clB (joinF was ec)) := by rw [hw7.out]; exact setRow_heap _ _ _ _ _ _ HZ5.out
    have hbw : Below w.heap.size w w7 := by rw [hw7.out]; exact (HE5.out.setG _ (by omega) _).b
    clear hw7
    go_wp2
    exact bodyPost_ret (results_cell_row rfl _ _ (w.heap.size + 1) 135 _ _ _ rfl hg Tryz.underlying135 rfl (by kernel_rfl)) rfl ⟨by first | rw [← HRR.out, HR6.out] | rw [← HRR.out], hbw⟩

end Go.Proofs.YtngopilbpiplhaaGreatDoor
