/-
  Laws for the closures of jumps.
  The contract of search.joined.
  The contracts of reader.lostJump and isLong.
  The contract of reader.Read: the lines of a program, or the first error with its place, for every text.
  A run, plain: the machine and what was put out behind some lines; that all numbers stay of 64 bits.
  The contracts of the functions that make the table's closures: what each hands back, and which block holds what it captured.
  The contract of words.Rows: the table of words in new memory.
-/
import Derived.Test.YtngopilbpiplhaaGreatDoorZClE
import Derived.Test.YtngopilbpiplhaaGreatDoorZClG
import Derived.Test.YtngopilbpiplhaaGreatDoorZState
import Derived.Test.YtngopilbpiplhaaGreatDoorZClX
import Derived.Deep.MidRow
import Derived.Test.YtngopilbpiplhaaGreatDoorZClS
import Derived.Test.YtngopilbpiplhaaGreatDoorZClB
import Derived.Test.YtngopilbpiplhaaGreatDoorZBase
import Derived.Laws.EntriesVeiled
namespace Go.Proofs.YtngopilbpiplhaaGreatDoor
open Go.RowKit
theorem exec_allocSp {o : Oper} {a : Act} {w : World} (ho : o.op = .alloc 132) : (execOp a.eval o).run Tryz.prog w = .ok (.value (.pointer (some ⟨w.heap.size, 0, none⟩))) (w.alloc (spB 0 0)) := by
  unfold execOp
  simp only [ho]
  kernel_rfl
theorem wpOp_new {P : Program} {ops : Array Oper} {Q : Exit → Act → World → Prop} {i : Nat} {o : Oper} {a : Act} {w w' : World} {v : Value} {K : Act → World → Prop} (d : Option Tmp) (hi : ops[i]? = some o) (hd : o.dst = d) (hw : Region.wanted o (yielded ops a.tmps) = true) (he : (execOp a.eval o).run P w = .ok (.value v) w') (h : K (a.put d v) w') : wpOp P ops Q i K a w := by
  subst hd
  unfold wpOp
  simp only [hi, hw, if_true]
  refine .inl ?_
  unfold Oper.wp
  rw [he]
  exact h
theorem Two.setG {w W : World} {c : Cl} {x : Ln} (h : Two w c x W) (g : Nat) (hg : w.heap.size + 1 < g) (cs : Array Value) : Two w c x (W.setRow g cs) :=
  ⟨(setRow_other _ _ _ _ (by omega)).trans h.A, (setRow_other _ _ _ _ (by omega)).trans h.B, h.b.trans ((keep_setRow' w.heap.size _ _ _).below (by omega)), by rw [setRow_size]; exact h.s⟩
end Go.Proofs.YtngopilbpiplhaaGreatDoor

namespace Go.Proofs.YtngopilbpiplhaaGreatDoor
open Go.RowKit
set_option linter.unusedVariables false
/-- A way out handed in. -/
structure EIn (w : World) (o : Obj) (W : World) : Prop where
  A : W.heap[w.heap.size]? = some o
  b : Below w.heap.size w W
  s : w.heap.size + 2 ≤ W.heap.size
theorem EIn.below {w W W' : World} {o : Obj} (h : EIn w o W) (hb : Below W.heap.size W W') : EIn w o W' :=
  ⟨(hb.block _ (blk_lt h.A)).trans h.A, h.b.trans (hb.mono (by have := h.s; omega)), Nat.le_trans h.s hb.size⟩
theorem ein_mk (w : World) (o z : Obj) : EIn w o ((w.alloc o).alloc z) := ⟨blk_alloc (blk_new w _) _, ((Below.refl _ _).alloc (Nat.le_refl _) _).alloc (by simp) _, by simp⟩
theorem EIn.range {w W : World} {o : Obj} (h : EIn w o W) {b i : Nat} {cs : List Value} (hb : b < w.heap.size) (hr : w.rangeAt b i cs) : W.rangeAt b i cs := fun j v hv => (h.b.cell (p := ⟨b, i + j, none⟩) hb).trans (hr j v hv)
theorem exec_allocCl {o : Oper} {a : Act} {w : World} (ho : o.op = .alloc 135) : (execOp a.eval o).run Tryz.prog w = .ok (.value (.pointer (some ⟨w.heap.size, 0, none⟩))) (w.alloc (clB clNone)) := by
  unfold execOp
  simp only [ho]
  kernel_rfl
theorem EIn.setG {w W : World} {o : Obj} (h : EIn w o W) (g : Nat) (hg : w.heap.size < g) (cs : Array Value) : EIn w o (W.setRow g cs) :=
  ⟨(setRow_other _ _ _ _ (by omega)).trans h.A, h.b.trans ((keep_setRow' w.heap.size _ _ _).below (by omega)), by rw [setRow_size]; exact h.s⟩
set_option maxRecDepth 100000 in
set_option maxHeartbeats 4000000 in
theorem joined_any (sb pb hb n n1 n2 : Nat) (from_ to_ : Nat) (was ec : Cl) (chg : Int) (w : World) (hsb : sb < w.heap.size) (hpb : pb < w.heap.size) (hhb : hb < w.heap.size) (hto : to_ < n) (hn : n ≤ 1000)
    (hP : w.cell? ⟨sb, 2, none⟩ = some (.slice (some ⟨pb, 0, none⟩) n n1)) (hR : w.rangeAt pb (to_ * 25) (clCells was).toList) (hH : w.cell? ⟨sb, 3, none⟩ = some (.slice (some ⟨hb, 0, none⟩) n n2)) (hHc : w.cell? ⟨hb, to_, none⟩ = some (.int .i64 chg)) :
    Calls Tryz.prog 175 #[.pointer (some ⟨sb, 0, none⟩), .int .i64 from_, .agg (exC to_ ec).toArray] w fun e w' => e = .returned (.agg (clCells (if to_ ≤ from_ ∧ 6 < chg then letK (joinF was ec) was 8 else joinF was ec))) ∧ Below w.heap.size w w' := by
  generalize hRR : (if to_ ≤ from_ ∧ 6 < chg then letK (joinF was ec) was 8 else joinF was ec) = RR
  have HRR := hide hRR
  clear hRR
  have hw0 := ein_mk w (.cells (exC to_ ec).toArray 243) (clB clNone)
  have hz0 : ((w.alloc (.cells (exC to_ ec).toArray 243)).alloc (clB clNone)).heap[w.heap.size + 1]? = some (clB clNone) := heap_alloc2_new w _ _
  go_enter Tryz.func175, Tryz.ntmps175
  go_upto_region 1 with fail
  change Code.wp _ _ _ _ ((w.alloc (.cells (exC to_ ec).toArray 243)).alloc (clB clNone))
  generalize (w.alloc (.cells (exC to_ ec).toArray 243)).alloc (clB clNone) = W at *
  have HE := hide hw0
  have HZ := hide hz0
  have HP := hide hP
  have HR := hide hR
  have HH := hide hH
  have HHC := hide hHc
  clear hw0 hz0 hP hR hH hHc
  refine wp_region_held (S := EIn w (.cells (exC to_ ec).toArray 243)) mixed ?_
  have hb0 : Below W.heap.size W { W with drawn := W.drawn + 1 } := (Below.refl _ _).drew
  generalize ({ W with drawn := W.drawn + 1 } : World) = w0 at *
  have HE0 := hide (HE.out.below hb0)
  have HZ0 := hide ((hb0.block _ (blk_lt HZ.out)).trans HZ.out)
  clear hb0
  have htI : (to_ : Int) < (n : Int) := by omega
  refine hT 0 10 rfl rfl (by kernel_rfl) (fun _ _ _ h => h) (.inl ⟨by kernel_rfl, fun w' h => by go_simp; rfl⟩) HE0.out ?_
  simp only [Act.put, zzA, zzB, zzC]
  refine hT 1 11 rfl rfl (by kernel_rfl) (fun _ _ _ h => h) (.inl ⟨by kernel_rfl, fun w' h => by go_simp; rfl⟩) HE0.out ?_
  simp only [Act.put, zzA, zzB, zzC]
  refine hT 2 12 rfl rfl (by kernel_rfl) (fun _ _ _ h => h) (.inl ⟨by kernel_rfl, fun w' h => by go_simp; rfl⟩) HE0.out ?_
  simp only [Act.put, zzA, zzB, zzC]
  refine hT 3 13 rfl rfl (by kernel_rfl) (fun _ _ _ h => h) (.inl ⟨by kernel_rfl, fun w' h => by have hc := (h.b.cell (p := ⟨sb, 2, none⟩) hsb).trans HP.out; go_simp; rfl⟩) HE0.out ?_
  simp only [Act.put, zzA, zzB, zzC]
  refine hT 4 14 rfl rfl (by kernel_rfl) (fun _ _ _ h => h) (.inl ⟨by kernel_rfl, fun w' h => by go_simp; rfl⟩) HE0.out ?_
  simp only [Act.put, zzA, zzB, zzC]
  refine hT 5 15 rfl rfl (by kernel_rfl) (fun _ _ _ h => h) (.inl ⟨by kernel_rfl, fun w' h => by have hc : w'.cell? ⟨w.heap.size, 0, none⟩ = some (.int .i64 to_) := cell_of_blk h.A 0; go_simp; rfl⟩) HE0.out ?_
  simp only [Act.put, zzA, zzB, zzC]
  refine hT 6 16 rfl rfl (by kernel_rfl) (fun _ _ _ h => h) (.inl ⟨by kernel_rfl, fun w' h => by go_simp; rfl⟩) HE0.out ?_
  simp only [Act.put, zzA, zzB, zzC]
  refine hT 7 17 rfl rfl (by kernel_rfl) (fun _ _ _ h => h) (yieldsIf_load_mid (by kernel_rfl) 135 (.tmp 16) rfl pb (to_ * 25) (by kernel_rfl) (clCells was).toList _ (fun w' h => h.range hpb HR.out) Tryz.underlying135 rfl (by kernel_rfl)) HE0.out ?_
  simp only [Act.put, List.setIfInBounds_toArray, List.set_cons_zero, List.set_cons_succ, Array.toArray_toList]
  refine wpAnyH_all (rs := [8]) (by kernel_rfl) (by simp) ?_
  intro i hi
  obtain rfl : i = 8 := by simpa using hi
  clear hi
  refine wpOp_new (some 7) rfl rfl (by kernel_rfl) (exec_allocCl rfl) ?_
  have hb1 : Below w0.heap.size w0 (w0.alloc (clB clNone)) := (Below.refl _ _).alloc (Nat.le_refl _) _
  have hg1 := blk_new w0 (clB clNone)
  generalize w0.alloc (clB clNone) = w1 at *
  have HE1 := hide (HE0.out.below hb1)
  have HZ1 := hide ((hb1.block _ (blk_lt HZ0.out)).trans HZ0.out)
  have HG1 := hide hg1
  have hs0 := HE0.out.s
  clear hb1 hg1
  refine ⟨HE1.out, ?_⟩
  simp only [Act.put, zzA, zzB, zzC]
  refine held_storeCl (i := 9) (.tmp 7) (.tmp 17) w0.heap.size (clCells was) _ (by kernel_rfl) rfl (by kernel_rfl) rfl (by kernel_rfl) (by kernel_rfl) HG1.out (cl_size _) (cl_size _) (cl_one _) (HE1.out.setG _ (by omega) _) rfl ?_
  intro w2 hw2
  have HE2 : Hid (EIn w (.cells (exC to_ ec).toArray 243) w2) := hide (by rw [hw2.out]; exact HE1.out.setG _ (by omega) _)
  have HZ2 : Hid (w2.heap[w.heap.size + 1]? = some (clB clNone)) := hide (by rw [hw2.out, setRow_other _ _ _ _ (by omega)]; exact HZ1.out)
  have HG2 : Hid (w2.heap[w0.heap.size]? = some (clB was)) := hide (by rw [hw2.out]; exact setRow_heap _ _ _ _ _ _ HG1.out)
  clear hw2 HE1 HZ1 HG1 HE0 HZ0 HE HZ
  refine wpAnyH_done (by kernel_rfl) ?_ _
  have hr1 : w2.rangeAt w.heap.size 1 (clCells ec).toList := fun j v hv => by
    rw [show 1 + j = j + 1 by omega, cell_of_blk HE2.out.A (j + 1)]
    simpa [exC] using hv
  go_wp2_with (first | (refine wpList_load_row rfl 135 (.tmp 7) rfl w0.heap.size rfl _ _ _ _ HG2.out Tryz.underlying135 rfl (by kernel_rfl) ?_) | (refine wpList_load_mid rfl 135 (.tmp 19) rfl w.heap.size 1 rfl (clCells ec).toList _ hr1 Tryz.underlying135 rfl (by kernel_rfl) ?_))
  clear hr1
  refine (Join_any was ec _).mono ?_
  rintro e w3 ⟨rfl, hb3⟩
  have HE3 := hide (HE2.out.below hb3)
  have HZ3 := hide ((hb3.block _ (blk_lt HZ2.out)).trans HZ2.out)
  have HG3 := hide ((hb3.block _ (blk_lt HG2.out)).trans HG2.out)
  clear hb3 HE2 HZ2 HG2
  go_wp2_with (refine wpList_storeCl rfl (.tmp 8) (.tmp 21) rfl w3.heap.size (clCells (joinF was ec)) _ _ rfl rfl (blk_new w3 _) (cl_size _) rfl (cl_one _) ?_)
  intro w4 hw4
  have hb4 : Below w3.heap.size w3 w4 := by rw [hw4.out]; exact ((Below.refl _ _).alloc (Nat.le_refl _) _).trans ((keep_setRow' w3.heap.size _ _ _).below (Nat.le_refl _))
  have HJ4 : Hid (w4.heap[w3.heap.size]? = some (clB (joinF was ec))) := hide (by rw [hw4.out]; exact setRow_heap _ _ _ _ _ _ (blk_new w3 _))
  have HE4 := hide (HE3.out.below hb4)
  have HZ4 := hide ((hb4.block _ (blk_lt HZ3.out)).trans HZ3.out)
  have HG4 := hide ((hb4.block _ (blk_lt HG3.out)).trans HG3.out)
  clear hb4 hw4 HE3 HZ3 HG3
  have c0 : w4.cell? ⟨w.heap.size, 0, none⟩ = some (.int .i64 to_) := cell_of_blk HE4.out.A 0
  by_cases hback : to_ ≤ from_
  · have hbI : (to_ : Int) ≤ (from_ : Int) := by omega
    by_cases hc6 : 6 < chg
    · have HR6 : Hid ((if to_ ≤ from_ ∧ 6 < chg then letK (joinF was ec) was 8 else joinF was ec) = letK (joinF was ec) was 8) := hide (if_pos (by omega))
      go_upto_region 4 with fail
      clear c0
      refine wp_region_still_lit mixed (by kernel_rfl) ?_
      have hb5 : Below w4.heap.size w4 { w4 with drawn := w4.drawn + 1 } := (Below.refl _ _).drew
      generalize ({ w4 with drawn := w4.drawn + 1 } : World) = w5 at *
      have HE5 := hide (HE4.out.below hb5)
      have HZ5 := hide ((hb5.block _ (blk_lt HZ4.out)).trans HZ4.out)
      have HG5 := hide ((hb5.block _ (blk_lt HG4.out)).trans HG4.out)
      have HJ5 := hide ((hb5.block _ (blk_lt HJ4.out)).trans HJ4.out)
      clear hb5 HE4 HZ4 HG4 HJ4
      have c0 : w5.cell? ⟨w.heap.size, 0, none⟩ = some (.int .i64 to_) := cell_of_blk HE5.out.A 0
      have c3 : w5.cell? ⟨sb, 3, none⟩ = some (.slice (some ⟨hb, 0, none⟩) n n2) := (HE5.out.b.cell (p := ⟨sb, 3, none⟩) hsb).trans HH.out
      have ch : w5.cell? ⟨hb, to_, none⟩ = some (.int .i64 chg) := (HE5.out.b.cell (p := ⟨hb, to_, none⟩) hhb).trans HHC.out
      repeat still_step
      refine wpStill_nil ?_
      clear c0 c3 ch
      go_wp2_with (first | (refine wpList_load_row rfl 135 (.tmp 8) rfl w3.heap.size rfl _ _ _ _ HJ5.out Tryz.underlying135 rfl (by kernel_rfl) ?_) | (refine wpList_load_row rfl 135 (.tmp 7) rfl w0.heap.size rfl _ _ _ _ HG5.out Tryz.underlying135 rfl (by kernel_rfl) ?_))
      refine (LetGo_any (joinF was ec) was _).mono ?_
      rintro e w6 ⟨rfl, hb6⟩
      have HE6 := hide (HE5.out.below hb6)
      have HZ6 := hide ((hb6.block _ (blk_lt HZ5.out)).trans HZ5.out)
      clear hb6
      go_wp2_with (refine wpList_storeCl rfl (.tmp 6) (.tmp 40) rfl (w.heap.size + 1) (clCells (letK (joinF was ec) was 8)) _ _ rfl rfl HZ6.out (cl_size _) (cl_size _) (cl_one _) ?_)
      intro w7 hw7
      have hg : w7.heap[w.heap.size + 1]? = some (clB (letK (joinF was ec) was 8)) := by rw [hw7.out]; exact setRow_heap _ _ _ _ _ _ HZ6.out
      have hbw : Below w.heap.size w w7 := by rw [hw7.out]; exact (HE6.out.setG _ (by omega) _).b
      clear hw7
      go_wp2
      exact bodyPost_ret (results_cell_row rfl _ _ (w.heap.size + 1) 135 _ _ _ rfl hg Tryz.underlying135 rfl (by kernel_rfl)) rfl ⟨by first | rw [← HRR.out, HR6.out] | rw [← HRR.out], hbw⟩
    · have HR6 : Hid ((if to_ ≤ from_ ∧ 6 < chg then letK (joinF was ec) was 8 else joinF was ec) = joinF was ec) := hide (if_neg (by omega))
      go_upto_region 4 with fail
      clear c0
      refine wp_region_still_lit mixed (by kernel_rfl) ?_
      have hb5 : Below w4.heap.size w4 { w4 with drawn := w4.drawn + 1 } := (Below.refl _ _).drew
      generalize ({ w4 with drawn := w4.drawn + 1 } : World) = w5 at *
      have HE5 := hide (HE4.out.below hb5)
      have HZ5 := hide ((hb5.block _ (blk_lt HZ4.out)).trans HZ4.out)
      have HG5 := hide ((hb5.block _ (blk_lt HG4.out)).trans HG4.out)
      have HJ5 := hide ((hb5.block _ (blk_lt HJ4.out)).trans HJ4.out)
      clear hb5 HE4 HZ4 HG4 HJ4
      have c0 : w5.cell? ⟨w.heap.size, 0, none⟩ = some (.int .i64 to_) := cell_of_blk HE5.out.A 0
      have c3 : w5.cell? ⟨sb, 3, none⟩ = some (.slice (some ⟨hb, 0, none⟩) n n2) := (HE5.out.b.cell (p := ⟨sb, 3, none⟩) hsb).trans HH.out
      have ch : w5.cell? ⟨hb, to_, none⟩ = some (.int .i64 chg) := (HE5.out.b.cell (p := ⟨hb, to_, none⟩) hhb).trans HHC.out
      repeat still_step
      refine wpStill_nil ?_
      clear c0 c3 ch
      go_wp2_with (first | (refine wpList_load_row rfl 135 (.tmp 8) rfl w3.heap.size rfl _ _ _ _ HJ5.out Tryz.underlying135 rfl (by kernel_rfl) ?_) | (refine wpList_storeCl rfl (.tmp 6) (.tmp 41) rfl (w.heap.size + 1) (clCells (joinF was ec)) _ _ rfl rfl HZ5.out (cl_size _) (cl_size _) (cl_one _) ?_))
      intro w7 hw7
      have hg : w7.heap[w.heap.size + 1]? = some (clB (joinF was ec)) := by rw [hw7.out]; exact setRow_heap _ _ _ _ _ _ HZ5.out
      have hbw : Below w.heap.size w w7 := by rw [hw7.out]; exact (HE5.out.setG _ (by omega) _).b
      clear hw7
      go_wp2
      exact bodyPost_ret (results_cell_row rfl _ _ (w.heap.size + 1) 135 _ _ _ rfl hg Tryz.underlying135 rfl (by kernel_rfl)) rfl ⟨by first | rw [← HRR.out, HR6.out] | rw [← HRR.out], hbw⟩
  · have hbD : decide (to_ ≤ from_) = false := decide_eq_false hback
    have HR6 : Hid ((if to_ ≤ from_ ∧ 6 < chg then letK (joinF was ec) was 8 else joinF was ec) = joinF was ec) := hide (if_neg (by omega))
    clear hto htI hback
    go_upto_region 4 with fail
    clear c0 hbD
    refine wp_region_held (S := EIn w (.cells (exC to_ ec).toArray 243)) mixed ?_
    have hb5 : Below w4.heap.size w4 { w4 with drawn := w4.drawn + 1 } := (Below.refl _ _).drew
    generalize ({ w4 with drawn := w4.drawn + 1 } : World) = w5 at *
    have HE5 := hide (HE4.out.below hb5)
    have HZ5 := hide ((hb5.block _ (blk_lt HZ4.out)).trans HZ4.out)
    have HG5 := hide ((hb5.block _ (blk_lt HG4.out)).trans HG4.out)
    have HJ5 := hide ((hb5.block _ (blk_lt HJ4.out)).trans HJ4.out)
    clear hb5 HE4 HZ4 HG4 HJ4
    refine hT 0 26 rfl rfl (by kernel_rfl) (fun _ _ _ h => h) (.inl ⟨by kernel_rfl, fun w' h => by go_simp; rfl⟩) HE5.out ?_
    simp only [Act.put, zzA, zzB, zzC]
    refine hT 1 27 rfl rfl (by kernel_rfl) (fun _ _ _ h => h) (.inl ⟨by kernel_rfl, fun w' h => by go_simp; rfl⟩) HE5.out ?_
    simp only [Act.put, zzA, zzB, zzC]
    refine hT 2 28 rfl rfl (by kernel_rfl) (fun _ _ _ h => h) (.inr ⟨by kernel_rfl, rfl⟩) HE5.out ?_
    simp only [Act.put, zzA, zzB, zzC]
    refine hT 3 29 rfl rfl (by kernel_rfl) (fun _ _ _ h => h) (.inr ⟨by kernel_rfl, rfl⟩) HE5.out ?_
    simp only [Act.put, zzA, zzB, zzC]
    refine hT 4 30 rfl rfl (by kernel_rfl) (fun _ _ _ h => h) (.inr ⟨by kernel_rfl, rfl⟩) HE5.out ?_
    simp only [Act.put, zzA, zzB, zzC]
    refine hT 5 31 rfl rfl (by kernel_rfl) (fun _ _ _ h => h) (.inr ⟨by kernel_rfl, rfl⟩) HE5.out ?_
    simp only [Act.put, zzA, zzB, zzC]
    refine hT 6 32 rfl rfl (by kernel_rfl) (fun _ _ _ h => h) (.inr ⟨by kernel_rfl, rfl⟩) HE5.out ?_
    simp only [Act.put, zzA, zzB, zzC]
    refine hT 7 33 rfl rfl (by kernel_rfl) (fun _ _ _ h => h) (.inr ⟨by kernel_rfl, rfl⟩) HE5.out ?_
    simp only [Act.put, zzA, zzB, zzC]
    refine hT 8 34 rfl rfl (by kernel_rfl) (fun _ _ _ h => h) (.inr ⟨by kernel_rfl, rfl⟩) HE5.out ?_
    simp only [Act.put, zzA, zzB, zzC]
    refine hT 9 35 rfl rfl (by kernel_rfl) (fun _ _ _ h => h) (.inr ⟨by kernel_rfl, rfl⟩) HE5.out ?_
    simp only [Act.put, zzA, zzB, zzC]
    refine hT 10 36 rfl rfl (by kernel_rfl) (fun _ _ _ h => h) (.inr ⟨by kernel_rfl, rfl⟩) HE5.out ?_
    simp only [Act.put, zzA, zzB, zzC]
    refine hT 11 37 rfl rfl (by kernel_rfl) (fun _ _ _ h => h) (.inl ⟨by kernel_rfl, fun w' h => by go_simp; rfl⟩) HE5.out ?_
    simp only [Act.put, zzA, zzB, zzC]
    refine wpAnyH_done (by kernel_rfl) ?_ _
    go_wp2_with (first | (refine wpList_load_row rfl 135 (.tmp 8) rfl w3.heap.size rfl _ _ _ _ HJ5.out Tryz.underlying135 rfl (by kernel_rfl) ?_) | (refine wpList_storeCl rfl (.tmp 6) (.tmp 41) rfl (w.heap.size + 1) (clCells (joinF was ec)) _ _ rfl rfl HZ5.out (cl_size _) (cl_size _) (cl_one _) ?_))
    intro w7 hw7
    have hg : w7.heap[w.heap.size + 1]? = some (clB (joinF was ec)) := by rw [hw7.out]; exact setRow_heap _ _ _ _ _ _ HZ5.out
    have hbw : Below w.heap.size w w7 := by rw [hw7.out]; exact (HE5.out.setG _ (by omega) _).b
    clear hw7
    go_wp2
    exact bodyPost_ret (results_cell_row rfl _ _ (w.heap.size + 1) 135 _ _ _ rfl hg Tryz.underlying135 rfl (by kernel_rfl)) rfl ⟨by first | rw [← HRR.out, HR6.out] | rw [← HRR.out], hbw⟩
end Go.Proofs.YtngopilbpiplhaaGreatDoor

namespace Go.Proofs.YtngopilbpiplhaaGreatDoor
open Go.RowKit
/-- Lines lie in a block. -/
def LinesAt (w : World) (g : Nat) (xs : List Ln) : Prop := ∃ cur t, w.heap[g]? = some (.cells cur t (0, 0)) ∧ cur.toList.take (xs.length * 4) = lnCells xs
theorem LinesAt.lt {w : World} {g : Nat} {xs : List Ln} (h : LinesAt w g xs) : g < w.heap.size := by obtain ⟨_, _, h, _⟩ := h; exact blk_lt h
theorem LinesAt.mono {w w' : World} {g : Nat} {xs : List Ln} (h : LinesAt w g xs) (hb : w'.heap[g]? = w.heap[g]?) : LinesAt w' g xs := by
  obtain ⟨cur, t, h1, h2⟩ := h
  exact ⟨cur, t, hb.trans h1, h2⟩
theorem lnCells_get (xs : List Ln) : ∀ (i : Nat) (h : i < xs.length) (j : Nat), j < 4 → (lnCells xs)[i * 4 + j]? = (lnArr xs[i])[j]? := by
  induction xs with
  | nil => intro i h; cases h
  | cons x xs ih =>
    intro i h j hj
    have e : lnCells (x :: xs) = (lnArr x).toList ++ lnCells xs := rfl
    have l4 : (lnArr x).toList.length = 4 := rfl
    rw [e]
    cases i with
    | zero => rw [List.getElem?_append_left (by omega)]; simp
    | succ i =>
      rw [List.getElem?_append_right (by omega), l4, show (i + 1) * 4 + j - 4 = i * 4 + j by omega, ih i (by simpa using h) j hj]
      rfl
theorem LinesAt.get {w : World} {g : Nat} {xs : List Ln} (h : LinesAt w g xs) {i : Nat} (hi : i < xs.length) :
    w.cell? ⟨g, i * 4, none⟩ = some (.int .i64 xs[i].word) ∧ w.cell? ⟨g, i * 4 + 1, none⟩ = some (.int .i64 xs[i].r) ∧ w.cell? ⟨g, i * 4 + 2, none⟩ = some (.int .i64 xs[i].s) ∧ w.cell? ⟨g, i * 4 + 3, none⟩ = some (.int .i64 xs[i].n) := by
  obtain ⟨cur, t, h1, h2⟩ := h
  have key : ∀ j, j < 4 → w.cell? ⟨g, i * 4 + j, none⟩ = (lnArr xs[i])[j]? := fun j hj => by
    rw [cell_of_blk h1, ← lnCells_get xs i hi j hj, ← h2, List.getElem?_take, if_pos (by omega)]
    simp
  exact ⟨key 0 (by omega), key 1 (by omega), key 2 (by omega), key 3 (by omega)⟩
theorem linesAt_of_owns {w : World} {B n : Nat} {v : Value} {xs : List Ln} (h : w.ownsRow B 122 4 v n (lnCells xs)) (hn : n = xs.length) (h0 : 0 < n) :
    ∃ g cap, v = .slice (some ⟨g, 0, none⟩) n cap ∧ B ≤ g ∧ n ≤ cap ∧ LinesAt w g xs := by
  obtain ⟨_, ⟨_, h2⟩ | ⟨g, cap, cur, e, hg, hb, hc, _, _, ht⟩⟩ := h
  · omega
  · exact ⟨g, cap, e, hg, hc, cur, _, hb, by rw [← hn]; exact ht⟩
/-- Does a line jump to a line that there is not? -/
def isLost (n : Nat) (x : Ln) : Bool := hasB (wParts x.word.toNat) 76 && decide ((n : Int) ≤ x.n)
/-- Each line's word is a row of the table. -/
def Worded (xs : List Ln) : Prop := ∀ x ∈ xs, ∃ row : Nat, row < 17 ∧ x.word = (row : Int)
def LostRes (xs : List Ln) (w : World) (e : Ending) (w' : World) : Prop :=
  ((e = .returned (.int .i64 (-1)) ∧ ∀ x ∈ xs, isLost xs.length x = false) ∨
   (∃ i : Nat, e = .returned (.int .i64 i) ∧ ∃ h : i < xs.length, isLost xs.length xs[i] = true ∧ ∀ j (hj : j < i), isLost xs.length (xs[j]'(by omega)) = false)) ∧ Below w.heap.size w w'
set_option maxRecDepth 100000 in
set_option maxHeartbeats 2000000 in
theorem lostJump_any (xs : List Ln) (g cap s : Nat) (w : World) (hn : xs.length ≤ 100) (hw : Worded xs) (hL : LinesAt w g xs) (ht : w.heap[s + 55]? = some (.cells (trows s) 140)) :
    Calls Tryz.prog 105 #[.slice (some ⟨s + 55, 0, none⟩) 17 17, .slice (some ⟨g, 0, none⟩) xs.length cap] w fun e w' => LostRes xs w e w' := by
  have HT := hide ht
  have hlt := blk_lt ht
  have HL := hide hL
  have hlg := hL.lt
  clear ht hL
  go_enter Tryz.func105, Tryz.ntmps105
  go_wp2
  go_loopw [9] (fun i w' => ∃ k : Nat, k ≤ xs.length ∧ i = .int .i64 k ∧ (∀ j (h : j < xs.length), j < k → isLost xs.length xs[j] = false) ∧ Below w.heap.size w w') (fun i _ => xs.length - (intOf i).toNat)
  case atStart => exact ⟨0, Nat.zero_le _, rfl, fun j _ h => absurd h (by omega), Below.refl _ _⟩
  case round =>
    obtain ⟨k, hk, rfl, hall, hb⟩ := hrel
    have HA := hide hall
    clear hall
    have hsz := hb.size
    have hs1 : s + 55 < wr.heap.size := by omega
    by_cases hlk : k < xs.length
    · obtain ⟨l0, l1, l2, l3⟩ := (HL.out.mono (hb.block _ hlg)).get hlk
      obtain ⟨row, hrow, hrw⟩ := hw _ (List.getElem_mem hlk)
      rw [hrw] at l0
      have HRW := hide hrw
      clear hrw
      have HE : Hid (isLost xs.length xs[k] = (hasB (wParts row) 76 && decide ((xs.length : Int) ≤ xs[k].n))) := hide (by unfold isLost; rw [HRW.out]; simp)
      obtain ⟨f4, b4, f5, b5, f6, b6, f7, b7, e4, e5, e6, e7⟩ := row_funcs s hrow
      obtain ⟨r0, r1, r2, r3, r4, r5, r6, r7⟩ := rowAt ((hb.block _ hlt).trans HT.out) hrow
      rw [e4] at r4
      rw [e5] at r5
      rw [e6] at r6
      rw [e7] at r7
      clear e4 e5 e6 e7
      generalize xs[k].n = N at *
      generalize xs[k].r = R at *
      generalize xs[k].s = S at *
      go_wp2_with fail
      refine (Jumps_any _ _ _ _ _ _ _ _ _ _ _ _ _).mono ?_
      rintro e w1 ⟨rfl, hb1⟩
      have hb01 : Below w.heap.size w w1 := hb.trans (((Below.refl _ _).alloc hsz _).trans (hb1.mono (by simp; omega)))
      have hc3 : w1.cell? ⟨wr.heap.size, 3, none⟩ = some (.int .i64 N) := by
        rw [hb1.cell (p := ⟨wr.heap.size, 3, none⟩) (by simp), cell_of_blk (blk_new wr _)]; rfl
      clear hb1 r0 r1 r2 r3 r4 r5 r6 r7 l0 l1 l2 l3
      rw [show hasB (⟨(wParts row).toArray⟩ : ByteArray).data.toList 76 = hasB (wParts row) 76 from rfl]
      cases hj : hasB (wParts row) 76 with
      | false =>
        have HJ : Hid (isLost xs.length xs[k] = false) := hide (by rw [HE.out, hj]; rfl)
        clear hj
        go_wp2
        go_roundw
        case rel =>
          refine ⟨k + 1, by omega, by go_num, fun j h hj => ?_, hb01⟩
          rcases Nat.lt_succ_iff_lt_or_eq.1 hj with q | q
          · exact HA.out j h q
          · subst q; exact HJ.out
        case measure => simp [intOf]; omega
      | true =>
        by_cases hN : (xs.length : Int) ≤ N
        · have HJ : Hid (isLost xs.length xs[k] = true) := hide (by rw [HE.out, hj]; simpa using hN)
          clear hj
          go_wp2
          go_ret
          exact ⟨.inr ⟨k, rfl, hlk, HJ.out, fun j hj => HA.out j (by omega) hj⟩, hb01⟩
        · have HJ : Hid (isLost xs.length xs[k] = false) := hide (by rw [HE.out, hj]; simpa using hN)
          clear hj
          go_wp2
          go_roundw
          case rel =>
            refine ⟨k + 1, by omega, by go_num, fun j h hj => ?_, hb01⟩
            rcases Nat.lt_succ_iff_lt_or_eq.1 hj with q | q
            · exact HA.out j h q
            · subst q; exact HJ.out
          case measure => simp [intOf]; omega
    · obtain rfl : k = xs.length := by omega
      go_wp2
      go_ret
      refine ⟨.inl ⟨rfl, fun x hx => ?_⟩, hb⟩
      obtain ⟨j, hj, e⟩ := List.getElem_of_mem hx
      rw [← e]; exact HA.out j hj hj
theorem ret_bool {a b : Bool} (h : a = b) : Ending.returned (.bool a) = .returned (.bool b) := by rw [h]
/-- Is a text too long for a program? -/
def longF (l : List UInt8) : Bool := decide (8000 < l.length) || decide (100 ≤ l.count 10)
set_option maxHeartbeats 400000 in
theorem isLong_any (l : List UInt8) (w : World) (hl : l.length ≤ 281474976710656) :
    Calls Tryz.prog 102 #[.string ⟨l.toArray⟩] w fun e w' => e = .returned (.bool (longF l)) ∧ w' = w := by
  by_cases h1 : 8000 < l.length
  · have HL : Hid (longF l = true) := hide (by simp [longF, h1])
    have h1' : (8000 : Int) < (l.length : Int) := by omega
    go_enter Tryz.func102, Tryz.ntmps102
    go_wp2
    go_ret
    exact ⟨by rw [HL.out]; rfl, rfl⟩
  · have HL : Hid (longF l = decide (100 ≤ l.count 10)) := hide (by simp [longF, h1])
    have h1' : ¬ (8000 : Int) < (l.length : Int) := by omega
    go_enter Tryz.func102, Tryz.ntmps102
    go_wp2_with (go_at_call 155; refine (Tryz.strings_Count_one _ _ _).mono ?_; rintro e w' ⟨rfl, rfl⟩)
    go_ret
    exact ⟨by rw [HL.out]; exact ret_bool (by rw [decide_eq_decide]; unfold Lib.countByte; omega), rfl⟩
end Go.Proofs.YtngopilbpiplhaaGreatDoor

namespace Go.Proofs.YtngopilbpiplhaaGreatDoor
open Go.RowKit
theorem cutAt_count (c : UInt8) : ∀ l : List UInt8, (cutAt c l).length = l.count c + 1
  | [] => rfl
  | b :: l => by
    have h := cutAt_count c l
    unfold cutAt
    split
    · rename_i e; subst e; simp [h]
    · rename_i e
      split
      · rename_i e2; exact absurd e2 (cutAt_ne _ _)
      · rename_i p r e2
        rw [e2] at h
        rw [List.count_cons_of_ne e]
        simpa using h
theorem partF_word {x y : Ln} {c : UInt8} {t : List UInt8} (h : partF x c t = some y) : y.word = x.word := by
  unfold partF at h
  split at h
  · obtain ⟨r, _, e⟩ := Option.map_eq_some_iff.1 h; rw [← e]
  · split at h
    · obtain ⟨r, _, e⟩ := Option.map_eq_some_iff.1 h; rw [← e]
    · split at h
      · obtain ⟨v, _, e⟩ := Option.bind_eq_some_iff.1 h
        split at e
        · cases e; rfl
        · cases e
      · split at h
        · obtain ⟨v, _, e⟩ := Option.bind_eq_some_iff.1 h
          split at e
          · cases e; rfl
          · cases e
        · cases h
theorem partsF_word : ∀ (cs : List UInt8) (ps : List (List UInt8)) {x y : Ln}, partsF x cs ps = some y → y.word = x.word
  | [], [], x, y, h => by simp [partsF] at h; rw [h]
  | c :: cs, p :: ps, x, y, h => by
    obtain ⟨z, h1, h2⟩ := Option.bind_eq_some_iff.1 (show (partF x c p).bind (fun y => partsF y cs ps) = some y from h)
    rw [partsF_word cs ps h2, partF_word h1]
  | [], _ :: _, x, y, h => by simp [partsF] at h
  | _ :: _, [], x, y, h => by simp [partsF] at h
theorem lineF_word {t : List UInt8} {x : Ln} (h : lineF t = some x) : ∃ row : Nat, row < 17 ∧ x.word = (row : Int) := by
  unfold lineF at h
  split at h
  · cases h
  · obtain ⟨row, h1, h2⟩ := Option.bind_eq_some_iff.1 h
    split at h2
    · exact ⟨row, findF_lt h1, partsF_word _ _ h2⟩
    · cases h2
theorem linesF_worded (ts : List (List UInt8)) : Worded (linesF ts) := fun x hx => by
  obtain ⟨t, _, h⟩ := List.mem_filterMap.1 hx
  exact lineF_word h
theorem linesF_len (ts : List (List UInt8)) (h : ∀ t ∈ ts, (lineF t).isSome = true) : (linesF ts).length = ts.length := by
  induction ts with
  | nil => rfl
  | cons t ts ih =>
    obtain ⟨x, hx⟩ := Option.isSome_iff_exists.1 (h t (by simp))
    have := ih (fun u hu => h u (by simp [hu]))
    unfold linesF at this ⊢
    simp [hx, this]
/-- The lines of a text. -/
def progF (l : List UInt8) : List Ln := linesF (cutAt 10 l)
/-- A text is a program. -/
structure Good (l : List UInt8) : Prop where
  short : longF l = false
  lines : ∀ t ∈ cutAt 10 l, (lineF t).isSome = true
  jumps : ∀ x ∈ progF l, isLost (progF l).length x = false
  last : ∀ x, (progF l)[(progF l).length - 1]? = some x → wFalls x.word.toNat = false
/-- Why a text is none: the error, and its place. -/
def Bad (l : List UInt8) (c p : Int) : Prop :=
  (longF l = true ∧ c = 1 ∧ p = 0) ∨
  (longF l = false ∧ ∃ i : Nat, ∃ h : i < (cutAt 10 l).length, c = 2 ∧ p = (i : Int) ∧ lineF (cutAt 10 l)[i] = none ∧ ∀ j (hj : j < i), (lineF ((cutAt 10 l)[j]'(by omega))).isSome = true) ∨
  (longF l = false ∧ (∀ t ∈ cutAt 10 l, (lineF t).isSome = true) ∧ ∃ i : Nat, ∃ h : i < (progF l).length, c = 3 ∧ p = (i : Int) ∧ isLost (progF l).length (progF l)[i] = true ∧ ∀ j (hj : j < i), isLost (progF l).length ((progF l)[j]'(by omega)) = false) ∨
  (longF l = false ∧ (∀ t ∈ cutAt 10 l, (lineF t).isSome = true) ∧ (∀ x ∈ progF l, isLost (progF l).length x = false) ∧ c = 4 ∧ p = ((progF l).length : Int) - 1 ∧ ∃ x, (progF l)[(progF l).length - 1]? = some x ∧ wFalls x.word.toNat = true)
def ReadRes (l : List UInt8) (w : World) (e : Ending) (w' : World) : Prop :=
  ((∃ g cap, e = .returned (.tuple #[.slice (some ⟨g, 0, none⟩) (progF l).length cap, .int .i64 0, .int .i64 0]) ∧ Good l ∧ (progF l).length ≤ cap ∧ w.heap.size ≤ g ∧ LinesAt w' g (progF l)) ∨
   (∃ c p : Int, e = .returned (.tuple #[.slice none 0 0, .int .i64 c, .int .i64 p]) ∧ Bad l c p)) ∧ Below w.heap.size w w'
theorem bad_tr {l : List UInt8} {ts : List (List UInt8)} (e : cutAt 10 l = ts) (i : Nat) (hi : i < ts.length) (hb : lineF ts[i] = none) (hbef : ∀ j (hj : j < i), (lineF (ts[j]'(by omega))).isSome = true) :
    ∃ i' : Nat, ∃ h : i' < (cutAt 10 l).length, (2 : Int) = 2 ∧ (i : Int) = (i' : Int) ∧ lineF (cutAt 10 l)[i'] = none ∧ ∀ j (hj : j < i'), (lineF ((cutAt 10 l)[j]'(by omega))).isSome = true := by
  subst e
  exact ⟨i, hi, rfl, rfl, hb, hbef⟩
theorem lost_tr {l : List UInt8} {xs : List Ln} (e : progF l = xs) (i : Nat) (hi : i < xs.length) (hb : isLost xs.length xs[i] = true) (hbef : ∀ j (hj : j < i), isLost xs.length (xs[j]'(by omega)) = false) :
    ∃ i' : Nat, ∃ h : i' < (progF l).length, (3 : Int) = 3 ∧ (i : Int) = (i' : Int) ∧ isLost (progF l).length (progF l)[i'] = true ∧ ∀ j (hj : j < i'), isLost (progF l).length ((progF l)[j]'(by omega)) = false := by
  subst e
  exact ⟨i, hi, rfl, rfl, hb, hbef⟩
set_option maxRecDepth 100000 in
set_option maxHeartbeats 2000000 in
theorem Read_any (l : List UInt8) (s : Nat) (w : World) (hl : l.length ≤ 281474976710656) (hg : Glob w) (ht : w.heap[s + 55]? = some (.cells (trows s) 140)) :
    Calls Tryz.prog 32 #[.slice (some ⟨s + 55, 0, none⟩) 17 17, .string ⟨l.toArray⟩] w fun e w' => ReadRes l w e w' := by
  have HT := hide ht
  have hlt := blk_lt ht
  have hgs := hg.size
  clear ht
  go_enter Tryz.func32, Tryz.ntmps32
  go_wp2_with fail
  refine (isLong_any _ _ hl).mono ?_
  rintro e w' ⟨rfl, rfl⟩
  cases hlo : longF l with
  | true =>
    have HLO := hide hlo
    clear hlo
    go_wp2
    go_ret3
    exact ⟨.inr ⟨1, 0, rfl, .inl ⟨HLO.out, rfl, rfl⟩⟩, Below.refl _ _⟩
  | false =>
    have HLO := hide hlo
    have h8 : l.length ≤ 8000 ∧ l.count 10 < 100 := by simp [longF] at hlo; omega
    obtain ⟨h81, h82⟩ := h8
    have hcl := cutAt_count 10 l
    have hcl1 : (cutAt 10 l).length ≤ 100 := by omega
    have hcl0 : 0 < (cutAt 10 l).length := by omega
    have hpl : ∀ t ∈ cutAt 10 l, t.length < 4294967281 := fun t ht => by have := cutAt_piece 10 l t ht; omega
    clear hlo hcl h82
    go_wp2_with fail
    refine (Split_one _ _ _ (by omega) hg).mono ?_
    rintro e w1 ⟨rfl, rfl⟩
    have hP : progF l = linesF (cutAt 10 l) := rfl
    generalize hts : cutAt 10 l = ts at *
    have HTS := hide hts
    have HPP := hide hP
    clear hts hP
    go_wp2_with fail
    have hgA : ∀ o : Obj, Glob (w'.alloc o) := fun o => hg.below ((Below.refl w'.heap.size w').alloc (Nat.le_refl _) o) hgs
    refine (parse_any ts w'.heap.size s _ hcl1 hpl (hgA _) (blk_alloc HT.out _) (blk_new _ _)).mono ?_
    clear hgA
    rintro e w1 ⟨hres, hb1⟩
    have hb01 : Below w'.heap.size w' w1 := ((Below.refl _ _).alloc (Nat.le_refl _) _).trans (hb1.mono (by simp))
    have hsz1 : w'.heap.size + 1 ≤ w1.heap.size := by have := hb1.size; simpa using this
    have ht1 := (hb01.block _ hlt).trans HT.out
    have HT1 := hide ht1
    clear ht1
    rcases hres with ⟨v, rfl, hall, hown⟩ | ⟨i, rfl, hi, hbad, hbef⟩
    · have hlen : ts.length = (progF l).length := by rw [HPP.out, linesF_len ts hall]
      have HALL := hide hall
      clear hall
      rw [← HPP.out] at hown
      have hwd : Worded (progF l) := by rw [HPP.out]; exact linesF_worded ts
      obtain ⟨g, cap, rfl, hg1, hcap, hL⟩ := linesAt_of_owns hown hlen hcl0
      have hge : w'.heap.size ≤ g := by simp at hg1; omega
      clear hown hg1
      rw [hlen] at hcap hcl1 hcl0
      have HLEN := hide hlen
      rw [hlen]
      clear hlen
      have hPF : ∀ x, x = progF l → x = progF l := fun _ h => h
      clear hPF
      generalize hxs : progF l = xs at *
      have HXS := hide hxs
      clear hxs
      have HL := hide hL
      have hglt := hL.lt
      clear hL
      go_wp2_with fail
      refine (lostJump_any xs g cap s w1 hcl1 hwd HL.out HT1.out).mono ?_
      rintro e w2 ⟨hres, hb2⟩
      have hb02 : Below w'.heap.size w' w2 := hb01.trans (hb2.mono (by omega))
      have hL2 := HL.out.mono (hb2.block _ hglt)
      have ht2 := (hb02.block _ hlt).trans HT.out
      rcases hres with ⟨rfl, hno⟩ | ⟨i, rfl, hi, hlost, hbef⟩
      · have HNO := hide hno
        clear hno
        obtain ⟨m, hm⟩ : ∃ m, xs.length = m + 1 := ⟨xs.length - 1, by omega⟩
        have hml : m < xs.length := by omega
        obtain ⟨l0, l1, l2, l3⟩ := hL2.get hml
        obtain ⟨row, hrow, hrw⟩ := hwd _ (List.getElem_mem hml)
        rw [hrw] at l0
        have hr3 := (rowAt ht2 hrow).falls
        have hlast : xs[xs.length - 1]? = some xs[m] := by rw [show xs.length - 1 = m by omega]; exact List.getElem?_eq_getElem hml
        have HLAST := hide hlast
        have HRW := hide hrw
        have HL2 := hide hL2
        clear hlast hrw hL2 ht2 l1 l2 l3
        have HM := hide hm
        rw [hm]
        rw [hm] at hcap hcl1
        clear hm
        cases hf : wFalls row with
        | false =>
          rw [hf] at hr3
          have HF := hide hf
          clear hf
          go_wp2
          go_ret3
          refine ⟨.inl ⟨g, cap, by rw [HXS.out, HM.out]; rfl, ⟨HLO.out, by rw [HTS.out]; exact HALL.out, by rw [HXS.out]; exact HNO.out, fun x hx => ?_⟩, by rw [HXS.out, HM.out]; exact hcap, hge, by rw [HXS.out]; exact HL2.out⟩, hb02⟩
          rw [HXS.out, HLAST.out] at hx
          cases hx
          rw [HRW.out]; exact HF.out
        | true =>
          rw [hf] at hr3
          have HF := hide hf
          clear hf
          go_wp2
          go_ret3
          refine ⟨.inr ⟨4, _, rfl, .inr (.inr (.inr ⟨HLO.out, by rw [HTS.out]; exact HALL.out, by rw [HXS.out]; exact HNO.out, rfl, ?_, xs[m], by rw [HXS.out]; exact HLAST.out, by rw [HRW.out]; exact HF.out⟩))⟩, hb02⟩
          rw [HXS.out, HM.out]
          first | rfl | omega
      · have HLOST := hide hlost
        have HBEF := hide hbef
        clear hlost hbef
        go_wp2
        go_ret3
        refine ⟨.inr ⟨3, _, rfl, .inr (.inr (.inl ⟨HLO.out, by rw [HTS.out]; exact HALL.out, ?_⟩))⟩, hb02⟩
        exact lost_tr HXS.out i hi HLOST.out HBEF.out
    · have HBAD := hide hbad
      have HBEF := hide hbef
      clear hbad hbef
      go_wp2
      go_ret3
      exact ⟨.inr ⟨2, _, rfl, .inr (.inl ⟨HLO.out, bad_tr HTS.out i hi HBAD.out HBEF.out⟩)⟩, hb01⟩
end Go.Proofs.YtngopilbpiplhaaGreatDoor

namespace Go.Proofs.YtngopilbpiplhaaGreatDoor
open Go.RowKit
/-- A line that is line k of a program of L lines. -/
structure LineOk (L k : Nat) (x : Ln) : Prop where
  word : ∃ row : Nat, row < 17 ∧ x.word = (row : Int)
  r : ∃ r : Nat, r < 8 ∧ x.r = (r : Int)
  s : ∃ s : Nat, s < 8 ∧ x.s = (s : Int)
  low : -9223372036854775808 ≤ x.n
  high : x.n ≤ 9223372036854775807
  falls : wFalls x.word.toNat = true → k + 1 < L
  jumps : 13 ≤ x.word.toNat → x.word.toNat ≤ 15 → 0 ≤ x.n ∧ x.n < (L : Int)
end Go.Proofs.YtngopilbpiplhaaGreatDoor

namespace Go.Proofs.YtngopilbpiplhaaGreatDoor
open Go.RowKit
set_option maxHeartbeats 400000 in
theorem become_any (g : Fn) (a b : Array Value) (w : World) :
    Calls Tryz.prog 52 #[.func g a b] w fun e w' => e = .returned (.func (.func 129) #[] #[.pointer (some ⟨w.heap.size, 0, none⟩)]) ∧ w' = w.alloc (.cells #[.func g a b] 123) := by
  go_enter Tryz.func52, Tryz.ntmps52
  go_wp2
  go_ret
  exact ⟨rfl, rfl⟩
set_option maxHeartbeats 400000 in
theorem reckon_any (g : Fn) (a b : Array Value) (w : World) :
    Calls Tryz.prog 63 #[.func g a b] w fun e w' => e = .returned (.func (.func 135) #[] #[.pointer (some ⟨w.heap.size, 0, none⟩)]) ∧ w' = w.alloc (.cells #[.func g a b] 144) := by
  go_enter Tryz.func63, Tryz.ntmps63
  go_wp2
  go_ret
  exact ⟨rfl, rfl⟩
set_option maxHeartbeats 400000 in
theorem hand_any (g : Fn) (a b : Array Value) (w : World) :
    Calls Tryz.prog 88 #[.func g a b] w fun e w' => e = .returned (.func (.func 151) #[] #[.pointer (some ⟨w.heap.size, 0, none⟩)]) ∧ w' = w.alloc (.cells #[.func g a b] 159) := by
  go_enter Tryz.func88, Tryz.ntmps88
  go_wp2
  go_ret
  exact ⟨rfl, rfl⟩
set_option maxHeartbeats 400000 in
theorem jump_any (g : Fn) (a b : Array Value) (w : World) :
    Calls Tryz.prog 91 #[.func g a b] w fun e w' => e = .returned (.func (.func 153) #[] #[.pointer (some ⟨w.heap.size, 0, none⟩)]) ∧ w' = w.alloc (.cells #[.func g a b] 161) := by
  go_enter Tryz.func91, Tryz.ntmps91
  go_wp2
  go_ret
  exact ⟨rfl, rfl⟩
set_option maxHeartbeats 400000 in
theorem sets_any (g : Fn) (a b : Array Value) (w : World) :
    Calls Tryz.prog 55 #[.func g a b] w fun e w' => e = .returned (.func (.func 131) #[] #[.pointer (some ⟨w.heap.size, 0, none⟩)]) ∧ w' = w.alloc (.cells #[.func g a b] 137) := by
  go_enter Tryz.func55, Tryz.ntmps55
  go_wp2
  go_ret
  exact ⟨rfl, rfl⟩
set_option maxHeartbeats 400000 in
theorem nothing_any  (w : World) :
    Calls Tryz.prog 54 #[] w fun e w' => e = .returned (.func (.func 130) #[] #[]) ∧ w' = w := by
  go_enter Tryz.func54, Tryz.ntmps54
  go_wp2
  go_ret
  exact ⟨rfl, rfl⟩
set_option maxHeartbeats 400000 in
theorem divisor_any  (w : World) :
    Calls Tryz.prog 74 #[] w fun e w' => e = .returned (.func (.func 142) #[] #[]) ∧ w' = w := by
  go_enter Tryz.func74, Tryz.ntmps74
  go_wp2
  go_ret
  exact ⟨rfl, rfl⟩
set_option maxHeartbeats 400000 in
theorem nowhere_any  (w : World) :
    Calls Tryz.prog 58 #[] w fun e w' => e = .returned (.func (.func 133) #[] #[]) ∧ w' = w := by
  go_enter Tryz.func58, Tryz.ntmps58
  go_wp2
  go_ret
  exact ⟨rfl, rfl⟩
set_option maxHeartbeats 400000 in
theorem same_any  (w : World) :
    Calls Tryz.prog 85 #[] w fun e w' => e = .returned (.func (.func 150) #[] #[]) ∧ w' = w := by
  go_enter Tryz.func85, Tryz.ntmps85
  go_wp2
  go_ret
  exact ⟨rfl, rfl⟩
set_option maxHeartbeats 400000 in
theorem placeR_any (p : Int) (w : World) :
    Calls Tryz.prog 84 #[.int .i64 p] w fun e w' => e = .returned (.func (.func 149) #[] #[.pointer (some ⟨w.heap.size, 0, none⟩)]) ∧ w' = w.alloc (.cells #[.int .i64 p] 2) := by
  go_enter Tryz.func84, Tryz.ntmps84
  go_wp2
  go_ret
  exact ⟨rfl, rfl⟩
set_option maxHeartbeats 400000 in
theorem placeS_any (p : Int) (w : World) :
    Calls Tryz.prog 78 #[.int .i64 p] w fun e w' => e = .returned (.func (.func 145) #[] #[.pointer (some ⟨w.heap.size, 0, none⟩)]) ∧ w' = w.alloc (.cells #[.int .i64 p] 2) := by
  go_enter Tryz.func78, Tryz.ntmps78
  go_wp2
  go_ret
  exact ⟨rfl, rfl⟩
set_option maxHeartbeats 400000 in
theorem fetch_any (p : Int) (g : Fn) (a b : Array Value) (w : World) :
    Calls Tryz.prog 76 #[.int .i64 p, .func g a b] w fun e w' => e = .returned (.func (.func 144) #[] #[.pointer (some ⟨w.heap.size, 0, none⟩), .pointer (some ⟨w.heap.size + 1, 0, none⟩)]) ∧ w' = (w.alloc (.cells #[.int .i64 p] 2)).alloc (.cells #[.func g a b] 151) := by
  go_enter Tryz.func76, Tryz.ntmps76
  go_wp2
  go_ret
  exact ⟨rfl, rfl⟩
set_option maxHeartbeats 400000 in
theorem store_any (p : Int) (g : Fn) (a b : Array Value) (w : World) :
    Calls Tryz.prog 82 #[.int .i64 p, .func g a b] w fun e w' => e = .returned (.func (.func 148) #[] #[.pointer (some ⟨w.heap.size, 0, none⟩), .pointer (some ⟨w.heap.size + 1, 0, none⟩)]) ∧ w' = (w.alloc (.cells #[.int .i64 p] 2)).alloc (.cells #[.func g a b] 156) := by
  go_enter Tryz.func82, Tryz.ntmps82
  go_wp2
  go_ret
  exact ⟨rfl, rfl⟩
set_option maxHeartbeats 400000 in
theorem turn_any (g h : Fn) (a b c d : Array Value) (w : World) :
    Calls Tryz.prog 94 #[.func g a b, .func h c d] w fun e w' => e = .returned (.func (.func 154) #[] #[.pointer (some ⟨w.heap.size, 0, none⟩), .pointer (some ⟨w.heap.size + 1, 0, none⟩)]) ∧ w' = (w.alloc (.cells #[.func g a b] 128)).alloc (.cells #[.func h c d] 163) := by
  go_enter Tryz.func94, Tryz.ntmps94
  go_wp2
  go_ret
  exact ⟨rfl, rfl⟩
set_option maxHeartbeats 400000 in
theorem reckons_any (g : Fn) (a b : Array Value) (w : World) :
    Calls Tryz.prog 65 #[.func g a b] w fun e w' => e = .returned (.func (.func 131) #[] #[.pointer (some ⟨w.heap.size + 1, 0, none⟩)]) ∧ w' = (w.alloc (.cells #[.func g a b] 146)).alloc (.cells #[.func (.func 136) #[] #[.pointer (some ⟨w.heap.size, 0, none⟩)]] 137) := by
  go_enter Tryz.func65, Tryz.ntmps65
  go_wp2_with (go_at_call 55; refine (sets_any _ _ _ _).mono ?_; rintro e w' ⟨rfl, rfl⟩)
  go_ret
  exact ⟨rfl, rfl⟩
set_option maxHeartbeats 400000 in
theorem fetches_any (x y : Int) (w : World) :
    Calls Tryz.prog 79 #[.agg #[.int .i64 x, .int .i64 y]] w fun e w' => e = .returned (.func (.func 131) #[] #[.pointer (some ⟨w.heap.size + 1, 0, none⟩)]) ∧ w' = (w.alloc (.cells #[.int .i64 x, .int .i64 y] 132)).alloc (.cells #[.func (.func 147) #[] #[.pointer (some ⟨w.heap.size, 0, none⟩)]] 137) := by
  go_enter Tryz.func79, Tryz.ntmps79
  go_wp2_with (go_at_call 55; refine (sets_any _ _ _ _).mono ?_; rintro e w' ⟨rfl, rfl⟩)
  go_ret
  exact ⟨rfl, rfl⟩
set_option maxHeartbeats 400000 in
theorem All_any (w : World) :
    Calls Tryz.prog 81 #[] w fun e w' => e = .returned (.agg #[.int .i64 (-9223372036854775808), .int .i64 9223372036854775807]) ∧ w' = w.alloc (.cells #[.int .i64 (-9223372036854775808), .int .i64 9223372036854775807] 132) := by
  go_enter Tryz.func81, Tryz.ntmps81
  go_wp2
  exact bodyPost_ret (v := .agg #[.int .i64 (-9223372036854775808), .int .i64 9223372036854775807]) (by simp [results, Tryz.results81, go_sem]) rfl ⟨rfl, rfl⟩
end Go.Proofs.YtngopilbpiplhaaGreatDoor

namespace Go.Proofs.YtngopilbpiplhaaGreatDoor
open Go.RowKit
set_option maxRecDepth 1000000 in
set_option maxHeartbeats 4000000 in
theorem Rows_world (w : World) :
    Calls Tryz.prog 31 #[] w fun e w' => e = .returned (.slice (some ⟨w.heap.size + 55, 0, none⟩) 17 17) ∧ w' = allocs w (tblocks w.heap.size) := by
  go_enter Tryz.func31, Tryz.ntmps31
  go_wp2_with (first
    | (go_at_call 52; refine (become_any _ _ _ _).mono ?_; rintro e w' ⟨rfl, rfl⟩)
    | (go_at_call 63; refine (reckon_any _ _ _ _).mono ?_; rintro e w' ⟨rfl, rfl⟩)
    | (go_at_call 88; refine (hand_any _ _ _ _).mono ?_; rintro e w' ⟨rfl, rfl⟩)
    | (go_at_call 91; refine (jump_any _ _ _ _).mono ?_; rintro e w' ⟨rfl, rfl⟩)
    | (go_at_call 55; refine (sets_any _ _ _ _).mono ?_; rintro e w' ⟨rfl, rfl⟩)
    | (go_at_call 54; refine (nothing_any _).mono ?_; rintro e w' ⟨rfl, rfl⟩)
    | (go_at_call 74; refine (divisor_any _).mono ?_; rintro e w' ⟨rfl, rfl⟩)
    | (go_at_call 58; refine (nowhere_any _).mono ?_; rintro e w' ⟨rfl, rfl⟩)
    | (go_at_call 85; refine (same_any _).mono ?_; rintro e w' ⟨rfl, rfl⟩)
    | (go_at_call 84; refine (placeR_any _ _).mono ?_; rintro e w' ⟨rfl, rfl⟩)
    | (go_at_call 78; refine (placeS_any _ _).mono ?_; rintro e w' ⟨rfl, rfl⟩)
    | (go_at_call 76; refine (fetch_any _ _ _ _ _).mono ?_; rintro e w' ⟨rfl, rfl⟩)
    | (go_at_call 82; refine (store_any _ _ _ _ _).mono ?_; rintro e w' ⟨rfl, rfl⟩)
    | (go_at_call 94; refine (turn_any _ _ _ _ _ _ _).mono ?_; rintro e w' ⟨rfl, rfl⟩)
    | (go_at_call 65; refine (reckons_any _ _ _ _).mono ?_; rintro e w' ⟨rfl, rfl⟩)
    | (go_at_call 79; refine (fetches_any _ _ _).mono ?_; rintro e w' ⟨rfl, rfl⟩)
    | (go_at_call 81; refine (All_any _).mono ?_; rintro e w' ⟨rfl, rfl⟩))
  simp only [Nat.add_assoc, Nat.reduceAdd]
  go_ret
  exact ⟨rfl, rfl⟩
theorem Rows_any (w : World) :
    Calls Tryz.prog 31 #[] w fun e w' => e = .returned (.slice (some ⟨w.heap.size + 55, 0, none⟩) 17 17) ∧ Table w.heap.size w' ∧ w'.heap.size = w.heap.size + 56 ∧ Below w.heap.size w w' := by
  refine (Rows_world w).mono ?_
  rintro e w' ⟨rfl, rfl⟩
  refine ⟨rfl, fun k hk => allocs_get _ _ _ hk, allocs_size _ _, allocs_below _ _⟩
end Go.Proofs.YtngopilbpiplhaaGreatDoor
