/-
  The contract of Word.Exits at whatever closures.
-/
import Derived.Test.YtngopilbpiplhaaGreatDoorZClX
namespace Go.Proofs.YtngopilbpiplhaaGreatDoor
open Go.RowKit
set_option linter.unusedVariables false
theorem WLC.s3' {w W : World} {o : Obj} {c : Cl} {x : Ln} (h : WLC w o x c W) : w.heap.size + 3 ≤ W.heap.size := by have := blk_lt h.C; omega
theorem WLC.below3' {w W W' : World} {o : Obj} {c : Cl} {x : Ln} (h : WLC w o x c W) (hb : Below (w.heap.size + 3) W W') : WLC w o x c W' :=
  ⟨(hb.block _ (by omega)).trans h.A, (hb.block _ (by omega)).trans h.B, (hb.block _ (by omega)).trans h.C, h.b.trans (hb.mono (by omega))⟩
theorem ownBlock_ge' {w : World} {B g : Nat} {e : TypeId} {sz n : Nat} {v : Value} {xs : List Value} (h : w.ownsRow B e sz v n xs) (hg : v.ownBlock = some g) : B ≤ g := by
  obtain ⟨_, ⟨e, _⟩ | ⟨g1, cap, cur, e, hg1, _⟩⟩ := h
  · rw [e] at hg; cases hg
  · rw [e] at hg; cases hg; exact hg1
set_option maxRecDepth 100000 in
set_option maxHeartbeats 4000000 in
theorem Exits_gen_11 (n p t : ByteArray) (fl : Bool) (f4 : FuncId) (b4 : Array Value) (f5 : FuncId) (b5 : Array Value) (at_ : Nat) (hat : at_ < 1000) (c : Cl) (hcn : c.never = false) (x : Ln) (r s : Nat) (hx : x.r = (r : Int)) (hy : x.s = (s : Int)) (hr : r < 8) (hs : s < 8) (w : World) (f6 : FuncId) (hent6 : ∀ (args : Array Value) (w : World), (callFunc f6 args).run Tryz.prog w = .ok (.enter f6 args) w) (b6 : Array Value) (f7 : FuncId) (hent7 : ∀ (args : Array Value) (w : World), (callFunc f7 args).run Tryz.prog w = .ok (.enter f7 args) w) (b7 : Array Value) (dN dJ : Cl) (hN : dN.never = false) (hJ : dJ.never = false) (hF6 : ∀ W : World, Below w.heap.size w W → Calls Tryz.prog f6 (#[.agg (clCells c), .agg (lnArr x)] ++ b6) W fun e w' => e = .returned (.agg (clCells dN)) ∧ Below W.heap.size W w') (hF7 : ∀ W : World, Below w.heap.size w W → Calls Tryz.prog f7 (#[.agg (clCells c), .agg (lnArr x)] ++ b7) W fun e w' => e = .returned (.agg (clCells dJ)) ∧ Below W.heap.size W w') :
    Calls Tryz.prog 191 #[.agg #[.string n, .string p, .string t, .bool fl, .func (.func f4) #[] b4, .func (.func f5) #[] b5, .func (.func f6) #[] b6, .func (.func f7) #[] b7], .int .i64 at_, .agg (lnArr x), .agg (clCells c)] w
      fun e w' => ∃ v, e = .returned v ∧ w'.ownsRow (w.heap.size + 3) 243 26 v 2 (exC ((at_ : Int) + 1) (dN) ++ exC x.n (dJ)) ∧ Below w.heap.size w w' := by
  obtain ⟨wd, xr, xs, xn⟩ := x
  subst hx hy
  have H_hF6 := hide hF6
  clear hF6
  have H_hF7 := hide hF7
  clear hF7
  have H_hN := hide hN
  clear hN
  have H_hJ := hide hJ
  clear hJ
  obtain ⟨i0, hi, hz0, hz1, hz2⟩ := info_parts infoEx
  have HI := hide hi
  have HI0 := hide hz0
  have HI1 := hide hz1
  have HI2 := hide hz2
  clear hi hz0 hz1 hz2
  have hw0 := wlc_mk w (.cells #[.string n, .string p, .string t, .bool fl, .func (.func f4) #[] b4, .func (.func f5) #[] b5, .func (.func f6) #[] b6, .func (.func f7) #[] b7] 140) ⟨wd, r, s, xn⟩ c
  unfold lnArr
  go_enter Tryz.func191, Tryz.ntmps191
  go_upto_region 2 with fail
  change Code.wp _ _ _ _ (((w.alloc (.cells #[.string n, .string p, .string t, .bool fl, .func (.func f4) #[] b4, .func (.func f5) #[] b5, .func (.func f6) #[] b6, .func (.func f7) #[] b7] 140)).alloc (lnB ⟨wd, r, s, xn⟩)).alloc (clB c))
  generalize ((w.alloc (.cells #[.string n, .string p, .string t, .bool fl, .func (.func f4) #[] b4, .func (.func f5) #[] b5, .func (.func f6) #[] b6, .func (.func f7) #[] b7] 140)).alloc (lnB ⟨wd, r, s, xn⟩)).alloc (clB c) = w0 at *
  have HT0 := hide hw0
  clear hw0
  have cn0 : w0.cell? ⟨w.heap.size, 6, none⟩ = some (.func (.func f6) #[] b6) := cell_of_blk HT0.out.A 6
  go_wp2_with (first | (refine wpList_load_row rfl 135 (.tmp 7) rfl (w.heap.size + 1 + 1) rfl _ _ _ _ HT0.out.C Tryz.underlying135 rfl (by kernel_rfl) ?_) | (refine wpList_load_row rfl 122 (.tmp 6) rfl (w.heap.size + 1) rfl _ _ _ _ HT0.out.B Tryz.underlying122 rfl (by kernel_rfl) ?_))
  refine (H_hF6.out _ HT0.out.b).mono ?_
  rintro e w1 ⟨rfl, hbx⟩
  have hb1 : Below w0.heap.size w0 w1 := hbx
  have HT1 := hide (HT0.out.below hb1)
  clear hbx hb1 cn0
  go_wp2_with (refine wpList_storeCl rfl (.tmp 10) (.tmp 16) rfl w1.heap.size (clCells (dN)) _ _ rfl rfl (blk_new w1 _) (cl_size _) rfl (cl_one _) ?_)
  intro w2 hwx
  have hNx : w2.heap[w1.heap.size]? = some (clB (dN)) := by rw [hwx.out]; exact setRow_heap _ _ _ _ _ _ (blk_new w1 _)
  have hb2 : Below w1.heap.size w1 w2 := by rw [hwx.out]; exact ((Below.refl _ _).alloc (Nat.le_refl _) _).trans ((keep_setRow' w1.heap.size _ _ _).below (Nat.le_refl _))
  have HT2 := hide (HT1.out.below hb2)
  have HN2 := hide hNx
  clear hwx hNx hb2
  have hnv : w2.cell? ⟨w1.heap.size, 0, none⟩ = some (.bool false) := by rw [cell_of_blk HN2.out 0, cl_never]; exact congrArg (fun b => some (Value.bool b)) H_hN.out
  go_wp2_with (first | (refine wpList_load_row rfl 135 (.tmp 10) rfl w1.heap.size rfl _ _ _ _ HN2.out Tryz.underlying135 rfl (by kernel_rfl) ?_) | (refine wpList_buildEx rfl (.tmp 22) (.tmp 23) ((at_ : Int) + 1) (dN) rfl rfl rfl ?_) | (refine wpList_buildSliceEx rfl (.tmp 24) ((at_ : Int) + 1) (dN) rfl rfl ?_))
  clear hnv
  intro w3 hwx
  have hsx := HT2.out.b.size
  have hsy : w3.heap.size = w2.heap.size + 1 := by rw [hwx.out]; simp
  have hst := HT2.out.s3'
  have HCAT := hide (exC_at _ _ hwx.out)
  have hb3 : Below w2.heap.size w2 w3 := by rw [hwx.out]; exact (Below.refl _ _).alloc (Nat.le_refl _) _
  have HT3 := hide (HT2.out.below hb3)
  clear hwx hb3
  go_wp2_with (at_builtin; refine wpList_append_own _ rfl (.tmp 20) (.tmp 25) 240 rfl (w.heap.size + 3) 243 i0 _ 26 152 Tryz.underlying240 HI.out HI0.out HI1.out HI2.out rfl (by decide) (.slice none 0 0) 0 ([]) rfl (own_none _ _) ⟨w2.heap.size, 0, none⟩ 1 1 (exC ((at_ : Int) + 1) (dN)) rfl (exC_len _ _) HCAT.out (exC_one _ _) (by unfold maxLen; omega) (by omega) (by omega) ?_)
  intro v4 w4 hownx hgrow _
  have hb4 : Below w3.heap.size w3 w4 := Below.grown (Below.refl _ _) hgrow (Nat.le_refl _) (by intro g hg; simp [Value.ownBlock] at hg)
  have HT4 := hide (HT3.out.below hb4)
  have HO4 := hide (show w4.ownsRow (w.heap.size + 3) 243 26 v4 1 (exC ((at_ : Int) + 1) (dN)) from hownx)
  clear hownx hgrow hb4 HCAT hsx hsy hst
  have cn4 : w4.cell? ⟨w.heap.size, 7, none⟩ = some (.func (.func f7) #[] b7) := cell_of_blk HT4.out.A 7
  go_wp2_with (first | (refine wpList_load_row rfl 135 (.tmp 7) rfl (w.heap.size + 1 + 1) rfl _ _ _ _ HT4.out.C Tryz.underlying135 rfl (by kernel_rfl) ?_) | (refine wpList_load_row rfl 122 (.tmp 6) rfl (w.heap.size + 1) rfl _ _ _ _ HT4.out.B Tryz.underlying122 rfl (by kernel_rfl) ?_))
  refine (H_hF7.out _ HT4.out.b).mono ?_
  rintro e w5 ⟨rfl, hbx⟩
  have hb5 : Below w4.heap.size w4 w5 := hbx
  have HT5 := hide (HT4.out.below hb5)
  have HO5 := hide (ownsRow_below HO4.out (fun g _ hg => hb5.block g hg))
  clear hbx hb5 cn4
  go_wp2_with (refine wpList_storeCl rfl (.tmp 11) (.tmp 31) rfl w5.heap.size (clCells (dJ)) _ _ rfl rfl (blk_new w5 _) (cl_size _) rfl (cl_one _) ?_)
  intro w6 hwx
  have hNx : w6.heap[w5.heap.size]? = some (clB (dJ)) := by rw [hwx.out]; exact setRow_heap _ _ _ _ _ _ (blk_new w5 _)
  have hb6 : Below w5.heap.size w5 w6 := by rw [hwx.out]; exact ((Below.refl _ _).alloc (Nat.le_refl _) _).trans ((keep_setRow' w5.heap.size _ _ _).below (Nat.le_refl _))
  have HT6 := hide (HT5.out.below hb6)
  have HO6 := hide (ownsRow_below HO5.out (fun g _ hg => hb6.block g hg))
  have HN6 := hide hNx
  clear hwx hNx hb6
  have hnv : w6.cell? ⟨w5.heap.size, 0, none⟩ = some (.bool false) := by rw [cell_of_blk HN6.out 0, cl_never]; exact congrArg (fun b => some (Value.bool b)) H_hJ.out
  have cnn : w6.cell? ⟨w.heap.size + 1, 3, none⟩ = some (.int .i64 xn) := cell_of_blk HT6.out.B 3
  go_wp2_with (first | (refine wpList_load_row rfl 135 (.tmp 11) rfl w5.heap.size rfl _ _ _ _ HN6.out Tryz.underlying135 rfl (by kernel_rfl) ?_) | (refine wpList_buildEx rfl (.tmp 37) (.tmp 38) xn (dJ) rfl rfl rfl ?_) | (refine wpList_buildSliceEx rfl (.tmp 39) xn (dJ) rfl rfl ?_))
  clear hnv cnn
  intro w7 hwx
  have hsx := HT6.out.b.size
  have hsy : w7.heap.size = w6.heap.size + 1 := by rw [hwx.out]; simp
  have hst := HT6.out.s3'
  have HCAT := hide (exC_at _ _ hwx.out)
  have hb7 : Below w6.heap.size w6 w7 := by rw [hwx.out]; exact (Below.refl _ _).alloc (Nat.le_refl _) _
  have HT7 := hide (HT6.out.below hb7)
  have HO7 := hide (ownsRow_below HO6.out (fun g _ hg => hb7.block g hg))
  clear hwx hb7
  go_wp2_with (at_builtin; refine wpList_append_own _ rfl (.tmp 35) (.tmp 40) 240 rfl (w.heap.size + 3) 243 i0 _ 26 152 Tryz.underlying240 HI.out HI0.out HI1.out HI2.out rfl (by decide) v4 1 (exC ((at_ : Int) + 1) (dN)) rfl HO7.out ⟨w6.heap.size, 0, none⟩ 1 1 (exC xn (dJ)) rfl (exC_len _ _) HCAT.out (exC_one _ _) (by unfold maxLen; omega) (by omega) (by omega) ?_)
  intro v8 w8 hownx hgrow _
  have hb8 : Below (w.heap.size + 3) w7 w8 := Below.grown (Below.refl _ _) hgrow (by omega) (fun g hg => ownBlock_ge' HO7.out hg)
  have HT8 := hide (HT7.out.below3' hb8)
  have HO8 := hide (show w8.ownsRow (w.heap.size + 3) 243 26 v8 2 (exC ((at_ : Int) + 1) (dN) ++ exC xn (dJ)) from hownx)
  clear hownx hgrow hb8 HCAT hsx hsy hst
  go_wp2
  go_ret
  exact ⟨_, rfl, HO8.out, HT8.out.b⟩
set_option maxRecDepth 100000 in
set_option maxHeartbeats 4000000 in
theorem Exits_gen_10 (n p t : ByteArray) (fl : Bool) (f4 : FuncId) (b4 : Array Value) (f5 : FuncId) (b5 : Array Value) (at_ : Nat) (hat : at_ < 1000) (c : Cl) (hcn : c.never = false) (x : Ln) (r s : Nat) (hx : x.r = (r : Int)) (hy : x.s = (s : Int)) (hr : r < 8) (hs : s < 8) (w : World) (f6 : FuncId) (hent6 : ∀ (args : Array Value) (w : World), (callFunc f6 args).run Tryz.prog w = .ok (.enter f6 args) w) (b6 : Array Value) (f7 : FuncId) (hent7 : ∀ (args : Array Value) (w : World), (callFunc f7 args).run Tryz.prog w = .ok (.enter f7 args) w) (b7 : Array Value) (dN dJ : Cl) (hN : dN.never = false) (hJ : dJ.never = true) (hF6 : ∀ W : World, Below w.heap.size w W → Calls Tryz.prog f6 (#[.agg (clCells c), .agg (lnArr x)] ++ b6) W fun e w' => e = .returned (.agg (clCells dN)) ∧ Below W.heap.size W w') (hF7 : ∀ W : World, Below w.heap.size w W → Calls Tryz.prog f7 (#[.agg (clCells c), .agg (lnArr x)] ++ b7) W fun e w' => e = .returned (.agg (clCells dJ)) ∧ Below W.heap.size W w') :
    Calls Tryz.prog 191 #[.agg #[.string n, .string p, .string t, .bool fl, .func (.func f4) #[] b4, .func (.func f5) #[] b5, .func (.func f6) #[] b6, .func (.func f7) #[] b7], .int .i64 at_, .agg (lnArr x), .agg (clCells c)] w
      fun e w' => ∃ v, e = .returned v ∧ w'.ownsRow (w.heap.size + 3) 243 26 v 1 (exC ((at_ : Int) + 1) (dN)) ∧ Below w.heap.size w w' := by
  obtain ⟨wd, xr, xs, xn⟩ := x
  subst hx hy
  have H_hF6 := hide hF6
  clear hF6
  have H_hF7 := hide hF7
  clear hF7
  have H_hN := hide hN
  clear hN
  have H_hJ := hide hJ
  clear hJ
  obtain ⟨i0, hi, hz0, hz1, hz2⟩ := info_parts infoEx
  have HI := hide hi
  have HI0 := hide hz0
  have HI1 := hide hz1
  have HI2 := hide hz2
  clear hi hz0 hz1 hz2
  have hw0 := wlc_mk w (.cells #[.string n, .string p, .string t, .bool fl, .func (.func f4) #[] b4, .func (.func f5) #[] b5, .func (.func f6) #[] b6, .func (.func f7) #[] b7] 140) ⟨wd, r, s, xn⟩ c
  unfold lnArr
  go_enter Tryz.func191, Tryz.ntmps191
  go_upto_region 2 with fail
  change Code.wp _ _ _ _ (((w.alloc (.cells #[.string n, .string p, .string t, .bool fl, .func (.func f4) #[] b4, .func (.func f5) #[] b5, .func (.func f6) #[] b6, .func (.func f7) #[] b7] 140)).alloc (lnB ⟨wd, r, s, xn⟩)).alloc (clB c))
  generalize ((w.alloc (.cells #[.string n, .string p, .string t, .bool fl, .func (.func f4) #[] b4, .func (.func f5) #[] b5, .func (.func f6) #[] b6, .func (.func f7) #[] b7] 140)).alloc (lnB ⟨wd, r, s, xn⟩)).alloc (clB c) = w0 at *
  have HT0 := hide hw0
  clear hw0
  have cn0 : w0.cell? ⟨w.heap.size, 6, none⟩ = some (.func (.func f6) #[] b6) := cell_of_blk HT0.out.A 6
  go_wp2_with (first | (refine wpList_load_row rfl 135 (.tmp 7) rfl (w.heap.size + 1 + 1) rfl _ _ _ _ HT0.out.C Tryz.underlying135 rfl (by kernel_rfl) ?_) | (refine wpList_load_row rfl 122 (.tmp 6) rfl (w.heap.size + 1) rfl _ _ _ _ HT0.out.B Tryz.underlying122 rfl (by kernel_rfl) ?_))
  refine (H_hF6.out _ HT0.out.b).mono ?_
  rintro e w1 ⟨rfl, hbx⟩
  have hb1 : Below w0.heap.size w0 w1 := hbx
  have HT1 := hide (HT0.out.below hb1)
  clear hbx hb1 cn0
  go_wp2_with (refine wpList_storeCl rfl (.tmp 10) (.tmp 16) rfl w1.heap.size (clCells (dN)) _ _ rfl rfl (blk_new w1 _) (cl_size _) rfl (cl_one _) ?_)
  intro w2 hwx
  have hNx : w2.heap[w1.heap.size]? = some (clB (dN)) := by rw [hwx.out]; exact setRow_heap _ _ _ _ _ _ (blk_new w1 _)
  have hb2 : Below w1.heap.size w1 w2 := by rw [hwx.out]; exact ((Below.refl _ _).alloc (Nat.le_refl _) _).trans ((keep_setRow' w1.heap.size _ _ _).below (Nat.le_refl _))
  have HT2 := hide (HT1.out.below hb2)
  have HN2 := hide hNx
  clear hwx hNx hb2
  have hnv : w2.cell? ⟨w1.heap.size, 0, none⟩ = some (.bool false) := by rw [cell_of_blk HN2.out 0, cl_never]; exact congrArg (fun b => some (Value.bool b)) H_hN.out
  go_wp2_with (first | (refine wpList_load_row rfl 135 (.tmp 10) rfl w1.heap.size rfl _ _ _ _ HN2.out Tryz.underlying135 rfl (by kernel_rfl) ?_) | (refine wpList_buildEx rfl (.tmp 22) (.tmp 23) ((at_ : Int) + 1) (dN) rfl rfl rfl ?_) | (refine wpList_buildSliceEx rfl (.tmp 24) ((at_ : Int) + 1) (dN) rfl rfl ?_))
  clear hnv
  intro w3 hwx
  have hsx := HT2.out.b.size
  have hsy : w3.heap.size = w2.heap.size + 1 := by rw [hwx.out]; simp
  have hst := HT2.out.s3'
  have HCAT := hide (exC_at _ _ hwx.out)
  have hb3 : Below w2.heap.size w2 w3 := by rw [hwx.out]; exact (Below.refl _ _).alloc (Nat.le_refl _) _
  have HT3 := hide (HT2.out.below hb3)
  clear hwx hb3
  go_wp2_with (at_builtin; refine wpList_append_own _ rfl (.tmp 20) (.tmp 25) 240 rfl (w.heap.size + 3) 243 i0 _ 26 152 Tryz.underlying240 HI.out HI0.out HI1.out HI2.out rfl (by decide) (.slice none 0 0) 0 ([]) rfl (own_none _ _) ⟨w2.heap.size, 0, none⟩ 1 1 (exC ((at_ : Int) + 1) (dN)) rfl (exC_len _ _) HCAT.out (exC_one _ _) (by unfold maxLen; omega) (by omega) (by omega) ?_)
  intro v4 w4 hownx hgrow _
  have hb4 : Below w3.heap.size w3 w4 := Below.grown (Below.refl _ _) hgrow (Nat.le_refl _) (by intro g hg; simp [Value.ownBlock] at hg)
  have HT4 := hide (HT3.out.below hb4)
  have HO4 := hide (show w4.ownsRow (w.heap.size + 3) 243 26 v4 1 (exC ((at_ : Int) + 1) (dN)) from hownx)
  clear hownx hgrow hb4 HCAT hsx hsy hst
  have cn4 : w4.cell? ⟨w.heap.size, 7, none⟩ = some (.func (.func f7) #[] b7) := cell_of_blk HT4.out.A 7
  go_wp2_with (first | (refine wpList_load_row rfl 135 (.tmp 7) rfl (w.heap.size + 1 + 1) rfl _ _ _ _ HT4.out.C Tryz.underlying135 rfl (by kernel_rfl) ?_) | (refine wpList_load_row rfl 122 (.tmp 6) rfl (w.heap.size + 1) rfl _ _ _ _ HT4.out.B Tryz.underlying122 rfl (by kernel_rfl) ?_))
  refine (H_hF7.out _ HT4.out.b).mono ?_
  rintro e w5 ⟨rfl, hbx⟩
  have hb5 : Below w4.heap.size w4 w5 := hbx
  have HT5 := hide (HT4.out.below hb5)
  have HO5 := hide (ownsRow_below HO4.out (fun g _ hg => hb5.block g hg))
  clear hbx hb5 cn4
  go_wp2_with (refine wpList_storeCl rfl (.tmp 11) (.tmp 31) rfl w5.heap.size (clCells (dJ)) _ _ rfl rfl (blk_new w5 _) (cl_size _) rfl (cl_one _) ?_)
  intro w6 hwx
  have hNx : w6.heap[w5.heap.size]? = some (clB (dJ)) := by rw [hwx.out]; exact setRow_heap _ _ _ _ _ _ (blk_new w5 _)
  have hb6 : Below w5.heap.size w5 w6 := by rw [hwx.out]; exact ((Below.refl _ _).alloc (Nat.le_refl _) _).trans ((keep_setRow' w5.heap.size _ _ _).below (Nat.le_refl _))
  have HT6 := hide (HT5.out.below hb6)
  have HO6 := hide (ownsRow_below HO5.out (fun g _ hg => hb6.block g hg))
  have HN6 := hide hNx
  clear hwx hNx hb6
  have hnv : w6.cell? ⟨w5.heap.size, 0, none⟩ = some (.bool true) := by rw [cell_of_blk HN6.out 0, cl_never]; exact congrArg (fun b => some (Value.bool b)) H_hJ.out
  go_wp2
  go_ret
  exact ⟨_, rfl, HO6.out, HT6.out.b⟩
set_option maxRecDepth 100000 in
set_option maxHeartbeats 4000000 in
theorem Exits_gen_01 (n p t : ByteArray) (fl : Bool) (f4 : FuncId) (b4 : Array Value) (f5 : FuncId) (b5 : Array Value) (at_ : Nat) (hat : at_ < 1000) (c : Cl) (hcn : c.never = false) (x : Ln) (r s : Nat) (hx : x.r = (r : Int)) (hy : x.s = (s : Int)) (hr : r < 8) (hs : s < 8) (w : World) (f6 : FuncId) (hent6 : ∀ (args : Array Value) (w : World), (callFunc f6 args).run Tryz.prog w = .ok (.enter f6 args) w) (b6 : Array Value) (f7 : FuncId) (hent7 : ∀ (args : Array Value) (w : World), (callFunc f7 args).run Tryz.prog w = .ok (.enter f7 args) w) (b7 : Array Value) (dN dJ : Cl) (hN : dN.never = true) (hJ : dJ.never = false) (hF6 : ∀ W : World, Below w.heap.size w W → Calls Tryz.prog f6 (#[.agg (clCells c), .agg (lnArr x)] ++ b6) W fun e w' => e = .returned (.agg (clCells dN)) ∧ Below W.heap.size W w') (hF7 : ∀ W : World, Below w.heap.size w W → Calls Tryz.prog f7 (#[.agg (clCells c), .agg (lnArr x)] ++ b7) W fun e w' => e = .returned (.agg (clCells dJ)) ∧ Below W.heap.size W w') :
    Calls Tryz.prog 191 #[.agg #[.string n, .string p, .string t, .bool fl, .func (.func f4) #[] b4, .func (.func f5) #[] b5, .func (.func f6) #[] b6, .func (.func f7) #[] b7], .int .i64 at_, .agg (lnArr x), .agg (clCells c)] w
      fun e w' => ∃ v, e = .returned v ∧ w'.ownsRow (w.heap.size + 3) 243 26 v 1 (exC x.n (dJ)) ∧ Below w.heap.size w w' := by
  obtain ⟨wd, xr, xs, xn⟩ := x
  subst hx hy
  have H_hF6 := hide hF6
  clear hF6
  have H_hF7 := hide hF7
  clear hF7
  have H_hN := hide hN
  clear hN
  have H_hJ := hide hJ
  clear hJ
  obtain ⟨i0, hi, hz0, hz1, hz2⟩ := info_parts infoEx
  have HI := hide hi
  have HI0 := hide hz0
  have HI1 := hide hz1
  have HI2 := hide hz2
  clear hi hz0 hz1 hz2
  have hw0 := wlc_mk w (.cells #[.string n, .string p, .string t, .bool fl, .func (.func f4) #[] b4, .func (.func f5) #[] b5, .func (.func f6) #[] b6, .func (.func f7) #[] b7] 140) ⟨wd, r, s, xn⟩ c
  unfold lnArr
  go_enter Tryz.func191, Tryz.ntmps191
  go_upto_region 2 with fail
  change Code.wp _ _ _ _ (((w.alloc (.cells #[.string n, .string p, .string t, .bool fl, .func (.func f4) #[] b4, .func (.func f5) #[] b5, .func (.func f6) #[] b6, .func (.func f7) #[] b7] 140)).alloc (lnB ⟨wd, r, s, xn⟩)).alloc (clB c))
  generalize ((w.alloc (.cells #[.string n, .string p, .string t, .bool fl, .func (.func f4) #[] b4, .func (.func f5) #[] b5, .func (.func f6) #[] b6, .func (.func f7) #[] b7] 140)).alloc (lnB ⟨wd, r, s, xn⟩)).alloc (clB c) = w0 at *
  have HT0 := hide hw0
  clear hw0
  have cn0 : w0.cell? ⟨w.heap.size, 6, none⟩ = some (.func (.func f6) #[] b6) := cell_of_blk HT0.out.A 6
  go_wp2_with (first | (refine wpList_load_row rfl 135 (.tmp 7) rfl (w.heap.size + 1 + 1) rfl _ _ _ _ HT0.out.C Tryz.underlying135 rfl (by kernel_rfl) ?_) | (refine wpList_load_row rfl 122 (.tmp 6) rfl (w.heap.size + 1) rfl _ _ _ _ HT0.out.B Tryz.underlying122 rfl (by kernel_rfl) ?_))
  refine (H_hF6.out _ HT0.out.b).mono ?_
  rintro e w1 ⟨rfl, hbx⟩
  have hb1 : Below w0.heap.size w0 w1 := hbx
  have HT1 := hide (HT0.out.below hb1)
  clear hbx hb1 cn0
  go_wp2_with (refine wpList_storeCl rfl (.tmp 10) (.tmp 16) rfl w1.heap.size (clCells (dN)) _ _ rfl rfl (blk_new w1 _) (cl_size _) rfl (cl_one _) ?_)
  intro w2 hwx
  have hNx : w2.heap[w1.heap.size]? = some (clB (dN)) := by rw [hwx.out]; exact setRow_heap _ _ _ _ _ _ (blk_new w1 _)
  have hb2 : Below w1.heap.size w1 w2 := by rw [hwx.out]; exact ((Below.refl _ _).alloc (Nat.le_refl _) _).trans ((keep_setRow' w1.heap.size _ _ _).below (Nat.le_refl _))
  have HT2 := hide (HT1.out.below hb2)
  have HN2 := hide hNx
  clear hwx hNx hb2
  have hnv : w2.cell? ⟨w1.heap.size, 0, none⟩ = some (.bool true) := by rw [cell_of_blk HN2.out 0, cl_never]; exact congrArg (fun b => some (Value.bool b)) H_hN.out
  have cn2 : w2.cell? ⟨w.heap.size, 7, none⟩ = some (.func (.func f7) #[] b7) := cell_of_blk HT2.out.A 7
  go_wp2_with (first | (refine wpList_load_row rfl 135 (.tmp 7) rfl (w.heap.size + 1 + 1) rfl _ _ _ _ HT2.out.C Tryz.underlying135 rfl (by kernel_rfl) ?_) | (refine wpList_load_row rfl 122 (.tmp 6) rfl (w.heap.size + 1) rfl _ _ _ _ HT2.out.B Tryz.underlying122 rfl (by kernel_rfl) ?_))
  refine (H_hF7.out _ HT2.out.b).mono ?_
  rintro e w3 ⟨rfl, hbx⟩
  have hb3 : Below w2.heap.size w2 w3 := hbx
  have HT3 := hide (HT2.out.below hb3)
  clear hbx hb3 cn2
  go_wp2_with (refine wpList_storeCl rfl (.tmp 11) (.tmp 31) rfl w3.heap.size (clCells (dJ)) _ _ rfl rfl (blk_new w3 _) (cl_size _) rfl (cl_one _) ?_)
  intro w4 hwx
  have hNx : w4.heap[w3.heap.size]? = some (clB (dJ)) := by rw [hwx.out]; exact setRow_heap _ _ _ _ _ _ (blk_new w3 _)
  have hb4 : Below w3.heap.size w3 w4 := by rw [hwx.out]; exact ((Below.refl _ _).alloc (Nat.le_refl _) _).trans ((keep_setRow' w3.heap.size _ _ _).below (Nat.le_refl _))
  have HT4 := hide (HT3.out.below hb4)
  have HN4 := hide hNx
  clear hwx hNx hb4
  have hnv : w4.cell? ⟨w3.heap.size, 0, none⟩ = some (.bool false) := by rw [cell_of_blk HN4.out 0, cl_never]; exact congrArg (fun b => some (Value.bool b)) H_hJ.out
  have cnn : w4.cell? ⟨w.heap.size + 1, 3, none⟩ = some (.int .i64 xn) := cell_of_blk HT4.out.B 3
  go_wp2_with (first | (refine wpList_load_row rfl 135 (.tmp 11) rfl w3.heap.size rfl _ _ _ _ HN4.out Tryz.underlying135 rfl (by kernel_rfl) ?_) | (refine wpList_buildEx rfl (.tmp 37) (.tmp 38) xn (dJ) rfl rfl rfl ?_) | (refine wpList_buildSliceEx rfl (.tmp 39) xn (dJ) rfl rfl ?_))
  clear hnv cnn
  intro w5 hwx
  have hsx := HT4.out.b.size
  have hsy : w5.heap.size = w4.heap.size + 1 := by rw [hwx.out]; simp
  have hst := HT4.out.s3'
  have HCAT := hide (exC_at _ _ hwx.out)
  have hb5 : Below w4.heap.size w4 w5 := by rw [hwx.out]; exact (Below.refl _ _).alloc (Nat.le_refl _) _
  have HT5 := hide (HT4.out.below hb5)
  clear hwx hb5
  go_wp2_with (at_builtin; refine wpList_append_own _ rfl (.tmp 35) (.tmp 40) 240 rfl (w.heap.size + 3) 243 i0 _ 26 152 Tryz.underlying240 HI.out HI0.out HI1.out HI2.out rfl (by decide) (.slice none 0 0) 0 ([]) rfl (own_none _ _) ⟨w4.heap.size, 0, none⟩ 1 1 (exC xn (dJ)) rfl (exC_len _ _) HCAT.out (exC_one _ _) (by unfold maxLen; omega) (by omega) (by omega) ?_)
  intro v6 w6 hownx hgrow _
  have hb6 : Below w5.heap.size w5 w6 := Below.grown (Below.refl _ _) hgrow (Nat.le_refl _) (by intro g hg; simp [Value.ownBlock] at hg)
  have HT6 := hide (HT5.out.below hb6)
  have HO6 := hide (show w6.ownsRow (w.heap.size + 3) 243 26 v6 1 (exC xn (dJ)) from hownx)
  clear hownx hgrow hb6 HCAT hsx hsy hst
  go_wp2
  go_ret
  exact ⟨_, rfl, HO6.out, HT6.out.b⟩
set_option maxRecDepth 100000 in
set_option maxHeartbeats 4000000 in
theorem Exits_gen_00 (n p t : ByteArray) (fl : Bool) (f4 : FuncId) (b4 : Array Value) (f5 : FuncId) (b5 : Array Value) (at_ : Nat) (hat : at_ < 1000) (c : Cl) (hcn : c.never = false) (x : Ln) (r s : Nat) (hx : x.r = (r : Int)) (hy : x.s = (s : Int)) (hr : r < 8) (hs : s < 8) (w : World) (f6 : FuncId) (hent6 : ∀ (args : Array Value) (w : World), (callFunc f6 args).run Tryz.prog w = .ok (.enter f6 args) w) (b6 : Array Value) (f7 : FuncId) (hent7 : ∀ (args : Array Value) (w : World), (callFunc f7 args).run Tryz.prog w = .ok (.enter f7 args) w) (b7 : Array Value) (dN dJ : Cl) (hN : dN.never = true) (hJ : dJ.never = true) (hF6 : ∀ W : World, Below w.heap.size w W → Calls Tryz.prog f6 (#[.agg (clCells c), .agg (lnArr x)] ++ b6) W fun e w' => e = .returned (.agg (clCells dN)) ∧ Below W.heap.size W w') (hF7 : ∀ W : World, Below w.heap.size w W → Calls Tryz.prog f7 (#[.agg (clCells c), .agg (lnArr x)] ++ b7) W fun e w' => e = .returned (.agg (clCells dJ)) ∧ Below W.heap.size W w') :
    Calls Tryz.prog 191 #[.agg #[.string n, .string p, .string t, .bool fl, .func (.func f4) #[] b4, .func (.func f5) #[] b5, .func (.func f6) #[] b6, .func (.func f7) #[] b7], .int .i64 at_, .agg (lnArr x), .agg (clCells c)] w
      fun e w' => ∃ v, e = .returned v ∧ w'.ownsRow (w.heap.size + 3) 243 26 v 0 ([]) ∧ Below w.heap.size w w' := by
  obtain ⟨wd, xr, xs, xn⟩ := x
  subst hx hy
  have H_hF6 := hide hF6
  clear hF6
  have H_hF7 := hide hF7
  clear hF7
  have H_hN := hide hN
  clear hN
  have H_hJ := hide hJ
  clear hJ
  obtain ⟨i0, hi, hz0, hz1, hz2⟩ := info_parts infoEx
  have HI := hide hi
  have HI0 := hide hz0
  have HI1 := hide hz1
  have HI2 := hide hz2
  clear hi hz0 hz1 hz2
  have hw0 := wlc_mk w (.cells #[.string n, .string p, .string t, .bool fl, .func (.func f4) #[] b4, .func (.func f5) #[] b5, .func (.func f6) #[] b6, .func (.func f7) #[] b7] 140) ⟨wd, r, s, xn⟩ c
  unfold lnArr
  go_enter Tryz.func191, Tryz.ntmps191
  go_upto_region 2 with fail
  change Code.wp _ _ _ _ (((w.alloc (.cells #[.string n, .string p, .string t, .bool fl, .func (.func f4) #[] b4, .func (.func f5) #[] b5, .func (.func f6) #[] b6, .func (.func f7) #[] b7] 140)).alloc (lnB ⟨wd, r, s, xn⟩)).alloc (clB c))
  generalize ((w.alloc (.cells #[.string n, .string p, .string t, .bool fl, .func (.func f4) #[] b4, .func (.func f5) #[] b5, .func (.func f6) #[] b6, .func (.func f7) #[] b7] 140)).alloc (lnB ⟨wd, r, s, xn⟩)).alloc (clB c) = w0 at *
  have HT0 := hide hw0
  clear hw0
  have cn0 : w0.cell? ⟨w.heap.size, 6, none⟩ = some (.func (.func f6) #[] b6) := cell_of_blk HT0.out.A 6
  go_wp2_with (first | (refine wpList_load_row rfl 135 (.tmp 7) rfl (w.heap.size + 1 + 1) rfl _ _ _ _ HT0.out.C Tryz.underlying135 rfl (by kernel_rfl) ?_) | (refine wpList_load_row rfl 122 (.tmp 6) rfl (w.heap.size + 1) rfl _ _ _ _ HT0.out.B Tryz.underlying122 rfl (by kernel_rfl) ?_))
  refine (H_hF6.out _ HT0.out.b).mono ?_
  rintro e w1 ⟨rfl, hbx⟩
  have hb1 : Below w0.heap.size w0 w1 := hbx
  have HT1 := hide (HT0.out.below hb1)
  clear hbx hb1 cn0
  go_wp2_with (refine wpList_storeCl rfl (.tmp 10) (.tmp 16) rfl w1.heap.size (clCells (dN)) _ _ rfl rfl (blk_new w1 _) (cl_size _) rfl (cl_one _) ?_)
  intro w2 hwx
  have hNx : w2.heap[w1.heap.size]? = some (clB (dN)) := by rw [hwx.out]; exact setRow_heap _ _ _ _ _ _ (blk_new w1 _)
  have hb2 : Below w1.heap.size w1 w2 := by rw [hwx.out]; exact ((Below.refl _ _).alloc (Nat.le_refl _) _).trans ((keep_setRow' w1.heap.size _ _ _).below (Nat.le_refl _))
  have HT2 := hide (HT1.out.below hb2)
  have HN2 := hide hNx
  clear hwx hNx hb2
  have hnv : w2.cell? ⟨w1.heap.size, 0, none⟩ = some (.bool true) := by rw [cell_of_blk HN2.out 0, cl_never]; exact congrArg (fun b => some (Value.bool b)) H_hN.out
  have cn2 : w2.cell? ⟨w.heap.size, 7, none⟩ = some (.func (.func f7) #[] b7) := cell_of_blk HT2.out.A 7
  go_wp2_with (first | (refine wpList_load_row rfl 135 (.tmp 7) rfl (w.heap.size + 1 + 1) rfl _ _ _ _ HT2.out.C Tryz.underlying135 rfl (by kernel_rfl) ?_) | (refine wpList_load_row rfl 122 (.tmp 6) rfl (w.heap.size + 1) rfl _ _ _ _ HT2.out.B Tryz.underlying122 rfl (by kernel_rfl) ?_))
  refine (H_hF7.out _ HT2.out.b).mono ?_
  rintro e w3 ⟨rfl, hbx⟩
  have hb3 : Below w2.heap.size w2 w3 := hbx
  have HT3 := hide (HT2.out.below hb3)
  clear hbx hb3 cn2
  go_wp2_with (refine wpList_storeCl rfl (.tmp 11) (.tmp 31) rfl w3.heap.size (clCells (dJ)) _ _ rfl rfl (blk_new w3 _) (cl_size _) rfl (cl_one _) ?_)
  intro w4 hwx
  have hNx : w4.heap[w3.heap.size]? = some (clB (dJ)) := by rw [hwx.out]; exact setRow_heap _ _ _ _ _ _ (blk_new w3 _)
  have hb4 : Below w3.heap.size w3 w4 := by rw [hwx.out]; exact ((Below.refl _ _).alloc (Nat.le_refl _) _).trans ((keep_setRow' w3.heap.size _ _ _).below (Nat.le_refl _))
  have HT4 := hide (HT3.out.below hb4)
  have HN4 := hide hNx
  clear hwx hNx hb4
  have hnv : w4.cell? ⟨w3.heap.size, 0, none⟩ = some (.bool true) := by rw [cell_of_blk HN4.out 0, cl_never]; exact congrArg (fun b => some (Value.bool b)) H_hJ.out
  go_wp2
  go_ret
  exact ⟨_, rfl, own_none _ _, HT4.out.b⟩
end Go.Proofs.YtngopilbpiplhaaGreatDoor
