/-
  The document's own answer: what is claimed behind a line (more words).
  The document's own answer: what is claimed behind a line (more words).
  The document's own answer: what is claimed behind a line (more words).
-/
import Derived.Test.YtngopilbpiplhaaGreatDoorZRfZ0
namespace Go.Proofs.YtngopilbpiplhaaGreatDoor
open Go.RowKit
set_option linter.unusedVariables false
set_option linter.unusedSimpArgs false
set_option maxRecDepth 100000 in
set_option maxHeartbeats 8000000 in
theorem rbehind_2 (c : Cl) (r s : Nat) (hr : r < 8) (hs : s < 8) (n l : Int) (hp : POk c) (w : World) : Calls Tryz.prog 170 #[.agg (rcCells c), .agg (rlCells 2 r s n l)] w fun e w' => e = .returned (.agg (rcCells (nextR 2 c r s n))) ∧ Below w.heap.size w w' := by
  have hrI : (r : Int) < 8 := by omega
  have hsI : (s : Int) < 8 := by omega
  have h1 := rc_lo c r hr
  have h2 := rc_hi c r hr
  have h3 := rc_lo c s hs
  have h4 := rc_hi c s hs
  have H0 := rb_mk w c 2 r s n l
  have HN : Hid (nextR 2 c r s n = c.with_ r (rsp2 (rangeF (c.lo r + c.lo s)) (rangeF (c.hi r + c.hi s))).1 (rsp2 (rangeF (c.lo r + c.lo s)) (rangeF (c.hi r + c.hi s))).2) := hide (by have e := next_add c ⟨(2 : Int), (r : Int), (s : Int), n⟩ hp; simp only [Int.toNat_natCast] at e; exact e)
  have i1 : In64 (c.lo r) := by have := hp r; unfold SpOk at this; unfold In64; omega
  have i2 : In64 (c.hi r) := by have := hp r; unfold SpOk at this; unfold In64; omega
  have i3 : In64 (c.lo s) := by have := hp s; unfold SpOk at this; unfold In64; omega
  have i4 : In64 (c.hi s) := by have := hp s; unfold SpOk at this; unfold In64; omega
  show Calls Tryz.prog 170 #[.agg (rcCells c), .agg #[.string ⟨#[97, 100, 100]⟩, .int .i64 r, .int .i64 s, .int .i64 n, .int .i64 l]] w _
  go_enter Tryz.func170, Tryz.ntmps170
  go_wp2_with fail
  refine (radd_any (c.lo r) (c.lo s) i1 i3 _).mono ?_
  rintro e w0a ⟨rfl, hwa⟩
  have H0a : RB w c 2 r s n l 0 0 false false w0a := by rw [hwa]; exact H0
  clear hwa H0 h1 h2 h3 h4
  have HP0 := hide H0a
  clear H0a
  generalize hg0 : rangeF (c.lo r + c.lo s) = p0 at *
  clear hg0
  go_wp2_with fail
  refine (rwith_first _ 0 0 false _ _ _ HP0.out.D).mono ?_
  rintro e w1 ⟨rfl, hD, hk⟩
  have HP1 := hide (HP0.out.with hD hk)
  clear hD hk HP0
  go_wp2_with fail
  refine (radd_any (c.hi r) (c.hi s) i2 i4 _).mono ?_
  rintro e w1a ⟨rfl, hwa⟩
  obtain rfl : w1a = w1 := hwa
  generalize hg1 : rangeF (c.hi r + c.hi s) = p1 at *
  clear hg1
  go_wp2_with fail
  refine (rwith_more _ _ _ _ _ _ _ HP1.out.D (by omega)).mono ?_
  rintro e w2 ⟨rfl, hD, hk⟩
  have HP2 := hide (HP1.out.with hD hk)
  clear hD hk HP1
  cases hk : (p0.2 && p1.2) with
  | false =>
    have d2 : w2.cell? ⟨w.heap.size + 1 + 1 + 1, 2, none⟩ = some (.bool false) := by have hd := cell_of_blk HP2.out.D 2; exact hd.trans (by show some (Value.bool (p0.2 && p1.2)) = _; rw [hk])
    have k8 : w2.cell? ⟨w.heap.size + 1, 1, none⟩ = some (.int .i64 (r : Int)) := cell_of_blk HP2.out.B 1
    have HNX := hide (rsp2_no hk)
    rw [HNX.out] at HN
    clear HNX
    go_wp2_with (refine wpList_load_row rfl 181 (.tmp 2) rfl w.heap.size rfl _ _ _ _ HP2.out.A Tryz.underlying181 rfl (by kernel_rfl) ?_)
    refine (rput_any c r hr (-9223372036854775808) (9223372036854775807) _).mono ?_
    rintro e wp ⟨rfl, hbp⟩
    have HP := hide (HP2.out.below hbp)
    clear hbp
    clear d2 k8
    go_wp2_with (refine wpList_storeRw rfl 181 (.tmp 4) (.tmp 235) rfl (w.heap.size + 1 + 1) (rcCells (c.with_ r (-9223372036854775808) 9223372036854775807)) _ rfl rfl HP.out.C (by kernel_rfl) rfl (rc_one _) ?_)
    intro v hv
    have hg : v.heap[w.heap.size + 1 + 1]? = some (rcB (c.with_ r (-9223372036854775808) 9223372036854775807)) := by rw [hv.out]; exact setRow_heap _ _ _ _ _ _ HP.out.C
    have hb : Below w.heap.size w v := by rw [hv.out]; exact HP.out.set _
    clear hv
    go_wp2
    exact bodyPost_ret (results_cell_row rfl _ _ (w.heap.size + 1 + 1) 181 _ _ _ rfl hg Tryz.underlying181 rfl (by kernel_rfl)) rfl ⟨by rw [HN.out], hb⟩
  | true =>
    have d2 : w2.cell? ⟨w.heap.size + 1 + 1 + 1, 2, none⟩ = some (.bool true) := by have hd := cell_of_blk HP2.out.D 2; exact hd.trans (by show some (Value.bool (p0.2 && p1.2)) = _; rw [hk])
    have HNX := hide (rsp2_yes hk)
    rw [HNX.out] at HN
    clear HNX
    go_wp2_with fail
    clear d2
    refine wp_region_held (S := RBx w c 2 r s n l (min p0.1 p1.1) (max p0.1 p1.1) (p0.2 && p1.2) true) mixed ?_
    have hb0 : Below w2.heap.size w2 { w2 with drawn := w2.drawn + 1 } := (Below.refl _ _).drew
    generalize ({ w2 with drawn := w2.drawn + 1 } : World) = w0 at *
    have HE0 := hide (HP2.out.below hb0)
    clear hb0
    refine hT 0 236 rfl rfl (by kernel_rfl) (fun _ _ _ h => h) (yields_row (by kernel_rfl) 181 (.tmp 2) rfl (w.heap.size) (by kernel_rfl) (rcCells c) _ _ (fun w' h => h.A) Tryz.underlying181 rfl (by kernel_rfl)) HE0.out.x ?_
    simp only [Act.put, zzA, zzB, zzC]
    refine hT 1 237 rfl rfl (by kernel_rfl) (fun _ _ _ h => h) (.inl ⟨by kernel_rfl, fun w' h => by go_simp; rfl⟩) HE0.out.x ?_
    simp only [Act.put, zzA, zzB, zzC]
    refine hT 2 238 rfl rfl (by kernel_rfl) (fun _ _ _ h => h) (.inl ⟨by kernel_rfl, fun w' h => by have hc : w'.cell? ⟨w.heap.size + 1, 1, none⟩ = some (.int .i64 (r : Int)) := cell_of_blk h.B 1; go_simp; rfl⟩) HE0.out.x ?_
    simp only [Act.put, zzA, zzB, zzC]
    refine hT 3 239 rfl rfl (by kernel_rfl) (fun _ _ _ h => h) (.inl ⟨by kernel_rfl, fun w' h => by go_simp; rfl⟩) HE0.out.x ?_
    simp only [Act.put, zzA, zzB, zzC]
    refine hT 4 240 rfl rfl (by kernel_rfl) (fun _ _ _ h => h) (.inl ⟨by kernel_rfl, fun w' h => by go_simp; rfl⟩) HE0.out.x ?_
    simp only [Act.put, zzA, zzB, zzC]
    refine hT 5 241 rfl rfl (by kernel_rfl) (fun _ _ _ h => h) (.inl ⟨by kernel_rfl, fun w' h => by go_simp; rfl⟩) HE0.out.x ?_
    simp only [Act.put, zzA, zzB, zzC]
    refine hT 6 242 rfl rfl (by kernel_rfl) (fun _ _ _ h => h) (.inl ⟨by kernel_rfl, fun w' h => by have hc : w'.cell? ⟨w.heap.size + 1 + 1 + 1, 0, none⟩ = some (.int .i64 (min p0.1 p1.1)) := cell_of_blk h.D 0; go_simp; rfl⟩) HE0.out.x ?_
    simp only [Act.put, zzA, zzB, zzC]
    refine hT 7 243 rfl rfl (by kernel_rfl) (fun _ _ _ h => h) (.inl ⟨by kernel_rfl, fun w' h => by go_simp; rfl⟩) HE0.out.x ?_
    simp only [Act.put, zzA, zzB, zzC]
    refine hT 8 244 rfl rfl (by kernel_rfl) (fun _ _ _ h => h) (.inl ⟨by kernel_rfl, fun w' h => by go_simp; rfl⟩) HE0.out.x ?_
    simp only [Act.put, zzA, zzB, zzC]
    refine hT 9 245 rfl rfl (by kernel_rfl) (fun _ _ _ h => h) (.inl ⟨by kernel_rfl, fun w' h => by go_simp; rfl⟩) HE0.out.x ?_
    simp only [Act.put, zzA, zzB, zzC]
    refine hT 10 246 rfl rfl (by kernel_rfl) (fun _ _ _ h => h) (.inl ⟨by kernel_rfl, fun w' h => by have hc : w'.cell? ⟨w.heap.size + 1 + 1 + 1, 1, none⟩ = some (.int .i64 (max p0.1 p1.1)) := cell_of_blk h.D 1; go_simp; rfl⟩) HE0.out.x ?_
    simp only [Act.put, zzA, zzB, zzC]
    refine held_call (i := 11) (some 247) (by kernel_rfl) rfl rfl (by kernel_rfl) (by go_simp; exact ⟨rfl, rfl⟩) ?_
    refine (rput_any c r hr (min p0.1 p1.1) (max p0.1 p1.1) _).mono ?_
    rintro e w9 ⟨rfl, hb9⟩
    have HE1 := hide (HE0.out.below hb9)
    clear hb9
    refine ⟨_, rfl, HE1.out.x, ?_⟩
    simp only [Act.put, zzA, zzB, zzC]
    refine held_storeRow (i := 12) 181 (.tmp 4) (.tmp 247) (w.heap.size + 1 + 1) (rcCells (c.with_ r (min p0.1 p1.1) (max p0.1 p1.1))) _ (by kernel_rfl) rfl (by kernel_rfl) rfl (by kernel_rfl) (by kernel_rfl) HE1.out.C (by kernel_rfl) rfl (rc_one _) (HE1.out.x.set _) rfl ?_
    intro v hv
    have hg : v.heap[w.heap.size + 1 + 1]? = some (rcB (c.with_ r (min p0.1 p1.1) (max p0.1 p1.1))) := by rw [hv.out]; exact setRow_heap _ _ _ _ _ _ HE1.out.C
    have hb : Below w.heap.size w v := by rw [hv.out]; exact HE1.out.set _
    clear hv
    refine wpAnyH_done (by kernel_rfl) ?_ _
    go_wp2
    exact bodyPost_ret (results_cell_row rfl _ _ (w.heap.size + 1 + 1) 181 _ _ _ rfl hg Tryz.underlying181 rfl (by kernel_rfl)) rfl ⟨by rw [HN.out], hb⟩
end Go.Proofs.YtngopilbpiplhaaGreatDoor

namespace Go.Proofs.YtngopilbpiplhaaGreatDoor
open Go.RowKit
set_option linter.unusedVariables false
set_option linter.unusedSimpArgs false
set_option maxRecDepth 100000 in
set_option maxHeartbeats 8000000 in
theorem rbehind_3 (c : Cl) (r s : Nat) (hr : r < 8) (hs : s < 8) (n l : Int) (hp : POk c) (w : World) : Calls Tryz.prog 170 #[.agg (rcCells c), .agg (rlCells 3 r s n l)] w fun e w' => e = .returned (.agg (rcCells (nextR 3 c r s n))) ∧ Below w.heap.size w w' := by
  have hrI : (r : Int) < 8 := by omega
  have hsI : (s : Int) < 8 := by omega
  have h1 := rc_lo c r hr
  have h2 := rc_hi c r hr
  have h3 := rc_lo c s hs
  have h4 := rc_hi c s hs
  have H0 := rb_mk w c 3 r s n l
  have HN : Hid (nextR 3 c r s n = c.with_ r (rsp2 (rangeF (c.lo r - c.hi s)) (rangeF (c.hi r - c.lo s))).1 (rsp2 (rangeF (c.lo r - c.hi s)) (rangeF (c.hi r - c.lo s))).2) := hide (by have e := next_sub c ⟨(3 : Int), (r : Int), (s : Int), n⟩ hp; simp only [Int.toNat_natCast] at e; exact e)
  have i1 : In64 (c.lo r) := by have := hp r; unfold SpOk at this; unfold In64; omega
  have i2 : In64 (c.hi r) := by have := hp r; unfold SpOk at this; unfold In64; omega
  have i3 : In64 (c.lo s) := by have := hp s; unfold SpOk at this; unfold In64; omega
  have i4 : In64 (c.hi s) := by have := hp s; unfold SpOk at this; unfold In64; omega
  show Calls Tryz.prog 170 #[.agg (rcCells c), .agg #[.string ⟨#[115, 117, 98]⟩, .int .i64 r, .int .i64 s, .int .i64 n, .int .i64 l]] w _
  go_enter Tryz.func170, Tryz.ntmps170
  go_wp2_with fail
  refine (rsub_any (c.lo r) (c.hi s) i1 i4 _).mono ?_
  rintro e w0a ⟨rfl, hwa⟩
  have H0a : RB w c 3 r s n l 0 0 false false w0a := by rw [hwa]; exact H0
  clear hwa H0 h1 h2 h3 h4
  have HP0 := hide H0a
  clear H0a
  generalize hg0 : rangeF (c.lo r - c.hi s) = p0 at *
  clear hg0
  go_wp2_with fail
  refine (rwith_first _ 0 0 false _ _ _ HP0.out.D).mono ?_
  rintro e w1 ⟨rfl, hD, hk⟩
  have HP1 := hide (HP0.out.with hD hk)
  clear hD hk HP0
  go_wp2_with fail
  refine (rsub_any (c.hi r) (c.lo s) i2 i3 _).mono ?_
  rintro e w1a ⟨rfl, hwa⟩
  obtain rfl : w1a = w1 := hwa
  generalize hg1 : rangeF (c.hi r - c.lo s) = p1 at *
  clear hg1
  go_wp2_with fail
  refine (rwith_more _ _ _ _ _ _ _ HP1.out.D (by omega)).mono ?_
  rintro e w2 ⟨rfl, hD, hk⟩
  have HP2 := hide (HP1.out.with hD hk)
  clear hD hk HP1
  cases hk : (p0.2 && p1.2) with
  | false =>
    have d2 : w2.cell? ⟨w.heap.size + 1 + 1 + 1, 2, none⟩ = some (.bool false) := by have hd := cell_of_blk HP2.out.D 2; exact hd.trans (by show some (Value.bool (p0.2 && p1.2)) = _; rw [hk])
    have k8 : w2.cell? ⟨w.heap.size + 1, 1, none⟩ = some (.int .i64 (r : Int)) := cell_of_blk HP2.out.B 1
    have HNX := hide (rsp2_no hk)
    rw [HNX.out] at HN
    clear HNX
    go_wp2_with (refine wpList_load_row rfl 181 (.tmp 2) rfl w.heap.size rfl _ _ _ _ HP2.out.A Tryz.underlying181 rfl (by kernel_rfl) ?_)
    refine (rput_any c r hr (-9223372036854775808) (9223372036854775807) _).mono ?_
    rintro e wp ⟨rfl, hbp⟩
    have HP := hide (HP2.out.below hbp)
    clear hbp
    clear d2 k8
    go_wp2_with (refine wpList_storeRw rfl 181 (.tmp 4) (.tmp 235) rfl (w.heap.size + 1 + 1) (rcCells (c.with_ r (-9223372036854775808) 9223372036854775807)) _ rfl rfl HP.out.C (by kernel_rfl) rfl (rc_one _) ?_)
    intro v hv
    have hg : v.heap[w.heap.size + 1 + 1]? = some (rcB (c.with_ r (-9223372036854775808) 9223372036854775807)) := by rw [hv.out]; exact setRow_heap _ _ _ _ _ _ HP.out.C
    have hb : Below w.heap.size w v := by rw [hv.out]; exact HP.out.set _
    clear hv
    go_wp2
    exact bodyPost_ret (results_cell_row rfl _ _ (w.heap.size + 1 + 1) 181 _ _ _ rfl hg Tryz.underlying181 rfl (by kernel_rfl)) rfl ⟨by rw [HN.out], hb⟩
  | true =>
    have d2 : w2.cell? ⟨w.heap.size + 1 + 1 + 1, 2, none⟩ = some (.bool true) := by have hd := cell_of_blk HP2.out.D 2; exact hd.trans (by show some (Value.bool (p0.2 && p1.2)) = _; rw [hk])
    have HNX := hide (rsp2_yes hk)
    rw [HNX.out] at HN
    clear HNX
    go_wp2_with fail
    clear d2
    refine wp_region_held (S := RBx w c 3 r s n l (min p0.1 p1.1) (max p0.1 p1.1) (p0.2 && p1.2) true) mixed ?_
    have hb0 : Below w2.heap.size w2 { w2 with drawn := w2.drawn + 1 } := (Below.refl _ _).drew
    generalize ({ w2 with drawn := w2.drawn + 1 } : World) = w0 at *
    have HE0 := hide (HP2.out.below hb0)
    clear hb0
    refine hT 0 236 rfl rfl (by kernel_rfl) (fun _ _ _ h => h) (yields_row (by kernel_rfl) 181 (.tmp 2) rfl (w.heap.size) (by kernel_rfl) (rcCells c) _ _ (fun w' h => h.A) Tryz.underlying181 rfl (by kernel_rfl)) HE0.out.x ?_
    simp only [Act.put, zzA, zzB, zzC]
    refine hT 1 237 rfl rfl (by kernel_rfl) (fun _ _ _ h => h) (.inl ⟨by kernel_rfl, fun w' h => by go_simp; rfl⟩) HE0.out.x ?_
    simp only [Act.put, zzA, zzB, zzC]
    refine hT 2 238 rfl rfl (by kernel_rfl) (fun _ _ _ h => h) (.inl ⟨by kernel_rfl, fun w' h => by have hc : w'.cell? ⟨w.heap.size + 1, 1, none⟩ = some (.int .i64 (r : Int)) := cell_of_blk h.B 1; go_simp; rfl⟩) HE0.out.x ?_
    simp only [Act.put, zzA, zzB, zzC]
    refine hT 3 239 rfl rfl (by kernel_rfl) (fun _ _ _ h => h) (.inl ⟨by kernel_rfl, fun w' h => by go_simp; rfl⟩) HE0.out.x ?_
    simp only [Act.put, zzA, zzB, zzC]
    refine hT 4 240 rfl rfl (by kernel_rfl) (fun _ _ _ h => h) (.inl ⟨by kernel_rfl, fun w' h => by go_simp; rfl⟩) HE0.out.x ?_
    simp only [Act.put, zzA, zzB, zzC]
    refine hT 5 241 rfl rfl (by kernel_rfl) (fun _ _ _ h => h) (.inl ⟨by kernel_rfl, fun w' h => by go_simp; rfl⟩) HE0.out.x ?_
    simp only [Act.put, zzA, zzB, zzC]
    refine hT 6 242 rfl rfl (by kernel_rfl) (fun _ _ _ h => h) (.inl ⟨by kernel_rfl, fun w' h => by have hc : w'.cell? ⟨w.heap.size + 1 + 1 + 1, 0, none⟩ = some (.int .i64 (min p0.1 p1.1)) := cell_of_blk h.D 0; go_simp; rfl⟩) HE0.out.x ?_
    simp only [Act.put, zzA, zzB, zzC]
    refine hT 7 243 rfl rfl (by kernel_rfl) (fun _ _ _ h => h) (.inl ⟨by kernel_rfl, fun w' h => by go_simp; rfl⟩) HE0.out.x ?_
    simp only [Act.put, zzA, zzB, zzC]
    refine hT 8 244 rfl rfl (by kernel_rfl) (fun _ _ _ h => h) (.inl ⟨by kernel_rfl, fun w' h => by go_simp; rfl⟩) HE0.out.x ?_
    simp only [Act.put, zzA, zzB, zzC]
    refine hT 9 245 rfl rfl (by kernel_rfl) (fun _ _ _ h => h) (.inl ⟨by kernel_rfl, fun w' h => by go_simp; rfl⟩) HE0.out.x ?_
    simp only [Act.put, zzA, zzB, zzC]
    refine hT 10 246 rfl rfl (by kernel_rfl) (fun _ _ _ h => h) (.inl ⟨by kernel_rfl, fun w' h => by have hc : w'.cell? ⟨w.heap.size + 1 + 1 + 1, 1, none⟩ = some (.int .i64 (max p0.1 p1.1)) := cell_of_blk h.D 1; go_simp; rfl⟩) HE0.out.x ?_
    simp only [Act.put, zzA, zzB, zzC]
    refine held_call (i := 11) (some 247) (by kernel_rfl) rfl rfl (by kernel_rfl) (by go_simp; exact ⟨rfl, rfl⟩) ?_
    refine (rput_any c r hr (min p0.1 p1.1) (max p0.1 p1.1) _).mono ?_
    rintro e w9 ⟨rfl, hb9⟩
    have HE1 := hide (HE0.out.below hb9)
    clear hb9
    refine ⟨_, rfl, HE1.out.x, ?_⟩
    simp only [Act.put, zzA, zzB, zzC]
    refine held_storeRow (i := 12) 181 (.tmp 4) (.tmp 247) (w.heap.size + 1 + 1) (rcCells (c.with_ r (min p0.1 p1.1) (max p0.1 p1.1))) _ (by kernel_rfl) rfl (by kernel_rfl) rfl (by kernel_rfl) (by kernel_rfl) HE1.out.C (by kernel_rfl) rfl (rc_one _) (HE1.out.x.set _) rfl ?_
    intro v hv
    have hg : v.heap[w.heap.size + 1 + 1]? = some (rcB (c.with_ r (min p0.1 p1.1) (max p0.1 p1.1))) := by rw [hv.out]; exact setRow_heap _ _ _ _ _ _ HE1.out.C
    have hb : Below w.heap.size w v := by rw [hv.out]; exact HE1.out.set _
    clear hv
    refine wpAnyH_done (by kernel_rfl) ?_ _
    go_wp2
    exact bodyPost_ret (results_cell_row rfl _ _ (w.heap.size + 1 + 1) 181 _ _ _ rfl hg Tryz.underlying181 rfl (by kernel_rfl)) rfl ⟨by rw [HN.out], hb⟩
end Go.Proofs.YtngopilbpiplhaaGreatDoor

namespace Go.Proofs.YtngopilbpiplhaaGreatDoor
open Go.RowKit
set_option linter.unusedVariables false
set_option linter.unusedSimpArgs false
set_option maxRecDepth 100000 in
set_option maxHeartbeats 8000000 in
theorem rbehind_4 (c : Cl) (r s : Nat) (hr : r < 8) (hs : s < 8) (n l : Int) (hp : POk c) (w : World) : Calls Tryz.prog 170 #[.agg (rcCells c), .agg (rlCells 4 r s n l)] w fun e w' => e = .returned (.agg (rcCells (nextR 4 c r s n))) ∧ Below w.heap.size w w' := by
  have hrI : (r : Int) < 8 := by omega
  have hsI : (s : Int) < 8 := by omega
  have h1 := rc_lo c r hr
  have h2 := rc_hi c r hr
  have h3 := rc_lo c s hs
  have h4 := rc_hi c s hs
  have H0 := rb_mk w c 4 r s n l
  have HN : Hid (nextR 4 c r s n = c.with_ r (rsp4 (rmulF (c.lo r) (c.lo s)) (rmulF (c.lo r) (c.hi s)) (rmulF (c.hi r) (c.lo s)) (rmulF (c.hi r) (c.hi s))).1 (rsp4 (rmulF (c.lo r) (c.lo s)) (rmulF (c.lo r) (c.hi s)) (rmulF (c.hi r) (c.lo s)) (rmulF (c.hi r) (c.hi s))).2) := hide (by have e := next_mul c ⟨(4 : Int), (r : Int), (s : Int), n⟩ hp; simp only [Int.toNat_natCast] at e; exact e)
  have i1 : In64 (c.lo r) := by have := hp r; unfold SpOk at this; unfold In64; omega
  have i2 : In64 (c.hi r) := by have := hp r; unfold SpOk at this; unfold In64; omega
  have i3 : In64 (c.lo s) := by have := hp s; unfold SpOk at this; unfold In64; omega
  have i4 : In64 (c.hi s) := by have := hp s; unfold SpOk at this; unfold In64; omega
  show Calls Tryz.prog 170 #[.agg (rcCells c), .agg #[.string ⟨#[109, 117, 108]⟩, .int .i64 r, .int .i64 s, .int .i64 n, .int .i64 l]] w _
  go_enter Tryz.func170, Tryz.ntmps170
  go_wp2_with fail
  refine (rmul_any (c.lo r) (c.lo s)  _).mono ?_
  rintro e w0a ⟨rfl, hwa⟩
  have H0a : RB w c 4 r s n l 0 0 false false w0a := H0.below hwa
  clear hwa H0 h1 h2 h3 h4
  have HP0 := hide H0a
  clear H0a
  generalize hg0 : rmulF (c.lo r) (c.lo s) = p0 at *
  clear hg0
  go_wp2_with fail
  refine (rwith_first _ 0 0 false _ _ _ HP0.out.D).mono ?_
  rintro e w1 ⟨rfl, hD, hk⟩
  have HP1 := hide (HP0.out.with hD hk)
  clear hD hk HP0
  go_wp2_with fail
  refine (rmul_any (c.lo r) (c.hi s)  _).mono ?_
  rintro e w1a ⟨rfl, hwa⟩
  have HQ := hide (HP1.out.below hwa)
  clear hwa HP1
  have HP1 := HQ
  clear HQ
  generalize hg1 : rmulF (c.lo r) (c.hi s) = p1 at *
  clear hg1
  go_wp2_with fail
  refine (rwith_more _ _ _ _ _ _ _ HP1.out.D (by omega)).mono ?_
  rintro e w2 ⟨rfl, hD, hk⟩
  have HP2 := hide (HP1.out.with hD hk)
  clear hD hk HP1
  go_wp2_with fail
  refine (rmul_any (c.hi r) (c.lo s)  _).mono ?_
  rintro e w2a ⟨rfl, hwa⟩
  have HQ := hide (HP2.out.below hwa)
  clear hwa HP2
  have HP2 := HQ
  clear HQ
  generalize hg2 : rmulF (c.hi r) (c.lo s) = p2 at *
  clear hg2
  go_wp2_with fail
  refine (rwith_more _ _ _ _ _ _ _ HP2.out.D (by omega)).mono ?_
  rintro e w3 ⟨rfl, hD, hk⟩
  have HP3 := hide (HP2.out.with hD hk)
  clear hD hk HP2
  go_wp2_with fail
  refine (rmul_any (c.hi r) (c.hi s)  _).mono ?_
  rintro e w3a ⟨rfl, hwa⟩
  have HQ := hide (HP3.out.below hwa)
  clear hwa HP3
  have HP3 := HQ
  clear HQ
  generalize hg3 : rmulF (c.hi r) (c.hi s) = p3 at *
  clear hg3
  go_wp2_with fail
  refine (rwith_more _ _ _ _ _ _ _ HP3.out.D (by omega)).mono ?_
  rintro e w4 ⟨rfl, hD, hk⟩
  have HP4 := hide (HP3.out.with hD hk)
  clear hD hk HP3
  cases hk : (p0.2 && p1.2 && p2.2 && p3.2) with
  | false =>
    have d2 : w4.cell? ⟨w.heap.size + 1 + 1 + 1, 2, none⟩ = some (.bool false) := by have hd := cell_of_blk HP4.out.D 2; exact hd.trans (by show some (Value.bool (p0.2 && p1.2 && p2.2 && p3.2)) = _; rw [hk])
    have k8 : w4.cell? ⟨w.heap.size + 1, 1, none⟩ = some (.int .i64 (r : Int)) := cell_of_blk HP4.out.B 1
    have HNX := hide (rsp4_no hk)
    rw [HNX.out] at HN
    clear HNX
    go_wp2_with (refine wpList_load_row rfl 181 (.tmp 2) rfl w.heap.size rfl _ _ _ _ HP4.out.A Tryz.underlying181 rfl (by kernel_rfl) ?_)
    refine (rput_any c r hr (-9223372036854775808) (9223372036854775807) _).mono ?_
    rintro e wp ⟨rfl, hbp⟩
    have HP := hide (HP4.out.below hbp)
    clear hbp
    clear d2 k8
    go_wp2_with (refine wpList_storeRw rfl 181 (.tmp 4) (.tmp 235) rfl (w.heap.size + 1 + 1) (rcCells (c.with_ r (-9223372036854775808) 9223372036854775807)) _ rfl rfl HP.out.C (by kernel_rfl) rfl (rc_one _) ?_)
    intro v hv
    have hg : v.heap[w.heap.size + 1 + 1]? = some (rcB (c.with_ r (-9223372036854775808) 9223372036854775807)) := by rw [hv.out]; exact setRow_heap _ _ _ _ _ _ HP.out.C
    have hb : Below w.heap.size w v := by rw [hv.out]; exact HP.out.set _
    clear hv
    go_wp2
    exact bodyPost_ret (results_cell_row rfl _ _ (w.heap.size + 1 + 1) 181 _ _ _ rfl hg Tryz.underlying181 rfl (by kernel_rfl)) rfl ⟨by rw [HN.out], hb⟩
  | true =>
    have d2 : w4.cell? ⟨w.heap.size + 1 + 1 + 1, 2, none⟩ = some (.bool true) := by have hd := cell_of_blk HP4.out.D 2; exact hd.trans (by show some (Value.bool (p0.2 && p1.2 && p2.2 && p3.2)) = _; rw [hk])
    have HNX := hide (rsp4_yes hk)
    rw [HNX.out] at HN
    clear HNX
    rw [hk] at HP4
    clear hk
    generalize min (min (min p0.1 p1.1) p2.1) p3.1 = LO at *
    generalize max (max (max p0.1 p1.1) p2.1) p3.1 = HI at *
    go_wp2_with fail
    clear d2
    refine wp_region_held (S := RBx w c 4 r s n l (LO) (HI) (true) true) mixed ?_
    have hb0 : Below w4.heap.size w4 { w4 with drawn := w4.drawn + 1 } := (Below.refl _ _).drew
    generalize ({ w4 with drawn := w4.drawn + 1 } : World) = w0 at *
    have HE0 := hide (HP4.out.below hb0)
    clear hb0
    refine hT 0 236 rfl rfl (by kernel_rfl) (fun _ _ _ h => h) (yields_row (by kernel_rfl) 181 (.tmp 2) rfl (w.heap.size) (by kernel_rfl) (rcCells c) _ _ (fun w' h => h.A) Tryz.underlying181 rfl (by kernel_rfl)) HE0.out.x ?_
    simp only [Act.put, zzA, zzB, zzC]
    refine hT 1 237 rfl rfl (by kernel_rfl) (fun _ _ _ h => h) (.inl ⟨by kernel_rfl, fun w' h => by go_simp; rfl⟩) HE0.out.x ?_
    simp only [Act.put, zzA, zzB, zzC]
    refine hT 2 238 rfl rfl (by kernel_rfl) (fun _ _ _ h => h) (.inl ⟨by kernel_rfl, fun w' h => by have hc : w'.cell? ⟨w.heap.size + 1, 1, none⟩ = some (.int .i64 (r : Int)) := cell_of_blk h.B 1; go_simp; rfl⟩) HE0.out.x ?_
    simp only [Act.put, zzA, zzB, zzC]
    refine hT 3 239 rfl rfl (by kernel_rfl) (fun _ _ _ h => h) (.inl ⟨by kernel_rfl, fun w' h => by go_simp; rfl⟩) HE0.out.x ?_
    simp only [Act.put, zzA, zzB, zzC]
    refine hT 4 240 rfl rfl (by kernel_rfl) (fun _ _ _ h => h) (.inl ⟨by kernel_rfl, fun w' h => by go_simp; rfl⟩) HE0.out.x ?_
    simp only [Act.put, zzA, zzB, zzC]
    refine hT 5 241 rfl rfl (by kernel_rfl) (fun _ _ _ h => h) (.inl ⟨by kernel_rfl, fun w' h => by go_simp; rfl⟩) HE0.out.x ?_
    simp only [Act.put, zzA, zzB, zzC]
    refine hT 6 242 rfl rfl (by kernel_rfl) (fun _ _ _ h => h) (.inl ⟨by kernel_rfl, fun w' h => by have hc : w'.cell? ⟨w.heap.size + 1 + 1 + 1, 0, none⟩ = some (.int .i64 (LO)) := cell_of_blk h.D 0; go_simp; rfl⟩) HE0.out.x ?_
    simp only [Act.put, zzA, zzB, zzC]
    refine hT 7 243 rfl rfl (by kernel_rfl) (fun _ _ _ h => h) (.inl ⟨by kernel_rfl, fun w' h => by go_simp; rfl⟩) HE0.out.x ?_
    simp only [Act.put, zzA, zzB, zzC]
    refine hT 8 244 rfl rfl (by kernel_rfl) (fun _ _ _ h => h) (.inl ⟨by kernel_rfl, fun w' h => by go_simp; rfl⟩) HE0.out.x ?_
    simp only [Act.put, zzA, zzB, zzC]
    refine hT 9 245 rfl rfl (by kernel_rfl) (fun _ _ _ h => h) (.inl ⟨by kernel_rfl, fun w' h => by go_simp; rfl⟩) HE0.out.x ?_
    simp only [Act.put, zzA, zzB, zzC]
    refine hT 10 246 rfl rfl (by kernel_rfl) (fun _ _ _ h => h) (.inl ⟨by kernel_rfl, fun w' h => by have hc : w'.cell? ⟨w.heap.size + 1 + 1 + 1, 1, none⟩ = some (.int .i64 (HI)) := cell_of_blk h.D 1; go_simp; rfl⟩) HE0.out.x ?_
    simp only [Act.put, zzA, zzB, zzC]
    refine held_call (i := 11) (some 247) (by kernel_rfl) rfl rfl (by kernel_rfl) (by go_simp; exact ⟨rfl, rfl⟩) ?_
    refine (rput_any c r hr (LO) (HI) _).mono ?_
    rintro e w9 ⟨rfl, hb9⟩
    have HE1 := hide (HE0.out.below hb9)
    clear hb9
    refine ⟨_, rfl, HE1.out.x, ?_⟩
    simp only [Act.put, zzA, zzB, zzC]
    refine held_storeRow (i := 12) 181 (.tmp 4) (.tmp 247) (w.heap.size + 1 + 1) (rcCells (c.with_ r (LO) (HI))) _ (by kernel_rfl) rfl (by kernel_rfl) rfl (by kernel_rfl) (by kernel_rfl) HE1.out.C (by kernel_rfl) rfl (rc_one _) (HE1.out.x.set _) rfl ?_
    intro v hv
    have hg : v.heap[w.heap.size + 1 + 1]? = some (rcB (c.with_ r (LO) (HI))) := by rw [hv.out]; exact setRow_heap _ _ _ _ _ _ HE1.out.C
    have hb : Below w.heap.size w v := by rw [hv.out]; exact HE1.out.set _
    clear hv
    refine wpAnyH_done (by kernel_rfl) ?_ _
    go_wp2
    exact bodyPost_ret (results_cell_row rfl _ _ (w.heap.size + 1 + 1) 181 _ _ _ rfl hg Tryz.underlying181 rfl (by kernel_rfl)) rfl ⟨by rw [HN.out], hb⟩
end Go.Proofs.YtngopilbpiplhaaGreatDoor
