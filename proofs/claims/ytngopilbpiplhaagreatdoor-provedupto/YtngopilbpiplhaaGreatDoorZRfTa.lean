/-
  The document's own answer: what is claimed behind a line (more words).
-/
import Derived.Test.YtngopilbpiplhaaGreatDoorZRfZ0
namespace Go.Proofs.YtngopilbpiplhaaGreatDoor
open Go.RowKit
set_option linter.unusedVariables false
set_option linter.unusedSimpArgs false
set_option maxRecDepth 100000 in
set_option maxHeartbeats 8000000 in
theorem rbehind_0 (c : Cl) (r s : Nat) (hr : r < 8) (hs : s < 8) (n l : Int) (hp : POk c) (w : World) : Calls Tryz.prog 170 #[.agg (rcCells c), .agg (rlCells 0 r s n l)] w fun e w' => e = .returned (.agg (rcCells (nextR 0 c r s n))) ∧ Below w.heap.size w w' := by
  have hrI : (r : Int) < 8 := by omega
  have hsI : (s : Int) < 8 := by omega
  have h1 := rc_lo c r hr
  have h2 := rc_hi c r hr
  have h3 := rc_lo c s hs
  have h4 := rc_hi c s hs
  have H0 := rb_mk w c 0 r s n l
  have HN : Hid (nextR 0 c r s n = c.with_ r n n) := hide (by rfl)
  show Calls Tryz.prog 170 #[.agg (rcCells c), .agg #[.string ⟨#[115, 101, 116]⟩, .int .i64 r, .int .i64 s, .int .i64 n, .int .i64 l]] w _
  go_enter Tryz.func170, Tryz.ntmps170
  go_wp2_with (refine wpList_load_row rfl 181 (.tmp 2) rfl w.heap.size rfl _ _ _ _ H0.A Tryz.underlying181 rfl (by kernel_rfl) ?_)
  refine (rput_any c r hr (n) (n) _).mono ?_
  rintro e wp ⟨rfl, hbp⟩
  have HP := hide (H0.below hbp)
  clear hbp
  clear h1 h2 h3 h4 H0
  go_wp2_with (refine wpList_storeRw rfl 181 (.tmp 4) (.tmp 52) rfl (w.heap.size + 1 + 1) (rcCells (c.with_ r n n)) _ rfl rfl HP.out.C (by kernel_rfl) rfl (rc_one _) ?_)
  intro v hv
  have hg : v.heap[w.heap.size + 1 + 1]? = some (rcB (c.with_ r n n)) := by rw [hv.out]; exact setRow_heap _ _ _ _ _ _ HP.out.C
  have hb : Below w.heap.size w v := by rw [hv.out]; exact HP.out.set _
  clear hv
  go_wp2
  exact bodyPost_ret (results_cell_row rfl _ _ (w.heap.size + 1 + 1) 181 _ _ _ rfl hg Tryz.underlying181 rfl (by kernel_rfl)) rfl ⟨by rw [HN.out], hb⟩
set_option maxRecDepth 100000 in
set_option maxHeartbeats 8000000 in
theorem rbehind_1 (c : Cl) (r s : Nat) (hr : r < 8) (hs : s < 8) (n l : Int) (hp : POk c) (w : World) : Calls Tryz.prog 170 #[.agg (rcCells c), .agg (rlCells 1 r s n l)] w fun e w' => e = .returned (.agg (rcCells (nextR 1 c r s n))) ∧ Below w.heap.size w w' := by
  have hrI : (r : Int) < 8 := by omega
  have hsI : (s : Int) < 8 := by omega
  have h1 := rc_lo c r hr
  have h2 := rc_hi c r hr
  have h3 := rc_lo c s hs
  have h4 := rc_hi c s hs
  have H0 := rb_mk w c 1 r s n l
  have HN : Hid (nextR 1 c r s n = c.with_ r (c.lo s) (c.hi s)) := hide (by rfl)
  show Calls Tryz.prog 170 #[.agg (rcCells c), .agg #[.string ⟨#[109, 111, 118]⟩, .int .i64 r, .int .i64 s, .int .i64 n, .int .i64 l]] w _
  go_enter Tryz.func170, Tryz.ntmps170
  go_wp2_with (refine wpList_load_row rfl 181 (.tmp 2) rfl w.heap.size rfl _ _ _ _ H0.A Tryz.underlying181 rfl (by kernel_rfl) ?_)
  refine (rput_any c r hr (c.lo s) (c.hi s) _).mono ?_
  rintro e wp ⟨rfl, hbp⟩
  have HP := hide (H0.below hbp)
  clear hbp
  clear h1 h2 h3 h4 H0
  go_wp2_with (refine wpList_storeRw rfl 181 (.tmp 4) (.tmp 60) rfl (w.heap.size + 1 + 1) (rcCells (c.with_ r (c.lo s) (c.hi s))) _ rfl rfl HP.out.C (by kernel_rfl) rfl (rc_one _) ?_)
  intro v hv
  have hg : v.heap[w.heap.size + 1 + 1]? = some (rcB (c.with_ r (c.lo s) (c.hi s))) := by rw [hv.out]; exact setRow_heap _ _ _ _ _ _ HP.out.C
  have hb : Below w.heap.size w v := by rw [hv.out]; exact HP.out.set _
  clear hv
  go_wp2
  exact bodyPost_ret (results_cell_row rfl _ _ (w.heap.size + 1 + 1) 181 _ _ _ rfl hg Tryz.underlying181 rfl (by kernel_rfl)) rfl ⟨by rw [HN.out], hb⟩
set_option maxRecDepth 100000 in
set_option maxHeartbeats 8000000 in
theorem rbehind_5 (c : Cl) (r s : Nat) (hr : r < 8) (hs : s < 8) (n l : Int) (hp : POk c) (w : World) : Calls Tryz.prog 170 #[.agg (rcCells c), .agg (rlCells 5 r s n l)] w fun e w' => e = .returned (.agg (rcCells (nextR 5 c r s n))) ∧ Below w.heap.size w w' := by
  have hrI : (r : Int) < 8 := by omega
  have hsI : (s : Int) < 8 := by omega
  have h1 := rc_lo c r hr
  have h2 := rc_hi c r hr
  have h3 := rc_lo c s hs
  have h4 := rc_hi c s hs
  have H0 := rb_mk w c 5 r s n l
  have HN : Hid (nextR 5 c r s n = c.with_ r (andSp (c.lo r) (c.hi r) (c.lo s) (c.hi s)).1 (andSp (c.lo r) (c.hi r) (c.lo s) (c.hi s)).2) := hide (by rfl)
  by_cases q1 : 0 ≤ c.lo r
  · by_cases q2 : 0 ≤ c.lo s
    · have HN : Hid (nextR 5 c r s n = c.with_ r 0 (min (c.hi r) (c.hi s))) := hide (by rw [HN.out]; unfold andSp; rw [if_pos ⟨q1, q2⟩])
      show Calls Tryz.prog 170 #[.agg (rcCells c), .agg #[.string ⟨#[97, 110, 100]⟩, .int .i64 r, .int .i64 s, .int .i64 n, .int .i64 l]] w _
      go_enter Tryz.func170, Tryz.ntmps170
      go_wp2_with fail
      change Code.wp _ _ _ _ ((((w.alloc (rcB c)).alloc (rlB 5 r s n l)).alloc (rcB clNone)).alloc (snB 0 0 false false))
      generalize (((w.alloc (rcB c)).alloc (rlB 5 r s n l)).alloc (rcB clNone)).alloc (snB 0 0 false false) = W at *
      have HP0 := hide H0
      clear H0 h1 h2 h3 h4
      refine wp_region_held (S := RBx w c 5 r s n l 0 0 false false) mixed ?_
      have hb0 : Below W.heap.size W { W with drawn := W.drawn + 1 } := (Below.refl _ _).drew
      generalize ({ W with drawn := W.drawn + 1 } : World) = w0 at *
      have HE0 := hide (HP0.out.below hb0)
      clear hb0
      refine hT 0 197 rfl rfl (by kernel_rfl) (fun _ _ _ h => h) (yields_row (by kernel_rfl) 181 (.tmp 2) rfl (w.heap.size) (by kernel_rfl) (rcCells c) _ _ (fun w' h => h.A) Tryz.underlying181 rfl (by kernel_rfl)) HE0.out.x ?_
      simp only [Act.put, zzA, zzB, zzC]
      refine hT 1 198 rfl rfl (by kernel_rfl) (fun _ _ _ h => h) (.inl ⟨by kernel_rfl, fun w' h => by go_simp; rfl⟩) HE0.out.x ?_
      simp only [Act.put, zzA, zzB, zzC]
      refine hT 2 199 rfl rfl (by kernel_rfl) (fun _ _ _ h => h) (.inl ⟨by kernel_rfl, fun w' h => by have hc : w'.cell? ⟨w.heap.size + 1, 1, none⟩ = some (.int .i64 (r : Int)) := cell_of_blk h.B 1; go_simp; rfl⟩) HE0.out.x ?_
      simp only [Act.put, zzA, zzB, zzC]
      refine hT 3 200 rfl rfl (by kernel_rfl) (fun _ _ _ h => h) (.inl ⟨by kernel_rfl, fun w' h => by go_simp; rfl⟩) HE0.out.x ?_
      simp only [Act.put, zzA, zzB, zzC]
      refine hT 4 201 rfl rfl (by kernel_rfl) (fun _ _ _ h => h) (.inl ⟨by kernel_rfl, fun w' h => by go_simp; rfl⟩) HE0.out.x ?_
      simp only [Act.put, zzA, zzB, zzC]
      refine held_call (i := 5) (some 202) (by kernel_rfl) rfl rfl (by kernel_rfl) (by go_simp; exact ⟨rfl, rfl⟩) ?_
      refine (least_any (c.hi r) (c.hi s) _).mono ?_
      rintro e w8 ⟨rfl, hw8⟩
      obtain rfl := hw8.symm
      refine ⟨_, rfl, HE0.out.x, ?_⟩
      simp only [Act.put, zzA, zzB, zzC]
      refine held_call (i := 6) (some 203) (by kernel_rfl) rfl rfl (by kernel_rfl) (by go_simp; exact ⟨rfl, rfl⟩) ?_
      refine (rput_any c r hr 0 (min (c.hi r) (c.hi s)) _).mono ?_
      rintro e w9 ⟨rfl, hb9⟩
      have HE1 := hide (HE0.out.below hb9)
      clear hb9
      refine ⟨_, rfl, HE1.out.x, ?_⟩
      simp only [Act.put, zzA, zzB, zzC]
      refine held_storeRow (i := 7) 181 (.tmp 4) (.tmp 203) (w.heap.size + 1 + 1) (rcCells (c.with_ r 0 (min (c.hi r) (c.hi s)))) _ (by kernel_rfl) rfl (by kernel_rfl) rfl (by kernel_rfl) (by kernel_rfl) HE1.out.C (by kernel_rfl) rfl (rc_one _) (HE1.out.x.set _) rfl ?_
      intro v hv
      have hg : v.heap[w.heap.size + 1 + 1]? = some (rcB (c.with_ r 0 (min (c.hi r) (c.hi s)))) := by rw [hv.out]; exact setRow_heap _ _ _ _ _ _ HE1.out.C
      have hb : Below w.heap.size w v := by rw [hv.out]; exact HE1.out.set _
      clear hv
      refine wpAnyH_done (by kernel_rfl) ?_ _
      go_wp2
      exact bodyPost_ret (results_cell_row rfl _ _ (w.heap.size + 1 + 1) 181 _ _ _ rfl hg Tryz.underlying181 rfl (by kernel_rfl)) rfl ⟨by rw [HN.out], hb⟩
    · have HN : Hid (nextR 5 c r s n = c.with_ r 0 (c.hi r)) := hide (by rw [HN.out]; unfold andSp; rw [if_neg (fun h => q2 h.2), if_pos q1])
      show Calls Tryz.prog 170 #[.agg (rcCells c), .agg #[.string ⟨#[97, 110, 100]⟩, .int .i64 r, .int .i64 s, .int .i64 n, .int .i64 l]] w _
      go_enter Tryz.func170, Tryz.ntmps170
      go_wp2_with (refine wpList_load_row rfl 181 (.tmp 2) rfl w.heap.size rfl _ _ _ _ H0.A Tryz.underlying181 rfl (by kernel_rfl) ?_)
      refine (rput_any c r hr (0) (c.hi r) _).mono ?_
      rintro e wp ⟨rfl, hbp⟩
      have HP := hide (H0.below hbp)
      clear hbp
      clear h1 h2 h3 h4 H0
      go_wp2_with (refine wpList_storeRw rfl 181 (.tmp 4) (.tmp 210) rfl (w.heap.size + 1 + 1) (rcCells (c.with_ r 0 (c.hi r))) _ rfl rfl HP.out.C (by kernel_rfl) rfl (rc_one _) ?_)
      intro v hv
      have hg : v.heap[w.heap.size + 1 + 1]? = some (rcB (c.with_ r 0 (c.hi r))) := by rw [hv.out]; exact setRow_heap _ _ _ _ _ _ HP.out.C
      have hb : Below w.heap.size w v := by rw [hv.out]; exact HP.out.set _
      clear hv
      go_wp2
      exact bodyPost_ret (results_cell_row rfl _ _ (w.heap.size + 1 + 1) 181 _ _ _ rfl hg Tryz.underlying181 rfl (by kernel_rfl)) rfl ⟨by rw [HN.out], hb⟩
  · by_cases q2 : 0 ≤ c.lo s
    · have HN : Hid (nextR 5 c r s n = c.with_ r 0 (c.hi s)) := hide (by rw [HN.out]; unfold andSp; rw [if_neg (fun h => q1 h.1), if_neg q1, if_pos q2])
      show Calls Tryz.prog 170 #[.agg (rcCells c), .agg #[.string ⟨#[97, 110, 100]⟩, .int .i64 r, .int .i64 s, .int .i64 n, .int .i64 l]] w _
      go_enter Tryz.func170, Tryz.ntmps170
      go_wp2_with (refine wpList_load_row rfl 181 (.tmp 2) rfl w.heap.size rfl _ _ _ _ H0.A Tryz.underlying181 rfl (by kernel_rfl) ?_)
      refine (rput_any c r hr (0) (c.hi s) _).mono ?_
      rintro e wp ⟨rfl, hbp⟩
      have HP := hide (H0.below hbp)
      clear hbp
      clear h1 h2 h3 h4 H0
      go_wp2_with (refine wpList_storeRw rfl 181 (.tmp 4) (.tmp 217) rfl (w.heap.size + 1 + 1) (rcCells (c.with_ r 0 (c.hi s))) _ rfl rfl HP.out.C (by kernel_rfl) rfl (rc_one _) ?_)
      intro v hv
      have hg : v.heap[w.heap.size + 1 + 1]? = some (rcB (c.with_ r 0 (c.hi s))) := by rw [hv.out]; exact setRow_heap _ _ _ _ _ _ HP.out.C
      have hb : Below w.heap.size w v := by rw [hv.out]; exact HP.out.set _
      clear hv
      go_wp2
      exact bodyPost_ret (results_cell_row rfl _ _ (w.heap.size + 1 + 1) 181 _ _ _ rfl hg Tryz.underlying181 rfl (by kernel_rfl)) rfl ⟨by rw [HN.out], hb⟩
    · have HN : Hid (nextR 5 c r s n = c.with_ r (-9223372036854775808) 9223372036854775807) := hide (by rw [HN.out]; unfold andSp; rw [if_neg (fun h => q1 h.1), if_neg q1, if_neg q2])
      show Calls Tryz.prog 170 #[.agg (rcCells c), .agg #[.string ⟨#[97, 110, 100]⟩, .int .i64 r, .int .i64 s, .int .i64 n, .int .i64 l]] w _
      go_enter Tryz.func170, Tryz.ntmps170
      go_wp2_with (refine wpList_load_row rfl 181 (.tmp 2) rfl w.heap.size rfl _ _ _ _ H0.A Tryz.underlying181 rfl (by kernel_rfl) ?_)
      refine (rput_any c r hr (-9223372036854775808) (9223372036854775807) _).mono ?_
      rintro e wp ⟨rfl, hbp⟩
      have HP := hide (H0.below hbp)
      clear hbp
      clear h1 h2 h3 h4 H0
      go_wp2_with (refine wpList_storeRw rfl 181 (.tmp 4) (.tmp 235) rfl (w.heap.size + 1 + 1) (rcCells (c.with_ r (-9223372036854775808) 9223372036854775807)) _ rfl rfl HP.out.C (by kernel_rfl) rfl (rc_one _) ?_)
      intro v hv
      have hg : v.heap[w.heap.size + 1 + 1]? = some (rcB (c.with_ r (-9223372036854775808) 9223372036854775807)) := by rw [hv.out]; exact setRow_heap _ _ _ _ _ _ HP.out.C
      have hb : Below w.heap.size w v := by rw [hv.out]; exact HP.out.set _
      clear hv
      go_wp2
      exact bodyPost_ret (results_cell_row rfl _ _ (w.heap.size + 1 + 1) 181 _ _ _ rfl hg Tryz.underlying181 rfl (by kernel_rfl)) rfl ⟨by rw [HN.out], hb⟩
set_option maxRecDepth 100000 in
set_option maxHeartbeats 8000000 in
theorem rbehind_7 (c : Cl) (r s : Nat) (hr : r < 8) (hs : s < 8) (n l : Int) (hp : POk c) (w : World) : Calls Tryz.prog 170 #[.agg (rcCells c), .agg (rlCells 7 r s n l)] w fun e w' => e = .returned (.agg (rcCells (nextR 7 c r s n))) ∧ Below w.heap.size w w' := by
  have hrI : (r : Int) < 8 := by omega
  have hsI : (s : Int) < 8 := by omega
  have h1 := rc_lo c r hr
  have h2 := rc_hi c r hr
  have h3 := rc_lo c s hs
  have h4 := rc_hi c s hs
  have H0 := rb_mk w c 7 r s n l
  have HN : Hid (nextR 7 c r s n = c.with_ r 0 255) := hide (by rfl)
  show Calls Tryz.prog 170 #[.agg (rcCells c), .agg #[.string ⟨#[105, 110]⟩, .int .i64 r, .int .i64 s, .int .i64 n, .int .i64 l]] w _
  go_enter Tryz.func170, Tryz.ntmps170
  go_wp2_with (refine wpList_load_row rfl 181 (.tmp 2) rfl w.heap.size rfl _ _ _ _ H0.A Tryz.underlying181 rfl (by kernel_rfl) ?_)
  refine (rput_any c r hr (0) (255) _).mono ?_
  rintro e wp ⟨rfl, hbp⟩
  have HP := hide (H0.below hbp)
  clear hbp
  clear h1 h2 h3 h4 H0
  go_wp2_with (refine wpList_storeRw rfl 181 (.tmp 4) (.tmp 223) rfl (w.heap.size + 1 + 1) (rcCells (c.with_ r 0 255)) _ rfl rfl HP.out.C (by kernel_rfl) rfl (rc_one _) ?_)
  intro v hv
  have hg : v.heap[w.heap.size + 1 + 1]? = some (rcB (c.with_ r 0 255)) := by rw [hv.out]; exact setRow_heap _ _ _ _ _ _ HP.out.C
  have hb : Below w.heap.size w v := by rw [hv.out]; exact HP.out.set _
  clear hv
  go_wp2
  exact bodyPost_ret (results_cell_row rfl _ _ (w.heap.size + 1 + 1) 181 _ _ _ rfl hg Tryz.underlying181 rfl (by kernel_rfl)) rfl ⟨by rw [HN.out], hb⟩
set_option maxRecDepth 100000 in
set_option maxHeartbeats 8000000 in
theorem rbehind_8 (c : Cl) (r s : Nat) (hr : r < 8) (hs : s < 8) (n l : Int) (hp : POk c) (w : World) : Calls Tryz.prog 170 #[.agg (rcCells c), .agg (rlCells 8 r s n l)] w fun e w' => e = .returned (.agg (rcCells (nextR 8 c r s n))) ∧ Below w.heap.size w w' := by
  have hrI : (r : Int) < 8 := by omega
  have hsI : (s : Int) < 8 := by omega
  have h1 := rc_lo c r hr
  have h2 := rc_hi c r hr
  have h3 := rc_lo c s hs
  have h4 := rc_hi c s hs
  have H0 := rb_mk w c 8 r s n l
  have HN : Hid (nextR 8 c r s n = c.with_ r (-9223372036854775808) 9223372036854775807) := hide (by rfl)
  show Calls Tryz.prog 170 #[.agg (rcCells c), .agg #[.string ⟨#[103, 101, 116]⟩, .int .i64 r, .int .i64 s, .int .i64 n, .int .i64 l]] w _
  go_enter Tryz.func170, Tryz.ntmps170
  go_wp2_with (refine wpList_load_row rfl 181 (.tmp 2) rfl w.heap.size rfl _ _ _ _ H0.A Tryz.underlying181 rfl (by kernel_rfl) ?_)
  refine (rput_any c r hr (-9223372036854775808) (9223372036854775807) _).mono ?_
  rintro e wp ⟨rfl, hbp⟩
  have HP := hide (H0.below hbp)
  clear hbp
  clear h1 h2 h3 h4 H0
  go_wp2_with (refine wpList_storeRw rfl 181 (.tmp 4) (.tmp 235) rfl (w.heap.size + 1 + 1) (rcCells (c.with_ r (-9223372036854775808) 9223372036854775807)) _ rfl rfl HP.out.C (by kernel_rfl) rfl (rc_one _) ?_)
  intro v hv
  have hg : v.heap[w.heap.size + 1 + 1]? = some (rcB (c.with_ r (-9223372036854775808) 9223372036854775807)) := by rw [hv.out]; exact setRow_heap _ _ _ _ _ _ HP.out.C
  have hb : Below w.heap.size w v := by rw [hv.out]; exact HP.out.set _
  clear hv
  go_wp2
  exact bodyPost_ret (results_cell_row rfl _ _ (w.heap.size + 1 + 1) 181 _ _ _ rfl hg Tryz.underlying181 rfl (by kernel_rfl)) rfl ⟨by rw [HN.out], hb⟩
set_option maxRecDepth 100000 in
set_option maxHeartbeats 8000000 in
theorem rbehind_9 (c : Cl) (r s : Nat) (hr : r < 8) (hs : s < 8) (n l : Int) (hp : POk c) (w : World) : Calls Tryz.prog 170 #[.agg (rcCells c), .agg (rlCells 9 r s n l)] w fun e w' => e = .returned (.agg (rcCells (nextR 9 c r s n))) ∧ Below w.heap.size w w' := by
  have hrI : (r : Int) < 8 := by omega
  have hsI : (s : Int) < 8 := by omega
  have h1 := rc_lo c r hr
  have h2 := rc_hi c r hr
  have h3 := rc_lo c s hs
  have h4 := rc_hi c s hs
  have H0 := rb_mk w c 9 r s n l
  have HN : Hid (nextR 9 c r s n = c) := hide (by rfl)
  show Calls Tryz.prog 170 #[.agg (rcCells c), .agg #[.string ⟨#[112, 117, 116]⟩, .int .i64 r, .int .i64 s, .int .i64 n, .int .i64 l]] w _
  go_enter Tryz.func170, Tryz.ntmps170
  have HP := hide H0
  clear H0
  go_wp2_with (first | (refine wpList_load_row rfl 181 (.tmp 2) rfl w.heap.size rfl _ _ _ _ HP.out.A Tryz.underlying181 rfl (by kernel_rfl) ?_) | (refine wpList_storeRw rfl 181 (.tmp 4) (.tmp 42) rfl (w.heap.size + 1 + 1) (rcCells c) _ rfl rfl HP.out.C (by kernel_rfl) rfl (rc_one _) ?_))
  intro v hv
  have hg : v.heap[w.heap.size + 1 + 1]? = some (rcB c) := by rw [hv.out]; exact setRow_heap _ _ _ _ _ _ HP.out.C
  have hb : Below w.heap.size w v := by rw [hv.out]; exact HP.out.set _
  clear hv h1 h2 h3 h4
  go_wp2
  exact bodyPost_ret (results_cell_row rfl _ _ (w.heap.size + 1 + 1) 181 _ _ _ rfl hg Tryz.underlying181 rfl (by kernel_rfl)) rfl ⟨by rw [HN.out], hb⟩
set_option maxRecDepth 100000 in
set_option maxHeartbeats 8000000 in
theorem rbehind_10 (c : Cl) (r s : Nat) (hr : r < 8) (hs : s < 8) (n l : Int) (hp : POk c) (w : World) : Calls Tryz.prog 170 #[.agg (rcCells c), .agg (rlCells 10 r s n l)] w fun e w' => e = .returned (.agg (rcCells (nextR 10 c r s n))) ∧ Below w.heap.size w w' := by
  have hrI : (r : Int) < 8 := by omega
  have hsI : (s : Int) < 8 := by omega
  have h1 := rc_lo c r hr
  have h2 := rc_hi c r hr
  have h3 := rc_lo c s hs
  have h4 := rc_hi c s hs
  have H0 := rb_mk w c 10 r s n l
  have HN : Hid (nextR 10 c r s n = c.with_ r (-9223372036854775808) 9223372036854775807) := hide (by rfl)
  show Calls Tryz.prog 170 #[.agg (rcCells c), .agg #[.string ⟨#[108, 111, 97, 100]⟩, .int .i64 r, .int .i64 s, .int .i64 n, .int .i64 l]] w _
  go_enter Tryz.func170, Tryz.ntmps170
  go_wp2_with (refine wpList_load_row rfl 181 (.tmp 2) rfl w.heap.size rfl _ _ _ _ H0.A Tryz.underlying181 rfl (by kernel_rfl) ?_)
  refine (rput_any c r hr (-9223372036854775808) (9223372036854775807) _).mono ?_
  rintro e wp ⟨rfl, hbp⟩
  have HP := hide (H0.below hbp)
  clear hbp
  clear h1 h2 h3 h4 H0
  go_wp2_with (refine wpList_storeRw rfl 181 (.tmp 4) (.tmp 235) rfl (w.heap.size + 1 + 1) (rcCells (c.with_ r (-9223372036854775808) 9223372036854775807)) _ rfl rfl HP.out.C (by kernel_rfl) rfl (rc_one _) ?_)
  intro v hv
  have hg : v.heap[w.heap.size + 1 + 1]? = some (rcB (c.with_ r (-9223372036854775808) 9223372036854775807)) := by rw [hv.out]; exact setRow_heap _ _ _ _ _ _ HP.out.C
  have hb : Below w.heap.size w v := by rw [hv.out]; exact HP.out.set _
  clear hv
  go_wp2
  exact bodyPost_ret (results_cell_row rfl _ _ (w.heap.size + 1 + 1) 181 _ _ _ rfl hg Tryz.underlying181 rfl (by kernel_rfl)) rfl ⟨by rw [HN.out], hb⟩
set_option maxRecDepth 100000 in
set_option maxHeartbeats 8000000 in
theorem rbehind_11 (c : Cl) (r s : Nat) (hr : r < 8) (hs : s < 8) (n l : Int) (hp : POk c) (w : World) : Calls Tryz.prog 170 #[.agg (rcCells c), .agg (rlCells 11 r s n l)] w fun e w' => e = .returned (.agg (rcCells (nextR 11 c r s n))) ∧ Below w.heap.size w w' := by
  have hrI : (r : Int) < 8 := by omega
  have hsI : (s : Int) < 8 := by omega
  have h1 := rc_lo c r hr
  have h2 := rc_hi c r hr
  have h3 := rc_lo c s hs
  have h4 := rc_hi c s hs
  have H0 := rb_mk w c 11 r s n l
  have HN : Hid (nextR 11 c r s n = c) := hide (by rfl)
  show Calls Tryz.prog 170 #[.agg (rcCells c), .agg #[.string ⟨#[107, 101, 101, 112]⟩, .int .i64 r, .int .i64 s, .int .i64 n, .int .i64 l]] w _
  go_enter Tryz.func170, Tryz.ntmps170
  have HP := hide H0
  clear H0
  go_wp2_with (first | (refine wpList_load_row rfl 181 (.tmp 2) rfl w.heap.size rfl _ _ _ _ HP.out.A Tryz.underlying181 rfl (by kernel_rfl) ?_) | (refine wpList_storeRw rfl 181 (.tmp 4) (.tmp 42) rfl (w.heap.size + 1 + 1) (rcCells c) _ rfl rfl HP.out.C (by kernel_rfl) rfl (rc_one _) ?_))
  intro v hv
  have hg : v.heap[w.heap.size + 1 + 1]? = some (rcB c) := by rw [hv.out]; exact setRow_heap _ _ _ _ _ _ HP.out.C
  have hb : Below w.heap.size w v := by rw [hv.out]; exact HP.out.set _
  clear hv h1 h2 h3 h4
  go_wp2
  exact bodyPost_ret (results_cell_row rfl _ _ (w.heap.size + 1 + 1) 181 _ _ _ rfl hg Tryz.underlying181 rfl (by kernel_rfl)) rfl ⟨by rw [HN.out], hb⟩
set_option maxRecDepth 100000 in
set_option maxHeartbeats 8000000 in
theorem rbehind_12 (c : Cl) (r s : Nat) (hr : r < 8) (hs : s < 8) (n l : Int) (hp : POk c) (w : World) : Calls Tryz.prog 170 #[.agg (rcCells c), .agg (rlCells 12 r s n l)] w fun e w' => e = .returned (.agg (rcCells (nextR 12 c r s n))) ∧ Below w.heap.size w w' := by
  have hrI : (r : Int) < 8 := by omega
  have hsI : (s : Int) < 8 := by omega
  have h1 := rc_lo c r hr
  have h2 := rc_hi c r hr
  have h3 := rc_lo c s hs
  have h4 := rc_hi c s hs
  have H0 := rb_mk w c 12 r s n l
  have HN : Hid (nextR 12 c r s n = c) := hide (by rfl)
  show Calls Tryz.prog 170 #[.agg (rcCells c), .agg #[.string ⟨#[111, 117, 116]⟩, .int .i64 r, .int .i64 s, .int .i64 n, .int .i64 l]] w _
  go_enter Tryz.func170, Tryz.ntmps170
  have HP := hide H0
  clear H0
  go_wp2_with (first | (refine wpList_load_row rfl 181 (.tmp 2) rfl w.heap.size rfl _ _ _ _ HP.out.A Tryz.underlying181 rfl (by kernel_rfl) ?_) | (refine wpList_storeRw rfl 181 (.tmp 4) (.tmp 42) rfl (w.heap.size + 1 + 1) (rcCells c) _ rfl rfl HP.out.C (by kernel_rfl) rfl (rc_one _) ?_))
  intro v hv
  have hg : v.heap[w.heap.size + 1 + 1]? = some (rcB c) := by rw [hv.out]; exact setRow_heap _ _ _ _ _ _ HP.out.C
  have hb : Below w.heap.size w v := by rw [hv.out]; exact HP.out.set _
  clear hv h1 h2 h3 h4
  go_wp2
  exact bodyPost_ret (results_cell_row rfl _ _ (w.heap.size + 1 + 1) 181 _ _ _ rfl hg Tryz.underlying181 rfl (by kernel_rfl)) rfl ⟨by rw [HN.out], hb⟩
end Go.Proofs.YtngopilbpiplhaaGreatDoor
