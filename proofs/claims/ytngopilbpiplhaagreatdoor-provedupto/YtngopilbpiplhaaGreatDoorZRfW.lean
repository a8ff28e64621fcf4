/-
  The document's own answer: the ways out of a line that goes on, of jmp and of end.
-/
import Derived.Test.YtngopilbpiplhaaGreatDoorZRfX
import Derived.Test.YtngopilbpiplhaaGreatDoorZRfTe
namespace Go.Proofs.YtngopilbpiplhaaGreatDoor
open Go.RowKit
set_option linter.unusedVariables false
set_option linter.unusedSimpArgs false
set_option maxRecDepth 100000 in
set_option maxHeartbeats 8000000 in
theorem rways_0 (c : Cl) (r s : Nat) (hr : r < 8) (hs : s < 8) (n l : Int) (at_ : Nat) (hat : at_ < 1000) (hp : POk c) (hm : metR 0 c r s = true) (w : World) : Calls Tryz.prog 114 #[.agg (rcCells c), .agg (rlCells 0 r s n l), .int .i64 (at_ : Int)] w fun e w' => ∃ v, e = .returned v ∧ w'.ownsRow (w.heap.size + 2) 190 26 v ([((at_ : Int) + 1, nextR 0 c r s n)]).length (wyL ([((at_ : Int) + 1, nextR 0 c r s n)])) ∧ Below w.heap.size w w' := by
  have hrI : (r : Int) < 8 := by omega
  have hsI : (s : Int) < 8 := by omega
  have h1 := rc_lo c r hr
  have h2 := rc_hi c r hr
  have h3 := rc_lo c s hs
  have h4 := rc_hi c s hs
  have H0 := rl_mk w c 0 r s n l
  show Calls Tryz.prog 114 #[.agg (rcCells c), .agg #[.string ⟨#[115, 101, 116]⟩, .int .i64 r, .int .i64 s, .int .i64 n, .int .i64 l], .int .i64 (at_ : Int)] w _
  go_enter Tryz.func114, Tryz.ntmps114
  go_wp2_with (first | (refine wpList_load_row rfl 181 (.tmp 3) rfl (w.heap.size) rfl _ _ _ _ H0.A Tryz.underlying181 rfl (by kernel_rfl) ?_) | (refine wpList_load_row rfl 185 (.tmp 4) rfl (w.heap.size + 1) rfl _ _ _ _ H0.B Tryz.underlying185 rfl (by kernel_rfl) ?_))
  refine (rbehind_any 0 (by omega) c r s hr hs n l hp hm _).mono ?_
  rintro e w1 ⟨rfl, hb1⟩
  have HR1 := hide (H0.below hb1)
  clear hb1 H0 h1 h2 h3 h4
  generalize hNN : nextR 0 c r s n = N at *
  have HNN := hide hNN
  clear hNN
  go_wp2_with (refine wpList_storeRw rfl 181 (.tmp 16) (.tmp 46) rfl w1.heap.size (rcCells N) _ rfl rfl (blk_new w1 _) (by kernel_rfl) rfl (rc_one _) ?_)
  intro w2 hw2
  have HN2 : Hid (w2.heap[w1.heap.size]? = some (rcB N)) := hide (by rw [hw2.out]; exact setRow_heap _ _ _ _ _ _ (blk_new w1 _))
  have HRL2 : Hid (RL w c 0 r s n l w2) := hide (by rw [hw2.out]; exact (HR1.out.alloc _).setRow _ (by have := HR1.out.s; omega) _)
  clear hw2 HR1
  go_wp2_with (first | (refine wpList_load_row rfl 181 (.tmp 16) rfl (w1.heap.size) rfl _ _ _ _ HN2.out Tryz.underlying181 rfl (by kernel_rfl) ?_) | (refine wpList_buildWy rfl (.tmp 49) (.tmp 50) ((at_ : Int) + 1) (N) rfl rfl rfl ?_) | (refine wpList_buildSliceWy rfl (.tmp 51) ((at_ : Int) + 1) (N) rfl rfl ?_))
  intro wb hwb
  have HRb : Hid (RL w c 0 r s n l wb) := hide (by rw [hwb.out]; exact HRL2.out.alloc _)
  have HNb : Hid (wb.heap[w2.heap.size]? = some (.cells (wyC ((at_ : Int) + 1) (N)).toArray 190)) := hide (by rw [hwb.out]; exact blk_new _ _)
  have HOb : Hid (wb.ownsRow (w.heap.size + 2) 190 26 (.slice none 0 0) 0 ([])) := hide (by rw [hwb.out]; exact ⟨rfl, .inl ⟨rfl, rfl⟩⟩)
  clear hwb
  go_wp2_with (first | (at_builtin; refine wpList_appG rfl (.tmp 47) (.tmp 52) 186 190 (.agg (wyC 0 clNone).toArray) 26 152 rfl infoWy Tryz.underlying186 rfl (by decide) (w.heap.size + 2) _ 0 ([]) rfl HOb (w2.heap.size) (wyC ((at_ : Int) + 1) (N)).toArray 190 rfl HNb.out rfl (wyC_one _ _) (by omega) (by omega) (by have := HRb.out.s; omega) ?_) | go_in)
  intro v2 w3 hO2 hG2
  have HR2 := hide (HRb.out.grown HOb.out hG2.out)
  clear hG2 HRb HNb HOb
  go_wp2
  go_ret
  exact ⟨_, rfl, by have h := hO2.out; rw [← HNN.out] at h; simpa [wyL] using h, HR2.out.b⟩
set_option maxRecDepth 100000 in
set_option maxHeartbeats 8000000 in
theorem rways_1 (c : Cl) (r s : Nat) (hr : r < 8) (hs : s < 8) (n l : Int) (at_ : Nat) (hat : at_ < 1000) (hp : POk c) (hm : metR 1 c r s = true) (w : World) : Calls Tryz.prog 114 #[.agg (rcCells c), .agg (rlCells 1 r s n l), .int .i64 (at_ : Int)] w fun e w' => ∃ v, e = .returned v ∧ w'.ownsRow (w.heap.size + 2) 190 26 v ([((at_ : Int) + 1, nextR 1 c r s n)]).length (wyL ([((at_ : Int) + 1, nextR 1 c r s n)])) ∧ Below w.heap.size w w' := by
  have hrI : (r : Int) < 8 := by omega
  have hsI : (s : Int) < 8 := by omega
  have h1 := rc_lo c r hr
  have h2 := rc_hi c r hr
  have h3 := rc_lo c s hs
  have h4 := rc_hi c s hs
  have H0 := rl_mk w c 1 r s n l
  show Calls Tryz.prog 114 #[.agg (rcCells c), .agg #[.string ⟨#[109, 111, 118]⟩, .int .i64 r, .int .i64 s, .int .i64 n, .int .i64 l], .int .i64 (at_ : Int)] w _
  go_enter Tryz.func114, Tryz.ntmps114
  go_wp2_with (first | (refine wpList_load_row rfl 181 (.tmp 3) rfl (w.heap.size) rfl _ _ _ _ H0.A Tryz.underlying181 rfl (by kernel_rfl) ?_) | (refine wpList_load_row rfl 185 (.tmp 4) rfl (w.heap.size + 1) rfl _ _ _ _ H0.B Tryz.underlying185 rfl (by kernel_rfl) ?_))
  refine (rbehind_any 1 (by omega) c r s hr hs n l hp hm _).mono ?_
  rintro e w1 ⟨rfl, hb1⟩
  have HR1 := hide (H0.below hb1)
  clear hb1 H0 h1 h2 h3 h4
  generalize hNN : nextR 1 c r s n = N at *
  have HNN := hide hNN
  clear hNN
  go_wp2_with (refine wpList_storeRw rfl 181 (.tmp 16) (.tmp 46) rfl w1.heap.size (rcCells N) _ rfl rfl (blk_new w1 _) (by kernel_rfl) rfl (rc_one _) ?_)
  intro w2 hw2
  have HN2 : Hid (w2.heap[w1.heap.size]? = some (rcB N)) := hide (by rw [hw2.out]; exact setRow_heap _ _ _ _ _ _ (blk_new w1 _))
  have HRL2 : Hid (RL w c 1 r s n l w2) := hide (by rw [hw2.out]; exact (HR1.out.alloc _).setRow _ (by have := HR1.out.s; omega) _)
  clear hw2 HR1
  go_wp2_with (first | (refine wpList_load_row rfl 181 (.tmp 16) rfl (w1.heap.size) rfl _ _ _ _ HN2.out Tryz.underlying181 rfl (by kernel_rfl) ?_) | (refine wpList_buildWy rfl (.tmp 49) (.tmp 50) ((at_ : Int) + 1) (N) rfl rfl rfl ?_) | (refine wpList_buildSliceWy rfl (.tmp 51) ((at_ : Int) + 1) (N) rfl rfl ?_))
  intro wb hwb
  have HRb : Hid (RL w c 1 r s n l wb) := hide (by rw [hwb.out]; exact HRL2.out.alloc _)
  have HNb : Hid (wb.heap[w2.heap.size]? = some (.cells (wyC ((at_ : Int) + 1) (N)).toArray 190)) := hide (by rw [hwb.out]; exact blk_new _ _)
  have HOb : Hid (wb.ownsRow (w.heap.size + 2) 190 26 (.slice none 0 0) 0 ([])) := hide (by rw [hwb.out]; exact ⟨rfl, .inl ⟨rfl, rfl⟩⟩)
  clear hwb
  go_wp2_with (first | (at_builtin; refine wpList_appG rfl (.tmp 47) (.tmp 52) 186 190 (.agg (wyC 0 clNone).toArray) 26 152 rfl infoWy Tryz.underlying186 rfl (by decide) (w.heap.size + 2) _ 0 ([]) rfl HOb (w2.heap.size) (wyC ((at_ : Int) + 1) (N)).toArray 190 rfl HNb.out rfl (wyC_one _ _) (by omega) (by omega) (by have := HRb.out.s; omega) ?_) | go_in)
  intro v2 w3 hO2 hG2
  have HR2 := hide (HRb.out.grown HOb.out hG2.out)
  clear hG2 HRb HNb HOb
  go_wp2
  go_ret
  exact ⟨_, rfl, by have h := hO2.out; rw [← HNN.out] at h; simpa [wyL] using h, HR2.out.b⟩
set_option maxRecDepth 100000 in
set_option maxHeartbeats 8000000 in
theorem rways_2 (c : Cl) (r s : Nat) (hr : r < 8) (hs : s < 8) (n l : Int) (at_ : Nat) (hat : at_ < 1000) (hp : POk c) (hm : metR 2 c r s = true) (w : World) : Calls Tryz.prog 114 #[.agg (rcCells c), .agg (rlCells 2 r s n l), .int .i64 (at_ : Int)] w fun e w' => ∃ v, e = .returned v ∧ w'.ownsRow (w.heap.size + 2) 190 26 v ([((at_ : Int) + 1, nextR 2 c r s n)]).length (wyL ([((at_ : Int) + 1, nextR 2 c r s n)])) ∧ Below w.heap.size w w' := by
  have hrI : (r : Int) < 8 := by omega
  have hsI : (s : Int) < 8 := by omega
  have h1 := rc_lo c r hr
  have h2 := rc_hi c r hr
  have h3 := rc_lo c s hs
  have h4 := rc_hi c s hs
  have H0 := rl_mk w c 2 r s n l
  show Calls Tryz.prog 114 #[.agg (rcCells c), .agg #[.string ⟨#[97, 100, 100]⟩, .int .i64 r, .int .i64 s, .int .i64 n, .int .i64 l], .int .i64 (at_ : Int)] w _
  go_enter Tryz.func114, Tryz.ntmps114
  go_wp2_with (first | (refine wpList_load_row rfl 181 (.tmp 3) rfl (w.heap.size) rfl _ _ _ _ H0.A Tryz.underlying181 rfl (by kernel_rfl) ?_) | (refine wpList_load_row rfl 185 (.tmp 4) rfl (w.heap.size + 1) rfl _ _ _ _ H0.B Tryz.underlying185 rfl (by kernel_rfl) ?_))
  refine (rbehind_any 2 (by omega) c r s hr hs n l hp hm _).mono ?_
  rintro e w1 ⟨rfl, hb1⟩
  have HR1 := hide (H0.below hb1)
  clear hb1 H0 h1 h2 h3 h4
  generalize hNN : nextR 2 c r s n = N at *
  have HNN := hide hNN
  clear hNN
  go_wp2_with (refine wpList_storeRw rfl 181 (.tmp 16) (.tmp 46) rfl w1.heap.size (rcCells N) _ rfl rfl (blk_new w1 _) (by kernel_rfl) rfl (rc_one _) ?_)
  intro w2 hw2
  have HN2 : Hid (w2.heap[w1.heap.size]? = some (rcB N)) := hide (by rw [hw2.out]; exact setRow_heap _ _ _ _ _ _ (blk_new w1 _))
  have HRL2 : Hid (RL w c 2 r s n l w2) := hide (by rw [hw2.out]; exact (HR1.out.alloc _).setRow _ (by have := HR1.out.s; omega) _)
  clear hw2 HR1
  go_wp2_with (first | (refine wpList_load_row rfl 181 (.tmp 16) rfl (w1.heap.size) rfl _ _ _ _ HN2.out Tryz.underlying181 rfl (by kernel_rfl) ?_) | (refine wpList_buildWy rfl (.tmp 49) (.tmp 50) ((at_ : Int) + 1) (N) rfl rfl rfl ?_) | (refine wpList_buildSliceWy rfl (.tmp 51) ((at_ : Int) + 1) (N) rfl rfl ?_))
  intro wb hwb
  have HRb : Hid (RL w c 2 r s n l wb) := hide (by rw [hwb.out]; exact HRL2.out.alloc _)
  have HNb : Hid (wb.heap[w2.heap.size]? = some (.cells (wyC ((at_ : Int) + 1) (N)).toArray 190)) := hide (by rw [hwb.out]; exact blk_new _ _)
  have HOb : Hid (wb.ownsRow (w.heap.size + 2) 190 26 (.slice none 0 0) 0 ([])) := hide (by rw [hwb.out]; exact ⟨rfl, .inl ⟨rfl, rfl⟩⟩)
  clear hwb
  go_wp2_with (first | (at_builtin; refine wpList_appG rfl (.tmp 47) (.tmp 52) 186 190 (.agg (wyC 0 clNone).toArray) 26 152 rfl infoWy Tryz.underlying186 rfl (by decide) (w.heap.size + 2) _ 0 ([]) rfl HOb (w2.heap.size) (wyC ((at_ : Int) + 1) (N)).toArray 190 rfl HNb.out rfl (wyC_one _ _) (by omega) (by omega) (by have := HRb.out.s; omega) ?_) | go_in)
  intro v2 w3 hO2 hG2
  have HR2 := hide (HRb.out.grown HOb.out hG2.out)
  clear hG2 HRb HNb HOb
  go_wp2
  go_ret
  exact ⟨_, rfl, by have h := hO2.out; rw [← HNN.out] at h; simpa [wyL] using h, HR2.out.b⟩
set_option maxRecDepth 100000 in
set_option maxHeartbeats 8000000 in
theorem rways_3 (c : Cl) (r s : Nat) (hr : r < 8) (hs : s < 8) (n l : Int) (at_ : Nat) (hat : at_ < 1000) (hp : POk c) (hm : metR 3 c r s = true) (w : World) : Calls Tryz.prog 114 #[.agg (rcCells c), .agg (rlCells 3 r s n l), .int .i64 (at_ : Int)] w fun e w' => ∃ v, e = .returned v ∧ w'.ownsRow (w.heap.size + 2) 190 26 v ([((at_ : Int) + 1, nextR 3 c r s n)]).length (wyL ([((at_ : Int) + 1, nextR 3 c r s n)])) ∧ Below w.heap.size w w' := by
  have hrI : (r : Int) < 8 := by omega
  have hsI : (s : Int) < 8 := by omega
  have h1 := rc_lo c r hr
  have h2 := rc_hi c r hr
  have h3 := rc_lo c s hs
  have h4 := rc_hi c s hs
  have H0 := rl_mk w c 3 r s n l
  show Calls Tryz.prog 114 #[.agg (rcCells c), .agg #[.string ⟨#[115, 117, 98]⟩, .int .i64 r, .int .i64 s, .int .i64 n, .int .i64 l], .int .i64 (at_ : Int)] w _
  go_enter Tryz.func114, Tryz.ntmps114
  go_wp2_with (first | (refine wpList_load_row rfl 181 (.tmp 3) rfl (w.heap.size) rfl _ _ _ _ H0.A Tryz.underlying181 rfl (by kernel_rfl) ?_) | (refine wpList_load_row rfl 185 (.tmp 4) rfl (w.heap.size + 1) rfl _ _ _ _ H0.B Tryz.underlying185 rfl (by kernel_rfl) ?_))
  refine (rbehind_any 3 (by omega) c r s hr hs n l hp hm _).mono ?_
  rintro e w1 ⟨rfl, hb1⟩
  have HR1 := hide (H0.below hb1)
  clear hb1 H0 h1 h2 h3 h4
  generalize hNN : nextR 3 c r s n = N at *
  have HNN := hide hNN
  clear hNN
  go_wp2_with (refine wpList_storeRw rfl 181 (.tmp 16) (.tmp 46) rfl w1.heap.size (rcCells N) _ rfl rfl (blk_new w1 _) (by kernel_rfl) rfl (rc_one _) ?_)
  intro w2 hw2
  have HN2 : Hid (w2.heap[w1.heap.size]? = some (rcB N)) := hide (by rw [hw2.out]; exact setRow_heap _ _ _ _ _ _ (blk_new w1 _))
  have HRL2 : Hid (RL w c 3 r s n l w2) := hide (by rw [hw2.out]; exact (HR1.out.alloc _).setRow _ (by have := HR1.out.s; omega) _)
  clear hw2 HR1
  go_wp2_with (first | (refine wpList_load_row rfl 181 (.tmp 16) rfl (w1.heap.size) rfl _ _ _ _ HN2.out Tryz.underlying181 rfl (by kernel_rfl) ?_) | (refine wpList_buildWy rfl (.tmp 49) (.tmp 50) ((at_ : Int) + 1) (N) rfl rfl rfl ?_) | (refine wpList_buildSliceWy rfl (.tmp 51) ((at_ : Int) + 1) (N) rfl rfl ?_))
  intro wb hwb
  have HRb : Hid (RL w c 3 r s n l wb) := hide (by rw [hwb.out]; exact HRL2.out.alloc _)
  have HNb : Hid (wb.heap[w2.heap.size]? = some (.cells (wyC ((at_ : Int) + 1) (N)).toArray 190)) := hide (by rw [hwb.out]; exact blk_new _ _)
  have HOb : Hid (wb.ownsRow (w.heap.size + 2) 190 26 (.slice none 0 0) 0 ([])) := hide (by rw [hwb.out]; exact ⟨rfl, .inl ⟨rfl, rfl⟩⟩)
  clear hwb
  go_wp2_with (first | (at_builtin; refine wpList_appG rfl (.tmp 47) (.tmp 52) 186 190 (.agg (wyC 0 clNone).toArray) 26 152 rfl infoWy Tryz.underlying186 rfl (by decide) (w.heap.size + 2) _ 0 ([]) rfl HOb (w2.heap.size) (wyC ((at_ : Int) + 1) (N)).toArray 190 rfl HNb.out rfl (wyC_one _ _) (by omega) (by omega) (by have := HRb.out.s; omega) ?_) | go_in)
  intro v2 w3 hO2 hG2
  have HR2 := hide (HRb.out.grown HOb.out hG2.out)
  clear hG2 HRb HNb HOb
  go_wp2
  go_ret
  exact ⟨_, rfl, by have h := hO2.out; rw [← HNN.out] at h; simpa [wyL] using h, HR2.out.b⟩
set_option maxRecDepth 100000 in
set_option maxHeartbeats 8000000 in
theorem rways_4 (c : Cl) (r s : Nat) (hr : r < 8) (hs : s < 8) (n l : Int) (at_ : Nat) (hat : at_ < 1000) (hp : POk c) (hm : metR 4 c r s = true) (w : World) : Calls Tryz.prog 114 #[.agg (rcCells c), .agg (rlCells 4 r s n l), .int .i64 (at_ : Int)] w fun e w' => ∃ v, e = .returned v ∧ w'.ownsRow (w.heap.size + 2) 190 26 v ([((at_ : Int) + 1, nextR 4 c r s n)]).length (wyL ([((at_ : Int) + 1, nextR 4 c r s n)])) ∧ Below w.heap.size w w' := by
  have hrI : (r : Int) < 8 := by omega
  have hsI : (s : Int) < 8 := by omega
  have h1 := rc_lo c r hr
  have h2 := rc_hi c r hr
  have h3 := rc_lo c s hs
  have h4 := rc_hi c s hs
  have H0 := rl_mk w c 4 r s n l
  show Calls Tryz.prog 114 #[.agg (rcCells c), .agg #[.string ⟨#[109, 117, 108]⟩, .int .i64 r, .int .i64 s, .int .i64 n, .int .i64 l], .int .i64 (at_ : Int)] w _
  go_enter Tryz.func114, Tryz.ntmps114
  go_wp2_with (first | (refine wpList_load_row rfl 181 (.tmp 3) rfl (w.heap.size) rfl _ _ _ _ H0.A Tryz.underlying181 rfl (by kernel_rfl) ?_) | (refine wpList_load_row rfl 185 (.tmp 4) rfl (w.heap.size + 1) rfl _ _ _ _ H0.B Tryz.underlying185 rfl (by kernel_rfl) ?_))
  refine (rbehind_any 4 (by omega) c r s hr hs n l hp hm _).mono ?_
  rintro e w1 ⟨rfl, hb1⟩
  have HR1 := hide (H0.below hb1)
  clear hb1 H0 h1 h2 h3 h4
  generalize hNN : nextR 4 c r s n = N at *
  have HNN := hide hNN
  clear hNN
  go_wp2_with (refine wpList_storeRw rfl 181 (.tmp 16) (.tmp 46) rfl w1.heap.size (rcCells N) _ rfl rfl (blk_new w1 _) (by kernel_rfl) rfl (rc_one _) ?_)
  intro w2 hw2
  have HN2 : Hid (w2.heap[w1.heap.size]? = some (rcB N)) := hide (by rw [hw2.out]; exact setRow_heap _ _ _ _ _ _ (blk_new w1 _))
  have HRL2 : Hid (RL w c 4 r s n l w2) := hide (by rw [hw2.out]; exact (HR1.out.alloc _).setRow _ (by have := HR1.out.s; omega) _)
  clear hw2 HR1
  go_wp2_with (first | (refine wpList_load_row rfl 181 (.tmp 16) rfl (w1.heap.size) rfl _ _ _ _ HN2.out Tryz.underlying181 rfl (by kernel_rfl) ?_) | (refine wpList_buildWy rfl (.tmp 49) (.tmp 50) ((at_ : Int) + 1) (N) rfl rfl rfl ?_) | (refine wpList_buildSliceWy rfl (.tmp 51) ((at_ : Int) + 1) (N) rfl rfl ?_))
  intro wb hwb
  have HRb : Hid (RL w c 4 r s n l wb) := hide (by rw [hwb.out]; exact HRL2.out.alloc _)
  have HNb : Hid (wb.heap[w2.heap.size]? = some (.cells (wyC ((at_ : Int) + 1) (N)).toArray 190)) := hide (by rw [hwb.out]; exact blk_new _ _)
  have HOb : Hid (wb.ownsRow (w.heap.size + 2) 190 26 (.slice none 0 0) 0 ([])) := hide (by rw [hwb.out]; exact ⟨rfl, .inl ⟨rfl, rfl⟩⟩)
  clear hwb
  go_wp2_with (first | (at_builtin; refine wpList_appG rfl (.tmp 47) (.tmp 52) 186 190 (.agg (wyC 0 clNone).toArray) 26 152 rfl infoWy Tryz.underlying186 rfl (by decide) (w.heap.size + 2) _ 0 ([]) rfl HOb (w2.heap.size) (wyC ((at_ : Int) + 1) (N)).toArray 190 rfl HNb.out rfl (wyC_one _ _) (by omega) (by omega) (by have := HRb.out.s; omega) ?_) | go_in)
  intro v2 w3 hO2 hG2
  have HR2 := hide (HRb.out.grown HOb.out hG2.out)
  clear hG2 HRb HNb HOb
  go_wp2
  go_ret
  exact ⟨_, rfl, by have h := hO2.out; rw [← HNN.out] at h; simpa [wyL] using h, HR2.out.b⟩
set_option maxRecDepth 100000 in
set_option maxHeartbeats 8000000 in
theorem rways_5 (c : Cl) (r s : Nat) (hr : r < 8) (hs : s < 8) (n l : Int) (at_ : Nat) (hat : at_ < 1000) (hp : POk c) (hm : metR 5 c r s = true) (w : World) : Calls Tryz.prog 114 #[.agg (rcCells c), .agg (rlCells 5 r s n l), .int .i64 (at_ : Int)] w fun e w' => ∃ v, e = .returned v ∧ w'.ownsRow (w.heap.size + 2) 190 26 v ([((at_ : Int) + 1, nextR 5 c r s n)]).length (wyL ([((at_ : Int) + 1, nextR 5 c r s n)])) ∧ Below w.heap.size w w' := by
  have hrI : (r : Int) < 8 := by omega
  have hsI : (s : Int) < 8 := by omega
  have h1 := rc_lo c r hr
  have h2 := rc_hi c r hr
  have h3 := rc_lo c s hs
  have h4 := rc_hi c s hs
  have H0 := rl_mk w c 5 r s n l
  show Calls Tryz.prog 114 #[.agg (rcCells c), .agg #[.string ⟨#[97, 110, 100]⟩, .int .i64 r, .int .i64 s, .int .i64 n, .int .i64 l], .int .i64 (at_ : Int)] w _
  go_enter Tryz.func114, Tryz.ntmps114
  go_wp2_with (first | (refine wpList_load_row rfl 181 (.tmp 3) rfl (w.heap.size) rfl _ _ _ _ H0.A Tryz.underlying181 rfl (by kernel_rfl) ?_) | (refine wpList_load_row rfl 185 (.tmp 4) rfl (w.heap.size + 1) rfl _ _ _ _ H0.B Tryz.underlying185 rfl (by kernel_rfl) ?_))
  refine (rbehind_any 5 (by omega) c r s hr hs n l hp hm _).mono ?_
  rintro e w1 ⟨rfl, hb1⟩
  have HR1 := hide (H0.below hb1)
  clear hb1 H0 h1 h2 h3 h4
  generalize hNN : nextR 5 c r s n = N at *
  have HNN := hide hNN
  clear hNN
  go_wp2_with (refine wpList_storeRw rfl 181 (.tmp 16) (.tmp 46) rfl w1.heap.size (rcCells N) _ rfl rfl (blk_new w1 _) (by kernel_rfl) rfl (rc_one _) ?_)
  intro w2 hw2
  have HN2 : Hid (w2.heap[w1.heap.size]? = some (rcB N)) := hide (by rw [hw2.out]; exact setRow_heap _ _ _ _ _ _ (blk_new w1 _))
  have HRL2 : Hid (RL w c 5 r s n l w2) := hide (by rw [hw2.out]; exact (HR1.out.alloc _).setRow _ (by have := HR1.out.s; omega) _)
  clear hw2 HR1
  go_wp2_with (first | (refine wpList_load_row rfl 181 (.tmp 16) rfl (w1.heap.size) rfl _ _ _ _ HN2.out Tryz.underlying181 rfl (by kernel_rfl) ?_) | (refine wpList_buildWy rfl (.tmp 49) (.tmp 50) ((at_ : Int) + 1) (N) rfl rfl rfl ?_) | (refine wpList_buildSliceWy rfl (.tmp 51) ((at_ : Int) + 1) (N) rfl rfl ?_))
  intro wb hwb
  have HRb : Hid (RL w c 5 r s n l wb) := hide (by rw [hwb.out]; exact HRL2.out.alloc _)
  have HNb : Hid (wb.heap[w2.heap.size]? = some (.cells (wyC ((at_ : Int) + 1) (N)).toArray 190)) := hide (by rw [hwb.out]; exact blk_new _ _)
  have HOb : Hid (wb.ownsRow (w.heap.size + 2) 190 26 (.slice none 0 0) 0 ([])) := hide (by rw [hwb.out]; exact ⟨rfl, .inl ⟨rfl, rfl⟩⟩)
  clear hwb
  go_wp2_with (first | (at_builtin; refine wpList_appG rfl (.tmp 47) (.tmp 52) 186 190 (.agg (wyC 0 clNone).toArray) 26 152 rfl infoWy Tryz.underlying186 rfl (by decide) (w.heap.size + 2) _ 0 ([]) rfl HOb (w2.heap.size) (wyC ((at_ : Int) + 1) (N)).toArray 190 rfl HNb.out rfl (wyC_one _ _) (by omega) (by omega) (by have := HRb.out.s; omega) ?_) | go_in)
  intro v2 w3 hO2 hG2
  have HR2 := hide (HRb.out.grown HOb.out hG2.out)
  clear hG2 HRb HNb HOb
  go_wp2
  go_ret
  exact ⟨_, rfl, by have h := hO2.out; rw [← HNN.out] at h; simpa [wyL] using h, HR2.out.b⟩
set_option maxRecDepth 100000 in
set_option maxHeartbeats 8000000 in
theorem rways_6 (c : Cl) (r s : Nat) (hr : r < 8) (hs : s < 8) (n l : Int) (at_ : Nat) (hat : at_ < 1000) (hp : POk c) (hm : metR 6 c r s = true) (w : World) : Calls Tryz.prog 114 #[.agg (rcCells c), .agg (rlCells 6 r s n l), .int .i64 (at_ : Int)] w fun e w' => ∃ v, e = .returned v ∧ w'.ownsRow (w.heap.size + 2) 190 26 v ([((at_ : Int) + 1, nextR 6 c r s n)]).length (wyL ([((at_ : Int) + 1, nextR 6 c r s n)])) ∧ Below w.heap.size w w' := by
  have hrI : (r : Int) < 8 := by omega
  have hsI : (s : Int) < 8 := by omega
  have h1 := rc_lo c r hr
  have h2 := rc_hi c r hr
  have h3 := rc_lo c s hs
  have h4 := rc_hi c s hs
  have H0 := rl_mk w c 6 r s n l
  show Calls Tryz.prog 114 #[.agg (rcCells c), .agg #[.string ⟨#[100, 105, 118]⟩, .int .i64 r, .int .i64 s, .int .i64 n, .int .i64 l], .int .i64 (at_ : Int)] w _
  go_enter Tryz.func114, Tryz.ntmps114
  go_wp2_with (first | (refine wpList_load_row rfl 181 (.tmp 3) rfl (w.heap.size) rfl _ _ _ _ H0.A Tryz.underlying181 rfl (by kernel_rfl) ?_) | (refine wpList_load_row rfl 185 (.tmp 4) rfl (w.heap.size + 1) rfl _ _ _ _ H0.B Tryz.underlying185 rfl (by kernel_rfl) ?_))
  refine (rbehind_any 6 (by omega) c r s hr hs n l hp hm _).mono ?_
  rintro e w1 ⟨rfl, hb1⟩
  have HR1 := hide (H0.below hb1)
  clear hb1 H0 h1 h2 h3 h4
  generalize hNN : nextR 6 c r s n = N at *
  have HNN := hide hNN
  clear hNN
  go_wp2_with (refine wpList_storeRw rfl 181 (.tmp 16) (.tmp 46) rfl w1.heap.size (rcCells N) _ rfl rfl (blk_new w1 _) (by kernel_rfl) rfl (rc_one _) ?_)
  intro w2 hw2
  have HN2 : Hid (w2.heap[w1.heap.size]? = some (rcB N)) := hide (by rw [hw2.out]; exact setRow_heap _ _ _ _ _ _ (blk_new w1 _))
  have HRL2 : Hid (RL w c 6 r s n l w2) := hide (by rw [hw2.out]; exact (HR1.out.alloc _).setRow _ (by have := HR1.out.s; omega) _)
  clear hw2 HR1
  go_wp2_with (first | (refine wpList_load_row rfl 181 (.tmp 16) rfl (w1.heap.size) rfl _ _ _ _ HN2.out Tryz.underlying181 rfl (by kernel_rfl) ?_) | (refine wpList_buildWy rfl (.tmp 49) (.tmp 50) ((at_ : Int) + 1) (N) rfl rfl rfl ?_) | (refine wpList_buildSliceWy rfl (.tmp 51) ((at_ : Int) + 1) (N) rfl rfl ?_))
  intro wb hwb
  have HRb : Hid (RL w c 6 r s n l wb) := hide (by rw [hwb.out]; exact HRL2.out.alloc _)
  have HNb : Hid (wb.heap[w2.heap.size]? = some (.cells (wyC ((at_ : Int) + 1) (N)).toArray 190)) := hide (by rw [hwb.out]; exact blk_new _ _)
  have HOb : Hid (wb.ownsRow (w.heap.size + 2) 190 26 (.slice none 0 0) 0 ([])) := hide (by rw [hwb.out]; exact ⟨rfl, .inl ⟨rfl, rfl⟩⟩)
  clear hwb
  go_wp2_with (first | (at_builtin; refine wpList_appG rfl (.tmp 47) (.tmp 52) 186 190 (.agg (wyC 0 clNone).toArray) 26 152 rfl infoWy Tryz.underlying186 rfl (by decide) (w.heap.size + 2) _ 0 ([]) rfl HOb (w2.heap.size) (wyC ((at_ : Int) + 1) (N)).toArray 190 rfl HNb.out rfl (wyC_one _ _) (by omega) (by omega) (by have := HRb.out.s; omega) ?_) | go_in)
  intro v2 w3 hO2 hG2
  have HR2 := hide (HRb.out.grown HOb.out hG2.out)
  clear hG2 HRb HNb HOb
  go_wp2
  go_ret
  exact ⟨_, rfl, by have h := hO2.out; rw [← HNN.out] at h; simpa [wyL] using h, HR2.out.b⟩
set_option maxRecDepth 100000 in
set_option maxHeartbeats 8000000 in
theorem rways_7 (c : Cl) (r s : Nat) (hr : r < 8) (hs : s < 8) (n l : Int) (at_ : Nat) (hat : at_ < 1000) (hp : POk c) (hm : metR 7 c r s = true) (w : World) : Calls Tryz.prog 114 #[.agg (rcCells c), .agg (rlCells 7 r s n l), .int .i64 (at_ : Int)] w fun e w' => ∃ v, e = .returned v ∧ w'.ownsRow (w.heap.size + 2) 190 26 v ([((at_ : Int) + 1, nextR 7 c r s n)]).length (wyL ([((at_ : Int) + 1, nextR 7 c r s n)])) ∧ Below w.heap.size w w' := by
  have hrI : (r : Int) < 8 := by omega
  have hsI : (s : Int) < 8 := by omega
  have h1 := rc_lo c r hr
  have h2 := rc_hi c r hr
  have h3 := rc_lo c s hs
  have h4 := rc_hi c s hs
  have H0 := rl_mk w c 7 r s n l
  show Calls Tryz.prog 114 #[.agg (rcCells c), .agg #[.string ⟨#[105, 110]⟩, .int .i64 r, .int .i64 s, .int .i64 n, .int .i64 l], .int .i64 (at_ : Int)] w _
  go_enter Tryz.func114, Tryz.ntmps114
  go_wp2_with (first | (refine wpList_load_row rfl 181 (.tmp 3) rfl (w.heap.size) rfl _ _ _ _ H0.A Tryz.underlying181 rfl (by kernel_rfl) ?_) | (refine wpList_load_row rfl 185 (.tmp 4) rfl (w.heap.size + 1) rfl _ _ _ _ H0.B Tryz.underlying185 rfl (by kernel_rfl) ?_))
  refine (rbehind_any 7 (by omega) c r s hr hs n l hp hm _).mono ?_
  rintro e w1 ⟨rfl, hb1⟩
  have HR1 := hide (H0.below hb1)
  clear hb1 H0 h1 h2 h3 h4
  generalize hNN : nextR 7 c r s n = N at *
  have HNN := hide hNN
  clear hNN
  go_wp2_with (refine wpList_storeRw rfl 181 (.tmp 16) (.tmp 46) rfl w1.heap.size (rcCells N) _ rfl rfl (blk_new w1 _) (by kernel_rfl) rfl (rc_one _) ?_)
  intro w2 hw2
  have HN2 : Hid (w2.heap[w1.heap.size]? = some (rcB N)) := hide (by rw [hw2.out]; exact setRow_heap _ _ _ _ _ _ (blk_new w1 _))
  have HRL2 : Hid (RL w c 7 r s n l w2) := hide (by rw [hw2.out]; exact (HR1.out.alloc _).setRow _ (by have := HR1.out.s; omega) _)
  clear hw2 HR1
  go_wp2_with (first | (refine wpList_load_row rfl 181 (.tmp 16) rfl (w1.heap.size) rfl _ _ _ _ HN2.out Tryz.underlying181 rfl (by kernel_rfl) ?_) | (refine wpList_buildWy rfl (.tmp 49) (.tmp 50) ((at_ : Int) + 1) (N) rfl rfl rfl ?_) | (refine wpList_buildSliceWy rfl (.tmp 51) ((at_ : Int) + 1) (N) rfl rfl ?_))
  intro wb hwb
  have HRb : Hid (RL w c 7 r s n l wb) := hide (by rw [hwb.out]; exact HRL2.out.alloc _)
  have HNb : Hid (wb.heap[w2.heap.size]? = some (.cells (wyC ((at_ : Int) + 1) (N)).toArray 190)) := hide (by rw [hwb.out]; exact blk_new _ _)
  have HOb : Hid (wb.ownsRow (w.heap.size + 2) 190 26 (.slice none 0 0) 0 ([])) := hide (by rw [hwb.out]; exact ⟨rfl, .inl ⟨rfl, rfl⟩⟩)
  clear hwb
  go_wp2_with (first | (at_builtin; refine wpList_appG rfl (.tmp 47) (.tmp 52) 186 190 (.agg (wyC 0 clNone).toArray) 26 152 rfl infoWy Tryz.underlying186 rfl (by decide) (w.heap.size + 2) _ 0 ([]) rfl HOb (w2.heap.size) (wyC ((at_ : Int) + 1) (N)).toArray 190 rfl HNb.out rfl (wyC_one _ _) (by omega) (by omega) (by have := HRb.out.s; omega) ?_) | go_in)
  intro v2 w3 hO2 hG2
  have HR2 := hide (HRb.out.grown HOb.out hG2.out)
  clear hG2 HRb HNb HOb
  go_wp2
  go_ret
  exact ⟨_, rfl, by have h := hO2.out; rw [← HNN.out] at h; simpa [wyL] using h, HR2.out.b⟩
set_option maxRecDepth 100000 in
set_option maxHeartbeats 8000000 in
theorem rways_8 (c : Cl) (r s : Nat) (hr : r < 8) (hs : s < 8) (n l : Int) (at_ : Nat) (hat : at_ < 1000) (hp : POk c) (hm : metR 8 c r s = true) (w : World) : Calls Tryz.prog 114 #[.agg (rcCells c), .agg (rlCells 8 r s n l), .int .i64 (at_ : Int)] w fun e w' => ∃ v, e = .returned v ∧ w'.ownsRow (w.heap.size + 2) 190 26 v ([((at_ : Int) + 1, nextR 8 c r s n)]).length (wyL ([((at_ : Int) + 1, nextR 8 c r s n)])) ∧ Below w.heap.size w w' := by
  have hrI : (r : Int) < 8 := by omega
  have hsI : (s : Int) < 8 := by omega
  have h1 := rc_lo c r hr
  have h2 := rc_hi c r hr
  have h3 := rc_lo c s hs
  have h4 := rc_hi c s hs
  have H0 := rl_mk w c 8 r s n l
  show Calls Tryz.prog 114 #[.agg (rcCells c), .agg #[.string ⟨#[103, 101, 116]⟩, .int .i64 r, .int .i64 s, .int .i64 n, .int .i64 l], .int .i64 (at_ : Int)] w _
  go_enter Tryz.func114, Tryz.ntmps114
  go_wp2_with (first | (refine wpList_load_row rfl 181 (.tmp 3) rfl (w.heap.size) rfl _ _ _ _ H0.A Tryz.underlying181 rfl (by kernel_rfl) ?_) | (refine wpList_load_row rfl 185 (.tmp 4) rfl (w.heap.size + 1) rfl _ _ _ _ H0.B Tryz.underlying185 rfl (by kernel_rfl) ?_))
  refine (rbehind_any 8 (by omega) c r s hr hs n l hp hm _).mono ?_
  rintro e w1 ⟨rfl, hb1⟩
  have HR1 := hide (H0.below hb1)
  clear hb1 H0 h1 h2 h3 h4
  generalize hNN : nextR 8 c r s n = N at *
  have HNN := hide hNN
  clear hNN
  go_wp2_with (refine wpList_storeRw rfl 181 (.tmp 16) (.tmp 46) rfl w1.heap.size (rcCells N) _ rfl rfl (blk_new w1 _) (by kernel_rfl) rfl (rc_one _) ?_)
  intro w2 hw2
  have HN2 : Hid (w2.heap[w1.heap.size]? = some (rcB N)) := hide (by rw [hw2.out]; exact setRow_heap _ _ _ _ _ _ (blk_new w1 _))
  have HRL2 : Hid (RL w c 8 r s n l w2) := hide (by rw [hw2.out]; exact (HR1.out.alloc _).setRow _ (by have := HR1.out.s; omega) _)
  clear hw2 HR1
  go_wp2_with (first | (refine wpList_load_row rfl 181 (.tmp 16) rfl (w1.heap.size) rfl _ _ _ _ HN2.out Tryz.underlying181 rfl (by kernel_rfl) ?_) | (refine wpList_buildWy rfl (.tmp 49) (.tmp 50) ((at_ : Int) + 1) (N) rfl rfl rfl ?_) | (refine wpList_buildSliceWy rfl (.tmp 51) ((at_ : Int) + 1) (N) rfl rfl ?_))
  intro wb hwb
  have HRb : Hid (RL w c 8 r s n l wb) := hide (by rw [hwb.out]; exact HRL2.out.alloc _)
  have HNb : Hid (wb.heap[w2.heap.size]? = some (.cells (wyC ((at_ : Int) + 1) (N)).toArray 190)) := hide (by rw [hwb.out]; exact blk_new _ _)
  have HOb : Hid (wb.ownsRow (w.heap.size + 2) 190 26 (.slice none 0 0) 0 ([])) := hide (by rw [hwb.out]; exact ⟨rfl, .inl ⟨rfl, rfl⟩⟩)
  clear hwb
  go_wp2_with (first | (at_builtin; refine wpList_appG rfl (.tmp 47) (.tmp 52) 186 190 (.agg (wyC 0 clNone).toArray) 26 152 rfl infoWy Tryz.underlying186 rfl (by decide) (w.heap.size + 2) _ 0 ([]) rfl HOb (w2.heap.size) (wyC ((at_ : Int) + 1) (N)).toArray 190 rfl HNb.out rfl (wyC_one _ _) (by omega) (by omega) (by have := HRb.out.s; omega) ?_) | go_in)
  intro v2 w3 hO2 hG2
  have HR2 := hide (HRb.out.grown HOb.out hG2.out)
  clear hG2 HRb HNb HOb
  go_wp2
  go_ret
  exact ⟨_, rfl, by have h := hO2.out; rw [← HNN.out] at h; simpa [wyL] using h, HR2.out.b⟩
set_option maxRecDepth 100000 in
set_option maxHeartbeats 8000000 in
theorem rways_9 (c : Cl) (r s : Nat) (hr : r < 8) (hs : s < 8) (n l : Int) (at_ : Nat) (hat : at_ < 1000) (hp : POk c) (hm : metR 9 c r s = true) (w : World) : Calls Tryz.prog 114 #[.agg (rcCells c), .agg (rlCells 9 r s n l), .int .i64 (at_ : Int)] w fun e w' => ∃ v, e = .returned v ∧ w'.ownsRow (w.heap.size + 2) 190 26 v ([((at_ : Int) + 1, nextR 9 c r s n)]).length (wyL ([((at_ : Int) + 1, nextR 9 c r s n)])) ∧ Below w.heap.size w w' := by
  have hrI : (r : Int) < 8 := by omega
  have hsI : (s : Int) < 8 := by omega
  have h1 := rc_lo c r hr
  have h2 := rc_hi c r hr
  have h3 := rc_lo c s hs
  have h4 := rc_hi c s hs
  have H0 := rl_mk w c 9 r s n l
  show Calls Tryz.prog 114 #[.agg (rcCells c), .agg #[.string ⟨#[112, 117, 116]⟩, .int .i64 r, .int .i64 s, .int .i64 n, .int .i64 l], .int .i64 (at_ : Int)] w _
  go_enter Tryz.func114, Tryz.ntmps114
  go_wp2_with (first | (refine wpList_load_row rfl 181 (.tmp 3) rfl (w.heap.size) rfl _ _ _ _ H0.A Tryz.underlying181 rfl (by kernel_rfl) ?_) | (refine wpList_load_row rfl 185 (.tmp 4) rfl (w.heap.size + 1) rfl _ _ _ _ H0.B Tryz.underlying185 rfl (by kernel_rfl) ?_))
  refine (rbehind_any 9 (by omega) c r s hr hs n l hp hm _).mono ?_
  rintro e w1 ⟨rfl, hb1⟩
  have HR1 := hide (H0.below hb1)
  clear hb1 H0 h1 h2 h3 h4
  generalize hNN : nextR 9 c r s n = N at *
  have HNN := hide hNN
  clear hNN
  go_wp2_with (refine wpList_storeRw rfl 181 (.tmp 16) (.tmp 46) rfl w1.heap.size (rcCells N) _ rfl rfl (blk_new w1 _) (by kernel_rfl) rfl (rc_one _) ?_)
  intro w2 hw2
  have HN2 : Hid (w2.heap[w1.heap.size]? = some (rcB N)) := hide (by rw [hw2.out]; exact setRow_heap _ _ _ _ _ _ (blk_new w1 _))
  have HRL2 : Hid (RL w c 9 r s n l w2) := hide (by rw [hw2.out]; exact (HR1.out.alloc _).setRow _ (by have := HR1.out.s; omega) _)
  clear hw2 HR1
  go_wp2_with (first | (refine wpList_load_row rfl 181 (.tmp 16) rfl (w1.heap.size) rfl _ _ _ _ HN2.out Tryz.underlying181 rfl (by kernel_rfl) ?_) | (refine wpList_buildWy rfl (.tmp 49) (.tmp 50) ((at_ : Int) + 1) (N) rfl rfl rfl ?_) | (refine wpList_buildSliceWy rfl (.tmp 51) ((at_ : Int) + 1) (N) rfl rfl ?_))
  intro wb hwb
  have HRb : Hid (RL w c 9 r s n l wb) := hide (by rw [hwb.out]; exact HRL2.out.alloc _)
  have HNb : Hid (wb.heap[w2.heap.size]? = some (.cells (wyC ((at_ : Int) + 1) (N)).toArray 190)) := hide (by rw [hwb.out]; exact blk_new _ _)
  have HOb : Hid (wb.ownsRow (w.heap.size + 2) 190 26 (.slice none 0 0) 0 ([])) := hide (by rw [hwb.out]; exact ⟨rfl, .inl ⟨rfl, rfl⟩⟩)
  clear hwb
  go_wp2_with (first | (at_builtin; refine wpList_appG rfl (.tmp 47) (.tmp 52) 186 190 (.agg (wyC 0 clNone).toArray) 26 152 rfl infoWy Tryz.underlying186 rfl (by decide) (w.heap.size + 2) _ 0 ([]) rfl HOb (w2.heap.size) (wyC ((at_ : Int) + 1) (N)).toArray 190 rfl HNb.out rfl (wyC_one _ _) (by omega) (by omega) (by have := HRb.out.s; omega) ?_) | go_in)
  intro v2 w3 hO2 hG2
  have HR2 := hide (HRb.out.grown HOb.out hG2.out)
  clear hG2 HRb HNb HOb
  go_wp2
  go_ret
  exact ⟨_, rfl, by have h := hO2.out; rw [← HNN.out] at h; simpa [wyL] using h, HR2.out.b⟩
set_option maxRecDepth 100000 in
set_option maxHeartbeats 8000000 in
theorem rways_10 (c : Cl) (r s : Nat) (hr : r < 8) (hs : s < 8) (n l : Int) (at_ : Nat) (hat : at_ < 1000) (hp : POk c) (hm : metR 10 c r s = true) (w : World) : Calls Tryz.prog 114 #[.agg (rcCells c), .agg (rlCells 10 r s n l), .int .i64 (at_ : Int)] w fun e w' => ∃ v, e = .returned v ∧ w'.ownsRow (w.heap.size + 2) 190 26 v ([((at_ : Int) + 1, nextR 10 c r s n)]).length (wyL ([((at_ : Int) + 1, nextR 10 c r s n)])) ∧ Below w.heap.size w w' := by
  have hrI : (r : Int) < 8 := by omega
  have hsI : (s : Int) < 8 := by omega
  have h1 := rc_lo c r hr
  have h2 := rc_hi c r hr
  have h3 := rc_lo c s hs
  have h4 := rc_hi c s hs
  have H0 := rl_mk w c 10 r s n l
  show Calls Tryz.prog 114 #[.agg (rcCells c), .agg #[.string ⟨#[108, 111, 97, 100]⟩, .int .i64 r, .int .i64 s, .int .i64 n, .int .i64 l], .int .i64 (at_ : Int)] w _
  go_enter Tryz.func114, Tryz.ntmps114
  go_wp2_with (first | (refine wpList_load_row rfl 181 (.tmp 3) rfl (w.heap.size) rfl _ _ _ _ H0.A Tryz.underlying181 rfl (by kernel_rfl) ?_) | (refine wpList_load_row rfl 185 (.tmp 4) rfl (w.heap.size + 1) rfl _ _ _ _ H0.B Tryz.underlying185 rfl (by kernel_rfl) ?_))
  refine (rbehind_any 10 (by omega) c r s hr hs n l hp hm _).mono ?_
  rintro e w1 ⟨rfl, hb1⟩
  have HR1 := hide (H0.below hb1)
  clear hb1 H0 h1 h2 h3 h4
  generalize hNN : nextR 10 c r s n = N at *
  have HNN := hide hNN
  clear hNN
  go_wp2_with (refine wpList_storeRw rfl 181 (.tmp 16) (.tmp 46) rfl w1.heap.size (rcCells N) _ rfl rfl (blk_new w1 _) (by kernel_rfl) rfl (rc_one _) ?_)
  intro w2 hw2
  have HN2 : Hid (w2.heap[w1.heap.size]? = some (rcB N)) := hide (by rw [hw2.out]; exact setRow_heap _ _ _ _ _ _ (blk_new w1 _))
  have HRL2 : Hid (RL w c 10 r s n l w2) := hide (by rw [hw2.out]; exact (HR1.out.alloc _).setRow _ (by have := HR1.out.s; omega) _)
  clear hw2 HR1
  go_wp2_with (first | (refine wpList_load_row rfl 181 (.tmp 16) rfl (w1.heap.size) rfl _ _ _ _ HN2.out Tryz.underlying181 rfl (by kernel_rfl) ?_) | (refine wpList_buildWy rfl (.tmp 49) (.tmp 50) ((at_ : Int) + 1) (N) rfl rfl rfl ?_) | (refine wpList_buildSliceWy rfl (.tmp 51) ((at_ : Int) + 1) (N) rfl rfl ?_))
  intro wb hwb
  have HRb : Hid (RL w c 10 r s n l wb) := hide (by rw [hwb.out]; exact HRL2.out.alloc _)
  have HNb : Hid (wb.heap[w2.heap.size]? = some (.cells (wyC ((at_ : Int) + 1) (N)).toArray 190)) := hide (by rw [hwb.out]; exact blk_new _ _)
  have HOb : Hid (wb.ownsRow (w.heap.size + 2) 190 26 (.slice none 0 0) 0 ([])) := hide (by rw [hwb.out]; exact ⟨rfl, .inl ⟨rfl, rfl⟩⟩)
  clear hwb
  go_wp2_with (first | (at_builtin; refine wpList_appG rfl (.tmp 47) (.tmp 52) 186 190 (.agg (wyC 0 clNone).toArray) 26 152 rfl infoWy Tryz.underlying186 rfl (by decide) (w.heap.size + 2) _ 0 ([]) rfl HOb (w2.heap.size) (wyC ((at_ : Int) + 1) (N)).toArray 190 rfl HNb.out rfl (wyC_one _ _) (by omega) (by omega) (by have := HRb.out.s; omega) ?_) | go_in)
  intro v2 w3 hO2 hG2
  have HR2 := hide (HRb.out.grown HOb.out hG2.out)
  clear hG2 HRb HNb HOb
  go_wp2
  go_ret
  exact ⟨_, rfl, by have h := hO2.out; rw [← HNN.out] at h; simpa [wyL] using h, HR2.out.b⟩
set_option maxRecDepth 100000 in
set_option maxHeartbeats 8000000 in
theorem rways_11 (c : Cl) (r s : Nat) (hr : r < 8) (hs : s < 8) (n l : Int) (at_ : Nat) (hat : at_ < 1000) (hp : POk c) (hm : metR 11 c r s = true) (w : World) : Calls Tryz.prog 114 #[.agg (rcCells c), .agg (rlCells 11 r s n l), .int .i64 (at_ : Int)] w fun e w' => ∃ v, e = .returned v ∧ w'.ownsRow (w.heap.size + 2) 190 26 v ([((at_ : Int) + 1, nextR 11 c r s n)]).length (wyL ([((at_ : Int) + 1, nextR 11 c r s n)])) ∧ Below w.heap.size w w' := by
  have hrI : (r : Int) < 8 := by omega
  have hsI : (s : Int) < 8 := by omega
  have h1 := rc_lo c r hr
  have h2 := rc_hi c r hr
  have h3 := rc_lo c s hs
  have h4 := rc_hi c s hs
  have H0 := rl_mk w c 11 r s n l
  show Calls Tryz.prog 114 #[.agg (rcCells c), .agg #[.string ⟨#[107, 101, 101, 112]⟩, .int .i64 r, .int .i64 s, .int .i64 n, .int .i64 l], .int .i64 (at_ : Int)] w _
  go_enter Tryz.func114, Tryz.ntmps114
  go_wp2_with (first | (refine wpList_load_row rfl 181 (.tmp 3) rfl (w.heap.size) rfl _ _ _ _ H0.A Tryz.underlying181 rfl (by kernel_rfl) ?_) | (refine wpList_load_row rfl 185 (.tmp 4) rfl (w.heap.size + 1) rfl _ _ _ _ H0.B Tryz.underlying185 rfl (by kernel_rfl) ?_))
  refine (rbehind_any 11 (by omega) c r s hr hs n l hp hm _).mono ?_
  rintro e w1 ⟨rfl, hb1⟩
  have HR1 := hide (H0.below hb1)
  clear hb1 H0 h1 h2 h3 h4
  generalize hNN : nextR 11 c r s n = N at *
  have HNN := hide hNN
  clear hNN
  go_wp2_with (refine wpList_storeRw rfl 181 (.tmp 16) (.tmp 46) rfl w1.heap.size (rcCells N) _ rfl rfl (blk_new w1 _) (by kernel_rfl) rfl (rc_one _) ?_)
  intro w2 hw2
  have HN2 : Hid (w2.heap[w1.heap.size]? = some (rcB N)) := hide (by rw [hw2.out]; exact setRow_heap _ _ _ _ _ _ (blk_new w1 _))
  have HRL2 : Hid (RL w c 11 r s n l w2) := hide (by rw [hw2.out]; exact (HR1.out.alloc _).setRow _ (by have := HR1.out.s; omega) _)
  clear hw2 HR1
  go_wp2_with (first | (refine wpList_load_row rfl 181 (.tmp 16) rfl (w1.heap.size) rfl _ _ _ _ HN2.out Tryz.underlying181 rfl (by kernel_rfl) ?_) | (refine wpList_buildWy rfl (.tmp 49) (.tmp 50) ((at_ : Int) + 1) (N) rfl rfl rfl ?_) | (refine wpList_buildSliceWy rfl (.tmp 51) ((at_ : Int) + 1) (N) rfl rfl ?_))
  intro wb hwb
  have HRb : Hid (RL w c 11 r s n l wb) := hide (by rw [hwb.out]; exact HRL2.out.alloc _)
  have HNb : Hid (wb.heap[w2.heap.size]? = some (.cells (wyC ((at_ : Int) + 1) (N)).toArray 190)) := hide (by rw [hwb.out]; exact blk_new _ _)
  have HOb : Hid (wb.ownsRow (w.heap.size + 2) 190 26 (.slice none 0 0) 0 ([])) := hide (by rw [hwb.out]; exact ⟨rfl, .inl ⟨rfl, rfl⟩⟩)
  clear hwb
  go_wp2_with (first | (at_builtin; refine wpList_appG rfl (.tmp 47) (.tmp 52) 186 190 (.agg (wyC 0 clNone).toArray) 26 152 rfl infoWy Tryz.underlying186 rfl (by decide) (w.heap.size + 2) _ 0 ([]) rfl HOb (w2.heap.size) (wyC ((at_ : Int) + 1) (N)).toArray 190 rfl HNb.out rfl (wyC_one _ _) (by omega) (by omega) (by have := HRb.out.s; omega) ?_) | go_in)
  intro v2 w3 hO2 hG2
  have HR2 := hide (HRb.out.grown HOb.out hG2.out)
  clear hG2 HRb HNb HOb
  go_wp2
  go_ret
  exact ⟨_, rfl, by have h := hO2.out; rw [← HNN.out] at h; simpa [wyL] using h, HR2.out.b⟩
set_option maxRecDepth 100000 in
set_option maxHeartbeats 8000000 in
theorem rways_12 (c : Cl) (r s : Nat) (hr : r < 8) (hs : s < 8) (n l : Int) (at_ : Nat) (hat : at_ < 1000) (hp : POk c) (hm : metR 12 c r s = true) (w : World) : Calls Tryz.prog 114 #[.agg (rcCells c), .agg (rlCells 12 r s n l), .int .i64 (at_ : Int)] w fun e w' => ∃ v, e = .returned v ∧ w'.ownsRow (w.heap.size + 2) 190 26 v ([((at_ : Int) + 1, nextR 12 c r s n)]).length (wyL ([((at_ : Int) + 1, nextR 12 c r s n)])) ∧ Below w.heap.size w w' := by
  have hrI : (r : Int) < 8 := by omega
  have hsI : (s : Int) < 8 := by omega
  have h1 := rc_lo c r hr
  have h2 := rc_hi c r hr
  have h3 := rc_lo c s hs
  have h4 := rc_hi c s hs
  have H0 := rl_mk w c 12 r s n l
  show Calls Tryz.prog 114 #[.agg (rcCells c), .agg #[.string ⟨#[111, 117, 116]⟩, .int .i64 r, .int .i64 s, .int .i64 n, .int .i64 l], .int .i64 (at_ : Int)] w _
  go_enter Tryz.func114, Tryz.ntmps114
  go_wp2_with (first | (refine wpList_load_row rfl 181 (.tmp 3) rfl (w.heap.size) rfl _ _ _ _ H0.A Tryz.underlying181 rfl (by kernel_rfl) ?_) | (refine wpList_load_row rfl 185 (.tmp 4) rfl (w.heap.size + 1) rfl _ _ _ _ H0.B Tryz.underlying185 rfl (by kernel_rfl) ?_))
  refine (rbehind_any 12 (by omega) c r s hr hs n l hp hm _).mono ?_
  rintro e w1 ⟨rfl, hb1⟩
  have HR1 := hide (H0.below hb1)
  clear hb1 H0 h1 h2 h3 h4
  generalize hNN : nextR 12 c r s n = N at *
  have HNN := hide hNN
  clear hNN
  go_wp2_with (refine wpList_storeRw rfl 181 (.tmp 16) (.tmp 46) rfl w1.heap.size (rcCells N) _ rfl rfl (blk_new w1 _) (by kernel_rfl) rfl (rc_one _) ?_)
  intro w2 hw2
  have HN2 : Hid (w2.heap[w1.heap.size]? = some (rcB N)) := hide (by rw [hw2.out]; exact setRow_heap _ _ _ _ _ _ (blk_new w1 _))
  have HRL2 : Hid (RL w c 12 r s n l w2) := hide (by rw [hw2.out]; exact (HR1.out.alloc _).setRow _ (by have := HR1.out.s; omega) _)
  clear hw2 HR1
  go_wp2_with (first | (refine wpList_load_row rfl 181 (.tmp 16) rfl (w1.heap.size) rfl _ _ _ _ HN2.out Tryz.underlying181 rfl (by kernel_rfl) ?_) | (refine wpList_buildWy rfl (.tmp 49) (.tmp 50) ((at_ : Int) + 1) (N) rfl rfl rfl ?_) | (refine wpList_buildSliceWy rfl (.tmp 51) ((at_ : Int) + 1) (N) rfl rfl ?_))
  intro wb hwb
  have HRb : Hid (RL w c 12 r s n l wb) := hide (by rw [hwb.out]; exact HRL2.out.alloc _)
  have HNb : Hid (wb.heap[w2.heap.size]? = some (.cells (wyC ((at_ : Int) + 1) (N)).toArray 190)) := hide (by rw [hwb.out]; exact blk_new _ _)
  have HOb : Hid (wb.ownsRow (w.heap.size + 2) 190 26 (.slice none 0 0) 0 ([])) := hide (by rw [hwb.out]; exact ⟨rfl, .inl ⟨rfl, rfl⟩⟩)
  clear hwb
  go_wp2_with (first | (at_builtin; refine wpList_appG rfl (.tmp 47) (.tmp 52) 186 190 (.agg (wyC 0 clNone).toArray) 26 152 rfl infoWy Tryz.underlying186 rfl (by decide) (w.heap.size + 2) _ 0 ([]) rfl HOb (w2.heap.size) (wyC ((at_ : Int) + 1) (N)).toArray 190 rfl HNb.out rfl (wyC_one _ _) (by omega) (by omega) (by have := HRb.out.s; omega) ?_) | go_in)
  intro v2 w3 hO2 hG2
  have HR2 := hide (HRb.out.grown HOb.out hG2.out)
  clear hG2 HRb HNb HOb
  go_wp2
  go_ret
  exact ⟨_, rfl, by have h := hO2.out; rw [← HNN.out] at h; simpa [wyL] using h, HR2.out.b⟩
set_option maxRecDepth 100000 in
set_option maxHeartbeats 8000000 in
theorem rways_13 (c : Cl) (r s : Nat) (hr : r < 8) (hs : s < 8) (n l : Int) (at_ : Nat) (hat : at_ < 1000) (w : World) : Calls Tryz.prog 114 #[.agg (rcCells c), .agg (rlCells 13 r s n l), .int .i64 (at_ : Int)] w fun e w' => ∃ v, e = .returned v ∧ w'.ownsRow (w.heap.size + 2) 190 26 v ([(l, c)]).length (wyL ([(l, c)])) ∧ Below w.heap.size w w' := by
  have hrI : (r : Int) < 8 := by omega
  have hsI : (s : Int) < 8 := by omega
  have h1 := rc_lo c r hr
  have h2 := rc_hi c r hr
  have h3 := rc_lo c s hs
  have h4 := rc_hi c s hs
  have H0 := rl_mk w c 13 r s n l
  show Calls Tryz.prog 114 #[.agg (rcCells c), .agg #[.string ⟨#[106, 109, 112]⟩, .int .i64 r, .int .i64 s, .int .i64 n, .int .i64 l], .int .i64 (at_ : Int)] w _
  go_enter Tryz.func114, Tryz.ntmps114
  have HR0 := hide H0
  go_wp2_with (first | (refine wpList_load_row rfl 181 (.tmp 3) rfl (w.heap.size) rfl _ _ _ _ HR0.out.A Tryz.underlying181 rfl (by kernel_rfl) ?_) | (refine wpList_buildWy rfl (.tmp 60) (.tmp 61) (l) (c) rfl rfl rfl ?_) | (refine wpList_buildSliceWy rfl (.tmp 62) (l) (c) rfl rfl ?_))
  intro wb hwb
  have HRb : Hid (RL w c 13 r s n l wb) := hide (by rw [hwb.out]; exact HR0.out.alloc _)
  have HNb : Hid (wb.heap[w.heap.size + 1 + 1]? = some (.cells (wyC (l) (c)).toArray 190)) := hide (by rw [hwb.out]; have hq := blk_new ((w.alloc (rcB c)).alloc (rlB 13 r s n l)) (.cells (wyC (l) (c)).toArray 190); rw [World.size_alloc, World.size_alloc] at hq; exact hq)
  have HOb : Hid (wb.ownsRow (w.heap.size + 2) 190 26 (.slice none 0 0) 0 ([])) := hide (by rw [hwb.out]; exact ⟨rfl, .inl ⟨rfl, rfl⟩⟩)
  clear hwb
  go_wp2_with (first | (at_builtin; refine wpList_appG rfl (.tmp 58) (.tmp 63) 186 190 (.agg (wyC 0 clNone).toArray) 26 152 rfl infoWy Tryz.underlying186 rfl (by decide) (w.heap.size + 2) _ 0 ([]) rfl HOb (w.heap.size + 1 + 1) (wyC (l) (c)).toArray 190 rfl HNb.out rfl (wyC_one _ _) (by omega) (by omega) (by have := HRb.out.s; omega) ?_) | go_in)
  intro v2 w3 hO2 hG2
  have HR2 := hide (HRb.out.grown HOb.out hG2.out)
  clear hG2 HRb HNb HOb
  go_wp2
  go_ret
  exact ⟨_, rfl, by have h := hO2.out; simpa [wyL] using h, HR2.out.b⟩
set_option maxRecDepth 100000 in
set_option maxHeartbeats 8000000 in
theorem rways_16 (c : Cl) (r s : Nat) (hr : r < 8) (hs : s < 8) (n l : Int) (at_ : Nat) (hat : at_ < 1000) (w : World) : Calls Tryz.prog 114 #[.agg (rcCells c), .agg (rlCells 16 r s n l), .int .i64 (at_ : Int)] w fun e w' => ∃ v, e = .returned v ∧ w'.ownsRow (w.heap.size + 2) 190 26 v (([] : List (Int × Cl))).length (wyL (([] : List (Int × Cl)))) ∧ Below w.heap.size w w' := by
  have hrI : (r : Int) < 8 := by omega
  have hsI : (s : Int) < 8 := by omega
  have h1 := rc_lo c r hr
  have h2 := rc_hi c r hr
  have h3 := rc_lo c s hs
  have h4 := rc_hi c s hs
  have H0 := rl_mk w c 16 r s n l
  show Calls Tryz.prog 114 #[.agg (rcCells c), .agg #[.string ⟨#[101, 110, 100]⟩, .int .i64 r, .int .i64 s, .int .i64 n, .int .i64 l], .int .i64 (at_ : Int)] w _
  go_enter Tryz.func114, Tryz.ntmps114
  go_wp2
  go_ret
  exact ⟨_, rfl, ⟨rfl, .inl ⟨rfl, rfl⟩⟩, H0.b⟩
end Go.Proofs.YtngopilbpiplhaaGreatDoor
