/-
  The document's own answer: are a line's needs met? (more words)
-/
import Derived.Test.YtngopilbpiplhaaGreatDoorZRfX
namespace Go.Proofs.YtngopilbpiplhaaGreatDoor
open Go.RowKit
set_option linter.unusedVariables false
set_option linter.unusedSimpArgs false
theorem metR_0 (c : Cl) (r s : Nat) : metR 0 c r s = metF false false (c.has r) (c.has s) (true) := by
  have h1 : hasB (wTakes 0) 82 = false := by decide +kernel
  have h2 : hasB (wTakes 0) 83 = false := by decide +kernel
  unfold metR metW
  rw [h1, h2]
  rfl
set_option maxRecDepth 100000 in
set_option maxHeartbeats 4000000 in
theorem rmeets_0 (c : Cl) (r s : Nat) (hr : r < 8) (hs : s < 8) (n l : Int) (w : World) : Calls Tryz.prog 113 #[.agg (rcCells c), .agg (rlCells 0 r s n l)] w fun e w' => e = .returned (.bool (metR 0 c r s)) ∧ Below w.heap.size w w' := by
  have hrI : (r : Int) < 8 := by omega
  have hsI : (s : Int) < 8 := by omega
  have H0 := rl_mk w c 0 r s n l
  have hm := metR_0 c r s
  have HM : Hid (metR 0 c r s = true) := hide (by rw [hm]; simp [metF])
  clear hm
  go_enter Tryz.func113, Tryz.ntmps113
  go_wp2_with (refine wpList_load_row rfl 185 (.tmp 3) rfl (w.heap.size + 1) rfl _ _ _ _ H0.B Tryz.underlying185 rfl (by kernel_rfl) ?_)
  refine (takes_0 r s n l _).mono ?_
  rintro e w1 ⟨rfl, hb1⟩
  have H1 := H0.below hb1
  have HRL := hide H1
  clear hb1 H0
  obtain ⟨⟨k1, k2, k3, k4, k5, k6⟩, k7, k8, k9, k10, k11⟩ := H1.cells hr hs
  clear H1
  replace k7 : w1.cell? ⟨w.heap.size + 1, 0, none⟩ = some (.string ⟨#[115, 101, 116]⟩) := k7
  go_wp2_with (refine wpList_load_row rfl 185 (.tmp 3) rfl (w.heap.size + 1) rfl _ _ _ _ HRL.out.B Tryz.underlying185 rfl (by kernel_rfl) ?_)
  clear k1 k2 k3 k4 k5 k6 k7 k8 k9 k10 k11
  refine (places_0 r s n l _).mono ?_
  rintro e w2 ⟨rfl, hb2⟩
  have H2 := HRL.out.below hb2
  have HRL := hide H2
  clear hb2
  obtain ⟨⟨k1, k2, k3, k4, k5, k6⟩, k7, k8, k9, k10, k11⟩ := H2.cells hr hs
  clear H2
  go_wp2
  go_ret
  exact ⟨by rw [HM.out]; first | rfl | simp [*], HRL.out.b⟩
theorem metR_1 (c : Cl) (r s : Nat) : metR 1 c r s = metF false true (c.has r) (c.has s) (true) := by
  have h1 : hasB (wTakes 1) 82 = false := by decide +kernel
  have h2 : hasB (wTakes 1) 83 = true := by decide +kernel
  unfold metR metW
  rw [h1, h2]
  rfl
set_option maxRecDepth 100000 in
set_option maxHeartbeats 4000000 in
theorem rmeets_1 (c : Cl) (r s : Nat) (hr : r < 8) (hs : s < 8) (n l : Int) (w : World) : Calls Tryz.prog 113 #[.agg (rcCells c), .agg (rlCells 1 r s n l)] w fun e w' => e = .returned (.bool (metR 1 c r s)) ∧ Below w.heap.size w w' := by
  have hrI : (r : Int) < 8 := by omega
  have hsI : (s : Int) < 8 := by omega
  have H0 := rl_mk w c 1 r s n l
  have hm := metR_1 c r s
  cases f2 : c.has s with
  | false =>
    have HM : Hid (metR 1 c r s = false) := hide (by rw [hm]; simp [metF, f2])
    clear hm
    go_enter Tryz.func113, Tryz.ntmps113
    go_wp2_with (refine wpList_load_row rfl 185 (.tmp 3) rfl (w.heap.size + 1) rfl _ _ _ _ H0.B Tryz.underlying185 rfl (by kernel_rfl) ?_)
    refine (takes_1 r s n l _).mono ?_
    rintro e w1 ⟨rfl, hb1⟩
    have H1 := H0.below hb1
    have HRL := hide H1
    clear hb1 H0
    obtain ⟨⟨k1, k2, k3, k4, k5, k6⟩, k7, k8, k9, k10, k11⟩ := H1.cells hr hs
    clear H1
    rw [f2] at k2
    replace k7 : w1.cell? ⟨w.heap.size + 1, 0, none⟩ = some (.string ⟨#[109, 111, 118]⟩) := k7
    go_wp2
    go_ret
    exact ⟨by rw [HM.out]; first | rfl | simp [*], HRL.out.b⟩
  | true =>
    have HM : Hid (metR 1 c r s = true) := hide (by rw [hm]; simp [metF, f2])
    clear hm
    go_enter Tryz.func113, Tryz.ntmps113
    go_wp2_with (refine wpList_load_row rfl 185 (.tmp 3) rfl (w.heap.size + 1) rfl _ _ _ _ H0.B Tryz.underlying185 rfl (by kernel_rfl) ?_)
    refine (takes_1 r s n l _).mono ?_
    rintro e w1 ⟨rfl, hb1⟩
    have H1 := H0.below hb1
    have HRL := hide H1
    clear hb1 H0
    obtain ⟨⟨k1, k2, k3, k4, k5, k6⟩, k7, k8, k9, k10, k11⟩ := H1.cells hr hs
    clear H1
    rw [f2] at k2
    replace k7 : w1.cell? ⟨w.heap.size + 1, 0, none⟩ = some (.string ⟨#[109, 111, 118]⟩) := k7
    go_wp2_with (refine wpList_load_row rfl 185 (.tmp 3) rfl (w.heap.size + 1) rfl _ _ _ _ HRL.out.B Tryz.underlying185 rfl (by kernel_rfl) ?_)
    clear k1 k2 k3 k4 k5 k6 k7 k8 k9 k10 k11
    refine (places_1 r s n l _).mono ?_
    rintro e w2 ⟨rfl, hb2⟩
    have H2 := HRL.out.below hb2
    have HRL := hide H2
    clear hb2
    obtain ⟨⟨k1, k2, k3, k4, k5, k6⟩, k7, k8, k9, k10, k11⟩ := H2.cells hr hs
    clear H2
    rw [f2] at k2
    go_wp2
    go_ret
    exact ⟨by rw [HM.out]; first | rfl | simp [*], HRL.out.b⟩
theorem metR_2 (c : Cl) (r s : Nat) : metR 2 c r s = metF true true (c.has r) (c.has s) (true) := by
  have h1 : hasB (wTakes 2) 82 = true := by decide +kernel
  have h2 : hasB (wTakes 2) 83 = true := by decide +kernel
  unfold metR metW
  rw [h1, h2]
  rfl
set_option maxRecDepth 100000 in
set_option maxHeartbeats 4000000 in
theorem rmeets_2 (c : Cl) (r s : Nat) (hr : r < 8) (hs : s < 8) (n l : Int) (w : World) : Calls Tryz.prog 113 #[.agg (rcCells c), .agg (rlCells 2 r s n l)] w fun e w' => e = .returned (.bool (metR 2 c r s)) ∧ Below w.heap.size w w' := by
  have hrI : (r : Int) < 8 := by omega
  have hsI : (s : Int) < 8 := by omega
  have H0 := rl_mk w c 2 r s n l
  have hm := metR_2 c r s
  cases f1 : c.has r with
  | false =>
    have HM : Hid (metR 2 c r s = false) := hide (by rw [hm]; simp [metF, f1])
    clear hm
    go_enter Tryz.func113, Tryz.ntmps113
    go_wp2_with (refine wpList_load_row rfl 185 (.tmp 3) rfl (w.heap.size + 1) rfl _ _ _ _ H0.B Tryz.underlying185 rfl (by kernel_rfl) ?_)
    refine (takes_2 r s n l _).mono ?_
    rintro e w1 ⟨rfl, hb1⟩
    have H1 := H0.below hb1
    have HRL := hide H1
    clear hb1 H0
    obtain ⟨⟨k1, k2, k3, k4, k5, k6⟩, k7, k8, k9, k10, k11⟩ := H1.cells hr hs
    clear H1
    rw [f1] at k1
    replace k7 : w1.cell? ⟨w.heap.size + 1, 0, none⟩ = some (.string ⟨#[97, 100, 100]⟩) := k7
    go_wp2
    go_ret
    exact ⟨by rw [HM.out]; first | rfl | simp [*], HRL.out.b⟩
  | true =>
    cases f2 : c.has s with
    | false =>
      have HM : Hid (metR 2 c r s = false) := hide (by rw [hm]; simp [metF, f1, f2])
      clear hm
      go_enter Tryz.func113, Tryz.ntmps113
      go_wp2_with (refine wpList_load_row rfl 185 (.tmp 3) rfl (w.heap.size + 1) rfl _ _ _ _ H0.B Tryz.underlying185 rfl (by kernel_rfl) ?_)
      refine (takes_2 r s n l _).mono ?_
      rintro e w1 ⟨rfl, hb1⟩
      have H1 := H0.below hb1
      have HRL := hide H1
      clear hb1 H0
      obtain ⟨⟨k1, k2, k3, k4, k5, k6⟩, k7, k8, k9, k10, k11⟩ := H1.cells hr hs
      clear H1
      rw [f1] at k1
      rw [f2] at k2
      replace k7 : w1.cell? ⟨w.heap.size + 1, 0, none⟩ = some (.string ⟨#[97, 100, 100]⟩) := k7
      go_wp2
      go_ret
      exact ⟨by rw [HM.out]; first | rfl | simp [*], HRL.out.b⟩
    | true =>
      have HM : Hid (metR 2 c r s = true) := hide (by rw [hm]; simp [metF, f1, f2])
      clear hm
      go_enter Tryz.func113, Tryz.ntmps113
      go_wp2_with (refine wpList_load_row rfl 185 (.tmp 3) rfl (w.heap.size + 1) rfl _ _ _ _ H0.B Tryz.underlying185 rfl (by kernel_rfl) ?_)
      refine (takes_2 r s n l _).mono ?_
      rintro e w1 ⟨rfl, hb1⟩
      have H1 := H0.below hb1
      have HRL := hide H1
      clear hb1 H0
      obtain ⟨⟨k1, k2, k3, k4, k5, k6⟩, k7, k8, k9, k10, k11⟩ := H1.cells hr hs
      clear H1
      rw [f1] at k1
      rw [f2] at k2
      replace k7 : w1.cell? ⟨w.heap.size + 1, 0, none⟩ = some (.string ⟨#[97, 100, 100]⟩) := k7
      go_wp2_with (refine wpList_load_row rfl 185 (.tmp 3) rfl (w.heap.size + 1) rfl _ _ _ _ HRL.out.B Tryz.underlying185 rfl (by kernel_rfl) ?_)
      clear k1 k2 k3 k4 k5 k6 k7 k8 k9 k10 k11
      refine (places_2 r s n l _).mono ?_
      rintro e w2 ⟨rfl, hb2⟩
      have H2 := HRL.out.below hb2
      have HRL := hide H2
      clear hb2
      obtain ⟨⟨k1, k2, k3, k4, k5, k6⟩, k7, k8, k9, k10, k11⟩ := H2.cells hr hs
      clear H2
      rw [f1] at k1
      rw [f2] at k2
      go_wp2
      go_ret
      exact ⟨by rw [HM.out]; first | rfl | simp [*], HRL.out.b⟩
theorem metR_3 (c : Cl) (r s : Nat) : metR 3 c r s = metF true true (c.has r) (c.has s) (true) := by
  have h1 : hasB (wTakes 3) 82 = true := by decide +kernel
  have h2 : hasB (wTakes 3) 83 = true := by decide +kernel
  unfold metR metW
  rw [h1, h2]
  rfl
set_option maxRecDepth 100000 in
set_option maxHeartbeats 4000000 in
theorem rmeets_3 (c : Cl) (r s : Nat) (hr : r < 8) (hs : s < 8) (n l : Int) (w : World) : Calls Tryz.prog 113 #[.agg (rcCells c), .agg (rlCells 3 r s n l)] w fun e w' => e = .returned (.bool (metR 3 c r s)) ∧ Below w.heap.size w w' := by
  have hrI : (r : Int) < 8 := by omega
  have hsI : (s : Int) < 8 := by omega
  have H0 := rl_mk w c 3 r s n l
  have hm := metR_3 c r s
  cases f1 : c.has r with
  | false =>
    have HM : Hid (metR 3 c r s = false) := hide (by rw [hm]; simp [metF, f1])
    clear hm
    go_enter Tryz.func113, Tryz.ntmps113
    go_wp2_with (refine wpList_load_row rfl 185 (.tmp 3) rfl (w.heap.size + 1) rfl _ _ _ _ H0.B Tryz.underlying185 rfl (by kernel_rfl) ?_)
    refine (takes_3 r s n l _).mono ?_
    rintro e w1 ⟨rfl, hb1⟩
    have H1 := H0.below hb1
    have HRL := hide H1
    clear hb1 H0
    obtain ⟨⟨k1, k2, k3, k4, k5, k6⟩, k7, k8, k9, k10, k11⟩ := H1.cells hr hs
    clear H1
    rw [f1] at k1
    replace k7 : w1.cell? ⟨w.heap.size + 1, 0, none⟩ = some (.string ⟨#[115, 117, 98]⟩) := k7
    go_wp2
    go_ret
    exact ⟨by rw [HM.out]; first | rfl | simp [*], HRL.out.b⟩
  | true =>
    cases f2 : c.has s with
    | false =>
      have HM : Hid (metR 3 c r s = false) := hide (by rw [hm]; simp [metF, f1, f2])
      clear hm
      go_enter Tryz.func113, Tryz.ntmps113
      go_wp2_with (refine wpList_load_row rfl 185 (.tmp 3) rfl (w.heap.size + 1) rfl _ _ _ _ H0.B Tryz.underlying185 rfl (by kernel_rfl) ?_)
      refine (takes_3 r s n l _).mono ?_
      rintro e w1 ⟨rfl, hb1⟩
      have H1 := H0.below hb1
      have HRL := hide H1
      clear hb1 H0
      obtain ⟨⟨k1, k2, k3, k4, k5, k6⟩, k7, k8, k9, k10, k11⟩ := H1.cells hr hs
      clear H1
      rw [f1] at k1
      rw [f2] at k2
      replace k7 : w1.cell? ⟨w.heap.size + 1, 0, none⟩ = some (.string ⟨#[115, 117, 98]⟩) := k7
      go_wp2
      go_ret
      exact ⟨by rw [HM.out]; first | rfl | simp [*], HRL.out.b⟩
    | true =>
      have HM : Hid (metR 3 c r s = true) := hide (by rw [hm]; simp [metF, f1, f2])
      clear hm
      go_enter Tryz.func113, Tryz.ntmps113
      go_wp2_with (refine wpList_load_row rfl 185 (.tmp 3) rfl (w.heap.size + 1) rfl _ _ _ _ H0.B Tryz.underlying185 rfl (by kernel_rfl) ?_)
      refine (takes_3 r s n l _).mono ?_
      rintro e w1 ⟨rfl, hb1⟩
      have H1 := H0.below hb1
      have HRL := hide H1
      clear hb1 H0
      obtain ⟨⟨k1, k2, k3, k4, k5, k6⟩, k7, k8, k9, k10, k11⟩ := H1.cells hr hs
      clear H1
      rw [f1] at k1
      rw [f2] at k2
      replace k7 : w1.cell? ⟨w.heap.size + 1, 0, none⟩ = some (.string ⟨#[115, 117, 98]⟩) := k7
      go_wp2_with (refine wpList_load_row rfl 185 (.tmp 3) rfl (w.heap.size + 1) rfl _ _ _ _ HRL.out.B Tryz.underlying185 rfl (by kernel_rfl) ?_)
      clear k1 k2 k3 k4 k5 k6 k7 k8 k9 k10 k11
      refine (places_3 r s n l _).mono ?_
      rintro e w2 ⟨rfl, hb2⟩
      have H2 := HRL.out.below hb2
      have HRL := hide H2
      clear hb2
      obtain ⟨⟨k1, k2, k3, k4, k5, k6⟩, k7, k8, k9, k10, k11⟩ := H2.cells hr hs
      clear H2
      rw [f1] at k1
      rw [f2] at k2
      go_wp2
      go_ret
      exact ⟨by rw [HM.out]; first | rfl | simp [*], HRL.out.b⟩
end Go.Proofs.YtngopilbpiplhaaGreatDoor
