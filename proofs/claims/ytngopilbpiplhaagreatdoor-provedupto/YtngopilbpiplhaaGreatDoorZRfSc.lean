/-
  The document's own answer: are a line's needs met? (more words)
-/
import Derived.Test.YtngopilbpiplhaaGreatDoorZRfX
namespace Go.Proofs.YtngopilbpiplhaaGreatDoor
open Go.RowKit
set_option linter.unusedVariables false
set_option linter.unusedSimpArgs false
theorem metR_7 (c : Cl) (r s : Nat) : metR 7 c r s = metF false true (c.has r) (c.has s) (decide (0 ≤ c.lo s) && decide (c.hi s < 64)) := by
  have h1 : hasB (wTakes 7) 82 = false := by decide +kernel
  have h2 : hasB (wTakes 7) 83 = true := by decide +kernel
  unfold metR metW
  rw [h1, h2]
  rfl
set_option maxRecDepth 100000 in
set_option maxHeartbeats 4000000 in
theorem rmeets_7 (c : Cl) (r s : Nat) (hr : r < 8) (hs : s < 8) (n l : Int) (w : World) : Calls Tryz.prog 113 #[.agg (rcCells c), .agg (rlCells 7 r s n l)] w fun e w' => e = .returned (.bool (metR 7 c r s)) ∧ Below w.heap.size w w' := by
  have hrI : (r : Int) < 8 := by omega
  have hsI : (s : Int) < 8 := by omega
  have H0 := rl_mk w c 7 r s n l
  have hm := metR_7 c r s
  cases f2 : c.has s with
  | false =>
    have HM : Hid (metR 7 c r s = false) := hide (by rw [hm]; simp [metF, f2])
    clear hm
    go_enter Tryz.func113, Tryz.ntmps113
    go_wp2_with (refine wpList_load_row rfl 185 (.tmp 3) rfl (w.heap.size + 1) rfl _ _ _ _ H0.B Tryz.underlying185 rfl (by kernel_rfl) ?_)
    refine (takes_7 r s n l _).mono ?_
    rintro e w1 ⟨rfl, hb1⟩
    have H1 := H0.below hb1
    have HRL := hide H1
    clear hb1 H0
    obtain ⟨⟨k1, k2, k3, k4, k5, k6⟩, k7, k8, k9, k10, k11⟩ := H1.cells hr hs
    clear H1
    rw [f2] at k2
    replace k7 : w1.cell? ⟨w.heap.size + 1, 0, none⟩ = some (.string ⟨#[105, 110]⟩) := k7
    go_wp2
    go_ret
    exact ⟨by rw [HM.out]; first | rfl | simp [*], HRL.out.b⟩
  | true =>
    by_cases q1 : 0 ≤ c.lo s
    · by_cases q2 : c.hi s < 64
      · have HM : Hid (metR 7 c r s = true) := hide (by rw [hm]; simp [metF, f2, q1, q2])
        clear hm
        go_enter Tryz.func113, Tryz.ntmps113
        go_wp2_with (refine wpList_load_row rfl 185 (.tmp 3) rfl (w.heap.size + 1) rfl _ _ _ _ H0.B Tryz.underlying185 rfl (by kernel_rfl) ?_)
        refine (takes_7 r s n l _).mono ?_
        rintro e w1 ⟨rfl, hb1⟩
        have H1 := H0.below hb1
        have HRL := hide H1
        clear hb1 H0
        obtain ⟨⟨k1, k2, k3, k4, k5, k6⟩, k7, k8, k9, k10, k11⟩ := H1.cells hr hs
        clear H1
        rw [f2] at k2
        replace k7 : w1.cell? ⟨w.heap.size + 1, 0, none⟩ = some (.string ⟨#[105, 110]⟩) := k7
        go_wp2_with (refine wpList_load_row rfl 185 (.tmp 3) rfl (w.heap.size + 1) rfl _ _ _ _ HRL.out.B Tryz.underlying185 rfl (by kernel_rfl) ?_)
        clear k1 k2 k3 k4 k5 k6 k7 k8 k9 k10 k11
        refine (places_7 r s n l _).mono ?_
        rintro e w2 ⟨rfl, hb2⟩
        have H2 := HRL.out.below hb2
        have HRL := hide H2
        clear hb2
        obtain ⟨⟨k1, k2, k3, k4, k5, k6⟩, k7, k8, k9, k10, k11⟩ := H2.cells hr hs
        clear H2
        rw [f2] at k2
        go_wp2
        go_ret
        exact ⟨by rw [HM.out]; first | rfl | simp [*], HRL.out.b⟩
      · have HM : Hid (metR 7 c r s = false) := hide (by rw [hm]; simp [metF, f2, q1, q2])
        clear hm
        have q3 : 64 ≤ c.hi s := by omega
        go_enter Tryz.func113, Tryz.ntmps113
        go_wp2_with (refine wpList_load_row rfl 185 (.tmp 3) rfl (w.heap.size + 1) rfl _ _ _ _ H0.B Tryz.underlying185 rfl (by kernel_rfl) ?_)
        refine (takes_7 r s n l _).mono ?_
        rintro e w1 ⟨rfl, hb1⟩
        have H1 := H0.below hb1
        have HRL := hide H1
        clear hb1 H0
        obtain ⟨⟨k1, k2, k3, k4, k5, k6⟩, k7, k8, k9, k10, k11⟩ := H1.cells hr hs
        clear H1
        rw [f2] at k2
        replace k7 : w1.cell? ⟨w.heap.size + 1, 0, none⟩ = some (.string ⟨#[105, 110]⟩) := k7
        go_wp2_with (refine wpList_load_row rfl 185 (.tmp 3) rfl (w.heap.size + 1) rfl _ _ _ _ HRL.out.B Tryz.underlying185 rfl (by kernel_rfl) ?_)
        clear k1 k2 k3 k4 k5 k6 k7 k8 k9 k10 k11
        refine (places_7 r s n l _).mono ?_
        rintro e w2 ⟨rfl, hb2⟩
        have H2 := HRL.out.below hb2
        have HRL := hide H2
        clear hb2
        obtain ⟨⟨k1, k2, k3, k4, k5, k6⟩, k7, k8, k9, k10, k11⟩ := H2.cells hr hs
        clear H2
        rw [f2] at k2
        go_wp2
        go_ret
        exact ⟨by rw [HM.out]; first | rfl | simp [*], HRL.out.b⟩
    · have HM : Hid (metR 7 c r s = false) := hide (by rw [hm]; simp [metF, f2, q1])
      clear hm
      go_enter Tryz.func113, Tryz.ntmps113
      go_wp2_with (refine wpList_load_row rfl 185 (.tmp 3) rfl (w.heap.size + 1) rfl _ _ _ _ H0.B Tryz.underlying185 rfl (by kernel_rfl) ?_)
      refine (takes_7 r s n l _).mono ?_
      rintro e w1 ⟨rfl, hb1⟩
      have H1 := H0.below hb1
      have HRL := hide H1
      clear hb1 H0
      obtain ⟨⟨k1, k2, k3, k4, k5, k6⟩, k7, k8, k9, k10, k11⟩ := H1.cells hr hs
      clear H1
      rw [f2] at k2
      replace k7 : w1.cell? ⟨w.heap.size + 1, 0, none⟩ = some (.string ⟨#[105, 110]⟩) := k7
      go_wp2_with (refine wpList_load_row rfl 185 (.tmp 3) rfl (w.heap.size + 1) rfl _ _ _ _ HRL.out.B Tryz.underlying185 rfl (by kernel_rfl) ?_)
      clear k1 k2 k3 k4 k5 k6 k7 k8 k9 k10 k11
      refine (places_7 r s n l _).mono ?_
      rintro e w2 ⟨rfl, hb2⟩
      have H2 := HRL.out.below hb2
      have HRL := hide H2
      clear hb2
      obtain ⟨⟨k1, k2, k3, k4, k5, k6⟩, k7, k8, k9, k10, k11⟩ := H2.cells hr hs
      clear H2
      rw [f2] at k2
      go_wp2
      go_ret
      exact ⟨by rw [HM.out]; first | rfl | simp [*], HRL.out.b⟩
theorem metR_8 (c : Cl) (r s : Nat) : metR 8 c r s = metF false true (c.has r) (c.has s) (decide (0 ≤ c.lo s) && decide (c.hi s < 16)) := by
  have h1 : hasB (wTakes 8) 82 = false := by decide +kernel
  have h2 : hasB (wTakes 8) 83 = true := by decide +kernel
  unfold metR metW
  rw [h1, h2]
  rfl
set_option maxRecDepth 100000 in
set_option maxHeartbeats 4000000 in
theorem rmeets_8 (c : Cl) (r s : Nat) (hr : r < 8) (hs : s < 8) (n l : Int) (w : World) : Calls Tryz.prog 113 #[.agg (rcCells c), .agg (rlCells 8 r s n l)] w fun e w' => e = .returned (.bool (metR 8 c r s)) ∧ Below w.heap.size w w' := by
  have hrI : (r : Int) < 8 := by omega
  have hsI : (s : Int) < 8 := by omega
  have H0 := rl_mk w c 8 r s n l
  have hm := metR_8 c r s
  cases f2 : c.has s with
  | false =>
    have HM : Hid (metR 8 c r s = false) := hide (by rw [hm]; simp [metF, f2])
    clear hm
    go_enter Tryz.func113, Tryz.ntmps113
    go_wp2_with (refine wpList_load_row rfl 185 (.tmp 3) rfl (w.heap.size + 1) rfl _ _ _ _ H0.B Tryz.underlying185 rfl (by kernel_rfl) ?_)
    refine (takes_8 r s n l _).mono ?_
    rintro e w1 ⟨rfl, hb1⟩
    have H1 := H0.below hb1
    have HRL := hide H1
    clear hb1 H0
    obtain ⟨⟨k1, k2, k3, k4, k5, k6⟩, k7, k8, k9, k10, k11⟩ := H1.cells hr hs
    clear H1
    rw [f2] at k2
    replace k7 : w1.cell? ⟨w.heap.size + 1, 0, none⟩ = some (.string ⟨#[103, 101, 116]⟩) := k7
    go_wp2
    go_ret
    exact ⟨by rw [HM.out]; first | rfl | simp [*], HRL.out.b⟩
  | true =>
    by_cases q1 : 0 ≤ c.lo s
    · by_cases q2 : c.hi s < 16
      · have HM : Hid (metR 8 c r s = true) := hide (by rw [hm]; simp [metF, f2, q1, q2])
        clear hm
        go_enter Tryz.func113, Tryz.ntmps113
        go_wp2_with (refine wpList_load_row rfl 185 (.tmp 3) rfl (w.heap.size + 1) rfl _ _ _ _ H0.B Tryz.underlying185 rfl (by kernel_rfl) ?_)
        refine (takes_8 r s n l _).mono ?_
        rintro e w1 ⟨rfl, hb1⟩
        have H1 := H0.below hb1
        have HRL := hide H1
        clear hb1 H0
        obtain ⟨⟨k1, k2, k3, k4, k5, k6⟩, k7, k8, k9, k10, k11⟩ := H1.cells hr hs
        clear H1
        rw [f2] at k2
        replace k7 : w1.cell? ⟨w.heap.size + 1, 0, none⟩ = some (.string ⟨#[103, 101, 116]⟩) := k7
        go_wp2_with (refine wpList_load_row rfl 185 (.tmp 3) rfl (w.heap.size + 1) rfl _ _ _ _ HRL.out.B Tryz.underlying185 rfl (by kernel_rfl) ?_)
        clear k1 k2 k3 k4 k5 k6 k7 k8 k9 k10 k11
        refine (places_8 r s n l _).mono ?_
        rintro e w2 ⟨rfl, hb2⟩
        have H2 := HRL.out.below hb2
        have HRL := hide H2
        clear hb2
        obtain ⟨⟨k1, k2, k3, k4, k5, k6⟩, k7, k8, k9, k10, k11⟩ := H2.cells hr hs
        clear H2
        rw [f2] at k2
        go_wp2
        go_ret
        exact ⟨by rw [HM.out]; first | rfl | simp [*], HRL.out.b⟩
      · have HM : Hid (metR 8 c r s = false) := hide (by rw [hm]; simp [metF, f2, q1, q2])
        clear hm
        have q3 : 16 ≤ c.hi s := by omega
        go_enter Tryz.func113, Tryz.ntmps113
        go_wp2_with (refine wpList_load_row rfl 185 (.tmp 3) rfl (w.heap.size + 1) rfl _ _ _ _ H0.B Tryz.underlying185 rfl (by kernel_rfl) ?_)
        refine (takes_8 r s n l _).mono ?_
        rintro e w1 ⟨rfl, hb1⟩
        have H1 := H0.below hb1
        have HRL := hide H1
        clear hb1 H0
        obtain ⟨⟨k1, k2, k3, k4, k5, k6⟩, k7, k8, k9, k10, k11⟩ := H1.cells hr hs
        clear H1
        rw [f2] at k2
        replace k7 : w1.cell? ⟨w.heap.size + 1, 0, none⟩ = some (.string ⟨#[103, 101, 116]⟩) := k7
        go_wp2_with (refine wpList_load_row rfl 185 (.tmp 3) rfl (w.heap.size + 1) rfl _ _ _ _ HRL.out.B Tryz.underlying185 rfl (by kernel_rfl) ?_)
        clear k1 k2 k3 k4 k5 k6 k7 k8 k9 k10 k11
        refine (places_8 r s n l _).mono ?_
        rintro e w2 ⟨rfl, hb2⟩
        have H2 := HRL.out.below hb2
        have HRL := hide H2
        clear hb2
        obtain ⟨⟨k1, k2, k3, k4, k5, k6⟩, k7, k8, k9, k10, k11⟩ := H2.cells hr hs
        clear H2
        rw [f2] at k2
        go_wp2
        go_ret
        exact ⟨by rw [HM.out]; first | rfl | simp [*], HRL.out.b⟩
    · have HM : Hid (metR 8 c r s = false) := hide (by rw [hm]; simp [metF, f2, q1])
      clear hm
      go_enter Tryz.func113, Tryz.ntmps113
      go_wp2_with (refine wpList_load_row rfl 185 (.tmp 3) rfl (w.heap.size + 1) rfl _ _ _ _ H0.B Tryz.underlying185 rfl (by kernel_rfl) ?_)
      refine (takes_8 r s n l _).mono ?_
      rintro e w1 ⟨rfl, hb1⟩
      have H1 := H0.below hb1
      have HRL := hide H1
      clear hb1 H0
      obtain ⟨⟨k1, k2, k3, k4, k5, k6⟩, k7, k8, k9, k10, k11⟩ := H1.cells hr hs
      clear H1
      rw [f2] at k2
      replace k7 : w1.cell? ⟨w.heap.size + 1, 0, none⟩ = some (.string ⟨#[103, 101, 116]⟩) := k7
      go_wp2_with (refine wpList_load_row rfl 185 (.tmp 3) rfl (w.heap.size + 1) rfl _ _ _ _ HRL.out.B Tryz.underlying185 rfl (by kernel_rfl) ?_)
      clear k1 k2 k3 k4 k5 k6 k7 k8 k9 k10 k11
      refine (places_8 r s n l _).mono ?_
      rintro e w2 ⟨rfl, hb2⟩
      have H2 := HRL.out.below hb2
      have HRL := hide H2
      clear hb2
      obtain ⟨⟨k1, k2, k3, k4, k5, k6⟩, k7, k8, k9, k10, k11⟩ := H2.cells hr hs
      clear H2
      rw [f2] at k2
      go_wp2
      go_ret
      exact ⟨by rw [HM.out]; first | rfl | simp [*], HRL.out.b⟩
theorem metR_12 (c : Cl) (r s : Nat) : metR 12 c r s = metF true false (c.has r) (c.has s) (true) := by
  have h1 : hasB (wTakes 12) 82 = true := by decide +kernel
  have h2 : hasB (wTakes 12) 83 = false := by decide +kernel
  unfold metR metW
  rw [h1, h2]
  rfl
set_option maxRecDepth 100000 in
set_option maxHeartbeats 4000000 in
theorem rmeets_12 (c : Cl) (r s : Nat) (hr : r < 8) (hs : s < 8) (n l : Int) (w : World) : Calls Tryz.prog 113 #[.agg (rcCells c), .agg (rlCells 12 r s n l)] w fun e w' => e = .returned (.bool (metR 12 c r s)) ∧ Below w.heap.size w w' := by
  have hrI : (r : Int) < 8 := by omega
  have hsI : (s : Int) < 8 := by omega
  have H0 := rl_mk w c 12 r s n l
  have hm := metR_12 c r s
  cases f1 : c.has r with
  | false =>
    have HM : Hid (metR 12 c r s = false) := hide (by rw [hm]; simp [metF, f1])
    clear hm
    go_enter Tryz.func113, Tryz.ntmps113
    go_wp2_with (refine wpList_load_row rfl 185 (.tmp 3) rfl (w.heap.size + 1) rfl _ _ _ _ H0.B Tryz.underlying185 rfl (by kernel_rfl) ?_)
    refine (takes_12 r s n l _).mono ?_
    rintro e w1 ⟨rfl, hb1⟩
    have H1 := H0.below hb1
    have HRL := hide H1
    clear hb1 H0
    obtain ⟨⟨k1, k2, k3, k4, k5, k6⟩, k7, k8, k9, k10, k11⟩ := H1.cells hr hs
    clear H1
    rw [f1] at k1
    replace k7 : w1.cell? ⟨w.heap.size + 1, 0, none⟩ = some (.string ⟨#[111, 117, 116]⟩) := k7
    go_wp2
    go_ret
    exact ⟨by rw [HM.out]; first | rfl | simp [*], HRL.out.b⟩
  | true =>
    have HM : Hid (metR 12 c r s = true) := hide (by rw [hm]; simp [metF, f1])
    clear hm
    go_enter Tryz.func113, Tryz.ntmps113
    go_wp2_with (refine wpList_load_row rfl 185 (.tmp 3) rfl (w.heap.size + 1) rfl _ _ _ _ H0.B Tryz.underlying185 rfl (by kernel_rfl) ?_)
    refine (takes_12 r s n l _).mono ?_
    rintro e w1 ⟨rfl, hb1⟩
    have H1 := H0.below hb1
    have HRL := hide H1
    clear hb1 H0
    obtain ⟨⟨k1, k2, k3, k4, k5, k6⟩, k7, k8, k9, k10, k11⟩ := H1.cells hr hs
    clear H1
    rw [f1] at k1
    replace k7 : w1.cell? ⟨w.heap.size + 1, 0, none⟩ = some (.string ⟨#[111, 117, 116]⟩) := k7
    go_wp2_with (refine wpList_load_row rfl 185 (.tmp 3) rfl (w.heap.size + 1) rfl _ _ _ _ HRL.out.B Tryz.underlying185 rfl (by kernel_rfl) ?_)
    clear k1 k2 k3 k4 k5 k6 k7 k8 k9 k10 k11
    refine (places_12 r s n l _).mono ?_
    rintro e w2 ⟨rfl, hb2⟩
    have H2 := HRL.out.below hb2
    have HRL := hide H2
    clear hb2
    obtain ⟨⟨k1, k2, k3, k4, k5, k6⟩, k7, k8, k9, k10, k11⟩ := H2.cells hr hs
    clear H2
    rw [f1] at k1
    go_wp2
    go_ret
    exact ⟨by rw [HM.out]; first | rfl | simp [*], HRL.out.b⟩
theorem metR_13 (c : Cl) (r s : Nat) : metR 13 c r s = metF false false (c.has r) (c.has s) (true) := by
  have h1 : hasB (wTakes 13) 82 = false := by decide +kernel
  have h2 : hasB (wTakes 13) 83 = false := by decide +kernel
  unfold metR metW
  rw [h1, h2]
  rfl
set_option maxRecDepth 100000 in
set_option maxHeartbeats 4000000 in
theorem rmeets_13 (c : Cl) (r s : Nat) (hr : r < 8) (hs : s < 8) (n l : Int) (w : World) : Calls Tryz.prog 113 #[.agg (rcCells c), .agg (rlCells 13 r s n l)] w fun e w' => e = .returned (.bool (metR 13 c r s)) ∧ Below w.heap.size w w' := by
  have hrI : (r : Int) < 8 := by omega
  have hsI : (s : Int) < 8 := by omega
  have H0 := rl_mk w c 13 r s n l
  have hm := metR_13 c r s
  have HM : Hid (metR 13 c r s = true) := hide (by rw [hm]; simp [metF])
  clear hm
  go_enter Tryz.func113, Tryz.ntmps113
  go_wp2_with (refine wpList_load_row rfl 185 (.tmp 3) rfl (w.heap.size + 1) rfl _ _ _ _ H0.B Tryz.underlying185 rfl (by kernel_rfl) ?_)
  refine (takes_13 r s n l _).mono ?_
  rintro e w1 ⟨rfl, hb1⟩
  have H1 := H0.below hb1
  have HRL := hide H1
  clear hb1 H0
  obtain ⟨⟨k1, k2, k3, k4, k5, k6⟩, k7, k8, k9, k10, k11⟩ := H1.cells hr hs
  clear H1
  replace k7 : w1.cell? ⟨w.heap.size + 1, 0, none⟩ = some (.string ⟨#[106, 109, 112]⟩) := k7
  go_wp2_with (refine wpList_load_row rfl 185 (.tmp 3) rfl (w.heap.size + 1) rfl _ _ _ _ HRL.out.B Tryz.underlying185 rfl (by kernel_rfl) ?_)
  clear k1 k2 k3 k4 k5 k6 k7 k8 k9 k10 k11
  refine (places_13 r s n l _).mono ?_
  rintro e w2 ⟨rfl, hb2⟩
  have H2 := HRL.out.below hb2
  have HRL := hide H2
  clear hb2
  obtain ⟨⟨k1, k2, k3, k4, k5, k6⟩, k7, k8, k9, k10, k11⟩ := H2.cells hr hs
  clear H2
  go_wp2
  go_ret
  exact ⟨by rw [HM.out]; first | rfl | simp [*], HRL.out.b⟩
end Go.Proofs.YtngopilbpiplhaaGreatDoor
