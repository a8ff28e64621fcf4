/-
  The document's own answer: the ways out of jlt.
-/
import Derived.Test.YtngopilbpiplhaaGreatDoorZRfW1
import Derived.Deep.Cut
namespace Go.Proofs.YtngopilbpiplhaaGreatDoor
open Go.RowKit
set_option linter.unusedVariables false
set_option linter.unusedSimpArgs false
set_option maxRecDepth 100000 in
set_option maxHeartbeats 8000000 in
theorem rways_14tf (c : Cl) (r s : Nat) (hr : r < 8) (hs : s < 8) (n l : Int) (at_ : Nat) (hat : at_ < 1000) (hp : POk c) (hrs : r ≠ s) (q1 : c.lo s ≤ c.hi r) (q2 : ¬ c.lo r < c.hi s) (w : World) : Calls Tryz.prog 114 #[.agg (rcCells c), .agg (rlCells 14 r s n l), .int .i64 (at_ : Int)] w fun e w' => ∃ v, e = .returned v ∧ w'.ownsRow (w.heap.size + 2) 190 26 v ([((at_ : Int) + 1, (c.with_ r (max (c.lo r) (c.lo s)) (c.hi r)).with_ s (c.lo s) (min (c.hi s) (c.hi r)))]).length (wyL ([((at_ : Int) + 1, (c.with_ r (max (c.lo r) (c.lo s)) (c.hi r)).with_ s (c.lo s) (min (c.hi s) (c.hi r)))])) ∧ Below w.heap.size w w' := by
  have hrI : (r : Int) < 8 := by omega
  have hsI : (s : Int) < 8 := by omega
  have h1 := rc_lo c r hr
  have h2 := rc_hi c r hr
  have h3 := rc_lo c s hs
  have h4 := rc_hi c s hs
  have H0 := rl_mk w c 14 r s n l
  have hrs : ((r : Int) == (s : Int)) = false := by rw [beq_eq_false_iff_ne]; omega
  have p1 := hp r
  have p2 := hp s
  unfold SpOk at p1 p2
  have m1 : max (c.lo r) (c.lo s) ≤ c.hi r := by omega
  have m2 : c.lo s ≤ min (c.hi s) (c.hi r) := by omega
  have E3 : Hid (IntKind.i64.wrap ((at_ : Int) + 1) = (at_ : Int) + 1) := hide (wrap_k ((at_ : Int) + 1) (by omega) (by omega))
  clear p1 p2
  show Calls Tryz.prog 114 #[.agg (rcCells c), .agg #[.string ⟨#[106, 108, 116]⟩, .int .i64 r, .int .i64 s, .int .i64 n, .int .i64 l], .int .i64 (at_ : Int)] w _
  go_enter Tryz.func114, Tryz.ntmps114
  go_wp2_with fail
  refine (most_any (c.lo r) (c.lo s) _).mono ?_
  rintro e wx ⟨rfl, hw1⟩
  have HRwx : Hid (RL w c 14 r s n l wx) := hide (by rw [hw1]; exact H0)
  have HOwx : Hid (wx.ownsRow (w.heap.size + 2) 190 26 (.slice none 0 0) 0 []) := hide ⟨rfl, .inl ⟨rfl, rfl⟩⟩
  clear hw1 H0 h1 h2 h3 h4
  go_wp2_with fail
  refine (least_any (c.hi s) (c.hi r) _).mono ?_
  rintro e wq ⟨rfl, hwq⟩
  obtain rfl := hwq.symm
  clear hwq
  go_upto_region 18 with fail
  go_cut [13] from 17 (fun nv w' => ∃ nb : Nat, nv = .pointer (some ⟨nb, 0, none⟩) ∧ RL w c 14 r s n l w' ∧ w'.heap[nb]? = some (rcB (c.with_ r (max (c.lo r) (c.lo s)) (c.hi r))) ∧ w'.ownsRow (w.heap.size + 2) 190 26 (.slice none 0 0) 0 ([]))
  case first =>
    refine wp_region_held (S := RW w c 14 r s n l) mixed ?_
    have hb0 : Below wx.heap.size wx { wx with drawn := wx.drawn + 1 } := (Below.refl _ _).drew
    generalize ({ wx with drawn := wx.drawn + 1 } : World) = w0 at *
    have HE := hide (HRwx.out.below hb0)
    have HO := hide (ownsRow_below HOwx.out (fun g _ hg => hb0.block g hg))
    have HS := hide HE.out.w
    clear hb0 HRwx HOwx
    refine hT 0 88 rfl rfl (by kernel_rfl) (fun _ _ _ h => h) (yields_row (by kernel_rfl) 181 (.tmp 3) rfl (w.heap.size) (by kernel_rfl) (rcCells c) _ _ (fun w' h => h.A) Tryz.underlying181 rfl (by kernel_rfl)) HS.out ?_
    simp only [Act.put, zzA, zzB, zzC]
    refine hT 1 89 rfl rfl (by kernel_rfl) (fun _ _ _ h => h) (.inl ⟨by kernel_rfl, fun w' h => by go_simp; rfl⟩) HS.out ?_
    simp only [Act.put, zzA, zzB, zzC]
    refine hT 2 90 rfl rfl (by kernel_rfl) (fun _ _ _ h => h) (.inl ⟨by kernel_rfl, fun w' h => by have hc : w'.cell? ⟨w.heap.size + 1, 1, none⟩ = some (.int .i64 ((r : Int))) := cell_of_blk h.B 1; go_simp; rfl⟩) HS.out ?_
    simp only [Act.put, zzA, zzB, zzC]
    refine hT 3 91 rfl rfl (by kernel_rfl) (fun _ _ _ h => h) (.inl ⟨by kernel_rfl, fun w' h => by go_simp; rfl⟩) HS.out ?_
    simp only [Act.put, zzA, zzB, zzC]
    refine hT 4 92 rfl rfl (by kernel_rfl) (fun _ _ _ h => h) (.inl ⟨by kernel_rfl, fun w' h => by go_simp; rfl⟩) HS.out ?_
    simp only [Act.put, zzA, zzB, zzC]
    refine hT 6 94 rfl rfl (by kernel_rfl) (fun _ _ _ h => h) (.inl ⟨by kernel_rfl, fun w' h => by go_simp; rfl⟩) HS.out ?_
    simp only [Act.put, zzA, zzB, zzC]
    refine wpAnyH_all (rs := [5, 8]) (by kernel_rfl) (by simp) ?_
    intro jj hjj
    have hj2 : jj = 5 ∨ jj = 8 := by simpa using hjj
    clear hjj
    rcases hj2 with rfl | rfl
    · refine wpOp_call (some 93) rfl rfl (by kernel_rfl) (by go_simp; exact ⟨rfl, rfl⟩) ?_
      refine (most_any (c.lo r) (c.lo s) _).mono ?_
      rintro e wq ⟨rfl, hwq⟩
      obtain rfl := hwq.symm
      clear hwq
      refine ⟨_, rfl, HS.out, ?_⟩
      simp only [Act.put, zzA, zzB, zzC]
      refine wpAnyH_all (rs := [7, 8]) (by kernel_rfl) (by simp) ?_
      intro jj hjj
      have hj2 : jj = 7 ∨ jj = 8 := by simpa using hjj
      clear hjj
      rcases hj2 with rfl | rfl
      · refine wpOp_call (some 95) rfl rfl (by kernel_rfl) (by go_simp; exact ⟨rfl, rfl⟩) ?_
        refine (rput_any c r hr (max (c.lo r) (c.lo s)) (c.hi r) _).mono ?_
        rintro e wp1 ⟨rfl, hbn⟩
        have HEn := hide (HE.out.below hbn)
        have HOn := hide (ownsRow_below HO.out (fun g _ hg => hbn.block g hg))
        clear hbn HE HO HS
        have HE := HEn
        have HO := HOn
        have HS := hide HE.out.w
        clear HEn HOn
        refine ⟨_, rfl, HS.out, ?_⟩
        simp only [Act.put, zzA, zzB, zzC]
        refine wpAnyH_all (rs := [8]) (by kernel_rfl) (by simp) ?_
        intro jj hjj
        obtain rfl : jj = 8 := by simpa using hjj
        clear hjj
        refine wpOp_new (some 13) rfl rfl (by kernel_rfl) (exec_allocRc rfl) ?_
        have HAn := hide (blk_new wp1 (rcB clNone))
        have hbn : Below wp1.heap.size wp1 (wp1.alloc (rcB clNone)) := (Below.refl _ _).alloc (Nat.le_refl _) _
        have hnb : w.heap.size + 2 ≤ wp1.heap.size := HE.out.s
        have HEn := hide (HE.out.below hbn)
        have HOn := hide (ownsRow_below HO.out (fun g _ hg => hbn.block g hg))
        clear hbn HE HO HS
        generalize wp1.alloc (rcB clNone) = wal2 at *
        have HE := HEn
        have HO := HOn
        have HA := HAn
        have HS := hide HE.out.w
        clear HEn HOn HAn
        refine ⟨HS.out, ?_⟩
        simp only [Act.put, zzA, zzB, zzC]
        refine held_storeRow (i := 9) 181 (.tmp 13) (.tmp 95) (wp1.heap.size) (rcCells (c.with_ r (max (c.lo r) (c.lo s)) (c.hi r))) _ (by kernel_rfl) rfl (by kernel_rfl) rfl (by kernel_rfl) (by kernel_rfl) HA.out (by kernel_rfl) rfl (rc_one _) (HE.out.setRow _ hnb _).w rfl ?_
        intro ws hws
        have HEs : Hid (RL w c 14 r s n l ws) := hide (by rw [hws.out]; exact HE.out.setRow _ hnb _)
        have HNs : Hid (ws.heap[wp1.heap.size]? = some (rcB (c.with_ r (max (c.lo r) (c.lo s)) (c.hi r)))) := hide (by rw [hws.out]; exact setRow_heap _ _ _ _ _ _ HA.out)
        have HOs : Hid (ws.ownsRow (w.heap.size + 2) 190 26 (.slice none 0 0) 0 ([])) := hide (by rw [hws.out]; exact owns_setRow HO.out HA.out (by decide) _)
        clear hws HE HO HA HS
        refine wpAnyH_done (by kernel_rfl) ?_ _
        go_wp2_with fail
        go_meet
        case rel => exact ⟨_, rfl, HEs.out, HNs.out, HOs.out⟩
      · refine wpOp_new (some 13) rfl rfl (by kernel_rfl) (exec_allocRc rfl) ?_
        have HAn := hide (blk_new w0 (rcB clNone))
        have hbn : Below w0.heap.size w0 (w0.alloc (rcB clNone)) := (Below.refl _ _).alloc (Nat.le_refl _) _
        have hnb : w.heap.size + 2 ≤ w0.heap.size := HE.out.s
        have HEn := hide (HE.out.below hbn)
        have HOn := hide (ownsRow_below HO.out (fun g _ hg => hbn.block g hg))
        clear hbn HE HO HS
        generalize w0.alloc (rcB clNone) = wal3 at *
        have HE := HEn
        have HO := HOn
        have HA := HAn
        have HS := hide HE.out.w
        clear HEn HOn HAn
        refine ⟨HS.out, ?_⟩
        simp only [Act.put, zzA, zzB, zzC]
        refine held_call (i := 7) (some 95) (by kernel_rfl) rfl rfl (by kernel_rfl) (by go_simp; exact ⟨rfl, rfl⟩) ?_
        refine (rput_any c r hr (max (c.lo r) (c.lo s)) (c.hi r) _).mono ?_
        rintro e wp4 ⟨rfl, hbn⟩
        have HEn := hide (HE.out.below hbn)
        have HOn := hide (ownsRow_below HO.out (fun g _ hg => hbn.block g hg))
        have HAn := hide ((hbn.block _ (blk_lt HA.out)).trans HA.out)
        clear hbn HE HO HS HA
        have HE := HEn
        have HO := HOn
        have HA := HAn
        have HS := hide HE.out.w
        clear HEn HOn HAn
        refine ⟨_, rfl, HS.out, ?_⟩
        simp only [Act.put, zzA, zzB, zzC]
        refine held_storeRow (i := 9) 181 (.tmp 13) (.tmp 95) (w0.heap.size) (rcCells (c.with_ r (max (c.lo r) (c.lo s)) (c.hi r))) _ (by kernel_rfl) rfl (by kernel_rfl) rfl (by kernel_rfl) (by kernel_rfl) HA.out (by kernel_rfl) rfl (rc_one _) (HE.out.setRow _ hnb _).w rfl ?_
        intro ws hws
        have HEs : Hid (RL w c 14 r s n l ws) := hide (by rw [hws.out]; exact HE.out.setRow _ hnb _)
        have HNs : Hid (ws.heap[w0.heap.size]? = some (rcB (c.with_ r (max (c.lo r) (c.lo s)) (c.hi r)))) := hide (by rw [hws.out]; exact setRow_heap _ _ _ _ _ _ HA.out)
        have HOs : Hid (ws.ownsRow (w.heap.size + 2) 190 26 (.slice none 0 0) 0 ([])) := hide (by rw [hws.out]; exact owns_setRow HO.out HA.out (by decide) _)
        clear hws HE HO HA HS
        refine wpAnyH_done (by kernel_rfl) ?_ _
        go_wp2_with fail
        go_meet
        case rel => exact ⟨_, rfl, HEs.out, HNs.out, HOs.out⟩
    · refine wpOp_new (some 13) rfl rfl (by kernel_rfl) (exec_allocRc rfl) ?_
      have HAn := hide (blk_new w0 (rcB clNone))
      have hbn : Below w0.heap.size w0 (w0.alloc (rcB clNone)) := (Below.refl _ _).alloc (Nat.le_refl _) _
      have hnb : w.heap.size + 2 ≤ w0.heap.size := HE.out.s
      have HEn := hide (HE.out.below hbn)
      have HOn := hide (ownsRow_below HO.out (fun g _ hg => hbn.block g hg))
      clear hbn HE HO HS
      generalize w0.alloc (rcB clNone) = wal5 at *
      have HE := HEn
      have HO := HOn
      have HA := HAn
      have HS := hide HE.out.w
      clear HEn HOn HAn
      refine ⟨HS.out, ?_⟩
      simp only [Act.put, zzA, zzB, zzC]
      refine held_call (i := 5) (some 93) (by kernel_rfl) rfl rfl (by kernel_rfl) (by go_simp; exact ⟨rfl, rfl⟩) ?_
      refine (most_any (c.lo r) (c.lo s) _).mono ?_
      rintro e wq ⟨rfl, hwq⟩
      obtain rfl := hwq.symm
      clear hwq
      refine ⟨_, rfl, HS.out, ?_⟩
      simp only [Act.put, zzA, zzB, zzC]
      refine held_call (i := 7) (some 95) (by kernel_rfl) rfl rfl (by kernel_rfl) (by go_simp; exact ⟨rfl, rfl⟩) ?_
      refine (rput_any c r hr (max (c.lo r) (c.lo s)) (c.hi r) _).mono ?_
      rintro e wp6 ⟨rfl, hbn⟩
      have HEn := hide (HE.out.below hbn)
      have HOn := hide (ownsRow_below HO.out (fun g _ hg => hbn.block g hg))
      have HAn := hide ((hbn.block _ (blk_lt HA.out)).trans HA.out)
      clear hbn HE HO HS HA
      have HE := HEn
      have HO := HOn
      have HA := HAn
      have HS := hide HE.out.w
      clear HEn HOn HAn
      refine ⟨_, rfl, HS.out, ?_⟩
      simp only [Act.put, zzA, zzB, zzC]
      refine held_storeRow (i := 9) 181 (.tmp 13) (.tmp 95) (w0.heap.size) (rcCells (c.with_ r (max (c.lo r) (c.lo s)) (c.hi r))) _ (by kernel_rfl) rfl (by kernel_rfl) rfl (by kernel_rfl) (by kernel_rfl) HA.out (by kernel_rfl) rfl (rc_one _) (HE.out.setRow _ hnb _).w rfl ?_
      intro ws hws
      have HEs : Hid (RL w c 14 r s n l ws) := hide (by rw [hws.out]; exact HE.out.setRow _ hnb _)
      have HNs : Hid (ws.heap[w0.heap.size]? = some (rcB (c.with_ r (max (c.lo r) (c.lo s)) (c.hi r)))) := hide (by rw [hws.out]; exact setRow_heap _ _ _ _ _ _ HA.out)
      have HOs : Hid (ws.ownsRow (w.heap.size + 2) 190 26 (.slice none 0 0) 0 ([])) := hide (by rw [hws.out]; exact owns_setRow HO.out HA.out (by decide) _)
      clear hws HE HO HA HS
      refine wpAnyH_done (by kernel_rfl) ?_ _
      go_wp2_with fail
      go_meet
      case rel => exact ⟨_, rfl, HEs.out, HNs.out, HOs.out⟩
  case rest =>
    obtain ⟨nbwa1, rfl, hRx, hNx, hOx⟩ := hcut
    obtain ⟨wa1, hwa1⟩ : ∃ W : World, W = wc := ⟨_, rfl⟩
    subst hwa1
    have HRwa1 := hide hRx
    have HNwa1 := hide hNx
    have HOwa1 := hide hOx
    clear hRx hNx hOx HRwx HOwx
    go_wp2_with fail
    refine wp_region_held (S := RN w c 14 r s n l nbwa1 (c.with_ r (max (c.lo r) (c.lo s)) (c.hi r))) mixed ?_
    have hb0 : Below wa1.heap.size wa1 { wa1 with drawn := wa1.drawn + 1 } := (Below.refl _ _).drew
    generalize ({ wa1 with drawn := wa1.drawn + 1 } : World) = w0 at *
    have HE0 := hide (HRwa1.out.below hb0)
    have HO0 := hide (ownsRow_below HOwa1.out (fun g _ hg => hb0.block g hg))
    have HN0 := hide ((hb0.block _ (blk_lt HNwa1.out)).trans HNwa1.out)
    have HSa : Hid (RN w c 14 r s n l nbwa1 (c.with_ r (max (c.lo r) (c.lo s)) (c.hi r)) w0) := hide ⟨HE0.out.w, HN0.out⟩
    clear hb0 HRwa1 HOwa1 HNwa1
    refine hT 0 96 rfl rfl (by kernel_rfl) (fun _ _ _ h => h) (.inl ⟨by kernel_rfl, fun w' h => by go_simp; rfl⟩) HSa.out ?_
    simp only [Act.put, zzA, zzB, zzC]
    refine hT 1 97 rfl rfl (by kernel_rfl) (fun _ _ _ h => h) (.inl ⟨by kernel_rfl, fun w' h => by go_simp; rfl⟩) HSa.out ?_
    simp only [Act.put, zzA, zzB, zzC]
    refine hT 2 98 rfl rfl (by kernel_rfl) (fun _ _ _ h => h) (.inl ⟨by kernel_rfl, fun w' h => exec_addI (.tmp 97) (at_ : Int) ((at_ : Int) + 1) rfl (by kernel_rfl) E3.out⟩) HSa.out ?_
    simp only [Act.put, zzA, zzB, zzC]
    refine hT 3 99 rfl rfl (by kernel_rfl) (fun _ _ _ h => h) (yields_row (by kernel_rfl) 181 (.tmp 13) rfl (nbwa1) (by kernel_rfl) (rcCells (c.with_ r (max (c.lo r) (c.lo s)) (c.hi r))) _ _ (fun w' h => h.2) Tryz.underlying181 rfl (by kernel_rfl)) HSa.out ?_
    simp only [Act.put, zzA, zzB, zzC]
    refine hT 4 100 rfl rfl (by kernel_rfl) (fun _ _ _ h => h) (.inl ⟨by kernel_rfl, fun w' h => by go_simp; rfl⟩) HSa.out ?_
    simp only [Act.put, zzA, zzB, zzC]
    refine hT 5 101 rfl rfl (by kernel_rfl) (fun _ _ _ h => h) (.inl ⟨by kernel_rfl, fun w' h => by have hc : w'.cell? ⟨w.heap.size + 1, 2, none⟩ = some (.int .i64 ((s : Int))) := cell_of_blk h.1.B 2; go_simp; rfl⟩) HSa.out ?_
    simp only [Act.put, zzA, zzB, zzC]
    refine hT 6 102 rfl rfl (by kernel_rfl) (fun _ _ _ h => h) (.inl ⟨by kernel_rfl, fun w' h => by go_simp; rfl⟩) HSa.out ?_
    simp only [Act.put, zzA, zzB, zzC]
    refine hT 7 103 rfl rfl (by kernel_rfl) (fun _ _ _ h => h) (.inl ⟨by kernel_rfl, fun w' h => by go_simp; rfl⟩) HSa.out ?_
    simp only [Act.put, zzA, zzB, zzC]
    refine hT 8 104 rfl rfl (by kernel_rfl) (fun _ _ _ h => h) (.inl ⟨by kernel_rfl, fun w' h => by go_simp; rfl⟩) HSa.out ?_
    simp only [Act.put, zzA, zzB, zzC]
    refine held_call (i := 9) (some 105) (by kernel_rfl) rfl rfl (by kernel_rfl) (by go_simp; exact ⟨rfl, rfl⟩) ?_
    refine (least_any (c.hi s) (c.hi r) _).mono ?_
    rintro e wq ⟨rfl, hwq⟩
    obtain rfl := hwq.symm
    clear hwq
    refine ⟨_, rfl, HSa.out, ?_⟩
    simp only [Act.put, zzA, zzB, zzC]
    refine held_call (i := 10) (some 106) (by kernel_rfl) rfl rfl (by kernel_rfl) (by go_simp; exact ⟨rfl, rfl⟩) ?_
    refine (rput_any (c.with_ r (max (c.lo r) (c.lo s)) (c.hi r)) s hs (c.lo s) (min (c.hi s) (c.hi r)) _).mono ?_
    rintro e w9 ⟨rfl, hb9⟩
    have HE1 := hide (HE0.out.below hb9)
    have HO1 := hide (ownsRow_below HO0.out (fun g _ hg => hb9.block g hg))
    have HN1 := hide ((hb9.block _ (blk_lt HN0.out)).trans HN0.out)
    have HSb : Hid (RN w c 14 r s n l nbwa1 (c.with_ r (max (c.lo r) (c.lo s)) (c.hi r)) w9) := hide ⟨HE1.out.w, HN1.out⟩
    clear hb9 HE0 HO0 HN0 HSa
    refine ⟨_, rfl, HSb.out, ?_⟩
    simp only [Act.put, zzA, zzB, zzC]
    refine hT 11 107 rfl rfl (by kernel_rfl) (fun _ _ _ h => h) (.inl ⟨by kernel_rfl, fun w' h => exec_buildWy (.tmp 98) (.tmp 106) ((at_ : Int) + 1) ((c.with_ r (max (c.lo r) (c.lo s)) (c.hi r)).with_ s (c.lo s) (min (c.hi s) (c.hi r))) rfl (by kernel_rfl) (by kernel_rfl)⟩) HSb.out ?_
    simp only [Act.put, zzA, zzB, zzC]
    refine held_newv (i := 12) (some 108) (by kernel_rfl) rfl rfl (by kernel_rfl) (exec_buildSliceWy (.tmp 107) ((at_ : Int) + 1) ((c.with_ r (max (c.lo r) (c.lo s)) (c.hi r)).with_ s (c.lo s) (min (c.hi s) (c.hi r))) rfl (by kernel_rfl)) ⟨(HE1.out.alloc _).w, blk_alloc HN1.out _⟩ ?_
    intro wa hwa
    simp only [Act.put, zzA, zzB, zzC]
    have HEa : Hid (RL w c 14 r s n l wa) := hide (by rw [hwa.out]; exact HE1.out.alloc _)
    have HOa : Hid (wa.ownsRow (w.heap.size + 2) 190 26 (.slice none 0 0) 0 ([])) := hide (by rw [hwa.out]; exact HO1.out.alloc _)
    have HUa : Hid (wa.heap[w9.heap.size]? = some (.cells (wyC ((at_ : Int) + 1) ((c.with_ r (max (c.lo r) (c.lo s)) (c.hi r)).with_ s (c.lo s) (min (c.hi s) (c.hi r)))).toArray 190)) := hide (by rw [hwa.out]; exact blk_new _ _)
    have HNa : Hid (wa.heap[nbwa1]? = some (rcB (c.with_ r (max (c.lo r) (c.lo s)) (c.hi r)))) := hide (by rw [hwa.out]; exact blk_alloc HN1.out _)
    clear hwa HE1 HO1 HN1 HSb
    refine held_appWy (i := 13) (some 109) (by kernel_rfl) rfl rfl (by kernel_rfl) (.tmp 96) (.tmp 108) rfl (w.heap.size + 2) _ 0 ([]) (by kernel_rfl) HOa w9.heap.size ((at_ : Int) + 1) ((c.with_ r (max (c.lo r) (c.lo s)) (c.hi r)).with_ s (c.lo s) (min (c.hi s) (c.hi r))) (by kernel_rfl) HUa.out (by omega) (by have := HEa.out.s; omega) ?_
    intro vwb1 wb1 hO2 hG2
    have HRwb1 := hide (HEa.out.grown HOa.out hG2.out)
    have HNb := hide (grown_keep HOa.out hG2.out HNa.out (by decide))
    have HOwb1 := hO2
    clear hO2 hG2 HEa HOa HUa HNa
    have HSc : Hid (RN w c 14 r s n l nbwa1 (c.with_ r (max (c.lo r) (c.lo s)) (c.hi r)) wb1) := hide ⟨HRwb1.out.w, HNb.out⟩
    refine ⟨HSc.out, ?_⟩
    simp only [Act.put, zzA, zzB, zzC]
    refine hT 14 7 rfl rfl (by kernel_rfl) (fun _ _ _ h => h) (.inl ⟨by kernel_rfl, fun w' h => by go_simp; rfl⟩) HSc.out ?_
    simp only [Act.put, zzA, zzB, zzC]
    clear HSc HNb
    refine wpAnyH_done (by kernel_rfl) ?_ _
    go_wp2
    go_ret
    exact ⟨_, rfl, by have h := HOwb1.out; simpa [wyL] using h, HRwb1.out.b⟩
end Go.Proofs.YtngopilbpiplhaaGreatDoor
