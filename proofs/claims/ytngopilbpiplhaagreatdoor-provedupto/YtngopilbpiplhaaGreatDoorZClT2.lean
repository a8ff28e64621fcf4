/-
  The contract of a jump's closure: whatever narrows.
-/
import Derived.Test.YtngopilbpiplhaaGreatDoorZClT
namespace Go.Proofs.YtngopilbpiplhaaGreatDoor
open Go.RowKit
set_option maxRecDepth 100000 in
set_option maxHeartbeats 8000000 in
theorem turn_gen (f : FuncId) (hent : ∀ (args : Array Value) (w : World), (callFunc f args).run Tryz.prog w = .ok (.enter f args) w) (g : Bool) (L1 H1 L2 H2 : Int) (c : Cl) (x : Ln) (r s : Nat) (hx : x.r = (r : Int)) (hy : x.s = (s : Int)) (hr : r < 8) (hs : s < 8) (hrs : r ≠ s) (ca cn : Nat) (w : World)
    (hF : ∀ w : World, Calls Tryz.prog f #[spC (c.lo r) (c.hi r), spC (c.lo s) (c.hi s)] w fun e w' => e = .returned (.tuple #[spC L1 H1, spC L2 H2, .bool g]) ∧ Below w.heap.size w w') (hn : w.heap[cn]? = some (.cells #[.func (.func f) #[] #[]] 163)) :
    Calls Tryz.prog 154 #[.agg (clCells c), .agg (lnArr x), .pointer (some ⟨ca, 0, none⟩), .pointer (some ⟨cn, 0, none⟩)] w fun e w' => e = .returned (.agg (clCells (if g then (c.with_ r L1 H1).with_ s L2 H2 else clNever))) ∧ Below w.heap.size w w' := by
  have HN := hide hn
  have HF := hide hF
  clear hn hF
  have hne : ¬ (r : Int) = (s : Int) := by omega
  have u1 : (lnArr x)[1]? = some (.int .i64 r) := by unfold lnArr; rw [hx]; rfl
  have u2 : (lnArr x)[2]? = some (.int .i64 s) := by unfold lnArr; rw [hy]; rfl
  go_enter Tryz.func154, Tryz.ntmps154
  go_wp2_with fail
  clear u1 u2
  have ht := two_mk w c x (clB clNone)
  have hz := blk2 w (clB c) (lnB x) (clB clNone)
  change Code.wp _ _ _ _ (((w.alloc (clB c)).alloc (lnB x)).alloc (clB clNone))
  generalize ((w.alloc (clB c)).alloc (lnB x)).alloc (clB clNone) = W at *
  have HT := hide ht
  have HZ := hide hz
  clear ht hz
  refine Code.wp_mono (Q := fun e a' w' => e = .normal ∧ ∃ g1 g2 : Nat, a' = ⟨#[.agg (clCells c), .agg (lnArr x), .pointer (some ⟨ca, 0, none⟩), .pointer (some ⟨cn, 0, none⟩), .pointer (some ⟨w.heap.size, 0, none⟩), .pointer (some ⟨w.heap.size + 1, 0, none⟩), .pointer (some ⟨w.heap.size + 1 + 1, 0, none⟩), .pointer (some ⟨g1, 0, none⟩), .pointer (some ⟨g2, 0, none⟩), .bool g, .pointer (some ⟨w.heap.size + 1, 1, none⟩), .int .i64 r, .pointer (some ⟨w.heap.size + 1, 2, none⟩), .int .i64 s, .bool ((r : Int) == (s : Int)), undef, undef, undef, undef, .tuple #[spC (L1) (H1), spC (L2) (H2), .bool g], .func (.func f) #[] #[], .agg (clCells c), .pointer (some ⟨w.heap.size + 1, 1, none⟩), .int .i64 r, spC (c.lo r) (c.hi r), .agg (clCells c), .pointer (some ⟨w.heap.size + 1, 2, none⟩), .int .i64 s, spC (c.lo s) (c.hi s), .tuple #[spC (L1) (H1), spC (L2) (H2), .bool g], spC (L1) (H1), spC (L2) (H2), .bool g, undef, undef, undef, undef, undef, undef, undef, undef, undef, undef, undef, undef], []⟩ ∧ Two w c x w' ∧ w'.heap[w.heap.size + 1 + 1]? = some (clB clNone) ∧ w'.heap[g1]? = some (spB (L1) (H1)) ∧ w'.heap[g2]? = some (spB (L2) (H2))) ?rest ?_
  case rest =>
    rintro e a' w' ⟨rfl, g1, g2, rfl, hT, hZ, h1, h2⟩
    cases g with
    | false =>
      have HTr := hide hT
      have HZr := hide hZ
      clear hT hZ h1 h2
      go_wp2_with (first | (go_at_call 134; refine (Never_any _).mono ?_; rintro e w2 ⟨rfl, rfl⟩) | (refine wpList_storeCl rfl (.tmp 6) (.tmp 35) rfl (w.heap.size + 1 + 1) (clCells clNever) _ _ rfl rfl (blk_alloc HZr.out _) rfl rfl (cl_one _) ?_))
      intro v hv
      have hb : Below w.heap.size w v := by
        rw [hv.out]
        exact ((HTr.out.below ((Below.refl _ _).alloc (Nat.le_refl _) _)).setG _ (by omega) _).b
      have hg : v.heap[w.heap.size + 1 + 1]? = some (clB clNever) := by rw [hv.out]; exact setRow_heap _ _ _ _ _ _ (blk_alloc HZr.out _)
      clear hv
      go_wp2
      exact bodyPost_ret (results_cell_row rfl _ _ (w.heap.size + 1 + 1) 135 _ _ _ rfl hg Tryz.underlying135 rfl (by kernel_rfl)) rfl ⟨rfl, hb⟩
    | true =>
      have HTr := hide hT
      have HZr := hide hZ
      have H1r := hide h1
      have H2r := hide h2
      clear hT hZ h1 h2
      go_wp2_with fail
      let SS : World → Prop := fun v => Two w c x v ∧ v.heap[g1]? = some (spB (L1) (H1)) ∧ v.heap[g2]? = some (spB (L2) (H2))
      refine wp_region_held (S := SS) mixed ?_
      have hb0 : Below w'.heap.size w' { w' with drawn := w'.drawn + 1 } := (Below.refl _ _).drew
      generalize ({ w' with drawn := w'.drawn + 1 } : World) = z0 at *
      have HS0 := hide (show SS z0 from ⟨HTr.out.below hb0, (hb0.block _ (blk_lt H1r.out)).trans H1r.out, (hb0.block _ (blk_lt H2r.out)).trans H2r.out⟩)
      have HY0 := hide ((hb0.block _ (blk_lt HZr.out)).trans HZr.out)
      clear hb0
      refine hT 0 36 rfl rfl (by kernel_rfl) (fun _ _ _ h => h) (yields_row (by kernel_rfl) 135 (.tmp 4) rfl w.heap.size rfl (clCells c) _ _ (fun w' h => h.1.A) Tryz.underlying135 rfl (by kernel_rfl)) HS0.out ?_
      simp only [Act.put, zzA, zzB, zzC]
      refine hT 1 37 rfl rfl (by kernel_rfl) (fun _ _ _ h => h) (.inl ⟨by kernel_rfl, fun w' h => by go_simp; rfl⟩) HS0.out ?_
      simp only [Act.put, zzA, zzB, zzC]
      refine hT 2 38 rfl rfl (by kernel_rfl) (fun _ _ _ h => h) (.inl ⟨by kernel_rfl, fun w' h => by have hc := (cell_of_blk h.1.B 1 : w'.cell? ⟨w.heap.size + 1, 1, none⟩ = some (.int .i64 x.r)); go_simp; rfl⟩) HS0.out ?_
      simp only [Act.put, zzA, zzB, zzC]
      refine hT 3 39 rfl rfl (by kernel_rfl) (fun _ _ _ h => h) (.inl ⟨by kernel_rfl, fun w' h => by have hc := cell_of_blk h.2.1 0; have hd := cell_of_blk h.2.1 1; go_simp; rfl⟩) HS0.out ?_
      simp only [Act.put, zzA, zzB, zzC]
      refine hT 5 41 rfl rfl (by kernel_rfl) (fun _ _ _ h => h) (.inl ⟨by kernel_rfl, fun w' h => by go_simp; rfl⟩) HS0.out ?_
      simp only [Act.put, zzA, zzB, zzC]
      refine hT 6 42 rfl rfl (by kernel_rfl) (fun _ _ _ h => h) (.inl ⟨by kernel_rfl, fun w' h => by have hc := (cell_of_blk h.1.B 2 : w'.cell? ⟨w.heap.size + 1, 2, none⟩ = some (.int .i64 x.s)); go_simp; rfl⟩) HS0.out ?_
      simp only [Act.put, zzA, zzB, zzC]
      refine hT 7 43 rfl rfl (by kernel_rfl) (fun _ _ _ h => h) (.inl ⟨by kernel_rfl, fun w' h => by have hc := cell_of_blk h.2.2 0; have hd := cell_of_blk h.2.2 1; go_simp; rfl⟩) HS0.out ?_
      simp only [Act.put, zzA, zzB, zzC]
      refine held_call (i := 4) (some 40) (by kernel_rfl) rfl rfl (by kernel_rfl) (by go_simp; exact ⟨rfl, rfl⟩) ?_
      refine (With_any c r hr _ _ _).mono ?_
      rintro e z1 ⟨rfl, hw⟩
      have hb1 : Below z0.heap.size z0 z1 := by rw [hw]; exact ((((Below.refl _ _).alloc (Nat.le_refl _) _).alloc (by simp) _).alloc (by simp; omega) _).drew
      have HS1 := hide (show SS z1 from ⟨HS0.out.1.below hb1, (hb1.block _ (blk_lt HS0.out.2.1)).trans HS0.out.2.1, (hb1.block _ (blk_lt HS0.out.2.2)).trans HS0.out.2.2⟩)
      have HY1 := hide ((hb1.block _ (blk_lt HY0.out)).trans HY0.out)
      clear hw hb1
      refine ⟨_, rfl, HS1.out, ?_⟩
      simp only [Act.put, zzA, zzB, zzC]
      refine held_call (i := 8) (some 44) (by kernel_rfl) rfl rfl (by kernel_rfl) (by go_simp; exact ⟨rfl, rfl⟩) ?_
      refine (With_any (c.with_ r (L1) (H1)) s hs _ _ _).mono ?_
      rintro e z2 ⟨rfl, hw⟩
      have hb2 : Below z1.heap.size z1 z2 := by rw [hw]; exact ((((Below.refl _ _).alloc (Nat.le_refl _) _).alloc (by simp) _).alloc (by simp; omega) _).drew
      have HS2 := hide (show SS z2 from ⟨HS1.out.1.below hb2, (hb2.block _ (blk_lt HS1.out.2.1)).trans HS1.out.2.1, (hb2.block _ (blk_lt HS1.out.2.2)).trans HS1.out.2.2⟩)
      have HY2 := hide ((hb2.block _ (blk_lt HY1.out)).trans HY1.out)
      clear hw hb2
      refine ⟨_, rfl, HS2.out, ?_⟩
      simp only [Act.put, zzA, zzB, zzC]
      have hg1 : w.heap.size + 1 + 1 ≠ g1 := fun e => by have h1 := HS2.out.2.1; rw [← e, HY2.out] at h1; exact absurd h1 (by simp)
      have hg2 : w.heap.size + 1 + 1 ≠ g2 := fun e => by have h1 := HS2.out.2.2; rw [← e, HY2.out] at h1; exact absurd h1 (by simp)
      refine held_storeCl (i := 9) (.tmp 6) (.tmp 44) (w.heap.size + 1 + 1) (clCells ((c.with_ r (L1) (H1)).with_ s (L2) (H2))) _ (by kernel_rfl) rfl (by kernel_rfl) rfl (by kernel_rfl) (by kernel_rfl) HY2.out (cl_size _) (cl_size _) (cl_one _) ⟨HS2.out.1.setG _ (by omega) _, (setRow_other _ _ _ _ hg1.symm).trans HS2.out.2.1, (setRow_other _ _ _ _ hg2.symm).trans HS2.out.2.2⟩ rfl ?_
      intro v hv
      have hg : v.heap[w.heap.size + 1 + 1]? = some (clB ((c.with_ r (L1) (H1)).with_ s (L2) (H2))) := by rw [hv.out]; exact setRow_heap _ _ _ _ _ _ HY2.out
      have hb : Below w.heap.size w v := by rw [hv.out]; exact (HS2.out.1.setG _ (by omega) _).b
      clear hv
      refine wpAnyH_done (by kernel_rfl) ?_ _
      go_wp2
      exact bodyPost_ret (results_cell_row rfl _ _ (w.heap.size + 1 + 1) 135 _ _ _ rfl hg Tryz.underlying135 rfl (by kernel_rfl)) rfl ⟨rfl, hb⟩
  refine wp_region_held (S := Two w c x) mixed ?_
  have hb0 : Below W.heap.size W { W with drawn := W.drawn + 1 } := (Below.refl _ _).drew
  generalize ({ W with drawn := W.drawn + 1 } : World) = y0 at *
  have HT0 := hide (HT.out.below hb0)
  have HZ0 := hide ((hb0.block _ (blk_lt HZ.out)).trans HZ.out)
  clear hb0
  refine hT 0 20 rfl rfl (by kernel_rfl) (fun _ _ _ h => absurd h.1 (by simp)) (.inl ⟨by kernel_rfl, fun w' h => by have hc := (cell_of_blk (h.old HN.out) 0 : w'.cell? ⟨cn, 0, none⟩ = some (.func (.func f) #[] #[])); go_simp; rfl⟩) HT0.out ?_
  simp only [Act.put, zzA, zzB, zzC]
  refine hT 1 21 rfl rfl (by kernel_rfl) (fun _ _ _ h => absurd h.1 (by simp)) (yields_row (by kernel_rfl) 135 (.tmp 4) rfl w.heap.size rfl (clCells c) _ _ (fun w' h => h.A) Tryz.underlying135 rfl (by kernel_rfl)) HT0.out ?_
  simp only [Act.put, zzA, zzB, zzC]
  refine hT 2 22 rfl rfl (by kernel_rfl) (fun _ _ _ h => absurd h.1 (by simp)) (.inl ⟨by kernel_rfl, fun w' h => by go_simp; rfl⟩) HT0.out ?_
  simp only [Act.put, zzA, zzB, zzC]
  refine hT 3 23 rfl rfl (by kernel_rfl) (fun _ _ _ h => absurd h.1 (by simp)) (.inl ⟨by kernel_rfl, fun w' h => by have hc := (cell_of_blk h.B 1 : w'.cell? ⟨w.heap.size + 1, 1, none⟩ = some (.int .i64 x.r)); go_simp; rfl⟩) HT0.out ?_
  simp only [Act.put, zzA, zzB, zzC]
  refine hT 5 25 rfl rfl (by kernel_rfl) (fun _ _ _ h => absurd h.1 (by simp)) (yields_row (by kernel_rfl) 135 (.tmp 4) rfl w.heap.size rfl (clCells c) _ _ (fun w' h => h.A) Tryz.underlying135 rfl (by kernel_rfl)) HT0.out ?_
  simp only [Act.put, zzA, zzB, zzC]
  refine hT 6 26 rfl rfl (by kernel_rfl) (fun _ _ _ h => absurd h.1 (by simp)) (.inl ⟨by kernel_rfl, fun w' h => by go_simp; rfl⟩) HT0.out ?_
  simp only [Act.put, zzA, zzB, zzC]
  refine hT 7 27 rfl rfl (by kernel_rfl) (fun _ _ _ h => absurd h.1 (by simp)) (.inl ⟨by kernel_rfl, fun w' h => by have hc := (cell_of_blk h.B 2 : w'.cell? ⟨w.heap.size + 1, 2, none⟩ = some (.int .i64 x.s)); go_simp; rfl⟩) HT0.out ?_
  simp only [Act.put, zzA, zzB, zzC]
  refine wpAnyH_all (rs := [4, 14, 15]) (by kernel_rfl) (by simp) ?_
  intro i hi
  have hi' : i = 4 ∨ i = 14 ∨ i = 15 := by simpa using hi
  clear hi
  rcases hi' with rfl | rfl | rfl
  · refine wpOp_call (some 24) rfl rfl (by kernel_rfl) (by go_simp; exact ⟨rfl, rfl⟩) ?_
    refine (Span_any c r hr _).mono ?_
    rintro e y1 ⟨rfl, hw⟩
    have hb1 : Below y0.heap.size y0 y1 := by rw [hw]; exact ((Below.refl _ _).alloc (Nat.le_refl _) _).alloc (by simp) _
    clear hw
    have HT1 := hide (HT0.out.below hb1)
    have HZ1 := hide ((hb1.block _ (blk_lt HZ0.out)).trans HZ0.out)
    have hs1 := hb1.size
    clear hb1
    refine ⟨_, rfl, HT1.out, ?_⟩
    simp only [Act.put, zzA, zzB, zzC]
    refine wpAnyH_all (rs := [8, 14, 15]) (by kernel_rfl) (by simp) ?_
    intro i hi
    have hi' : i = 8 ∨ i = 14 ∨ i = 15 := by simpa using hi
    clear hi
    rcases hi' with rfl | rfl | rfl
    · refine wpOp_call (some 28) rfl rfl (by kernel_rfl) (by go_simp; exact ⟨rfl, rfl⟩) ?_
      refine (Span_any c s hs _).mono ?_
      rintro e y2 ⟨rfl, hw⟩
      have hb2 : Below y1.heap.size y1 y2 := by rw [hw]; exact ((Below.refl _ _).alloc (Nat.le_refl _) _).alloc (by simp) _
      clear hw
      have HT2 := hide (HT1.out.below hb2)
      have HZ2 := hide ((hb2.block _ (blk_lt HZ1.out)).trans HZ1.out)
      have hs2 := hb2.size
      clear hb2
      refine ⟨_, rfl, HT2.out, ?_⟩
      simp only [Act.put, zzA, zzB, zzC]
      refine wpAnyH_all (rs := [9, 14, 15]) (by kernel_rfl) (by simp) ?_
      intro i hi
      have hi' : i = 9 ∨ i = 14 ∨ i = 15 := by simpa using hi
      clear hi
      rcases hi' with rfl | rfl | rfl
      · refine wpOp_call (some 29) rfl rfl (by kernel_rfl) (by go_simp; exact ⟨rfl, rfl⟩) ?_
        refine (HF.out _).mono ?_
        rintro e y3 ⟨rfl, hb3⟩
        have HT3 := hide (HT2.out.below hb3)
        have HZ3 := hide ((hb3.block _ (blk_lt HZ2.out)).trans HZ2.out)
        have hs3 := hb3.size
        clear hb3
        refine ⟨_, rfl, HT3.out, ?_⟩
        simp only [Act.put, zzA, zzB, zzC]
        refine hT 10 19 rfl rfl (by kernel_rfl) (fun _ _ _ h => absurd h.1 (by simp)) (.inl ⟨by kernel_rfl, fun w' h => by go_simp; rfl⟩) HT3.out ?_
        simp only [Act.put, zzA, zzB, zzC]
        refine hT 11 30 rfl rfl (by kernel_rfl) (fun _ _ _ h => absurd h.1 (by simp)) (.inl ⟨by kernel_rfl, fun w' h => by go_simp; rfl⟩) HT3.out ?_
        simp only [Act.put, zzA, zzB, zzC]
        refine hT 12 31 rfl rfl (by kernel_rfl) (fun _ _ _ h => absurd h.1 (by simp)) (.inl ⟨by kernel_rfl, fun w' h => by go_simp; rfl⟩) HT3.out ?_
        simp only [Act.put, zzA, zzB, zzC]
        refine hT 13 32 rfl rfl (by kernel_rfl) (fun _ _ _ h => absurd h.1 (by simp)) (.inl ⟨by kernel_rfl, fun w' h => by go_simp; rfl⟩) HT3.out ?_
        simp only [Act.put, zzA, zzB, zzC]
        refine wpAnyH_all (rs := [14, 15]) (by kernel_rfl) (by simp) ?_
        intro i hi
        have hi' : i = 14 ∨ i = 15 := by simpa using hi
        clear hi
        rcases hi' with rfl | rfl
        · refine wpOp_new (some 7) rfl rfl (by kernel_rfl) (exec_allocSp rfl) ?_
          have hb4 : Below y3.heap.size y3 (y3.alloc (spB 0 0)) := (Below.refl _ _).alloc (Nat.le_refl _) _
          have HM14_4 := hide (blk_new y3 (spB 0 0))
          have hp4 : y3.heap.size < (y3.alloc (spB 0 0)).heap.size := by simp
          generalize y3.alloc (spB 0 0) = y4 at *
          have HT4 := hide (HT3.out.below hb4)
          have HZ4 := hide ((hb4.block _ (blk_lt HZ3.out)).trans HZ3.out)
          have hs4 := hb4.size
          clear hb4
          refine ⟨HT4.out, ?_⟩
          simp only [Act.put, zzA, zzB, zzC]
          refine wpAnyH_all (rs := [15]) (by kernel_rfl) (by simp) ?_
          intro i hi
          have hi' : i = 15 := by simpa using hi
          clear hi
          subst hi'
          refine wpOp_new (some 8) rfl rfl (by kernel_rfl) (exec_allocSp rfl) ?_
          have hb5 : Below y4.heap.size y4 (y4.alloc (spB 0 0)) := (Below.refl _ _).alloc (Nat.le_refl _) _
          have HM15_5 := hide (blk_new y4 (spB 0 0))
          have hp5 : y4.heap.size < (y4.alloc (spB 0 0)).heap.size := by simp
          generalize y4.alloc (spB 0 0) = y5 at *
          have HT5 := hide (HT4.out.below hb5)
          have HZ5 := hide ((hb5.block _ (blk_lt HZ4.out)).trans HZ4.out)
          have hs5 := hb5.size
          have HM14_5 := hide ((hb5.block _ (blk_lt HM14_4.out)).trans HM14_4.out)
          clear hb5
          refine ⟨HT5.out, ?_⟩
          simp only [Act.put, zzA, zzB, zzC]
          have hs0' := HT0.out.s
          refine held_storeSp (i := 16) (.tmp 7) (.tmp 30) (y3.heap.size) #[.int .i64 (L1), .int .i64 (H1)] _ (by kernel_rfl) rfl (by kernel_rfl) rfl (by kernel_rfl) (by kernel_rfl) HM14_5.out rfl rfl (by simp [Value.oneCell']) (HT5.out.setG _ (by omega) _) rfl ?_
          intro v1 hv1
          refine held_storeSp (i := 17) (.tmp 8) (.tmp 31) (y4.heap.size) #[.int .i64 (L2), .int .i64 (H2)] _ (by kernel_rfl) rfl (by kernel_rfl) rfl (by kernel_rfl) (by kernel_rfl) (by rw [hv1.out, setRow_other _ _ _ _ (by omega)]; exact HM15_5.out) rfl rfl (by simp [Value.oneCell']) (by rw [hv1.out]; exact (HT5.out.setG _ (by omega) _).setG _ (by omega) _) rfl ?_
          intro v2 hv2
          have hT2 : Two w c x v2 := by rw [hv2.out, hv1.out]; exact (HT5.out.setG _ (by omega) _).setG _ (by omega) _
          have hZ2 : v2.heap[w.heap.size + 1 + 1]? = some (clB clNone) := by rw [hv2.out, setRow_other _ _ _ _ (by omega), hv1.out, setRow_other _ _ _ _ (by omega)]; exact HZ5.out
          have h1 : v2.heap[y3.heap.size]? = some (spB (L1) (H1)) := by rw [hv2.out, setRow_other _ _ _ _ (by omega), hv1.out]; exact setRow_heap _ _ _ _ _ _ HM14_5.out
          have h2 : v2.heap[y4.heap.size]? = some (spB (L2) (H2)) := by rw [hv2.out]; exact setRow_heap _ _ _ _ _ _ (by rw [hv1.out, setRow_other _ _ _ _ (by omega)]; exact HM15_5.out)
          clear hv1 hv2
          refine hT 18 9 rfl rfl (by kernel_rfl) (fun _ _ _ h => absurd h.1 (by simp)) (.inl ⟨by kernel_rfl, fun w' h => by go_simp; rfl⟩) hT2 ?_
          simp only [Act.put, zzA, zzB, zzC]
          refine wpAnyH_done (by kernel_rfl) ?_ _
          exact ⟨rfl, y3.heap.size, y4.heap.size, rfl, hT2, hZ2, h1, h2⟩
        · refine wpOp_new (some 8) rfl rfl (by kernel_rfl) (exec_allocSp rfl) ?_
          have hb4 : Below y3.heap.size y3 (y3.alloc (spB 0 0)) := (Below.refl _ _).alloc (Nat.le_refl _) _
          have HM15_4 := hide (blk_new y3 (spB 0 0))
          have hp4 : y3.heap.size < (y3.alloc (spB 0 0)).heap.size := by simp
          generalize y3.alloc (spB 0 0) = y4 at *
          have HT4 := hide (HT3.out.below hb4)
          have HZ4 := hide ((hb4.block _ (blk_lt HZ3.out)).trans HZ3.out)
          have hs4 := hb4.size
          clear hb4
          refine ⟨HT4.out, ?_⟩
          simp only [Act.put, zzA, zzB, zzC]
          refine wpAnyH_all (rs := [14]) (by kernel_rfl) (by simp) ?_
          intro i hi
          have hi' : i = 14 := by simpa using hi
          clear hi
          subst hi'
          refine wpOp_new (some 7) rfl rfl (by kernel_rfl) (exec_allocSp rfl) ?_
          have hb5 : Below y4.heap.size y4 (y4.alloc (spB 0 0)) := (Below.refl _ _).alloc (Nat.le_refl _) _
          have HM14_5 := hide (blk_new y4 (spB 0 0))
          have hp5 : y4.heap.size < (y4.alloc (spB 0 0)).heap.size := by simp
          generalize y4.alloc (spB 0 0) = y5 at *
          have HT5 := hide (HT4.out.below hb5)
          have HZ5 := hide ((hb5.block _ (blk_lt HZ4.out)).trans HZ4.out)
          have hs5 := hb5.size
          have HM15_5 := hide ((hb5.block _ (blk_lt HM15_4.out)).trans HM15_4.out)
          clear hb5
          refine ⟨HT5.out, ?_⟩
          simp only [Act.put, zzA, zzB, zzC]
          have hs0' := HT0.out.s
          refine held_storeSp (i := 16) (.tmp 7) (.tmp 30) (y4.heap.size) #[.int .i64 (L1), .int .i64 (H1)] _ (by kernel_rfl) rfl (by kernel_rfl) rfl (by kernel_rfl) (by kernel_rfl) HM14_5.out rfl rfl (by simp [Value.oneCell']) (HT5.out.setG _ (by omega) _) rfl ?_
          intro v1 hv1
          refine held_storeSp (i := 17) (.tmp 8) (.tmp 31) (y3.heap.size) #[.int .i64 (L2), .int .i64 (H2)] _ (by kernel_rfl) rfl (by kernel_rfl) rfl (by kernel_rfl) (by kernel_rfl) (by rw [hv1.out, setRow_other _ _ _ _ (by omega)]; exact HM15_5.out) rfl rfl (by simp [Value.oneCell']) (by rw [hv1.out]; exact (HT5.out.setG _ (by omega) _).setG _ (by omega) _) rfl ?_
          intro v2 hv2
          have hT2 : Two w c x v2 := by rw [hv2.out, hv1.out]; exact (HT5.out.setG _ (by omega) _).setG _ (by omega) _
          have hZ2 : v2.heap[w.heap.size + 1 + 1]? = some (clB clNone) := by rw [hv2.out, setRow_other _ _ _ _ (by omega), hv1.out, setRow_other _ _ _ _ (by omega)]; exact HZ5.out
          have h1 : v2.heap[y4.heap.size]? = some (spB (L1) (H1)) := by rw [hv2.out, setRow_other _ _ _ _ (by omega), hv1.out]; exact setRow_heap _ _ _ _ _ _ HM14_5.out
          have h2 : v2.heap[y3.heap.size]? = some (spB (L2) (H2)) := by rw [hv2.out]; exact setRow_heap _ _ _ _ _ _ (by rw [hv1.out, setRow_other _ _ _ _ (by omega)]; exact HM15_5.out)
          clear hv1 hv2
          refine hT 18 9 rfl rfl (by kernel_rfl) (fun _ _ _ h => absurd h.1 (by simp)) (.inl ⟨by kernel_rfl, fun w' h => by go_simp; rfl⟩) hT2 ?_
          simp only [Act.put, zzA, zzB, zzC]
          refine wpAnyH_done (by kernel_rfl) ?_ _
          exact ⟨rfl, y4.heap.size, y3.heap.size, rfl, hT2, hZ2, h1, h2⟩
      · refine wpOp_new (some 7) rfl rfl (by kernel_rfl) (exec_allocSp rfl) ?_
        have hb3 : Below y2.heap.size y2 (y2.alloc (spB 0 0)) := (Below.refl _ _).alloc (Nat.le_refl _) _
        have HM14_3 := hide (blk_new y2 (spB 0 0))
        have hp3 : y2.heap.size < (y2.alloc (spB 0 0)).heap.size := by simp
        generalize y2.alloc (spB 0 0) = y3 at *
        have HT3 := hide (HT2.out.below hb3)
        have HZ3 := hide ((hb3.block _ (blk_lt HZ2.out)).trans HZ2.out)
        have hs3 := hb3.size
        clear hb3
        refine ⟨HT3.out, ?_⟩
        simp only [Act.put, zzA, zzB, zzC]
        refine wpAnyH_all (rs := [9, 15]) (by kernel_rfl) (by simp) ?_
        intro i hi
        have hi' : i = 9 ∨ i = 15 := by simpa using hi
        clear hi
        rcases hi' with rfl | rfl
        · refine wpOp_call (some 29) rfl rfl (by kernel_rfl) (by go_simp; exact ⟨rfl, rfl⟩) ?_
          refine (HF.out _).mono ?_
          rintro e y4 ⟨rfl, hb4⟩
          have HT4 := hide (HT3.out.below hb4)
          have HZ4 := hide ((hb4.block _ (blk_lt HZ3.out)).trans HZ3.out)
          have hs4 := hb4.size
          have HM14_4 := hide ((hb4.block _ (blk_lt HM14_3.out)).trans HM14_3.out)
          clear hb4
          refine ⟨_, rfl, HT4.out, ?_⟩
          simp only [Act.put, zzA, zzB, zzC]
          refine hT 10 19 rfl rfl (by kernel_rfl) (fun _ _ _ h => absurd h.1 (by simp)) (.inl ⟨by kernel_rfl, fun w' h => by go_simp; rfl⟩) HT4.out ?_
          simp only [Act.put, zzA, zzB, zzC]
          refine hT 11 30 rfl rfl (by kernel_rfl) (fun _ _ _ h => absurd h.1 (by simp)) (.inl ⟨by kernel_rfl, fun w' h => by go_simp; rfl⟩) HT4.out ?_
          simp only [Act.put, zzA, zzB, zzC]
          refine hT 12 31 rfl rfl (by kernel_rfl) (fun _ _ _ h => absurd h.1 (by simp)) (.inl ⟨by kernel_rfl, fun w' h => by go_simp; rfl⟩) HT4.out ?_
          simp only [Act.put, zzA, zzB, zzC]
          refine hT 13 32 rfl rfl (by kernel_rfl) (fun _ _ _ h => absurd h.1 (by simp)) (.inl ⟨by kernel_rfl, fun w' h => by go_simp; rfl⟩) HT4.out ?_
          simp only [Act.put, zzA, zzB, zzC]
          refine wpAnyH_all (rs := [15]) (by kernel_rfl) (by simp) ?_
          intro i hi
          have hi' : i = 15 := by simpa using hi
          clear hi
          subst hi'
          refine wpOp_new (some 8) rfl rfl (by kernel_rfl) (exec_allocSp rfl) ?_
          have hb5 : Below y4.heap.size y4 (y4.alloc (spB 0 0)) := (Below.refl _ _).alloc (Nat.le_refl _) _
          have HM15_5 := hide (blk_new y4 (spB 0 0))
          have hp5 : y4.heap.size < (y4.alloc (spB 0 0)).heap.size := by simp
          generalize y4.alloc (spB 0 0) = y5 at *
          have HT5 := hide (HT4.out.below hb5)
          have HZ5 := hide ((hb5.block _ (blk_lt HZ4.out)).trans HZ4.out)
          have hs5 := hb5.size
          have HM14_5 := hide ((hb5.block _ (blk_lt HM14_4.out)).trans HM14_4.out)
          clear hb5
          refine ⟨HT5.out, ?_⟩
          simp only [Act.put, zzA, zzB, zzC]
          have hs0' := HT0.out.s
          refine held_storeSp (i := 16) (.tmp 7) (.tmp 30) (y2.heap.size) #[.int .i64 (L1), .int .i64 (H1)] _ (by kernel_rfl) rfl (by kernel_rfl) rfl (by kernel_rfl) (by kernel_rfl) HM14_5.out rfl rfl (by simp [Value.oneCell']) (HT5.out.setG _ (by omega) _) rfl ?_
          intro v1 hv1
          refine held_storeSp (i := 17) (.tmp 8) (.tmp 31) (y4.heap.size) #[.int .i64 (L2), .int .i64 (H2)] _ (by kernel_rfl) rfl (by kernel_rfl) rfl (by kernel_rfl) (by kernel_rfl) (by rw [hv1.out, setRow_other _ _ _ _ (by omega)]; exact HM15_5.out) rfl rfl (by simp [Value.oneCell']) (by rw [hv1.out]; exact (HT5.out.setG _ (by omega) _).setG _ (by omega) _) rfl ?_
          intro v2 hv2
          have hT2 : Two w c x v2 := by rw [hv2.out, hv1.out]; exact (HT5.out.setG _ (by omega) _).setG _ (by omega) _
          have hZ2 : v2.heap[w.heap.size + 1 + 1]? = some (clB clNone) := by rw [hv2.out, setRow_other _ _ _ _ (by omega), hv1.out, setRow_other _ _ _ _ (by omega)]; exact HZ5.out
          have h1 : v2.heap[y2.heap.size]? = some (spB (L1) (H1)) := by rw [hv2.out, setRow_other _ _ _ _ (by omega), hv1.out]; exact setRow_heap _ _ _ _ _ _ HM14_5.out
          have h2 : v2.heap[y4.heap.size]? = some (spB (L2) (H2)) := by rw [hv2.out]; exact setRow_heap _ _ _ _ _ _ (by rw [hv1.out, setRow_other _ _ _ _ (by omega)]; exact HM15_5.out)
          clear hv1 hv2
          refine hT 18 9 rfl rfl (by kernel_rfl) (fun _ _ _ h => absurd h.1 (by simp)) (.inl ⟨by kernel_rfl, fun w' h => by go_simp; rfl⟩) hT2 ?_
          simp only [Act.put, zzA, zzB, zzC]
          refine wpAnyH_done (by kernel_rfl) ?_ _
          exact ⟨rfl, y2.heap.size, y4.heap.size, rfl, hT2, hZ2, h1, h2⟩
        · refine wpOp_new (some 8) rfl rfl (by kernel_rfl) (exec_allocSp rfl) ?_
          have hb4 : Below y3.heap.size y3 (y3.alloc (spB 0 0)) := (Below.refl _ _).alloc (Nat.le_refl _) _
          have HM15_4 := hide (blk_new y3 (spB 0 0))
          have hp4 : y3.heap.size < (y3.alloc (spB 0 0)).heap.size := by simp
          generalize y3.alloc (spB 0 0) = y4 at *
          have HT4 := hide (HT3.out.below hb4)
          have HZ4 := hide ((hb4.block _ (blk_lt HZ3.out)).trans HZ3.out)
          have hs4 := hb4.size
          have HM14_4 := hide ((hb4.block _ (blk_lt HM14_3.out)).trans HM14_3.out)
          clear hb4
          refine ⟨HT4.out, ?_⟩
          simp only [Act.put, zzA, zzB, zzC]
          refine wpAnyH_all (rs := [9]) (by kernel_rfl) (by simp) ?_
          intro i hi
          have hi' : i = 9 := by simpa using hi
          clear hi
          subst hi'
          refine wpOp_call (some 29) rfl rfl (by kernel_rfl) (by go_simp; exact ⟨rfl, rfl⟩) ?_
          refine (HF.out _).mono ?_
          rintro e y5 ⟨rfl, hb5⟩
          have HT5 := hide (HT4.out.below hb5)
          have HZ5 := hide ((hb5.block _ (blk_lt HZ4.out)).trans HZ4.out)
          have hs5 := hb5.size
          have HM14_5 := hide ((hb5.block _ (blk_lt HM14_4.out)).trans HM14_4.out)
          have HM15_5 := hide ((hb5.block _ (blk_lt HM15_4.out)).trans HM15_4.out)
          clear hb5
          refine ⟨_, rfl, HT5.out, ?_⟩
          simp only [Act.put, zzA, zzB, zzC]
          refine hT 10 19 rfl rfl (by kernel_rfl) (fun _ _ _ h => absurd h.1 (by simp)) (.inl ⟨by kernel_rfl, fun w' h => by go_simp; rfl⟩) HT5.out ?_
          simp only [Act.put, zzA, zzB, zzC]
          refine hT 11 30 rfl rfl (by kernel_rfl) (fun _ _ _ h => absurd h.1 (by simp)) (.inl ⟨by kernel_rfl, fun w' h => by go_simp; rfl⟩) HT5.out ?_
          simp only [Act.put, zzA, zzB, zzC]
          refine hT 12 31 rfl rfl (by kernel_rfl) (fun _ _ _ h => absurd h.1 (by simp)) (.inl ⟨by kernel_rfl, fun w' h => by go_simp; rfl⟩) HT5.out ?_
          simp only [Act.put, zzA, zzB, zzC]
          refine hT 13 32 rfl rfl (by kernel_rfl) (fun _ _ _ h => absurd h.1 (by simp)) (.inl ⟨by kernel_rfl, fun w' h => by go_simp; rfl⟩) HT5.out ?_
          simp only [Act.put, zzA, zzB, zzC]
          have hs0' := HT0.out.s
          refine held_storeSp (i := 16) (.tmp 7) (.tmp 30) (y2.heap.size) #[.int .i64 (L1), .int .i64 (H1)] _ (by kernel_rfl) rfl (by kernel_rfl) rfl (by kernel_rfl) (by kernel_rfl) HM14_5.out rfl rfl (by simp [Value.oneCell']) (HT5.out.setG _ (by omega) _) rfl ?_
          intro v1 hv1
          refine held_storeSp (i := 17) (.tmp 8) (.tmp 31) (y3.heap.size) #[.int .i64 (L2), .int .i64 (H2)] _ (by kernel_rfl) rfl (by kernel_rfl) rfl (by kernel_rfl) (by kernel_rfl) (by rw [hv1.out, setRow_other _ _ _ _ (by omega)]; exact HM15_5.out) rfl rfl (by simp [Value.oneCell']) (by rw [hv1.out]; exact (HT5.out.setG _ (by omega) _).setG _ (by omega) _) rfl ?_
          intro v2 hv2
          have hT2 : Two w c x v2 := by rw [hv2.out, hv1.out]; exact (HT5.out.setG _ (by omega) _).setG _ (by omega) _
          have hZ2 : v2.heap[w.heap.size + 1 + 1]? = some (clB clNone) := by rw [hv2.out, setRow_other _ _ _ _ (by omega), hv1.out, setRow_other _ _ _ _ (by omega)]; exact HZ5.out
          have h1 : v2.heap[y2.heap.size]? = some (spB (L1) (H1)) := by rw [hv2.out, setRow_other _ _ _ _ (by omega), hv1.out]; exact setRow_heap _ _ _ _ _ _ HM14_5.out
          have h2 : v2.heap[y3.heap.size]? = some (spB (L2) (H2)) := by rw [hv2.out]; exact setRow_heap _ _ _ _ _ _ (by rw [hv1.out, setRow_other _ _ _ _ (by omega)]; exact HM15_5.out)
          clear hv1 hv2
          refine hT 18 9 rfl rfl (by kernel_rfl) (fun _ _ _ h => absurd h.1 (by simp)) (.inl ⟨by kernel_rfl, fun w' h => by go_simp; rfl⟩) hT2 ?_
          simp only [Act.put, zzA, zzB, zzC]
          refine wpAnyH_done (by kernel_rfl) ?_ _
          exact ⟨rfl, y2.heap.size, y3.heap.size, rfl, hT2, hZ2, h1, h2⟩
      · refine wpOp_new (some 8) rfl rfl (by kernel_rfl) (exec_allocSp rfl) ?_
        have hb3 : Below y2.heap.size y2 (y2.alloc (spB 0 0)) := (Below.refl _ _).alloc (Nat.le_refl _) _
        have HM15_3 := hide (blk_new y2 (spB 0 0))
        have hp3 : y2.heap.size < (y2.alloc (spB 0 0)).heap.size := by simp
        generalize y2.alloc (spB 0 0) = y3 at *
        have HT3 := hide (HT2.out.below hb3)
        have HZ3 := hide ((hb3.block _ (blk_lt HZ2.out)).trans HZ2.out)
        have hs3 := hb3.size
        clear hb3
        refine ⟨HT3.out, ?_⟩
        simp only [Act.put, zzA, zzB, zzC]
        refine wpAnyH_all (rs := [9, 14]) (by kernel_rfl) (by simp) ?_
        intro i hi
        have hi' : i = 9 ∨ i = 14 := by simpa using hi
        clear hi
        rcases hi' with rfl | rfl
        · refine wpOp_call (some 29) rfl rfl (by kernel_rfl) (by go_simp; exact ⟨rfl, rfl⟩) ?_
          refine (HF.out _).mono ?_
          rintro e y4 ⟨rfl, hb4⟩
          have HT4 := hide (HT3.out.below hb4)
          have HZ4 := hide ((hb4.block _ (blk_lt HZ3.out)).trans HZ3.out)
          have hs4 := hb4.size
          have HM15_4 := hide ((hb4.block _ (blk_lt HM15_3.out)).trans HM15_3.out)
          clear hb4
          refine ⟨_, rfl, HT4.out, ?_⟩
          simp only [Act.put, zzA, zzB, zzC]
          refine hT 10 19 rfl rfl (by kernel_rfl) (fun _ _ _ h => absurd h.1 (by simp)) (.inl ⟨by kernel_rfl, fun w' h => by go_simp; rfl⟩) HT4.out ?_
          simp only [Act.put, zzA, zzB, zzC]
          refine hT 11 30 rfl rfl (by kernel_rfl) (fun _ _ _ h => absurd h.1 (by simp)) (.inl ⟨by kernel_rfl, fun w' h => by go_simp; rfl⟩) HT4.out ?_
          simp only [Act.put, zzA, zzB, zzC]
          refine hT 12 31 rfl rfl (by kernel_rfl) (fun _ _ _ h => absurd h.1 (by simp)) (.inl ⟨by kernel_rfl, fun w' h => by go_simp; rfl⟩) HT4.out ?_
          simp only [Act.put, zzA, zzB, zzC]
          refine hT 13 32 rfl rfl (by kernel_rfl) (fun _ _ _ h => absurd h.1 (by simp)) (.inl ⟨by kernel_rfl, fun w' h => by go_simp; rfl⟩) HT4.out ?_
          simp only [Act.put, zzA, zzB, zzC]
          refine wpAnyH_all (rs := [14]) (by kernel_rfl) (by simp) ?_
          intro i hi
          have hi' : i = 14 := by simpa using hi
          clear hi
          subst hi'
          refine wpOp_new (some 7) rfl rfl (by kernel_rfl) (exec_allocSp rfl) ?_
          have hb5 : Below y4.heap.size y4 (y4.alloc (spB 0 0)) := (Below.refl _ _).alloc (Nat.le_refl _) _
          have HM14_5 := hide (blk_new y4 (spB 0 0))
          have hp5 : y4.heap.size < (y4.alloc (spB 0 0)).heap.size := by simp
          generalize y4.alloc (spB 0 0) = y5 at *
          have HT5 := hide (HT4.out.below hb5)
          have HZ5 := hide ((hb5.block _ (blk_lt HZ4.out)).trans HZ4.out)
          have hs5 := hb5.size
          have HM15_5 := hide ((hb5.block _ (blk_lt HM15_4.out)).trans HM15_4.out)
          clear hb5
          refine ⟨HT5.out, ?_⟩
          simp only [Act.put, zzA, zzB, zzC]
          have hs0' := HT0.out.s
          refine held_storeSp (i := 16) (.tmp 7) (.tmp 30) (y4.heap.size) #[.int .i64 (L1), .int .i64 (H1)] _ (by kernel_rfl) rfl (by kernel_rfl) rfl (by kernel_rfl) (by kernel_rfl) HM14_5.out rfl rfl (by simp [Value.oneCell']) (HT5.out.setG _ (by omega) _) rfl ?_
          intro v1 hv1
          refine held_storeSp (i := 17) (.tmp 8) (.tmp 31) (y2.heap.size) #[.int .i64 (L2), .int .i64 (H2)] _ (by kernel_rfl) rfl (by kernel_rfl) rfl (by kernel_rfl) (by kernel_rfl) (by rw [hv1.out, setRow_other _ _ _ _ (by omega)]; exact HM15_5.out) rfl rfl (by simp [Value.oneCell']) (by rw [hv1.out]; exact (HT5.out.setG _ (by omega) _).setG _ (by omega) _) rfl ?_
          intro v2 hv2
          have hT2 : Two w c x v2 := by rw [hv2.out, hv1.out]; exact (HT5.out.setG _ (by omega) _).setG _ (by omega) _
          have hZ2 : v2.heap[w.heap.size + 1 + 1]? = some (clB clNone) := by rw [hv2.out, setRow_other _ _ _ _ (by omega), hv1.out, setRow_other _ _ _ _ (by omega)]; exact HZ5.out
          have h1 : v2.heap[y4.heap.size]? = some (spB (L1) (H1)) := by rw [hv2.out, setRow_other _ _ _ _ (by omega), hv1.out]; exact setRow_heap _ _ _ _ _ _ HM14_5.out
          have h2 : v2.heap[y2.heap.size]? = some (spB (L2) (H2)) := by rw [hv2.out]; exact setRow_heap _ _ _ _ _ _ (by rw [hv1.out, setRow_other _ _ _ _ (by omega)]; exact HM15_5.out)
          clear hv1 hv2
          refine hT 18 9 rfl rfl (by kernel_rfl) (fun _ _ _ h => absurd h.1 (by simp)) (.inl ⟨by kernel_rfl, fun w' h => by go_simp; rfl⟩) hT2 ?_
          simp only [Act.put, zzA, zzB, zzC]
          refine wpAnyH_done (by kernel_rfl) ?_ _
          exact ⟨rfl, y4.heap.size, y2.heap.size, rfl, hT2, hZ2, h1, h2⟩
        · refine wpOp_new (some 7) rfl rfl (by kernel_rfl) (exec_allocSp rfl) ?_
          have hb4 : Below y3.heap.size y3 (y3.alloc (spB 0 0)) := (Below.refl _ _).alloc (Nat.le_refl _) _
          have HM14_4 := hide (blk_new y3 (spB 0 0))
          have hp4 : y3.heap.size < (y3.alloc (spB 0 0)).heap.size := by simp
          generalize y3.alloc (spB 0 0) = y4 at *
          have HT4 := hide (HT3.out.below hb4)
          have HZ4 := hide ((hb4.block _ (blk_lt HZ3.out)).trans HZ3.out)
          have hs4 := hb4.size
          have HM15_4 := hide ((hb4.block _ (blk_lt HM15_3.out)).trans HM15_3.out)
          clear hb4
          refine ⟨HT4.out, ?_⟩
          simp only [Act.put, zzA, zzB, zzC]
          refine wpAnyH_all (rs := [9]) (by kernel_rfl) (by simp) ?_
          intro i hi
          have hi' : i = 9 := by simpa using hi
          clear hi
          subst hi'
          refine wpOp_call (some 29) rfl rfl (by kernel_rfl) (by go_simp; exact ⟨rfl, rfl⟩) ?_
          refine (HF.out _).mono ?_
          rintro e y5 ⟨rfl, hb5⟩
          have HT5 := hide (HT4.out.below hb5)
          have HZ5 := hide ((hb5.block _ (blk_lt HZ4.out)).trans HZ4.out)
          have hs5 := hb5.size
          have HM15_5 := hide ((hb5.block _ (blk_lt HM15_4.out)).trans HM15_4.out)
          have HM14_5 := hide ((hb5.block _ (blk_lt HM14_4.out)).trans HM14_4.out)
          clear hb5
          refine ⟨_, rfl, HT5.out, ?_⟩
          simp only [Act.put, zzA, zzB, zzC]
          refine hT 10 19 rfl rfl (by kernel_rfl) (fun _ _ _ h => absurd h.1 (by simp)) (.inl ⟨by kernel_rfl, fun w' h => by go_simp; rfl⟩) HT5.out ?_
          simp only [Act.put, zzA, zzB, zzC]
          refine hT 11 30 rfl rfl (by kernel_rfl) (fun _ _ _ h => absurd h.1 (by simp)) (.inl ⟨by kernel_rfl, fun w' h => by go_simp; rfl⟩) HT5.out ?_
          simp only [Act.put, zzA, zzB, zzC]
          refine hT 12 31 rfl rfl (by kernel_rfl) (fun _ _ _ h => absurd h.1 (by simp)) (.inl ⟨by kernel_rfl, fun w' h => by go_simp; rfl⟩) HT5.out ?_
          simp only [Act.put, zzA, zzB, zzC]
          refine hT 13 32 rfl rfl (by kernel_rfl) (fun _ _ _ h => absurd h.1 (by simp)) (.inl ⟨by kernel_rfl, fun w' h => by go_simp; rfl⟩) HT5.out ?_
          simp only [Act.put, zzA, zzB, zzC]
          have hs0' := HT0.out.s
          refine held_storeSp (i := 16) (.tmp 7) (.tmp 30) (y3.heap.size) #[.int .i64 (L1), .int .i64 (H1)] _ (by kernel_rfl) rfl (by kernel_rfl) rfl (by kernel_rfl) (by kernel_rfl) HM14_5.out rfl rfl (by simp [Value.oneCell']) (HT5.out.setG _ (by omega) _) rfl ?_
          intro v1 hv1
          refine held_storeSp (i := 17) (.tmp 8) (.tmp 31) (y2.heap.size) #[.int .i64 (L2), .int .i64 (H2)] _ (by kernel_rfl) rfl (by kernel_rfl) rfl (by kernel_rfl) (by kernel_rfl) (by rw [hv1.out, setRow_other _ _ _ _ (by omega)]; exact HM15_5.out) rfl rfl (by simp [Value.oneCell']) (by rw [hv1.out]; exact (HT5.out.setG _ (by omega) _).setG _ (by omega) _) rfl ?_
          intro v2 hv2
          have hT2 : Two w c x v2 := by rw [hv2.out, hv1.out]; exact (HT5.out.setG _ (by omega) _).setG _ (by omega) _
          have hZ2 : v2.heap[w.heap.size + 1 + 1]? = some (clB clNone) := by rw [hv2.out, setRow_other _ _ _ _ (by omega), hv1.out, setRow_other _ _ _ _ (by omega)]; exact HZ5.out
          have h1 : v2.heap[y3.heap.size]? = some (spB (L1) (H1)) := by rw [hv2.out, setRow_other _ _ _ _ (by omega), hv1.out]; exact setRow_heap _ _ _ _ _ _ HM14_5.out
          have h2 : v2.heap[y2.heap.size]? = some (spB (L2) (H2)) := by rw [hv2.out]; exact setRow_heap _ _ _ _ _ _ (by rw [hv1.out, setRow_other _ _ _ _ (by omega)]; exact HM15_5.out)
          clear hv1 hv2
          refine hT 18 9 rfl rfl (by kernel_rfl) (fun _ _ _ h => absurd h.1 (by simp)) (.inl ⟨by kernel_rfl, fun w' h => by go_simp; rfl⟩) hT2 ?_
          simp only [Act.put, zzA, zzB, zzC]
          refine wpAnyH_done (by kernel_rfl) ?_ _
          exact ⟨rfl, y3.heap.size, y2.heap.size, rfl, hT2, hZ2, h1, h2⟩
    · refine wpOp_new (some 7) rfl rfl (by kernel_rfl) (exec_allocSp rfl) ?_
      have hb2 : Below y1.heap.size y1 (y1.alloc (spB 0 0)) := (Below.refl _ _).alloc (Nat.le_refl _) _
      have HM14_2 := hide (blk_new y1 (spB 0 0))
      have hp2 : y1.heap.size < (y1.alloc (spB 0 0)).heap.size := by simp
      generalize y1.alloc (spB 0 0) = y2 at *
      have HT2 := hide (HT1.out.below hb2)
      have HZ2 := hide ((hb2.block _ (blk_lt HZ1.out)).trans HZ1.out)
      have hs2 := hb2.size
      clear hb2
      refine ⟨HT2.out, ?_⟩
      simp only [Act.put, zzA, zzB, zzC]
      refine wpAnyH_all (rs := [8, 15]) (by kernel_rfl) (by simp) ?_
      intro i hi
      have hi' : i = 8 ∨ i = 15 := by simpa using hi
      clear hi
      rcases hi' with rfl | rfl
      · refine wpOp_call (some 28) rfl rfl (by kernel_rfl) (by go_simp; exact ⟨rfl, rfl⟩) ?_
        refine (Span_any c s hs _).mono ?_
        rintro e y3 ⟨rfl, hw⟩
        have hb3 : Below y2.heap.size y2 y3 := by rw [hw]; exact ((Below.refl _ _).alloc (Nat.le_refl _) _).alloc (by simp) _
        clear hw
        have HT3 := hide (HT2.out.below hb3)
        have HZ3 := hide ((hb3.block _ (blk_lt HZ2.out)).trans HZ2.out)
        have hs3 := hb3.size
        have HM14_3 := hide ((hb3.block _ (blk_lt HM14_2.out)).trans HM14_2.out)
        clear hb3
        refine ⟨_, rfl, HT3.out, ?_⟩
        simp only [Act.put, zzA, zzB, zzC]
        refine wpAnyH_all (rs := [9, 15]) (by kernel_rfl) (by simp) ?_
        intro i hi
        have hi' : i = 9 ∨ i = 15 := by simpa using hi
        clear hi
        rcases hi' with rfl | rfl
        · refine wpOp_call (some 29) rfl rfl (by kernel_rfl) (by go_simp; exact ⟨rfl, rfl⟩) ?_
          refine (HF.out _).mono ?_
          rintro e y4 ⟨rfl, hb4⟩
          have HT4 := hide (HT3.out.below hb4)
          have HZ4 := hide ((hb4.block _ (blk_lt HZ3.out)).trans HZ3.out)
          have hs4 := hb4.size
          have HM14_4 := hide ((hb4.block _ (blk_lt HM14_3.out)).trans HM14_3.out)
          clear hb4
          refine ⟨_, rfl, HT4.out, ?_⟩
          simp only [Act.put, zzA, zzB, zzC]
          refine hT 10 19 rfl rfl (by kernel_rfl) (fun _ _ _ h => absurd h.1 (by simp)) (.inl ⟨by kernel_rfl, fun w' h => by go_simp; rfl⟩) HT4.out ?_
          simp only [Act.put, zzA, zzB, zzC]
          refine hT 11 30 rfl rfl (by kernel_rfl) (fun _ _ _ h => absurd h.1 (by simp)) (.inl ⟨by kernel_rfl, fun w' h => by go_simp; rfl⟩) HT4.out ?_
          simp only [Act.put, zzA, zzB, zzC]
          refine hT 12 31 rfl rfl (by kernel_rfl) (fun _ _ _ h => absurd h.1 (by simp)) (.inl ⟨by kernel_rfl, fun w' h => by go_simp; rfl⟩) HT4.out ?_
          simp only [Act.put, zzA, zzB, zzC]
          refine hT 13 32 rfl rfl (by kernel_rfl) (fun _ _ _ h => absurd h.1 (by simp)) (.inl ⟨by kernel_rfl, fun w' h => by go_simp; rfl⟩) HT4.out ?_
          simp only [Act.put, zzA, zzB, zzC]
          refine wpAnyH_all (rs := [15]) (by kernel_rfl) (by simp) ?_
          intro i hi
          have hi' : i = 15 := by simpa using hi
          clear hi
          subst hi'
          refine wpOp_new (some 8) rfl rfl (by kernel_rfl) (exec_allocSp rfl) ?_
          have hb5 : Below y4.heap.size y4 (y4.alloc (spB 0 0)) := (Below.refl _ _).alloc (Nat.le_refl _) _
          have HM15_5 := hide (blk_new y4 (spB 0 0))
          have hp5 : y4.heap.size < (y4.alloc (spB 0 0)).heap.size := by simp
          generalize y4.alloc (spB 0 0) = y5 at *
          have HT5 := hide (HT4.out.below hb5)
          have HZ5 := hide ((hb5.block _ (blk_lt HZ4.out)).trans HZ4.out)
          have hs5 := hb5.size
          have HM14_5 := hide ((hb5.block _ (blk_lt HM14_4.out)).trans HM14_4.out)
          clear hb5
          refine ⟨HT5.out, ?_⟩
          simp only [Act.put, zzA, zzB, zzC]
          have hs0' := HT0.out.s
          refine held_storeSp (i := 16) (.tmp 7) (.tmp 30) (y1.heap.size) #[.int .i64 (L1), .int .i64 (H1)] _ (by kernel_rfl) rfl (by kernel_rfl) rfl (by kernel_rfl) (by kernel_rfl) HM14_5.out rfl rfl (by simp [Value.oneCell']) (HT5.out.setG _ (by omega) _) rfl ?_
          intro v1 hv1
          refine held_storeSp (i := 17) (.tmp 8) (.tmp 31) (y4.heap.size) #[.int .i64 (L2), .int .i64 (H2)] _ (by kernel_rfl) rfl (by kernel_rfl) rfl (by kernel_rfl) (by kernel_rfl) (by rw [hv1.out, setRow_other _ _ _ _ (by omega)]; exact HM15_5.out) rfl rfl (by simp [Value.oneCell']) (by rw [hv1.out]; exact (HT5.out.setG _ (by omega) _).setG _ (by omega) _) rfl ?_
          intro v2 hv2
          have hT2 : Two w c x v2 := by rw [hv2.out, hv1.out]; exact (HT5.out.setG _ (by omega) _).setG _ (by omega) _
          have hZ2 : v2.heap[w.heap.size + 1 + 1]? = some (clB clNone) := by rw [hv2.out, setRow_other _ _ _ _ (by omega), hv1.out, setRow_other _ _ _ _ (by omega)]; exact HZ5.out
          have h1 : v2.heap[y1.heap.size]? = some (spB (L1) (H1)) := by rw [hv2.out, setRow_other _ _ _ _ (by omega), hv1.out]; exact setRow_heap _ _ _ _ _ _ HM14_5.out
          have h2 : v2.heap[y4.heap.size]? = some (spB (L2) (H2)) := by rw [hv2.out]; exact setRow_heap _ _ _ _ _ _ (by rw [hv1.out, setRow_other _ _ _ _ (by omega)]; exact HM15_5.out)
          clear hv1 hv2
          refine hT 18 9 rfl rfl (by kernel_rfl) (fun _ _ _ h => absurd h.1 (by simp)) (.inl ⟨by kernel_rfl, fun w' h => by go_simp; rfl⟩) hT2 ?_
          simp only [Act.put, zzA, zzB, zzC]
          refine wpAnyH_done (by kernel_rfl) ?_ _
          exact ⟨rfl, y1.heap.size, y4.heap.size, rfl, hT2, hZ2, h1, h2⟩
        · refine wpOp_new (some 8) rfl rfl (by kernel_rfl) (exec_allocSp rfl) ?_
          have hb4 : Below y3.heap.size y3 (y3.alloc (spB 0 0)) := (Below.refl _ _).alloc (Nat.le_refl _) _
          have HM15_4 := hide (blk_new y3 (spB 0 0))
          have hp4 : y3.heap.size < (y3.alloc (spB 0 0)).heap.size := by simp
          generalize y3.alloc (spB 0 0) = y4 at *
          have HT4 := hide (HT3.out.below hb4)
          have HZ4 := hide ((hb4.block _ (blk_lt HZ3.out)).trans HZ3.out)
          have hs4 := hb4.size
          have HM14_4 := hide ((hb4.block _ (blk_lt HM14_3.out)).trans HM14_3.out)
          clear hb4
          refine ⟨HT4.out, ?_⟩
          simp only [Act.put, zzA, zzB, zzC]
          refine wpAnyH_all (rs := [9]) (by kernel_rfl) (by simp) ?_
          intro i hi
          have hi' : i = 9 := by simpa using hi
          clear hi
          subst hi'
          refine wpOp_call (some 29) rfl rfl (by kernel_rfl) (by go_simp; exact ⟨rfl, rfl⟩) ?_
          refine (HF.out _).mono ?_
          rintro e y5 ⟨rfl, hb5⟩
          have HT5 := hide (HT4.out.below hb5)
          have HZ5 := hide ((hb5.block _ (blk_lt HZ4.out)).trans HZ4.out)
          have hs5 := hb5.size
          have HM14_5 := hide ((hb5.block _ (blk_lt HM14_4.out)).trans HM14_4.out)
          have HM15_5 := hide ((hb5.block _ (blk_lt HM15_4.out)).trans HM15_4.out)
          clear hb5
          refine ⟨_, rfl, HT5.out, ?_⟩
          simp only [Act.put, zzA, zzB, zzC]
          refine hT 10 19 rfl rfl (by kernel_rfl) (fun _ _ _ h => absurd h.1 (by simp)) (.inl ⟨by kernel_rfl, fun w' h => by go_simp; rfl⟩) HT5.out ?_
          simp only [Act.put, zzA, zzB, zzC]
          refine hT 11 30 rfl rfl (by kernel_rfl) (fun _ _ _ h => absurd h.1 (by simp)) (.inl ⟨by kernel_rfl, fun w' h => by go_simp; rfl⟩) HT5.out ?_
          simp only [Act.put, zzA, zzB, zzC]
          refine hT 12 31 rfl rfl (by kernel_rfl) (fun _ _ _ h => absurd h.1 (by simp)) (.inl ⟨by kernel_rfl, fun w' h => by go_simp; rfl⟩) HT5.out ?_
          simp only [Act.put, zzA, zzB, zzC]
          refine hT 13 32 rfl rfl (by kernel_rfl) (fun _ _ _ h => absurd h.1 (by simp)) (.inl ⟨by kernel_rfl, fun w' h => by go_simp; rfl⟩) HT5.out ?_
          simp only [Act.put, zzA, zzB, zzC]
          have hs0' := HT0.out.s
          refine held_storeSp (i := 16) (.tmp 7) (.tmp 30) (y1.heap.size) #[.int .i64 (L1), .int .i64 (H1)] _ (by kernel_rfl) rfl (by kernel_rfl) rfl (by kernel_rfl) (by kernel_rfl) HM14_5.out rfl rfl (by simp [Value.oneCell']) (HT5.out.setG _ (by omega) _) rfl ?_
          intro v1 hv1
          refine held_storeSp (i := 17) (.tmp 8) (.tmp 31) (y3.heap.size) #[.int .i64 (L2), .int .i64 (H2)] _ (by kernel_rfl) rfl (by kernel_rfl) rfl (by kernel_rfl) (by kernel_rfl) (by rw [hv1.out, setRow_other _ _ _ _ (by omega)]; exact HM15_5.out) rfl rfl (by simp [Value.oneCell']) (by rw [hv1.out]; exact (HT5.out.setG _ (by omega) _).setG _ (by omega) _) rfl ?_
          intro v2 hv2
          have hT2 : Two w c x v2 := by rw [hv2.out, hv1.out]; exact (HT5.out.setG _ (by omega) _).setG _ (by omega) _
          have hZ2 : v2.heap[w.heap.size + 1 + 1]? = some (clB clNone) := by rw [hv2.out, setRow_other _ _ _ _ (by omega), hv1.out, setRow_other _ _ _ _ (by omega)]; exact HZ5.out
          have h1 : v2.heap[y1.heap.size]? = some (spB (L1) (H1)) := by rw [hv2.out, setRow_other _ _ _ _ (by omega), hv1.out]; exact setRow_heap _ _ _ _ _ _ HM14_5.out
          have h2 : v2.heap[y3.heap.size]? = some (spB (L2) (H2)) := by rw [hv2.out]; exact setRow_heap _ _ _ _ _ _ (by rw [hv1.out, setRow_other _ _ _ _ (by omega)]; exact HM15_5.out)
          clear hv1 hv2
          refine hT 18 9 rfl rfl (by kernel_rfl) (fun _ _ _ h => absurd h.1 (by simp)) (.inl ⟨by kernel_rfl, fun w' h => by go_simp; rfl⟩) hT2 ?_
          simp only [Act.put, zzA, zzB, zzC]
          refine wpAnyH_done (by kernel_rfl) ?_ _
          exact ⟨rfl, y1.heap.size, y3.heap.size, rfl, hT2, hZ2, h1, h2⟩
      · refine wpOp_new (some 8) rfl rfl (by kernel_rfl) (exec_allocSp rfl) ?_
        have hb3 : Below y2.heap.size y2 (y2.alloc (spB 0 0)) := (Below.refl _ _).alloc (Nat.le_refl _) _
        have HM15_3 := hide (blk_new y2 (spB 0 0))
        have hp3 : y2.heap.size < (y2.alloc (spB 0 0)).heap.size := by simp
        generalize y2.alloc (spB 0 0) = y3 at *
        have HT3 := hide (HT2.out.below hb3)
        have HZ3 := hide ((hb3.block _ (blk_lt HZ2.out)).trans HZ2.out)
        have hs3 := hb3.size
        have HM14_3 := hide ((hb3.block _ (blk_lt HM14_2.out)).trans HM14_2.out)
        clear hb3
        refine ⟨HT3.out, ?_⟩
        simp only [Act.put, zzA, zzB, zzC]
        refine wpAnyH_all (rs := [8]) (by kernel_rfl) (by simp) ?_
        intro i hi
        have hi' : i = 8 := by simpa using hi
        clear hi
        subst hi'
        refine wpOp_call (some 28) rfl rfl (by kernel_rfl) (by go_simp; exact ⟨rfl, rfl⟩) ?_
        refine (Span_any c s hs _).mono ?_
        rintro e y4 ⟨rfl, hw⟩
        have hb4 : Below y3.heap.size y3 y4 := by rw [hw]; exact ((Below.refl _ _).alloc (Nat.le_refl _) _).alloc (by simp) _
        clear hw
        have HT4 := hide (HT3.out.below hb4)
        have HZ4 := hide ((hb4.block _ (blk_lt HZ3.out)).trans HZ3.out)
        have hs4 := hb4.size
        have HM14_4 := hide ((hb4.block _ (blk_lt HM14_3.out)).trans HM14_3.out)
        have HM15_4 := hide ((hb4.block _ (blk_lt HM15_3.out)).trans HM15_3.out)
        clear hb4
        refine ⟨_, rfl, HT4.out, ?_⟩
        simp only [Act.put, zzA, zzB, zzC]
        refine wpAnyH_all (rs := [9]) (by kernel_rfl) (by simp) ?_
        intro i hi
        have hi' : i = 9 := by simpa using hi
        clear hi
        subst hi'
        refine wpOp_call (some 29) rfl rfl (by kernel_rfl) (by go_simp; exact ⟨rfl, rfl⟩) ?_
        refine (HF.out _).mono ?_
        rintro e y5 ⟨rfl, hb5⟩
        have HT5 := hide (HT4.out.below hb5)
        have HZ5 := hide ((hb5.block _ (blk_lt HZ4.out)).trans HZ4.out)
        have hs5 := hb5.size
        have HM14_5 := hide ((hb5.block _ (blk_lt HM14_4.out)).trans HM14_4.out)
        have HM15_5 := hide ((hb5.block _ (blk_lt HM15_4.out)).trans HM15_4.out)
        clear hb5
        refine ⟨_, rfl, HT5.out, ?_⟩
        simp only [Act.put, zzA, zzB, zzC]
        refine hT 10 19 rfl rfl (by kernel_rfl) (fun _ _ _ h => absurd h.1 (by simp)) (.inl ⟨by kernel_rfl, fun w' h => by go_simp; rfl⟩) HT5.out ?_
        simp only [Act.put, zzA, zzB, zzC]
        refine hT 11 30 rfl rfl (by kernel_rfl) (fun _ _ _ h => absurd h.1 (by simp)) (.inl ⟨by kernel_rfl, fun w' h => by go_simp; rfl⟩) HT5.out ?_
        simp only [Act.put, zzA, zzB, zzC]
        refine hT 12 31 rfl rfl (by kernel_rfl) (fun _ _ _ h => absurd h.1 (by simp)) (.inl ⟨by kernel_rfl, fun w' h => by go_simp; rfl⟩) HT5.out ?_
        simp only [Act.put, zzA, zzB, zzC]
        refine hT 13 32 rfl rfl (by kernel_rfl) (fun _ _ _ h => absurd h.1 (by simp)) (.inl ⟨by kernel_rfl, fun w' h => by go_simp; rfl⟩) HT5.out ?_
        simp only [Act.put, zzA, zzB, zzC]
        have hs0' := HT0.out.s
        refine held_storeSp (i := 16) (.tmp 7) (.tmp 30) (y1.heap.size) #[.int .i64 (L1), .int .i64 (H1)] _ (by kernel_rfl) rfl (by kernel_rfl) rfl (by kernel_rfl) (by kernel_rfl) HM14_5.out rfl rfl (by simp [Value.oneCell']) (HT5.out.setG _ (by omega) _) rfl ?_
        intro v1 hv1
        refine held_storeSp (i := 17) (.tmp 8) (.tmp 31) (y2.heap.size) #[.int .i64 (L2), .int .i64 (H2)] _ (by kernel_rfl) rfl (by kernel_rfl) rfl (by kernel_rfl) (by kernel_rfl) (by rw [hv1.out, setRow_other _ _ _ _ (by omega)]; exact HM15_5.out) rfl rfl (by simp [Value.oneCell']) (by rw [hv1.out]; exact (HT5.out.setG _ (by omega) _).setG _ (by omega) _) rfl ?_
        intro v2 hv2
        have hT2 : Two w c x v2 := by rw [hv2.out, hv1.out]; exact (HT5.out.setG _ (by omega) _).setG _ (by omega) _
        have hZ2 : v2.heap[w.heap.size + 1 + 1]? = some (clB clNone) := by rw [hv2.out, setRow_other _ _ _ _ (by omega), hv1.out, setRow_other _ _ _ _ (by omega)]; exact HZ5.out
        have h1 : v2.heap[y1.heap.size]? = some (spB (L1) (H1)) := by rw [hv2.out, setRow_other _ _ _ _ (by omega), hv1.out]; exact setRow_heap _ _ _ _ _ _ HM14_5.out
        have h2 : v2.heap[y2.heap.size]? = some (spB (L2) (H2)) := by rw [hv2.out]; exact setRow_heap _ _ _ _ _ _ (by rw [hv1.out, setRow_other _ _ _ _ (by omega)]; exact HM15_5.out)
        clear hv1 hv2
        refine hT 18 9 rfl rfl (by kernel_rfl) (fun _ _ _ h => absurd h.1 (by simp)) (.inl ⟨by kernel_rfl, fun w' h => by go_simp; rfl⟩) hT2 ?_
        simp only [Act.put, zzA, zzB, zzC]
        refine wpAnyH_done (by kernel_rfl) ?_ _
        exact ⟨rfl, y1.heap.size, y2.heap.size, rfl, hT2, hZ2, h1, h2⟩
    · refine wpOp_new (some 8) rfl rfl (by kernel_rfl) (exec_allocSp rfl) ?_
      have hb2 : Below y1.heap.size y1 (y1.alloc (spB 0 0)) := (Below.refl _ _).alloc (Nat.le_refl _) _
      have HM15_2 := hide (blk_new y1 (spB 0 0))
      have hp2 : y1.heap.size < (y1.alloc (spB 0 0)).heap.size := by simp
      generalize y1.alloc (spB 0 0) = y2 at *
      have HT2 := hide (HT1.out.below hb2)
      have HZ2 := hide ((hb2.block _ (blk_lt HZ1.out)).trans HZ1.out)
      have hs2 := hb2.size
      clear hb2
      refine ⟨HT2.out, ?_⟩
      simp only [Act.put, zzA, zzB, zzC]
      refine wpAnyH_all (rs := [8, 14]) (by kernel_rfl) (by simp) ?_
      intro i hi
      have hi' : i = 8 ∨ i = 14 := by simpa using hi
      clear hi
      rcases hi' with rfl | rfl
      · refine wpOp_call (some 28) rfl rfl (by kernel_rfl) (by go_simp; exact ⟨rfl, rfl⟩) ?_
        refine (Span_any c s hs _).mono ?_
        rintro e y3 ⟨rfl, hw⟩
        have hb3 : Below y2.heap.size y2 y3 := by rw [hw]; exact ((Below.refl _ _).alloc (Nat.le_refl _) _).alloc (by simp) _
        clear hw
        have HT3 := hide (HT2.out.below hb3)
        have HZ3 := hide ((hb3.block _ (blk_lt HZ2.out)).trans HZ2.out)
        have hs3 := hb3.size
        have HM15_3 := hide ((hb3.block _ (blk_lt HM15_2.out)).trans HM15_2.out)
        clear hb3
        refine ⟨_, rfl, HT3.out, ?_⟩
        simp only [Act.put, zzA, zzB, zzC]
        refine wpAnyH_all (rs := [9, 14]) (by kernel_rfl) (by simp) ?_
        intro i hi
        have hi' : i = 9 ∨ i = 14 := by simpa using hi
        clear hi
        rcases hi' with rfl | rfl
        · refine wpOp_call (some 29) rfl rfl (by kernel_rfl) (by go_simp; exact ⟨rfl, rfl⟩) ?_
          refine (HF.out _).mono ?_
          rintro e y4 ⟨rfl, hb4⟩
          have HT4 := hide (HT3.out.below hb4)
          have HZ4 := hide ((hb4.block _ (blk_lt HZ3.out)).trans HZ3.out)
          have hs4 := hb4.size
          have HM15_4 := hide ((hb4.block _ (blk_lt HM15_3.out)).trans HM15_3.out)
          clear hb4
          refine ⟨_, rfl, HT4.out, ?_⟩
          simp only [Act.put, zzA, zzB, zzC]
          refine hT 10 19 rfl rfl (by kernel_rfl) (fun _ _ _ h => absurd h.1 (by simp)) (.inl ⟨by kernel_rfl, fun w' h => by go_simp; rfl⟩) HT4.out ?_
          simp only [Act.put, zzA, zzB, zzC]
          refine hT 11 30 rfl rfl (by kernel_rfl) (fun _ _ _ h => absurd h.1 (by simp)) (.inl ⟨by kernel_rfl, fun w' h => by go_simp; rfl⟩) HT4.out ?_
          simp only [Act.put, zzA, zzB, zzC]
          refine hT 12 31 rfl rfl (by kernel_rfl) (fun _ _ _ h => absurd h.1 (by simp)) (.inl ⟨by kernel_rfl, fun w' h => by go_simp; rfl⟩) HT4.out ?_
          simp only [Act.put, zzA, zzB, zzC]
          refine hT 13 32 rfl rfl (by kernel_rfl) (fun _ _ _ h => absurd h.1 (by simp)) (.inl ⟨by kernel_rfl, fun w' h => by go_simp; rfl⟩) HT4.out ?_
          simp only [Act.put, zzA, zzB, zzC]
          refine wpAnyH_all (rs := [14]) (by kernel_rfl) (by simp) ?_
          intro i hi
          have hi' : i = 14 := by simpa using hi
          clear hi
          subst hi'
          refine wpOp_new (some 7) rfl rfl (by kernel_rfl) (exec_allocSp rfl) ?_
          have hb5 : Below y4.heap.size y4 (y4.alloc (spB 0 0)) := (Below.refl _ _).alloc (Nat.le_refl _) _
          have HM14_5 := hide (blk_new y4 (spB 0 0))
          have hp5 : y4.heap.size < (y4.alloc (spB 0 0)).heap.size := by simp
          generalize y4.alloc (spB 0 0) = y5 at *
          have HT5 := hide (HT4.out.below hb5)
          have HZ5 := hide ((hb5.block _ (blk_lt HZ4.out)).trans HZ4.out)
          have hs5 := hb5.size
          have HM15_5 := hide ((hb5.block _ (blk_lt HM15_4.out)).trans HM15_4.out)
          clear hb5
          refine ⟨HT5.out, ?_⟩
          simp only [Act.put, zzA, zzB, zzC]
          have hs0' := HT0.out.s
          refine held_storeSp (i := 16) (.tmp 7) (.tmp 30) (y4.heap.size) #[.int .i64 (L1), .int .i64 (H1)] _ (by kernel_rfl) rfl (by kernel_rfl) rfl (by kernel_rfl) (by kernel_rfl) HM14_5.out rfl rfl (by simp [Value.oneCell']) (HT5.out.setG _ (by omega) _) rfl ?_
          intro v1 hv1
          refine held_storeSp (i := 17) (.tmp 8) (.tmp 31) (y1.heap.size) #[.int .i64 (L2), .int .i64 (H2)] _ (by kernel_rfl) rfl (by kernel_rfl) rfl (by kernel_rfl) (by kernel_rfl) (by rw [hv1.out, setRow_other _ _ _ _ (by omega)]; exact HM15_5.out) rfl rfl (by simp [Value.oneCell']) (by rw [hv1.out]; exact (HT5.out.setG _ (by omega) _).setG _ (by omega) _) rfl ?_
          intro v2 hv2
          have hT2 : Two w c x v2 := by rw [hv2.out, hv1.out]; exact (HT5.out.setG _ (by omega) _).setG _ (by omega) _
          have hZ2 : v2.heap[w.heap.size + 1 + 1]? = some (clB clNone) := by rw [hv2.out, setRow_other _ _ _ _ (by omega), hv1.out, setRow_other _ _ _ _ (by omega)]; exact HZ5.out
          have h1 : v2.heap[y4.heap.size]? = some (spB (L1) (H1)) := by rw [hv2.out, setRow_other _ _ _ _ (by omega), hv1.out]; exact setRow_heap _ _ _ _ _ _ HM14_5.out
          have h2 : v2.heap[y1.heap.size]? = some (spB (L2) (H2)) := by rw [hv2.out]; exact setRow_heap _ _ _ _ _ _ (by rw [hv1.out, setRow_other _ _ _ _ (by omega)]; exact HM15_5.out)
          clear hv1 hv2
          refine hT 18 9 rfl rfl (by kernel_rfl) (fun _ _ _ h => absurd h.1 (by simp)) (.inl ⟨by kernel_rfl, fun w' h => by go_simp; rfl⟩) hT2 ?_
          simp only [Act.put, zzA, zzB, zzC]
          refine wpAnyH_done (by kernel_rfl) ?_ _
          exact ⟨rfl, y4.heap.size, y1.heap.size, rfl, hT2, hZ2, h1, h2⟩
        · refine wpOp_new (some 7) rfl rfl (by kernel_rfl) (exec_allocSp rfl) ?_
          have hb4 : Below y3.heap.size y3 (y3.alloc (spB 0 0)) := (Below.refl _ _).alloc (Nat.le_refl _) _
          have HM14_4 := hide (blk_new y3 (spB 0 0))
          have hp4 : y3.heap.size < (y3.alloc (spB 0 0)).heap.size := by simp
          generalize y3.alloc (spB 0 0) = y4 at *
          have HT4 := hide (HT3.out.below hb4)
          have HZ4 := hide ((hb4.block _ (blk_lt HZ3.out)).trans HZ3.out)
          have hs4 := hb4.size
          have HM15_4 := hide ((hb4.block _ (blk_lt HM15_3.out)).trans HM15_3.out)
          clear hb4
          refine ⟨HT4.out, ?_⟩
          simp only [Act.put, zzA, zzB, zzC]
          refine wpAnyH_all (rs := [9]) (by kernel_rfl) (by simp) ?_
          intro i hi
          have hi' : i = 9 := by simpa using hi
          clear hi
          subst hi'
          refine wpOp_call (some 29) rfl rfl (by kernel_rfl) (by go_simp; exact ⟨rfl, rfl⟩) ?_
          refine (HF.out _).mono ?_
          rintro e y5 ⟨rfl, hb5⟩
          have HT5 := hide (HT4.out.below hb5)
          have HZ5 := hide ((hb5.block _ (blk_lt HZ4.out)).trans HZ4.out)
          have hs5 := hb5.size
          have HM15_5 := hide ((hb5.block _ (blk_lt HM15_4.out)).trans HM15_4.out)
          have HM14_5 := hide ((hb5.block _ (blk_lt HM14_4.out)).trans HM14_4.out)
          clear hb5
          refine ⟨_, rfl, HT5.out, ?_⟩
          simp only [Act.put, zzA, zzB, zzC]
          refine hT 10 19 rfl rfl (by kernel_rfl) (fun _ _ _ h => absurd h.1 (by simp)) (.inl ⟨by kernel_rfl, fun w' h => by go_simp; rfl⟩) HT5.out ?_
          simp only [Act.put, zzA, zzB, zzC]
          refine hT 11 30 rfl rfl (by kernel_rfl) (fun _ _ _ h => absurd h.1 (by simp)) (.inl ⟨by kernel_rfl, fun w' h => by go_simp; rfl⟩) HT5.out ?_
          simp only [Act.put, zzA, zzB, zzC]
          refine hT 12 31 rfl rfl (by kernel_rfl) (fun _ _ _ h => absurd h.1 (by simp)) (.inl ⟨by kernel_rfl, fun w' h => by go_simp; rfl⟩) HT5.out ?_
          simp only [Act.put, zzA, zzB, zzC]
          refine hT 13 32 rfl rfl (by kernel_rfl) (fun _ _ _ h => absurd h.1 (by simp)) (.inl ⟨by kernel_rfl, fun w' h => by go_simp; rfl⟩) HT5.out ?_
          simp only [Act.put, zzA, zzB, zzC]
          have hs0' := HT0.out.s
          refine held_storeSp (i := 16) (.tmp 7) (.tmp 30) (y3.heap.size) #[.int .i64 (L1), .int .i64 (H1)] _ (by kernel_rfl) rfl (by kernel_rfl) rfl (by kernel_rfl) (by kernel_rfl) HM14_5.out rfl rfl (by simp [Value.oneCell']) (HT5.out.setG _ (by omega) _) rfl ?_
          intro v1 hv1
          refine held_storeSp (i := 17) (.tmp 8) (.tmp 31) (y1.heap.size) #[.int .i64 (L2), .int .i64 (H2)] _ (by kernel_rfl) rfl (by kernel_rfl) rfl (by kernel_rfl) (by kernel_rfl) (by rw [hv1.out, setRow_other _ _ _ _ (by omega)]; exact HM15_5.out) rfl rfl (by simp [Value.oneCell']) (by rw [hv1.out]; exact (HT5.out.setG _ (by omega) _).setG _ (by omega) _) rfl ?_
          intro v2 hv2
          have hT2 : Two w c x v2 := by rw [hv2.out, hv1.out]; exact (HT5.out.setG _ (by omega) _).setG _ (by omega) _
          have hZ2 : v2.heap[w.heap.size + 1 + 1]? = some (clB clNone) := by rw [hv2.out, setRow_other _ _ _ _ (by omega), hv1.out, setRow_other _ _ _ _ (by omega)]; exact HZ5.out
          have h1 : v2.heap[y3.heap.size]? = some (spB (L1) (H1)) := by rw [hv2.out, setRow_other _ _ _ _ (by omega), hv1.out]; exact setRow_heap _ _ _ _ _ _ HM14_5.out
          have h2 : v2.heap[y1.heap.size]? = some (spB (L2) (H2)) := by rw [hv2.out]; exact setRow_heap _ _ _ _ _ _ (by rw [hv1.out, setRow_other _ _ _ _ (by omega)]; exact HM15_5.out)
          clear hv1 hv2
          refine hT 18 9 rfl rfl (by kernel_rfl) (fun _ _ _ h => absurd h.1 (by simp)) (.inl ⟨by kernel_rfl, fun w' h => by go_simp; rfl⟩) hT2 ?_
          simp only [Act.put, zzA, zzB, zzC]
          refine wpAnyH_done (by kernel_rfl) ?_ _
          exact ⟨rfl, y3.heap.size, y1.heap.size, rfl, hT2, hZ2, h1, h2⟩
      · refine wpOp_new (some 7) rfl rfl (by kernel_rfl) (exec_allocSp rfl) ?_
        have hb3 : Below y2.heap.size y2 (y2.alloc (spB 0 0)) := (Below.refl _ _).alloc (Nat.le_refl _) _
        have HM14_3 := hide (blk_new y2 (spB 0 0))
        have hp3 : y2.heap.size < (y2.alloc (spB 0 0)).heap.size := by simp
        generalize y2.alloc (spB 0 0) = y3 at *
        have HT3 := hide (HT2.out.below hb3)
        have HZ3 := hide ((hb3.block _ (blk_lt HZ2.out)).trans HZ2.out)
        have hs3 := hb3.size
        have HM15_3 := hide ((hb3.block _ (blk_lt HM15_2.out)).trans HM15_2.out)
        clear hb3
        refine ⟨HT3.out, ?_⟩
        simp only [Act.put, zzA, zzB, zzC]
        refine wpAnyH_all (rs := [8]) (by kernel_rfl) (by simp) ?_
        intro i hi
        have hi' : i = 8 := by simpa using hi
        clear hi
        subst hi'
        refine wpOp_call (some 28) rfl rfl (by kernel_rfl) (by go_simp; exact ⟨rfl, rfl⟩) ?_
        refine (Span_any c s hs _).mono ?_
        rintro e y4 ⟨rfl, hw⟩
        have hb4 : Below y3.heap.size y3 y4 := by rw [hw]; exact ((Below.refl _ _).alloc (Nat.le_refl _) _).alloc (by simp) _
        clear hw
        have HT4 := hide (HT3.out.below hb4)
        have HZ4 := hide ((hb4.block _ (blk_lt HZ3.out)).trans HZ3.out)
        have hs4 := hb4.size
        have HM15_4 := hide ((hb4.block _ (blk_lt HM15_3.out)).trans HM15_3.out)
        have HM14_4 := hide ((hb4.block _ (blk_lt HM14_3.out)).trans HM14_3.out)
        clear hb4
        refine ⟨_, rfl, HT4.out, ?_⟩
        simp only [Act.put, zzA, zzB, zzC]
        refine wpAnyH_all (rs := [9]) (by kernel_rfl) (by simp) ?_
        intro i hi
        have hi' : i = 9 := by simpa using hi
        clear hi
        subst hi'
        refine wpOp_call (some 29) rfl rfl (by kernel_rfl) (by go_simp; exact ⟨rfl, rfl⟩) ?_
        refine (HF.out _).mono ?_
        rintro e y5 ⟨rfl, hb5⟩
        have HT5 := hide (HT4.out.below hb5)
        have HZ5 := hide ((hb5.block _ (blk_lt HZ4.out)).trans HZ4.out)
        have hs5 := hb5.size
        have HM15_5 := hide ((hb5.block _ (blk_lt HM15_4.out)).trans HM15_4.out)
        have HM14_5 := hide ((hb5.block _ (blk_lt HM14_4.out)).trans HM14_4.out)
        clear hb5
        refine ⟨_, rfl, HT5.out, ?_⟩
        simp only [Act.put, zzA, zzB, zzC]
        refine hT 10 19 rfl rfl (by kernel_rfl) (fun _ _ _ h => absurd h.1 (by simp)) (.inl ⟨by kernel_rfl, fun w' h => by go_simp; rfl⟩) HT5.out ?_
        simp only [Act.put, zzA, zzB, zzC]
        refine hT 11 30 rfl rfl (by kernel_rfl) (fun _ _ _ h => absurd h.1 (by simp)) (.inl ⟨by kernel_rfl, fun w' h => by go_simp; rfl⟩) HT5.out ?_
        simp only [Act.put, zzA, zzB, zzC]
        refine hT 12 31 rfl rfl (by kernel_rfl) (fun _ _ _ h => absurd h.1 (by simp)) (.inl ⟨by kernel_rfl, fun w' h => by go_simp; rfl⟩) HT5.out ?_
        simp only [Act.put, zzA, zzB, zzC]
        refine hT 13 32 rfl rfl (by kernel_rfl) (fun _ _ _ h => absurd h.1 (by simp)) (.inl ⟨by kernel_rfl, fun w' h => by go_simp; rfl⟩) HT5.out ?_
        simp only [Act.put, zzA, zzB, zzC]
        have hs0' := HT0.out.s
        refine held_storeSp (i := 16) (.tmp 7) (.tmp 30) (y2.heap.size) #[.int .i64 (L1), .int .i64 (H1)] _ (by kernel_rfl) rfl (by kernel_rfl) rfl (by kernel_rfl) (by kernel_rfl) HM14_5.out rfl rfl (by simp [Value.oneCell']) (HT5.out.setG _ (by omega) _) rfl ?_
        intro v1 hv1
        refine held_storeSp (i := 17) (.tmp 8) (.tmp 31) (y1.heap.size) #[.int .i64 (L2), .int .i64 (H2)] _ (by kernel_rfl) rfl (by kernel_rfl) rfl (by kernel_rfl) (by kernel_rfl) (by rw [hv1.out, setRow_other _ _ _ _ (by omega)]; exact HM15_5.out) rfl rfl (by simp [Value.oneCell']) (by rw [hv1.out]; exact (HT5.out.setG _ (by omega) _).setG _ (by omega) _) rfl ?_
        intro v2 hv2
        have hT2 : Two w c x v2 := by rw [hv2.out, hv1.out]; exact (HT5.out.setG _ (by omega) _).setG _ (by omega) _
        have hZ2 : v2.heap[w.heap.size + 1 + 1]? = some (clB clNone) := by rw [hv2.out, setRow_other _ _ _ _ (by omega), hv1.out, setRow_other _ _ _ _ (by omega)]; exact HZ5.out
        have h1 : v2.heap[y2.heap.size]? = some (spB (L1) (H1)) := by rw [hv2.out, setRow_other _ _ _ _ (by omega), hv1.out]; exact setRow_heap _ _ _ _ _ _ HM14_5.out
        have h2 : v2.heap[y1.heap.size]? = some (spB (L2) (H2)) := by rw [hv2.out]; exact setRow_heap _ _ _ _ _ _ (by rw [hv1.out, setRow_other _ _ _ _ (by omega)]; exact HM15_5.out)
        clear hv1 hv2
        refine hT 18 9 rfl rfl (by kernel_rfl) (fun _ _ _ h => absurd h.1 (by simp)) (.inl ⟨by kernel_rfl, fun w' h => by go_simp; rfl⟩) hT2 ?_
        simp only [Act.put, zzA, zzB, zzC]
        refine wpAnyH_done (by kernel_rfl) ?_ _
        exact ⟨rfl, y2.heap.size, y1.heap.size, rfl, hT2, hZ2, h1, h2⟩
  · refine wpOp_new (some 7) rfl rfl (by kernel_rfl) (exec_allocSp rfl) ?_
    have hb1 : Below y0.heap.size y0 (y0.alloc (spB 0 0)) := (Below.refl _ _).alloc (Nat.le_refl _) _
    have HM14_1 := hide (blk_new y0 (spB 0 0))
    have hp1 : y0.heap.size < (y0.alloc (spB 0 0)).heap.size := by simp
    generalize y0.alloc (spB 0 0) = y1 at *
    have HT1 := hide (HT0.out.below hb1)
    have HZ1 := hide ((hb1.block _ (blk_lt HZ0.out)).trans HZ0.out)
    have hs1 := hb1.size
    clear hb1
    refine ⟨HT1.out, ?_⟩
    simp only [Act.put, zzA, zzB, zzC]
    refine wpAnyH_all (rs := [4, 15]) (by kernel_rfl) (by simp) ?_
    intro i hi
    have hi' : i = 4 ∨ i = 15 := by simpa using hi
    clear hi
    rcases hi' with rfl | rfl
    · refine wpOp_call (some 24) rfl rfl (by kernel_rfl) (by go_simp; exact ⟨rfl, rfl⟩) ?_
      refine (Span_any c r hr _).mono ?_
      rintro e y2 ⟨rfl, hw⟩
      have hb2 : Below y1.heap.size y1 y2 := by rw [hw]; exact ((Below.refl _ _).alloc (Nat.le_refl _) _).alloc (by simp) _
      clear hw
      have HT2 := hide (HT1.out.below hb2)
      have HZ2 := hide ((hb2.block _ (blk_lt HZ1.out)).trans HZ1.out)
      have hs2 := hb2.size
      have HM14_2 := hide ((hb2.block _ (blk_lt HM14_1.out)).trans HM14_1.out)
      clear hb2
      refine ⟨_, rfl, HT2.out, ?_⟩
      simp only [Act.put, zzA, zzB, zzC]
      refine wpAnyH_all (rs := [8, 15]) (by kernel_rfl) (by simp) ?_
      intro i hi
      have hi' : i = 8 ∨ i = 15 := by simpa using hi
      clear hi
      rcases hi' with rfl | rfl
      · refine wpOp_call (some 28) rfl rfl (by kernel_rfl) (by go_simp; exact ⟨rfl, rfl⟩) ?_
        refine (Span_any c s hs _).mono ?_
        rintro e y3 ⟨rfl, hw⟩
        have hb3 : Below y2.heap.size y2 y3 := by rw [hw]; exact ((Below.refl _ _).alloc (Nat.le_refl _) _).alloc (by simp) _
        clear hw
        have HT3 := hide (HT2.out.below hb3)
        have HZ3 := hide ((hb3.block _ (blk_lt HZ2.out)).trans HZ2.out)
        have hs3 := hb3.size
        have HM14_3 := hide ((hb3.block _ (blk_lt HM14_2.out)).trans HM14_2.out)
        clear hb3
        refine ⟨_, rfl, HT3.out, ?_⟩
        simp only [Act.put, zzA, zzB, zzC]
        refine wpAnyH_all (rs := [9, 15]) (by kernel_rfl) (by simp) ?_
        intro i hi
        have hi' : i = 9 ∨ i = 15 := by simpa using hi
        clear hi
        rcases hi' with rfl | rfl
        · refine wpOp_call (some 29) rfl rfl (by kernel_rfl) (by go_simp; exact ⟨rfl, rfl⟩) ?_
          refine (HF.out _).mono ?_
          rintro e y4 ⟨rfl, hb4⟩
          have HT4 := hide (HT3.out.below hb4)
          have HZ4 := hide ((hb4.block _ (blk_lt HZ3.out)).trans HZ3.out)
          have hs4 := hb4.size
          have HM14_4 := hide ((hb4.block _ (blk_lt HM14_3.out)).trans HM14_3.out)
          clear hb4
          refine ⟨_, rfl, HT4.out, ?_⟩
          simp only [Act.put, zzA, zzB, zzC]
          refine hT 10 19 rfl rfl (by kernel_rfl) (fun _ _ _ h => absurd h.1 (by simp)) (.inl ⟨by kernel_rfl, fun w' h => by go_simp; rfl⟩) HT4.out ?_
          simp only [Act.put, zzA, zzB, zzC]
          refine hT 11 30 rfl rfl (by kernel_rfl) (fun _ _ _ h => absurd h.1 (by simp)) (.inl ⟨by kernel_rfl, fun w' h => by go_simp; rfl⟩) HT4.out ?_
          simp only [Act.put, zzA, zzB, zzC]
          refine hT 12 31 rfl rfl (by kernel_rfl) (fun _ _ _ h => absurd h.1 (by simp)) (.inl ⟨by kernel_rfl, fun w' h => by go_simp; rfl⟩) HT4.out ?_
          simp only [Act.put, zzA, zzB, zzC]
          refine hT 13 32 rfl rfl (by kernel_rfl) (fun _ _ _ h => absurd h.1 (by simp)) (.inl ⟨by kernel_rfl, fun w' h => by go_simp; rfl⟩) HT4.out ?_
          simp only [Act.put, zzA, zzB, zzC]
          refine wpAnyH_all (rs := [15]) (by kernel_rfl) (by simp) ?_
          intro i hi
          have hi' : i = 15 := by simpa using hi
          clear hi
          subst hi'
          refine wpOp_new (some 8) rfl rfl (by kernel_rfl) (exec_allocSp rfl) ?_
          have hb5 : Below y4.heap.size y4 (y4.alloc (spB 0 0)) := (Below.refl _ _).alloc (Nat.le_refl _) _
          have HM15_5 := hide (blk_new y4 (spB 0 0))
          have hp5 : y4.heap.size < (y4.alloc (spB 0 0)).heap.size := by simp
          generalize y4.alloc (spB 0 0) = y5 at *
          have HT5 := hide (HT4.out.below hb5)
          have HZ5 := hide ((hb5.block _ (blk_lt HZ4.out)).trans HZ4.out)
          have hs5 := hb5.size
          have HM14_5 := hide ((hb5.block _ (blk_lt HM14_4.out)).trans HM14_4.out)
          clear hb5
          refine ⟨HT5.out, ?_⟩
          simp only [Act.put, zzA, zzB, zzC]
          have hs0' := HT0.out.s
          refine held_storeSp (i := 16) (.tmp 7) (.tmp 30) (y0.heap.size) #[.int .i64 (L1), .int .i64 (H1)] _ (by kernel_rfl) rfl (by kernel_rfl) rfl (by kernel_rfl) (by kernel_rfl) HM14_5.out rfl rfl (by simp [Value.oneCell']) (HT5.out.setG _ (by omega) _) rfl ?_
          intro v1 hv1
          refine held_storeSp (i := 17) (.tmp 8) (.tmp 31) (y4.heap.size) #[.int .i64 (L2), .int .i64 (H2)] _ (by kernel_rfl) rfl (by kernel_rfl) rfl (by kernel_rfl) (by kernel_rfl) (by rw [hv1.out, setRow_other _ _ _ _ (by omega)]; exact HM15_5.out) rfl rfl (by simp [Value.oneCell']) (by rw [hv1.out]; exact (HT5.out.setG _ (by omega) _).setG _ (by omega) _) rfl ?_
          intro v2 hv2
          have hT2 : Two w c x v2 := by rw [hv2.out, hv1.out]; exact (HT5.out.setG _ (by omega) _).setG _ (by omega) _
          have hZ2 : v2.heap[w.heap.size + 1 + 1]? = some (clB clNone) := by rw [hv2.out, setRow_other _ _ _ _ (by omega), hv1.out, setRow_other _ _ _ _ (by omega)]; exact HZ5.out
          have h1 : v2.heap[y0.heap.size]? = some (spB (L1) (H1)) := by rw [hv2.out, setRow_other _ _ _ _ (by omega), hv1.out]; exact setRow_heap _ _ _ _ _ _ HM14_5.out
          have h2 : v2.heap[y4.heap.size]? = some (spB (L2) (H2)) := by rw [hv2.out]; exact setRow_heap _ _ _ _ _ _ (by rw [hv1.out, setRow_other _ _ _ _ (by omega)]; exact HM15_5.out)
          clear hv1 hv2
          refine hT 18 9 rfl rfl (by kernel_rfl) (fun _ _ _ h => absurd h.1 (by simp)) (.inl ⟨by kernel_rfl, fun w' h => by go_simp; rfl⟩) hT2 ?_
          simp only [Act.put, zzA, zzB, zzC]
          refine wpAnyH_done (by kernel_rfl) ?_ _
          exact ⟨rfl, y0.heap.size, y4.heap.size, rfl, hT2, hZ2, h1, h2⟩
        · refine wpOp_new (some 8) rfl rfl (by kernel_rfl) (exec_allocSp rfl) ?_
          have hb4 : Below y3.heap.size y3 (y3.alloc (spB 0 0)) := (Below.refl _ _).alloc (Nat.le_refl _) _
          have HM15_4 := hide (blk_new y3 (spB 0 0))
          have hp4 : y3.heap.size < (y3.alloc (spB 0 0)).heap.size := by simp
          generalize y3.alloc (spB 0 0) = y4 at *
          have HT4 := hide (HT3.out.below hb4)
          have HZ4 := hide ((hb4.block _ (blk_lt HZ3.out)).trans HZ3.out)
          have hs4 := hb4.size
          have HM14_4 := hide ((hb4.block _ (blk_lt HM14_3.out)).trans HM14_3.out)
          clear hb4
          refine ⟨HT4.out, ?_⟩
          simp only [Act.put, zzA, zzB, zzC]
          refine wpAnyH_all (rs := [9]) (by kernel_rfl) (by simp) ?_
          intro i hi
          have hi' : i = 9 := by simpa using hi
          clear hi
          subst hi'
          refine wpOp_call (some 29) rfl rfl (by kernel_rfl) (by go_simp; exact ⟨rfl, rfl⟩) ?_
          refine (HF.out _).mono ?_
          rintro e y5 ⟨rfl, hb5⟩
          have HT5 := hide (HT4.out.below hb5)
          have HZ5 := hide ((hb5.block _ (blk_lt HZ4.out)).trans HZ4.out)
          have hs5 := hb5.size
          have HM14_5 := hide ((hb5.block _ (blk_lt HM14_4.out)).trans HM14_4.out)
          have HM15_5 := hide ((hb5.block _ (blk_lt HM15_4.out)).trans HM15_4.out)
          clear hb5
          refine ⟨_, rfl, HT5.out, ?_⟩
          simp only [Act.put, zzA, zzB, zzC]
          refine hT 10 19 rfl rfl (by kernel_rfl) (fun _ _ _ h => absurd h.1 (by simp)) (.inl ⟨by kernel_rfl, fun w' h => by go_simp; rfl⟩) HT5.out ?_
          simp only [Act.put, zzA, zzB, zzC]
          refine hT 11 30 rfl rfl (by kernel_rfl) (fun _ _ _ h => absurd h.1 (by simp)) (.inl ⟨by kernel_rfl, fun w' h => by go_simp; rfl⟩) HT5.out ?_
          simp only [Act.put, zzA, zzB, zzC]
          refine hT 12 31 rfl rfl (by kernel_rfl) (fun _ _ _ h => absurd h.1 (by simp)) (.inl ⟨by kernel_rfl, fun w' h => by go_simp; rfl⟩) HT5.out ?_
          simp only [Act.put, zzA, zzB, zzC]
          refine hT 13 32 rfl rfl (by kernel_rfl) (fun _ _ _ h => absurd h.1 (by simp)) (.inl ⟨by kernel_rfl, fun w' h => by go_simp; rfl⟩) HT5.out ?_
          simp only [Act.put, zzA, zzB, zzC]
          have hs0' := HT0.out.s
          refine held_storeSp (i := 16) (.tmp 7) (.tmp 30) (y0.heap.size) #[.int .i64 (L1), .int .i64 (H1)] _ (by kernel_rfl) rfl (by kernel_rfl) rfl (by kernel_rfl) (by kernel_rfl) HM14_5.out rfl rfl (by simp [Value.oneCell']) (HT5.out.setG _ (by omega) _) rfl ?_
          intro v1 hv1
          refine held_storeSp (i := 17) (.tmp 8) (.tmp 31) (y3.heap.size) #[.int .i64 (L2), .int .i64 (H2)] _ (by kernel_rfl) rfl (by kernel_rfl) rfl (by kernel_rfl) (by kernel_rfl) (by rw [hv1.out, setRow_other _ _ _ _ (by omega)]; exact HM15_5.out) rfl rfl (by simp [Value.oneCell']) (by rw [hv1.out]; exact (HT5.out.setG _ (by omega) _).setG _ (by omega) _) rfl ?_
          intro v2 hv2
          have hT2 : Two w c x v2 := by rw [hv2.out, hv1.out]; exact (HT5.out.setG _ (by omega) _).setG _ (by omega) _
          have hZ2 : v2.heap[w.heap.size + 1 + 1]? = some (clB clNone) := by rw [hv2.out, setRow_other _ _ _ _ (by omega), hv1.out, setRow_other _ _ _ _ (by omega)]; exact HZ5.out
          have h1 : v2.heap[y0.heap.size]? = some (spB (L1) (H1)) := by rw [hv2.out, setRow_other _ _ _ _ (by omega), hv1.out]; exact setRow_heap _ _ _ _ _ _ HM14_5.out
          have h2 : v2.heap[y3.heap.size]? = some (spB (L2) (H2)) := by rw [hv2.out]; exact setRow_heap _ _ _ _ _ _ (by rw [hv1.out, setRow_other _ _ _ _ (by omega)]; exact HM15_5.out)
          clear hv1 hv2
          refine hT 18 9 rfl rfl (by kernel_rfl) (fun _ _ _ h => absurd h.1 (by simp)) (.inl ⟨by kernel_rfl, fun w' h => by go_simp; rfl⟩) hT2 ?_
          simp only [Act.put, zzA, zzB, zzC]
          refine wpAnyH_done (by kernel_rfl) ?_ _
          exact ⟨rfl, y0.heap.size, y3.heap.size, rfl, hT2, hZ2, h1, h2⟩
      · refine wpOp_new (some 8) rfl rfl (by kernel_rfl) (exec_allocSp rfl) ?_
        have hb3 : Below y2.heap.size y2 (y2.alloc (spB 0 0)) := (Below.refl _ _).alloc (Nat.le_refl _) _
        have HM15_3 := hide (blk_new y2 (spB 0 0))
        have hp3 : y2.heap.size < (y2.alloc (spB 0 0)).heap.size := by simp
        generalize y2.alloc (spB 0 0) = y3 at *
        have HT3 := hide (HT2.out.below hb3)
        have HZ3 := hide ((hb3.block _ (blk_lt HZ2.out)).trans HZ2.out)
        have hs3 := hb3.size
        have HM14_3 := hide ((hb3.block _ (blk_lt HM14_2.out)).trans HM14_2.out)
        clear hb3
        refine ⟨HT3.out, ?_⟩
        simp only [Act.put, zzA, zzB, zzC]
        refine wpAnyH_all (rs := [8]) (by kernel_rfl) (by simp) ?_
        intro i hi
        have hi' : i = 8 := by simpa using hi
        clear hi
        subst hi'
        refine wpOp_call (some 28) rfl rfl (by kernel_rfl) (by go_simp; exact ⟨rfl, rfl⟩) ?_
        refine (Span_any c s hs _).mono ?_
        rintro e y4 ⟨rfl, hw⟩
        have hb4 : Below y3.heap.size y3 y4 := by rw [hw]; exact ((Below.refl _ _).alloc (Nat.le_refl _) _).alloc (by simp) _
        clear hw
        have HT4 := hide (HT3.out.below hb4)
        have HZ4 := hide ((hb4.block _ (blk_lt HZ3.out)).trans HZ3.out)
        have hs4 := hb4.size
        have HM14_4 := hide ((hb4.block _ (blk_lt HM14_3.out)).trans HM14_3.out)
        have HM15_4 := hide ((hb4.block _ (blk_lt HM15_3.out)).trans HM15_3.out)
        clear hb4
        refine ⟨_, rfl, HT4.out, ?_⟩
        simp only [Act.put, zzA, zzB, zzC]
        refine wpAnyH_all (rs := [9]) (by kernel_rfl) (by simp) ?_
        intro i hi
        have hi' : i = 9 := by simpa using hi
        clear hi
        subst hi'
        refine wpOp_call (some 29) rfl rfl (by kernel_rfl) (by go_simp; exact ⟨rfl, rfl⟩) ?_
        refine (HF.out _).mono ?_
        rintro e y5 ⟨rfl, hb5⟩
        have HT5 := hide (HT4.out.below hb5)
        have HZ5 := hide ((hb5.block _ (blk_lt HZ4.out)).trans HZ4.out)
        have hs5 := hb5.size
        have HM14_5 := hide ((hb5.block _ (blk_lt HM14_4.out)).trans HM14_4.out)
        have HM15_5 := hide ((hb5.block _ (blk_lt HM15_4.out)).trans HM15_4.out)
        clear hb5
        refine ⟨_, rfl, HT5.out, ?_⟩
        simp only [Act.put, zzA, zzB, zzC]
        refine hT 10 19 rfl rfl (by kernel_rfl) (fun _ _ _ h => absurd h.1 (by simp)) (.inl ⟨by kernel_rfl, fun w' h => by go_simp; rfl⟩) HT5.out ?_
        simp only [Act.put, zzA, zzB, zzC]
        refine hT 11 30 rfl rfl (by kernel_rfl) (fun _ _ _ h => absurd h.1 (by simp)) (.inl ⟨by kernel_rfl, fun w' h => by go_simp; rfl⟩) HT5.out ?_
        simp only [Act.put, zzA, zzB, zzC]
        refine hT 12 31 rfl rfl (by kernel_rfl) (fun _ _ _ h => absurd h.1 (by simp)) (.inl ⟨by kernel_rfl, fun w' h => by go_simp; rfl⟩) HT5.out ?_
        simp only [Act.put, zzA, zzB, zzC]
        refine hT 13 32 rfl rfl (by kernel_rfl) (fun _ _ _ h => absurd h.1 (by simp)) (.inl ⟨by kernel_rfl, fun w' h => by go_simp; rfl⟩) HT5.out ?_
        simp only [Act.put, zzA, zzB, zzC]
        have hs0' := HT0.out.s
        refine held_storeSp (i := 16) (.tmp 7) (.tmp 30) (y0.heap.size) #[.int .i64 (L1), .int .i64 (H1)] _ (by kernel_rfl) rfl (by kernel_rfl) rfl (by kernel_rfl) (by kernel_rfl) HM14_5.out rfl rfl (by simp [Value.oneCell']) (HT5.out.setG _ (by omega) _) rfl ?_
        intro v1 hv1
        refine held_storeSp (i := 17) (.tmp 8) (.tmp 31) (y2.heap.size) #[.int .i64 (L2), .int .i64 (H2)] _ (by kernel_rfl) rfl (by kernel_rfl) rfl (by kernel_rfl) (by kernel_rfl) (by rw [hv1.out, setRow_other _ _ _ _ (by omega)]; exact HM15_5.out) rfl rfl (by simp [Value.oneCell']) (by rw [hv1.out]; exact (HT5.out.setG _ (by omega) _).setG _ (by omega) _) rfl ?_
        intro v2 hv2
        have hT2 : Two w c x v2 := by rw [hv2.out, hv1.out]; exact (HT5.out.setG _ (by omega) _).setG _ (by omega) _
        have hZ2 : v2.heap[w.heap.size + 1 + 1]? = some (clB clNone) := by rw [hv2.out, setRow_other _ _ _ _ (by omega), hv1.out, setRow_other _ _ _ _ (by omega)]; exact HZ5.out
        have h1 : v2.heap[y0.heap.size]? = some (spB (L1) (H1)) := by rw [hv2.out, setRow_other _ _ _ _ (by omega), hv1.out]; exact setRow_heap _ _ _ _ _ _ HM14_5.out
        have h2 : v2.heap[y2.heap.size]? = some (spB (L2) (H2)) := by rw [hv2.out]; exact setRow_heap _ _ _ _ _ _ (by rw [hv1.out, setRow_other _ _ _ _ (by omega)]; exact HM15_5.out)
        clear hv1 hv2
        refine hT 18 9 rfl rfl (by kernel_rfl) (fun _ _ _ h => absurd h.1 (by simp)) (.inl ⟨by kernel_rfl, fun w' h => by go_simp; rfl⟩) hT2 ?_
        simp only [Act.put, zzA, zzB, zzC]
        refine wpAnyH_done (by kernel_rfl) ?_ _
        exact ⟨rfl, y0.heap.size, y2.heap.size, rfl, hT2, hZ2, h1, h2⟩
    · refine wpOp_new (some 8) rfl rfl (by kernel_rfl) (exec_allocSp rfl) ?_
      have hb2 : Below y1.heap.size y1 (y1.alloc (spB 0 0)) := (Below.refl _ _).alloc (Nat.le_refl _) _
      have HM15_2 := hide (blk_new y1 (spB 0 0))
      have hp2 : y1.heap.size < (y1.alloc (spB 0 0)).heap.size := by simp
      generalize y1.alloc (spB 0 0) = y2 at *
      have HT2 := hide (HT1.out.below hb2)
      have HZ2 := hide ((hb2.block _ (blk_lt HZ1.out)).trans HZ1.out)
      have hs2 := hb2.size
      have HM14_2 := hide ((hb2.block _ (blk_lt HM14_1.out)).trans HM14_1.out)
      clear hb2
      refine ⟨HT2.out, ?_⟩
      simp only [Act.put, zzA, zzB, zzC]
      refine wpAnyH_all (rs := [4]) (by kernel_rfl) (by simp) ?_
      intro i hi
      have hi' : i = 4 := by simpa using hi
      clear hi
      subst hi'
      refine wpOp_call (some 24) rfl rfl (by kernel_rfl) (by go_simp; exact ⟨rfl, rfl⟩) ?_
      refine (Span_any c r hr _).mono ?_
      rintro e y3 ⟨rfl, hw⟩
      have hb3 : Below y2.heap.size y2 y3 := by rw [hw]; exact ((Below.refl _ _).alloc (Nat.le_refl _) _).alloc (by simp) _
      clear hw
      have HT3 := hide (HT2.out.below hb3)
      have HZ3 := hide ((hb3.block _ (blk_lt HZ2.out)).trans HZ2.out)
      have hs3 := hb3.size
      have HM14_3 := hide ((hb3.block _ (blk_lt HM14_2.out)).trans HM14_2.out)
      have HM15_3 := hide ((hb3.block _ (blk_lt HM15_2.out)).trans HM15_2.out)
      clear hb3
      refine ⟨_, rfl, HT3.out, ?_⟩
      simp only [Act.put, zzA, zzB, zzC]
      refine wpAnyH_all (rs := [8]) (by kernel_rfl) (by simp) ?_
      intro i hi
      have hi' : i = 8 := by simpa using hi
      clear hi
      subst hi'
      refine wpOp_call (some 28) rfl rfl (by kernel_rfl) (by go_simp; exact ⟨rfl, rfl⟩) ?_
      refine (Span_any c s hs _).mono ?_
      rintro e y4 ⟨rfl, hw⟩
      have hb4 : Below y3.heap.size y3 y4 := by rw [hw]; exact ((Below.refl _ _).alloc (Nat.le_refl _) _).alloc (by simp) _
      clear hw
      have HT4 := hide (HT3.out.below hb4)
      have HZ4 := hide ((hb4.block _ (blk_lt HZ3.out)).trans HZ3.out)
      have hs4 := hb4.size
      have HM14_4 := hide ((hb4.block _ (blk_lt HM14_3.out)).trans HM14_3.out)
      have HM15_4 := hide ((hb4.block _ (blk_lt HM15_3.out)).trans HM15_3.out)
      clear hb4
      refine ⟨_, rfl, HT4.out, ?_⟩
      simp only [Act.put, zzA, zzB, zzC]
      refine wpAnyH_all (rs := [9]) (by kernel_rfl) (by simp) ?_
      intro i hi
      have hi' : i = 9 := by simpa using hi
      clear hi
      subst hi'
      refine wpOp_call (some 29) rfl rfl (by kernel_rfl) (by go_simp; exact ⟨rfl, rfl⟩) ?_
      refine (HF.out _).mono ?_
      rintro e y5 ⟨rfl, hb5⟩
      have HT5 := hide (HT4.out.below hb5)
      have HZ5 := hide ((hb5.block _ (blk_lt HZ4.out)).trans HZ4.out)
      have hs5 := hb5.size
      have HM14_5 := hide ((hb5.block _ (blk_lt HM14_4.out)).trans HM14_4.out)
      have HM15_5 := hide ((hb5.block _ (blk_lt HM15_4.out)).trans HM15_4.out)
      clear hb5
      refine ⟨_, rfl, HT5.out, ?_⟩
      simp only [Act.put, zzA, zzB, zzC]
      refine hT 10 19 rfl rfl (by kernel_rfl) (fun _ _ _ h => absurd h.1 (by simp)) (.inl ⟨by kernel_rfl, fun w' h => by go_simp; rfl⟩) HT5.out ?_
      simp only [Act.put, zzA, zzB, zzC]
      refine hT 11 30 rfl rfl (by kernel_rfl) (fun _ _ _ h => absurd h.1 (by simp)) (.inl ⟨by kernel_rfl, fun w' h => by go_simp; rfl⟩) HT5.out ?_
      simp only [Act.put, zzA, zzB, zzC]
      refine hT 12 31 rfl rfl (by kernel_rfl) (fun _ _ _ h => absurd h.1 (by simp)) (.inl ⟨by kernel_rfl, fun w' h => by go_simp; rfl⟩) HT5.out ?_
      simp only [Act.put, zzA, zzB, zzC]
      refine hT 13 32 rfl rfl (by kernel_rfl) (fun _ _ _ h => absurd h.1 (by simp)) (.inl ⟨by kernel_rfl, fun w' h => by go_simp; rfl⟩) HT5.out ?_
      simp only [Act.put, zzA, zzB, zzC]
      have hs0' := HT0.out.s
      refine held_storeSp (i := 16) (.tmp 7) (.tmp 30) (y0.heap.size) #[.int .i64 (L1), .int .i64 (H1)] _ (by kernel_rfl) rfl (by kernel_rfl) rfl (by kernel_rfl) (by kernel_rfl) HM14_5.out rfl rfl (by simp [Value.oneCell']) (HT5.out.setG _ (by omega) _) rfl ?_
      intro v1 hv1
      refine held_storeSp (i := 17) (.tmp 8) (.tmp 31) (y1.heap.size) #[.int .i64 (L2), .int .i64 (H2)] _ (by kernel_rfl) rfl (by kernel_rfl) rfl (by kernel_rfl) (by kernel_rfl) (by rw [hv1.out, setRow_other _ _ _ _ (by omega)]; exact HM15_5.out) rfl rfl (by simp [Value.oneCell']) (by rw [hv1.out]; exact (HT5.out.setG _ (by omega) _).setG _ (by omega) _) rfl ?_
      intro v2 hv2
      have hT2 : Two w c x v2 := by rw [hv2.out, hv1.out]; exact (HT5.out.setG _ (by omega) _).setG _ (by omega) _
      have hZ2 : v2.heap[w.heap.size + 1 + 1]? = some (clB clNone) := by rw [hv2.out, setRow_other _ _ _ _ (by omega), hv1.out, setRow_other _ _ _ _ (by omega)]; exact HZ5.out
      have h1 : v2.heap[y0.heap.size]? = some (spB (L1) (H1)) := by rw [hv2.out, setRow_other _ _ _ _ (by omega), hv1.out]; exact setRow_heap _ _ _ _ _ _ HM14_5.out
      have h2 : v2.heap[y1.heap.size]? = some (spB (L2) (H2)) := by rw [hv2.out]; exact setRow_heap _ _ _ _ _ _ (by rw [hv1.out, setRow_other _ _ _ _ (by omega)]; exact HM15_5.out)
      clear hv1 hv2
      refine hT 18 9 rfl rfl (by kernel_rfl) (fun _ _ _ h => absurd h.1 (by simp)) (.inl ⟨by kernel_rfl, fun w' h => by go_simp; rfl⟩) hT2 ?_
      simp only [Act.put, zzA, zzB, zzC]
      refine wpAnyH_done (by kernel_rfl) ?_ _
      exact ⟨rfl, y0.heap.size, y1.heap.size, rfl, hT2, hZ2, h1, h2⟩
  · refine wpOp_new (some 8) rfl rfl (by kernel_rfl) (exec_allocSp rfl) ?_
    have hb1 : Below y0.heap.size y0 (y0.alloc (spB 0 0)) := (Below.refl _ _).alloc (Nat.le_refl _) _
    have HM15_1 := hide (blk_new y0 (spB 0 0))
    have hp1 : y0.heap.size < (y0.alloc (spB 0 0)).heap.size := by simp
    generalize y0.alloc (spB 0 0) = y1 at *
    have HT1 := hide (HT0.out.below hb1)
    have HZ1 := hide ((hb1.block _ (blk_lt HZ0.out)).trans HZ0.out)
    have hs1 := hb1.size
    clear hb1
    refine ⟨HT1.out, ?_⟩
    simp only [Act.put, zzA, zzB, zzC]
    refine wpAnyH_all (rs := [4, 14]) (by kernel_rfl) (by simp) ?_
    intro i hi
    have hi' : i = 4 ∨ i = 14 := by simpa using hi
    clear hi
    rcases hi' with rfl | rfl
    · refine wpOp_call (some 24) rfl rfl (by kernel_rfl) (by go_simp; exact ⟨rfl, rfl⟩) ?_
      refine (Span_any c r hr _).mono ?_
      rintro e y2 ⟨rfl, hw⟩
      have hb2 : Below y1.heap.size y1 y2 := by rw [hw]; exact ((Below.refl _ _).alloc (Nat.le_refl _) _).alloc (by simp) _
      clear hw
      have HT2 := hide (HT1.out.below hb2)
      have HZ2 := hide ((hb2.block _ (blk_lt HZ1.out)).trans HZ1.out)
      have hs2 := hb2.size
      have HM15_2 := hide ((hb2.block _ (blk_lt HM15_1.out)).trans HM15_1.out)
      clear hb2
      refine ⟨_, rfl, HT2.out, ?_⟩
      simp only [Act.put, zzA, zzB, zzC]
      refine wpAnyH_all (rs := [8, 14]) (by kernel_rfl) (by simp) ?_
      intro i hi
      have hi' : i = 8 ∨ i = 14 := by simpa using hi
      clear hi
      rcases hi' with rfl | rfl
      · refine wpOp_call (some 28) rfl rfl (by kernel_rfl) (by go_simp; exact ⟨rfl, rfl⟩) ?_
        refine (Span_any c s hs _).mono ?_
        rintro e y3 ⟨rfl, hw⟩
        have hb3 : Below y2.heap.size y2 y3 := by rw [hw]; exact ((Below.refl _ _).alloc (Nat.le_refl _) _).alloc (by simp) _
        clear hw
        have HT3 := hide (HT2.out.below hb3)
        have HZ3 := hide ((hb3.block _ (blk_lt HZ2.out)).trans HZ2.out)
        have hs3 := hb3.size
        have HM15_3 := hide ((hb3.block _ (blk_lt HM15_2.out)).trans HM15_2.out)
        clear hb3
        refine ⟨_, rfl, HT3.out, ?_⟩
        simp only [Act.put, zzA, zzB, zzC]
        refine wpAnyH_all (rs := [9, 14]) (by kernel_rfl) (by simp) ?_
        intro i hi
        have hi' : i = 9 ∨ i = 14 := by simpa using hi
        clear hi
        rcases hi' with rfl | rfl
        · refine wpOp_call (some 29) rfl rfl (by kernel_rfl) (by go_simp; exact ⟨rfl, rfl⟩) ?_
          refine (HF.out _).mono ?_
          rintro e y4 ⟨rfl, hb4⟩
          have HT4 := hide (HT3.out.below hb4)
          have HZ4 := hide ((hb4.block _ (blk_lt HZ3.out)).trans HZ3.out)
          have hs4 := hb4.size
          have HM15_4 := hide ((hb4.block _ (blk_lt HM15_3.out)).trans HM15_3.out)
          clear hb4
          refine ⟨_, rfl, HT4.out, ?_⟩
          simp only [Act.put, zzA, zzB, zzC]
          refine hT 10 19 rfl rfl (by kernel_rfl) (fun _ _ _ h => absurd h.1 (by simp)) (.inl ⟨by kernel_rfl, fun w' h => by go_simp; rfl⟩) HT4.out ?_
          simp only [Act.put, zzA, zzB, zzC]
          refine hT 11 30 rfl rfl (by kernel_rfl) (fun _ _ _ h => absurd h.1 (by simp)) (.inl ⟨by kernel_rfl, fun w' h => by go_simp; rfl⟩) HT4.out ?_
          simp only [Act.put, zzA, zzB, zzC]
          refine hT 12 31 rfl rfl (by kernel_rfl) (fun _ _ _ h => absurd h.1 (by simp)) (.inl ⟨by kernel_rfl, fun w' h => by go_simp; rfl⟩) HT4.out ?_
          simp only [Act.put, zzA, zzB, zzC]
          refine hT 13 32 rfl rfl (by kernel_rfl) (fun _ _ _ h => absurd h.1 (by simp)) (.inl ⟨by kernel_rfl, fun w' h => by go_simp; rfl⟩) HT4.out ?_
          simp only [Act.put, zzA, zzB, zzC]
          refine wpAnyH_all (rs := [14]) (by kernel_rfl) (by simp) ?_
          intro i hi
          have hi' : i = 14 := by simpa using hi
          clear hi
          subst hi'
          refine wpOp_new (some 7) rfl rfl (by kernel_rfl) (exec_allocSp rfl) ?_
          have hb5 : Below y4.heap.size y4 (y4.alloc (spB 0 0)) := (Below.refl _ _).alloc (Nat.le_refl _) _
          have HM14_5 := hide (blk_new y4 (spB 0 0))
          have hp5 : y4.heap.size < (y4.alloc (spB 0 0)).heap.size := by simp
          generalize y4.alloc (spB 0 0) = y5 at *
          have HT5 := hide (HT4.out.below hb5)
          have HZ5 := hide ((hb5.block _ (blk_lt HZ4.out)).trans HZ4.out)
          have hs5 := hb5.size
          have HM15_5 := hide ((hb5.block _ (blk_lt HM15_4.out)).trans HM15_4.out)
          clear hb5
          refine ⟨HT5.out, ?_⟩
          simp only [Act.put, zzA, zzB, zzC]
          have hs0' := HT0.out.s
          refine held_storeSp (i := 16) (.tmp 7) (.tmp 30) (y4.heap.size) #[.int .i64 (L1), .int .i64 (H1)] _ (by kernel_rfl) rfl (by kernel_rfl) rfl (by kernel_rfl) (by kernel_rfl) HM14_5.out rfl rfl (by simp [Value.oneCell']) (HT5.out.setG _ (by omega) _) rfl ?_
          intro v1 hv1
          refine held_storeSp (i := 17) (.tmp 8) (.tmp 31) (y0.heap.size) #[.int .i64 (L2), .int .i64 (H2)] _ (by kernel_rfl) rfl (by kernel_rfl) rfl (by kernel_rfl) (by kernel_rfl) (by rw [hv1.out, setRow_other _ _ _ _ (by omega)]; exact HM15_5.out) rfl rfl (by simp [Value.oneCell']) (by rw [hv1.out]; exact (HT5.out.setG _ (by omega) _).setG _ (by omega) _) rfl ?_
          intro v2 hv2
          have hT2 : Two w c x v2 := by rw [hv2.out, hv1.out]; exact (HT5.out.setG _ (by omega) _).setG _ (by omega) _
          have hZ2 : v2.heap[w.heap.size + 1 + 1]? = some (clB clNone) := by rw [hv2.out, setRow_other _ _ _ _ (by omega), hv1.out, setRow_other _ _ _ _ (by omega)]; exact HZ5.out
          have h1 : v2.heap[y4.heap.size]? = some (spB (L1) (H1)) := by rw [hv2.out, setRow_other _ _ _ _ (by omega), hv1.out]; exact setRow_heap _ _ _ _ _ _ HM14_5.out
          have h2 : v2.heap[y0.heap.size]? = some (spB (L2) (H2)) := by rw [hv2.out]; exact setRow_heap _ _ _ _ _ _ (by rw [hv1.out, setRow_other _ _ _ _ (by omega)]; exact HM15_5.out)
          clear hv1 hv2
          refine hT 18 9 rfl rfl (by kernel_rfl) (fun _ _ _ h => absurd h.1 (by simp)) (.inl ⟨by kernel_rfl, fun w' h => by go_simp; rfl⟩) hT2 ?_
          simp only [Act.put, zzA, zzB, zzC]
          refine wpAnyH_done (by kernel_rfl) ?_ _
          exact ⟨rfl, y4.heap.size, y0.heap.size, rfl, hT2, hZ2, h1, h2⟩
        · refine wpOp_new (some 7) rfl rfl (by kernel_rfl) (exec_allocSp rfl) ?_
          have hb4 : Below y3.heap.size y3 (y3.alloc (spB 0 0)) := (Below.refl _ _).alloc (Nat.le_refl _) _
          have HM14_4 := hide (blk_new y3 (spB 0 0))
          have hp4 : y3.heap.size < (y3.alloc (spB 0 0)).heap.size := by simp
          generalize y3.alloc (spB 0 0) = y4 at *
          have HT4 := hide (HT3.out.below hb4)
          have HZ4 := hide ((hb4.block _ (blk_lt HZ3.out)).trans HZ3.out)
          have hs4 := hb4.size
          have HM15_4 := hide ((hb4.block _ (blk_lt HM15_3.out)).trans HM15_3.out)
          clear hb4
          refine ⟨HT4.out, ?_⟩
          simp only [Act.put, zzA, zzB, zzC]
          refine wpAnyH_all (rs := [9]) (by kernel_rfl) (by simp) ?_
          intro i hi
          have hi' : i = 9 := by simpa using hi
          clear hi
          subst hi'
          refine wpOp_call (some 29) rfl rfl (by kernel_rfl) (by go_simp; exact ⟨rfl, rfl⟩) ?_
          refine (HF.out _).mono ?_
          rintro e y5 ⟨rfl, hb5⟩
          have HT5 := hide (HT4.out.below hb5)
          have HZ5 := hide ((hb5.block _ (blk_lt HZ4.out)).trans HZ4.out)
          have hs5 := hb5.size
          have HM15_5 := hide ((hb5.block _ (blk_lt HM15_4.out)).trans HM15_4.out)
          have HM14_5 := hide ((hb5.block _ (blk_lt HM14_4.out)).trans HM14_4.out)
          clear hb5
          refine ⟨_, rfl, HT5.out, ?_⟩
          simp only [Act.put, zzA, zzB, zzC]
          refine hT 10 19 rfl rfl (by kernel_rfl) (fun _ _ _ h => absurd h.1 (by simp)) (.inl ⟨by kernel_rfl, fun w' h => by go_simp; rfl⟩) HT5.out ?_
          simp only [Act.put, zzA, zzB, zzC]
          refine hT 11 30 rfl rfl (by kernel_rfl) (fun _ _ _ h => absurd h.1 (by simp)) (.inl ⟨by kernel_rfl, fun w' h => by go_simp; rfl⟩) HT5.out ?_
          simp only [Act.put, zzA, zzB, zzC]
          refine hT 12 31 rfl rfl (by kernel_rfl) (fun _ _ _ h => absurd h.1 (by simp)) (.inl ⟨by kernel_rfl, fun w' h => by go_simp; rfl⟩) HT5.out ?_
          simp only [Act.put, zzA, zzB, zzC]
          refine hT 13 32 rfl rfl (by kernel_rfl) (fun _ _ _ h => absurd h.1 (by simp)) (.inl ⟨by kernel_rfl, fun w' h => by go_simp; rfl⟩) HT5.out ?_
          simp only [Act.put, zzA, zzB, zzC]
          have hs0' := HT0.out.s
          refine held_storeSp (i := 16) (.tmp 7) (.tmp 30) (y3.heap.size) #[.int .i64 (L1), .int .i64 (H1)] _ (by kernel_rfl) rfl (by kernel_rfl) rfl (by kernel_rfl) (by kernel_rfl) HM14_5.out rfl rfl (by simp [Value.oneCell']) (HT5.out.setG _ (by omega) _) rfl ?_
          intro v1 hv1
          refine held_storeSp (i := 17) (.tmp 8) (.tmp 31) (y0.heap.size) #[.int .i64 (L2), .int .i64 (H2)] _ (by kernel_rfl) rfl (by kernel_rfl) rfl (by kernel_rfl) (by kernel_rfl) (by rw [hv1.out, setRow_other _ _ _ _ (by omega)]; exact HM15_5.out) rfl rfl (by simp [Value.oneCell']) (by rw [hv1.out]; exact (HT5.out.setG _ (by omega) _).setG _ (by omega) _) rfl ?_
          intro v2 hv2
          have hT2 : Two w c x v2 := by rw [hv2.out, hv1.out]; exact (HT5.out.setG _ (by omega) _).setG _ (by omega) _
          have hZ2 : v2.heap[w.heap.size + 1 + 1]? = some (clB clNone) := by rw [hv2.out, setRow_other _ _ _ _ (by omega), hv1.out, setRow_other _ _ _ _ (by omega)]; exact HZ5.out
          have h1 : v2.heap[y3.heap.size]? = some (spB (L1) (H1)) := by rw [hv2.out, setRow_other _ _ _ _ (by omega), hv1.out]; exact setRow_heap _ _ _ _ _ _ HM14_5.out
          have h2 : v2.heap[y0.heap.size]? = some (spB (L2) (H2)) := by rw [hv2.out]; exact setRow_heap _ _ _ _ _ _ (by rw [hv1.out, setRow_other _ _ _ _ (by omega)]; exact HM15_5.out)
          clear hv1 hv2
          refine hT 18 9 rfl rfl (by kernel_rfl) (fun _ _ _ h => absurd h.1 (by simp)) (.inl ⟨by kernel_rfl, fun w' h => by go_simp; rfl⟩) hT2 ?_
          simp only [Act.put, zzA, zzB, zzC]
          refine wpAnyH_done (by kernel_rfl) ?_ _
          exact ⟨rfl, y3.heap.size, y0.heap.size, rfl, hT2, hZ2, h1, h2⟩
      · refine wpOp_new (some 7) rfl rfl (by kernel_rfl) (exec_allocSp rfl) ?_
        have hb3 : Below y2.heap.size y2 (y2.alloc (spB 0 0)) := (Below.refl _ _).alloc (Nat.le_refl _) _
        have HM14_3 := hide (blk_new y2 (spB 0 0))
        have hp3 : y2.heap.size < (y2.alloc (spB 0 0)).heap.size := by simp
        generalize y2.alloc (spB 0 0) = y3 at *
        have HT3 := hide (HT2.out.below hb3)
        have HZ3 := hide ((hb3.block _ (blk_lt HZ2.out)).trans HZ2.out)
        have hs3 := hb3.size
        have HM15_3 := hide ((hb3.block _ (blk_lt HM15_2.out)).trans HM15_2.out)
        clear hb3
        refine ⟨HT3.out, ?_⟩
        simp only [Act.put, zzA, zzB, zzC]
        refine wpAnyH_all (rs := [8]) (by kernel_rfl) (by simp) ?_
        intro i hi
        have hi' : i = 8 := by simpa using hi
        clear hi
        subst hi'
        refine wpOp_call (some 28) rfl rfl (by kernel_rfl) (by go_simp; exact ⟨rfl, rfl⟩) ?_
        refine (Span_any c s hs _).mono ?_
        rintro e y4 ⟨rfl, hw⟩
        have hb4 : Below y3.heap.size y3 y4 := by rw [hw]; exact ((Below.refl _ _).alloc (Nat.le_refl _) _).alloc (by simp) _
        clear hw
        have HT4 := hide (HT3.out.below hb4)
        have HZ4 := hide ((hb4.block _ (blk_lt HZ3.out)).trans HZ3.out)
        have hs4 := hb4.size
        have HM15_4 := hide ((hb4.block _ (blk_lt HM15_3.out)).trans HM15_3.out)
        have HM14_4 := hide ((hb4.block _ (blk_lt HM14_3.out)).trans HM14_3.out)
        clear hb4
        refine ⟨_, rfl, HT4.out, ?_⟩
        simp only [Act.put, zzA, zzB, zzC]
        refine wpAnyH_all (rs := [9]) (by kernel_rfl) (by simp) ?_
        intro i hi
        have hi' : i = 9 := by simpa using hi
        clear hi
        subst hi'
        refine wpOp_call (some 29) rfl rfl (by kernel_rfl) (by go_simp; exact ⟨rfl, rfl⟩) ?_
        refine (HF.out _).mono ?_
        rintro e y5 ⟨rfl, hb5⟩
        have HT5 := hide (HT4.out.below hb5)
        have HZ5 := hide ((hb5.block _ (blk_lt HZ4.out)).trans HZ4.out)
        have hs5 := hb5.size
        have HM15_5 := hide ((hb5.block _ (blk_lt HM15_4.out)).trans HM15_4.out)
        have HM14_5 := hide ((hb5.block _ (blk_lt HM14_4.out)).trans HM14_4.out)
        clear hb5
        refine ⟨_, rfl, HT5.out, ?_⟩
        simp only [Act.put, zzA, zzB, zzC]
        refine hT 10 19 rfl rfl (by kernel_rfl) (fun _ _ _ h => absurd h.1 (by simp)) (.inl ⟨by kernel_rfl, fun w' h => by go_simp; rfl⟩) HT5.out ?_
        simp only [Act.put, zzA, zzB, zzC]
        refine hT 11 30 rfl rfl (by kernel_rfl) (fun _ _ _ h => absurd h.1 (by simp)) (.inl ⟨by kernel_rfl, fun w' h => by go_simp; rfl⟩) HT5.out ?_
        simp only [Act.put, zzA, zzB, zzC]
        refine hT 12 31 rfl rfl (by kernel_rfl) (fun _ _ _ h => absurd h.1 (by simp)) (.inl ⟨by kernel_rfl, fun w' h => by go_simp; rfl⟩) HT5.out ?_
        simp only [Act.put, zzA, zzB, zzC]
        refine hT 13 32 rfl rfl (by kernel_rfl) (fun _ _ _ h => absurd h.1 (by simp)) (.inl ⟨by kernel_rfl, fun w' h => by go_simp; rfl⟩) HT5.out ?_
        simp only [Act.put, zzA, zzB, zzC]
        have hs0' := HT0.out.s
        refine held_storeSp (i := 16) (.tmp 7) (.tmp 30) (y2.heap.size) #[.int .i64 (L1), .int .i64 (H1)] _ (by kernel_rfl) rfl (by kernel_rfl) rfl (by kernel_rfl) (by kernel_rfl) HM14_5.out rfl rfl (by simp [Value.oneCell']) (HT5.out.setG _ (by omega) _) rfl ?_
        intro v1 hv1
        refine held_storeSp (i := 17) (.tmp 8) (.tmp 31) (y0.heap.size) #[.int .i64 (L2), .int .i64 (H2)] _ (by kernel_rfl) rfl (by kernel_rfl) rfl (by kernel_rfl) (by kernel_rfl) (by rw [hv1.out, setRow_other _ _ _ _ (by omega)]; exact HM15_5.out) rfl rfl (by simp [Value.oneCell']) (by rw [hv1.out]; exact (HT5.out.setG _ (by omega) _).setG _ (by omega) _) rfl ?_
        intro v2 hv2
        have hT2 : Two w c x v2 := by rw [hv2.out, hv1.out]; exact (HT5.out.setG _ (by omega) _).setG _ (by omega) _
        have hZ2 : v2.heap[w.heap.size + 1 + 1]? = some (clB clNone) := by rw [hv2.out, setRow_other _ _ _ _ (by omega), hv1.out, setRow_other _ _ _ _ (by omega)]; exact HZ5.out
        have h1 : v2.heap[y2.heap.size]? = some (spB (L1) (H1)) := by rw [hv2.out, setRow_other _ _ _ _ (by omega), hv1.out]; exact setRow_heap _ _ _ _ _ _ HM14_5.out
        have h2 : v2.heap[y0.heap.size]? = some (spB (L2) (H2)) := by rw [hv2.out]; exact setRow_heap _ _ _ _ _ _ (by rw [hv1.out, setRow_other _ _ _ _ (by omega)]; exact HM15_5.out)
        clear hv1 hv2
        refine hT 18 9 rfl rfl (by kernel_rfl) (fun _ _ _ h => absurd h.1 (by simp)) (.inl ⟨by kernel_rfl, fun w' h => by go_simp; rfl⟩) hT2 ?_
        simp only [Act.put, zzA, zzB, zzC]
        refine wpAnyH_done (by kernel_rfl) ?_ _
        exact ⟨rfl, y2.heap.size, y0.heap.size, rfl, hT2, hZ2, h1, h2⟩
    · refine wpOp_new (some 7) rfl rfl (by kernel_rfl) (exec_allocSp rfl) ?_
      have hb2 : Below y1.heap.size y1 (y1.alloc (spB 0 0)) := (Below.refl _ _).alloc (Nat.le_refl _) _
      have HM14_2 := hide (blk_new y1 (spB 0 0))
      have hp2 : y1.heap.size < (y1.alloc (spB 0 0)).heap.size := by simp
      generalize y1.alloc (spB 0 0) = y2 at *
      have HT2 := hide (HT1.out.below hb2)
      have HZ2 := hide ((hb2.block _ (blk_lt HZ1.out)).trans HZ1.out)
      have hs2 := hb2.size
      have HM15_2 := hide ((hb2.block _ (blk_lt HM15_1.out)).trans HM15_1.out)
      clear hb2
      refine ⟨HT2.out, ?_⟩
      simp only [Act.put, zzA, zzB, zzC]
      refine wpAnyH_all (rs := [4]) (by kernel_rfl) (by simp) ?_
      intro i hi
      have hi' : i = 4 := by simpa using hi
      clear hi
      subst hi'
      refine wpOp_call (some 24) rfl rfl (by kernel_rfl) (by go_simp; exact ⟨rfl, rfl⟩) ?_
      refine (Span_any c r hr _).mono ?_
      rintro e y3 ⟨rfl, hw⟩
      have hb3 : Below y2.heap.size y2 y3 := by rw [hw]; exact ((Below.refl _ _).alloc (Nat.le_refl _) _).alloc (by simp) _
      clear hw
      have HT3 := hide (HT2.out.below hb3)
      have HZ3 := hide ((hb3.block _ (blk_lt HZ2.out)).trans HZ2.out)
      have hs3 := hb3.size
      have HM15_3 := hide ((hb3.block _ (blk_lt HM15_2.out)).trans HM15_2.out)
      have HM14_3 := hide ((hb3.block _ (blk_lt HM14_2.out)).trans HM14_2.out)
      clear hb3
      refine ⟨_, rfl, HT3.out, ?_⟩
      simp only [Act.put, zzA, zzB, zzC]
      refine wpAnyH_all (rs := [8]) (by kernel_rfl) (by simp) ?_
      intro i hi
      have hi' : i = 8 := by simpa using hi
      clear hi
      subst hi'
      refine wpOp_call (some 28) rfl rfl (by kernel_rfl) (by go_simp; exact ⟨rfl, rfl⟩) ?_
      refine (Span_any c s hs _).mono ?_
      rintro e y4 ⟨rfl, hw⟩
      have hb4 : Below y3.heap.size y3 y4 := by rw [hw]; exact ((Below.refl _ _).alloc (Nat.le_refl _) _).alloc (by simp) _
      clear hw
      have HT4 := hide (HT3.out.below hb4)
      have HZ4 := hide ((hb4.block _ (blk_lt HZ3.out)).trans HZ3.out)
      have hs4 := hb4.size
      have HM15_4 := hide ((hb4.block _ (blk_lt HM15_3.out)).trans HM15_3.out)
      have HM14_4 := hide ((hb4.block _ (blk_lt HM14_3.out)).trans HM14_3.out)
      clear hb4
      refine ⟨_, rfl, HT4.out, ?_⟩
      simp only [Act.put, zzA, zzB, zzC]
      refine wpAnyH_all (rs := [9]) (by kernel_rfl) (by simp) ?_
      intro i hi
      have hi' : i = 9 := by simpa using hi
      clear hi
      subst hi'
      refine wpOp_call (some 29) rfl rfl (by kernel_rfl) (by go_simp; exact ⟨rfl, rfl⟩) ?_
      refine (HF.out _).mono ?_
      rintro e y5 ⟨rfl, hb5⟩
      have HT5 := hide (HT4.out.below hb5)
      have HZ5 := hide ((hb5.block _ (blk_lt HZ4.out)).trans HZ4.out)
      have hs5 := hb5.size
      have HM15_5 := hide ((hb5.block _ (blk_lt HM15_4.out)).trans HM15_4.out)
      have HM14_5 := hide ((hb5.block _ (blk_lt HM14_4.out)).trans HM14_4.out)
      clear hb5
      refine ⟨_, rfl, HT5.out, ?_⟩
      simp only [Act.put, zzA, zzB, zzC]
      refine hT 10 19 rfl rfl (by kernel_rfl) (fun _ _ _ h => absurd h.1 (by simp)) (.inl ⟨by kernel_rfl, fun w' h => by go_simp; rfl⟩) HT5.out ?_
      simp only [Act.put, zzA, zzB, zzC]
      refine hT 11 30 rfl rfl (by kernel_rfl) (fun _ _ _ h => absurd h.1 (by simp)) (.inl ⟨by kernel_rfl, fun w' h => by go_simp; rfl⟩) HT5.out ?_
      simp only [Act.put, zzA, zzB, zzC]
      refine hT 12 31 rfl rfl (by kernel_rfl) (fun _ _ _ h => absurd h.1 (by simp)) (.inl ⟨by kernel_rfl, fun w' h => by go_simp; rfl⟩) HT5.out ?_
      simp only [Act.put, zzA, zzB, zzC]
      refine hT 13 32 rfl rfl (by kernel_rfl) (fun _ _ _ h => absurd h.1 (by simp)) (.inl ⟨by kernel_rfl, fun w' h => by go_simp; rfl⟩) HT5.out ?_
      simp only [Act.put, zzA, zzB, zzC]
      have hs0' := HT0.out.s
      refine held_storeSp (i := 16) (.tmp 7) (.tmp 30) (y1.heap.size) #[.int .i64 (L1), .int .i64 (H1)] _ (by kernel_rfl) rfl (by kernel_rfl) rfl (by kernel_rfl) (by kernel_rfl) HM14_5.out rfl rfl (by simp [Value.oneCell']) (HT5.out.setG _ (by omega) _) rfl ?_
      intro v1 hv1
      refine held_storeSp (i := 17) (.tmp 8) (.tmp 31) (y0.heap.size) #[.int .i64 (L2), .int .i64 (H2)] _ (by kernel_rfl) rfl (by kernel_rfl) rfl (by kernel_rfl) (by kernel_rfl) (by rw [hv1.out, setRow_other _ _ _ _ (by omega)]; exact HM15_5.out) rfl rfl (by simp [Value.oneCell']) (by rw [hv1.out]; exact (HT5.out.setG _ (by omega) _).setG _ (by omega) _) rfl ?_
      intro v2 hv2
      have hT2 : Two w c x v2 := by rw [hv2.out, hv1.out]; exact (HT5.out.setG _ (by omega) _).setG _ (by omega) _
      have hZ2 : v2.heap[w.heap.size + 1 + 1]? = some (clB clNone) := by rw [hv2.out, setRow_other _ _ _ _ (by omega), hv1.out, setRow_other _ _ _ _ (by omega)]; exact HZ5.out
      have h1 : v2.heap[y1.heap.size]? = some (spB (L1) (H1)) := by rw [hv2.out, setRow_other _ _ _ _ (by omega), hv1.out]; exact setRow_heap _ _ _ _ _ _ HM14_5.out
      have h2 : v2.heap[y0.heap.size]? = some (spB (L2) (H2)) := by rw [hv2.out]; exact setRow_heap _ _ _ _ _ _ (by rw [hv1.out, setRow_other _ _ _ _ (by omega)]; exact HM15_5.out)
      clear hv1 hv2
      refine hT 18 9 rfl rfl (by kernel_rfl) (fun _ _ _ h => absurd h.1 (by simp)) (.inl ⟨by kernel_rfl, fun w' h => by go_simp; rfl⟩) hT2 ?_
      simp only [Act.put, zzA, zzB, zzC]
      refine wpAnyH_done (by kernel_rfl) ?_ _
      exact ⟨rfl, y1.heap.size, y0.heap.size, rfl, hT2, hZ2, h1, h2⟩
end Go.Proofs.YtngopilbpiplhaaGreatDoor
