/-
  The document's own search: a join, where the claim was changed in this round.
-/
import Derived.Test.YtngopilbpiplhaaGreatDoorZRfX
import Derived.Deep.Cut
import Derived.StillTailTactics
namespace Go.Proofs.YtngopilbpiplhaaGreatDoor
open Go.RowKit
set_option linter.unusedVariables false
set_option linter.unusedSimpArgs false
set_option maxRecDepth 100000 in
set_option maxHeartbeats 8000000 in
theorem rjoin_eq (sb pb hb lb pc hc lc : Nat) (p : List Cl) (ch la : List Int) (R : Int) (k t : Nat) (was d : Cl) (hv lv : Int) (w : World) (hS : RS w sb pb hb lb pc hc lc p ch la R) (hwas : p[t]? = some was) (hch : ch[t]? = some hv) (hla : la[t]? = some lv) (hd : d.never = false)
    (n1 : sb ≠ pb) (n2 : sb ≠ hb) (n3 : sb ≠ lb) (n4 : pb ≠ hb) (n5 : pb ≠ lb) (n6 : hb ≠ lb) (hk : k < 1000) (hv0 : 0 ≤ hv) (hv1 : hv ≤ 1000000) (hlr : lv = R) (hpl : p.length ≤ 100) :
    Calls Tryz.prog 115 #[.pointer (some ⟨sb, 0, none⟩), .int .i64 (k : Int), .int .i64 (t : Int), .agg (rcCells d)] w fun e w' =>
      e = .returned (.bool (!clEq (jnF (decide (6 < hv - 1) && decide (t ≤ k)) was d) was)) ∧ (clEq (jnF (decide (6 < hv - 1) && decide (t ≤ k)) was d) was = true → RS w' sb pb hb lb pc hc lc p ch la R) ∧ (clEq (jnF (decide (6 < hv - 1) && decide (t ≤ k)) was d) was = false → RS w' sb pb hb lb pc hc lc (p.set t (jnF (decide (6 < hv - 1) && decide (t ≤ k)) was d)) ch la R) ∧ Keep3 w.heap.size pb hb lb w w' := by
  have ht : t < p.length := (List.getElem?_eq_some_iff.1 hwas).1
  have htI : (t : Int) < (p.length : Int) := by omega
  have hlts : sb < w.heap.size := hS.lts
  have hltp : pb < w.heap.size := hS.ltp
  have hlth : hb < w.heap.size := hS.chg.lt
  have hltl : lb < w.heap.size := hS.las.lt
  have HLT := hide (⟨hlts, hltp, hlth, hltl⟩ : sb < w.heap.size ∧ pb < w.heap.size ∧ hb < w.heap.size ∧ lb < w.heap.size)
  have HWAS := hide hwas
  have HCH := hide hch
  have HLA := hide hla
  have hJ0 := jx_mk hS d
  have hb1 : ((lv : Int) == R) = true := by simpa using hlr
  have hb2 : ((lv : Int) != R) = false := by simpa using hlr
  have HLR := hide hlr
  clear hwas hch hla hS hlr
  go_enter Tryz.func115, Tryz.ntmps115
  go_upto_region 1 with fail
  change Code.wp _ _ _ _ (w.alloc (rcB d))
  generalize w.alloc (rcB d) = W1 at *
  have HJ0 := hide hJ0
  clear hJ0
  have c1 := HJ0.out.rs.c1
  have cv : W1.cell? ⟨hb, t, none⟩ = some (.int .i64 hv) := HJ0.out.rs.chg.cell HCH.out
  go_wp2_with fail
  clear c1 cv
  refine wp_region_still_lit mixed (by kernel_rfl) ?_
  have hbn : Below W1.heap.size W1 { W1 with drawn := W1.drawn + 1 } := (Below.refl _ _).drew
  generalize ({ W1 with drawn := W1.drawn + 1 } : World) = W2 at *
  have HJ2 := hide (HJ0.out.below hbn)
  clear HJ0
  clear hbn
  have c2 := HJ2.out.rs.c2
  have cl : W2.cell? ⟨lb, t, none⟩ = some (.int .i64 lv) := HJ2.out.rs.las.cell HLA.out
  have c3 := HJ2.out.rs.c3
  repeat still_step
  refine wpStill_nil ?_
  clear c2 cl c3
  go_upto_region 4 with fail
  go_cut [10] from 11 (fun nv w' => ∃ nb : Nat, nv = .pointer (some ⟨nb, 0, none⟩) ∧ JX w sb pb hb lb pc hc lc p ch la R d w' ∧ w.heap.size + 1 ≤ nb ∧ w'.heap[nb]? = some (rcB (jnF (decide (6 < hv - 1) && decide (t ≤ k)) was d)))
  case first =>
    by_cases q1 : 6 < hv - 1
    · by_cases q2 : t ≤ k
      · have q3 : (t : Int) ≤ (k : Int) := by omega
        have HNW : Hid (jnF (decide (6 < hv - 1) && decide (t ≤ k)) was d = jnF true was d) := hide (by simp [q1, q2])
        refine wp_region_held (S := JX w sb pb hb lb pc hc lc p ch la R d) mixed ?_
        have hb0 : Below W2.heap.size W2 { W2 with drawn := W2.drawn + 1 } := (Below.refl _ _).drew
        generalize ({ W2 with drawn := W2.drawn + 1 } : World) = w0 at *
        have HE := hide (HJ2.out.below hb0)
        clear hb0 HJ2
        refine hT 0 32 rfl rfl (by kernel_rfl) (fun _ _ _ h => h) (.inl ⟨by kernel_rfl, fun w' h => by go_simp; rfl⟩) HE.out ?_
        simp only [Act.put, zzA, zzB, zzC]
        refine hT 1 33 rfl rfl (by kernel_rfl) (fun _ _ _ h => h) (.inl ⟨by kernel_rfl, fun w' h => by go_simp; rfl⟩) HE.out ?_
        simp only [Act.put, zzA, zzB, zzC]
        refine hT 2 34 rfl rfl (by kernel_rfl) (fun _ _ _ h => h) (.inl ⟨by kernel_rfl, fun w' h => by go_simp; rfl⟩) HE.out ?_
        simp only [Act.put, zzA, zzB, zzC]
        refine hT 3 35 rfl rfl (by kernel_rfl) (fun _ _ _ h => h) (.inl ⟨by kernel_rfl, fun w' h => by have hc := h.rs.c0; go_simp; rfl⟩) HE.out ?_
        simp only [Act.put, zzA, zzB, zzC]
        refine hT 4 36 rfl rfl (by kernel_rfl) (fun _ _ _ h => h) (.inl ⟨by kernel_rfl, fun w' h => by go_simp; rfl⟩) HE.out ?_
        simp only [Act.put, zzA, zzB, zzC]
        refine hT 5 37 rfl rfl (by kernel_rfl) (fun _ _ _ h => h) (.inl ⟨by kernel_rfl, fun w' h => by go_simp; rfl⟩) HE.out ?_
        simp only [Act.put, zzA, zzB, zzC]
        refine hT 6 38 rfl rfl (by kernel_rfl) (fun _ _ _ h => h) (yieldsIf_load_mid (by kernel_rfl) 181 (.tmp 37) rfl (pb) (t * 25) (by kernel_rfl) (rcCells was).toList _ (fun w' h => h.rs.claims.2 t was HWAS.out) Tryz.underlying181 rfl (by kernel_rfl)) HE.out ?_
        simp only [Act.put, zzA, zzB, zzC]
        simp only [Array.toArray_toList]
        refine hT 7 39 rfl rfl (by kernel_rfl) (fun _ _ _ h => h) (yields_row (by kernel_rfl) 181 (.tmp 7) rfl (w.heap.size) (by kernel_rfl) (rcCells d) _ _ (fun w' h => h.A) Tryz.underlying181 rfl (by kernel_rfl)) HE.out ?_
        simp only [Act.put, zzA, zzB, zzC]
        refine hT 8 40 rfl rfl (by kernel_rfl) (fun _ _ _ h => h) (.inl ⟨by kernel_rfl, fun w' h => by go_simp; rfl⟩) HE.out ?_
        simp only [Act.put, zzA, zzB, zzC]
        refine hT 9 41 rfl rfl (by kernel_rfl) (fun _ _ _ h => h) (.inl ⟨by kernel_rfl, fun w' h => by go_simp; rfl⟩) HE.out ?_
        simp only [Act.put, zzA, zzB, zzC]
        refine hT 10 42 rfl rfl (by kernel_rfl) (fun _ _ _ h => h) (.inl ⟨by kernel_rfl, fun w' h => by go_simp; rfl⟩) HE.out ?_
        simp only [Act.put, zzA, zzB, zzC]
        refine hT 11 43 rfl rfl (by kernel_rfl) (fun _ _ _ h => h) (.inl ⟨by kernel_rfl, fun w' h => by go_simp; rfl⟩) HE.out ?_
        simp only [Act.put, zzA, zzB, zzC]
        refine hT 12 44 rfl rfl (by kernel_rfl) (fun _ _ _ h => h) (.inl ⟨by kernel_rfl, fun w' h => by go_simp; rfl⟩) HE.out ?_
        simp only [Act.put, zzA, zzB, zzC]
        refine hT 13 45 rfl rfl (by kernel_rfl) (fun _ _ _ h => h) (.inl ⟨by kernel_rfl, fun w' h => by go_simp; rfl⟩) HE.out ?_
        simp only [Act.put, zzA, zzB, zzC]
        refine hT 14 46 rfl rfl (by kernel_rfl) (fun _ _ _ h => h) (.inl ⟨by kernel_rfl, fun w' h => by go_simp; rfl⟩) HE.out ?_
        simp only [Act.put, zzA, zzB, zzC]
        refine wpAnyH_all (rs := [15, 16]) (by kernel_rfl) (by simp) ?_
        intro jj hjj
        have hj2 : jj = 15 ∨ jj = 16 := by simpa using hjj
        clear hjj
        rcases hj2 with rfl | rfl
        · refine wpOp_call (some 47) rfl rfl (by kernel_rfl) (by go_simp; exact ⟨rfl, rfl⟩) ?_
          refine (rjoined_any was d hd true _).mono ?_
          rintro e w9 ⟨rfl, hb9⟩
          have HEn := hide (HE.out.below hb9)
          clear hb9 HE
          have HE := HEn
          clear HEn
          refine ⟨_, rfl, HE.out, ?_⟩
          simp only [Act.put, zzA, zzB, zzC]
          refine wpAnyH_all (rs := [16]) (by kernel_rfl) (by simp) ?_
          intro jj hjj
          obtain rfl : jj = 16 := by simpa using hjj
          clear hjj
          refine wpOp_new (some 10) rfl rfl (by kernel_rfl) (exec_allocRc rfl) ?_
          have HA := hide (blk_new w9 (rcB clNone))
          have hbn : Below w9.heap.size w9 (w9.alloc (rcB clNone)) := (Below.refl _ _).alloc (Nat.le_refl _) _
          have hnb : w.heap.size + 1 ≤ w9.heap.size := HE.out.s
          have HEn := hide (HE.out.below hbn)
          clear hbn HE
          generalize w9.alloc (rcB clNone) = wal at *
          have HE := HEn
          clear HEn
          refine ⟨HE.out, ?_⟩
          simp only [Act.put, zzA, zzB, zzC]
          refine held_storeRow (i := 17) 181 (.tmp 10) (.tmp 47) (w9.heap.size) (rcCells (jnF true was d)) _ (by kernel_rfl) rfl (by kernel_rfl) rfl (by kernel_rfl) (by kernel_rfl) HA.out (by kernel_rfl) rfl (rc_one _) (HE.out.setRow HLT.out _ hnb _) rfl ?_
          intro ws hws
          have HEs : Hid (JX w sb pb hb lb pc hc lc p ch la R d ws) := hide (by rw [hws.out]; exact HE.out.setRow HLT.out _ hnb _)
          have HNs : Hid (ws.heap[w9.heap.size]? = some (rcB (jnF true was d))) := hide (by rw [hws.out]; exact setRow_heap _ _ _ _ _ _ HA.out)
          clear hws
          refine wpAnyH_done (by kernel_rfl) ?_ _
          go_wp2_with fail
          go_meet
          case rel => exact ⟨_, rfl, HEs.out, hnb, by rw [HNW.out]; exact HNs.out⟩
        · refine wpOp_new (some 10) rfl rfl (by kernel_rfl) (exec_allocRc rfl) ?_
          have HA := hide (blk_new w0 (rcB clNone))
          have hbn : Below w0.heap.size w0 (w0.alloc (rcB clNone)) := (Below.refl _ _).alloc (Nat.le_refl _) _
          have hnb : w.heap.size + 1 ≤ w0.heap.size := HE.out.s
          have HEn := hide (HE.out.below hbn)
          clear hbn HE
          generalize w0.alloc (rcB clNone) = wal at *
          have HE := HEn
          clear HEn
          refine ⟨HE.out, ?_⟩
          simp only [Act.put, zzA, zzB, zzC]
          refine held_call (i := 15) (some 47) (by kernel_rfl) rfl rfl (by kernel_rfl) (by go_simp; exact ⟨rfl, rfl⟩) ?_
          refine (rjoined_any was d hd true _).mono ?_
          rintro e w9 ⟨rfl, hb9⟩
          have HAn := hide ((hb9.block _ (blk_lt HA.out)).trans HA.out)
          have HEn := hide (HE.out.below hb9)
          clear hb9 HE HA
          have HE := HEn
          have HA := HAn
          clear HEn HAn
          refine ⟨_, rfl, HE.out, ?_⟩
          simp only [Act.put, zzA, zzB, zzC]
          refine held_storeRow (i := 17) 181 (.tmp 10) (.tmp 47) (w0.heap.size) (rcCells (jnF true was d)) _ (by kernel_rfl) rfl (by kernel_rfl) rfl (by kernel_rfl) (by kernel_rfl) HA.out (by kernel_rfl) rfl (rc_one _) (HE.out.setRow HLT.out _ hnb _) rfl ?_
          intro ws hws
          have HEs : Hid (JX w sb pb hb lb pc hc lc p ch la R d ws) := hide (by rw [hws.out]; exact HE.out.setRow HLT.out _ hnb _)
          have HNs : Hid (ws.heap[w0.heap.size]? = some (rcB (jnF true was d))) := hide (by rw [hws.out]; exact setRow_heap _ _ _ _ _ _ HA.out)
          clear hws
          refine wpAnyH_done (by kernel_rfl) ?_ _
          go_wp2_with fail
          go_meet
          case rel => exact ⟨_, rfl, HEs.out, hnb, by rw [HNW.out]; exact HNs.out⟩
      · have q3 : ¬ (t : Int) ≤ (k : Int) := by omega
        have HNW : Hid (jnF (decide (6 < hv - 1) && decide (t ≤ k)) was d = jnF false was d) := hide (by simp [q1, q2])
        refine wp_region_held (S := JX w sb pb hb lb pc hc lc p ch la R d) mixed ?_
        have hb0 : Below W2.heap.size W2 { W2 with drawn := W2.drawn + 1 } := (Below.refl _ _).drew
        generalize ({ W2 with drawn := W2.drawn + 1 } : World) = w0 at *
        have HE := hide (HJ2.out.below hb0)
        clear hb0 HJ2
        refine hT 0 32 rfl rfl (by kernel_rfl) (fun _ _ _ h => h) (.inl ⟨by kernel_rfl, fun w' h => by go_simp; rfl⟩) HE.out ?_
        simp only [Act.put, zzA, zzB, zzC]
        refine hT 1 33 rfl rfl (by kernel_rfl) (fun _ _ _ h => h) (.inl ⟨by kernel_rfl, fun w' h => by go_simp; rfl⟩) HE.out ?_
        simp only [Act.put, zzA, zzB, zzC]
        refine hT 2 34 rfl rfl (by kernel_rfl) (fun _ _ _ h => h) (.inl ⟨by kernel_rfl, fun w' h => by go_simp; rfl⟩) HE.out ?_
        simp only [Act.put, zzA, zzB, zzC]
        refine hT 3 35 rfl rfl (by kernel_rfl) (fun _ _ _ h => h) (.inl ⟨by kernel_rfl, fun w' h => by have hc := h.rs.c0; go_simp; rfl⟩) HE.out ?_
        simp only [Act.put, zzA, zzB, zzC]
        refine hT 4 36 rfl rfl (by kernel_rfl) (fun _ _ _ h => h) (.inl ⟨by kernel_rfl, fun w' h => by go_simp; rfl⟩) HE.out ?_
        simp only [Act.put, zzA, zzB, zzC]
        refine hT 5 37 rfl rfl (by kernel_rfl) (fun _ _ _ h => h) (.inl ⟨by kernel_rfl, fun w' h => by go_simp; rfl⟩) HE.out ?_
        simp only [Act.put, zzA, zzB, zzC]
        refine hT 6 38 rfl rfl (by kernel_rfl) (fun _ _ _ h => h) (yieldsIf_load_mid (by kernel_rfl) 181 (.tmp 37) rfl (pb) (t * 25) (by kernel_rfl) (rcCells was).toList _ (fun w' h => h.rs.claims.2 t was HWAS.out) Tryz.underlying181 rfl (by kernel_rfl)) HE.out ?_
        simp only [Act.put, zzA, zzB, zzC]
        simp only [Array.toArray_toList]
        refine hT 7 39 rfl rfl (by kernel_rfl) (fun _ _ _ h => h) (yields_row (by kernel_rfl) 181 (.tmp 7) rfl (w.heap.size) (by kernel_rfl) (rcCells d) _ _ (fun w' h => h.A) Tryz.underlying181 rfl (by kernel_rfl)) HE.out ?_
        simp only [Act.put, zzA, zzB, zzC]
        refine hT 8 40 rfl rfl (by kernel_rfl) (fun _ _ _ h => h) (.inl ⟨by kernel_rfl, fun w' h => by go_simp; rfl⟩) HE.out ?_
        simp only [Act.put, zzA, zzB, zzC]
        refine hT 9 41 rfl rfl (by kernel_rfl) (fun _ _ _ h => h) (.inl ⟨by kernel_rfl, fun w' h => by go_simp; rfl⟩) HE.out ?_
        simp only [Act.put, zzA, zzB, zzC]
        refine hT 10 42 rfl rfl (by kernel_rfl) (fun _ _ _ h => h) (.inl ⟨by kernel_rfl, fun w' h => by go_simp; rfl⟩) HE.out ?_
        simp only [Act.put, zzA, zzB, zzC]
        refine hT 11 43 rfl rfl (by kernel_rfl) (fun _ _ _ h => h) (.inl ⟨by kernel_rfl, fun w' h => by go_simp; rfl⟩) HE.out ?_
        simp only [Act.put, zzA, zzB, zzC]
        refine hT 12 44 rfl rfl (by kernel_rfl) (fun _ _ _ h => h) (.inl ⟨by kernel_rfl, fun w' h => by go_simp; rfl⟩) HE.out ?_
        simp only [Act.put, zzA, zzB, zzC]
        refine hT 13 45 rfl rfl (by kernel_rfl) (fun _ _ _ h => h) (.inl ⟨by kernel_rfl, fun w' h => by go_simp; rfl⟩) HE.out ?_
        simp only [Act.put, zzA, zzB, zzC]
        refine hT 14 46 rfl rfl (by kernel_rfl) (fun _ _ _ h => h) (.inl ⟨by kernel_rfl, fun w' h => by go_simp; rfl⟩) HE.out ?_
        simp only [Act.put, zzA, zzB, zzC]
        refine wpAnyH_all (rs := [15, 16]) (by kernel_rfl) (by simp) ?_
        intro jj hjj
        have hj2 : jj = 15 ∨ jj = 16 := by simpa using hjj
        clear hjj
        rcases hj2 with rfl | rfl
        · refine wpOp_call (some 47) rfl rfl (by kernel_rfl) (by go_simp; exact ⟨rfl, rfl⟩) ?_
          refine (rjoined_any was d hd false _).mono ?_
          rintro e w9 ⟨rfl, hb9⟩
          have HEn := hide (HE.out.below hb9)
          clear hb9 HE
          have HE := HEn
          clear HEn
          refine ⟨_, rfl, HE.out, ?_⟩
          simp only [Act.put, zzA, zzB, zzC]
          refine wpAnyH_all (rs := [16]) (by kernel_rfl) (by simp) ?_
          intro jj hjj
          obtain rfl : jj = 16 := by simpa using hjj
          clear hjj
          refine wpOp_new (some 10) rfl rfl (by kernel_rfl) (exec_allocRc rfl) ?_
          have HA := hide (blk_new w9 (rcB clNone))
          have hbn : Below w9.heap.size w9 (w9.alloc (rcB clNone)) := (Below.refl _ _).alloc (Nat.le_refl _) _
          have hnb : w.heap.size + 1 ≤ w9.heap.size := HE.out.s
          have HEn := hide (HE.out.below hbn)
          clear hbn HE
          generalize w9.alloc (rcB clNone) = wal at *
          have HE := HEn
          clear HEn
          refine ⟨HE.out, ?_⟩
          simp only [Act.put, zzA, zzB, zzC]
          refine held_storeRow (i := 17) 181 (.tmp 10) (.tmp 47) (w9.heap.size) (rcCells (jnF false was d)) _ (by kernel_rfl) rfl (by kernel_rfl) rfl (by kernel_rfl) (by kernel_rfl) HA.out (by kernel_rfl) rfl (rc_one _) (HE.out.setRow HLT.out _ hnb _) rfl ?_
          intro ws hws
          have HEs : Hid (JX w sb pb hb lb pc hc lc p ch la R d ws) := hide (by rw [hws.out]; exact HE.out.setRow HLT.out _ hnb _)
          have HNs : Hid (ws.heap[w9.heap.size]? = some (rcB (jnF false was d))) := hide (by rw [hws.out]; exact setRow_heap _ _ _ _ _ _ HA.out)
          clear hws
          refine wpAnyH_done (by kernel_rfl) ?_ _
          go_wp2_with fail
          go_meet
          case rel => exact ⟨_, rfl, HEs.out, hnb, by rw [HNW.out]; exact HNs.out⟩
        · refine wpOp_new (some 10) rfl rfl (by kernel_rfl) (exec_allocRc rfl) ?_
          have HA := hide (blk_new w0 (rcB clNone))
          have hbn : Below w0.heap.size w0 (w0.alloc (rcB clNone)) := (Below.refl _ _).alloc (Nat.le_refl _) _
          have hnb : w.heap.size + 1 ≤ w0.heap.size := HE.out.s
          have HEn := hide (HE.out.below hbn)
          clear hbn HE
          generalize w0.alloc (rcB clNone) = wal at *
          have HE := HEn
          clear HEn
          refine ⟨HE.out, ?_⟩
          simp only [Act.put, zzA, zzB, zzC]
          refine held_call (i := 15) (some 47) (by kernel_rfl) rfl rfl (by kernel_rfl) (by go_simp; exact ⟨rfl, rfl⟩) ?_
          refine (rjoined_any was d hd false _).mono ?_
          rintro e w9 ⟨rfl, hb9⟩
          have HAn := hide ((hb9.block _ (blk_lt HA.out)).trans HA.out)
          have HEn := hide (HE.out.below hb9)
          clear hb9 HE HA
          have HE := HEn
          have HA := HAn
          clear HEn HAn
          refine ⟨_, rfl, HE.out, ?_⟩
          simp only [Act.put, zzA, zzB, zzC]
          refine held_storeRow (i := 17) 181 (.tmp 10) (.tmp 47) (w0.heap.size) (rcCells (jnF false was d)) _ (by kernel_rfl) rfl (by kernel_rfl) rfl (by kernel_rfl) (by kernel_rfl) HA.out (by kernel_rfl) rfl (rc_one _) (HE.out.setRow HLT.out _ hnb _) rfl ?_
          intro ws hws
          have HEs : Hid (JX w sb pb hb lb pc hc lc p ch la R d ws) := hide (by rw [hws.out]; exact HE.out.setRow HLT.out _ hnb _)
          have HNs : Hid (ws.heap[w0.heap.size]? = some (rcB (jnF false was d))) := hide (by rw [hws.out]; exact setRow_heap _ _ _ _ _ _ HA.out)
          clear hws
          refine wpAnyH_done (by kernel_rfl) ?_ _
          go_wp2_with fail
          go_meet
          case rel => exact ⟨_, rfl, HEs.out, hnb, by rw [HNW.out]; exact HNs.out⟩
    · have HNW : Hid (jnF (decide (6 < hv - 1) && decide (t ≤ k)) was d = jnF false was d) := hide (by simp [q1])
      refine wp_region_held (S := JX w sb pb hb lb pc hc lc p ch la R d) mixed ?_
      have hb0 : Below W2.heap.size W2 { W2 with drawn := W2.drawn + 1 } := (Below.refl _ _).drew
      generalize ({ W2 with drawn := W2.drawn + 1 } : World) = w0 at *
      have HE := hide (HJ2.out.below hb0)
      clear hb0 HJ2
      refine hT 0 32 rfl rfl (by kernel_rfl) (fun _ _ _ h => h) (.inl ⟨by kernel_rfl, fun w' h => by go_simp; rfl⟩) HE.out ?_
      simp only [Act.put, zzA, zzB, zzC]
      refine hT 1 33 rfl rfl (by kernel_rfl) (fun _ _ _ h => h) (.inl ⟨by kernel_rfl, fun w' h => by go_simp; rfl⟩) HE.out ?_
      simp only [Act.put, zzA, zzB, zzC]
      refine hT 2 34 rfl rfl (by kernel_rfl) (fun _ _ _ h => h) (.inl ⟨by kernel_rfl, fun w' h => by go_simp; rfl⟩) HE.out ?_
      simp only [Act.put, zzA, zzB, zzC]
      refine hT 3 35 rfl rfl (by kernel_rfl) (fun _ _ _ h => h) (.inl ⟨by kernel_rfl, fun w' h => by have hc := h.rs.c0; go_simp; rfl⟩) HE.out ?_
      simp only [Act.put, zzA, zzB, zzC]
      refine hT 4 36 rfl rfl (by kernel_rfl) (fun _ _ _ h => h) (.inl ⟨by kernel_rfl, fun w' h => by go_simp; rfl⟩) HE.out ?_
      simp only [Act.put, zzA, zzB, zzC]
      refine hT 5 37 rfl rfl (by kernel_rfl) (fun _ _ _ h => h) (.inl ⟨by kernel_rfl, fun w' h => by go_simp; rfl⟩) HE.out ?_
      simp only [Act.put, zzA, zzB, zzC]
      refine hT 6 38 rfl rfl (by kernel_rfl) (fun _ _ _ h => h) (yieldsIf_load_mid (by kernel_rfl) 181 (.tmp 37) rfl (pb) (t * 25) (by kernel_rfl) (rcCells was).toList _ (fun w' h => h.rs.claims.2 t was HWAS.out) Tryz.underlying181 rfl (by kernel_rfl)) HE.out ?_
      simp only [Act.put, zzA, zzB, zzC]
      simp only [Array.toArray_toList]
      refine hT 7 39 rfl rfl (by kernel_rfl) (fun _ _ _ h => h) (yields_row (by kernel_rfl) 181 (.tmp 7) rfl (w.heap.size) (by kernel_rfl) (rcCells d) _ _ (fun w' h => h.A) Tryz.underlying181 rfl (by kernel_rfl)) HE.out ?_
      simp only [Act.put, zzA, zzB, zzC]
      refine hT 8 40 rfl rfl (by kernel_rfl) (fun _ _ _ h => h) (.inl ⟨by kernel_rfl, fun w' h => by go_simp; rfl⟩) HE.out ?_
      simp only [Act.put, zzA, zzB, zzC]
      refine hT 9 41 rfl rfl (by kernel_rfl) (fun _ _ _ h => h) (.inl ⟨by kernel_rfl, fun w' h => by go_simp; rfl⟩) HE.out ?_
      simp only [Act.put, zzA, zzB, zzC]
      refine hT 10 42 rfl rfl (by kernel_rfl) (fun _ _ _ h => h) (.inl ⟨by kernel_rfl, fun w' h => by go_simp; rfl⟩) HE.out ?_
      simp only [Act.put, zzA, zzB, zzC]
      refine hT 11 43 rfl rfl (by kernel_rfl) (fun _ _ _ h => h) (.inr ⟨by kernel_rfl, rfl⟩) HE.out ?_
      simp only [Act.put, zzA, zzB, zzC]
      refine hT 12 44 rfl rfl (by kernel_rfl) (fun _ _ _ h => h) (.inr ⟨by kernel_rfl, rfl⟩) HE.out ?_
      simp only [Act.put, zzA, zzB, zzC]
      refine hT 13 45 rfl rfl (by kernel_rfl) (fun _ _ _ h => h) (.inr ⟨by kernel_rfl, rfl⟩) HE.out ?_
      simp only [Act.put, zzA, zzB, zzC]
      refine hT 14 46 rfl rfl (by kernel_rfl) (fun _ _ _ h => h) (.inl ⟨by kernel_rfl, fun w' h => by go_simp; rfl⟩) HE.out ?_
      simp only [Act.put, zzA, zzB, zzC]
      refine wpAnyH_all (rs := [15, 16]) (by kernel_rfl) (by simp) ?_
      intro jj hjj
      have hj2 : jj = 15 ∨ jj = 16 := by simpa using hjj
      clear hjj
      rcases hj2 with rfl | rfl
      · refine wpOp_call (some 47) rfl rfl (by kernel_rfl) (by go_simp; exact ⟨rfl, rfl⟩) ?_
        refine (rjoined_any was d hd false _).mono ?_
        rintro e w9 ⟨rfl, hb9⟩
        have HEn := hide (HE.out.below hb9)
        clear hb9 HE
        have HE := HEn
        clear HEn
        refine ⟨_, rfl, HE.out, ?_⟩
        simp only [Act.put, zzA, zzB, zzC]
        refine wpAnyH_all (rs := [16]) (by kernel_rfl) (by simp) ?_
        intro jj hjj
        obtain rfl : jj = 16 := by simpa using hjj
        clear hjj
        refine wpOp_new (some 10) rfl rfl (by kernel_rfl) (exec_allocRc rfl) ?_
        have HA := hide (blk_new w9 (rcB clNone))
        have hbn : Below w9.heap.size w9 (w9.alloc (rcB clNone)) := (Below.refl _ _).alloc (Nat.le_refl _) _
        have hnb : w.heap.size + 1 ≤ w9.heap.size := HE.out.s
        have HEn := hide (HE.out.below hbn)
        clear hbn HE
        generalize w9.alloc (rcB clNone) = wal at *
        have HE := HEn
        clear HEn
        refine ⟨HE.out, ?_⟩
        simp only [Act.put, zzA, zzB, zzC]
        refine held_storeRow (i := 17) 181 (.tmp 10) (.tmp 47) (w9.heap.size) (rcCells (jnF false was d)) _ (by kernel_rfl) rfl (by kernel_rfl) rfl (by kernel_rfl) (by kernel_rfl) HA.out (by kernel_rfl) rfl (rc_one _) (HE.out.setRow HLT.out _ hnb _) rfl ?_
        intro ws hws
        have HEs : Hid (JX w sb pb hb lb pc hc lc p ch la R d ws) := hide (by rw [hws.out]; exact HE.out.setRow HLT.out _ hnb _)
        have HNs : Hid (ws.heap[w9.heap.size]? = some (rcB (jnF false was d))) := hide (by rw [hws.out]; exact setRow_heap _ _ _ _ _ _ HA.out)
        clear hws
        refine wpAnyH_done (by kernel_rfl) ?_ _
        go_wp2_with fail
        go_meet
        case rel => exact ⟨_, rfl, HEs.out, hnb, by rw [HNW.out]; exact HNs.out⟩
      · refine wpOp_new (some 10) rfl rfl (by kernel_rfl) (exec_allocRc rfl) ?_
        have HA := hide (blk_new w0 (rcB clNone))
        have hbn : Below w0.heap.size w0 (w0.alloc (rcB clNone)) := (Below.refl _ _).alloc (Nat.le_refl _) _
        have hnb : w.heap.size + 1 ≤ w0.heap.size := HE.out.s
        have HEn := hide (HE.out.below hbn)
        clear hbn HE
        generalize w0.alloc (rcB clNone) = wal at *
        have HE := HEn
        clear HEn
        refine ⟨HE.out, ?_⟩
        simp only [Act.put, zzA, zzB, zzC]
        refine held_call (i := 15) (some 47) (by kernel_rfl) rfl rfl (by kernel_rfl) (by go_simp; exact ⟨rfl, rfl⟩) ?_
        refine (rjoined_any was d hd false _).mono ?_
        rintro e w9 ⟨rfl, hb9⟩
        have HAn := hide ((hb9.block _ (blk_lt HA.out)).trans HA.out)
        have HEn := hide (HE.out.below hb9)
        clear hb9 HE HA
        have HE := HEn
        have HA := HAn
        clear HEn HAn
        refine ⟨_, rfl, HE.out, ?_⟩
        simp only [Act.put, zzA, zzB, zzC]
        refine held_storeRow (i := 17) 181 (.tmp 10) (.tmp 47) (w0.heap.size) (rcCells (jnF false was d)) _ (by kernel_rfl) rfl (by kernel_rfl) rfl (by kernel_rfl) (by kernel_rfl) HA.out (by kernel_rfl) rfl (rc_one _) (HE.out.setRow HLT.out _ hnb _) rfl ?_
        intro ws hws
        have HEs : Hid (JX w sb pb hb lb pc hc lc p ch la R d ws) := hide (by rw [hws.out]; exact HE.out.setRow HLT.out _ hnb _)
        have HNs : Hid (ws.heap[w0.heap.size]? = some (rcB (jnF false was d))) := hide (by rw [hws.out]; exact setRow_heap _ _ _ _ _ _ HA.out)
        clear hws
        refine wpAnyH_done (by kernel_rfl) ?_ _
        go_wp2_with fail
        go_meet
        case rel => exact ⟨_, rfl, HEs.out, hnb, by rw [HNW.out]; exact HNs.out⟩
  case rest =>
    obtain ⟨nb, rfl, hRx, hnb, hNx⟩ := hcut
    obtain ⟨W5, hW5⟩ : ∃ W : World, W = wc := ⟨_, rfl⟩
    subst hW5
    have HJ5 := hide hRx
    have HN5 := hide hNx
    clear hRx hNx HJ2
    generalize hNW : jnF (decide (6 < hv - 1) && decide (t ≤ k)) was d = now at *
    have HNW := hide hNW
    clear hNW
    go_wp2_with fail
    refine wp_region_held (S := fun W' => JX w sb pb hb lb pc hc lc p ch la R d W' ∧ W'.heap[nb]? = some (rcB now)) mixed ?_
    have hb0 : Below W5.heap.size W5 { W5 with drawn := W5.drawn + 1 } := (Below.refl _ _).drew
    generalize ({ W5 with drawn := W5.drawn + 1 } : World) = W6 at *
    have HJ6 := hide (HJ5.out.below hb0)
    have HN6 := hide ((hb0.block _ (blk_lt HN5.out)).trans HN5.out)
    have HS : Hid (JX w sb pb hb lb pc hc lc p ch la R d W6 ∧ W6.heap[nb]? = some (rcB now)) := hide ⟨HJ6.out, HN6.out⟩
    clear hb0 HJ5 HN5
    refine hT 0 48 rfl rfl (by kernel_rfl) (fun _ _ _ h => h) (yields_row (by kernel_rfl) 181 (.tmp 10) rfl (nb) (by kernel_rfl) (rcCells now) _ _ (fun w' h => h.2) Tryz.underlying181 rfl (by kernel_rfl)) HS.out ?_
    simp only [Act.put, zzA, zzB, zzC]
    refine hT 1 49 rfl rfl (by kernel_rfl) (fun _ _ _ h => h) (.inl ⟨by kernel_rfl, fun w' h => by go_simp; rfl⟩) HS.out ?_
    simp only [Act.put, zzA, zzB, zzC]
    refine hT 2 50 rfl rfl (by kernel_rfl) (fun _ _ _ h => h) (.inl ⟨by kernel_rfl, fun w' h => by go_simp; rfl⟩) HS.out ?_
    simp only [Act.put, zzA, zzB, zzC]
    refine hT 3 51 rfl rfl (by kernel_rfl) (fun _ _ _ h => h) (.inl ⟨by kernel_rfl, fun w' h => by go_simp; rfl⟩) HS.out ?_
    simp only [Act.put, zzA, zzB, zzC]
    refine hT 4 52 rfl rfl (by kernel_rfl) (fun _ _ _ h => h) (.inl ⟨by kernel_rfl, fun w' h => by have hc := h.1.rs.c0; go_simp; rfl⟩) HS.out ?_
    simp only [Act.put, zzA, zzB, zzC]
    refine hT 5 53 rfl rfl (by kernel_rfl) (fun _ _ _ h => h) (.inl ⟨by kernel_rfl, fun w' h => by go_simp; rfl⟩) HS.out ?_
    simp only [Act.put, zzA, zzB, zzC]
    refine hT 6 54 rfl rfl (by kernel_rfl) (fun _ _ _ h => h) (.inl ⟨by kernel_rfl, fun w' h => by go_simp; rfl⟩) HS.out ?_
    simp only [Act.put, zzA, zzB, zzC]
    refine hT 7 55 rfl rfl (by kernel_rfl) (fun _ _ _ h => h) (yieldsIf_load_mid (by kernel_rfl) 181 (.tmp 54) rfl (pb) (t * 25) (by kernel_rfl) (rcCells was).toList _ (fun w' h => h.1.rs.claims.2 t was HWAS.out) Tryz.underlying181 rfl (by kernel_rfl)) HS.out ?_
    simp only [Act.put, zzA, zzB, zzC]
    simp only [Array.toArray_toList]
    refine hT 8 56 rfl rfl (by kernel_rfl) (fun _ _ _ h => h) (.inl ⟨by kernel_rfl, fun w' h => exec_eqRc (.tmp 48) (.tmp 55) rfl now was (by kernel_rfl) (by kernel_rfl)⟩) HS.out ?_
    simp only [Act.put, zzA, zzB, zzC]
    refine wpAnyH_done (by kernel_rfl) ?_ _
    clear HS
    cases hq : clEq now was with
    | true =>
      have HQ := hide hq
      clear hq
      go_wp2
      go_ret
      exact ⟨by rw [HNW.out, HQ.out]; rfl, fun _ => HJ6.out.rs, fun q => absurd (by rw [← HNW.out] at HQ; exact HQ.out.symm.trans q) (by simp), Keep3.of_below HJ6.out.b⟩
    | false =>
      have HQ := hide hq
      clear hq
      go_wp2_with fail
      refine wp_region_held (S := fun W' => W'.cell? ⟨sb, 0, none⟩ = some (.slice (some ⟨pb, 0, none⟩) p.length pc) ∧ W'.heap[nb]? = some (rcB now)) mixed ?_
      have hb0 : Below W6.heap.size W6 { W6 with drawn := W6.drawn + 1 } := (Below.refl _ _).drew
      generalize ({ W6 with drawn := W6.drawn + 1 } : World) = W7 at *
      have HJ7 := hide (HJ6.out.below hb0)
      have HN7 := hide ((hb0.block _ (blk_lt HN6.out)).trans HN6.out)
      have HS : Hid (W7.cell? ⟨sb, 0, none⟩ = some (.slice (some ⟨pb, 0, none⟩) p.length pc) ∧ W7.heap[nb]? = some (rcB now)) := hide ⟨HJ7.out.rs.c0, HN7.out⟩
      clear hb0 HJ6 HN6
      refine hT 0 57 rfl rfl (by kernel_rfl) (fun _ _ _ h => h) (.inl ⟨by kernel_rfl, fun w' h => by go_simp; rfl⟩) HS.out ?_
      simp only [Act.put, zzA, zzB, zzC]
      refine hT 1 58 rfl rfl (by kernel_rfl) (fun _ _ _ h => h) (.inl ⟨by kernel_rfl, fun w' h => by go_simp; rfl⟩) HS.out ?_
      simp only [Act.put, zzA, zzB, zzC]
      refine hT 2 59 rfl rfl (by kernel_rfl) (fun _ _ _ h => h) (.inl ⟨by kernel_rfl, fun w' h => by go_simp; rfl⟩) HS.out ?_
      simp only [Act.put, zzA, zzB, zzC]
      refine hT 3 60 rfl rfl (by kernel_rfl) (fun _ _ _ h => h) (.inl ⟨by kernel_rfl, fun w' h => by have hc := h.1; go_simp; rfl⟩) HS.out ?_
      simp only [Act.put, zzA, zzB, zzC]
      refine hT 4 61 rfl rfl (by kernel_rfl) (fun _ _ _ h => h) (.inl ⟨by kernel_rfl, fun w' h => by go_simp; rfl⟩) HS.out ?_
      simp only [Act.put, zzA, zzB, zzC]
      refine hT 5 62 rfl rfl (by kernel_rfl) (fun _ _ _ h => h) (yields_row (by kernel_rfl) 181 (.tmp 10) rfl (nb) (by kernel_rfl) (rcCells now) _ _ (fun w' h => h.2) Tryz.underlying181 rfl (by kernel_rfl)) HS.out ?_
      simp only [Act.put, zzA, zzB, zzC]
      refine hT 6 63 rfl rfl (by kernel_rfl) (fun _ _ _ h => h) (.inl ⟨by kernel_rfl, fun w' h => by go_simp; rfl⟩) HS.out ?_
      simp only [Act.put, zzA, zzB, zzC]
      have hK := keep_setCells W7.heap.size pb (rcCells now).toList (t * 25) W7
      have hR8 := HJ7.out.rs.setP n1 (Ne.symm n4) (Ne.symm n5) ht now now rfl
      refine held_skip (i := 7) (by kernel_rfl) rfl (by kernel_rfl) (exec_storeMidRc (.tmp 63) (.tmp 62) rfl pb (t * 25) now (by kernel_rfl) (by kernel_rfl) (HJ7.out.rs.claims.there ht)) ⟨by have e := hR8.c0; rw [List.length_set] at e; exact e, (hK.block nb (blk_lt HN7.out) (by omega)).trans HN7.out⟩ ?_
      simp only [Act.put, zzA, zzB, zzC]
      generalize W7.setCells pb (t * 25) (rcCells now).toList = W8 at *
      have HR8 := hide hR8
      have HK8 : Hid (Keep3 w.heap.size pb hb lb w W8) := hide ((Keep3.of_below HJ7.out.b).trans (Keep3.of_keep1 (hK.mono (by have := HJ7.out.s; omega))))
      clear hK hR8 HS HJ7 HN7
      refine wpAnyH_done (by kernel_rfl) ?_ _
      go_wp2_with fail
      refine wp_region_still_lit mixed (by kernel_rfl) ?_
      have hbn : Below W8.heap.size W8 { W8 with drawn := W8.drawn + 1 } := (Below.refl _ _).drew
      generalize ({ W8 with drawn := W8.drawn + 1 } : World) = W9 at *
      have HR9 := hide (HR8.out.below hbn)
      have HK9 := hide (HK8.out.trans (Keep3.of_below (hbn.mono HK8.out.size)))
      clear HR8 HK8
      clear hbn
      have c2 := HR9.out.c2
      have cl : W9.cell? ⟨lb, t, none⟩ = some (.int .i64 lv) := HR9.out.las.cell HLA.out
      have c3 := HR9.out.c3
      rw [List.length_set] at c2
      repeat still_step
      refine wpStill_nil ?_
      clear c2 cl c3
      go_wp2
      go_ret
      exact ⟨by rw [HNW.out, HQ.out]; rfl, fun q => absurd (by rw [← HNW.out] at HQ; exact HQ.out.symm.trans q) (by simp), fun _ => by rw [HNW.out]; exact HR9.out, HK9.out⟩
end Go.Proofs.YtngopilbpiplhaaGreatDoor
