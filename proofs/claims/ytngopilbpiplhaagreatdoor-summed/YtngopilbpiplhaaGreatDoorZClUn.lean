/-
  The contract of search.unmet: the first line whose needs are not met, or -1.
-/
import Derived.Test.YtngopilbpiplhaaGreatDoorZClRa
namespace Go.Proofs.YtngopilbpiplhaaGreatDoor
open Go.RowKit
set_option linter.unusedVariables false
set_option linter.unusedSimpArgs false

def atOf : Option Nat → Int
  | some k => (k : Int)
  | none => -1
theorem unmet_none {xs : List Ln} {p : List Cl} (h : ∀ j, j < xs.length → unmetAt xs p j = false) : unmetF xs p = none := by
  unfold unmetF
  rw [List.find?_eq_none]
  intro j hj
  rw [h j (by simpa using hj)]
  simp
theorem unmet_some {xs : List Ln} {p : List Cl} {k : Nat} (hk : k < xs.length) (h : ∀ j, j < k → unmetAt xs p j = false) (hy : unmetAt xs p k = true) : unmetF xs p = some k := by
  unfold unmetF
  rw [List.find?_range_eq_some]
  exact ⟨hy, by simpa using hk, fun j hj => by rw [h j hj]; rfl⟩

set_option maxRecDepth 100000 in
set_option maxHeartbeats 8000000 in
theorem unmet_any (sb s0 g gcap pb hb : Nat) (xs : List Ln) (p : List Cl) (ch : List Int) (w : World) (hn : xs.length ≤ 100) (hS : SAt w sb s0 g gcap pb hb xs p ch) (hW : ∀ (k : Nat) (x : Ln), xs[k]? = some x → LineW s0 x) :
    Calls Tryz.prog 119 #[.pointer (some ⟨sb, 0, none⟩)] w fun e w' => e = .returned (.int .i64 (atOf (unmetF xs p))) ∧ Below w.heap.size w w' := by
  have hp := hS.plen
  have c2 := hS.c2
  have HP := hide hp
  have HS := hide hS
  have HW := hide hW
  clear hS hW hp
  go_enter Tryz.func119, Tryz.ntmps119
  go_wp2_with fail
  clear c2
  go_loopw [11] (fun iv w' => ∃ k : Nat, k ≤ xs.length ∧ iv = .int .i64 k ∧ (∀ j, j < k → unmetAt xs p j = false) ∧ Below w.heap.size w w') (fun iv _ => xs.length - (intOf iv).toNat)
  case atStart => exact ⟨0, Nat.zero_le _, rfl, fun j hj => absurd hj (by omega), Below.refl _ _⟩
  case round =>
    obtain ⟨k, hk, rfl, hno, hB⟩ := hrel
    have HNO := hide hno
    have HB := hide hB
    clear hno hB
    obtain ⟨W9, hW9⟩ : ∃ W : World, W = wr := ⟨_, rfl⟩
    subst hW9
    by_cases hlt : k < xs.length
    · have hltI : (k : Int) < (xs.length : Int) := by omega
      obtain ⟨x, hx⟩ : ∃ x, xs[k]? = some x := ⟨_, List.getElem?_eq_getElem hlt⟩
      obtain ⟨c, hc⟩ : ∃ c, p[k]? = some c := ⟨_, List.getElem?_eq_getElem (by rw [HP.out]; exact hlt)⟩
      have HU : Hid (unmetAt xs p k = (!c.never && !metW x.word.toNat c x)) := hide (by unfold unmetAt; rw [hx, hc])
      have hLW := HW.out k x hx
      have hrow := hLW.row
      have hword := hLW.word
      have hmet := hLW.met
      have HS9 := hide (HS.out.below HB.out)
      have HRC := hide (HS9.out.claims.2 k c hc)
      have hRl := HS9.out.lines.range hlt
      rw [show xs[k] = x from by have := List.getElem?_eq_getElem hlt; rw [this] at hx; exact Option.some.inj hx] at hRl
      have HRL := hide hRl
      generalize x.word.toNat = i at *
      have HWORD := hide hword
      have HMET := hide hmet
      have hltp := HS9.out.ltp
      have hltg := HS9.out.ltg
      have hlts := HS9.out.lts
      have hlt0 := HS9.out.lt0
      clear hx hc hLW hword hmet hRl
      go_wp2_with (first | (refine wpList_load_mid rfl 135 (.tmp 14) rfl pb (k * 25) rfl (clCells c).toList _ HRC.out Tryz.underlying135 rfl (by kernel_rfl) ?_) | (refine wpList_storeCl rfl (.tmp 4) (.tmp 15) rfl W9.heap.size (clCells c) _ _ rfl rfl (blk_new W9 _) (cl_size _) rfl (cl_one _) ?_))
      intro w1 hw1
      have hb1 : Below W9.heap.size W9 w1 := by rw [hw1.out]; exact below_setG ((Below.refl _ _).alloc (Nat.le_refl _) _) (Nat.le_refl _) _
      have HC1 : Hid (w1.heap[W9.heap.size]? = some (clB c)) := hide (by rw [hw1.out]; exact setRow_heap _ _ _ _ _ _ (blk_new W9 _))
      have hlc := blk_lt HC1.out
      have HB1 := hide hb1
      have HRL1 : Hid (w1.rangeAt g (k * 4) (lnArr x).toList) := hide fun i v hv => (hb1.cell (p := ⟨g, k * 4 + i, none⟩) hltg).trans (HRL.out i v hv)
      have c11 : w1.cell? ⟨sb, 1, none⟩ = _ := (hb1.cell (p := ⟨sb, 1, none⟩) hlts).trans HS9.out.c1
      clear hw1 hb1 HRL HRC
      go_wp2_with (first | (refine wpList_load_mid rfl 122 (.tmp 21) rfl g (k * 4) rfl (lnArr x).toList _ HRL1.out Tryz.underlying122 rfl (by kernel_rfl) ?_) | (refine wpList_storeRw rfl 122 (.tmp 5) (.tmp 22) rfl w1.heap.size (lnArr x) _ rfl rfl (blk_new w1 _) (by kernel_rfl) rfl (by simp [lnArr, Value.oneCell']) ?_))
      intro w2 hw2
      have hb2 : Below w1.heap.size w1 w2 := by rw [hw2.out]; exact below_setG ((Below.refl _ _).alloc (Nat.le_refl _) _) (Nat.le_refl _) _
      have HL2 : Hid (w2.heap[w1.heap.size]? = some (lnB x)) := hide (by rw [hw2.out]; exact setRow_heap _ _ _ _ _ _ (blk_new w1 _))
      have HC2 := hide ((hb2.block _ hlc).trans HC1.out)
      have hll := blk_lt HL2.out
      have HB2 := hide (HB1.out.trans (hb2.mono HB1.out.size))
      have hs12 := HB2.out.size
      have HS2 := hide (HS9.out.below HB2.out)
      have HRW := hide (wordA_range HS2.out.tab hrow)
      have hls2 := HS2.out.lts
      have hlw2 := HS2.out.lt0
      have hrowI : (i : Int) < 17 := by omega
      have hwd : (lnArr x)[0]? = some (.int .i64 (i : Int)) := by rw [← HWORD.out]; rfl
      have HWD := hide hwd
      clear hw2 hb2 HC1 HB1 HRL1 c11 hwd
      go_wp2_with fail
      refine wp_region_held (S := Below w2.heap.size w2) mixed ?_
      have hb3 : Below w2.heap.size w2 { w2 with drawn := w2.drawn + 1 } := (Below.refl _ _).drew
      generalize ({ w2 with drawn := w2.drawn + 1 } : World) = w3 at *
      have HE0 := hide hb3
      clear hb3
      cases hcn : c.never with
      | true =>
        have HCN := hide hcn
        clear hcn
        refine held_take (i := 0) (some 23) rfl rfl (by kernel_rfl) (by kernel_rfl) (by kernel_rfl) (fun _ _ _ h => h) (.inl ⟨by kernel_rfl, fun w' h => by go_simp; rfl⟩) HE0.out ?_
        simp only [Act.put, List.setIfInBounds_toArray, List.set_cons_zero, List.set_cons_succ]
        refine held_take (i := 1) (some 24) rfl rfl (by kernel_rfl) (by kernel_rfl) (by kernel_rfl) (fun _ _ _ h => h) (.inl ⟨by kernel_rfl, fun w' h => by have hc : w'.cell? ⟨W9.heap.size, 0, none⟩ = some (.bool true) := (by rw [h.cell (p := ⟨W9.heap.size, 0, none⟩) (by show W9.heap.size < _; omega), cell_of_blk HC2.out 0, cl_never, HCN.out]); go_simp; rfl⟩) HE0.out ?_
        simp only [Act.put, List.setIfInBounds_toArray, List.set_cons_zero, List.set_cons_succ]
        refine held_take (i := 2) (some 25) rfl rfl (by kernel_rfl) (by kernel_rfl) (by kernel_rfl) (fun _ _ _ h => h) (.inl ⟨by kernel_rfl, fun w' h => by go_simp; rfl⟩) HE0.out ?_
        simp only [Act.put, List.setIfInBounds_toArray, List.set_cons_zero, List.set_cons_succ]
        refine held_take (i := 3) (some 26) rfl rfl (by kernel_rfl) (by kernel_rfl) (by kernel_rfl) (fun _ _ _ h => h) (.inl ⟨by kernel_rfl, fun w' h => by go_simp; rfl⟩) HE0.out ?_
        simp only [Act.put, List.setIfInBounds_toArray, List.set_cons_zero, List.set_cons_succ]
        refine held_take (i := 4) (some 27) rfl rfl (by kernel_rfl) (by kernel_rfl) (by kernel_rfl) (fun _ _ _ h => h) (.inr ⟨by kernel_rfl, rfl⟩) HE0.out ?_
        simp only [Act.put, List.setIfInBounds_toArray, List.set_cons_zero, List.set_cons_succ]
        refine held_take (i := 5) (some 28) rfl rfl (by kernel_rfl) (by kernel_rfl) (by kernel_rfl) (fun _ _ _ h => h) (.inr ⟨by kernel_rfl, rfl⟩) HE0.out ?_
        simp only [Act.put, List.setIfInBounds_toArray, List.set_cons_zero, List.set_cons_succ]
        refine held_take (i := 6) (some 29) rfl rfl (by kernel_rfl) (by kernel_rfl) (by kernel_rfl) (fun _ _ _ h => h) (.inr ⟨by kernel_rfl, rfl⟩) HE0.out ?_
        simp only [Act.put, List.setIfInBounds_toArray, List.set_cons_zero, List.set_cons_succ]
        refine held_take (i := 7) (some 30) rfl rfl (by kernel_rfl) (by kernel_rfl) (by kernel_rfl) (fun _ _ _ h => h) (.inr ⟨by kernel_rfl, rfl⟩) HE0.out ?_
        simp only [Act.put, List.setIfInBounds_toArray, List.set_cons_zero, List.set_cons_succ]
        refine held_take (i := 8) (some 31) rfl rfl (by kernel_rfl) (by kernel_rfl) (by kernel_rfl) (fun _ _ _ h => h) (.inr ⟨by kernel_rfl, rfl⟩) HE0.out ?_
        simp only [Act.put, List.setIfInBounds_toArray, List.set_cons_zero, List.set_cons_succ]
        refine held_take (i := 9) (some 32) rfl rfl (by kernel_rfl) (by kernel_rfl) (by kernel_rfl) (fun _ _ _ h => h) (.inr ⟨by kernel_rfl, rfl⟩) HE0.out ?_
        simp only [Act.put, List.setIfInBounds_toArray, List.set_cons_zero, List.set_cons_succ]
        refine held_take (i := 10) (some 33) rfl rfl (by kernel_rfl) (by kernel_rfl) (by kernel_rfl) (fun _ _ _ h => h) (.inr ⟨by kernel_rfl, rfl⟩) HE0.out ?_
        simp only [Act.put, List.setIfInBounds_toArray, List.set_cons_zero, List.set_cons_succ]
        refine held_take (i := 11) (some 34) rfl rfl (by kernel_rfl) (by kernel_rfl) (by kernel_rfl) (fun _ _ _ h => h) (.inr ⟨by kernel_rfl, rfl⟩) HE0.out ?_
        simp only [Act.put, List.setIfInBounds_toArray, List.set_cons_zero, List.set_cons_succ]
        refine held_take (i := 12) (some 35) rfl rfl (by kernel_rfl) (by kernel_rfl) (by kernel_rfl) (fun _ _ _ h => h) (.inr ⟨by kernel_rfl, rfl⟩) HE0.out ?_
        simp only [Act.put, List.setIfInBounds_toArray, List.set_cons_zero, List.set_cons_succ]
        refine held_take (i := 13) (some 36) rfl rfl (by kernel_rfl) (by kernel_rfl) (by kernel_rfl) (fun _ _ _ h => h) (.inr ⟨by kernel_rfl, rfl⟩) HE0.out ?_
        simp only [Act.put, List.setIfInBounds_toArray, List.set_cons_zero, List.set_cons_succ]
        refine held_take (i := 14) (some 37) rfl rfl (by kernel_rfl) (by kernel_rfl) (by kernel_rfl) (fun _ _ _ h => h) (.inr ⟨by kernel_rfl, rfl⟩) HE0.out ?_
        simp only [Act.put, List.setIfInBounds_toArray, List.set_cons_zero, List.set_cons_succ]
        refine held_take (i := 15) (some 38) rfl rfl (by kernel_rfl) (by kernel_rfl) (by kernel_rfl) (fun _ _ _ h => h) (.inr ⟨by kernel_rfl, rfl⟩) HE0.out ?_
        simp only [Act.put, List.setIfInBounds_toArray, List.set_cons_zero, List.set_cons_succ]
        refine held_take (i := 16) (some 39) rfl rfl (by kernel_rfl) (by kernel_rfl) (by kernel_rfl) (fun _ _ _ h => h) (.inl ⟨by kernel_rfl, fun w' h => by go_simp; rfl⟩) HE0.out ?_
        simp only [Act.put, List.setIfInBounds_toArray, List.set_cons_zero, List.set_cons_succ]
        refine wpAnyH_done (by kernel_rfl) ?_ _
        have HU2 : Hid (unmetAt xs p k = false) := hide (by rw [HU.out, HCN.out]; rfl)
        have HB4 := hide (HB.out.trans ((HB2.out.trans (HE0.out.mono hs12)).mono HB.out.size))
        go_wp2
        go_roundw
        case rel =>
          refine ⟨k + 1, by omega, by go_num, fun j hj => ?_, HB4.out⟩
          rcases Nat.lt_succ_iff_lt_or_eq.1 hj with h | h
          · exact HNO.out j h
          · rw [h]; exact HU2.out
        case measure => simp [intOf]; omega
      | false =>
        have HCN := hide hcn
        clear hcn
        refine held_take (i := 0) (some 23) rfl rfl (by kernel_rfl) (by kernel_rfl) (by kernel_rfl) (fun _ _ _ h => h) (.inl ⟨by kernel_rfl, fun w' h => by go_simp; rfl⟩) HE0.out ?_
        simp only [Act.put, List.setIfInBounds_toArray, List.set_cons_zero, List.set_cons_succ]
        refine held_take (i := 1) (some 24) rfl rfl (by kernel_rfl) (by kernel_rfl) (by kernel_rfl) (fun _ _ _ h => h) (.inl ⟨by kernel_rfl, fun w' h => by have hc : w'.cell? ⟨W9.heap.size, 0, none⟩ = some (.bool false) := (by rw [h.cell (p := ⟨W9.heap.size, 0, none⟩) (by show W9.heap.size < _; omega), cell_of_blk HC2.out 0, cl_never, HCN.out]); go_simp; rfl⟩) HE0.out ?_
        simp only [Act.put, List.setIfInBounds_toArray, List.set_cons_zero, List.set_cons_succ]
        refine held_take (i := 2) (some 25) rfl rfl (by kernel_rfl) (by kernel_rfl) (by kernel_rfl) (fun _ _ _ h => h) (.inl ⟨by kernel_rfl, fun w' h => by go_simp; rfl⟩) HE0.out ?_
        simp only [Act.put, List.setIfInBounds_toArray, List.set_cons_zero, List.set_cons_succ]
        refine held_take (i := 3) (some 26) rfl rfl (by kernel_rfl) (by kernel_rfl) (by kernel_rfl) (fun _ _ _ h => h) (.inl ⟨by kernel_rfl, fun w' h => by go_simp; rfl⟩) HE0.out ?_
        simp only [Act.put, List.setIfInBounds_toArray, List.set_cons_zero, List.set_cons_succ]
        refine held_take (i := 4) (some 27) rfl rfl (by kernel_rfl) (by kernel_rfl) (by kernel_rfl) (fun _ _ _ h => h) (.inl ⟨by kernel_rfl, fun w' h => by go_simp; rfl⟩) HE0.out ?_
        simp only [Act.put, List.setIfInBounds_toArray, List.set_cons_zero, List.set_cons_succ]
        refine held_take (i := 5) (some 28) rfl rfl (by kernel_rfl) (by kernel_rfl) (by kernel_rfl) (fun _ _ _ h => h) (.inl ⟨by kernel_rfl, fun w' h => by go_simp; rfl⟩) HE0.out ?_
        simp only [Act.put, List.setIfInBounds_toArray, List.set_cons_zero, List.set_cons_succ]
        refine held_take (i := 6) (some 29) rfl rfl (by kernel_rfl) (by kernel_rfl) (by kernel_rfl) (fun _ _ _ h => h) (.inl ⟨by kernel_rfl, fun w' h => by go_simp; rfl⟩) HE0.out ?_
        simp only [Act.put, List.setIfInBounds_toArray, List.set_cons_zero, List.set_cons_succ]
        refine held_take (i := 7) (some 30) rfl rfl (by kernel_rfl) (by kernel_rfl) (by kernel_rfl) (fun _ _ _ h => h) (.inl ⟨by kernel_rfl, fun w' h => by have hc := (h.cell (p := ⟨sb, 0, none⟩) hls2).trans HS2.out.c0; go_simp; rfl⟩) HE0.out ?_
        simp only [Act.put, List.setIfInBounds_toArray, List.set_cons_zero, List.set_cons_succ]
        refine held_take (i := 8) (some 31) rfl rfl (by kernel_rfl) (by kernel_rfl) (by kernel_rfl) (fun _ _ _ h => h) (.inl ⟨by kernel_rfl, fun w' h => by go_simp; rfl⟩) HE0.out ?_
        simp only [Act.put, List.setIfInBounds_toArray, List.set_cons_zero, List.set_cons_succ]
        refine held_take (i := 9) (some 32) rfl rfl (by kernel_rfl) (by kernel_rfl) (by kernel_rfl) (fun _ _ _ h => h) (.inl ⟨by kernel_rfl, fun w' h => by have hc : w'.cell? ⟨w1.heap.size, 0, none⟩ = some (.int .i64 (i : Int)) := ((h.cell (p := ⟨w1.heap.size, 0, none⟩) hll).trans (cell_of_blk HL2.out 0)).trans HWD.out; go_simp; rfl⟩) HE0.out ?_
        simp only [Act.put, List.setIfInBounds_toArray, List.set_cons_zero, List.set_cons_succ]
        refine held_take (i := 10) (some 33) rfl rfl (by kernel_rfl) (by kernel_rfl) (by kernel_rfl) (fun _ _ _ h => h) (.inl ⟨by kernel_rfl, fun w' h => by go_simp; rfl⟩) HE0.out ?_
        simp only [Act.put, List.setIfInBounds_toArray, List.set_cons_zero, List.set_cons_succ]
        refine held_take (i := 11) (some 34) rfl rfl (by kernel_rfl) (by kernel_rfl) (by kernel_rfl) (fun _ _ _ h => h) (yieldsIf_load_mid (by kernel_rfl) 140 (.tmp 33) rfl (s0 + 55) (i * 8) (by kernel_rfl) (wordA s0 i).toList _ (fun w' h => fun j v hv => (h.cell (p := ⟨s0 + 55, i * 8 + j, none⟩) (by show s0 + 55 < _; omega)).trans (HRW.out j v hv)) Tryz.underlying140 rfl (by kernel_rfl)) HE0.out ?_
        simp only [Act.put, List.setIfInBounds_toArray, List.set_cons_zero, List.set_cons_succ]
        simp only [Array.toArray_toList]
        refine held_take (i := 12) (some 35) rfl rfl (by kernel_rfl) (by kernel_rfl) (by kernel_rfl) (fun _ _ _ h => h) (yields_row (by kernel_rfl) 135 (.tmp 4) rfl W9.heap.size (by kernel_rfl) (clCells c) 135 _ (fun w' h => (h.block _ (by omega)).trans HC2.out) Tryz.underlying135 rfl (by kernel_rfl)) HE0.out ?_
        simp only [Act.put, List.setIfInBounds_toArray, List.set_cons_zero, List.set_cons_succ]
        refine held_take (i := 13) (some 36) rfl rfl (by kernel_rfl) (by kernel_rfl) (by kernel_rfl) (fun _ _ _ h => h) (yields_row (by kernel_rfl) 122 (.tmp 5) rfl w1.heap.size (by kernel_rfl) (lnArr x) 122 _ (fun w' h => (h.block _ hll).trans HL2.out) Tryz.underlying122 rfl (by kernel_rfl)) HE0.out ?_
        simp only [Act.put, List.setIfInBounds_toArray, List.set_cons_zero, List.set_cons_succ]
        refine held_call (i := 14) (some 37) (by kernel_rfl) rfl rfl (by kernel_rfl) (by go_simp; exact ⟨rfl, rfl⟩) ?_
        refine (HMET.out c w3 (HS2.out.below HE0.out).tab).mono ?_
        rintro e w4 ⟨rfl, hb4⟩
        have HE4 := hide (HE0.out.trans (hb4.mono HE0.out.size))
        clear hb4
        refine ⟨_, rfl, HE4.out, ?_⟩
        simp only [Act.put, List.setIfInBounds_toArray, List.set_cons_zero, List.set_cons_succ]
        cases hm : metW i c x with
        | false =>
          have HM := hide hm
          clear hm
          refine held_take (i := 15) (some 38) rfl rfl (by kernel_rfl) (by kernel_rfl) (by kernel_rfl) (fun _ _ _ h => h) (.inl ⟨by kernel_rfl, fun w' h => by go_simp; rfl⟩) HE4.out ?_
          simp only [Act.put, List.setIfInBounds_toArray, List.set_cons_zero, List.set_cons_succ]
          refine held_take (i := 16) (some 39) rfl rfl (by kernel_rfl) (by kernel_rfl) (by kernel_rfl) (fun _ _ _ h => h) (.inl ⟨by kernel_rfl, fun w' h => by go_simp; rfl⟩) HE4.out ?_
          simp only [Act.put, List.setIfInBounds_toArray, List.set_cons_zero, List.set_cons_succ]
          refine wpAnyH_done (by kernel_rfl) ?_ _
          have HB4 := hide (HB.out.trans ((HB2.out.trans (HE4.out.mono hs12)).mono HB.out.size))
          have HU2 : Hid (unmetF xs p = some k) := hide (unmet_some hlt HNO.out (by rw [HU.out, HCN.out, HM.out]; rfl))
          go_wp2
          go_ret
          exact ⟨by rw [HU2.out]; rfl, HB4.out⟩
        | true =>
          have HM := hide hm
          clear hm
          refine held_take (i := 15) (some 38) rfl rfl (by kernel_rfl) (by kernel_rfl) (by kernel_rfl) (fun _ _ _ h => h) (.inl ⟨by kernel_rfl, fun w' h => by go_simp; rfl⟩) HE4.out ?_
          simp only [Act.put, List.setIfInBounds_toArray, List.set_cons_zero, List.set_cons_succ]
          refine held_take (i := 16) (some 39) rfl rfl (by kernel_rfl) (by kernel_rfl) (by kernel_rfl) (fun _ _ _ h => h) (.inl ⟨by kernel_rfl, fun w' h => by go_simp; rfl⟩) HE4.out ?_
          simp only [Act.put, List.setIfInBounds_toArray, List.set_cons_zero, List.set_cons_succ]
          refine wpAnyH_done (by kernel_rfl) ?_ _
          have HB4 := hide (HB.out.trans ((HB2.out.trans (HE4.out.mono hs12)).mono HB.out.size))
          have HU2 : Hid (unmetAt xs p k = false) := hide (by rw [HU.out, HCN.out, HM.out]; rfl)
          go_wp2
          go_roundw
          case rel =>
            refine ⟨k + 1, by omega, by go_num, fun j hj => ?_, HB4.out⟩
            rcases Nat.lt_succ_iff_lt_or_eq.1 hj with h | h
            · exact HNO.out j h
            · rw [h]; exact HU2.out
          case measure => simp [intOf]; omega
    · obtain rfl : k = xs.length := by omega
      have HU2 : Hid (unmetF xs p = none) := hide (unmet_none HNO.out)
      go_wp2
      go_ret
      exact ⟨by rw [HU2.out]; rfl, HB.out⟩

end Go.Proofs.YtngopilbpiplhaaGreatDoor
