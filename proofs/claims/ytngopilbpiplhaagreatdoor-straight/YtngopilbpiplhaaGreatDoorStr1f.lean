/-
  The contract of wardkeep.Straight: it answers true.
-/
import Derived.Test.YtngopilbpiplhaaGreatDoorStr0
namespace Go.Proofs.YtngopilbpiplhaaGreatDoor
open Go.RowKit
set_option linter.unusedSimpArgs false

set_option maxRecDepth 1000000 in
set_option maxHeartbeats 8000000 in
theorem Straight_any (raw : List Int) (input : List UInt8) (ra : Option Addr) (rb ro cap : Nat) (w : World) (hra : 0 < raw.length → ra = some ⟨rb, ro, none⟩) (hg : Glob w) (hp : PowT w) (hr : raw.length ≤ 140737488355328)
    (hrange : ∀ j, -9223372036854775808 ≤ rawAt raw j ∧ rawAt raw j ≤ 9223372036854775807) (hcell : ∀ j, j < raw.length → w.cell? ⟨rb, ro + j, none⟩ = some (.int .i64 (rawAt raw j))) (hrb : rb < w.heap.size) :
    Calls Tryz.prog 3 #[.slice ra raw.length cap, .string ⟨input.toArray⟩] w fun e w' => e = .returned (.bool true) ∧ Below w.heap.size w w' := by
  have HG := hide hg
  have HP := hide hp
  have HC := hide hcell
  have HRG := hide hrange
  have hg8 := hg.size
  clear hg hp hcell hrange
  go_enter Tryz.func3, Tryz.ntmps3
  go_wp2_with fail
  refine (awake_any w HG.out HP.out).mono ?_
  rintro e w1 ⟨rfl, hb1⟩
  go_wp2_with fail
  have hN : ((w1.alloc (.cells (arrC 8 fun _ => 0) 24)).alloc (.cells (arrC 16 fun _ => 0) 25)).heap[w1.heap.size]? = some (.cells (arrC 8 fun _ => 0) 24) := blk_alloc (blk_new w1 _) _
  have hCb : ((w1.alloc (.cells (arrC 8 fun _ => 0) 24)).alloc (.cells (arrC 16 fun _ => 0) 25)).heap[w1.heap.size + 1]? = some (.cells (arrC 16 fun _ => 0) 25) := by
    have := blk_new (w1.alloc (.cells (arrC 8 fun _ => 0) 24)) (.cells (arrC 16 fun _ => 0) 25)
    rwa [World.size_alloc] at this
  have hb12 : Below w1.heap.size w1 ((w1.alloc (.cells (arrC 8 fun _ => 0) 24)).alloc (.cells (arrC 16 fun _ => 0) 25)) := ((Below.refl _ _).alloc (Nat.le_refl _) _).alloc (by simp) _
  change Code.wp _ _ _ _ ((w1.alloc (.cells (arrC 8 fun _ => 0) 24)).alloc (.cells (arrC 16 fun _ => 0) 25))
  have hs12 : w1.heap.size + 2 ≤ ((w1.alloc (.cells (arrC 8 fun _ => 0) 24)).alloc (.cells (arrC 16 fun _ => 0) 25)).heap.size := by simp
  generalize (w1.alloc (.cells (arrC 8 fun _ => 0) 24)).alloc (.cells (arrC 16 fun _ => 0) 25) = W2 at *
  have HN := hide hN
  have HCb := hide hCb
  clear hN hCb
  go_loopw [8, 9] (fun tv rv w' => ∃ (r : Nat) (T : List UInt8) (n : Nat → Int), r ≤ 8 ∧ rv = .int .i64 r ∧ tv = .string ⟨T.toArray⟩ ∧ SInv input r r T n (fun _ => 0) [] ∧ Rng n ∧ w'.heap[w1.heap.size]? = some (.cells (arrC 8 n) 24) ∧ w'.heap[w1.heap.size + 1]? = some (.cells (arrC 16 fun _ => 0) 25) ∧ Below w1.heap.size w1 w') (fun _ rv _ => 8 - (intOf rv).toNat)
  case atStart => exact ⟨0, [], fun _ => 0, by omega, rfl, rfl, SInv.start input, rng0, HN.out, HCb.out, hb12⟩
  case round =>
    clear HN HCb
    obtain ⟨r, T, n, hr8, rfl, rfl, hinv, hrng8, hN, hCb, hbr⟩ := hrel
    have hTl := hinv.len
    have HI := hide hinv
    have HN := hide hN
    have HCb := hide hCb
    have hszr := hbr.size
    have hltN := blk_lt hN
    have hltC := blk_lt hCb
    clear hinv hN hCb
    by_cases hlt : r < 8
    · have hcn := (cell_of_blk HN.out r).trans (arrC_get 8 n hlt)
      have hfn := frozen_of_blk HN.out
      by_cases hrr : r < raw.length
      · obtain rfl := hra (by omega)
        have hcr : wr.cell? ⟨rb, ro + r, none⟩ = some (.int .i64 (rawAt raw r)) := (hbr.cell (p := ⟨rb, _, none⟩) (by show rb < _; have := hb1.size; omega)).trans ((hb1.cell (p := ⟨rb, _, none⟩) hrb).trans (HC.out r hrr))
        go_wp2_with fail
        refine (pick_any _ 2000001 _ (HRG.out r).1 (HRG.out r).2 (by omega) (by omega)).mono ?_
        rintro e w3 ⟨rfl, rfl⟩
        have hpk := pickF_lt (rawAt raw r) 2000001 (by omega)
        obtain ⟨hpk0, hpk1⟩ := hpk
        generalize hX : pickF (rawAt raw r) 2000001 = X at *
        have HX := hide hX
        clear hX
        go_wp2_with fail
        refine (decimal_any _ (by omega) (by omega) _).mono ?_
        rintro e w4 ⟨rfl, hb4⟩
        have hl1 := itoa_len (r : Int) (by omega) (by omega)
        go_wp2_with fail
        refine (decimal_any _ (by omega) (by omega) _).mono ?_
        rintro e w5 ⟨rfl, hb5⟩
        have hl2 := itoa_len (X - 1000000) (by omega) (by omega)
        have hS : SInv input (r + 1) (r + 1) (T ++ (wName 0 ++ 32 :: (reg r ++ 32 :: Lib.itoa (X - 1000000))) ++ [10]) (upd n r (X - 1000000)) (fun _ => 0) [] :=
          HI.out.add _ _ (lineF_Rn w0 r (X - 1000000) hlt (by omega) (by omega)) (set_no10 r _ hlt) (set_len r _ hlt (by omega) (by omega)) (lineS_set r _ _ hlt (by omega) (by omega)) (fun h => absurd h (by show ((0 : Nat) : Int) ≠ 15; decide)) (steps_new input (X - 1000000) r n _ [])
        have HS := hide hS
        have hsz4 := hb4.size
        have hsz5 := hb5.size
        rw [World.size_setCell] at hsz4
        have hN5 : w5.heap[w1.heap.size]? = some (.cells (arrC 8 (upd n r (X - 1000000))) 24) := by
          rw [hb5.block _ (by omega), hb4.block _ (by simp; omega), ← arrC_set]
          exact blk_setCell HN.out r _
        have hC5 : w5.heap[w1.heap.size + 1]? = some (.cells (arrC 16 fun _ => 0) 25) := by
          rw [hb5.block _ (by omega), hb4.block _ (by simp; omega), Below.heap_setCell _ _ _ _ (by show w1.heap.size + 1 ≠ w1.heap.size; omega)]
          exact HCb.out
        have hb5' : Below w1.heap.size w1 w5 := (hbr.setCell (p := ⟨w1.heap.size, _, none⟩) (Nat.le_refl _) _).trans ((hb4.mono (by simp; omega)).trans (hb5.mono (by omega)))
        have HN5 := hide hN5
        have HC5 := hide hC5
        clear hS hN5 hC5 hb4 hb5
        generalize hD1 : Lib.itoa (r : Int) = D1 at *
        generalize hD2 : Lib.itoa (X - 1000000) = D2 at *
        have HD1 := hide hD1
        have HD2 := hide hD2
        clear hD1 hD2
        go_wp2
        go_roundw
        case rel =>
          refine ⟨r + 1, _, _, by omega, by go_num, ?_, HS.out, hrng8.upd _ (by omega) (by omega), HN5.out, HC5.out, hb5'⟩
          exact congrArg Value.string (ByteArray.ext (by simp [ByteArray.data_append, reg, wName, HD1.out]))
        case measure => simp [intOf]; omega
      · go_wp2_with fail
        refine (decimal_any _ (by omega) (by omega) _).mono ?_
        rintro e w4 ⟨rfl, hb4⟩
        have hl1 := itoa_len (r : Int) (by omega) (by omega)
        go_wp2_with fail
        refine (decimal_any _ (by omega) (by omega) _).mono ?_
        rintro e w5 ⟨rfl, hb5⟩
        have hl2 := itoa_len (0) (by omega) (by omega)
        have hS : SInv input (r + 1) (r + 1) (T ++ (wName 0 ++ 32 :: (reg r ++ 32 :: Lib.itoa (0))) ++ [10]) (upd n r (0)) (fun _ => 0) [] :=
          HI.out.add _ _ (lineF_Rn w0 r (0) hlt (by omega) (by omega)) (set_no10 r _ hlt) (set_len r _ hlt (by omega) (by omega)) (lineS_set r _ _ hlt (by omega) (by omega)) (fun h => absurd h (by show ((0 : Nat) : Int) ≠ 15; decide)) (steps_new input (0) r n _ [])
        have HS := hide hS
        have hsz4 := hb4.size
        have hsz5 := hb5.size
        rw [World.size_setCell] at hsz4
        have hN5 : w5.heap[w1.heap.size]? = some (.cells (arrC 8 (upd n r (0))) 24) := by
          rw [hb5.block _ (by omega), hb4.block _ (by simp; omega), ← arrC_set]
          exact blk_setCell HN.out r _
        have hC5 : w5.heap[w1.heap.size + 1]? = some (.cells (arrC 16 fun _ => 0) 25) := by
          rw [hb5.block _ (by omega), hb4.block _ (by simp; omega), Below.heap_setCell _ _ _ _ (by show w1.heap.size + 1 ≠ w1.heap.size; omega)]
          exact HCb.out
        have hb5' : Below w1.heap.size w1 w5 := (hbr.setCell (p := ⟨w1.heap.size, _, none⟩) (Nat.le_refl _) _).trans ((hb4.mono (by simp; omega)).trans (hb5.mono (by omega)))
        have HN5 := hide hN5
        have HC5 := hide hC5
        clear hS hN5 hC5 hb4 hb5
        generalize hD1 : Lib.itoa (r : Int) = D1 at *
        generalize hD2 : Lib.itoa (0) = D2 at *
        have HD1 := hide hD1
        have HD2 := hide hD2
        clear hD1 hD2
        go_wp2
        go_roundw
        case rel =>
          refine ⟨r + 1, _, _, by omega, by go_num, ?_, HS.out, hrng8.upd _ (by omega) (by omega), HN5.out, HC5.out, hb5'⟩
          exact congrArg Value.string (ByteArray.ext (by simp [ByteArray.data_append, reg, wName, HD1.out]))
        case measure => simp [intOf]; omega
    · obtain rfl : r = 8 := by omega
      have hrn : Rng n := hrng8
      clear hTl hrng8
      go_wp2_with fail
      go_loopw [8, 11, 12, 13] (fun tv ov lv iv w' => ∃ (i k : Nat) (T out : List UInt8) (n c : Nat → Int), i ≤ raw.length + 8 ∧ 8 ≤ i ∧ iv = .int .i64 i ∧ lv = .int .i64 k ∧ tv = .string ⟨T.toArray⟩ ∧ ov = .string ⟨out.toArray⟩ ∧ 8 ≤ k ∧ (k ≤ 90 ∧ k % 2 = 0) ∧ SInv input 8 k T n c out ∧ out.length ≤ 21 * k ∧ Rng n ∧ Rng c ∧
        w'.heap[w1.heap.size]? = some (.cells (arrC 8 n) 24) ∧ w'.heap[w1.heap.size + 1]? = some (.cells (arrC 16 c) 25) ∧ Below w1.heap.size w1 w') (fun _ _ _ iv _ => raw.length + 10 - (intOf iv).toNat)
      case atStart => exact ⟨8, 8, T, [], n, fun _ => 0, by omega, by omega, rfl, rfl, rfl, rfl, by omega, by omega, HI.out, by simp, hrn, rng0, HN.out, HCb.out, hbr⟩
      case round =>
        clear HI HN HCb hbr hrn hszr hltN hltC
        obtain ⟨i, k, T, out, n, c, hi8, hi88, rfl, rfl, rfl, rfl, hk8, ⟨hk90, hkev⟩, hinv, hol, hrn, hrc, hN, hCb, hbr⟩ := hrel
        have hTl := hinv.len
        have HI := hide hinv
        have HN := hide hN
        have HCb := hide hCb
        have hszr := hbr.size
        have hltN := blk_lt hN
        have hltC := blk_lt hCb
        clear hinv hN hCb
        by_cases hgo : i + 2 < raw.length ∧ k < 90
        · obtain ⟨hgo1, hgo2⟩ := hgo
          obtain rfl := hra (by omega)
          have hgo1' : (i : Int) + 2 < (raw.length : Int) := by omega
          have hgo2' : (k : Int) < 90 := by omega
          have hrw : ∀ j, j < raw.length → wr.cell? ⟨rb, ro + j, none⟩ = some (.int .i64 (rawAt raw j)) := fun j hj => (hbr.cell (p := ⟨rb, _, none⟩) (by show rb < _; have := hb1.size; omega)).trans ((hb1.cell (p := ⟨rb, _, none⟩) hrb).trans (HC.out j hj))
          have hr0 := hrw i (by omega)
          have hr1 : wr.cell? ⟨rb, ro + (i + 1), none⟩ = some (.int .i64 (rawAt raw (i + 1))) := hrw (i + 1) (by omega)
          have hr2 : wr.cell? ⟨rb, ro + (i + 2), none⟩ = some (.int .i64 (rawAt raw (i + 2))) := hrw (i + 2) (by omega)
          have HRW := hide hrw
          clear hrw
          go_wp2_with fail
          refine (pick_any _ 7 _ (HRG.out _).1 (HRG.out _).2 (by omega) (by omega)).mono ?_
          rintro e w3 ⟨rfl, rfl⟩
          obtain ⟨a, ha, hae⟩ := pick_nat (rawAt raw (i + 1)) 7 (by omega)
          rw [show pickF (rawAt raw (i + 1)) 7 = (a : Int) from hae]
          clear hae hr1
          go_wp2_with fail
          refine (pick_any _ 7 _ (HRG.out _).1 (HRG.out _).2 (by omega) (by omega)).mono ?_
          rintro e w3 ⟨rfl, rfl⟩
          obtain ⟨b, hb, hbe⟩ := pick_nat (rawAt raw (i + 2)) 7 (by omega)
          rw [show pickF (rawAt raw (i + 2)) 7 = (b : Int) from hbe]
          clear hbe hr2 hr0
          go_wp2_with fail
          refine (decimal_any _ (by omega) (by omega) _).mono ?_
          rintro e w4 ⟨rfl, hb4⟩
          have hla := itoa_len (a : Int) (by omega) (by omega)
          go_wp2_with fail
          refine (decimal_any _ (by omega) (by omega) _).mono ?_
          rintro e w5 ⟨rfl, hb5⟩
          have hlb := itoa_len (b : Int) (by omega) (by omega)
          have hsz4 := hb4.size
          have hsz5 := hb5.size
          have hb35 : Below w3.heap.size w3 w5 := hb4.trans (hb5.mono hsz4)
          have hb15 : Below w1.heap.size w1 w5 := hbr.trans (hb35.mono hszr)
          have hN5 := (hb35.block _ hltN).trans HN.out
          have hC5 := (hb35.block _ hltC).trans HCb.out
          have hrbr : rb < w3.heap.size := by have := hb1.size; omega
          have hr0 := (hb35.cell (p := ⟨rb, ro + i, none⟩) hrbr).trans (HRW.out i (by omega))
          have hr2 := (hb35.cell (p := ⟨rb, ro + (i + 2), none⟩) hrbr).trans (HRW.out (i + 2) (by omega))
          have HN5 := hide hN5
          have HC5 := hide hC5
          have hrw5 : ∀ j, j < raw.length → w5.cell? ⟨rb, ro + j, none⟩ = some (.int .i64 (rawAt raw j)) := fun j hj => (hb35.cell (p := ⟨rb, ro + j, none⟩) hrbr).trans (HRW.out j hj)
          have HR5 := hide hrw5
          clear hb4 hb5 hN5 hC5 HN HCb HRW hrw5
          generalize hA : Lib.itoa (a : Int) = A at *
          generalize hBB : Lib.itoa (b : Int) = BB at *
          have HA := hide hA
          have HBB := hide hBB
          clear hA hBB
          go_wp2_with fail
          refine (pick_any _ 9 _ (HRG.out _).1 (HRG.out _).2 (by omega) (by omega)).mono ?_
          rintro e w6 ⟨rfl, rfl⟩
          obtain ⟨d, hd, hde⟩ := pick_nat (rawAt raw i) 9 (by omega)
          rw [show pickF (rawAt raw i) 9 = (d : Int) from hde]
          clear hde hr0 hr2
          have hsw5 : SW raw rb ro w1 w6 n c := ⟨HN5.out, HC5.out, hb15, fun j hj => HR5.out j hj, by have := hb1.size; omega⟩
          have HSW := hide hsw5
          clear hsw5 HN5 HC5 hb15 hb35
          have haI : (a : Int) < 8 := by omega
          have hbI : (b : Int) < 8 := by omega
          have HRA := hide (show reg a = 114 :: A by unfold reg; rw [HA.out])
          have HRB := hide (show reg b = 114 :: BB by unfold reg; rw [HBB.out])
          match d, hd with
          | 0, _ =>
            as_aux_lemma =>
              go_wp2_with fail
              refine wp_region_still_tail 9 mixed (by kernel_rfl) ?_
              simp only [List.take_succ_cons, List.take_zero, List.drop_succ_cons, List.drop_zero]
              generalize hWW : ({ w6 with drawn := _ } : World) = W7
              have hsw7 : SW raw rb ro w1 W7 n c := by rw [← hWW]; exact HSW.out.drew
              clear HSW
              have HSW := hide hsw7
              clear hsw7
              clear hWW
              have fa := HSW.out.n a (by omega)
              have fb := HSW.out.n b (by omega)
              repeat still_step
              refine wpStill_nil ?_
              clear fa fb
              refine wpList_storeN rfl (.tmp 112) (.tmp 111) rfl w1.heap.size 8 a n _ _ rfl rfl HSW.out.N (by omega) ?_
              intro w8 hN8 hk8 hs8
              try rw [wrap_eq] at hN8
              have hsw8 : SW raw rb ro w1 w8 (upd n a (wrap64 (n a + n b))) c := by exact HSW.out.setN hN8 hk8
              clear HSW
              have HSW := hide hsw8
              clear hsw8
              clear hN8 hk8
              have hrn1 : Rng (upd n a (wrap64 (n a + n b))) := hrn.upd _ (wrap64_range _).1 (wrap64_range _).2
              have HS1 := hide ((HI.out.addRS 2 a b (by omega) Go.Proofs.YtngopilbpiplhaaGreatDoor.w2 (by decide +kernel) (by decide +kernel) (by omega) (by omega) (steps_add input a b 8 (by omega) (by omega) n c out)).addRS 1 7 b (by omega) Go.Proofs.YtngopilbpiplhaaGreatDoor.w1 (by decide +kernel) (by decide +kernel) (by omega) (by omega) (steps_mov input 7 b 8 (by omega) (by omega) _ c out))
              generalize hn1 : upd n a (wrap64 (n a + n b)) = n1 at *
              clear hn1
              have fb := HSW.out.n b (by omega)
              go_wp2_with (refine wpList_storeN rfl (.tmp 127) (.tmp 126) rfl w1.heap.size 8 7 n1 _ _ rfl rfl HSW.out.N (by omega) ?_)
              intro w9 hN9 hk9 hs9
              try rw [wrap_eq] at hN9
              have hsw9 : SW raw rb ro w1 w9 (upd n1 7 (n1 b)) c := by exact HSW.out.setN hN9 hk9
              clear HSW
              have HSW := hide hsw9
              clear hsw9
              clear hN9 hk9
              clear fb
              go_wp2
              refine ⟨?_, ?measure⟩
              iterate 277 (apply Exists.intro)
              refine ⟨?rel, rfl⟩
              case rel =>
                refine ⟨i + 3, k + 2, _, out, upd n1 7 (n1 b), c, by omega, by omega, by go_num, by go_num, ?_, rfl, by omega, by omega, HS1.out, by (try simp only [List.length_append, List.length_cons, List.length_nil]); omega, hrn1.upd _ (hrn1 b).1 (hrn1 b).2, hrc, HSW.out.N, HSW.out.C, HSW.out.B⟩
                exact congrArg Value.string (ByteArray.ext (by simp [ByteArray.data_append, reg7, itoa7m, wName, HRA.out, HRB.out]))
              case measure => simp [intOf]; omega
          | 1, _ =>
            as_aux_lemma =>
              go_wp2_with fail
              refine wp_region_still_tail 9 mixed (by kernel_rfl) ?_
              simp only [List.take_succ_cons, List.take_zero, List.drop_succ_cons, List.drop_zero]
              generalize hWW : ({ w6 with drawn := _ } : World) = W7
              have hsw7 : SW raw rb ro w1 W7 n c := by rw [← hWW]; exact HSW.out.drew
              clear HSW
              have HSW := hide hsw7
              clear hsw7
              clear hWW
              have fa := HSW.out.n a (by omega)
              have fb := HSW.out.n b (by omega)
              repeat still_step
              refine wpStill_nil ?_
              clear fa fb
              refine wpList_storeN rfl (.tmp 138) (.tmp 137) rfl w1.heap.size 8 a n _ _ rfl rfl HSW.out.N (by omega) ?_
              intro w8 hN8 hk8 hs8
              try rw [wrap_eq] at hN8
              have hsw8 : SW raw rb ro w1 w8 (upd n a (wrap64 (n a - n b))) c := by exact HSW.out.setN hN8 hk8
              clear HSW
              have HSW := hide hsw8
              clear hsw8
              clear hN8 hk8
              have hrn1 : Rng (upd n a (wrap64 (n a - n b))) := hrn.upd _ (wrap64_range _).1 (wrap64_range _).2
              have HS1 := hide ((HI.out.addRS 3 a b (by omega) Go.Proofs.YtngopilbpiplhaaGreatDoor.w3 (by decide +kernel) (by decide +kernel) (by omega) (by omega) (steps_sub input a b 8 (by omega) (by omega) n c out)).addRS 1 7 a (by omega) Go.Proofs.YtngopilbpiplhaaGreatDoor.w1 (by decide +kernel) (by decide +kernel) (by omega) (by omega) (steps_mov input 7 a 8 (by omega) (by omega) _ c out))
              generalize hn1 : upd n a (wrap64 (n a - n b)) = n1 at *
              clear hn1
              have fa := HSW.out.n a (by omega)
              go_wp2_with (refine wpList_storeN rfl (.tmp 153) (.tmp 152) rfl w1.heap.size 8 7 n1 _ _ rfl rfl HSW.out.N (by omega) ?_)
              intro w9 hN9 hk9 hs9
              try rw [wrap_eq] at hN9
              have hsw9 : SW raw rb ro w1 w9 (upd n1 7 (n1 a)) c := by exact HSW.out.setN hN9 hk9
              clear HSW
              have HSW := hide hsw9
              clear hsw9
              clear hN9 hk9
              clear fa
              go_wp2
              refine ⟨?_, ?measure⟩
              iterate 277 (apply Exists.intro)
              refine ⟨?rel, rfl⟩
              case rel =>
                refine ⟨i + 3, k + 2, _, out, upd n1 7 (n1 a), c, by omega, by omega, by go_num, by go_num, ?_, rfl, by omega, by omega, HS1.out, by (try simp only [List.length_append, List.length_cons, List.length_nil]); omega, hrn1.upd _ (hrn1 a).1 (hrn1 a).2, hrc, HSW.out.N, HSW.out.C, HSW.out.B⟩
                exact congrArg Value.string (ByteArray.ext (by simp [ByteArray.data_append, reg7, itoa7m, wName, HRA.out, HRB.out]))
              case measure => simp [intOf]; omega
          | 2, _ =>
            as_aux_lemma =>
              go_wp2_with fail
              refine wp_region_still_tail 9 mixed (by kernel_rfl) ?_
              simp only [List.take_succ_cons, List.take_zero, List.drop_succ_cons, List.drop_zero]
              generalize hWW : ({ w6 with drawn := _ } : World) = W7
              have hsw7 : SW raw rb ro w1 W7 n c := by rw [← hWW]; exact HSW.out.drew
              clear HSW
              have HSW := hide hsw7
              clear hsw7
              clear hWW
              have fa := HSW.out.n a (by omega)
              have fb := HSW.out.n b (by omega)
              repeat still_step
              refine wpStill_nil ?_
              clear fa fb
              refine wpList_storeN rfl (.tmp 164) (.tmp 163) rfl w1.heap.size 8 a n _ _ rfl rfl HSW.out.N (by omega) ?_
              intro w8 hN8 hk8 hs8
              try rw [wrap_eq] at hN8
              have hsw8 : SW raw rb ro w1 w8 (upd n a (wrap64 (n a * n b))) c := by exact HSW.out.setN hN8 hk8
              clear HSW
              have HSW := hide hsw8
              clear hsw8
              clear hN8 hk8
              have hrn1 : Rng (upd n a (wrap64 (n a * n b))) := hrn.upd _ (wrap64_range _).1 (wrap64_range _).2
              have HS1 := hide ((HI.out.addRS 4 a b (by omega) Go.Proofs.YtngopilbpiplhaaGreatDoor.w4 (by decide +kernel) (by decide +kernel) (by omega) (by omega) (steps_mul input a b 8 (by omega) (by omega) n c out)).addRS 5 7 a (by omega) Go.Proofs.YtngopilbpiplhaaGreatDoor.w5 (by decide +kernel) (by decide +kernel) (by omega) (by omega) (steps_and input 7 a 8 (by omega) (by omega) _ c out))
              generalize hn1 : upd n a (wrap64 (n a * n b)) = n1 at *
              clear hn1
              go_wp2_with fail
              refine wp_region_still_tail 7 mixed (by kernel_rfl) ?_
              simp only [List.take_succ_cons, List.take_zero, List.drop_succ_cons, List.drop_zero]
              generalize hWW : ({ w8 with drawn := _ } : World) = W9
              have hsw9 : SW raw rb ro w1 W9 n1 c := by rw [← hWW]; exact HSW.out.drew
              clear HSW
              have HSW := hide hsw9
              clear hsw9
              clear hWW
              have fa := HSW.out.n a (by omega)
              have f7 := HSW.out.n 7 (by omega)
              repeat still_step
              refine wpStill_nil ?_
              clear fa f7
              refine wpList_storeN rfl (.tmp 182) (.tmp 181) rfl w1.heap.size 8 7 n1 _ _ rfl rfl HSW.out.N (by omega) ?_
              intro w10 hN10 hk10 hs10
              try rw [wrap_eq] at hN10
              have hsw10 : SW raw rb ro w1 w10 (upd n1 7 (bits BinOp.and IntKind.i64 (n1 7) (n1 a))) c := by exact HSW.out.setN hN10 hk10
              clear HSW
              have HSW := hide hsw10
              clear hsw10
              clear hN10 hk10
              go_wp2
              refine ⟨?_, ?measure⟩
              iterate 277 (apply Exists.intro)
              refine ⟨?rel, rfl⟩
              case rel =>
                refine ⟨i + 3, k + 2, _, out, upd n1 7 (bits BinOp.and IntKind.i64 (n1 7) (n1 a)), c, by omega, by omega, by go_num, by go_num, ?_, rfl, by omega, by omega, HS1.out, by (try simp only [List.length_append, List.length_cons, List.length_nil]); omega, hrn1.upd _ (bits_range _ _).1 (bits_range _ _).2, hrc, HSW.out.N, HSW.out.C, HSW.out.B⟩
                exact congrArg Value.string (ByteArray.ext (by simp [ByteArray.data_append, reg7, itoa7m, wName, HRA.out, HRB.out]))
              case measure => simp [intOf]; omega
          | 3, _ =>
            as_aux_lemma =>
              go_wp2_with (refine wpList_storeN rfl (.tmp 185) (.const (.int .i64 (-7))) rfl w1.heap.size 8 7 n _ _ rfl rfl HSW.out.N (by omega) ?_)
              intro w7 hN7 hk7 hs7
              try rw [wrap_eq] at hN7
              have hsw7 : SW raw rb ro w1 w7 (upd n 7 (-7)) c := by exact HSW.out.setN hN7 hk7
              clear HSW
              have HSW := hide hsw7
              clear hsw7
              clear hN7 hk7
              have hrn1 : Rng (upd n 7 (-7)) := hrn.upd _ (by omega) (by omega)
              have h7 : upd n 7 (-7) 7 = -7 := upd_at _ _ _
              have HS1 := hide ((HI.out.addSet 7 (-7) (by omega) (by omega) (by omega)).addRS 6 a 7 (by omega) Go.Proofs.YtngopilbpiplhaaGreatDoor.w6 (by decide +kernel) (by decide +kernel) (by omega) (by omega) (steps_div input a 7 8 (by omega) (by omega) _ c out (by rw [h7]; decide)))
              generalize hn1 : upd n 7 (-7) = n1 at *
              clear hn1
              go_wp2_with fail
              refine wp_region_still_tail 8 mixed (by kernel_rfl) ?_
              simp only [List.take_succ_cons, List.take_zero, List.drop_succ_cons, List.drop_zero]
              generalize hWW : ({ w7 with drawn := _ } : World) = W8
              have hsw8 : SW raw rb ro w1 W8 n1 c := by rw [← hWW]; exact HSW.out.drew
              clear HSW
              have HSW := hide hsw8
              clear hsw8
              clear hWW
              have fa := HSW.out.n a (by omega)
              have f7 := HSW.out.n 7 (by omega)
              rw [h7] at f7
              repeat still_step
              refine wpStill_nil ?_
              clear fa f7
              refine wpList_storeN rfl (.tmp 193) (.tmp 192) rfl w1.heap.size 8 a n1 _ _ rfl rfl HSW.out.N (by omega) ?_
              intro w9 hN9 hk9 hs9
              try rw [wrap_eq] at hN9
              have hsw9 : SW raw rb ro w1 w9 (upd n1 a (wrap64 ((n1 a).tdiv (n1 7)))) c := by rw [h7, Int.tdiv_neg]; exact HSW.out.setN hN9 hk9
              clear HSW
              have HSW := hide hsw9
              clear hsw9
              clear hN9 hk9
              go_wp2
              refine ⟨?_, ?measure⟩
              iterate 277 (apply Exists.intro)
              refine ⟨?rel, rfl⟩
              case rel =>
                refine ⟨i + 3, k + 2, _, out, upd n1 a (wrap64 ((n1 a).tdiv (n1 7))), c, by omega, by omega, by go_num, by go_num, ?_, rfl, by omega, by omega, HS1.out, by (try simp only [List.length_append, List.length_cons, List.length_nil]); omega, hrn1.upd _ (wrap64_range _).1 (wrap64_range _).2, hrc, HSW.out.N, HSW.out.C, HSW.out.B⟩
                exact congrArg Value.string (ByteArray.ext (by simp [ByteArray.data_append, reg7, itoa7m, wName, HRA.out, HRB.out]))
              case measure => simp [intOf]; omega
          | 4, _ =>
            as_aux_lemma =>
              obtain ⟨p, hp, hpe⟩ := pick_nat (rawAt raw (i + 2)) 64 (by omega)
              have HPE := hide hpe
              have hpI : (p : Int) < 64 := by omega
              clear hpe
              have hr2 := HSW.out.raw (i + 2) (by omega)
              go_wp2_with fail
              refine (pick_any _ 64 _ (HRG.out _).1 (HRG.out _).2 (by omega) (by omega)).mono ?_
              rintro e w7 ⟨rfl, rfl⟩
              rw [show pickF (rawAt raw (i + 2)) 64 = (p : Int) from HPE.out]
              clear hr2
              go_wp2_with (refine wpList_storeN rfl (.tmp 207) (.tmp 206) rfl w1.heap.size 8 7 n _ _ rfl rfl HSW.out.N (by omega) ?_)
              intro w8 hN8 hk8 hs8
              try rw [wrap_eq] at hN8
              have hsw8 : SW raw rb ro w1 w8 (upd n 7 (p : Int)) c := by exact HSW.out.setN hN8 hk8
              clear HSW
              have HSW := hide hsw8
              clear hsw8
              clear hN8 hk8
              have hrn1 : Rng (upd n 7 (p : Int)) := hrn.upd _ (by omega) (by omega)
              have h7 : upd n 7 (p : Int) 7 = p := upd_at _ _ _
              have HS0 := hide ((HI.out.addSet 7 (p : Int) (by omega) (by omega) (by omega)).addRS 7 a 7 (by omega) Go.Proofs.YtngopilbpiplhaaGreatDoor.w7 (by decide +kernel) (by decide +kernel) (by omega) (by omega) (steps_in input a 7 8 (by omega) (by omega) _ c out p (by omega) h7))
              generalize hn1 : upd n 7 (p : Int) = n1 at *
              clear hn1
              go_wp2_with (refine wpList_storeN rfl (.tmp 209) (.const (.int .i64 0)) rfl w1.heap.size 8 a n1 _ _ rfl rfl HSW.out.N (by omega) ?_)
              intro w9 hN9 hk9 hs9
              try rw [wrap_eq] at hN9
              have hsw9 : SW raw rb ro w1 w9 (upd n1 a 0) c := by exact HSW.out.setN hN9 hk9
              clear HSW
              have HSW := hide hsw9
              clear hsw9
              clear hN9 hk9
              have hr2 := HSW.out.raw (i + 2) (by omega)
              go_wp2_with fail
              refine (pick_any _ 64 _ (HRG.out _).1 (HRG.out _).2 (by omega) (by omega)).mono ?_
              rintro e w10 ⟨rfl, rfl⟩
              rw [show pickF (rawAt raw (i + 2)) 64 = (p : Int) from HPE.out]
              clear hr2
              by_cases hpi : p < input.length
              · have hpi' : (p : Int) < (input.length : Int) := by omega
                have hr2 := HSW.out.raw (i + 2) (by omega)
                go_wp2_with fail
                refine (pick_any _ 64 _ (HRG.out _).1 (HRG.out _).2 (by omega) (by omega)).mono ?_
                rintro e w11 ⟨rfl, rfl⟩
                rw [show pickF (rawAt raw (i + 2)) 64 = (p : Int) from HPE.out]
                clear hr2
                go_wp2_with (refine wpList_storeN rfl (.tmp 229) (.tmp 228) rfl w1.heap.size 8 a (upd n1 a 0) _ _ rfl rfl HSW.out.N (by omega) ?_)
                intro w12 hN12 hk12 hs12
                skip
                have hsw12 : SW raw rb ro w1 w12 (upd n1 a (inputOf input p : Int)) c := by refine HSW.out.setN (hN12.trans ?_) hk12; rw [upd_upd]; exact congrArg (fun v => some (Obj.cells (arrC 8 (upd n1 a v)) 24)) (wrap_in input p _)
                clear HSW
                have HSW := hide hsw12
                clear hsw12
                clear hN12 hk12
                have HS1 := HS0
                clear HS0
                have h7' : upd n1 a (inputOf input p : Int) 7 = p := (upd_off n1 (by omega) _).trans h7
                have f7 := HSW.out.n 7 (by omega)
                rw [h7'] at f7
                go_wp2_with fail
                refine (decimal_any _ (by omega) (by omega) _).mono ?_
                rintro e w20 ⟨rfl, hb20⟩
                have hl20 := itoa_len ((p : Int)) (by omega) (by omega)
                have hsw20 : SW raw rb ro w1 w20 (upd n1 a (inputOf input p : Int)) c := HSW.out.below hb20
                clear HSW
                have HSW := hide hsw20
                clear hsw20
                clear hb20
                generalize hE20 : Lib.itoa ((p : Int)) = PP at *
                have HEPP := hide hE20
                clear hE20
                clear f7
                go_wp2
                refine ⟨?_, ?measure⟩
                iterate 277 (apply Exists.intro)
                refine ⟨?rel, rfl⟩
                case rel =>
                  refine ⟨i + 3, k + 2, _, out, upd n1 a (inputOf input p : Int), c, by omega, by omega, by go_num, by go_num, ?_, rfl, by omega, by omega, HS1.out, by (try simp only [List.length_append, List.length_cons, List.length_nil]); omega, hrn1.upd _ (inputOf_range input p).1 (inputOf_range input p).2, hrc, HSW.out.N, HSW.out.C, HSW.out.B⟩
                  exact congrArg Value.string (ByteArray.ext (by simp [ByteArray.data_append, reg7, itoa7m, wName, HRA.out, HRB.out, HEPP.out]))
                case measure => simp [intOf]; omega
              · have hpi' : ¬ (p : Int) < (input.length : Int) := by omega
                have e0 : (inputOf input p : Int) = 0 := by simp [inputOf, List.getD_eq_getElem?_getD, List.getElem?_eq_none (show input.length ≤ p by omega)]
                have HS1 := hide HS0.out
                rw [e0] at HS1
                clear HS0
                have h7' : upd n1 a 0 7 = p := (upd_off n1 (by omega) _).trans h7
                have f7 := HSW.out.n 7 (by omega)
                rw [h7'] at f7
                go_wp2_with fail
                refine (decimal_any _ (by omega) (by omega) _).mono ?_
                rintro e w20 ⟨rfl, hb20⟩
                have hl20 := itoa_len ((p : Int)) (by omega) (by omega)
                have hsw20 : SW raw rb ro w1 w20 (upd n1 a 0) c := HSW.out.below hb20
                clear HSW
                have HSW := hide hsw20
                clear hsw20
                clear hb20
                generalize hE20 : Lib.itoa ((p : Int)) = PP at *
                have HEPP := hide hE20
                clear hE20
                clear f7
                go_wp2
                refine ⟨?_, ?measure⟩
                iterate 277 (apply Exists.intro)
                refine ⟨?rel, rfl⟩
                case rel =>
                  refine ⟨i + 3, k + 2, _, out, upd n1 a 0, c, by omega, by omega, by go_num, by go_num, ?_, rfl, by omega, by omega, HS1.out, by (try simp only [List.length_append, List.length_cons, List.length_nil]); omega, hrn1.upd _ (by omega) (by omega), hrc, HSW.out.N, HSW.out.C, HSW.out.B⟩
                  exact congrArg Value.string (ByteArray.ext (by simp [ByteArray.data_append, reg7, itoa7m, wName, HRA.out, HRB.out, HEPP.out]))
                case measure => simp [intOf]; omega
          | 5, _ =>
            as_aux_lemma =>
              obtain ⟨p, hp, hpe⟩ := pick_nat (rawAt raw (i + 2)) 16 (by omega)
              have HPE := hide hpe
              have hpI : (p : Int) < 16 := by omega
              clear hpe
              have hr2 := HSW.out.raw (i + 2) (by omega)
              go_wp2_with fail
              refine (pick_any _ 16 _ (HRG.out _).1 (HRG.out _).2 (by omega) (by omega)).mono ?_
              rintro e w7 ⟨rfl, rfl⟩
              rw [show pickF (rawAt raw (i + 2)) 16 = (p : Int) from HPE.out]
              clear hr2
              go_wp2_with (refine wpList_storeN rfl (.tmp 248) (.tmp 247) rfl w1.heap.size 8 7 n _ _ rfl rfl HSW.out.N (by omega) ?_)
              intro w8 hN8 hk8 hs8
              try rw [wrap_eq] at hN8
              have hsw8 : SW raw rb ro w1 w8 (upd n 7 (p : Int)) c := by exact HSW.out.setN hN8 hk8
              clear HSW
              have HSW := hide hsw8
              clear hsw8
              clear hN8 hk8
              have hrn1 : Rng (upd n 7 (p : Int)) := hrn.upd _ (by omega) (by omega)
              have h7 : upd n 7 (p : Int) 7 = p := upd_at _ _ _
              have HS1 := hide ((HI.out.addSet 7 (p : Int) (by omega) (by omega) (by omega)).addRS 9 7 a (by omega) Go.Proofs.YtngopilbpiplhaaGreatDoor.w9 (by decide +kernel) (by decide +kernel) (by omega) (by omega) (steps_put input 7 a 8 (by omega) (by omega) _ c out p (by omega) h7))
              generalize hn1 : upd n 7 (p : Int) = n1 at *
              clear hn1
              go_wp2_with fail
              refine wp_region_still_tail 10 mixed (by kernel_rfl) ?_
              simp only [List.take_succ_cons, List.take_zero, List.drop_succ_cons, List.drop_zero]
              generalize hWW : ({ w8 with drawn := _ } : World) = W9
              have hsw9 : SW raw rb ro w1 W9 n1 c := by rw [← hWW]; exact HSW.out.drew
              clear HSW
              have HSW := hide hsw9
              clear hsw9
              clear hWW
              have fa := HSW.out.n a (by omega)
              have hr2 := HSW.out.raw (i + 2) (by omega)
              have hi2 : (0 : Int) ≤ (i : Int) + 2 := by omega
              have hi2t : ((i : Int) + 2).toNat = i + 2 := by omega
              have hi2v : IntKind.i64.wrap ((i : Int) + 2) = (i : Int) + 2 := by rw [wrap_eq]; unfold wrap64; omega
              repeat still_step
              still_call (pick_any (rawAt raw (i + 2)) 16 _ (HRG.out (i + 2)).1 (HRG.out (i + 2)).2 (by omega) (by omega))
              rw [show pickF (rawAt raw (i + 2)) 16 = (p : Int) from HPE.out]
              repeat still_step
              refine wpStill_nil ?_
              clear fa hr2 hi2 hi2t hi2v
              refine wpList_storeN rfl (.tmp 258) (.tmp 257) rfl (w1.heap.size + 1) 16 p c _ _ rfl rfl HSW.out.C (by omega) ?_
              intro w10 hN10 hk10 hs10
              try rw [wrap_eq] at hN10
              have hsw10 : SW raw rb ro w1 w10 n1 (upd c p (n1 a)) := by exact HSW.out.setC hN10 hk10
              clear HSW
              have HSW := hide hsw10
              clear hsw10
              clear hN10 hk10
              have f7 := HSW.out.n 7 (by omega)
              rw [h7] at f7
              go_wp2_with fail
              refine (decimal_any _ (by omega) (by omega) _).mono ?_
              rintro e w20 ⟨rfl, hb20⟩
              have hl20 := itoa_len ((p : Int)) (by omega) (by omega)
              have hsw20 : SW raw rb ro w1 w20 n1 (upd c p (n1 a)) := HSW.out.below hb20
              clear HSW
              have HSW := hide hsw20
              clear hsw20
              clear hb20
              generalize hE20 : Lib.itoa ((p : Int)) = PP at *
              have HEPP := hide hE20
              clear hE20
              clear f7
              go_wp2
              refine ⟨?_, ?measure⟩
              iterate 277 (apply Exists.intro)
              refine ⟨?rel, rfl⟩
              case rel =>
                refine ⟨i + 3, k + 2, _, out, n1, upd c p (n1 a), by omega, by omega, by go_num, by go_num, ?_, rfl, by omega, by omega, HS1.out, by (try simp only [List.length_append, List.length_cons, List.length_nil]); omega, hrn1, hrc.upd _ (hrn1 a).1 (hrn1 a).2, HSW.out.N, HSW.out.C, HSW.out.B⟩
                exact congrArg Value.string (ByteArray.ext (by simp [ByteArray.data_append, reg7, itoa7m, wName, HRA.out, HRB.out, HEPP.out]))
              case measure => simp [intOf]; omega
          | 6, _ =>
            as_aux_lemma =>
              obtain ⟨p, hp, hpe⟩ := pick_nat (rawAt raw (i + 2)) 16 (by omega)
              have HPE := hide hpe
              have hpI : (p : Int) < 16 := by omega
              clear hpe
              have hr2 := HSW.out.raw (i + 2) (by omega)
              go_wp2_with fail
              refine (pick_any _ 16 _ (HRG.out _).1 (HRG.out _).2 (by omega) (by omega)).mono ?_
              rintro e w7 ⟨rfl, rfl⟩
              rw [show pickF (rawAt raw (i + 2)) 16 = (p : Int) from HPE.out]
              clear hr2
              go_wp2_with (refine wpList_storeN rfl (.tmp 277) (.tmp 276) rfl w1.heap.size 8 7 n _ _ rfl rfl HSW.out.N (by omega) ?_)
              intro w8 hN8 hk8 hs8
              try rw [wrap_eq] at hN8
              have hsw8 : SW raw rb ro w1 w8 (upd n 7 (p : Int)) c := by exact HSW.out.setN hN8 hk8
              clear HSW
              have HSW := hide hsw8
              clear hsw8
              clear hN8 hk8
              have hrn1 : Rng (upd n 7 (p : Int)) := hrn.upd _ (by omega) (by omega)
              have h7 : upd n 7 (p : Int) 7 = p := upd_at _ _ _
              have HS1 := hide ((HI.out.addSet 7 (p : Int) (by omega) (by omega) (by omega)).addRS 8 a 7 (by omega) Go.Proofs.YtngopilbpiplhaaGreatDoor.w8 (by decide +kernel) (by decide +kernel) (by omega) (by omega) (steps_get input a 7 8 (by omega) (by omega) _ c out p (by omega) h7))
              generalize hn1 : upd n 7 (p : Int) = n1 at *
              clear hn1
              have hr2 := HSW.out.raw (i + 2) (by omega)
              go_wp2_with fail
              refine (pick_any _ 16 _ (HRG.out _).1 (HRG.out _).2 (by omega) (by omega)).mono ?_
              rintro e w9 ⟨rfl, rfl⟩
              rw [show pickF (rawAt raw (i + 2)) 16 = (p : Int) from HPE.out]
              clear hr2
              have fc := HSW.out.c p (by omega)
              go_wp2_with (refine wpList_storeN rfl (.tmp 287) (.tmp 286) rfl w1.heap.size 8 a n1 _ _ rfl rfl HSW.out.N (by omega) ?_)
              intro w10 hN10 hk10 hs10
              try rw [wrap_eq] at hN10
              have hsw10 : SW raw rb ro w1 w10 (upd n1 a (c p)) c := by exact HSW.out.setN hN10 hk10
              clear HSW
              have HSW := hide hsw10
              clear hsw10
              clear hN10 hk10
              clear fc
              have h7' : upd n1 a (c p) 7 = p := (upd_off n1 (by omega) _).trans h7
              have f7 := HSW.out.n 7 (by omega)
              rw [h7'] at f7
              go_wp2_with fail
              refine (decimal_any _ (by omega) (by omega) _).mono ?_
              rintro e w20 ⟨rfl, hb20⟩
              have hl20 := itoa_len ((p : Int)) (by omega) (by omega)
              have hsw20 : SW raw rb ro w1 w20 (upd n1 a (c p)) c := HSW.out.below hb20
              clear HSW
              have HSW := hide hsw20
              clear hsw20
              clear hb20
              generalize hE20 : Lib.itoa ((p : Int)) = PP at *
              have HEPP := hide hE20
              clear hE20
              clear f7
              go_wp2
              refine ⟨?_, ?measure⟩
              iterate 277 (apply Exists.intro)
              refine ⟨?rel, rfl⟩
              case rel =>
                refine ⟨i + 3, k + 2, _, out, upd n1 a (c p), c, by omega, by omega, by go_num, by go_num, ?_, rfl, by omega, by omega, HS1.out, by (try simp only [List.length_append, List.length_cons, List.length_nil]); omega, hrn1.upd _ (hrc p).1 (hrc p).2, hrc, HSW.out.N, HSW.out.C, HSW.out.B⟩
                exact congrArg Value.string (ByteArray.ext (by simp [ByteArray.data_append, reg7, itoa7m, wName, HRA.out, HRB.out, HEPP.out]))
              case measure => simp [intOf]; omega
          | 7, _ =>
            as_aux_lemma =>
              have fa := HSW.out.n a (by omega)
              go_wp2_with (refine wpList_storeN rfl (.tmp 303) (.tmp 302) rfl w1.heap.size 8 7 n _ _ rfl rfl HSW.out.N (by omega) ?_)
              intro w7 hN7 hk7 hs7
              try rw [wrap_eq] at hN7
              have hsw7 : SW raw rb ro w1 w7 (upd n 7 (n a)) c := by exact HSW.out.setN hN7 hk7
              clear HSW
              have HSW := hide hsw7
              clear hsw7
              clear hN7 hk7
              clear fa
              have hrn1 : Rng (upd n 7 (n a)) := hrn.upd _ (hrn a).1 (hrn a).2
              have h7 : upd n 7 (n a) 7 = n a := upd_at _ _ _
              have h7a : upd n 7 (n a) a = n a := upd_off _ (by omega) _
              have HS0 := hide ((HI.out.addRS 1 7 a (by omega) Go.Proofs.YtngopilbpiplhaaGreatDoor.w1 (by decide +kernel) (by decide +kernel) (by omega) (by omega) (steps_mov input 7 a 8 (by omega) (by omega) n c out)).addOut 7 (by omega))
              generalize hn1 : upd n 7 (n a) = n1 at *
              clear hn1
              have fa := HSW.out.n a (by omega)
              rw [h7a] at fa
              have hol' : out.length ≤ 1900 := by omega
              obtain ⟨hna0, hna1⟩ := hrn a
              by_cases ho : out = []
              · subst ho
                have HS1 := HS0
                rw [h7, show putF [] (n a) = Lib.itoa (n a) from rfl] at HS1
                clear HS0
                go_wp2_with fail
                refine (decimal_any _ (hna0) (hna1) _).mono ?_
                rintro e w8 ⟨rfl, hb8⟩
                have hl8 := itoa_len (n a) (hna0) (hna1)
                have hsw8 : SW raw rb ro w1 w8 n1 c := HSW.out.below hb8
                clear HSW
                have HSW := hide hsw8
                clear hsw8
                clear hb8
                generalize hE8 : Lib.itoa (n a) = PP at *
                have HEPP := hide hE8
                clear hE8
                clear fa
                go_wp2
                refine ⟨?_, ?measure⟩
                iterate 277 (apply Exists.intro)
                refine ⟨?rel, rfl⟩
                case rel =>
                  refine ⟨i + 3, k + 2, _, PP, n1, c, by omega, by omega, by go_num, by go_num, ?_, rfl, by omega, by omega, HS1.out, by (try simp only [List.length_append, List.length_cons, List.length_nil]); omega, hrn1, hrc, HSW.out.N, HSW.out.C, HSW.out.B⟩
                  exact congrArg Value.string (ByteArray.ext (by simp [ByteArray.data_append, reg7, itoa7m, wName, HRA.out, HRB.out]))
                case measure => simp [intOf]; omega
              · have hob : out.isEmpty = false := by simpa using ho
                have HS1 := HS0
                rw [h7, show putF out (n a) = out ++ [32] ++ Lib.itoa (n a) from if_neg ho] at HS1
                clear HS0
                go_wp2_with fail
                refine (decimal_any _ (hna0) (hna1) _).mono ?_
                rintro e w8 ⟨rfl, hb8⟩
                have hl8 := itoa_len (n a) (hna0) (hna1)
                have hsw8 : SW raw rb ro w1 w8 n1 c := HSW.out.below hb8
                clear HSW
                have HSW := hide hsw8
                clear hsw8
                clear hb8
                generalize hE8 : Lib.itoa (n a) = PP at *
                have HEPP := hide hE8
                clear hE8
                clear fa
                go_wp2
                refine ⟨?_, ?measure⟩
                iterate 277 (apply Exists.intro)
                refine ⟨?rel, rfl⟩
                case rel =>
                  refine ⟨i + 3, k + 2, _, out ++ [32] ++ PP, n1, c, by omega, by omega, by go_num, by go_num, ?_, congrArg Value.string (ByteArray.ext (by simp [ByteArray.data_append])), by omega, by omega, HS1.out, by (try simp only [List.length_append, List.length_cons, List.length_nil]); omega, hrn1, hrc, HSW.out.N, HSW.out.C, HSW.out.B⟩
                  exact congrArg Value.string (ByteArray.ext (by simp [ByteArray.data_append, reg7, itoa7m, wName, HRA.out, HRB.out]))
                case measure => simp [intOf]; omega
          | 8, _ =>
            as_aux_lemma =>
              have fb := HSW.out.n b (by omega)
              go_wp2_with (refine wpList_storeN rfl (.tmp 89) (.tmp 88) rfl w1.heap.size 8 7 n _ _ rfl rfl HSW.out.N (by omega) ?_)
              intro w7 hN7 hk7 hs7
              try rw [wrap_eq] at hN7
              have hsw7 : SW raw rb ro w1 w7 (upd n 7 (n b)) c := by exact HSW.out.setN hN7 hk7
              clear HSW
              have HSW := hide hsw7
              clear hsw7
              clear hN7 hk7
              clear fb
              have hrn1 : Rng (upd n 7 (n b)) := hrn.upd _ (hrn b).1 (hrn b).2
              have HS1 := hide ((HI.out.addRS 1 7 b (by omega) Go.Proofs.YtngopilbpiplhaaGreatDoor.w1 (by decide +kernel) (by decide +kernel) (by omega) (by omega) (steps_mov input 7 b 8 (by omega) (by omega) n c out)).addJeq 7 b (by omega) (by omega) (by omega))
              rw [show ((k + 1 + 1 : Nat) : Int) = (k : Int) + 2 by omega] at HS1
              generalize hn1 : upd n 7 (n b) = n1 at *
              clear hn1
              go_wp2_with fail
              refine (decimal_any _ (by omega) (by omega) _).mono ?_
              rintro e w8 ⟨rfl, hb8⟩
              have hl8 := itoa_len ((k : Int) + 2) (by omega) (by omega)
              have hsw8 : SW raw rb ro w1 w8 n1 c := HSW.out.below hb8
              clear HSW
              have HSW := hide hsw8
              clear hsw8
              clear hb8
              generalize hE8 : Lib.itoa ((k : Int) + 2) = PP at *
              have HEPP := hide hE8
              clear hE8
              go_wp2
              refine ⟨?_, ?measure⟩
              iterate 277 (apply Exists.intro)
              refine ⟨?rel, rfl⟩
              case rel =>
                refine ⟨i + 3, k + 2, _, out, n1, c, by omega, by omega, by go_num, by go_num, ?_, rfl, by omega, by omega, HS1.out, by (try simp only [List.length_append, List.length_cons, List.length_nil]); omega, hrn1, hrc, HSW.out.N, HSW.out.C, HSW.out.B⟩
                exact congrArg Value.string (ByteArray.ext (by simp [ByteArray.data_append, reg7, itoa7m, wName, HRA.out, HRB.out]))
              case measure => simp [intOf]; omega
          | d + 9, h => exact absurd h (by omega)
        · have HF := hide (HI.out.fin hk90)
          have hb0r : Below w.heap.size w wr := hb1.trans (hbr.mono hb1.size)
          have hgI : ¬ ((i : Int) + 2 < (raw.length : Int)) ∨ ((i : Int) + 2 < (raw.length : Int) ∧ ¬ ((k : Int) < 90)) := by omega
          rcases hgI with hg1 | ⟨hg1, hg2⟩
          · as_aux_lemma =>
              go_wp2_with fail
              have HR : Calls Tryz.prog 14 #[.string ((⟨T.toArray⟩ : ByteArray) ++ ⟨#[101, 110, 100, 32, 114, 48]⟩), .string ⟨input.toArray⟩, .int .i64 3000] wr fun e w' => e = .returned (.tuple #[.agg (stCells (runOf (progF (T ++ endT)) input 3000).1 (runOf (progF (T ++ endT)) input 3000).2), .int .i64 0, .int .i64 0]) ∧ Below wr.heap.size wr w' := by
                rw [end_text]
                exact wRun_any (T ++ endT) input 3000 wr (Nat.le_trans HF.out.short (by omega)) (by omega) HF.out.good HF.out.ok (by rw [HF.out.len]; omega) (by rw [HF.out.len]; omega) (HG.out.below hb0r hg8) (HP.out.mono (hb0r.block _ (by omega)))
              refine HR.mono ?_
              clear HR
              rintro e w7 ⟨rfl, hb7⟩
              have hst := HF.out.st
              generalize stCells (runOf (progF (T ++ endT)) input 3000).1 (runOf (progF (T ++ endT)) input 3000).2 = SC at *
              have HST := hide hst
              clear hst HF
              have hs7 := hb7.size
              have hN7 := (hb7.block _ hltN).trans HN.out
              have HN7 := hide hN7
              clear hN7
              go_wp2_with (refine wpList_storeRow rfl (.tmp 18) (.tmp 324) rfl w7.heap.size SC _ _ rfl rfl (blk_new w7 _) HST.out.size rfl HST.out.one ?_)
              intro w8 hS8 hk8 hs8
              try rw [World.size_alloc] at hs8
              have hN8 := ((hk8 w7.heap.size).block w1.heap.size (by omega) (by omega)).trans (blk_alloc HN7.out _)
              have hb8 : Below w1.heap.size w1 w8 := hbr.trans ((hb7.mono (by omega)).trans (((Below.refl _ _).alloc (by omega) _).trans ((hk8 w1.heap.size).below (by omega))))
              have c0 := (cell_of_blk hS8 0).trans HST.out.how
              have c1 := (cell_of_blk hS8 1).trans HST.out.line
              have c2 := (cell_of_blk hS8 2).trans HST.out.why
              have c3 := (cell_of_blk hS8 3).trans HST.out.value
              have c20 := (cell_of_blk hS8 20).trans HST.out.out
              have cN := (cell_of_blk hN8 0).trans (arrC_get 8 n (by omega))
              have HS8 := hide hS8
              have HN8 := hide hN8
              clear hS8 hN8 hk8 HN7
              go_wp2_with fail
              clear c0 c1 c2 c3 c20 cN
              go_loopw [21] (fun rv w' => ∃ r : Nat, r ≤ 8 ∧ rv = .int .i64 r ∧ Below w8.heap.size w8 w') (fun rv _ => 8 - (intOf rv).toNat)
              case atStart => exact ⟨0, by omega, rfl, Below.refl _ _⟩
              case round =>
                obtain ⟨r, hr9, rfl, hbL⟩ := hrel
                by_cases hlt : r < 8
                · go_wp2_with fail
                  refine wp_region_still_lit mixed (by kernel_rfl) ?_
                  generalize hWW : ({ wr with drawn := _ } : World) = W9
                  have hb9 : Below w8.heap.size w8 W9 := by rw [← hWW]; exact hbL.trans (Below.refl _ _).drew
                  clear hWW hbL
                  have s0 := (hb9.cell (p := ⟨w7.heap.size, 4 + r * 2, none⟩) (by show w7.heap.size < _; omega)).trans ((cell_of_blk HS8.out _).trans (HST.out.set r hlt))
                  have s1 := (hb9.cell (p := ⟨w7.heap.size, 4 + r * 2 + 1, none⟩) (by show w7.heap.size < _; omega)).trans ((cell_of_blk HS8.out _).trans (HST.out.num r hlt))
                  have sN := (hb9.cell (p := ⟨w1.heap.size, r, none⟩) (by show w1.heap.size < _; omega)).trans ((cell_of_blk HN8.out r).trans (arrC_get 8 n hlt))
                  have hltI : (r : Int) < 8 := by omega
                  repeat still_step
                  refine wpStill_nil ?_
                  go_wp2
                  go_roundw
                  case rel => exact ⟨r + 1, by omega, by go_num, hb9⟩
                  case measure => simp [intOf]; omega
                · obtain rfl : r = 8 := by omega
                  go_wp2
                  go_ret
                  exact ⟨rfl, hb1.trans ((hb8.trans (hbL.mono (by omega))).mono hb1.size)⟩
          · as_aux_lemma =>
              go_wp2_with fail
              have HR : Calls Tryz.prog 14 #[.string ((⟨T.toArray⟩ : ByteArray) ++ ⟨#[101, 110, 100, 32, 114, 48]⟩), .string ⟨input.toArray⟩, .int .i64 3000] wr fun e w' => e = .returned (.tuple #[.agg (stCells (runOf (progF (T ++ endT)) input 3000).1 (runOf (progF (T ++ endT)) input 3000).2), .int .i64 0, .int .i64 0]) ∧ Below wr.heap.size wr w' := by
                rw [end_text]
                exact wRun_any (T ++ endT) input 3000 wr (Nat.le_trans HF.out.short (by omega)) (by omega) HF.out.good HF.out.ok (by rw [HF.out.len]; omega) (by rw [HF.out.len]; omega) (HG.out.below hb0r hg8) (HP.out.mono (hb0r.block _ (by omega)))
              refine HR.mono ?_
              clear HR
              rintro e w7 ⟨rfl, hb7⟩
              have hst := HF.out.st
              generalize stCells (runOf (progF (T ++ endT)) input 3000).1 (runOf (progF (T ++ endT)) input 3000).2 = SC at *
              have HST := hide hst
              clear hst HF
              have hs7 := hb7.size
              have hN7 := (hb7.block _ hltN).trans HN.out
              have HN7 := hide hN7
              clear hN7
              go_wp2_with (refine wpList_storeRow rfl (.tmp 18) (.tmp 324) rfl w7.heap.size SC _ _ rfl rfl (blk_new w7 _) HST.out.size rfl HST.out.one ?_)
              intro w8 hS8 hk8 hs8
              try rw [World.size_alloc] at hs8
              have hN8 := ((hk8 w7.heap.size).block w1.heap.size (by omega) (by omega)).trans (blk_alloc HN7.out _)
              have hb8 : Below w1.heap.size w1 w8 := hbr.trans ((hb7.mono (by omega)).trans (((Below.refl _ _).alloc (by omega) _).trans ((hk8 w1.heap.size).below (by omega))))
              have c0 := (cell_of_blk hS8 0).trans HST.out.how
              have c1 := (cell_of_blk hS8 1).trans HST.out.line
              have c2 := (cell_of_blk hS8 2).trans HST.out.why
              have c3 := (cell_of_blk hS8 3).trans HST.out.value
              have c20 := (cell_of_blk hS8 20).trans HST.out.out
              have cN := (cell_of_blk hN8 0).trans (arrC_get 8 n (by omega))
              have HS8 := hide hS8
              have HN8 := hide hN8
              clear hS8 hN8 hk8 HN7
              go_wp2_with fail
              clear c0 c1 c2 c3 c20 cN
              go_loopw [21] (fun rv w' => ∃ r : Nat, r ≤ 8 ∧ rv = .int .i64 r ∧ Below w8.heap.size w8 w') (fun rv _ => 8 - (intOf rv).toNat)
              case atStart => exact ⟨0, by omega, rfl, Below.refl _ _⟩
              case round =>
                obtain ⟨r, hr9, rfl, hbL⟩ := hrel
                by_cases hlt : r < 8
                · go_wp2_with fail
                  refine wp_region_still_lit mixed (by kernel_rfl) ?_
                  generalize hWW : ({ wr with drawn := _ } : World) = W9
                  have hb9 : Below w8.heap.size w8 W9 := by rw [← hWW]; exact hbL.trans (Below.refl _ _).drew
                  clear hWW hbL
                  have s0 := (hb9.cell (p := ⟨w7.heap.size, 4 + r * 2, none⟩) (by show w7.heap.size < _; omega)).trans ((cell_of_blk HS8.out _).trans (HST.out.set r hlt))
                  have s1 := (hb9.cell (p := ⟨w7.heap.size, 4 + r * 2 + 1, none⟩) (by show w7.heap.size < _; omega)).trans ((cell_of_blk HS8.out _).trans (HST.out.num r hlt))
                  have sN := (hb9.cell (p := ⟨w1.heap.size, r, none⟩) (by show w1.heap.size < _; omega)).trans ((cell_of_blk HN8.out r).trans (arrC_get 8 n hlt))
                  have hltI : (r : Int) < 8 := by omega
                  repeat still_step
                  refine wpStill_nil ?_
                  go_wp2
                  go_roundw
                  case rel => exact ⟨r + 1, by omega, by go_num, hb9⟩
                  case measure => simp [intOf]; omega
                · obtain rfl : r = 8 := by omega
                  go_wp2
                  go_ret
                  exact ⟨rfl, hb1.trans ((hb8.trans (hbL.mono (by omega))).mono hb1.size)⟩

end Go.Proofs.YtngopilbpiplhaaGreatDoor
