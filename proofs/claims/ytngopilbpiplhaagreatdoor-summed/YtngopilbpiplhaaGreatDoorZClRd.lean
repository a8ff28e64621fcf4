/-
  The contract of search.round: the claims and the counts behind a round are those of the plain round; it tells whether a claim was changed.
-/
import Derived.Test.YtngopilbpiplhaaGreatDoorZClRa
import Derived.Test.YtngopilbpiplhaaGreatDoorZClS
namespace Go.Proofs.YtngopilbpiplhaaGreatDoor
open Go.RowKit
set_option linter.unusedVariables false
set_option linter.unusedSimpArgs false

theorem cnt_chF (bs : List Bool) (ch : List Int) (h : ch.length = bs.length) : arrC bs.length (cntF bs (chF ch) bs.length) = arrC bs.length (chF (cntL ch bs)) := by
  apply Array.ext_getElem?
  intro j
  by_cases hj : j < bs.length
  · rw [arrC_get _ _ hj, arrC_get _ _ hj]
    congr 2
    have hc : j < ch.length := by omega
    simp only [cntF, chF, cntL, hj, true_and, List.getD_eq_getElem?_getD, List.getElem?_zipWith, List.getElem?_eq_getElem hj, List.getElem?_eq_getElem hc, Option.getD_some]
  · simp [arrC, hj]
theorem cntL_len (bs : List Bool) (ch : List Int) (h : ch.length = bs.length) : (cntL ch bs).length = bs.length := by simp [cntL, h]
theorem roundF_len (xs : List Ln) (ch : List Int) (ks : List Nat) : ∀ (st : List Cl × List Bool), (ks.foldl (lineV xs ch) st).1.length = st.1.length ∧ (ks.foldl (lineV xs ch) st).2.length = st.2.length := by
  have hv : ∀ (k : Nat) (es : List (Int × Cl)) (st : List Cl × List Bool), (es.foldl (visit ch k) st).1.length = st.1.length ∧ (es.foldl (visit ch k) st).2.length = st.2.length := by
    intro k es
    induction es with
    | nil => intro st; exact ⟨rfl, rfl⟩
    | cons e es ih => intro st; have h1 := ih (visit ch k st e); have h2 := visit_len ch k st e; exact ⟨h1.1.trans h2.1, h1.2.trans h2.2⟩
  induction ks with
  | nil => intro st; exact ⟨rfl, rfl⟩
  | cons k ks ih => intro st; have h1 := ih (lineV xs ch st k); have h2 := hv k (exitsF xs st.1 k) st; exact ⟨h1.1.trans h2.1, h1.2.trans h2.2⟩

set_option maxRecDepth 100000 in
set_option maxHeartbeats 8000000 in
theorem round_any (sb s0 g gcap pb hb : Nat) (xs : List Ln) (p : List Cl) (ch : List Int) (w : World) (hn : xs.length ≤ 100) (hS : SAt w sb s0 g gcap pb hb xs p ch) (hW : ∀ (k : Nat) (x : Ln), xs[k]? = some x → LineW s0 x)
    (hTo : ∀ (k : Nat) (x : Ln), xs[k]? = some x → ∀ c, ∀ e ∈ exitsOf x c k, ∃ t : Nat, e.1 = (t : Int) ∧ t < xs.length) (hch : ∀ j, 0 ≤ chF ch j ∧ chF ch j ≤ 1000000) (hcl : ch.length = xs.length)
    (n1 : sb ≠ pb) (n2 : g ≠ pb) (n3 : hb ≠ pb) (n4 : s0 + 56 ≤ pb) (n5 : sb ≠ hb) (n6 : g ≠ hb) (n7 : s0 + 56 ≤ hb) :
    Calls Tryz.prog 118 #[.pointer (some ⟨sb, 0, none⟩)] w
      fun e w' => e = .returned (.bool ((roundF xs (p, ch)).2.any id)) ∧ SAt w' sb s0 g gcap pb hb xs (roundF xs (p, ch)).1 (cntL ch (roundF xs (p, ch)).2) ∧ Keep2 w.heap.size pb hb w w' := by
  generalize hRF : roundF xs (p, ch) = RF
  have HRF := hide hRF
  have hmk := run_make_row' (P := Tryz.prog) 239 4 (.bool false) 1 Tryz.underlying239 (by kernel_rfl) rfl .i64 .i64 xs.length (by omega) (by omega)
  rw [made_bools] at hmk
  have c1 := hS.c1
  have hlts := hS.lts
  have hltp := hS.ltp
  have hlth := hS.lth
  have hltg := hS.ltg
  have hlt0 := hS.lt0
  have hb0 : ∀ o : Obj, Below w.heap.size w (w.alloc o) := fun o => (Below.refl _ _).alloc (Nat.le_refl _) o
  have hF0 := blk_new w (.cells (boolsA (List.replicate xs.length false)) 4)
  have hS0 := hS.below (hb0 (.cells (boolsA (List.replicate xs.length false)) 4))
  have hsz0 : (w.alloc (.cells (boolsA (List.replicate xs.length false)) 4)).heap.size = w.heap.size + 1 := World.size_alloc _ _
  have hbb0 := hb0 (.cells (boolsA (List.replicate xs.length false)) 4)
  have c1' := hS0.c1
  have HW := hide hW
  have HTO := hide hTo
  have HCH := hide hch
  clear hRF hS hW hTo hch hb0
  go_enter Tryz.func118, Tryz.ntmps118
  go_wp2_with fail
  change Code.wp _ _ _ _ (w.alloc (.cells (boolsA (List.replicate xs.length false)) 4))
  generalize w.alloc (.cells (boolsA (List.replicate xs.length false)) 4) = W0 at *
  have HF0 := hide hF0
  have HS0 := hide hS0
  have HB0 := hide hbb0
  clear hF0 hS0 hbb0 c1 c1' hmk
  go_loopw [19] (fun iv w' => ∃ (k : Nat) (p' : List Cl) (bs : List Bool), k ≤ xs.length ∧ iv = .int .i64 k ∧ (List.range k).foldl (lineV xs ch) (p, List.replicate xs.length false) = (p', bs) ∧ SAt w' sb s0 g gcap pb hb xs p' ch ∧ w'.heap[w.heap.size]? = some (.cells (boolsA bs) 4) ∧ bs.length = xs.length ∧ Keep w.heap.size pb w w') (fun iv _ => xs.length - (intOf iv).toNat)
  case atStart => exact ⟨0, p, _, Nat.zero_le _, rfl, rfl, HS0.out, HF0.out, by simp, Keep.of_below HB0.out⟩
  case round =>
    obtain ⟨k, p1, bs1, hk, rfl, hfold, hSA, hF, hbl, hK⟩ := hrel
    have hp1 := hSA.plen
    have HFOLD := hide hfold
    have HSA := hide hSA
    have HF := hide hF
    have HK := hide hK
    have HBL := hide hbl
    have HP1 := hide hp1
    have hfl := blk_lt hF
    have hzp := hSA.ltp
    have hzh := hSA.lth
    clear hfold hSA hF hK hbl hp1
    obtain ⟨W9, hW9⟩ : ∃ W : World, W = wr := ⟨_, rfl⟩
    subst hW9
    by_cases hlt : k < xs.length
    · have hltI : (k : Int) < (xs.length : Int) := by omega
      obtain ⟨x, hx⟩ : ∃ x, xs[k]? = some x := ⟨_, List.getElem?_eq_getElem hlt⟩
      obtain ⟨c, hc⟩ : ∃ c, p1[k]? = some c := ⟨_, List.getElem?_eq_getElem (by rw [HP1.out]; exact hlt)⟩
      have HX := hide hx
      have HC := hide hc
      clear hx hc
      go_wp2_with fail
      refine (exits_any sb s0 g gcap pb hb xs p1 ch k W9 (by omega) HSA.out x HX.out c HC.out (HW.out k x HX.out)).mono ?_
      rintro e W1 ⟨v, rfl, hown, hb1⟩
      obtain ⟨a, cap, rfl, hsl⟩ := exits_slice hown
      have hto := HTO.out k x HX.out c
      have hlen2 : (exitsOf x c k).length ≤ 2 := by unfold exitsOf exW; split <;> (try split) <;> (try split) <;> simp
      have HLV : Hid ((List.range (k + 1)).foldl (lineV xs ch) (p, List.replicate xs.length false) = (exitsOf x c k).foldl (visit ch k) (p1, bs1)) := hide (by rw [fold_range, HFOLD.out]; unfold lineV; rw [exitsF_of HX.out HC.out])
      generalize exitsOf x c k = es at *
      have HS1 := hide (HSA.out.below hb1)
      have HF1 := hide ((hb1.block _ (blk_lt HF.out)).trans HF.out)
      have HK1 := hide (HK.out.trans (Keep.of_below (hb1.mono (by omega))))
      have hsz1 := hb1.size
      have HSL := hide hsl
      have HTO1 := hide hto
      have HOWN := hide hown
      clear hb1 hsl hto hown HX HC HFOLD HSA
      go_wp2_with fail
      go_loopw [26] (fun jv w' => ∃ (j : Nat) (p2 : List Cl) (bs2 : List Bool), j ≤ es.length ∧ jv = .int .i64 j ∧ (es.take j).foldl (visit ch k) (p1, bs1) = (p2, bs2) ∧ SAt w' sb s0 g gcap pb hb xs p2 ch ∧ w'.heap[w.heap.size]? = some (.cells (boolsA bs2) 4) ∧ bs2.length = xs.length ∧ Keep2 W1.heap.size pb w.heap.size W1 w') (fun jv _ => es.length - (intOf jv).toNat)
      case atStart => exact ⟨0, p1, bs1, Nat.zero_le _, rfl, rfl, HS1.out, HF1.out, HBL.out, Keep2.refl _ _ _ _⟩
      case round =>
        obtain ⟨j, p2, bs2, hj, rfl, hfold, hSA, hF2, hbl2, hK2⟩ := hrel
        have hp2 := hSA.plen
        have HFOLD := hide hfold
        have HS2 := hide hSA
        have HF2 := hide hF2
        have HK2 := hide hK2
        have HBL2 := hide hbl2
        have HP2 := hide hp2
        have hsz2 := hK2.size
        have hls2 := hSA.lts
        have hlp2 := hSA.ltp
        clear hfold hSA hF2 hK2 hbl2 hp2
        obtain ⟨W2, hW2⟩ : ∃ W : World, W = wr := ⟨_, rfl⟩
        subst hW2
        by_cases hjl : j < es.length
        · have hjI : (j : Int) < (es.length : Int) := by omega
          obtain ⟨gb, rfl, hgB, hgl, hrg⟩ := HSL.out (by omega)
          obtain ⟨t, ht, htn⟩ := HTO1.out es[j] (List.getElem_mem hjl)
          have htI : (t : Int) < (xs.length : Int) := by omega
          obtain ⟨ec, hec⟩ : ∃ ec, es[j] = ((t : Int), ec) := ⟨es[j].2, Prod.ext ht rfl⟩
          have hr2 : W2.rangeAt gb (j * 26) (exC (t : Int) ec) := fun i u hu => (HK2.out.cell (p := ⟨gb, j * 26 + i, none⟩) hgl (by show gb ≠ pb; omega) (by show gb ≠ w.heap.size; omega)).trans (hrg j hjl i u (by rw [hec]; exact hu))
          obtain ⟨was, hwas⟩ : ∃ was, p2[t]? = some was := ⟨_, List.getElem?_eq_getElem (by rw [HP2.out]; exact htn)⟩
          have HFD : Hid ((es.take (j + 1)).foldl (visit ch k) (p1, bs1) = visit ch k (p2, bs2) ((t : Int), ec)) := hide (by rw [fold_take _ _ _ j hjl, HFOLD.out, hec])
          have HWAS := hide hwas
          have HR2 := hide hr2
          clear ht hec hrg hr2 hwas HFOLD
          go_wp2_with (first | (refine wpList_load_mid rfl 243 (.tmp 28) rfl gb (j * 26) rfl (exC (t : Int) ec) _ HR2.out Tryz.underlying243 rfl (by kernel_rfl) ?_) | (refine wpList_storeRw rfl 243 (.tmp 6) (.tmp 29) rfl W2.heap.size (exC (t : Int) ec).toArray _ rfl rfl (blk_new W2 _) (by kernel_rfl) rfl (all_oneCell_toArray (exC_one _ _)) ?_))
          intro w3 hw3
          have hb3 : Below W2.heap.size W2 w3 := by rw [hw3.out]; exact below_setG ((Below.refl _ _).alloc (Nat.le_refl _) _) (Nat.le_refl _) _
          have HE3 : Hid (w3.heap[W2.heap.size]? = some (.cells (exC (t : Int) ec).toArray 243)) := hide (by rw [hw3.out]; exact setRow_heap _ _ _ _ _ _ (blk_new W2 _))
          have HS3 := hide (HS2.out.below hb3)
          have hs3 := blk_lt HE3.out
          have HB3 := hide hb3
          clear hw3 hb3 HR2
          go_wp2_with (refine wpList_load_row rfl 243 (.tmp 6) rfl W2.heap.size rfl _ _ _ _ HE3.out Tryz.underlying243 rfl (by kernel_rfl) ?_)
          refine (joined_any sb pb hb xs.length xs.length xs.length k t was ec (chF ch t) w3 HS3.out.lts HS3.out.ltp HS3.out.lth htn (by omega) HS3.out.c2 (HS3.out.claims.2 t was HWAS.out) HS3.out.c3 ((cell_of_blk HS3.out.chg t).trans (arrC_get _ _ htn))).mono ?_
          rintro e w4 ⟨he, hb4⟩
          obtain rfl : e = .returned (.agg (clCells (joinAt k t was ec (chF ch t)))) := he
          have HB4 := hide (HB3.out.trans (hb4.mono (by omega)))
          have HE4 := hide ((hb4.block _ hs3).trans HE3.out)
          have hs4 := hb4.size
          have HVS := hide (@visit_same ch k t p2 bs2 ec was HWAS.out)
          have HVN := hide (@visit_new ch k t p2 bs2 ec was HWAS.out)
          clear hb4 HE3 HB3 HS3
          generalize joinAt k t was ec (chF ch t) = now at *
          go_wp2_with (refine wpList_storeCl rfl (.tmp 7) (.tmp 33) rfl w4.heap.size (clCells now) _ _ rfl rfl (blk_new w4 _) (cl_size _) rfl (cl_one _) ?_)
          intro w5 hw5
          have hb5 : Below w4.heap.size w4 w5 := by rw [hw5.out]; exact below_setG ((Below.refl _ _).alloc (Nat.le_refl _) _) (Nat.le_refl _) _
          have HN5 : Hid (w5.heap[w4.heap.size]? = some (clB now)) := hide (by rw [hw5.out]; exact setRow_heap _ _ _ _ _ _ (blk_new w4 _))
          have HE5 := hide ((hb5.block _ (by omega)).trans HE4.out)
          have HB5 := hide (HB4.out.trans (hb5.mono (by omega)))
          have HS5 := hide (HS2.out.below HB5.out)
          have hn5 := blk_lt HN5.out
          have hls5 := HS5.out.lts
          have hlp5 := HS5.out.ltp
          have HR5 := hide (HS5.out.claims.2 t was HWAS.out)
          clear hw5 hb5 HE4 HB4
          go_wp2_with fail
          refine wp_region_held (S := Below w5.heap.size w5) mixed ?_
          have hb6 : Below w5.heap.size w5 { w5 with drawn := w5.drawn + 1 } := (Below.refl _ _).drew
          generalize ({ w5 with drawn := w5.drawn + 1 } : World) = w6 at *
          have HE0 := hide hb6
          clear hb6
          refine held_take (i := 0) (some 34) rfl rfl (by kernel_rfl) (by kernel_rfl) (by kernel_rfl) (fun _ _ _ h => h) (yields_row (by kernel_rfl) 135 (.tmp 7) rfl w4.heap.size (by kernel_rfl) (clCells now) 135 _ (fun w' h => (h.block _ hn5).trans HN5.out) Tryz.underlying135 rfl (by kernel_rfl)) HE0.out ?_
          simp only [Act.put, List.setIfInBounds_toArray, List.set_cons_zero, List.set_cons_succ]
          refine held_take (i := 1) (some 35) rfl rfl (by kernel_rfl) (by kernel_rfl) (by kernel_rfl) (fun _ _ _ h => h) (.inl ⟨by kernel_rfl, fun w' h => by go_simp; rfl⟩) HE0.out ?_
          simp only [Act.put, List.setIfInBounds_toArray, List.set_cons_zero, List.set_cons_succ]
          refine held_take (i := 2) (some 36) rfl rfl (by kernel_rfl) (by kernel_rfl) (by kernel_rfl) (fun _ _ _ h => h) (.inl ⟨by kernel_rfl, fun w' h => by go_simp; rfl⟩) HE0.out ?_
          simp only [Act.put, List.setIfInBounds_toArray, List.set_cons_zero, List.set_cons_succ]
          refine held_take (i := 3) (some 37) rfl rfl (by kernel_rfl) (by kernel_rfl) (by kernel_rfl) (fun _ _ _ h => h) (.inl ⟨by kernel_rfl, fun w' h => by go_simp; rfl⟩) HE0.out ?_
          simp only [Act.put, List.setIfInBounds_toArray, List.set_cons_zero, List.set_cons_succ]
          refine held_take (i := 4) (some 38) rfl rfl (by kernel_rfl) (by kernel_rfl) (by kernel_rfl) (fun _ _ _ h => h) (.inl ⟨by kernel_rfl, fun w' h => by have hc := (h.cell (p := ⟨sb, 2, none⟩) hls5).trans HS5.out.c2; go_simp; rfl⟩) HE0.out ?_
          simp only [Act.put, List.setIfInBounds_toArray, List.set_cons_zero, List.set_cons_succ]
          refine held_take (i := 5) (some 39) rfl rfl (by kernel_rfl) (by kernel_rfl) (by kernel_rfl) (fun _ _ _ h => h) (.inl ⟨by kernel_rfl, fun w' h => by go_simp; rfl⟩) HE0.out ?_
          simp only [Act.put, List.setIfInBounds_toArray, List.set_cons_zero, List.set_cons_succ]
          refine held_take (i := 6) (some 40) rfl rfl (by kernel_rfl) (by kernel_rfl) (by kernel_rfl) (fun _ _ _ h => h) (.inl ⟨by kernel_rfl, fun w' h => by have hc : w'.cell? ⟨W2.heap.size, 0, none⟩ = some (.int .i64 (t : Int)) := (h.cell (p := ⟨W2.heap.size, 0, none⟩) (by show W2.heap.size < _; omega)).trans (cell_of_blk HE5.out 0); go_simp; rfl⟩) HE0.out ?_
          simp only [Act.put, List.setIfInBounds_toArray, List.set_cons_zero, List.set_cons_succ]
          refine held_take (i := 7) (some 41) rfl rfl (by kernel_rfl) (by kernel_rfl) (by kernel_rfl) (fun _ _ _ h => h) (.inl ⟨by kernel_rfl, fun w' h => by go_simp; rfl⟩) HE0.out ?_
          simp only [Act.put, List.setIfInBounds_toArray, List.set_cons_zero, List.set_cons_succ]
          refine held_take (i := 8) (some 42) rfl rfl (by kernel_rfl) (by kernel_rfl) (by kernel_rfl) (fun _ _ _ h => h) (yieldsIf_load_mid (by kernel_rfl) 135 (.tmp 41) rfl pb (t * 25) (by kernel_rfl) (clCells was).toList _ (fun w' h => fun i v hv => (h.cell (p := ⟨pb, t * 25 + i, none⟩) hlp5).trans (HR5.out i v hv)) Tryz.underlying135 rfl (by kernel_rfl)) HE0.out ?_
          simp only [Act.put, List.setIfInBounds_toArray, List.set_cons_zero, List.set_cons_succ]
          simp only [Array.toArray_toList]
          refine held_take (i := 9) (some 43) rfl rfl (by kernel_rfl) (by kernel_rfl) (by kernel_rfl) (fun _ _ _ h => h) (.inl ⟨by kernel_rfl, fun w' h => exec_neqCl (.tmp 34) (.tmp 42) rfl now was (by kernel_rfl) (by kernel_rfl)⟩) HE0.out ?_
          simp only [Act.put, List.setIfInBounds_toArray, List.set_cons_zero, List.set_cons_succ]
          refine wpAnyH_done (by kernel_rfl) ?_ _
          have HB6 := hide (HB5.out.trans (HE0.out.mono (by have := HB5.out.size; omega)))
          have HE6 := hide ((HE0.out.block _ (blk_lt HE5.out)).trans HE5.out)
          have HN6 := hide ((HE0.out.block _ hn5).trans HN5.out)
          have HS6 := hide (HS5.out.below HE0.out)
          have hs6 := HE0.out.size
          clear HB5 HE5 HN5 HS5 HR5 HE0
          cases hq : clEq now was with
          | true =>
            have HV := hide (HVS.out hq)
            clear hq
            go_wp2
            go_roundw
            case rel =>
              refine ⟨j + 1, p2, bs2, by omega, by go_num, by rw [HFD.out]; exact HV.out, HS6.out, (HB6.out.block _ (by omega)).trans HF2.out, HBL2.out, HK2.out.trans (Keep2.of_below (HB6.out.mono (by omega)))⟩
            case measure => simp [intOf]; omega
          | false =>
            have HV := hide (HVN.out hq)
            clear hq
            have hls6 := HS6.out.lts
            have hlp6 := HS6.out.ltp
            have hln6 := blk_lt HN6.out
            have hle6 := blk_lt HE6.out
            have HF6 := hide ((HB6.out.block _ (by omega)).trans HF2.out)
            go_wp2_with fail
            refine wp_region_held (S := Keep2 w6.heap.size pb w.heap.size w6) mixed ?_
            have hb7 : Keep2 w6.heap.size pb w.heap.size w6 { w6 with drawn := w6.drawn + 1 } := Keep2.of_below (Below.refl _ _).drew
            have hF7 : ({ w6 with drawn := w6.drawn + 1 } : World).heap[w.heap.size]? = some (.cells (boolsA bs2) 4) := HF6.out
            have hC7 : ClaimsAt { w6 with drawn := w6.drawn + 1 } pb p2 := HS6.out.claims.mono rfl
            have hz7 : ({ w6 with drawn := w6.drawn + 1 } : World).heap.size = w6.heap.size := rfl
            generalize ({ w6 with drawn := w6.drawn + 1 } : World) = w7 at *
            have HE0 := hide hb7
            have HF7 := hide hF7
            have HC7 := hide hC7
            clear hb7 hF7 hC7
            refine held_take (i := 0) (some 44) rfl rfl (by kernel_rfl) (by kernel_rfl) (by kernel_rfl) (fun _ _ _ h => h) (.inl ⟨by kernel_rfl, fun w' h => by go_simp; rfl⟩) HE0.out ?_
            simp only [Act.put, List.setIfInBounds_toArray, List.set_cons_zero, List.set_cons_succ]
            refine held_take (i := 1) (some 45) rfl rfl (by kernel_rfl) (by kernel_rfl) (by kernel_rfl) (fun _ _ _ h => h) (.inl ⟨by kernel_rfl, fun w' h => by go_simp; rfl⟩) HE0.out ?_
            simp only [Act.put, List.setIfInBounds_toArray, List.set_cons_zero, List.set_cons_succ]
            refine held_take (i := 2) (some 46) rfl rfl (by kernel_rfl) (by kernel_rfl) (by kernel_rfl) (fun _ _ _ h => h) (.inl ⟨by kernel_rfl, fun w' h => by go_simp; rfl⟩) HE0.out ?_
            simp only [Act.put, List.setIfInBounds_toArray, List.set_cons_zero, List.set_cons_succ]
            refine held_take (i := 3) (some 47) rfl rfl (by kernel_rfl) (by kernel_rfl) (by kernel_rfl) (fun _ _ _ h => h) (.inl ⟨by kernel_rfl, fun w' h => by have hc := (h.cell (p := ⟨sb, 2, none⟩) hls6 n1 (by show sb ≠ w.heap.size; omega)).trans HS6.out.c2; go_simp; rfl⟩) HE0.out ?_
            simp only [Act.put, List.setIfInBounds_toArray, List.set_cons_zero, List.set_cons_succ]
            refine held_take (i := 4) (some 48) rfl rfl (by kernel_rfl) (by kernel_rfl) (by kernel_rfl) (fun _ _ _ h => h) (.inl ⟨by kernel_rfl, fun w' h => by go_simp; rfl⟩) HE0.out ?_
            simp only [Act.put, List.setIfInBounds_toArray, List.set_cons_zero, List.set_cons_succ]
            refine held_take (i := 5) (some 49) rfl rfl (by kernel_rfl) (by kernel_rfl) (by kernel_rfl) (fun _ _ _ h => h) (.inl ⟨by kernel_rfl, fun w' h => by have hc : w'.cell? ⟨W2.heap.size, 0, none⟩ = some (.int .i64 (t : Int)) := (h.cell (p := ⟨W2.heap.size, 0, none⟩) hle6 (by show W2.heap.size ≠ pb; omega) (by show W2.heap.size ≠ w.heap.size; omega)).trans (cell_of_blk HE6.out 0); go_simp; rfl⟩) HE0.out ?_
            simp only [Act.put, List.setIfInBounds_toArray, List.set_cons_zero, List.set_cons_succ]
            refine held_take (i := 6) (some 50) rfl rfl (by kernel_rfl) (by kernel_rfl) (by kernel_rfl) (fun _ _ _ h => h) (.inl ⟨by kernel_rfl, fun w' h => by go_simp; rfl⟩) HE0.out ?_
            simp only [Act.put, List.setIfInBounds_toArray, List.set_cons_zero, List.set_cons_succ]
            refine held_take (i := 7) (some 51) rfl rfl (by kernel_rfl) (by kernel_rfl) (by kernel_rfl) (fun _ _ _ h => h) (.inl ⟨by kernel_rfl, fun w' h => by go_simp; rfl⟩) HE0.out ?_
            simp only [Act.put, List.setIfInBounds_toArray, List.set_cons_zero, List.set_cons_succ]
            refine held_take (i := 8) (some 52) rfl rfl (by kernel_rfl) (by kernel_rfl) (by kernel_rfl) (fun _ _ _ h => h) (.inl ⟨by kernel_rfl, fun w' h => by have hc : w'.cell? ⟨W2.heap.size, 0, none⟩ = some (.int .i64 (t : Int)) := (h.cell (p := ⟨W2.heap.size, 0, none⟩) hle6 (by show W2.heap.size ≠ pb; omega) (by show W2.heap.size ≠ w.heap.size; omega)).trans (cell_of_blk HE6.out 0); go_simp; rfl⟩) HE0.out ?_
            simp only [Act.put, List.setIfInBounds_toArray, List.set_cons_zero, List.set_cons_succ]
            refine held_take (i := 9) (some 53) rfl rfl (by kernel_rfl) (by kernel_rfl) (by kernel_rfl) (fun _ _ _ h => h) (yields_row (by kernel_rfl) 135 (.tmp 7) rfl w4.heap.size (by kernel_rfl) (clCells now) 135 _ (fun w' h => (h.block _ hln6 (by omega) (by omega)).trans HN6.out) Tryz.underlying135 rfl (by kernel_rfl)) HE0.out ?_
            simp only [Act.put, List.setIfInBounds_toArray, List.set_cons_zero, List.set_cons_succ]
            refine held_take (i := 10) (some 54) rfl rfl (by kernel_rfl) (by kernel_rfl) (by kernel_rfl) (fun _ _ _ h => h) (.inl ⟨by kernel_rfl, fun w' h => by go_simp; rfl⟩) HE0.out ?_
            simp only [Act.put, List.setIfInBounds_toArray, List.set_cons_zero, List.set_cons_succ]
            have hk8 := keep_setCells w6.heap.size pb (clCells now).toList (t * 25) w7
            have HP2' := HP2.out
            have hE8 : Keep2 w6.heap.size pb w.heap.size w6 (w7.setCells pb (t * 25) (clCells now).toList) := HE0.out.trans (Keep2.of_keep hk8)
            refine held_skip (i := 11) (by kernel_rfl) rfl (by kernel_rfl) (exec_storeMid 135 (.tmp 54) (.tmp 53) rfl pb (t * 25) (clCells now) (by kernel_rfl) (by kernel_rfl) (HC7.out.there (by omega)) (by kernel_rfl) (cl_one _)) hE8 ?_
            have HC8 := hide (HC7.out.set (t := t) (by omega) now (nrm now) rfl)
            have HF8 := hide ((hk8.block w.heap.size (by omega) (by omega)).trans HF7.out)
            have hz8 := setCells_size pb (clCells now).toList (t * 25) w7
            generalize w7.setCells pb (t * 25) (clCells now).toList = w8 at *
            have HE8 := hide hE8
            clear hE8 hk8 HE0 HF7 HC7
            simp only [Act.put, List.setIfInBounds_toArray, List.set_cons_zero, List.set_cons_succ]
            refine held_take (i := 12) (some 55) rfl rfl (by kernel_rfl) (by kernel_rfl) (by kernel_rfl) (fun _ _ _ h => h) (.inl ⟨by kernel_rfl, fun w' h => by go_simp; rfl⟩) HE8.out ?_
            simp only [Act.put, List.setIfInBounds_toArray, List.set_cons_zero, List.set_cons_succ]
            have hcf : w8.cell? ⟨w.heap.size, t, none⟩ = some (.bool (bs2.getD t false)) := (cell_of_blk HF8.out t).trans (bools_get _ (by rw [HBL2.out]; exact htn))
            have hE9 : Keep2 w6.heap.size pb w.heap.size w6 (w8.setCell ⟨w.heap.size, t, none⟩ (.bool true)) := HE8.out.trans (Keep2.of_keep' ((Keep.refl _ _ _).setCell (p := ⟨w.heap.size, t, none⟩) (.inr rfl) _))
            refine held_skip (i := 13) (w' := w8.setCell ⟨w.heap.size, t, none⟩ (.bool true)) (by kernel_rfl) rfl (by kernel_rfl) (by have hff := frozen_of_blk HF8.out t; go_simp) hE9 ?_
            have HF9 : Hid ((w8.setCell ⟨w.heap.size, t, none⟩ (.bool true)).heap[w.heap.size]? = some (.cells (boolsA (bs2.set t true)) 4)) := hide (by rw [← bools_set]; exact blk_setCell HF8.out t _)
            have HC9 : Hid (ClaimsAt (w8.setCell ⟨w.heap.size, t, none⟩ (.bool true)) pb (p2.set t (nrm now))) := hide (HC8.out.mono (((Keep.refl (pb + 1) w.heap.size w8).setCell (p := ⟨w.heap.size, t, none⟩) (.inr rfl) _).block pb (by omega) (by omega)))
            have hz9 : (w8.setCell ⟨w.heap.size, t, none⟩ (.bool true)).heap.size = w8.heap.size := World.size_setCell _ _ _
            generalize w8.setCell ⟨w.heap.size, t, none⟩ (.bool true) = w9 at *
            have HE9 := hide hE9
            clear hE9 hcf HE8 HF8 HC8
            refine wpAnyH_done (by kernel_rfl) ?_ _
            have HS9 : Hid (SAt w9 sb s0 g gcap pb hb xs (p2.set t (nrm now)) ch) := hide (HS6.out.keep2 HE9.out n1 n2 n3 n4 (by omega) (by omega) (by omega) (by omega) HC9.out (by rw [List.length_set]; exact HP2.out))
            go_wp2
            go_roundw
            case rel =>
              refine ⟨j + 1, _, _, by omega, by go_num, by rw [HFD.out]; exact HV.out, HS9.out, HF9.out, by rw [List.length_set]; exact HBL2.out, HK2.out.trans ((Keep2.of_below (HB6.out.mono (by omega))).trans (HE9.out.mono (by omega)))⟩
            case measure => simp [intOf]; omega
        · obtain rfl : j = es.length := by omega
          have HFE : Hid ((List.range (k + 1)).foldl (lineV xs ch) (p, List.replicate xs.length false) = (p2, bs2)) := hide (by rw [HLV.out]; have := HFOLD.out; rwa [List.take_of_length_le (Nat.le_refl _)] at this)
          go_wp2
          go_roundw
          case rel =>
            refine ⟨k + 1, p2, bs2, by omega, by go_num, HFE.out, HS2.out, HF2.out, HBL2.out, HK1.out.trans ((HK2.out.mono (by omega)).keep (Nat.le_refl _))⟩
          case measure => simp [intOf]; omega
    · obtain rfl : k = xs.length := by omega
      have hRE : RF = (p1, bs1) := by rw [← HRF.out]; exact HFOLD.out
      subst hRE
      have hcb : ∀ i, i < bs1.length → W9.cell? ⟨w.heap.size, i, none⟩ = some (.bool (bs1.getD i false)) := fun i hi => (cell_of_blk HF.out i).trans (bools_get _ hi)
      have hHB := HSA.out.chg
      have hc3 := HSA.out.c3
      have hbll := HBL.out
      rw [← hbll] at hHB hc3
      have HCNT := hide (count_any bs1 (chF ch) sb w.heap.size hb bs1.length xs.length W9 (by omega) HCH.out n5 (by omega) hc3 hHB hcb)
      rw [hbll] at HCNT
      clear hcb hHB hc3
      go_wp2_with fail
      refine (HCNT.out).mono ?_
      rintro e w2 ⟨rfl, hB2, hK2⟩
      have hcb : ∀ i, i < bs1.length → w2.cell? ⟨w.heap.size, i, none⟩ = some (.bool (bs1.getD i false)) := fun i hi => ((hK2 (w.heap.size + 1)).cell (p := ⟨w.heap.size, i, none⟩) (by show w.heap.size < _; omega) (by show w.heap.size ≠ hb; omega)).trans ((cell_of_blk HF.out i).trans (bools_get _ hi))
      have HCON := hide (Contains_any bs1 w.heap.size xs.length w2 (by omega) hcb)
      rw [hbll] at HCON
      have hk2 := hK2 W9.heap.size
      have hchk : w2.heap[hb]? = some (.cells (arrC xs.length (chF (cntL ch bs1))) 3) := by
        have h := cnt_chF bs1 ch (by omega)
        rw [hbll] at h
        rw [hB2, h]
      have hcl2 : ClaimsAt w2 pb p1 := HSA.out.claims.mono (hk2.block pb hzp (by omega))
      have HS2 : Hid (SAt w2 sb s0 g gcap pb hb xs p1 (cntL ch bs1)) := hide ⟨(hk2.cell (p := ⟨sb, 0, none⟩) HSA.out.lts n5).trans HSA.out.c0, (hk2.cell (p := ⟨sb, 1, none⟩) HSA.out.lts n5).trans HSA.out.c1, (hk2.cell (p := ⟨sb, 2, none⟩) HSA.out.lts n5).trans HSA.out.c2, (hk2.cell (p := ⟨sb, 3, none⟩) HSA.out.lts n5).trans HSA.out.c3,
        HSA.out.tab.mono fun i _ hi => hk2.block i (by have := HSA.out.lt0; omega) (by omega), HSA.out.lines.mono (hk2.block _ HSA.out.ltg n6), hcl2, HP1.out, hchk, Nat.le_trans HSA.out.lt0 hk2.size, Nat.lt_of_lt_of_le HSA.out.lts hk2.size, Nat.lt_of_lt_of_le HSA.out.ltp hk2.size⟩
      have HK2 : Hid (Keep2 w.heap.size pb hb w w2) := hide ((Keep2.of_keep HK.out).trans (Keep2.of_keep' (hk2.mono (by omega))))
      clear hB2 hK2 hcb hk2 hchk hcl2 hbll HCNT
      go_wp2_with fail
      refine (HCON.out).mono ?_
      rintro e w3 ⟨rfl, rfl⟩
      go_wp2
      go_ret
      exact ⟨rfl, HS2.out, HK2.out⟩

end Go.Proofs.YtngopilbpiplhaaGreatDoor
