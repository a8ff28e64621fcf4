/-
  The contract of search.round: the claims and the counts behind a round are those of the plain round; it tells whether a claim was changed.
  The contract of search.unmet: the first line whose needs are not met, or -1.
  The contract of prover.begin: a search in new memory, as it stands ahead of the first round.
  The contract of prover.Prove: what the plain search comes to.
  The contract of Span.text.
  The contract of Claim.text.
  The contract of claims.Text.
-/
import Derived.Test.YtngopilbpiplhaaGreatDoorZClQ
import Derived.Test.YtngopilbpiplhaaGreatDoorZWRun
import Derived.Test.YtngopilbpiplhaaGreatDoorZClS
import Derived.Deep.OwnRows
import Derived.Deep.LoopGhost
import Derived.Test.YtngopilbpiplhaaGreatDoorZClB
import Derived.Test.YtngopilbpiplhaaGreatDoorZBase
import Derived.Lib.Join
namespace Go.Proofs.YtngopilbpiplhaaGreatDoor
open Go.RowKit
set_option linter.unusedVariables false
set_option linter.unusedSimpArgs false
theorem cnt_chF (bs : List Bool) (ch : List Int) (h : ch.length = bs.length) : arrC bs.length (cntF bs (chF ch) bs.length) = arrC bs.length (chF (cntL ch bs)) := by
  apply Array.ext_getElem?
  intro j
  by_cases hj : j < bs.length
  · rw [arrC_get _ _ hj, arrC_get _ _ hj]
    congr 2
    have hc : j < ch.length := by omega
    simp only [cntF, chF, cntL, hj, true_and, List.getD_eq_getElem?_getD, List.getElem?_zipWith, List.getElem?_eq_getElem hj, List.getElem?_eq_getElem hc, Option.getD_some]
  · simp [arrC, hj]
theorem cntL_len (bs : List Bool) (ch : List Int) (h : ch.length = bs.length) : (cntL ch bs).length = bs.length := by simp [cntL, h]
theorem roundF_len (xs : List Ln) (ch : List Int) (ks : List Nat) : ∀ (st : List Cl × List Bool), (ks.foldl (lineV xs ch) st).1.length = st.1.length ∧ (ks.foldl (lineV xs ch) st).2.length = st.2.length := by
  have hv : ∀ (k : Nat) (es : List (Int × Cl)) (st : List Cl × List Bool), (es.foldl (visit ch k) st).1.length = st.1.length ∧ (es.foldl (visit ch k) st).2.length = st.2.length := by
    intro k es
    induction es with
    | nil => intro st; exact ⟨rfl, rfl⟩
    | cons e es ih => intro st; have h1 := ih (visit ch k st e); have h2 := visit_len ch k st e; exact ⟨h1.1.trans h2.1, h1.2.trans h2.2⟩
  induction ks with
  | nil => intro st; exact ⟨rfl, rfl⟩
  | cons k ks ih => intro st; have h1 := ih (lineV xs ch st k); have h2 := hv k (exitsF xs st.1 k) st; exact ⟨h1.1.trans h2.1, h1.2.trans h2.2⟩
set_option maxRecDepth 100000 in
set_option maxHeartbeats 8000000 in
theorem round_any (sb s0 g gcap pb hb : Nat) (xs : List Ln) (p : List Cl) (ch : List Int) (w : World) (hn : xs.length ≤ 100) (hS : SAt w sb s0 g gcap pb hb xs p ch) (hpo : AllOk p) (hW : ∀ (k : Nat) (x : Ln), xs[k]? = some x → LineW s0 x)
    (hTo : ∀ (k : Nat) (x : Ln), xs[k]? = some x → ∀ c, ∀ e ∈ exitsOf x c k, ∃ t : Nat, e.1 = (t : Int) ∧ t < xs.length) (hch : ∀ j, 0 ≤ chF ch j ∧ chF ch j ≤ 1000000) (hcl : ch.length = xs.length)
    (n1 : sb ≠ pb) (n2 : g ≠ pb) (n3 : hb ≠ pb) (n4 : s0 + 56 ≤ pb) (n5 : sb ≠ hb) (n6 : g ≠ hb) (n7 : s0 + 56 ≤ hb) :
    Calls Tryz.prog 118 #[.pointer (some ⟨sb, 0, none⟩)] w
      fun e w' => e = .returned (.bool ((roundF xs (p, ch)).2.any id)) ∧ SAt w' sb s0 g gcap pb hb xs (roundF xs (p, ch)).1 (cntL ch (roundF xs (p, ch)).2) ∧ Keep2 w.heap.size pb hb w w' := by
  generalize hRF : roundF xs (p, ch) = RF
  have HRF := hide hRF
  have hmk := run_make_row' (P := Tryz.prog) 239 4 (.bool false) 1 Tryz.underlying239 (by kernel_rfl) rfl .i64 .i64 xs.length (by omega) (by omega)
  rw [made_bools] at hmk
  have c1 := hS.c1
  have hlts := hS.lts
  have hltp := hS.ltp
  have hlth := hS.lth
  have hltg := hS.ltg
  have hlt0 := hS.lt0
  have hb0 : ∀ o : Obj, Below w.heap.size w (w.alloc o) := fun o => (Below.refl _ _).alloc (Nat.le_refl _) o
  have hF0 := blk_new w (.cells (boolsA (List.replicate xs.length false)) 4)
  have hS0 := hS.below (hb0 (.cells (boolsA (List.replicate xs.length false)) 4))
  have hsz0 : (w.alloc (.cells (boolsA (List.replicate xs.length false)) 4)).heap.size = w.heap.size + 1 := World.size_alloc _ _
  have hbb0 := hb0 (.cells (boolsA (List.replicate xs.length false)) 4)
  have c1' := hS0.c1
  have HW := hide hW
  have HPO := hide hpo
  have HTO := hide hTo
  have HCH := hide hch
  clear hRF hS hW hpo hTo hch hb0
  go_enter Tryz.func118, Tryz.ntmps118
  go_wp2_with fail
  change Code.wp _ _ _ _ (w.alloc (.cells (boolsA (List.replicate xs.length false)) 4))
  generalize w.alloc (.cells (boolsA (List.replicate xs.length false)) 4) = W0 at *
  have HF0 := hide hF0
  have HS0 := hide hS0
  have HB0 := hide hbb0
  clear hF0 hS0 hbb0 c1 c1' hmk
  go_loopw [19] (fun iv w' => ∃ (k : Nat) (p' : List Cl) (bs : List Bool), k ≤ xs.length ∧ iv = .int .i64 k ∧ (List.range k).foldl (lineV xs ch) (p, List.replicate xs.length false) = (p', bs) ∧ SAt w' sb s0 g gcap pb hb xs p' ch ∧ w'.heap[w.heap.size]? = some (.cells (boolsA bs) 4) ∧ bs.length = xs.length ∧ Keep w.heap.size pb w w') (fun iv _ => xs.length - (intOf iv).toNat)
  case atStart => exact ⟨0, p, _, Nat.zero_le _, rfl, rfl, HS0.out, HF0.out, by simp, Keep.of_below HB0.out⟩
  case round =>
    obtain ⟨k, p1, bs1, hk, rfl, hfold, hSA, hF, hbl, hK⟩ := hrel
    have hp1 := hSA.plen
    have HFOLD := hide hfold
    have HSA := hide hSA
    have HF := hide hF
    have HK := hide hK
    have HBL := hide hbl
    have HP1 := hide hp1
    have hfl := blk_lt hF
    have hzp := hSA.ltp
    have hzh := hSA.lth
    clear hfold hSA hF hK hbl hp1
    obtain ⟨W9, hW9⟩ : ∃ W : World, W = wr := ⟨_, rfl⟩
    subst hW9
    by_cases hlt : k < xs.length
    · have hltI : (k : Int) < (xs.length : Int) := by omega
      obtain ⟨x, hx⟩ : ∃ x, xs[k]? = some x := ⟨_, List.getElem?_eq_getElem hlt⟩
      obtain ⟨c, hc⟩ : ∃ c, p1[k]? = some c := ⟨_, List.getElem?_eq_getElem (by rw [HP1.out]; exact hlt)⟩
      have HX := hide hx
      have HC := hide hc
      clear hx hc
      go_wp2_with fail
      refine (exits_any sb s0 g gcap pb hb xs p1 ch k W9 (by omega) HSA.out x HX.out c HC.out (by have h9 := linesV_ok xs ch (nok_of HW.out) (List.range k) (p, List.replicate xs.length false) HPO.out; rw [HFOLD.out] at h9; exact h9 c (List.mem_of_getElem? HC.out)) (HW.out k x HX.out)).mono ?_
      rintro e W1 ⟨v, rfl, hown, hb1⟩
      obtain ⟨a, cap, rfl, hsl⟩ := exits_slice hown
      have hto := HTO.out k x HX.out c
      have hlen2 : (exitsOf x c k).length ≤ 2 := by unfold exitsOf exW; split <;> (try split) <;> (try split) <;> simp
      have HLV : Hid ((List.range (k + 1)).foldl (lineV xs ch) (p, List.replicate xs.length false) = (exitsOf x c k).foldl (visit ch k) (p1, bs1)) := hide (by rw [fold_range, HFOLD.out]; unfold lineV; rw [exitsF_of HX.out HC.out])
      generalize exitsOf x c k = es at *
      have HS1 := hide (HSA.out.below hb1)
      have HF1 := hide ((hb1.block _ (blk_lt HF.out)).trans HF.out)
      have HK1 := hide (HK.out.trans (Keep.of_below (hb1.mono (by omega))))
      have hsz1 := hb1.size
      have HSL := hide hsl
      have HTO1 := hide hto
      have HOWN := hide hown
      clear hb1 hsl hto hown HX HC HFOLD HSA
      go_wp2_with fail
      go_loopw [26] (fun jv w' => ∃ (j : Nat) (p2 : List Cl) (bs2 : List Bool), j ≤ es.length ∧ jv = .int .i64 j ∧ (es.take j).foldl (visit ch k) (p1, bs1) = (p2, bs2) ∧ SAt w' sb s0 g gcap pb hb xs p2 ch ∧ w'.heap[w.heap.size]? = some (.cells (boolsA bs2) 4) ∧ bs2.length = xs.length ∧ Keep2 W1.heap.size pb w.heap.size W1 w') (fun jv _ => es.length - (intOf jv).toNat)
      case atStart => exact ⟨0, p1, bs1, Nat.zero_le _, rfl, rfl, HS1.out, HF1.out, HBL.out, Keep2.refl _ _ _ _⟩
      case round =>
        obtain ⟨j, p2, bs2, hj, rfl, hfold, hSA, hF2, hbl2, hK2⟩ := hrel
        have hp2 := hSA.plen
        have HFOLD := hide hfold
        have HS2 := hide hSA
        have HF2 := hide hF2
        have HK2 := hide hK2
        have HBL2 := hide hbl2
        have HP2 := hide hp2
        have hsz2 := hK2.size
        have hls2 := hSA.lts
        have hlp2 := hSA.ltp
        clear hfold hSA hF2 hK2 hbl2 hp2
        obtain ⟨W2, hW2⟩ : ∃ W : World, W = wr := ⟨_, rfl⟩
        subst hW2
        by_cases hjl : j < es.length
        · have hjI : (j : Int) < (es.length : Int) := by omega
          obtain ⟨gb, rfl, hgB, hgl, hrg⟩ := HSL.out (by omega)
          obtain ⟨t, ht, htn⟩ := HTO1.out es[j] (List.getElem_mem hjl)
          have htI : (t : Int) < (xs.length : Int) := by omega
          obtain ⟨ec, hec⟩ : ∃ ec, es[j] = ((t : Int), ec) := ⟨es[j].2, Prod.ext ht rfl⟩
          have hr2 : W2.rangeAt gb (j * 26) (exC (t : Int) ec) := fun i u hu => (HK2.out.cell (p := ⟨gb, j * 26 + i, none⟩) hgl (by show gb ≠ pb; omega) (by show gb ≠ w.heap.size; omega)).trans (hrg j hjl i u (by rw [hec]; exact hu))
          obtain ⟨was, hwas⟩ : ∃ was, p2[t]? = some was := ⟨_, List.getElem?_eq_getElem (by rw [HP2.out]; exact htn)⟩
          have HFD : Hid ((es.take (j + 1)).foldl (visit ch k) (p1, bs1) = visit ch k (p2, bs2) ((t : Int), ec)) := hide (by rw [fold_take _ _ _ j hjl, HFOLD.out, hec])
          have HWAS := hide hwas
          have HR2 := hide hr2
          clear ht hec hrg hr2 hwas HFOLD
          go_wp2_with (first | (refine wpList_load_mid rfl 243 (.tmp 28) rfl gb (j * 26) rfl (exC (t : Int) ec) _ HR2.out Tryz.underlying243 rfl (by kernel_rfl) ?_) | (refine wpList_storeRw rfl 243 (.tmp 6) (.tmp 29) rfl W2.heap.size (exC (t : Int) ec).toArray _ rfl rfl (blk_new W2 _) (by kernel_rfl) rfl (all_oneCell_toArray (exC_one _ _)) ?_))
          intro w3 hw3
          have hb3 : Below W2.heap.size W2 w3 := by rw [hw3.out]; exact below_setG ((Below.refl _ _).alloc (Nat.le_refl _) _) (Nat.le_refl _) _
          have HE3 : Hid (w3.heap[W2.heap.size]? = some (.cells (exC (t : Int) ec).toArray 243)) := hide (by rw [hw3.out]; exact setRow_heap _ _ _ _ _ _ (blk_new W2 _))
          have HS3 := hide (HS2.out.below hb3)
          have hs3 := blk_lt HE3.out
          have HB3 := hide hb3
          clear hw3 hb3 HR2
          go_wp2_with (refine wpList_load_row rfl 243 (.tmp 6) rfl W2.heap.size rfl _ _ _ _ HE3.out Tryz.underlying243 rfl (by kernel_rfl) ?_)
          refine (joined_any sb pb hb xs.length xs.length xs.length k t was ec (chF ch t) w3 HS3.out.lts HS3.out.ltp HS3.out.lth htn (by omega) HS3.out.c2 (HS3.out.claims.2 t was HWAS.out) HS3.out.c3 ((cell_of_blk HS3.out.chg t).trans (arrC_get _ _ htn))).mono ?_
          rintro e w4 ⟨he, hb4⟩
          obtain rfl : e = .returned (.agg (clCells (joinAt k t was ec (chF ch t)))) := he
          have HB4 := hide (HB3.out.trans (hb4.mono (by omega)))
          have HE4 := hide ((hb4.block _ hs3).trans HE3.out)
          have hs4 := hb4.size
          have HVS := hide (@visit_same ch k t p2 bs2 ec was HWAS.out)
          have HVN := hide (@visit_new ch k t p2 bs2 ec was HWAS.out)
          clear hb4 HE3 HB3 HS3
          generalize joinAt k t was ec (chF ch t) = now at *
          go_wp2_with (refine wpList_storeCl rfl (.tmp 7) (.tmp 33) rfl w4.heap.size (clCells now) _ _ rfl rfl (blk_new w4 _) (cl_size _) rfl (cl_one _) ?_)
          intro w5 hw5
          have hb5 : Below w4.heap.size w4 w5 := by rw [hw5.out]; exact below_setG ((Below.refl _ _).alloc (Nat.le_refl _) _) (Nat.le_refl _) _
          have HN5 : Hid (w5.heap[w4.heap.size]? = some (clB now)) := hide (by rw [hw5.out]; exact setRow_heap _ _ _ _ _ _ (blk_new w4 _))
          have HE5 := hide ((hb5.block _ (by omega)).trans HE4.out)
          have HB5 := hide (HB4.out.trans (hb5.mono (by omega)))
          have HS5 := hide (HS2.out.below HB5.out)
          have hn5 := blk_lt HN5.out
          have hls5 := HS5.out.lts
          have hlp5 := HS5.out.ltp
          have HR5 := hide (HS5.out.claims.2 t was HWAS.out)
          clear hw5 hb5 HE4 HB4
          go_wp2_with fail
          refine wp_region_held (S := Below w5.heap.size w5) mixed ?_
          have hb6 : Below w5.heap.size w5 { w5 with drawn := w5.drawn + 1 } := (Below.refl _ _).drew
          generalize ({ w5 with drawn := w5.drawn + 1 } : World) = w6 at *
          have HE0 := hide hb6
          clear hb6
          refine hT 0 34 rfl rfl (by kernel_rfl) (fun _ _ _ h => h) (yields_row (by kernel_rfl) 135 (.tmp 7) rfl w4.heap.size (by kernel_rfl) (clCells now) 135 _ (fun w' h => (h.block _ hn5).trans HN5.out) Tryz.underlying135 rfl (by kernel_rfl)) HE0.out ?_
          simp only [Act.put, zzA, zzB, zzC]
          refine hT 1 35 rfl rfl (by kernel_rfl) (fun _ _ _ h => h) (.inl ⟨by kernel_rfl, fun w' h => by go_simp; rfl⟩) HE0.out ?_
          simp only [Act.put, zzA, zzB, zzC]
          refine hT 2 36 rfl rfl (by kernel_rfl) (fun _ _ _ h => h) (.inl ⟨by kernel_rfl, fun w' h => by go_simp; rfl⟩) HE0.out ?_
          simp only [Act.put, zzA, zzB, zzC]
          refine hT 3 37 rfl rfl (by kernel_rfl) (fun _ _ _ h => h) (.inl ⟨by kernel_rfl, fun w' h => by go_simp; rfl⟩) HE0.out ?_
          simp only [Act.put, zzA, zzB, zzC]
          refine hT 4 38 rfl rfl (by kernel_rfl) (fun _ _ _ h => h) (.inl ⟨by kernel_rfl, fun w' h => by have hc := (h.cell (p := ⟨sb, 2, none⟩) hls5).trans HS5.out.c2; go_simp; rfl⟩) HE0.out ?_
          simp only [Act.put, zzA, zzB, zzC]
          refine hT 5 39 rfl rfl (by kernel_rfl) (fun _ _ _ h => h) (.inl ⟨by kernel_rfl, fun w' h => by go_simp; rfl⟩) HE0.out ?_
          simp only [Act.put, zzA, zzB, zzC]
          refine hT 6 40 rfl rfl (by kernel_rfl) (fun _ _ _ h => h) (.inl ⟨by kernel_rfl, fun w' h => by have hc : w'.cell? ⟨W2.heap.size, 0, none⟩ = some (.int .i64 (t : Int)) := (h.cell (p := ⟨W2.heap.size, 0, none⟩) (by show W2.heap.size < _; omega)).trans (cell_of_blk HE5.out 0); go_simp; rfl⟩) HE0.out ?_
          simp only [Act.put, zzA, zzB, zzC]
          refine hT 7 41 rfl rfl (by kernel_rfl) (fun _ _ _ h => h) (.inl ⟨by kernel_rfl, fun w' h => by go_simp; rfl⟩) HE0.out ?_
          simp only [Act.put, zzA, zzB, zzC]
          refine hT 8 42 rfl rfl (by kernel_rfl) (fun _ _ _ h => h) (yieldsIf_load_mid (by kernel_rfl) 135 (.tmp 41) rfl pb (t * 25) (by kernel_rfl) (clCells was).toList _ (fun w' h => fun i v hv => (h.cell (p := ⟨pb, t * 25 + i, none⟩) hlp5).trans (HR5.out i v hv)) Tryz.underlying135 rfl (by kernel_rfl)) HE0.out ?_
          simp only [Act.put, zzA, zzB, zzC]
          simp only [Array.toArray_toList]
          refine hT 9 43 rfl rfl (by kernel_rfl) (fun _ _ _ h => h) (.inl ⟨by kernel_rfl, fun w' h => exec_neqCl (.tmp 34) (.tmp 42) rfl now was (by kernel_rfl) (by kernel_rfl)⟩) HE0.out ?_
          simp only [Act.put, zzA, zzB, zzC]
          refine wpAnyH_done (by kernel_rfl) ?_ _
          have HB6 := hide (HB5.out.trans (HE0.out.mono (by have := HB5.out.size; omega)))
          have HE6 := hide ((HE0.out.block _ (blk_lt HE5.out)).trans HE5.out)
          have HN6 := hide ((HE0.out.block _ hn5).trans HN5.out)
          have HS6 := hide (HS5.out.below HE0.out)
          have hs6 := HE0.out.size
          clear HB5 HE5 HN5 HS5 HR5 HE0
          cases hq : clEq now was with
          | true =>
            have HV := hide (HVS.out hq)
            clear hq
            go_wp2
            go_roundw
            case rel =>
              refine ⟨j + 1, p2, bs2, by omega, by go_num, by rw [HFD.out]; exact HV.out, HS6.out, (HB6.out.block _ (by omega)).trans HF2.out, HBL2.out, HK2.out.trans (Keep2.of_below (HB6.out.mono (by omega)))⟩
            case measure => simp [intOf]; omega
          | false =>
            have HV := hide (HVN.out hq)
            clear hq
            have hls6 := HS6.out.lts
            have hlp6 := HS6.out.ltp
            have hln6 := blk_lt HN6.out
            have hle6 := blk_lt HE6.out
            have HF6 := hide ((HB6.out.block _ (by omega)).trans HF2.out)
            go_wp2_with fail
            refine wp_region_held (S := Keep2 w6.heap.size pb w.heap.size w6) mixed ?_
            have hb7 : Keep2 w6.heap.size pb w.heap.size w6 { w6 with drawn := w6.drawn + 1 } := Keep2.of_below (Below.refl _ _).drew
            have hF7 : ({ w6 with drawn := w6.drawn + 1 } : World).heap[w.heap.size]? = some (.cells (boolsA bs2) 4) := HF6.out
            have hC7 : ClaimsAt { w6 with drawn := w6.drawn + 1 } pb p2 := HS6.out.claims.mono rfl
            have hz7 : ({ w6 with drawn := w6.drawn + 1 } : World).heap.size = w6.heap.size := rfl
            generalize ({ w6 with drawn := w6.drawn + 1 } : World) = w7 at *
            have HE0 := hide hb7
            have HF7 := hide hF7
            have HC7 := hide hC7
            clear hb7 hF7 hC7
            refine hT 0 44 rfl rfl (by kernel_rfl) (fun _ _ _ h => h) (.inl ⟨by kernel_rfl, fun w' h => by go_simp; rfl⟩) HE0.out ?_
            simp only [Act.put, zzA, zzB, zzC]
            refine hT 1 45 rfl rfl (by kernel_rfl) (fun _ _ _ h => h) (.inl ⟨by kernel_rfl, fun w' h => by go_simp; rfl⟩) HE0.out ?_
            simp only [Act.put, zzA, zzB, zzC]
            refine hT 2 46 rfl rfl (by kernel_rfl) (fun _ _ _ h => h) (.inl ⟨by kernel_rfl, fun w' h => by go_simp; rfl⟩) HE0.out ?_
            simp only [Act.put, zzA, zzB, zzC]
            refine hT 3 47 rfl rfl (by kernel_rfl) (fun _ _ _ h => h) (.inl ⟨by kernel_rfl, fun w' h => by have hc := (h.cell (p := ⟨sb, 2, none⟩) hls6 n1 (by show sb ≠ w.heap.size; omega)).trans HS6.out.c2; go_simp; rfl⟩) HE0.out ?_
            simp only [Act.put, zzA, zzB, zzC]
            refine hT 4 48 rfl rfl (by kernel_rfl) (fun _ _ _ h => h) (.inl ⟨by kernel_rfl, fun w' h => by go_simp; rfl⟩) HE0.out ?_
            simp only [Act.put, zzA, zzB, zzC]
            refine hT 5 49 rfl rfl (by kernel_rfl) (fun _ _ _ h => h) (.inl ⟨by kernel_rfl, fun w' h => by have hc : w'.cell? ⟨W2.heap.size, 0, none⟩ = some (.int .i64 (t : Int)) := (h.cell (p := ⟨W2.heap.size, 0, none⟩) hle6 (by show W2.heap.size ≠ pb; omega) (by show W2.heap.size ≠ w.heap.size; omega)).trans (cell_of_blk HE6.out 0); go_simp; rfl⟩) HE0.out ?_
            simp only [Act.put, zzA, zzB, zzC]
            refine hT 6 50 rfl rfl (by kernel_rfl) (fun _ _ _ h => h) (.inl ⟨by kernel_rfl, fun w' h => by go_simp; rfl⟩) HE0.out ?_
            simp only [Act.put, zzA, zzB, zzC]
            refine hT 7 51 rfl rfl (by kernel_rfl) (fun _ _ _ h => h) (.inl ⟨by kernel_rfl, fun w' h => by go_simp; rfl⟩) HE0.out ?_
            simp only [Act.put, zzA, zzB, zzC]
            refine hT 8 52 rfl rfl (by kernel_rfl) (fun _ _ _ h => h) (.inl ⟨by kernel_rfl, fun w' h => by have hc : w'.cell? ⟨W2.heap.size, 0, none⟩ = some (.int .i64 (t : Int)) := (h.cell (p := ⟨W2.heap.size, 0, none⟩) hle6 (by show W2.heap.size ≠ pb; omega) (by show W2.heap.size ≠ w.heap.size; omega)).trans (cell_of_blk HE6.out 0); go_simp; rfl⟩) HE0.out ?_
            simp only [Act.put, zzA, zzB, zzC]
            refine hT 9 53 rfl rfl (by kernel_rfl) (fun _ _ _ h => h) (yields_row (by kernel_rfl) 135 (.tmp 7) rfl w4.heap.size (by kernel_rfl) (clCells now) 135 _ (fun w' h => (h.block _ hln6 (by omega) (by omega)).trans HN6.out) Tryz.underlying135 rfl (by kernel_rfl)) HE0.out ?_
            simp only [Act.put, zzA, zzB, zzC]
            refine hT 10 54 rfl rfl (by kernel_rfl) (fun _ _ _ h => h) (.inl ⟨by kernel_rfl, fun w' h => by go_simp; rfl⟩) HE0.out ?_
            simp only [Act.put, zzA, zzB, zzC]
            have hk8 := keep_setCells w6.heap.size pb (clCells now).toList (t * 25) w7
            have HP2' := HP2.out
            have hE8 : Keep2 w6.heap.size pb w.heap.size w6 (w7.setCells pb (t * 25) (clCells now).toList) := HE0.out.trans (Keep2.of_keep hk8)
            refine held_skip (i := 11) (by kernel_rfl) rfl (by kernel_rfl) (exec_storeMid 135 (.tmp 54) (.tmp 53) rfl pb (t * 25) (clCells now) (by kernel_rfl) (by kernel_rfl) (HC7.out.there (by omega)) (by kernel_rfl) (cl_one _)) hE8 ?_
            have HC8 := hide (HC7.out.set (t := t) (by omega) now (nrm now) rfl)
            have HF8 := hide ((hk8.block w.heap.size (by omega) (by omega)).trans HF7.out)
            have hz8 := setCells_size pb (clCells now).toList (t * 25) w7
            generalize w7.setCells pb (t * 25) (clCells now).toList = w8 at *
            have HE8 := hide hE8
            clear hE8 hk8 HE0 HF7 HC7
            simp only [Act.put, zzA, zzB, zzC]
            refine hT 12 55 rfl rfl (by kernel_rfl) (fun _ _ _ h => h) (.inl ⟨by kernel_rfl, fun w' h => by go_simp; rfl⟩) HE8.out ?_
            simp only [Act.put, zzA, zzB, zzC]
            have hcf : w8.cell? ⟨w.heap.size, t, none⟩ = some (.bool (bs2.getD t false)) := (cell_of_blk HF8.out t).trans (bools_get _ (by rw [HBL2.out]; exact htn))
            have hE9 : Keep2 w6.heap.size pb w.heap.size w6 (w8.setCell ⟨w.heap.size, t, none⟩ (.bool true)) := HE8.out.trans (Keep2.of_keep' ((Keep.refl _ _ _).setCell (p := ⟨w.heap.size, t, none⟩) (.inr rfl) _))
            refine held_skip (i := 13) (w' := w8.setCell ⟨w.heap.size, t, none⟩ (.bool true)) (by kernel_rfl) rfl (by kernel_rfl) (by have hff := frozen_of_blk HF8.out t; go_simp) hE9 ?_
            have HF9 : Hid ((w8.setCell ⟨w.heap.size, t, none⟩ (.bool true)).heap[w.heap.size]? = some (.cells (boolsA (bs2.set t true)) 4)) := hide (by rw [← bools_set]; exact blk_setCell HF8.out t _)
            have HC9 : Hid (ClaimsAt (w8.setCell ⟨w.heap.size, t, none⟩ (.bool true)) pb (p2.set t (nrm now))) := hide (HC8.out.mono (((Keep.refl (pb + 1) w.heap.size w8).setCell (p := ⟨w.heap.size, t, none⟩) (.inr rfl) _).block pb (by omega) (by omega)))
            have hz9 : (w8.setCell ⟨w.heap.size, t, none⟩ (.bool true)).heap.size = w8.heap.size := World.size_setCell _ _ _
            generalize w8.setCell ⟨w.heap.size, t, none⟩ (.bool true) = w9 at *
            have HE9 := hide hE9
            clear hE9 hcf HE8 HF8 HC8
            refine wpAnyH_done (by kernel_rfl) ?_ _
            have HS9 : Hid (SAt w9 sb s0 g gcap pb hb xs (p2.set t (nrm now)) ch) := hide (HS6.out.keep2 HE9.out n1 n2 n3 n4 (by omega) (by omega) (by omega) (by omega) HC9.out (by rw [List.length_set]; exact HP2.out))
            go_wp2
            go_roundw
            case rel =>
              refine ⟨j + 1, _, _, by omega, by go_num, by rw [HFD.out]; exact HV.out, HS9.out, HF9.out, by rw [List.length_set]; exact HBL2.out, HK2.out.trans ((Keep2.of_below (HB6.out.mono (by omega))).trans (HE9.out.mono (by omega)))⟩
            case measure => simp [intOf]; omega
        · obtain rfl : j = es.length := by omega
          have HFE : Hid ((List.range (k + 1)).foldl (lineV xs ch) (p, List.replicate xs.length false) = (p2, bs2)) := hide (by rw [HLV.out]; have := HFOLD.out; rwa [List.take_of_length_le (Nat.le_refl _)] at this)
          go_wp2
          go_roundw
          case rel =>
            refine ⟨k + 1, p2, bs2, by omega, by go_num, HFE.out, HS2.out, HF2.out, HBL2.out, HK1.out.trans ((HK2.out.mono (by omega)).keep (Nat.le_refl _))⟩
          case measure => simp [intOf]; omega
    · obtain rfl : k = xs.length := by omega
      have hRE : RF = (p1, bs1) := by rw [← HRF.out]; exact HFOLD.out
      subst hRE
      have hcb : ∀ i, i < bs1.length → W9.cell? ⟨w.heap.size, i, none⟩ = some (.bool (bs1.getD i false)) := fun i hi => (cell_of_blk HF.out i).trans (bools_get _ hi)
      have hHB := HSA.out.chg
      have hc3 := HSA.out.c3
      have hbll := HBL.out
      rw [← hbll] at hHB hc3
      have HCNT := hide (count_any bs1 (chF ch) sb w.heap.size hb bs1.length xs.length W9 (by omega) HCH.out n5 (by omega) hc3 hHB hcb)
      rw [hbll] at HCNT
      clear hcb hHB hc3
      go_wp2_with fail
      refine (HCNT.out).mono ?_
      rintro e w2 ⟨rfl, hB2, hK2⟩
      have hcb : ∀ i, i < bs1.length → w2.cell? ⟨w.heap.size, i, none⟩ = some (.bool (bs1.getD i false)) := fun i hi => ((hK2 (w.heap.size + 1)).cell (p := ⟨w.heap.size, i, none⟩) (by show w.heap.size < _; omega) (by show w.heap.size ≠ hb; omega)).trans ((cell_of_blk HF.out i).trans (bools_get _ hi))
      have HCON := hide (Contains_any bs1 w.heap.size xs.length w2 (by omega) hcb)
      rw [hbll] at HCON
      have hk2 := hK2 W9.heap.size
      have hchk : w2.heap[hb]? = some (.cells (arrC xs.length (chF (cntL ch bs1))) 3) := by
        have h := cnt_chF bs1 ch (by omega)
        rw [hbll] at h
        rw [hB2, h]
      have hcl2 : ClaimsAt w2 pb p1 := HSA.out.claims.mono (hk2.block pb hzp (by omega))
      have HS2 : Hid (SAt w2 sb s0 g gcap pb hb xs p1 (cntL ch bs1)) := hide ⟨(hk2.cell (p := ⟨sb, 0, none⟩) HSA.out.lts n5).trans HSA.out.c0, (hk2.cell (p := ⟨sb, 1, none⟩) HSA.out.lts n5).trans HSA.out.c1, (hk2.cell (p := ⟨sb, 2, none⟩) HSA.out.lts n5).trans HSA.out.c2, (hk2.cell (p := ⟨sb, 3, none⟩) HSA.out.lts n5).trans HSA.out.c3,
        HSA.out.tab.mono fun i _ hi => hk2.block i (by have := HSA.out.lt0; omega) (by omega), HSA.out.lines.mono (hk2.block _ HSA.out.ltg n6), hcl2, HP1.out, hchk, Nat.le_trans HSA.out.lt0 hk2.size, Nat.lt_of_lt_of_le HSA.out.lts hk2.size, Nat.lt_of_lt_of_le HSA.out.ltp hk2.size⟩
      have HK2 : Hid (Keep2 w.heap.size pb hb w w2) := hide ((Keep2.of_keep HK.out).trans (Keep2.of_keep' (hk2.mono (by omega))))
      clear hB2 hK2 hcb hk2 hchk hcl2 hbll HCNT
      go_wp2_with fail
      refine (HCON.out).mono ?_
      rintro e w3 ⟨rfl, rfl⟩
      go_wp2
      go_ret
      exact ⟨rfl, HS2.out, HK2.out⟩
end Go.Proofs.YtngopilbpiplhaaGreatDoor

namespace Go.Proofs.YtngopilbpiplhaaGreatDoor
open Go.RowKit
set_option linter.unusedVariables false
set_option linter.unusedSimpArgs false
def atOf : Option Nat → Int
  | some k => (k : Int)
  | none => -1
theorem unmet_none {xs : List Ln} {p : List Cl} (h : ∀ j, j < xs.length → unmetAt xs p j = false) : unmetF xs p = none := by
  unfold unmetF
  rw [List.find?_eq_none]
  intro j hj
  rw [h j (by simpa using hj)]
  simp
theorem unmet_some {xs : List Ln} {p : List Cl} {k : Nat} (hk : k < xs.length) (h : ∀ j, j < k → unmetAt xs p j = false) (hy : unmetAt xs p k = true) : unmetF xs p = some k := by
  unfold unmetF
  rw [List.find?_range_eq_some]
  exact ⟨hy, by simpa using hk, fun j hj => by rw [h j hj]; rfl⟩
set_option maxRecDepth 100000 in
set_option maxHeartbeats 8000000 in
theorem unmet_any (sb s0 g gcap pb hb : Nat) (xs : List Ln) (p : List Cl) (ch : List Int) (w : World) (hn : xs.length ≤ 100) (hS : SAt w sb s0 g gcap pb hb xs p ch) (hW : ∀ (k : Nat) (x : Ln), xs[k]? = some x → LineW s0 x) :
    Calls Tryz.prog 119 #[.pointer (some ⟨sb, 0, none⟩)] w fun e w' => e = .returned (.int .i64 (atOf (unmetF xs p))) ∧ Below w.heap.size w w' := by
  have hp := hS.plen
  have c2 := hS.c2
  have HP := hide hp
  have HS := hide hS
  have HW := hide hW
  clear hS hW hp
  go_enter Tryz.func119, Tryz.ntmps119
  go_wp2_with fail
  clear c2
  go_loopw [11] (fun iv w' => ∃ k : Nat, k ≤ xs.length ∧ iv = .int .i64 k ∧ (∀ j, j < k → unmetAt xs p j = false) ∧ Below w.heap.size w w') (fun iv _ => xs.length - (intOf iv).toNat)
  case atStart => exact ⟨0, Nat.zero_le _, rfl, fun j hj => absurd hj (by omega), Below.refl _ _⟩
  case round =>
    obtain ⟨k, hk, rfl, hno, hB⟩ := hrel
    have HNO := hide hno
    have HB := hide hB
    clear hno hB
    obtain ⟨W9, hW9⟩ : ∃ W : World, W = wr := ⟨_, rfl⟩
    subst hW9
    by_cases hlt : k < xs.length
    · have hltI : (k : Int) < (xs.length : Int) := by omega
      obtain ⟨x, hx⟩ : ∃ x, xs[k]? = some x := ⟨_, List.getElem?_eq_getElem hlt⟩
      obtain ⟨c, hc⟩ : ∃ c, p[k]? = some c := ⟨_, List.getElem?_eq_getElem (by rw [HP.out]; exact hlt)⟩
      have HU : Hid (unmetAt xs p k = (!c.never && !metW x.word.toNat c x)) := hide (by unfold unmetAt; rw [hx, hc])
      have hLW := HW.out k x hx
      have hrow := hLW.row
      have hword := hLW.word
      have hmet := hLW.met
      have HS9 := hide (HS.out.below HB.out)
      have HRC := hide (HS9.out.claims.2 k c hc)
      have hRl := HS9.out.lines.range hlt
      rw [show xs[k] = x from by have := List.getElem?_eq_getElem hlt; rw [this] at hx; exact Option.some.inj hx] at hRl
      have HRL := hide hRl
      generalize x.word.toNat = i at *
      have HWORD := hide hword
      have HMET := hide hmet
      have hltp := HS9.out.ltp
      have hltg := HS9.out.ltg
      have hlts := HS9.out.lts
      have hlt0 := HS9.out.lt0
      clear hx hc hLW hword hmet hRl
      go_wp2_with (first | (refine wpList_load_mid rfl 135 (.tmp 14) rfl pb (k * 25) rfl (clCells c).toList _ HRC.out Tryz.underlying135 rfl (by kernel_rfl) ?_) | (refine wpList_storeCl rfl (.tmp 4) (.tmp 15) rfl W9.heap.size (clCells c) _ _ rfl rfl (blk_new W9 _) (cl_size _) rfl (cl_one _) ?_))
      intro w1 hw1
      have hb1 : Below W9.heap.size W9 w1 := by rw [hw1.out]; exact below_setG ((Below.refl _ _).alloc (Nat.le_refl _) _) (Nat.le_refl _) _
      have HC1 : Hid (w1.heap[W9.heap.size]? = some (clB c)) := hide (by rw [hw1.out]; exact setRow_heap _ _ _ _ _ _ (blk_new W9 _))
      have hlc := blk_lt HC1.out
      have HB1 := hide hb1
      have HRL1 : Hid (w1.rangeAt g (k * 4) (lnArr x).toList) := hide fun i v hv => (hb1.cell (p := ⟨g, k * 4 + i, none⟩) hltg).trans (HRL.out i v hv)
      have c11 : w1.cell? ⟨sb, 1, none⟩ = _ := (hb1.cell (p := ⟨sb, 1, none⟩) hlts).trans HS9.out.c1
      clear hw1 hb1 HRL HRC
      go_wp2_with (first | (refine wpList_load_mid rfl 122 (.tmp 21) rfl g (k * 4) rfl (lnArr x).toList _ HRL1.out Tryz.underlying122 rfl (by kernel_rfl) ?_) | (refine wpList_storeRw rfl 122 (.tmp 5) (.tmp 22) rfl w1.heap.size (lnArr x) _ rfl rfl (blk_new w1 _) (by kernel_rfl) rfl (by simp [lnArr, Value.oneCell']) ?_))
      intro w2 hw2
      have hb2 : Below w1.heap.size w1 w2 := by rw [hw2.out]; exact below_setG ((Below.refl _ _).alloc (Nat.le_refl _) _) (Nat.le_refl _) _
      have HL2 : Hid (w2.heap[w1.heap.size]? = some (lnB x)) := hide (by rw [hw2.out]; exact setRow_heap _ _ _ _ _ _ (blk_new w1 _))
      have HC2 := hide ((hb2.block _ hlc).trans HC1.out)
      have hll := blk_lt HL2.out
      have HB2 := hide (HB1.out.trans (hb2.mono HB1.out.size))
      have hs12 := HB2.out.size
      have HS2 := hide (HS9.out.below HB2.out)
      have HRW := hide (wordA_range HS2.out.tab hrow)
      have hls2 := HS2.out.lts
      have hlw2 := HS2.out.lt0
      have hrowI : (i : Int) < 17 := by omega
      have hwd : (lnArr x)[0]? = some (.int .i64 (i : Int)) := by rw [← HWORD.out]; rfl
      have HWD := hide hwd
      clear hw2 hb2 HC1 HB1 HRL1 c11 hwd
      go_wp2_with fail
      refine wp_region_held (S := Below w2.heap.size w2) mixed ?_
      have hb3 : Below w2.heap.size w2 { w2 with drawn := w2.drawn + 1 } := (Below.refl _ _).drew
      generalize ({ w2 with drawn := w2.drawn + 1 } : World) = w3 at *
      have HE0 := hide hb3
      clear hb3
      cases hcn : c.never with
      | true =>
        have HCN := hide hcn
        clear hcn
        refine hT 0 23 rfl rfl (by kernel_rfl) (fun _ _ _ h => h) (.inl ⟨by kernel_rfl, fun w' h => by go_simp; rfl⟩) HE0.out ?_
        simp only [Act.put, zzA, zzB, zzC]
        refine hT 1 24 rfl rfl (by kernel_rfl) (fun _ _ _ h => h) (.inl ⟨by kernel_rfl, fun w' h => by have hc : w'.cell? ⟨W9.heap.size, 0, none⟩ = some (.bool true) := (by rw [h.cell (p := ⟨W9.heap.size, 0, none⟩) (by show W9.heap.size < _; omega), cell_of_blk HC2.out 0, cl_never, HCN.out]); go_simp; rfl⟩) HE0.out ?_
        simp only [Act.put, zzA, zzB, zzC]
        refine hT 2 25 rfl rfl (by kernel_rfl) (fun _ _ _ h => h) (.inl ⟨by kernel_rfl, fun w' h => by go_simp; rfl⟩) HE0.out ?_
        simp only [Act.put, zzA, zzB, zzC]
        refine hT 3 26 rfl rfl (by kernel_rfl) (fun _ _ _ h => h) (.inl ⟨by kernel_rfl, fun w' h => by go_simp; rfl⟩) HE0.out ?_
        simp only [Act.put, zzA, zzB, zzC]
        refine hT 4 27 rfl rfl (by kernel_rfl) (fun _ _ _ h => h) (.inr ⟨by kernel_rfl, rfl⟩) HE0.out ?_
        simp only [Act.put, zzA, zzB, zzC]
        refine hT 5 28 rfl rfl (by kernel_rfl) (fun _ _ _ h => h) (.inr ⟨by kernel_rfl, rfl⟩) HE0.out ?_
        simp only [Act.put, zzA, zzB, zzC]
        refine hT 6 29 rfl rfl (by kernel_rfl) (fun _ _ _ h => h) (.inr ⟨by kernel_rfl, rfl⟩) HE0.out ?_
        simp only [Act.put, zzA, zzB, zzC]
        refine hT 7 30 rfl rfl (by kernel_rfl) (fun _ _ _ h => h) (.inr ⟨by kernel_rfl, rfl⟩) HE0.out ?_
        simp only [Act.put, zzA, zzB, zzC]
        refine hT 8 31 rfl rfl (by kernel_rfl) (fun _ _ _ h => h) (.inr ⟨by kernel_rfl, rfl⟩) HE0.out ?_
        simp only [Act.put, zzA, zzB, zzC]
        refine hT 9 32 rfl rfl (by kernel_rfl) (fun _ _ _ h => h) (.inr ⟨by kernel_rfl, rfl⟩) HE0.out ?_
        simp only [Act.put, zzA, zzB, zzC]
        refine hT 10 33 rfl rfl (by kernel_rfl) (fun _ _ _ h => h) (.inr ⟨by kernel_rfl, rfl⟩) HE0.out ?_
        simp only [Act.put, zzA, zzB, zzC]
        refine hT 11 34 rfl rfl (by kernel_rfl) (fun _ _ _ h => h) (.inr ⟨by kernel_rfl, rfl⟩) HE0.out ?_
        simp only [Act.put, zzA, zzB, zzC]
        refine hT 12 35 rfl rfl (by kernel_rfl) (fun _ _ _ h => h) (.inr ⟨by kernel_rfl, rfl⟩) HE0.out ?_
        simp only [Act.put, zzA, zzB, zzC]
        refine hT 13 36 rfl rfl (by kernel_rfl) (fun _ _ _ h => h) (.inr ⟨by kernel_rfl, rfl⟩) HE0.out ?_
        simp only [Act.put, zzA, zzB, zzC]
        refine hT 14 37 rfl rfl (by kernel_rfl) (fun _ _ _ h => h) (.inr ⟨by kernel_rfl, rfl⟩) HE0.out ?_
        simp only [Act.put, zzA, zzB, zzC]
        refine hT 15 38 rfl rfl (by kernel_rfl) (fun _ _ _ h => h) (.inr ⟨by kernel_rfl, rfl⟩) HE0.out ?_
        simp only [Act.put, zzA, zzB, zzC]
        refine hT 16 39 rfl rfl (by kernel_rfl) (fun _ _ _ h => h) (.inl ⟨by kernel_rfl, fun w' h => by go_simp; rfl⟩) HE0.out ?_
        simp only [Act.put, zzA, zzB, zzC]
        refine wpAnyH_done (by kernel_rfl) ?_ _
        have HU2 : Hid (unmetAt xs p k = false) := hide (by rw [HU.out, HCN.out]; rfl)
        have HB4 := hide (HB.out.trans ((HB2.out.trans (HE0.out.mono hs12)).mono HB.out.size))
        go_wp2
        go_roundw
        case rel =>
          refine ⟨k + 1, by omega, by go_num, fun j hj => ?_, HB4.out⟩
          rcases Nat.lt_succ_iff_lt_or_eq.1 hj with h | h
          · exact HNO.out j h
          · rw [h]; exact HU2.out
        case measure => simp [intOf]; omega
      | false =>
        have HCN := hide hcn
        clear hcn
        refine hT 0 23 rfl rfl (by kernel_rfl) (fun _ _ _ h => h) (.inl ⟨by kernel_rfl, fun w' h => by go_simp; rfl⟩) HE0.out ?_
        simp only [Act.put, zzA, zzB, zzC]
        refine hT 1 24 rfl rfl (by kernel_rfl) (fun _ _ _ h => h) (.inl ⟨by kernel_rfl, fun w' h => by have hc : w'.cell? ⟨W9.heap.size, 0, none⟩ = some (.bool false) := (by rw [h.cell (p := ⟨W9.heap.size, 0, none⟩) (by show W9.heap.size < _; omega), cell_of_blk HC2.out 0, cl_never, HCN.out]); go_simp; rfl⟩) HE0.out ?_
        simp only [Act.put, zzA, zzB, zzC]
        refine hT 2 25 rfl rfl (by kernel_rfl) (fun _ _ _ h => h) (.inl ⟨by kernel_rfl, fun w' h => by go_simp; rfl⟩) HE0.out ?_
        simp only [Act.put, zzA, zzB, zzC]
        refine hT 3 26 rfl rfl (by kernel_rfl) (fun _ _ _ h => h) (.inl ⟨by kernel_rfl, fun w' h => by go_simp; rfl⟩) HE0.out ?_
        simp only [Act.put, zzA, zzB, zzC]
        refine hT 4 27 rfl rfl (by kernel_rfl) (fun _ _ _ h => h) (.inl ⟨by kernel_rfl, fun w' h => by go_simp; rfl⟩) HE0.out ?_
        simp only [Act.put, zzA, zzB, zzC]
        refine hT 5 28 rfl rfl (by kernel_rfl) (fun _ _ _ h => h) (.inl ⟨by kernel_rfl, fun w' h => by go_simp; rfl⟩) HE0.out ?_
        simp only [Act.put, zzA, zzB, zzC]
        refine hT 6 29 rfl rfl (by kernel_rfl) (fun _ _ _ h => h) (.inl ⟨by kernel_rfl, fun w' h => by go_simp; rfl⟩) HE0.out ?_
        simp only [Act.put, zzA, zzB, zzC]
        refine hT 7 30 rfl rfl (by kernel_rfl) (fun _ _ _ h => h) (.inl ⟨by kernel_rfl, fun w' h => by have hc := (h.cell (p := ⟨sb, 0, none⟩) hls2).trans HS2.out.c0; go_simp; rfl⟩) HE0.out ?_
        simp only [Act.put, zzA, zzB, zzC]
        refine hT 8 31 rfl rfl (by kernel_rfl) (fun _ _ _ h => h) (.inl ⟨by kernel_rfl, fun w' h => by go_simp; rfl⟩) HE0.out ?_
        simp only [Act.put, zzA, zzB, zzC]
        refine hT 9 32 rfl rfl (by kernel_rfl) (fun _ _ _ h => h) (.inl ⟨by kernel_rfl, fun w' h => by have hc : w'.cell? ⟨w1.heap.size, 0, none⟩ = some (.int .i64 (i : Int)) := ((h.cell (p := ⟨w1.heap.size, 0, none⟩) hll).trans (cell_of_blk HL2.out 0)).trans HWD.out; go_simp; rfl⟩) HE0.out ?_
        simp only [Act.put, zzA, zzB, zzC]
        refine hT 10 33 rfl rfl (by kernel_rfl) (fun _ _ _ h => h) (.inl ⟨by kernel_rfl, fun w' h => by go_simp; rfl⟩) HE0.out ?_
        simp only [Act.put, zzA, zzB, zzC]
        refine hT 11 34 rfl rfl (by kernel_rfl) (fun _ _ _ h => h) (yieldsIf_load_mid (by kernel_rfl) 140 (.tmp 33) rfl (s0 + 55) (i * 8) (by kernel_rfl) (wordA s0 i).toList _ (fun w' h => fun j v hv => (h.cell (p := ⟨s0 + 55, i * 8 + j, none⟩) (by show s0 + 55 < _; omega)).trans (HRW.out j v hv)) Tryz.underlying140 rfl (by kernel_rfl)) HE0.out ?_
        simp only [Act.put, zzA, zzB, zzC]
        simp only [Array.toArray_toList]
        refine hT 12 35 rfl rfl (by kernel_rfl) (fun _ _ _ h => h) (yields_row (by kernel_rfl) 135 (.tmp 4) rfl W9.heap.size (by kernel_rfl) (clCells c) 135 _ (fun w' h => (h.block _ (by omega)).trans HC2.out) Tryz.underlying135 rfl (by kernel_rfl)) HE0.out ?_
        simp only [Act.put, zzA, zzB, zzC]
        refine hT 13 36 rfl rfl (by kernel_rfl) (fun _ _ _ h => h) (yields_row (by kernel_rfl) 122 (.tmp 5) rfl w1.heap.size (by kernel_rfl) (lnArr x) 122 _ (fun w' h => (h.block _ hll).trans HL2.out) Tryz.underlying122 rfl (by kernel_rfl)) HE0.out ?_
        simp only [Act.put, zzA, zzB, zzC]
        refine held_call (i := 14) (some 37) (by kernel_rfl) rfl rfl (by kernel_rfl) (by go_simp; exact ⟨rfl, rfl⟩) ?_
        refine (HMET.out c w3 (HS2.out.below HE0.out).tab).mono ?_
        rintro e w4 ⟨rfl, hb4⟩
        have HE4 := hide (HE0.out.trans (hb4.mono HE0.out.size))
        clear hb4
        refine ⟨_, rfl, HE4.out, ?_⟩
        simp only [Act.put, zzA, zzB, zzC]
        cases hm : metW i c x with
        | false =>
          have HM := hide hm
          clear hm
          refine hT 15 38 rfl rfl (by kernel_rfl) (fun _ _ _ h => h) (.inl ⟨by kernel_rfl, fun w' h => by go_simp; rfl⟩) HE4.out ?_
          simp only [Act.put, zzA, zzB, zzC]
          refine hT 16 39 rfl rfl (by kernel_rfl) (fun _ _ _ h => h) (.inl ⟨by kernel_rfl, fun w' h => by go_simp; rfl⟩) HE4.out ?_
          simp only [Act.put, zzA, zzB, zzC]
          refine wpAnyH_done (by kernel_rfl) ?_ _
          have HB4 := hide (HB.out.trans ((HB2.out.trans (HE4.out.mono hs12)).mono HB.out.size))
          have HU2 : Hid (unmetF xs p = some k) := hide (unmet_some hlt HNO.out (by rw [HU.out, HCN.out, HM.out]; rfl))
          go_wp2
          go_ret
          exact ⟨by rw [HU2.out]; rfl, HB4.out⟩
        | true =>
          have HM := hide hm
          clear hm
          refine hT 15 38 rfl rfl (by kernel_rfl) (fun _ _ _ h => h) (.inl ⟨by kernel_rfl, fun w' h => by go_simp; rfl⟩) HE4.out ?_
          simp only [Act.put, zzA, zzB, zzC]
          refine hT 16 39 rfl rfl (by kernel_rfl) (fun _ _ _ h => h) (.inl ⟨by kernel_rfl, fun w' h => by go_simp; rfl⟩) HE4.out ?_
          simp only [Act.put, zzA, zzB, zzC]
          refine wpAnyH_done (by kernel_rfl) ?_ _
          have HB4 := hide (HB.out.trans ((HB2.out.trans (HE4.out.mono hs12)).mono HB.out.size))
          have HU2 : Hid (unmetAt xs p k = false) := hide (by rw [HU.out, HCN.out, HM.out]; rfl)
          go_wp2
          go_roundw
          case rel =>
            refine ⟨k + 1, by omega, by go_num, fun j hj => ?_, HB4.out⟩
            rcases Nat.lt_succ_iff_lt_or_eq.1 hj with h | h
            · exact HNO.out j h
            · rw [h]; exact HU2.out
          case measure => simp [intOf]; omega
    · obtain rfl : k = xs.length := by omega
      have HU2 : Hid (unmetF xs p = none) := hide (unmet_none HNO.out)
      go_wp2
      go_ret
      exact ⟨by rw [HU2.out]; rfl, HB.out⟩
end Go.Proofs.YtngopilbpiplhaaGreatDoor

namespace Go.Proofs.YtngopilbpiplhaaGreatDoor
open Go.RowKit
set_option linter.unusedVariables false
theorem infoCl : (Tryz.prog.info? 135).map (fun i => (i.zero, i.size, i.bytes)) = some (some (.agg (clCells clNone)), 25, 144) := by kernel_rfl
theorem made_get (z : Array Value) (hz : z.size = 25) (n k j : Nat) (hk : k < n) (hj : j < 25) : (madeCells z (n * 25))[k * 25 + j]? = z[j]? := by
  have h1 : k * 25 + j < n * 25 := by omega
  have h2 : (k * 25 + j) % 25 = j := by omega
  have h3 : j < z.size := by omega
  simp [madeCells, h1, hz, h2]
  rw [getElem!_pos z j h3, Array.getElem?_eq_getElem h3]
theorem claims_made (w : World) (n : Nat) : ClaimsAt (w.alloc (.cells (madeCells (clCells clNone) (n * 25)) 135)) w.heap.size (List.replicate n clNone) := by
  have hb := blk_new w (.cells (madeCells (clCells clNone) (n * 25)) 135)
  refine ⟨fun j hj => ?_, fun k c hk j v hv => ?_⟩
  · rw [List.length_replicate] at hj
    rw [Nat.zero_add, cell_of_blk hb, frozen_of_blk hb]
    refine ⟨?_, rfl⟩
    have hs : j < (madeCells (clCells clNone) (n * 25)).size := by rw [size_madeCells]; exact hj
    rw [Array.getElem?_eq_getElem hs]
    rfl
  · obtain ⟨hk1, hk2⟩ := List.getElem?_eq_some_iff.1 hk
    rw [List.length_replicate] at hk1
    have : c = clNone := by rw [← hk2]; simp
    subst this
    have hj : j < 25 := (List.getElem?_eq_some_iff.1 hv).1
    rw [cell_of_blk hb, made_get _ rfl n k j hk1 hj]
    simpa using hv
theorem set_never (n k : Nat) (h : k < n) : (List.replicate k clNever ++ List.replicate (n - k) clNone).set k clNever = List.replicate (k + 1) clNever ++ List.replicate (n - (k + 1)) clNone := by
  rw [show n - k = (n - (k + 1)) + 1 by omega, List.replicate_succ, List.set_append_right _ _ (by simp)]
  simp [List.replicate_succ']
theorem made_ints (n : Nat) : madeCells #[.int .i64 0] n = arrC n (chF (List.replicate n 0)) := by
  apply Array.ext_getElem?
  intro j
  by_cases h : j < n
  · rw [arrC_get _ _ h]
    have h1 : j % 1 = 0 := Nat.mod_one j
    simp [madeCells, h, chF, Nat.mod_one]
  · simp [madeCells, arrC, h]
/-- A claim stored among claims. -/
theorem wpList_storeMidCl {ops : Array Oper} {rest : List Oper} {o : Oper} {a : Act} {w : World} {Q : Exit → Act → World → Prop} (hgd : o.guard = none) (x y : Operand) (ho : o.op = .store 135 x y) (b p : Nat) (c : Cl) (hx : a.eval x = .pointer (some ⟨b, p, none⟩)) (hy : a.eval y = .agg (clCells c))
    (ht : Hid (w.there b p 25)) (h : ∀ w', Hid (w' = w.setCells b p (clCells c).toList) → wpList Tryz.prog ops Q rest (a.put o.dst undef) w') : wpList Tryz.prog ops Q (o :: rest) a w :=
  wpList_store_mid hgd 135 x y ho b p (clCells c) hx hy ht.out (by kernel_rfl) (cl_one c) (h _ (hide rfl))
set_option maxRecDepth 100000 in
set_option maxHeartbeats 1000000 in
theorem begin_any (s0 g gcap : Nat) (xs : List Ln) (w : World) (hn : xs.length ≤ 100) (h0 : 0 < xs.length) (hT : Table s0 w) (hts : s0 + 56 ≤ w.heap.size) (hL : LinesAt w g xs) :
    Calls Tryz.prog 117 #[.slice (some ⟨s0 + 55, 0, none⟩) 17 17, .slice (some ⟨g, 0, none⟩) xs.length gcap] w
      fun e w' => ∃ sb hb : Nat, e = .returned (.pointer (some ⟨sb, 0, none⟩)) ∧ SAt w' sb s0 g gcap w.heap.size hb xs (start0 xs.length).1 (start0 xs.length).2 ∧ Below w.heap.size w w' ∧ w.heap.size < hb ∧ hb < sb := by
  obtain ⟨i0, hi, hz0, hz1, hz2⟩ := info_parts infoCl
  have hmk := run_make (P := Tryz.prog) w 91 135 i0 _ Tryz.underlying91 hi hz0 .i64 .i64 (xs.length : Int) (xs.length : Int) (by omega) (by omega) (by rw [hz2]; omega) (by omega)
  simp only [Int.toNat_natCast, hz1, show (Value.agg (clCells clNone)).cells = clCells clNone from rfl] at hmk
  have hmi := run_make_row' (P := Tryz.prog) 22 3 (.int .i64 0) 8 Tryz.underlying22 (by kernel_rfl) rfl .i64 .i64 xs.length (by omega) (by omega)
  rw [made_ints] at hmi
  have HMI := hide hmi
  have hC0 := claims_made w xs.length
  have hb0 : Below w.heap.size w (w.alloc (.cells (madeCells (clCells clNone) (xs.length * 25)) 135)) := (Below.refl _ _).alloc (Nat.le_refl _) _
  have hs0 : (w.alloc (.cells (madeCells (clCells clNone) (xs.length * 25)) 135)).heap.size = w.heap.size + 1 := World.size_alloc _ _
  have HT := hide hT
  have HL := hide hL
  have hlg := hL.lt
  clear hi hz0 hz1 hz2 hT hL hmi
  go_enter Tryz.func117, Tryz.ntmps117
  go_wp2_with fail
  clear hmk
  generalize w.alloc (.cells (madeCells (clCells clNone) (xs.length * 25)) 135) = W0 at *
  have HC0 := hide hC0
  have HB0 := hide hb0
  clear hC0 hb0
  go_loopw [12] (fun iv w' => ∃ k : Nat, k ≤ xs.length ∧ iv = .int .i64 k ∧ ClaimsAt w' w.heap.size (List.replicate k clNever ++ List.replicate (xs.length - k) clNone) ∧ Below w.heap.size w w' ∧ w.heap.size < w'.heap.size) (fun iv _ => xs.length - (intOf iv).toNat)
  case atStart => exact ⟨0, Nat.zero_le _, rfl, HC0.out, HB0.out, by omega⟩
  case round =>
    obtain ⟨k, hk, rfl, hC, hB, hsz⟩ := hrel
    have HC := hide hC
    have HB := hide hB
    clear hC hB
    obtain ⟨W9, hW9⟩ : ∃ W : World, W = wr := ⟨_, rfl⟩
    subst hW9
    by_cases hlt : k < xs.length
    · have hltI : (k : Int) < (xs.length : Int) := by omega
      go_wp2_with fail
      refine (Never_any W9).mono ?_
      rintro e w1 ⟨rfl, hw1⟩
      have hb1 : Below W9.heap.size W9 w1 := by rw [hw1]; exact (Below.refl _ _).alloc (Nat.le_refl _) _
      have HC1 := hide (HC.out.mono (hb1.block _ hsz))
      have HB1 := hide (HB.out.trans (hb1.mono HB.out.size))
      have hs1 := hb1.size
      clear hw1 hb1
      have hl : (List.replicate k clNever ++ List.replicate (xs.length - k) clNone).length = xs.length := by simp; omega
      have HTH : Hid (w1.there w.heap.size (k * 25) 25) := hide (HC1.out.there (by omega))
      go_wp2_with (refine wpList_storeMidCl rfl (.tmp 18) (.tmp 17) rfl w.heap.size (k * 25) clNever rfl rfl HTH ?_)
      intro w2 hw2
      have HC2 := hide (HC1.out.set (t := k) (by omega) clNever clNever rfl)
      rw [← hw2.out] at HC2
      have HK2 := hide (keep_setCells w.heap.size w.heap.size (clCells clNever).toList (k * 25) w1)
      rw [← hw2.out] at HK2
      have hs2 := setCells_size w.heap.size (clCells clNever).toList (k * 25) w1
      rw [← hw2.out] at hs2
      clear hw2
      go_wp2
      go_roundw
      case rel =>
        refine ⟨k + 1, by omega, by go_num, ?_, HB1.out.trans (HK2.out.below (Nat.le_refl _)), by omega⟩
        rw [← set_never _ _ hlt]
        exact HC2.out
      case measure => simp [intOf]; omega
    · obtain rfl : k = xs.length := by omega
      go_wp2_with fail
      refine (Start_any W9).mono ?_
      rintro e w1 ⟨rfl, hb1⟩
      have HC1 := hide (HC.out.mono (hb1.block _ hsz))
      have HB1 := hide (HB.out.trans (hb1.mono HB.out.size))
      have hs1 := hb1.size
      clear hb1
      have hl : (List.replicate xs.length clNever ++ List.replicate (xs.length - xs.length) clNone).length = xs.length := by simp
      have h0I : (0 : Int) < (xs.length : Int) := by omega
      have HTH : Hid (w1.there w.heap.size 0 25) := hide (HC1.out.there (t := 0) (by omega))
      go_wp2_with (refine wpList_storeMidCl rfl (.tmp 22) (.tmp 21) rfl w.heap.size 0 clStart rfl rfl HTH ?_)
      intro w2 hw2
      have HC2 := hide (HC1.out.set (t := 0) (by omega) clStart clStart rfl)
      rw [Nat.zero_mul, ← hw2.out] at HC2
      have HK2 := hide (keep_setCells w.heap.size w.heap.size (clCells clStart).toList 0 w1)
      rw [← hw2.out] at HK2
      have hs2 := setCells_size w.heap.size (clCells clStart).toList 0 w1
      rw [← hw2.out] at hs2
      clear hw2
      have hmi := HMI.out
      go_wp2
      have hB2 : Below w.heap.size w w2 := HB1.out.trans (HK2.out.below (Nat.le_refl _))
      have hH := blk_new w2 (.cells (arrC xs.length (chF (List.replicate xs.length 0))) 3)
      have hsA : (w2.alloc (.cells (arrC xs.length (chF (List.replicate xs.length 0))) 3)).heap.size = w2.heap.size + 1 := World.size_alloc _ _
      have hBA : Below w2.heap.size w2 (w2.alloc (.cells (arrC xs.length (chF (List.replicate xs.length 0))) 3)) := (Below.refl _ _).alloc (Nat.le_refl _) _
      generalize w2.alloc (.cells (arrC xs.length (chF (List.replicate xs.length 0))) 3) = w3 at *
      have hS := blk_new w3 (.cells #[.slice (some ⟨s0 + 55, 0, none⟩) 17 17, .slice (some ⟨g, 0, none⟩) xs.length gcap, .slice (some ⟨w.heap.size, 0, none⟩) xs.length xs.length, .slice (some ⟨w1.heap.size, 0, none⟩) xs.length xs.length] 196)
      have hsB : (w3.alloc (.cells #[.slice (some ⟨s0 + 55, 0, none⟩) 17 17, .slice (some ⟨g, 0, none⟩) xs.length gcap, .slice (some ⟨w.heap.size, 0, none⟩) xs.length xs.length, .slice (some ⟨w1.heap.size, 0, none⟩) xs.length xs.length] 196)).heap.size = w3.heap.size + 1 := World.size_alloc _ _
      have hBB : Below w3.heap.size w3 (w3.alloc (.cells #[.slice (some ⟨s0 + 55, 0, none⟩) 17 17, .slice (some ⟨g, 0, none⟩) xs.length gcap, .slice (some ⟨w.heap.size, 0, none⟩) xs.length xs.length, .slice (some ⟨w1.heap.size, 0, none⟩) xs.length xs.length] 196)) := (Below.refl _ _).alloc (Nat.le_refl _) _
      generalize w3.alloc (.cells #[.slice (some ⟨s0 + 55, 0, none⟩) 17 17, .slice (some ⟨g, 0, none⟩) xs.length gcap, .slice (some ⟨w.heap.size, 0, none⟩) xs.length xs.length, .slice (some ⟨w1.heap.size, 0, none⟩) xs.length xs.length] 196) = w4 at *
      have hB24 : Below w2.heap.size w2 w4 := hBA.trans (hBB.mono (by omega))
      have hB4 : Below w.heap.size w w4 := hB2.trans (hB24.mono (by omega))
      have hS4 : SAt w4 (w1.heap.size + 1) s0 g gcap w.heap.size w1.heap.size xs (start0 xs.length).1 (start0 xs.length).2 := by
        have hz : w3.heap.size = w1.heap.size + 1 := by omega
        rw [hz] at hS
        rw [hs2] at hH
        refine ⟨cell_of_blk hS 0, cell_of_blk hS 1, cell_of_blk hS 2, cell_of_blk hS 3, HT.out.mono fun j _ hj => hB4.block j (by omega), HL.out.mono (hB4.block _ hlg), ?_, by simp [start0], (hBB.block _ (by omega)).trans hH, by omega, by omega, by omega⟩
        have := HC2.out.mono (hB24.block w.heap.size (by omega))
        rwa [Nat.sub_self, List.replicate_zero, List.append_nil] at this
      go_ret
      exact ⟨_, _, rfl, hS4, hB4, by omega, by omega⟩
end Go.Proofs.YtngopilbpiplhaaGreatDoor

namespace Go.Proofs.YtngopilbpiplhaaGreatDoor
open Go.RowKit
set_option linter.unusedVariables false
theorem chF_zero (n j : Nat) : chF (List.replicate n 0) j = 0 := by
  simp only [chF, List.getD_eq_getElem?_getD, List.getElem?_replicate]
  split <;> rfl
theorem chF_cnt (ch : List Int) (bs : List Bool) (h : ch.length = bs.length) (j : Nat) : chF ch j ≤ chF (cntL ch bs) j ∧ chF (cntL ch bs) j ≤ chF ch j + 1 := by
  by_cases hj : j < ch.length
  · have hb : j < bs.length := by omega
    simp only [chF, cntL, List.getD_eq_getElem?_getD, List.getElem?_zipWith, List.getElem?_eq_getElem hj, List.getElem?_eq_getElem hb, Option.getD_some]
    generalize ch[j] = c
    by_cases q : bs[j] = true
    · rw [if_pos q]; omega
    · rw [if_neg q]; omega
  · have e1 : chF ch j = 0 := by simp [chF, List.getD_eq_getElem?_getD, List.getElem?_eq_none (by omega : ch.length ≤ j)]
    have e2 : chF (cntL ch bs) j = 0 := by simp [chF, List.getD_eq_getElem?_getD, List.getElem?_eq_none (by rw [cntL_len bs ch h]; omega : (cntL ch bs).length ≤ j)]
    omega
theorem keep2_below {B b c : Nat} {u w w' : World} (h : Below B u w) (hk : Keep2 w.heap.size b c w w') (hb : B ≤ b) (hc : B ≤ c) (hB : B ≤ w.heap.size) : Below B u w' :=
  h.trans ⟨hk.os, hk.tape, hk.output, hk.size, fun k hk' => hk.block k (by omega) (by omega) (by omega)⟩
/-- What the search for a proof answers. -/
def ProveRes (xs : List Ln) (p : List Cl) (w : World) (e : Ending) (w' : World) : Prop :=
  Below w.heap.size w w' ∧ ((∃ k : Nat, unmetF xs p = some k ∧ e = .returned (.tuple #[.slice none 0 0, .int .i64 (k : Int)])) ∨
    (unmetF xs p = none ∧ e = .returned (.tuple #[.slice (some ⟨w.heap.size, 0, none⟩) xs.length xs.length, .int .i64 (-1)]) ∧ ClaimsAt w' w.heap.size p ∧ p.length = xs.length ∧ w.heap.size < w'.heap.size))
set_option maxRecDepth 100000 in
set_option maxHeartbeats 4000000 in
theorem Prove_any (s0 g gcap : Nat) (xs : List Ln) (w : World) (f : Nat) (hf : f ≤ 100000) (END : List Cl × List Int) (hE : searchF xs f (start0 xs.length) = some END) (hn : xs.length ≤ 100) (h0 : 0 < xs.length)
    (hT : Table s0 w) (hts : s0 + 56 ≤ w.heap.size) (hL : LinesAt w g xs) (hW : ∀ (k : Nat) (x : Ln), xs[k]? = some x → LineW s0 x)
    (hTo : ∀ (k : Nat) (x : Ln), xs[k]? = some x → ∀ c, ∀ e ∈ exitsOf x c k, ∃ t : Nat, e.1 = (t : Int) ∧ t < xs.length) :
    Calls Tryz.prog 39 #[.slice (some ⟨s0 + 55, 0, none⟩) 17 17, .slice (some ⟨g, 0, none⟩) xs.length gcap] w fun e w' => ProveRes xs END.1 w e w' := by
  have HE := hide hE
  have HT := hide hT
  have HL := hide hL
  have HW := hide hW
  have HTO := hide hTo
  have hlg := hL.lt
  clear hE hT hL hW hTo
  go_enter Tryz.func39, Tryz.ntmps39
  go_wp2_with fail
  refine (begin_any s0 g gcap xs w hn h0 HT.out hts HL.out).mono ?_
  rintro e w1 ⟨sb, hb, rfl, hS, hB, h1, h2⟩
  have HS := hide hS
  have HB := hide hB
  have hsz := hB.size
  clear hS hB
  go_wp2_with fail
  go_loopg [] f (fun gk w' => ∃ st : List Cl × List Int, AllOk st.1 ∧ searchF xs gk st = some END ∧ gk ≤ f ∧ SAt w' sb s0 g gcap w.heap.size hb xs st.1 st.2 ∧ (∀ j, 0 ≤ chF st.2 j ∧ chF st.2 j ≤ ((f - gk : Nat) : Int)) ∧ st.2.length = xs.length ∧ Keep2 w1.heap.size w.heap.size hb w1 w')
  case atStart => exact ⟨start0 xs.length, start0_ok _, HE.out, Nat.le_refl _, HS.out, fun j => by show 0 ≤ chF (List.replicate xs.length 0) j ∧ chF (List.replicate xs.length 0) j ≤ _; rw [chF_zero]; omega, by simp [start0], Keep2.refl _ _ _ _⟩
  case round =>
    obtain ⟨st, hao, hs, hg, hS2, hch, hl2, hK⟩ := hrel
    have HAO := hide (after_ok xs st hao (nok_of HW.out))
    have hR := round_any sb s0 g gcap w.heap.size hb xs st.1 st.2 wr hn hS2 hao HW.out HTO.out (fun j => by have := hch j; omega) hl2 (by omega) (by omega) (by omega) hts (by omega) (by omega) (by omega)
    have hlr := roundF_len xs st.2 (List.range xs.length) (st.1, List.replicate xs.length false)
    have hl1 : (roundF xs st).1.length = xs.length := hlr.1.trans hS2.plen
    have hl3 : (roundF xs st).2.length = xs.length := hlr.2.trans (by simp)
    have HSF := hide hs
    have HCH := hide hch
    have HL2 := hide hl2
    have HK := hide hK
    have HR : Hid (Calls Tryz.prog 118 #[.pointer (some ⟨sb, 0, none⟩)] wr fun e w' => e = .returned (.bool ((roundF xs st).2.any id)) ∧ SAt w' sb s0 g gcap w.heap.size hb xs (roundF xs st).1 (cntL st.2 (roundF xs st).2) ∧ Keep2 wr.heap.size w.heap.size hb wr w') := hide hR
    have HL1 := hide hl1
    have HL3 := hide hl3
    have hszr := hK.size
    clear hao hs hch hl2 hK hR hl1 hl3 hlr hS2
    go_wp2_with fail
    refine HR.out.mono ?_
    rintro e w2 ⟨rfl, hS3, hK3⟩
    have HS3 := hide hS3
    have HK3 := hide (HK.out.trans (hK3.mono hszr))
    have hcn := chF_cnt st.2 (roundF xs st).2 (by rw [HL2.out, HL3.out])
    have HCN := hide hcn
    have hlc := cntL_len (roundF xs st).2 st.2 (by rw [HL2.out, HL3.out])
    have HLC := hide (hlc.trans HL3.out)
    clear hS3 hK3 hcn hlc HR
    obtain ⟨m, rfl⟩ : ∃ m, gk = m + 1 := by
      cases gk with
      | zero => exact absurd HSF.out (by simp [searchF])
      | succ m => exact ⟨m, rfl⟩
    cases hany : (roundF xs st).2.any id with
    | true =>
      have HS4 : Hid (searchF xs m (after xs st) = some END) := hide (by have := HSF.out; simp only [searchF] at this; rwa [if_pos hany] at this)
      clear hany
      go_wp2
      go_roundg m
      case measure => omega
      case rel =>
        refine ⟨after xs st, HAO.out, HS4.out, by omega, HS3.out, fun j => ?_, HLC.out, HK3.out⟩
        have a1 := HCH.out j
        have a2 := HCN.out j
        show 0 ≤ chF (cntL st.2 (roundF xs st).2) j ∧ chF (cntL st.2 (roundF xs st).2) j ≤ _
        omega
    | false =>
      have hend : after xs st = END := by
        have := HSF.out
        simp only [searchF] at this
        rw [if_neg (by rw [hany]; simp)] at this
        exact Option.some.inj this
      subst hend
      have HB2 := hide (keep2_below HB.out HK3.out (Nat.le_refl _) (by omega) hsz)
      have hsz2 := HB2.out.size
      have HU := hide (unmet_any sb s0 g gcap w.heap.size hb xs _ _ w2 hn HS3.out HW.out)
      clear hany
      go_wp2_with fail
      refine HU.out.mono ?_
      rintro e w3 ⟨rfl, hb3⟩
      have HB3 := hide (HB2.out.trans (hb3.mono hsz2))
      have HC3 := hide (HS3.out.claims.mono (hb3.block _ HS3.out.ltp))
      have c2 := (HS3.out.below hb3).c2
      have hs3 := hb3.size
      have hlp := HS3.out.ltp
      clear hb3 HU
      cases hu : unmetF xs (roundF xs st).1 with
      | none =>
        have HUN := hide hu
        clear hu
        rw [show atOf none = -1 from rfl]
        go_wp2
        go_ret2
        exact ⟨HB3.out, .inr ⟨HUN.out, rfl, HC3.out, HL1.out, by omega⟩⟩
      | some k =>
        have HUN := hide hu
        clear hu
        rw [show atOf (some k) = (k : Int) from rfl]
        have hk0 : (0 : Int) ≤ (k : Int) := by omega
        go_wp2
        go_ret2
        exact ⟨HB3.out, .inl ⟨k, HUN.out, rfl⟩⟩
end Go.Proofs.YtngopilbpiplhaaGreatDoor

namespace Go.Proofs.YtngopilbpiplhaaGreatDoor
open Go.RowKit
set_option linter.unusedVariables false
/-- A span's text. -/
def spanT (a b : Int) : List UInt8 := Lib.itoa a ++ [46, 46] ++ Lib.itoa b
theorem itoa_20 (n : Int) (h0 : -9223372036854775808 ≤ n) (h1 : n ≤ 9223372036854775807) : (Lib.itoa n).length ≤ 20 := by
  rcases Int.lt_trichotomy n 0 with h | h | h
  · obtain ⟨u, rfl⟩ : ∃ u : Nat, n = -(u : Int) := ⟨n.natAbs, by omega⟩
    rw [itoa_neg u (by omega)]
    have := dd_len20 u (by omega)
    simp; omega
  · subst h
    rw [show Lib.itoa 0 = [48] by decide +kernel]
    decide
  · obtain ⟨u, rfl⟩ : ∃ u : Nat, n = (u : Int) := ⟨n.natAbs, by omega⟩
    rw [itoa_pos u (by omega)]
    have := dd_len20 u (by omega)
    omega
theorem spanT_len (a b : Int) (h0 : -9223372036854775808 ≤ a) (h1 : a ≤ 9223372036854775807) (h2 : -9223372036854775808 ≤ b) (h3 : b ≤ 9223372036854775807) : (spanT a b).length ≤ 42 := by
  have := itoa_20 a h0 h1
  have := itoa_20 b h2 h3
  simp [spanT]; omega
theorem below_app {w w' : World} (os : Array Obj) (h1 : w'.os = w.os) (h2 : w'.tape = w.tape) (h3 : w'.output = w.output) (h4 : w'.heap = w.heap ++ os) : Below w.heap.size w w' :=
  ⟨h1, h2, h3, by rw [h4]; simp, fun j hj => by rw [h4]; simp [Array.getElem?_append, hj]⟩
set_option maxRecDepth 100000 in
set_option maxHeartbeats 2000000 in
theorem stext_any (a b : Int) (h0 : -9223372036854775808 ≤ a) (h1 : a ≤ 9223372036854775807) (h2 : -9223372036854775808 ≤ b) (h3 : b ≤ 9223372036854775807) (w : World) (hp : PowT w) (h8 : 8 ≤ w.heap.size) :
    Calls Tryz.prog 179 #[spC a b] w fun e w' => e = .returned (.string ⟨(spanT a b).toArray⟩) ∧ Below w.heap.size w w' := by
  have hla := itoa_20 a h0 h1
  have hlb := itoa_20 b h2 h3
  have hS0 : (w.alloc (spB a b)).heap[w.heap.size]? = some (spB a b) ∧ Below w.heap.size w (w.alloc (spB a b)) := ⟨blk_new w _, (Below.refl _ _).alloc (Nat.le_refl _) _⟩
  have HP := hide hp
  clear hp
  go_enter Tryz.func179, Tryz.ntmps179
  go_upto_region 1 with fail
  change Code.wp _ _ _ _ (w.alloc (spB a b))
  generalize w.alloc (spB a b) = W at *
  refine wp_region_held (S := fun W' => W'.heap[w.heap.size]? = some (spB a b) ∧ Below w.heap.size w W') mixed ?_
  have hb0 : ({ W with drawn := W.drawn + 1 } : World).heap[w.heap.size]? = some (spB a b) ∧ Below w.heap.size w { W with drawn := W.drawn + 1 } := ⟨hS0.1, hS0.2.drew⟩
  generalize ({ W with drawn := W.drawn + 1 } : World) = w0 at *
  have HE0 := hide hb0
  clear hb0 hS0
  refine hT 0 3 rfl rfl (by kernel_rfl) (fun _ _ _ h => h) (.inl ⟨by kernel_rfl, fun w' h => by go_simp; rfl⟩) HE0.out ?_
  simp only [Act.put, zzA, zzB, zzC]
  refine hT 1 4 rfl rfl (by kernel_rfl) (fun _ _ _ h => h) (.inl ⟨by kernel_rfl, fun w' h => by have hc : w'.cell? ⟨w.heap.size, 0, none⟩ = some (.int .i64 a) := cell_of_blk h.1 0; go_simp; rfl⟩) HE0.out ?_
  simp only [Act.put, zzA, zzB, zzC]
  refine hT 4 7 rfl rfl (by kernel_rfl) (fun _ _ _ h => h) (.inl ⟨by kernel_rfl, fun w' h => by go_simp; rfl⟩) HE0.out ?_
  simp only [Act.put, zzA, zzB, zzC]
  refine hT 5 8 rfl rfl (by kernel_rfl) (fun _ _ _ h => h) (.inl ⟨by kernel_rfl, fun w' h => by have hc : w'.cell? ⟨w.heap.size, 1, none⟩ = some (.int .i64 b) := cell_of_blk h.1 1; go_simp; rfl⟩) HE0.out ?_
  simp only [Act.put, zzA, zzB, zzC]
  refine held_call (i := 2) (some 5) (by kernel_rfl) rfl rfl (by kernel_rfl) (by go_simp; exact ⟨rfl, rfl⟩) ?_
  refine (Tryz.strconv_FormatInt_10 a h0 h1 w0 (HP.out.mono (HE0.out.2.block _ (by omega)))).mono ?_
  rintro e w1 ⟨rfl, kg, og, hg1⟩
  have hb1 : Below w0.heap.size w0 w1 := below_app og (by rw [hg1]; rfl) (by rw [hg1]; rfl) (by rw [hg1]; rfl) (by rw [hg1]; rfl)
  have HE1 : Hid (w1.heap[w.heap.size]? = some (spB a b) ∧ Below w.heap.size w w1) := hide ⟨(hb1.block _ (blk_lt HE0.out.1)).trans HE0.out.1, HE0.out.2.trans (hb1.mono HE0.out.2.size)⟩
  clear hg1 hb1
  refine ⟨_, rfl, HE1.out, ?_⟩
  simp only [Act.put, zzA, zzB, zzC]
  refine hT 3 6 rfl rfl (by kernel_rfl) (fun _ _ _ h => h) (.inl ⟨by kernel_rfl, fun w' h => by go_simp; rw [if_neg (by first | omega | (simp; omega))]⟩) HE1.out ?_
  simp only [Act.put, zzA, zzB, zzC]
  refine held_call (i := 6) (some 9) (by kernel_rfl) rfl rfl (by kernel_rfl) (by go_simp; exact ⟨rfl, rfl⟩) ?_
  refine (Tryz.strconv_FormatInt_10 b h2 h3 w1 (HP.out.mono (HE1.out.2.block _ (by omega)))).mono ?_
  rintro e w2 ⟨rfl, kg, og, hg2⟩
  have hb2 : Below w1.heap.size w1 w2 := below_app og (by rw [hg2]; rfl) (by rw [hg2]; rfl) (by rw [hg2]; rfl) (by rw [hg2]; rfl)
  have HE2 : Hid (w2.heap[w.heap.size]? = some (spB a b) ∧ Below w.heap.size w w2) := hide ⟨(hb2.block _ (blk_lt HE1.out.1)).trans HE1.out.1, HE1.out.2.trans (hb2.mono HE1.out.2.size)⟩
  clear hg2 hb2
  refine ⟨_, rfl, HE2.out, ?_⟩
  simp only [Act.put, zzA, zzB, zzC]
  refine hT 7 10 rfl rfl (by kernel_rfl) (fun _ _ _ h => h) (.inl ⟨by kernel_rfl, fun w' h => by go_simp; rw [if_neg (by first | omega | (simp; omega))]⟩) HE2.out ?_
  simp only [Act.put, zzA, zzB, zzC]
  refine hT 8 2 rfl rfl (by kernel_rfl) (fun _ _ _ h => h) (.inl ⟨by kernel_rfl, fun w' h => by go_simp; rfl⟩) HE2.out ?_
  simp only [Act.put, zzA, zzB, zzC]
  refine wpAnyH_done (by kernel_rfl) ?_ _
  go_wp2
  go_ret
  refine ⟨?_, HE2.out.2⟩
  exact congrArg (fun z => Ending.returned (Value.string z)) (ByteArray.ext (by simp [ByteArray.data_append, spanT]))
end Go.Proofs.YtngopilbpiplhaaGreatDoor

namespace Go.Proofs.YtngopilbpiplhaaGreatDoor
open Go.RowKit
set_option linter.unusedVariables false
set_option linter.unusedSimpArgs false
/-- A register's part of a claim's text; the parts of the registers below k; the text. -/
def partT (c : Cl) (k : Nat) : List UInt8 := 114 :: (Lib.decDigits k ++ 61 :: spanT (c.lo k) (c.hi k))
def cprtF (c : Cl) : Nat → List (List UInt8)
  | 0 => [[111, 107]]
  | k + 1 => if c.has k then cprtF c k ++ [partT c k] else cprtF c k
def clT (c : Cl) : List UInt8 := if c.never then [45] else Lib.join (cprtF c 8) [32]
/-- All numbers of a claim are ones of 64 bits. -/
def ClOk (c : Cl) : Prop := ∀ k, k < 8 → c.has k = true → -9223372036854775808 ≤ c.lo k ∧ c.lo k ≤ 9223372036854775807 ∧ -9223372036854775808 ≤ c.hi k ∧ c.hi k ≤ 9223372036854775807
theorem dec_one (k : Nat) (h : k < 8) : (Lib.decDigits k).length = 1 := by rw [Lib.decDigits_one (by omega)]; rfl
theorem partT_len (c : Cl) (h : ClOk c) (k : Nat) (hk : k < 8) (hh : c.has k = true) : (partT c k).length ≤ 45 := by
  obtain ⟨a, b, d, e⟩ := h k hk hh
  have := spanT_len _ _ a b d e
  have := dec_one k hk
  simp [partT]; omega
theorem cprt_len (c : Cl) (h : ClOk c) : ∀ k, k ≤ 8 → (cprtF c k).length ≤ k + 1 ∧ 0 < (cprtF c k).length ∧ Lib.lens (cprtF c k) ≤ 45 * k + 2
  | 0, _ => ⟨by simp [cprtF], by simp [cprtF], by simp [cprtF, Lib.lens]⟩
  | k + 1, hk => by
    obtain ⟨h1, h2, h3⟩ := cprt_len c h k (by omega)
    unfold cprtF
    cases hh : c.has k with
    | true =>
      have := partT_len c h k (by omega) hh
      refine ⟨by simp; omega, by simp, ?_⟩
      have e : Lib.lens (cprtF c k ++ [partT c k]) = Lib.lens (cprtF c k) + (partT c k).length := by simp [Lib.lens]
      simp only [if_true]
      omega
    | false => exact ⟨by simp; omega, by simpa using h2, by simp; omega⟩
theorem join_len (xs : List (List UInt8)) (s : UInt8) : (Lib.join xs [s]).length ≤ Lib.lens xs + xs.length := by
  cases xs with
  | nil => simp [Lib.join]
  | cons x r =>
    have e : Lib.join (x :: r) [s] = x ++ Lib.joinTail [s] r := Lib.join_cons x r [s]
    rw [e, List.length_append, Lib.joinTail_length]
    simp [Lib.lens]; omega
/-- Strings that are owned lie in a block of their own. -/
theorem strs_slice {w : World} {B : Nat} {v : Value} {xs : List ByteArray} {n : Nat} (h : w.ownsRow B 9 1 v n (xs.map Value.string)) (hn : n = xs.length) (h0 : 0 < n) :
    ∃ g cap, v = .slice (some ⟨g, 0, none⟩) n cap ∧ n ≤ cap ∧ g < w.heap.size ∧ ∀ (j : Nat) x, xs[j]? = some x → w.cell? ⟨g, 0 + j, none⟩ = some (.string x) := by
  obtain ⟨_, ⟨_, h2⟩ | ⟨g, cap, cur, e, hg, hb, hc, _, _, ht⟩⟩ := h
  · omega
  · refine ⟨g, cap, e, hc, blk_lt hb, fun j x hx => ?_⟩
    have hj := (List.getElem?_eq_some_iff.1 hx).1
    have h3 : (cur.toList.take (n * 1))[j]? = some (.string x) := by rw [ht, List.getElem?_map, hx]; rfl
    rw [List.getElem?_take, if_pos (by omega)] at h3
    rw [Nat.zero_add, cell_of_blk hb]
    simpa using h3
theorem ownBlk_ge {w : World} {B g : Nat} {e : TypeId} {sz n : Nat} {v : Value} {xs : List Value} (h : w.ownsRow B e sz v n xs) (hg : v.ownBlock = some g) : B ≤ g := (World.ownsRow.lt h g hg).1
theorem infoStr : (Tryz.prog.info? 9).map (fun i => (i.zero, i.size, i.bytes)) = some (some (.string ⟨#[]⟩), 1, 16) := by kernel_rfl
theorem exec_buildStr {o : Oper} {a : Act} {w : World} (x : Operand) (s : ByteArray) (ho : o.op = .buildSlice 46 1 #[(0, x)]) (hx : a.eval x = .string s) :
    (execOp a.eval o).run Tryz.prog w = .ok (.value (.slice (some ⟨w.heap.size, 0, none⟩) 1 1)) (w.alloc (.cells #[.string s] 9)) := by
  unfold execOp
  simp only [ho, List.map_toArray, List.map_cons, List.map_nil, hx]
  kernel_rfl
theorem held_append {ops : Array Oper} {Q : Exit → Act → World → Prop} {S : World → Prop} {i : Nat} {o : Oper} {a : Act} {w : World} {fuel : Nat} {listed : Array Bool}
    (hr : Region.ready .any ops listed = [i]) (hi : ops[i]? = some o) (hw : Region.wanted o (yielded ops a.tmps) = true) (s x : Operand) (ho : o.op = .call { callee := .builtin .append, args := #[s, x], argTypes := #[46, 46] })
    (B : Nat) (v : Value) (n : Nat) (xs : List Value) (hs : a.eval s = v) (hown : w.ownsRow B 9 1 v n xs) (g : Nat) (u : ByteArray) (hx : a.eval x = .slice (some ⟨g, 0, none⟩) 1 1) (hu : w.heap[g]? = some (.cells #[.string u] 9))
    (h63 : n ≤ 1000) (hB : B ≤ w.heap.size)
    (h : ∀ v' w', w'.ownsRow B 9 1 v' (n + 1) (xs ++ [.string u]) → w.grownBy w' v.ownBlock → S w' ∧ wpAnyH Tryz.prog .any ops Q S fuel (listed.setIfInBounds i true) (a.put o.dst v') w') : wpAnyH Tryz.prog .any ops Q S (fuel + 1) listed a w := by
  refine wpAnyH_all hr (by simp) fun j hj => ?_
  obtain rfl : j = i := by simpa using hj
  unfold wpOp
  simp only [hi, hw, if_true]
  refine .inl ?_
  obtain ⟨i0, hi0, hz0, hz1, hz2⟩ := info_parts infoStr
  refine wp_append_own w s x 46 ho B 9 i0 _ 1 16 Tryz.underlying46 hi0 hz0 hz1 hz2 rfl (by decide) v n xs hs hown ⟨g, 0, none⟩ 1 1 [.string u] hx rfl ?_ (by simp [Value.oneCell']) (by unfold maxLen; omega) (by omega) hB fun v' w' h2 h3 _ => h v' w' h2 h3
  intro k z hk
  have hk0 : k = 0 := by have := (List.getElem?_eq_some_iff.1 hk).1; simp at this; omega
  subst hk0
  have e : (⟨g, 0, none⟩ : Addr).add 0 = ⟨g, 0, none⟩ := by unfold Addr.add; split <;> simp_all
  rw [e, cell_of_blk hu]
  simpa using hk
theorem index_has (c : Cl) (w : World) (k : Nat) (hk : k < 8) : (Instr.index 130 (.agg (hasA c)) (.int .i64 (k : Int))).run Tryz.prog w = .ok (.bool (c.has k)) w := index8 c.has w k hk
theorem strOf_app (l : List UInt8) (m : List UInt8) : (⟨l.toArray⟩ : ByteArray) ++ ⟨m.toArray⟩ = ⟨(l ++ m).toArray⟩ := ByteArray.ext (by simp [ByteArray.data_append])
set_option maxRecDepth 100000 in
set_option maxHeartbeats 4000000 in
theorem ctext_any (c : Cl) (hok : ClOk c) (w : World) (hp : PowT w) (h8 : 8 ≤ w.heap.size) :
    Calls Tryz.prog 120 #[.agg (clCells c)] w fun e w' => e = .returned (.string ⟨(clT c).toArray⟩) ∧ Below w.heap.size w w' := by
  have HP := hide hp
  have HOK := hide hok
  have hA0 : (w.alloc (clB c)).heap[w.heap.size]? = some (clB c) := blk_new w _
  have hB0 : Below w.heap.size w (w.alloc (clB c)) := (Below.refl _ _).alloc (Nat.le_refl _) _
  have hs0 : (w.alloc (clB c)).heap.size = w.heap.size + 1 := World.size_alloc _ _
  clear hp hok
  cases hn : c.never with
  | true =>
    have HT : Hid (clT c = [45]) := hide (by simp [clT, hn])
    have n1 : (clCells c)[0]? = some (.bool true) := by rw [cl_never, hn]
    go_enter Tryz.func120, Tryz.ntmps120
    go_wp2
    go_ret
    exact ⟨by rw [HT.out]; rfl, hB0⟩
  | false =>
    have HT : Hid (clT c = Lib.join (cprtF c 8) [32]) := hide (by simp [clT, hn])
    have n1 : (clCells c)[0]? = some (.bool false) := by rw [cl_never, hn]
    have hR1 : ((w.alloc (clB c)).alloc (.cells #[.string ⟨#[111, 107]⟩] 9)).rangeAt w.heap.size 1 (hasA c).toList := fun j v hv => by
      rw [cell_of_blk (blk_alloc hA0 _)]
      have hj := (List.getElem?_eq_some_iff.1 hv).1
      rw [← hv]
      exact lt8' (p := fun j => (clCells c)[1 + j]? = (hasA c).toList[j]?) rfl rfl rfl rfl rfl rfl rfl rfl j hj
    have HR1 := hide hR1
    clear hR1 hn
    go_enter Tryz.func120, Tryz.ntmps120
    go_upto_region 4 with fail
    go_wp2_with (refine wpList_load_mid rfl 130 (.tmp 9) rfl w.heap.size 1 rfl (hasA c).toList _ HR1.out Tryz.underlying130 rfl (by kernel_rfl) ?_)
    have hO1 : ((w.alloc (clB c)).alloc (.cells #[.string ⟨#[111, 107]⟩] 9)).ownsRow (w.heap.size + 1) 9 1 (.slice (some ⟨w.heap.size + 1, 0, none⟩) 1 1) 1 (((cprtF c 0).map fun l => (⟨l.toArray⟩ : ByteArray)).map Value.string) :=
      ⟨rfl, .inr ⟨w.heap.size + 1, 1, #[.string ⟨#[111, 107]⟩], rfl, Nat.le_refl _, heap_alloc2_new w _ _, Nat.le_refl _, by decide, rfl, rfl⟩⟩
    have hA1 := blk_alloc hA0 (.cells #[.string ⟨#[111, 107]⟩] 9)
    have hB1 : Below w.heap.size w ((w.alloc (clB c)).alloc (.cells #[.string ⟨#[111, 107]⟩] 9)) := hB0.alloc (by omega) _
    have hs1 : ((w.alloc (clB c)).alloc (.cells #[.string ⟨#[111, 107]⟩] 9)).heap.size = w.heap.size + 2 := by simp
    clear HR1 hA0 hB0 hs0 n1
    change Code.wp _ _ _ _ ((w.alloc (clB c)).alloc (.cells #[.string ⟨#[111, 107]⟩] 9))
    generalize (w.alloc (clB c)).alloc (.cells #[.string ⟨#[111, 107]⟩] 9) = W1 at *
    have HO1 := hide hO1
    have HA1 := hide hA1
    have HB1 := hide hB1
    clear hO1 hA1 hB1
    go_loopw [3, 11] (fun pv iv w' => ∃ k : Nat, k ≤ 8 ∧ iv = .int .i64 k ∧ w'.ownsRow (w.heap.size + 1) 9 1 pv (cprtF c k).length (((cprtF c k).map fun l => (⟨l.toArray⟩ : ByteArray)).map Value.string) ∧ w'.heap[w.heap.size]? = some (clB c) ∧ Below w.heap.size w w' ∧ w.heap.size + 2 ≤ w'.heap.size) (fun _ iv _ => 8 - (intOf iv).toNat)
    case atStart => exact ⟨0, by omega, rfl, HO1.out, HA1.out, HB1.out, by omega⟩
    case round =>
      clear HO1 HA1 HB1
      obtain ⟨k, hk8, rfl, hO, hA, hB, hsz⟩ := hrel
      have HO := hide hO
      have HA := hide hA
      have HB := hide hB
      clear hO hA hB
      obtain ⟨W9, hW9⟩ : ∃ W : World, W = wr := ⟨_, rfl⟩
      subst hW9
      have hcl := cprt_len c HOK.out k hk8
      by_cases hk : k < 8
      · have hkI : (k : Int) < 8 := by omega
        have hidx := index_has c W9 k hk
        cases hck : c.has k with
        | false =>
          rw [hck] at hidx
          have HN : Hid (cprtF c (k + 1) = cprtF c k) := hide (by simp [cprtF, hck])
          clear hck
          go_wp2
          go_roundw
          case rel => exact ⟨k + 1, by omega, by go_num, by rw [HN.out]; exact HO.out, HA.out, HB.out, hsz⟩
          case measure => simp [intOf]; omega
        | true =>
          rw [hck] at hidx
          have HN : Hid (cprtF c (k + 1) = cprtF c k ++ [partT c k]) := hide (by simp [cprtF, hck])
          obtain ⟨b0, b1, b2, b3⟩ := HOK.out k hk hck
          have hsl := spanT_len _ _ b0 b1 b2 b3
          have hd1 := dec_one k hk
          clear hck
          have hR9 : ∀ W : World, W.heap[w.heap.size]? = some (clB c) → W.rangeAt w.heap.size (9 + k * 2) [.int .i64 (c.lo k), .int .i64 (c.hi k)] := fun W hW j v hv => by
            rw [cell_of_blk hW]
            match j, hv with
            | 0, hv => exact (cl_lo c k hk).trans hv
            | 1, hv => exact (cl_hi c k hk).trans hv
            | n + 2, hv => simp at hv
          go_wp2_with fail
          clear hidx
          refine wp_region_held (S := fun W' => W'.heap[w.heap.size]? = some (clB c) ∧ Below w.heap.size w W') mixed ?_
          have hb0 : ({ W9 with drawn := W9.drawn + 1 } : World).heap[w.heap.size]? = some (clB c) ∧ Below w.heap.size w { W9 with drawn := W9.drawn + 1 } := ⟨HA.out, HB.out.drew⟩
          have hO0 : ({ W9 with drawn := W9.drawn + 1 } : World).ownsRow (w.heap.size + 1) 9 1 u3 (cprtF c k).length (((cprtF c k).map fun l => (⟨l.toArray⟩ : ByteArray)).map Value.string) := HO.out
          have hz0 : ({ W9 with drawn := W9.drawn + 1 } : World).heap.size = W9.heap.size := rfl
          generalize ({ W9 with drawn := W9.drawn + 1 } : World) = w0 at *
          have HE0 := hide hb0
          have HO0 := hide hO0
          clear hb0 hO0 HA HO HB
          refine hT 0 16 rfl rfl (by kernel_rfl) (fun _ _ _ h => h) (.inl ⟨by kernel_rfl, fun w' h => by go_simp; rfl⟩) HE0.out ?_
          simp only [Act.put, zzA, zzB, zzC]
          refine hT 1 17 rfl rfl (by kernel_rfl) (fun _ _ _ h => h) (.inl ⟨by kernel_rfl, fun w' h => by go_simp; rfl⟩) HE0.out ?_
          simp only [Act.put, zzA, zzB, zzC]
          refine hT 5 21 rfl rfl (by kernel_rfl) (fun _ _ _ h => h) (.inl ⟨by kernel_rfl, fun w' h => by go_simp; rfl⟩) HE0.out ?_
          simp only [Act.put, zzA, zzB, zzC]
          refine hT 6 22 rfl rfl (by kernel_rfl) (fun _ _ _ h => h) (.inl ⟨by kernel_rfl, fun w' h => by go_simp; rfl⟩) HE0.out ?_
          simp only [Act.put, zzA, zzB, zzC]
          refine hT 7 23 rfl rfl (by kernel_rfl) (fun _ _ _ h => h) (.inl ⟨by kernel_rfl, fun w' h => by go_simp; rfl⟩) HE0.out ?_
          simp only [Act.put, zzA, zzB, zzC]
          refine hT 8 24 rfl rfl (by kernel_rfl) (fun _ _ _ h => h) (yieldsIf_load_mid (by kernel_rfl) 132 (.tmp 23) rfl w.heap.size (9 + k * 2) (by kernel_rfl) [.int .i64 (c.lo k), .int .i64 (c.hi k)] _ (fun w' h => hR9 w' h.1) Tryz.underlying132 rfl (by kernel_rfl)) HE0.out ?_
          simp only [Act.put, zzA, zzB, zzC]
          refine held_call (i := 2) (some 18) (by kernel_rfl) rfl rfl (by kernel_rfl) (by go_simp; exact ⟨rfl, rfl⟩) ?_
          refine (Tryz.strconv_Itoa_small k (by omega) w0).mono ?_
          rintro e w1 ⟨rfl, rfl⟩
          refine ⟨_, rfl, HE0.out, ?_⟩
          simp only [Act.put, zzA, zzB, zzC]
          refine hT 3 19 rfl rfl (by kernel_rfl) (fun _ _ _ h => h) (.inl ⟨by kernel_rfl, fun w' h => by go_simp; first | rfl | rw [if_neg (by first | omega | (simp; omega))]⟩) HE0.out ?_
          simp only [Act.put, zzA, zzB, zzC]
          refine hT 4 20 rfl rfl (by kernel_rfl) (fun _ _ _ h => h) (.inl ⟨by kernel_rfl, fun w' h => by go_simp; first | rfl | rw [if_neg (by first | omega | (simp; omega))]⟩) HE0.out ?_
          simp only [Act.put, zzA, zzB, zzC]
          refine held_call (i := 9) (some 25) (by kernel_rfl) rfl rfl (by kernel_rfl) (by go_simp; exact ⟨rfl, rfl⟩) ?_
          refine (stext_any (c.lo k) (c.hi k) b0 b1 b2 b3 w1 (HP.out.mono (HE0.out.2.block _ (by omega))) (by omega)).mono ?_
          rintro e w2 ⟨rfl, hb2⟩
          have HE2 : Hid (w2.heap[w.heap.size]? = some (clB c) ∧ Below w.heap.size w w2) := hide ⟨(hb2.block _ (blk_lt HE0.out.1)).trans HE0.out.1, HE0.out.2.trans (hb2.mono HE0.out.2.size)⟩
          have HO2 := hide (ownsRow_below HO0.out (fun g _ hg => hb2.block g hg))
          have hz2 := hb2.size
          clear hb2 HE0 HO0
          refine ⟨_, rfl, HE2.out, ?_⟩
          simp only [Act.put, zzA, zzB, zzC]
          refine hT 10 26 rfl rfl (by kernel_rfl) (fun _ _ _ h => h) (.inl ⟨by kernel_rfl, fun w' h => by go_simp; first | rfl | rw [if_neg (by first | omega | (simp; omega))]⟩) HE2.out ?_
          simp only [Act.put, zzA, zzB, zzC]
          refine wpAnyH_all (rs := [11]) (by kernel_rfl) (by simp) ?_
          intro i hi
          obtain rfl : i = 11 := by simpa using hi
          clear hi
          have hstr : (((⟨#[114]⟩ : ByteArray) ++ ⟨(Lib.decDigits k).toArray⟩) ++ ⟨#[61]⟩) ++ ⟨(spanT (c.lo k) (c.hi k)).toArray⟩ = ⟨(partT c k).toArray⟩ := ByteArray.ext (by simp [ByteArray.data_append, partT])
          refine wpOp_new (some 27) rfl rfl (by kernel_rfl) (exec_buildStr (.tmp 26) ((((⟨#[114]⟩ : ByteArray) ++ ⟨(Lib.decDigits k).toArray⟩) ++ ⟨#[61]⟩) ++ ⟨(spanT (c.lo k) (c.hi k)).toArray⟩) rfl rfl) ?_
          rw [hstr]
          have hb3 : Below w2.heap.size w2 (w2.alloc (.cells #[.string ⟨(partT c k).toArray⟩] 9)) := (Below.refl _ _).alloc (Nat.le_refl _) _
          have HU3 := hide (blk_new w2 (.cells #[.string ⟨(partT c k).toArray⟩] 9))
          have hz3 : (w2.alloc (.cells #[.string ⟨(partT c k).toArray⟩] 9)).heap.size = w2.heap.size + 1 := World.size_alloc _ _
          generalize w2.alloc (.cells #[.string ⟨(partT c k).toArray⟩] 9) = w3 at *
          have HE3 : Hid (w3.heap[w.heap.size]? = some (clB c) ∧ Below w.heap.size w w3) := hide ⟨(hb3.block _ (blk_lt HE2.out.1)).trans HE2.out.1, HE2.out.2.trans (hb3.mono HE2.out.2.size)⟩
          have HO3 := hide (ownsRow_below HO2.out (fun g _ hg => hb3.block g hg))
          clear hb3 HE2 HO2 hstr
          refine ⟨HE3.out, ?_⟩
          simp only [Act.put, zzA, zzB, zzC]
          refine held_append (i := 12) (by kernel_rfl) rfl (by kernel_rfl) (.tmp 16) (.tmp 27) rfl (w.heap.size + 1) u3 (cprtF c k).length _ (by kernel_rfl) HO3.out w2.heap.size ⟨(partT c k).toArray⟩ (by kernel_rfl) HU3.out (by omega) (by omega) ?_
          intro v4 w4 hO4 hg4
          have hb4 : Below (w.heap.size + 1) w3 w4 := Below.grown (Below.refl _ _) hg4 (by omega) (fun g hg => ownBlk_ge HO3.out hg)
          have HE4 : Hid (w4.heap[w.heap.size]? = some (clB c) ∧ Below w.heap.size w w4) := hide ⟨(hb4.block _ (by omega)).trans HE3.out.1, HE3.out.2.trans (hb4.mono (by omega))⟩
          have HO4 := hide hO4
          have hz4 := hb4.size
          clear hO4 hg4 hb4 HO3 HU3 HE3
          refine ⟨HE4.out, ?_⟩
          simp only [Act.put, zzA, zzB, zzC]
          refine hT 13 3 rfl rfl (by kernel_rfl) (fun _ _ _ h => h) (.inl ⟨by kernel_rfl, fun w' h => by go_simp; rfl⟩) HE4.out ?_
          simp only [Act.put, zzA, zzB, zzC]
          refine wpAnyH_done (by kernel_rfl) ?_ _
          go_wp2
          go_roundw
          case rel =>
            refine ⟨k + 1, by omega, by go_num, ?_, HE4.out.1, HE4.out.2, by omega⟩
            rw [HN.out, List.length_append, List.map_append, List.map_append]
            exact HO4.out
          case measure => simp [intOf]; omega
      · obtain rfl : k = 8 := by omega
        obtain ⟨g, cap, rfl, hcap, hgl, hcells⟩ := strs_slice HO.out (by simp) hcl.2.1
        have hjl := join_len (cprtF c 8) 32
        have hmap : ((cprtF c 8).map fun l => (⟨l.toArray⟩ : ByteArray)).map (·.data.toList) = cprtF c 8 := by simp [List.map_map, Function.comp_def]
        have hJ := Tryz.strings_Join g 0 cap ((cprtF c 8).map fun l => (⟨l.toArray⟩ : ByteArray)) ⟨#[32]⟩ W9 hcells hgl (by rw [List.length_map]; omega) (by rw [List.length_map]; omega) (by rw [hmap]; show (Lib.join (cprtF c 8) [32]).length ≤ _; omega)
        rw [hmap, List.length_map] at hJ
        have HJ := hide hJ
        clear hcells hJ hmap
        go_wp2_with fail
        refine HJ.out.mono ?_
        rintro e w1 ⟨rfl, hb1⟩
        have HB1 := hide (HB.out.trans (hb1.mono HB.out.size))
        clear hb1 HJ
        go_wp2
        go_ret
        exact ⟨by rw [HT.out]; rfl, HB1.out⟩
end Go.Proofs.YtngopilbpiplhaaGreatDoor

namespace Go.Proofs.YtngopilbpiplhaaGreatDoor
open Go.RowKit
set_option linter.unusedVariables false
set_option linter.unusedSimpArgs false
/-- A proof's text. -/
def proofT (p : List Cl) : List UInt8 := Lib.join (p.map clT) [10]
theorem clT_len (c : Cl) (h : ClOk c) : (clT c).length ≤ 400 := by
  unfold clT
  split
  · simp
  · have h1 := cprt_len c h 8 (Nat.le_refl _)
    have h2 := join_len (cprtF c 8) 32
    omega
theorem lens_le (xs : List (List UInt8)) (h : ∀ x ∈ xs, x.length ≤ 400) : Lib.lens xs ≤ 400 * xs.length := by
  induction xs with
  | nil => simp [Lib.lens]
  | cons x xs ih =>
    have h1 := ih fun y hy => h y (by simp [hy])
    have h2 := h x (by simp)
    have e : Lib.lens (x :: xs) = x.length + Lib.lens xs := by simp [Lib.lens]
    rw [e, List.length_cons]
    omega
theorem wpList_buildStr {ops : Array Oper} {rest : List Oper} {o : Oper} {a : Act} {w : World} {Q : Exit → Act → World → Prop} (hgd : o.guard = none) (x : Operand) (s : ByteArray) (ho : o.op = .buildSlice 46 1 #[(0, x)]) (hx : a.eval x = .string s)
    (h : ∀ w', Hid (w' = w.alloc (.cells #[.string s] 9)) → wpList Tryz.prog ops Q rest (a.put o.dst (.slice (some ⟨w.heap.size, 0, none⟩) 1 1)) w') : wpList Tryz.prog ops Q (o :: rest) a w :=
  wpList_plain hgd fun _ hK => by
    unfold Oper.wp
    rw [exec_buildStr x s ho hx]
    exact hK _ _ (h _ (hide rfl))
theorem str_at {w2 w3 : World} (s : ByteArray) (h : w3 = w2.alloc (.cells #[.string s] 9)) : ∀ j u, ([Value.string s])[j]? = some u → w3.cell? ((⟨w2.heap.size, 0, none⟩ : Addr).add j) = some u := by
  intro j u hj
  have e : (⟨w2.heap.size, 0, none⟩ : Addr).add j = ⟨w2.heap.size, j, none⟩ := by unfold Addr.add; split <;> simp_all
  rw [e, h, cell_of_blk (blk_new w2 _)]
  simpa using hj
set_option maxRecDepth 100000 in
set_option maxHeartbeats 4000000 in
theorem Text_any (p : List Cl) (pb cap : Nat) (w : World) (hn : p.length ≤ 100) (h0 : 0 < p.length) (hC : ClaimsAt w pb p) (hlp : pb < w.heap.size) (hok : ∀ c ∈ p, ClOk c) (hp : PowT w) (h8 : 8 ≤ w.heap.size) :
    Calls Tryz.prog 40 #[.slice (some ⟨pb, 0, none⟩) p.length cap] w fun e w' => e = .returned (.string ⟨(proofT p).toArray⟩) ∧ Below w.heap.size w w' := by
  obtain ⟨i0, hi, hz0, hz1, hz2⟩ := info_parts infoStr
  have hmk := run_make (P := Tryz.prog) w 46 9 i0 _ Tryz.underlying46 hi hz0 .i64 .i64 0 (p.length : Int) (Int.le_refl _) (by omega) (by rw [hz2]; omega) (by omega)
  simp only [Int.toNat_zero, Int.toNat_natCast, hz1, Nat.mul_one] at hmk
  have hown0 : (w.alloc (.cells (madeCells (Value.string ⟨#[]⟩).cells p.length) 9)).ownsRow w.heap.size 9 1 (.slice (some ⟨w.heap.size, 0, none⟩) 0 p.length) 0 [] := World.ownsRow_made w _ p.length (Nat.le_refl _) (by unfold maxLen; omega) (by rw [size_madeCells]; omega)
  have hb0 : Below w.heap.size w (w.alloc (.cells (madeCells (Value.string ⟨#[]⟩).cells p.length) 9)) := (Below.refl _ _).alloc (Nat.le_refl _) _
  have HC := hide hC
  have HOK := hide hok
  have HP := hide hp
  have HI := hide hi
  have HI0 := hide hz0
  have HI1 := hide hz1
  have HI2 := hide hz2
  clear hC hok hp hi hz0 hz1 hz2
  go_enter Tryz.func40, Tryz.ntmps40
  go_wp2_with fail
  change Code.wp _ _ _ _ (w.alloc (.cells (madeCells (Value.string ⟨#[]⟩).cells p.length) 9))
  clear hmk
  generalize w.alloc (.cells (madeCells (Value.string ⟨#[]⟩).cells p.length) 9) = W0 at *
  have HO0 := hide hown0
  have HB0 := hide hb0
  clear hown0 hb0
  go_loopw [3, 11] (fun pv iv w' => ∃ k : Nat, k ≤ p.length ∧ iv = .int .i64 k ∧ w'.ownsRow w.heap.size 9 1 pv k (((p.take k).map fun c => (⟨(clT c).toArray⟩ : ByteArray)).map Value.string) ∧ Below w.heap.size w w') (fun _ iv _ => p.length - (intOf iv).toNat)
  case atStart => exact ⟨0, Nat.zero_le _, rfl, HO0.out, HB0.out⟩
  case round =>
    clear HO0 HB0
    obtain ⟨k, hk, rfl, hO, hB⟩ := hrel
    have HO := hide hO
    have HB := hide hB
    have hsz := hB.size
    clear hO hB
    obtain ⟨W9, hW9⟩ : ∃ W : World, W = wr := ⟨_, rfl⟩
    subst hW9
    by_cases hlt : k < p.length
    · have hltI : (k : Int) < (p.length : Int) := by omega
      obtain ⟨c, hc⟩ : ∃ c, p[k]? = some c := ⟨_, List.getElem?_eq_getElem hlt⟩
      have hok := HOK.out c (List.mem_of_getElem? hc)
      have HCOK := hide hok
      have HRC := hide ((HC.out.mono (HB.out.block _ hlp)).2 k c hc)
      have HTK : Hid (p.take (k + 1) = p.take k ++ [c]) := hide (by rw [List.take_add_one, hc]; rfl)
      clear hc hok
      go_wp2_with (first | (refine wpList_load_mid rfl 135 (.tmp 13) rfl pb (k * 25) rfl (clCells c).toList _ HRC.out Tryz.underlying135 rfl (by kernel_rfl) ?_) | (refine wpList_storeCl rfl (.tmp 5) (.tmp 14) rfl W9.heap.size (clCells c) _ _ rfl rfl (blk_new W9 _) (cl_size _) rfl (cl_one _) ?_))
      intro w1 hw1
      have hb1 : Below W9.heap.size W9 w1 := by rw [hw1.out]; exact below_setG ((Below.refl _ _).alloc (Nat.le_refl _) _) (Nat.le_refl _) _
      have HC1 : Hid (w1.heap[W9.heap.size]? = some (clB c)) := hide (by rw [hw1.out]; exact setRow_heap _ _ _ _ _ _ (blk_new W9 _))
      have HO1 := hide (ownsRow_below HO.out (fun g _ hg => hb1.block g hg))
      have HB1 := hide (HB.out.trans (hb1.mono HB.out.size))
      have hs1 := hb1.size
      clear hw1 hb1 HRC HO
      go_wp2_with (refine wpList_load_row rfl 135 (.tmp 5) rfl W9.heap.size rfl _ _ _ _ HC1.out Tryz.underlying135 rfl (by kernel_rfl) ?_)
      refine (ctext_any c HCOK.out w1 (HP.out.mono (HB1.out.block _ (by omega))) (by omega)).mono ?_
      rintro e w2 ⟨rfl, hb2⟩
      have HO2 := hide (ownsRow_below HO1.out (fun g _ hg => hb2.block g hg))
      have HB2 := hide (HB1.out.trans (hb2.mono HB1.out.size))
      have hs2 := hb2.size
      clear hb2 HO1 HC1
      go_wp2_with (refine wpList_buildStr rfl (.tmp 17) ⟨(clT c).toArray⟩ rfl rfl ?_)
      intro w3 hw3
      have HST := hide (str_at _ hw3.out)
      have hb3 : Below w2.heap.size w2 w3 := by rw [hw3.out]; exact (Below.refl _ _).alloc (Nat.le_refl _) _
      have HO3 := hide (ownsRow_below HO2.out (fun g _ hg => hb3.block g hg))
      have HB3 := hide (HB2.out.trans (hb3.mono HB2.out.size))
      have hs3 := hb3.size
      clear hw3 hb3 HO2
      go_wp2_with (at_builtin; refine wpList_append_own _ rfl (.tmp 15) (.tmp 18) 46 rfl w.heap.size 9 i0 _ 1 16 Tryz.underlying46 HI.out HI0.out HI1.out HI2.out rfl (by decide) u3 k _ rfl HO3.out ⟨w2.heap.size, 0, none⟩ 1 1 [.string ⟨(clT c).toArray⟩] rfl rfl HST.out (by simp [Value.oneCell']) (by unfold maxLen; omega) (by omega) (by omega) ?_)
      intro v4 w4 hO4 hg4 _
      have hb4 : Below w.heap.size w3 w4 := Below.grown (Below.refl _ _) hg4 (by omega) (fun g hg => ownBlk_ge HO3.out hg)
      have HO4 := hide hO4
      have HB4 := hide (HB3.out.trans hb4)
      clear hO4 hg4 hb4 HO3 HST
      go_wp2
      go_roundw
      case rel =>
        refine ⟨k + 1, by omega, by go_num, ?_, HB4.out⟩
        rw [HTK.out, show (((p.take k ++ [c]).map fun c => (⟨(clT c).toArray⟩ : ByteArray)).map Value.string) = List.take k (List.map (Value.string ∘ fun c => (⟨(clT c).toArray⟩ : ByteArray)) p) ++ [Value.string ⟨(clT c).toArray⟩] by simp [List.map_take]]
        exact HO4.out
      case measure => simp [intOf]; omega
    · obtain rfl : k = p.length := by omega
      have hO := HO.out
      rw [List.take_of_length_le (Nat.le_refl _)] at hO
      obtain ⟨g, cap, rfl, hcap, hgl, hcells⟩ := strs_slice hO (by simp) h0
      have hjl := join_len (p.map clT) 10
      have hll := lens_le (p.map clT) (fun x hx => by obtain ⟨c, hc, rfl⟩ := List.mem_map.1 hx; exact clT_len c (HOK.out c hc))
      rw [List.length_map] at hjl hll
      have hmap : (p.map fun c => (⟨(clT c).toArray⟩ : ByteArray)).map (·.data.toList) = p.map clT := by simp [List.map_map, Function.comp_def]
      have hJ := Tryz.strings_Join g 0 cap (p.map fun c => (⟨(clT c).toArray⟩ : ByteArray)) ⟨#[10]⟩ W9 hcells hgl (by rw [List.length_map]; omega) (by rw [List.length_map]; omega) (by rw [hmap]; show (Lib.join (p.map clT) [10]).length ≤ _; omega)
      rw [hmap, List.length_map] at hJ
      have HJ := hide hJ
      clear hcells hJ hmap hO HO
      go_wp2_with fail
      refine HJ.out.mono ?_
      rintro e w1 ⟨rfl, hb1⟩
      have HB1 := hide (HB.out.trans (hb1.mono HB.out.size))
      clear hb1 HJ
      go_wp2
      go_ret
      exact ⟨rfl, HB1.out⟩
end Go.Proofs.YtngopilbpiplhaaGreatDoor
