/-
  The document's own answer: Prove, at a program.
-/
import Derived.Test.YtngopilbpiplhaaGreatDoorZRfZ1
import Derived.Test.YtngopilbpiplhaaGreatDoorZClO
import Derived.Deep.LoopGhost
namespace Go.Proofs.YtngopilbpiplhaaGreatDoor
open Go.RowKit
set_option linter.unusedVariables false
set_option linter.unusedSimpArgs false
theorem owns_pos {w : World} {B n sz : Nat} {t : TypeId} {v : Value} {xs : List Value} (h : w.ownsRow B t sz v (n + 1) xs) : ∃ g cap, v = .slice (some ⟨g, 0, none⟩) (n + 1) cap := by
  obtain ⟨_, ⟨_, h2⟩ | ⟨g, cap, cur, e, _⟩⟩ := h
  · omega
  · exact ⟨g, cap, e⟩
theorem start_len (n : Nat) : (start0 n).1.length = n := by simp [start0]
theorem RS.setR {w : World} {sb pb hb lb pc hc lc : Nat} {p : List Cl} {ch la : List Int} {R : Int} (h : RS w sb pb hb lb pc hc lc p ch la R) (R' : Int) (n1 : sb ≠ pb) (n2 : sb ≠ hb) (n3 : sb ≠ lb) : RS (w.setCell ⟨sb, 3, none⟩ (.int .i64 R')) sb pb hb lb pc hc lc p ch la R' := by
  have k : Keep w.heap.size sb w (w.setCell ⟨sb, 3, none⟩ (.int .i64 R')) := (Keep.refl w.heap.size sb w).setb _ _ 3 (.int .i64 R')
  exact ⟨(World.cell?_setCell_other w _ _ _ (by simp)).trans h.c0, (World.cell?_setCell_other w _ _ _ (by simp)).trans h.c1, (World.cell?_setCell_other w _ _ _ (by simp)).trans h.c2, World.cell?_setCell_same w _ _ h.c3,
    h.claims.mono (k.block pb h.ltp (Ne.symm n1)), h.chg.mono (k.block hb h.chg.lt (Ne.symm n2)), h.las.mono (k.block lb h.las.lt (Ne.symm n3)), Nat.lt_of_lt_of_le h.lts k.size, Nat.lt_of_lt_of_le h.ltp k.size⟩
theorem Keep3.below' {B a b c : Nat} {w w' : World} (h : Keep3 B a b c w w') (h1 : B ≤ a) (h2 : B ≤ b) (h3 : B ≤ c) : Below B w w' := ⟨h.os, h.tape, h.output, h.size, fun k hk => h.block k hk (by omega) (by omega) (by omega)⟩
set_option maxRecDepth 100000 in
set_option maxHeartbeats 16000000 in
theorem rProve_good (l : List UInt8) (w : World) (hl : l.length ≤ 10000000) (hgood : Good l) (f : Nat) (hf : f ≤ 100000) (END : List Cl × List Int) (hE : searchF (progF l) f (start0 (progF l).length) = some END) (hao : AllOk END.1) :
    Calls Tryz.prog 38 #[.string ⟨l.toArray⟩] w fun e w' => wProveRes (progF l) END.1 e ∧ Below w.heap.size w w' := by
  obtain ⟨hn0, hn1⟩ := good_len hgood
  have hok := good_ok hgood
  have hto := good_to hgood
  have HOK := hide hok
  have HTO := hide hto
  have HE := hide hE
  have HAO := hide hao
  have HGD := hide hgood
  clear hok hto hE hao hgood
  go_enter Tryz.func38, Tryz.ntmps38
  go_wp2_with fail
  refine (rRead_any l _ hl).mono ?_
  rintro e w1 ⟨hres, hb1⟩
  rcases hres with ⟨gl, gcap, rfl, _, hcap, hglB, hgl, hL⟩ | ⟨c, q, rfl, hbad⟩
  rotate_left
  · exact (good_bad HGD.out hbad).elim
  generalize hxs : progF l = xs at *
  have HXS := hide hxs
  clear hxs
  have HL := hide hL
  have HB1 := hide hb1
  have hxok : ∀ x ∈ xs, XOk x := fun x hx => by obtain ⟨k, hk⟩ := List.getElem?_of_mem hx; exact lineOk_x (HOK.out k x hk)
  have HXOK := hide hxok
  clear hL hb1 hxok HGD
  obtain ⟨sb, hsb⟩ : ∃ s, s = w1.heap.size := ⟨_, rfl⟩
  have HSB := hide hsb
  have hglsb : gl < sb := by omega
  have hI0 : IN w1 w1.heap.size (.slice none 0 0) (.slice none 0 0) (.slice none 0 0) 0 0 0 (w1.alloc (.cells #[.slice none 0 0, .slice none 0 0, .slice none 0 0, .int .i64 0] 179)) :=
    ⟨blk_new w1 _, ⟨rfl, .inl ⟨rfl, rfl⟩⟩, ⟨rfl, .inl ⟨rfl, rfl⟩⟩, ⟨rfl, .inl ⟨rfl, rfl⟩⟩, (fun g q => by cases q), (fun g q => by cases q), (fun g q => by cases q), (Below.refl _ _).alloc (Nat.le_refl _) _, by simp⟩
  have HI0 := hide hI0
  clear hI0
  go_wp2_with fail
  rw [← hsb] at HI0 ⊢
  clear hsb
  go_loopw [9] (fun iv w' => ∃ (k : Nat) (v0 v1 v2 : Value), k ≤ xs.length ∧ iv = .int .i64 k ∧ IN w1 sb v0 v1 v2 k k k w') (fun iv _ => xs.length - (intOf iv).toNat)
  case atStart => exact ⟨0, _, _, _, Nat.zero_le _, rfl, HI0.out⟩
  case round =>
    clear HI0
    obtain ⟨k, v0, v1, v2, hk, rfl, hI⟩ := hrel
    have HI := hide hI
    clear hI
    have hzw : w1.heap.size ≤ sb := by rw [HSB.out]; exact Nat.le_refl _
    obtain ⟨W9, hW9⟩ : ∃ W : World, W = wr := ⟨_, rfl⟩
    subst hW9
    by_cases hlk : k < xs.length
    · have hz9 := HI.out.z
      have c0 : W9.cell? ⟨sb, 0, none⟩ = some v0 := cell_of_blk HI.out.s 0
      have hkI : (k : Int) < (xs.length : Int) := by omega
      by_cases h0 : k = 0
      · have HCC : Hid (clNone = if k = 0 then clNone else clNever) := hide (by simp [h0])
        have hk0 : decide (0 < k) = false := by simp [h0]
        clear h0
        go_upto_region 8 with fail
        go_wp2_with (first | (at_builtin; refine wpList_appA rfl (.tmp 42) (.tmp 46) 172 181 (.agg (rcCells clNone)) 25 144 rfl infoRc Tryz.underlying172 rfl (by decide) (sb + 1) _ k (rcL (beg k)) rfl (hide (HI.out.alloc hzw _).o0) W9.heap.size (rcCells clNone) 181 rfl (blk_new _ _) rfl (rc_one _) (by omega) (by omega) (by rw [World.size_alloc]; omega) ?_) | go_in)
        intro va wb hO hG hA
        obtain ⟨gva, capva, hva⟩ := owns_pos hO.out
        subst hva
        have HI1 := hide ((HI.out.alloc hzw _).app0 clNone HCC.out hO.out hG.out (by rw [World.size_alloc]; exact hA.out))
        have hsx := grown_sb (HI.out.alloc hzw _).o0 hG.out (HI.out.alloc hzw _).s
        have cs : wb.cell? ⟨sb, 0, none⟩ = some v0 := cell_of_blk hsx 0
        have fz := frozen_of_blk hsx
        clear hO hG hA HI hsx hz9 c0
        go_upto_region 9 with fail
        clear cs fz
        generalize wb.setCell ⟨sb, 0, none⟩ (.slice (some ⟨gva, 0, none⟩) (k + 1) capva) = wc at *
        have c1 : wc.cell? ⟨sb, 1, none⟩ = some v1 := cell_of_blk HI1.out.s 1
        have hz1 : sb + 1 ≤ wc.heap.size := HI1.out.z
        go_wp2_with (first | (at_builtin; refine wpList_appA rfl (.tmp 54) (.tmp 55) 22 3 (.int .i64 0) 1 8 rfl infoInt Tryz.underlying22 rfl (by decide) (sb + 1) _ k (zC k) rfl (hide (HI1.out.alloc hzw _).o1) wc.heap.size #[.int .i64 0] 3 rfl (blk_new _ _) rfl (by simp [Value.oneCell']) (by omega) (by omega) (by rw [World.size_alloc]; omega) ?_) | go_in)
        intro vb wd hO hG hA
        obtain ⟨gvb, capvb, hvb⟩ := owns_pos hO.out
        subst hvb
        have HI2 := hide ((HI1.out.alloc hzw _).app1 hO.out hG.out (by rw [World.size_alloc]; exact hA.out))
        have hsx := grown_sb (HI1.out.alloc hzw _).o1 hG.out (HI1.out.alloc hzw _).s
        have cs : wd.cell? ⟨sb, 1, none⟩ = some v1 := cell_of_blk hsx 1
        have fz := frozen_of_blk hsx
        clear hO hG hA HI1 hsx c1 hz1
        go_upto_region 10 with fail
        clear cs fz
        generalize wd.setCell ⟨sb, 1, none⟩ (.slice (some ⟨gvb, 0, none⟩) (k + 1) capvb) = we at *
        have c2 : we.cell? ⟨sb, 2, none⟩ = some v2 := cell_of_blk HI2.out.s 2
        have hz2 : sb + 1 ≤ we.heap.size := HI2.out.z
        go_wp2_with (first | (at_builtin; refine wpList_appA rfl (.tmp 63) (.tmp 64) 22 3 (.int .i64 0) 1 8 rfl infoInt Tryz.underlying22 rfl (by decide) (sb + 1) _ k (zC k) rfl (hide (HI2.out.alloc hzw _).o2) we.heap.size #[.int .i64 0] 3 rfl (blk_new _ _) rfl (by simp [Value.oneCell']) (by omega) (by omega) (by rw [World.size_alloc]; omega) ?_) | go_in)
        intro vc wf hO hG hA
        obtain ⟨gvc, capvc, hvc⟩ := owns_pos hO.out
        subst hvc
        have HI3 := hide ((HI2.out.alloc hzw _).app2 hO.out hG.out (by rw [World.size_alloc]; exact hA.out))
        have hsx := grown_sb (HI2.out.alloc hzw _).o2 hG.out (HI2.out.alloc hzw _).s
        have cs : wf.cell? ⟨sb, 2, none⟩ = some v2 := cell_of_blk hsx 2
        have fz := frozen_of_blk hsx
        clear hO hG hA HI2 hsx c2 hz2
        go_wp2
        go_roundw
        case rel => exact ⟨k + 1, _, _, _, by omega, by go_num, HI3.out⟩
        case measure => first | (simp [intOf]; omega) | simp [intOf]
      · have HCC : Hid (clNever = if k = 0 then clNone else clNever) := hide (by simp [h0])
        have hk0 : decide (0 < k) = true := by simp; omega
        clear h0
        go_upto_region 8 with fail
        go_wp2_with (first | (at_builtin; refine wpList_appA rfl (.tmp 42) (.tmp 46) 172 181 (.agg (rcCells clNone)) 25 144 rfl infoRc Tryz.underlying172 rfl (by decide) (sb + 1) _ k (rcL (beg k)) rfl (hide (HI.out.alloc hzw _).o0) W9.heap.size (rcCells clNever) 181 rfl (blk_new _ _) rfl (rc_one _) (by omega) (by omega) (by rw [World.size_alloc]; omega) ?_) | go_in)
        intro va wb hO hG hA
        obtain ⟨gva, capva, hva⟩ := owns_pos hO.out
        subst hva
        have HI1 := hide ((HI.out.alloc hzw _).app0 clNever HCC.out hO.out hG.out (by rw [World.size_alloc]; exact hA.out))
        have hsx := grown_sb (HI.out.alloc hzw _).o0 hG.out (HI.out.alloc hzw _).s
        have cs : wb.cell? ⟨sb, 0, none⟩ = some v0 := cell_of_blk hsx 0
        have fz := frozen_of_blk hsx
        clear hO hG hA HI hsx hz9 c0
        go_upto_region 9 with fail
        clear cs fz
        generalize wb.setCell ⟨sb, 0, none⟩ (.slice (some ⟨gva, 0, none⟩) (k + 1) capva) = wc at *
        have c1 : wc.cell? ⟨sb, 1, none⟩ = some v1 := cell_of_blk HI1.out.s 1
        have hz1 : sb + 1 ≤ wc.heap.size := HI1.out.z
        go_wp2_with (first | (at_builtin; refine wpList_appA rfl (.tmp 54) (.tmp 55) 22 3 (.int .i64 0) 1 8 rfl infoInt Tryz.underlying22 rfl (by decide) (sb + 1) _ k (zC k) rfl (hide (HI1.out.alloc hzw _).o1) wc.heap.size #[.int .i64 0] 3 rfl (blk_new _ _) rfl (by simp [Value.oneCell']) (by omega) (by omega) (by rw [World.size_alloc]; omega) ?_) | go_in)
        intro vb wd hO hG hA
        obtain ⟨gvb, capvb, hvb⟩ := owns_pos hO.out
        subst hvb
        have HI2 := hide ((HI1.out.alloc hzw _).app1 hO.out hG.out (by rw [World.size_alloc]; exact hA.out))
        have hsx := grown_sb (HI1.out.alloc hzw _).o1 hG.out (HI1.out.alloc hzw _).s
        have cs : wd.cell? ⟨sb, 1, none⟩ = some v1 := cell_of_blk hsx 1
        have fz := frozen_of_blk hsx
        clear hO hG hA HI1 hsx c1 hz1
        go_upto_region 10 with fail
        clear cs fz
        generalize wd.setCell ⟨sb, 1, none⟩ (.slice (some ⟨gvb, 0, none⟩) (k + 1) capvb) = we at *
        have c2 : we.cell? ⟨sb, 2, none⟩ = some v2 := cell_of_blk HI2.out.s 2
        have hz2 : sb + 1 ≤ we.heap.size := HI2.out.z
        go_wp2_with (first | (at_builtin; refine wpList_appA rfl (.tmp 63) (.tmp 64) 22 3 (.int .i64 0) 1 8 rfl infoInt Tryz.underlying22 rfl (by decide) (sb + 1) _ k (zC k) rfl (hide (HI2.out.alloc hzw _).o2) we.heap.size #[.int .i64 0] 3 rfl (blk_new _ _) rfl (by simp [Value.oneCell']) (by omega) (by omega) (by rw [World.size_alloc]; omega) ?_) | go_in)
        intro vc wf hO hG hA
        obtain ⟨gvc, capvc, hvc⟩ := owns_pos hO.out
        subst hvc
        have HI3 := hide ((HI2.out.alloc hzw _).app2 hO.out hG.out (by rw [World.size_alloc]; exact hA.out))
        have hsx := grown_sb (HI2.out.alloc hzw _).o2 hG.out (HI2.out.alloc hzw _).s
        have cs : wf.cell? ⟨sb, 2, none⟩ = some v2 := cell_of_blk hsx 2
        have fz := frozen_of_blk hsx
        clear hO hG hA HI2 hsx c2 hz2
        go_wp2
        go_roundw
        case rel => exact ⟨k + 1, _, _, _, by omega, by go_num, HI3.out⟩
        case measure => first | (simp [intOf]; omega) | simp [intOf]
    · obtain rfl : k = xs.length := by omega
      obtain ⟨pb, pc, rfl, op0, hpB, hpl, hcl⟩ := rclaims_of HI.out.o0 (beg_len _).symm hn0
      obtain ⟨hb, hc, rfl, op1, hhB, hhi⟩ := rints_of HI.out.o1 hn0
      obtain ⟨lb, lc, rfl, op2, hlB, hli⟩ := rints_of HI.out.o2 hn0
      have hap : Ap sb pb hb lb := ⟨by omega, by omega, by omega, fun q => HI.out.a01 pb op0 (by rw [op1, q]), fun q => HI.out.a02 pb op0 (by rw [op2, q]), fun q => HI.out.a12 hb op1 (by rw [op2, q])⟩
      have hRS : RS W9 sb pb hb lb pc hc lc (beg xs.length) (List.replicate xs.length 0) (List.replicate xs.length 0) 0 :=
        ⟨by rw [beg_len]; exact cell_of_blk HI.out.s 0, by rw [beg_len]; exact cell_of_blk HI.out.s 1, by rw [beg_len]; exact cell_of_blk HI.out.s 2, cell_of_blk HI.out.s 3, hcl, hhi, hli, HI.out.z, hpl⟩
      have HAP := hide hap
      have HRS := hide hRS
      have HBE := hide HI.out.b
      have HSK := hide HI.out.s
      clear op0 op1 op2 hcl hhi hli hap hRS HI hpl
      have hnot : ¬ (xs.length : Int) < (xs.length : Int) := by omega
      go_upto_region 11 with fail
      refine wp_region_held (S := fun W' => W'.cell? ⟨sb, 0, none⟩ = some (.slice (some ⟨pb, 0, none⟩) xs.length pc)) mixed ?_
      have hb0 : Below W9.heap.size W9 { W9 with drawn := W9.drawn + 1 } := (Below.refl _ _).drew
      generalize ({ W9 with drawn := W9.drawn + 1 } : World) = w0 at *
      have HR0 := hide (HRS.out.below hb0)
      have HB0 := hide (HBE.out.trans (hb0.mono (Nat.le_of_lt HRS.out.lts)))
      have hs0 : w0.cell? ⟨sb, 0, none⟩ = some (.slice (some ⟨pb, 0, none⟩) xs.length pc) := by have e := HR0.out.c0; rw [beg_len] at e; exact e
      have HS := hide hs0
      have HSK0 := hide ((hb0.block _ HRS.out.lts).trans HSK.out)
      clear hs0 HRS HBE HSK
      clear hb0
      refine hT 0 68 rfl rfl (by kernel_rfl) (fun _ _ _ h => h) (.inl ⟨by kernel_rfl, fun w' h => by go_simp; rfl⟩) HS.out ?_
      simp only [Act.put, zzA, zzB, zzC]
      refine hT 1 69 rfl rfl (by kernel_rfl) (fun _ _ _ h => h) (.inl ⟨by kernel_rfl, fun w' h => by go_simp; rfl⟩) HS.out ?_
      simp only [Act.put, zzA, zzB, zzC]
      refine hT 2 70 rfl rfl (by kernel_rfl) (fun _ _ _ h => h) (.inl ⟨by kernel_rfl, fun w' h => by go_simp; rfl⟩) HS.out ?_
      simp only [Act.put, zzA, zzB, zzC]
      refine hT 3 71 rfl rfl (by kernel_rfl) (fun _ _ _ h => h) (.inl ⟨by kernel_rfl, fun w' h => by have hc := h; go_simp; rfl⟩) HS.out ?_
      simp only [Act.put, zzA, zzB, zzC]
      refine held_call (i := 4) (some 72) (by kernel_rfl) rfl rfl (by kernel_rfl) (by go_simp; exact ⟨rfl, rfl⟩) ?_
      refine (rfirst_any _).mono ?_
      rintro e w2 ⟨rfl, hbx⟩
      have HR1 := hide (HR0.out.below hbx)
      have HB2 := hide (HB0.out.trans (hbx.mono (Nat.le_of_lt HR0.out.lts)))
      have hs1 : w2.cell? ⟨sb, 0, none⟩ = some (.slice (some ⟨pb, 0, none⟩) xs.length pc) := by have e := HR1.out.c0; rw [beg_len] at e; exact e
      have HSK2 := hide ((hbx.block _ HR0.out.lts).trans HSK0.out)
      clear hbx HR0 HB0 HS HSK0
      refine ⟨_, rfl, hs1, ?_⟩
      simp only [Act.put, zzA, zzB, zzC]
      refine hT 5 73 rfl rfl (by kernel_rfl) (fun _ _ _ h => h) (.inl ⟨by kernel_rfl, fun w' h => by have h0I : (0 : Int) < (xs.length : Int) := (by omega); go_simp; rfl⟩) hs1 ?_
      simp only [Act.put, zzA, zzB, zzC]
      have hK := keep_setCells w2.heap.size pb (rcCells clStart).toList 0 w2
      have hR2 := HR1.out.setP (t := 0) HAP.out.n1 (Ne.symm HAP.out.n4) (Ne.symm HAP.out.n5) (by rw [beg_len]; exact hn0) clStart clStart rfl
      rw [Nat.zero_mul, beg_start _ hn0] at hR2
      refine held_skip (i := 6) (by kernel_rfl) rfl (by kernel_rfl) (exec_storeMidRc (.tmp 73) (.tmp 72) rfl pb 0 clStart (by kernel_rfl) (by kernel_rfl) (by have e := HR1.out.claims.there (t := 0) (by rw [beg_len]; exact hn0); rwa [Nat.zero_mul] at e)) (by have e := hR2.c0; rw [start_len] at e; exact e) ?_
      simp only [Act.put, zzA, zzB, zzC]
      have HB3 := hide (HB2.out.trans ((hK.mono (Nat.le_of_lt HR1.out.lts)).below (by omega)))
      have HSK3 := hide ((hK.block sb HR1.out.lts HAP.out.n1).trans HSK2.out)
      generalize w2.setCells pb 0 (rcCells clStart).toList = w3 at *
      have HR3 := hide hR2
      clear hK hR2 hs1 HR1 HB2 HSK2
      refine wpAnyH_done (by kernel_rfl) ?_ _
      go_wp2_with fail
      go_loopg [10] (f + 1) (fun gk mv w' => ∃ (st : List Cl × List Int) (R : Int) (la : List Int), ((mv = .bool true ∧ ∃ m, gk = m + 1 ∧ searchF xs m st = some END) ∨ (mv = .bool false ∧ st = END)) ∧ PS st.1 ∧ st.1.length = xs.length ∧ st.2.length = xs.length ∧ la.length = xs.length ∧
        RS w' sb pb hb lb pc hc lc st.1 st.2 la R ∧ (∀ v ∈ la, v ≤ R) ∧ 0 ≤ R ∧ R ≤ ((f + 1 - gk : Nat) : Int) ∧ (∀ j, 0 ≤ chF st.2 j ∧ chF st.2 j ≤ ((f + 1 - gk : Nat) : Int)) ∧ gk ≤ f + 1 ∧ (∃ SA, w'.heap[sb]? = some (.cells SA 179)) ∧ Below sb w1 w')
      case atStart =>
        refine ⟨start0 xs.length, 0, List.replicate xs.length 0, .inl ⟨rfl, f, rfl, HE.out⟩, ps_start _, start_len _, by simp [start0], by simp, HR3.out, fun v hv => by rw [List.eq_of_mem_replicate hv]; exact Int.le_refl _, Int.le_refl _, by omega, fun j => ?_, Nat.le_refl _, ⟨_, HSK3.out⟩, HB3.out⟩
        show 0 ≤ chF (List.replicate xs.length 0) j ∧ chF (List.replicate xs.length 0) j ≤ _
        rw [chF_zero]
        omega
      case round =>
        clear HR3 HB3 HSK3
        obtain ⟨st, R, la, hor, hps, hp1, hp2, hla, hRS, hle, hR0, hR1, hch, hgf, ⟨SA, hSA⟩, hBE⟩ := hrel
        have HSA := hide hSA
        clear hSA
        obtain ⟨W0, hW0⟩ : ∃ W : World, W = wr := ⟨_, rfl⟩
        subst hW0
        have HPS := hide hps
        have HP1 := hide hp1
        have HP2 := hide hp2
        have HLA := hide hla
        have HRS := hide hRS
        have HLE := hide hle
        have HCH := hide hch
        have HBE := hide hBE
        clear hps hp1 hp2 hla hRS hle hch hBE
        rcases hor with ⟨rfl, m, rfl, hsf⟩ | ⟨rfl, hst⟩
        · obtain ⟨m, rfl⟩ : ∃ m', m = m' + 1 := by
            cases m with
            | zero => exact absurd hsf (by simp [searchF])
            | succ m => exact ⟨m, rfl⟩
          have HSF := hide hsf
          clear hsf
          have c3 := HRS.out.c3
          have fz : ∀ o, W0.frozen? ⟨sb, o, none⟩ = false := frozen_of_blk HSA.out
          have HSA1 := hide (blk_setCell HSA.out 3 (.int .i64 (R + 1)))
          have hRw : wrap64 (R + 1) = R + 1 := by unfold wrap64; omega
          have HR1 := hide (HRS.out.setR (R + 1) HAP.out.n1 HAP.out.n2 HAP.out.n3)
          have HB1' := hide (HBE.out.setCell (p := ⟨sb, 3, none⟩) (Nat.le_refl sb) (.int .i64 (R + 1)))
          clear HBE
          go_wp2_with fail
          clear c3 fz hRw HRS
          generalize W0.setCell ⟨sb, 3, none⟩ (.int .i64 (R + 1)) = W1 at *
          have hV0 : RV W1 sb pb hb lb pc hc lc st.1 st.2 (List.replicate xs.length false) (R + 1) la := by
            refine ⟨?_, by rw [HLA.out]; simp, fun j v b h1 h2 => ?_⟩
            · have e := cnt_false st.2
              rw [HP2.out] at e
              rw [e]
              exact HR1.out
            · have h3 := HLE.out v (List.mem_of_getElem? h1)
              rw [List.getElem?_replicate] at h2
              split at h2
              · cases h2
                exact ⟨fun q => by omega, fun q => by cases q⟩
              · cases h2
          have HV0 := hide hV0
          clear hV0 HR1
          go_loopw [10, 11] (fun mv iv w' => ∃ (k : Nat) (p' : List Cl) (bs : List Bool) (la' : List Int), k ≤ xs.length ∧ iv = .int .i64 k ∧ mv = .bool (bs.any id) ∧ (List.range k).foldl (lineV xs st.2) (st.1, List.replicate xs.length false) = (p', bs) ∧ RV w' sb pb hb lb pc hc lc p' st.2 bs (R + 1) la' ∧ (∀ v ∈ la', v ≤ R + 1) ∧ PS p' ∧ p'.length = xs.length ∧ bs.length = xs.length ∧ w'.heap[sb]? = W1.heap[sb]? ∧ Below sb w1 w') (fun _ iv _ => xs.length - (intOf iv).toNat)
          case atStart => exact ⟨0, st.1, _, la, Nat.zero_le _, rfl, by simp, rfl, HV0.out, fun v hv => by have := HLE.out v hv; omega, HPS.out, HP1.out, by simp, rfl, HB1'.out⟩
          case round =>
            clear HV0 HB1'
            obtain ⟨k, p1, bs1, la1, hk, rfl, rfl, hfold, hV, hle1, hps1, hl1, hl2, hF, hB⟩ := hrel
            have HF := hide hF
            clear hF
            have HFOLD := hide hfold
            have HV := hide hV
            have HLE1 := hide hle1
            have HPS1 := hide hps1
            have HL1 := hide hl1
            have HL2 := hide hl2
            have HB := hide hB
            clear hfold hV hle1 hps1 hl1 hl2 hB
            obtain ⟨W2, hW2⟩ : ∃ W : World, W = wr := ⟨_, rfl⟩
            subst hW2
            by_cases hlk : k < xs.length
            · have hkI : (k : Int) < (xs.length : Int) := by omega
              obtain ⟨x, hx⟩ : ∃ x, xs[k]? = some x := ⟨_, List.getElem?_eq_getElem hlk⟩
              obtain ⟨c, hc'⟩ : ∃ c, p1[k]? = some c := ⟨_, List.getElem?_eq_getElem (by rw [HL1.out]; exact hlk)⟩
              have HX := hide hx
              have HC := hide hc'
              clear hx hc'
              have c0 : W2.cell? ⟨sb, 0, none⟩ = some (.slice (some ⟨pb, 0, none⟩) xs.length pc) := by have e := HV.out.rs.c0; rw [HL1.out] at e; exact e
              have HRC := hide (HV.out.rs.claims.2 k c HC.out)
              go_wp2_with (first | (refine wpList_load_mid rfl 181 (.tmp 94) rfl pb (k * 25) rfl (rcCells c).toList _ HRC.out Tryz.underlying181 rfl (by kernel_rfl) ?_) | (refine wpList_storeRw rfl 181 (.tmp 12) (.tmp 95) rfl W2.heap.size (rcCells c) _ rfl rfl (blk_new W2 _) (by kernel_rfl) rfl (rc_one _) ?_))
              intro w3 hw3
              have hb3 : Below W2.heap.size W2 w3 := by rw [hw3.out]; exact ((Below.refl _ _).alloc (Nat.le_refl _) _).trans ((keep_setRow' W2.heap.size _ _ _).below (Nat.le_refl _))
              have HN3 : Hid (w3.heap[W2.heap.size]? = some (rcB c)) := hide (by rw [hw3.out]; exact setRow_heap _ _ _ _ _ _ (blk_new W2 _))
              have HV3 := hide (HV.out.below hb3)
              have HF3 := hide ((hb3.block _ HV.out.rs.lts).trans HF.out)
              have HB3 := hide (HB.out.trans (hb3.mono (Nat.le_of_lt HV.out.rs.lts)))
              obtain ⟨cb, hcb⟩ : ∃ cb, cb = W2.heap.size := ⟨_, rfl⟩
              rw [← hcb] at HN3 ⊢
              have hcbs : sb < cb ∧ pb < cb ∧ hb < cb ∧ lb < cb := by rw [hcb]; exact ⟨HV.out.rs.lts, HV.out.rs.ltp, HV.out.rs.chg.lt, HV.out.rs.las.lt⟩
              have hlx : w3.rangeAt gl (k * 5) (rlA x).toList := fun j v hv => (HB3.out.cell (p := ⟨gl, k * 5 + j, none⟩) hglsb).trans (HL.out k x HX.out j v hv)
              have HLX := hide hlx
              clear hw3 hb3 c0 HRC hlx hcb HV HB
              go_wp2_with fail
              refine wp_region_held (S := fun W' => W'.heap[cb]? = some (rcB c) ∧ W'.rangeAt gl (k * 5) (rlA x).toList) mixed ?_
              have hb0 : Below w3.heap.size w3 { w3 with drawn := w3.drawn + 1 } := (Below.refl _ _).drew
              generalize ({ w3 with drawn := w3.drawn + 1 } : World) = w4 at *
              have HF4 := hide ((hb0.block _ HV3.out.rs.lts).trans HF3.out)
              have HV4 := hide (HV3.out.below hb0)
              have HB4 := hide (HB3.out.trans (hb0.mono (Nat.le_of_lt HV3.out.rs.lts)))
              have HS4 : Hid (w4.heap[cb]? = some (rcB c) ∧ w4.rangeAt gl (k * 5) (rlA x).toList) := hide ⟨(hb0.block _ (blk_lt HN3.out)).trans HN3.out, fun j v hv => (hb0.cell (p := ⟨gl, k * 5 + j, none⟩) (Nat.lt_trans hglsb HV3.out.rs.lts)).trans (HLX.out j v hv)⟩
              clear HV3 HB3 HN3 HLX HF3 HF
              clear hb0
              refine hT 0 96 rfl rfl (by kernel_rfl) (fun _ _ _ h => h) (yields_row (by kernel_rfl) 181 (.tmp 12) rfl (cb) (by kernel_rfl) (rcCells c) _ _ (fun w' h => h.1) Tryz.underlying181 rfl (by kernel_rfl)) HS4.out ?_
              simp only [Act.put, zzA, zzB, zzC]
              refine hT 1 97 rfl rfl (by kernel_rfl) (fun _ _ _ h => h) (.inl ⟨by kernel_rfl, fun w' h => by go_simp; rfl⟩) HS4.out ?_
              simp only [Act.put, zzA, zzB, zzC]
              refine hT 2 98 rfl rfl (by kernel_rfl) (fun _ _ _ h => h) (.inl ⟨by kernel_rfl, fun w' h => by go_simp; rfl⟩) HS4.out ?_
              simp only [Act.put, zzA, zzB, zzC]
              refine hT 3 99 rfl rfl (by kernel_rfl) (fun _ _ _ h => h) (.inl ⟨by kernel_rfl, fun w' h => by go_simp; rfl⟩) HS4.out ?_
              simp only [Act.put, zzA, zzB, zzC]
              refine hT 4 100 rfl rfl (by kernel_rfl) (fun _ _ _ h => h) (yieldsIf_load_mid (by kernel_rfl) 185 (.tmp 99) rfl (gl) (k * 5) (by kernel_rfl) (rlA x).toList _ (fun w' h => h.2) Tryz.underlying185 rfl (by kernel_rfl)) HS4.out ?_
              simp only [Act.put, zzA, zzB, zzC]
              simp only [Array.toArray_toList]
              refine held_call (i := 5) (some 101) (by kernel_rfl) rfl rfl (by kernel_rfl) (by go_simp; exact ⟨rfl, rfl⟩) ?_
              refine (rmeets_x (HOK.out k x HX.out) c _).mono ?_
              rintro e w5 ⟨rfl, hbx⟩
              have HF5 := hide ((hbx.block _ HV4.out.rs.lts).trans HF4.out)
              have HV5 := hide (HV4.out.below hbx)
              have HB5 := hide (HB4.out.trans (hbx.mono (Nat.le_of_lt HV4.out.rs.lts)))
              have HS5 : Hid (w5.heap[cb]? = some (rcB c) ∧ w5.rangeAt gl (k * 5) (rlA x).toList) := hide ⟨(hbx.block _ (blk_lt HS4.out.1)).trans HS4.out.1, fun j v hv => (hbx.cell (p := ⟨gl, k * 5 + j, none⟩) (Nat.lt_trans hglsb HV4.out.rs.lts)).trans (HS4.out.2 j v hv)⟩
              clear hbx HV4 HB4 HS4 HF4
              refine ⟨_, rfl, HS5.out, ?_⟩
              simp only [Act.put, zzA, zzB, zzC]
              refine hT 6 13 rfl rfl (by kernel_rfl) (fun _ _ _ h => h) (.inl ⟨by kernel_rfl, fun w' h => by go_simp; rfl⟩) HS5.out ?_
              simp only [Act.put, zzA, zzB, zzC]
              refine wpAnyH_done (by kernel_rfl) ?_ _
              have cn : w5.cell? ⟨cb, 0, none⟩ = some (.bool c.never) := cell_of_blk HS5.out.1 0
              cases hcn : c.never with
              | true =>
                rw [hcn] at cn
                have HLV : Hid ((List.range (k + 1)).foldl (lineV xs st.2) (st.1, List.replicate xs.length false) = (p1, bs1)) := hide (by rw [fold_range, HFOLD.out]; unfold lineV; rw [exitsF_of HX.out HC.out]; simp [exitsOf, hcn])
                clear hcn
                go_wp2
                go_roundw
                case rel => exact ⟨k + 1, p1, bs1, la1, by omega, by go_num, rfl, HLV.out, HV5.out, HLE1.out, HPS1.out, HL1.out, HL2.out, HF5.out, HB5.out⟩
                case measure => first | (simp [intOf]; omega) | simp [intOf]
              | false =>
                rw [hcn] at cn
                cases hm : metW x.word.toNat c x with
                | false =>
                  have HLV : Hid ((List.range (k + 1)).foldl (lineV xs st.2) (st.1, List.replicate xs.length false) = (p1, bs1)) := hide (by rw [fold_range, HFOLD.out]; unfold lineV; rw [exitsF_of HX.out HC.out]; simp [exitsOf, hcn, hm])
                  clear hcn hm
                  go_wp2
                  go_roundw
                  case rel => exact ⟨k + 1, p1, bs1, la1, by omega, by go_num, rfl, HLV.out, HV5.out, HLE1.out, HPS1.out, HL1.out, HL2.out, HF5.out, HB5.out⟩
                  case measure => first | (simp [intOf]; omega) | simp [intOf]
                | true =>
                  have hee : exitsF xs p1 k = exW x.word.toNat k c x := by rw [exitsF_of HX.out HC.out]; simp [exitsOf, hcn, hm]
                  have hwf := exitsF_wf xs p1 k HPS1.out.wf HXOK.out
                  have hte := HTO.out p1 k
                  have hnn := exits_to' (HOK.out k x HX.out) hlk c
                  rw [exitsF_of HX.out HC.out] at hee hwf hte
                  rw [hee] at hwf hte hnn
                  have HLV : Hid ((List.range (k + 1)).foldl (lineV xs st.2) (st.1, List.replicate xs.length false) = (exW x.word.toNat k c x).foldl (visit st.2 k) (p1, bs1)) := hide (by rw [fold_range, HFOLD.out]; unfold lineV; rw [exitsF_of HX.out HC.out, hee])
                  have HCN := hide hcn
                  have HM := hide hm
                  have HWF := hide hwf
                  have HNN := hide hnn
                  clear hcn hm hee hwf hte hnn
                  go_wp2_with fail
                  clear cn
                  refine wp_region_held (S := fun W' => W'.heap[cb]? = some (rcB c) ∧ W'.rangeAt gl (k * 5) (rlA x).toList) mixed ?_
                  have hb0 : Below w5.heap.size w5 { w5 with drawn := w5.drawn + 1 } := (Below.refl _ _).drew
                  generalize ({ w5 with drawn := w5.drawn + 1 } : World) = w6 at *
                  have HF6 := hide ((hb0.block _ HV5.out.rs.lts).trans HF5.out)
                  have HV6 := hide (HV5.out.below hb0)
                  have HB6 := hide (HB5.out.trans (hb0.mono (Nat.le_of_lt HV5.out.rs.lts)))
                  have HS6 : Hid (w6.heap[cb]? = some (rcB c) ∧ w6.rangeAt gl (k * 5) (rlA x).toList) := hide ⟨(hb0.block _ (blk_lt HS5.out.1)).trans HS5.out.1, fun j v hv => (hb0.cell (p := ⟨gl, k * 5 + j, none⟩) (Nat.lt_trans hglsb HV5.out.rs.lts)).trans (HS5.out.2 j v hv)⟩
                  clear HV5 HB5 HS5 HF5
                  clear hb0
                  refine hT 0 108 rfl rfl (by kernel_rfl) (fun _ _ _ h => h) (yields_row (by kernel_rfl) 181 (.tmp 12) rfl (cb) (by kernel_rfl) (rcCells c) _ _ (fun w' h => h.1) Tryz.underlying181 rfl (by kernel_rfl)) HS6.out ?_
                  simp only [Act.put, zzA, zzB, zzC]
                  refine hT 1 109 rfl rfl (by kernel_rfl) (fun _ _ _ h => h) (.inl ⟨by kernel_rfl, fun w' h => by go_simp; rfl⟩) HS6.out ?_
                  simp only [Act.put, zzA, zzB, zzC]
                  refine hT 2 110 rfl rfl (by kernel_rfl) (fun _ _ _ h => h) (.inl ⟨by kernel_rfl, fun w' h => by go_simp; rfl⟩) HS6.out ?_
                  simp only [Act.put, zzA, zzB, zzC]
                  refine hT 3 111 rfl rfl (by kernel_rfl) (fun _ _ _ h => h) (.inl ⟨by kernel_rfl, fun w' h => by go_simp; rfl⟩) HS6.out ?_
                  simp only [Act.put, zzA, zzB, zzC]
                  refine hT 4 112 rfl rfl (by kernel_rfl) (fun _ _ _ h => h) (yieldsIf_load_mid (by kernel_rfl) 185 (.tmp 111) rfl (gl) (k * 5) (by kernel_rfl) (rlA x).toList _ (fun w' h => h.2) Tryz.underlying185 rfl (by kernel_rfl)) HS6.out ?_
                  simp only [Act.put, zzA, zzB, zzC]
                  simp only [Array.toArray_toList]
                  refine hT 5 113 rfl rfl (by kernel_rfl) (fun _ _ _ h => h) (.inl ⟨by kernel_rfl, fun w' h => by go_simp; rfl⟩) HS6.out ?_
                  simp only [Act.put, zzA, zzB, zzC]
                  refine held_call (i := 6) (some 114) (by kernel_rfl) rfl rfl (by kernel_rfl) (by go_simp; exact ⟨rfl, rfl⟩) ?_
                  refine (rways_x (HOK.out k x HX.out) hn1 c HCN.out (HPS1.out.ok HC.out) HM.out k (by omega) _).mono ?_
                  rintro e w7 ⟨v, rfl, hown, hbx⟩
                  have HF7 := hide ((hbx.block _ HV6.out.rs.lts).trans HF6.out)
                  have HV7 := hide (HV6.out.below hbx)
                  have HB7 := hide (HB6.out.trans (hbx.mono (Nat.le_of_lt HV6.out.rs.lts)))
                  have HS7 : Hid (w7.heap[cb]? = some (rcB c) ∧ w7.rangeAt gl (k * 5) (rlA x).toList) := hide ⟨(hbx.block _ (blk_lt HS6.out.1)).trans HS6.out.1, fun j v hv => (hbx.cell (p := ⟨gl, k * 5 + j, none⟩) (Nat.lt_trans hglsb HV6.out.rs.lts)).trans (HS6.out.2 j v hv)⟩
                  obtain ⟨a, cap, rfl, hsl⟩ := ways_slice hown
                  have hs6 := HV6.out.rs.lts
                  have hs6p := HV6.out.rs.ltp
                  have hs6h := HV6.out.rs.chg.lt
                  have hs6l := HV6.out.rs.las.lt
                  have HSL := hide hsl
                  have hes2 : (exW x.word.toNat k c x).length ≤ 2 := by unfold exW; split <;> split <;> simp
                  generalize exW x.word.toNat k c x = es at *
                  clear hsl hown hbx HV6 HB6 HS6 HF6
                  refine ⟨_, rfl, HS7.out, ?_⟩
                  simp only [Act.put, zzA, zzB, zzC]
                  refine hT 7 14 rfl rfl (by kernel_rfl) (fun _ _ _ h => h) (.inl ⟨by kernel_rfl, fun w' h => by go_simp; rfl⟩) HS7.out ?_
                  simp only [Act.put, zzA, zzB, zzC]
                  refine wpAnyH_done (by kernel_rfl) ?_ _
                  clear HS7
                  go_wp2_with fail
                  go_loopw [10, 15] (fun mv jv w' => ∃ (j : Nat) (p2 : List Cl) (bs2 : List Bool) (la2 : List Int), j ≤ es.length ∧ jv = .int .i64 j ∧ mv = .bool (bs2.any id) ∧ (es.take j).foldl (visit st.2 k) (p1, bs1) = (p2, bs2) ∧ RV w' sb pb hb lb pc hc lc p2 st.2 bs2 (R + 1) la2 ∧ (∀ v ∈ la2, v ≤ R + 1) ∧ PS p2 ∧ p2.length = xs.length ∧ bs2.length = xs.length ∧ Keep3 w7.heap.size pb hb lb w7 w') (fun _ jv _ => es.length - (intOf jv).toNat)
                  case atStart => exact ⟨0, p1, bs1, la1, Nat.zero_le _, rfl, rfl, rfl, HV7.out, HLE1.out, HPS1.out, HL1.out, HL2.out, Keep3.refl _ _ _ _ _⟩
                  case round =>
                    obtain ⟨j, p2, bs2, la2, hj, rfl, rfl, hfold, hV, hle2, hps2, hq1, hq2, hK⟩ := hrel
                    have HFOLD2 := hide hfold
                    have HV2 := hide hV
                    have HLE2 := hide hle2
                    have HPS2 := hide hps2
                    have HQ1 := hide hq1
                    have HQ2 := hide hq2
                    have HK := hide hK
                    have hsk := hK.size
                    clear hfold hV hle2 hps2 hq1 hq2 hK
                    obtain ⟨W8, hW8⟩ : ∃ W : World, W = wr := ⟨_, rfl⟩
                    subst hW8
                    by_cases hjl : j < es.length
                    · have hjI : (j : Int) < (es.length : Int) := by omega
                      obtain ⟨gb, rfl, hgB, hgl7, hrg⟩ := HSL.out (by omega)
                      obtain ⟨t, ht, htn⟩ := HNN.out es[j] (List.getElem_mem hjl)
                      obtain ⟨hdw, hdn⟩ := HWF.out es[j] (List.getElem_mem hjl)
                      obtain ⟨d, hd⟩ : ∃ d, es[j] = ((t : Int), d) := ⟨es[j].2, Prod.ext ht rfl⟩
                      obtain ⟨hr1, hr2⟩ := hrg j hjl
                      rw [hd] at hdw hdn hr1 hr2
                      have HFD : Hid ((es.take (j + 1)).foldl (visit st.2 k) (p1, bs1) = visit st.2 k (p2, bs2) ((t : Int), d)) := hide (by rw [fold_take _ _ _ j hjl, HFOLD2.out, hd])
                      have hgp : gb ≠ pb ∧ gb ≠ hb ∧ gb ≠ lb := by omega
                      have hr1' : W8.cell? ⟨gb, j * 26, none⟩ = some (.int .i64 (t : Int)) := (World.cell?_of_block (a := ⟨gb, j * 26, none⟩) (HK.out.block gb hgl7 hgp.1 hgp.2.1 hgp.2.2)).trans hr1
                      have hr2' : W8.rangeAt gb (j * 26 + 1) (rcCells d).toList := fun i u hu => (World.cell?_of_block (a := ⟨gb, j * 26 + 1 + i, none⟩) (HK.out.block gb hgl7 hgp.1 hgp.2.1 hgp.2.2)).trans (hr2 i u hu)
                      have HR1 := hide hr1'
                      have HR2 := hide hr2'
                      have HDW := hide hdw
                      have HDN := hide hdn
                      clear ht hdw hdn hd hrg hr1 hr2 hr1' hr2' HFOLD2
                      go_wp2_with fail
                      refine wp_region_held (S := fun W' => W'.cell? ⟨gb, j * 26, none⟩ = some (.int .i64 (t : Int)) ∧ W'.rangeAt gb (j * 26 + 1) (rcCells d).toList) mixed ?_
                      have hb0 : Below W8.heap.size W8 { W8 with drawn := W8.drawn + 1 } := (Below.refl _ _).drew
                      generalize ({ W8 with drawn := W8.drawn + 1 } : World) = w9 at *
                      have HV9 := hide (HV2.out.below hb0)
                      have HK9 := hide (HK.out.trans (Keep3.of_below (hb0.mono hsk)))
                      have hgl8 : gb < W8.heap.size := by omega
                      have HS9 : Hid (w9.cell? ⟨gb, j * 26, none⟩ = some (.int .i64 (t : Int)) ∧ w9.rangeAt gb (j * 26 + 1) (rcCells d).toList) := hide ⟨(hb0.cell (p := ⟨gb, j * 26, none⟩) hgl8).trans HR1.out, fun i u hu => (hb0.cell (p := ⟨gb, j * 26 + 1 + i, none⟩) hgl8).trans (HR2.out i u hu)⟩
                      have hs9 := hb0.size
                      clear HV2 HK HR1 HR2
                      clear hb0
                      refine hT 0 121 rfl rfl (by kernel_rfl) (fun _ _ _ h => h) (.inl ⟨by kernel_rfl, fun w' h => by go_simp; rfl⟩) HS9.out ?_
                      simp only [Act.put, zzA, zzB, zzC]
                      refine hT 1 122 rfl rfl (by kernel_rfl) (fun _ _ _ h => h) (.inl ⟨by kernel_rfl, fun w' h => by go_simp; rfl⟩) HS9.out ?_
                      simp only [Act.put, zzA, zzB, zzC]
                      refine hT 2 123 rfl rfl (by kernel_rfl) (fun _ _ _ h => h) (.inl ⟨by kernel_rfl, fun w' h => by go_simp; rfl⟩) HS9.out ?_
                      simp only [Act.put, zzA, zzB, zzC]
                      refine hT 3 124 rfl rfl (by kernel_rfl) (fun _ _ _ h => h) (.inl ⟨by kernel_rfl, fun w' h => by go_simp; rfl⟩) HS9.out ?_
                      simp only [Act.put, zzA, zzB, zzC]
                      refine hT 4 125 rfl rfl (by kernel_rfl) (fun _ _ _ h => h) (.inl ⟨by kernel_rfl, fun w' h => by go_simp; rfl⟩) HS9.out ?_
                      simp only [Act.put, zzA, zzB, zzC]
                      refine hT 5 126 rfl rfl (by kernel_rfl) (fun _ _ _ h => h) (.inl ⟨by kernel_rfl, fun w' h => by go_simp; rfl⟩) HS9.out ?_
                      simp only [Act.put, zzA, zzB, zzC]
                      refine hT 6 127 rfl rfl (by kernel_rfl) (fun _ _ _ h => h) (.inl ⟨by kernel_rfl, fun w' h => by have hc := h.1; go_simp; rfl⟩) HS9.out ?_
                      simp only [Act.put, zzA, zzB, zzC]
                      refine hT 7 128 rfl rfl (by kernel_rfl) (fun _ _ _ h => h) (.inl ⟨by kernel_rfl, fun w' h => by go_simp; rfl⟩) HS9.out ?_
                      simp only [Act.put, zzA, zzB, zzC]
                      refine hT 8 129 rfl rfl (by kernel_rfl) (fun _ _ _ h => h) (.inl ⟨by kernel_rfl, fun w' h => by go_simp; rfl⟩) HS9.out ?_
                      simp only [Act.put, zzA, zzB, zzC]
                      refine hT 9 130 rfl rfl (by kernel_rfl) (fun _ _ _ h => h) (.inl ⟨by kernel_rfl, fun w' h => by go_simp; rfl⟩) HS9.out ?_
                      simp only [Act.put, zzA, zzB, zzC]
                      refine hT 10 131 rfl rfl (by kernel_rfl) (fun _ _ _ h => h) (.inl ⟨by kernel_rfl, fun w' h => by go_simp; rfl⟩) HS9.out ?_
                      simp only [Act.put, zzA, zzB, zzC]
                      refine hT 11 132 rfl rfl (by kernel_rfl) (fun _ _ _ h => h) (yieldsIf_load_mid (by kernel_rfl) 181 (.tmp 131) rfl (gb) (j * 26 + 1) (by kernel_rfl) (rcCells d).toList _ (fun w' h => h.2) Tryz.underlying181 rfl (by kernel_rfl)) HS9.out ?_
                      simp only [Act.put, zzA, zzB, zzC]
                      simp only [Array.toArray_toList]
                      refine held_call (i := 12) (some 133) (by kernel_rfl) rfl rfl (by kernel_rfl) (by go_simp; exact ⟨rfl, rfl⟩) ?_
                      refine (rvisit_any sb pb hb lb pc hc lc p2 st.2 bs2 la2 (R + 1) k t d w9 HV9.out HAP.out HPS2.out (by rw [HQ1.out]; exact hn1) (by rw [HQ2.out, HQ1.out]) (by rw [HP2.out, HQ1.out]) (by rw [HQ1.out]; exact htn) (by omega) HDW.out HDN.out (fun j => by have := HCH.out j; omega)).mono ?_
                      rintro e w10 ⟨b, la3, rfl, hany, hV3, hle3, hK3⟩
                      have HSa : Hid (w10.cell? ⟨gb, j * 26, none⟩ = some (.int .i64 (t : Int)) ∧ w10.rangeAt gb (j * 26 + 1) (rcCells d).toList) := hide ⟨(World.cell?_of_block (a := ⟨gb, j * 26, none⟩) (hK3.block gb (by omega) hgp.1 hgp.2.1 hgp.2.2)).trans HS9.out.1, fun i u hu => (World.cell?_of_block (a := ⟨gb, j * 26 + 1 + i, none⟩) (hK3.block gb (by omega) hgp.1 hgp.2.1 hgp.2.2)).trans (HS9.out.2 i u hu)⟩
                      have HKa := hide (HK9.out.trans (hK3.mono (by omega)))
                      have HVa := hide hV3
                      have HANY := hide hany
                      have HPSa := hide (HPS2.out.visit (st := (p2, bs2)) st.2 k ((t : Int), d) HDW.out HDN.out)
                      have hvl := visit_len st.2 k (p2, bs2) ((t : Int), d)
                      have HL1a := hide (hvl.1.trans HQ1.out)
                      have HL2a := hide (hvl.2.trans HQ2.out)
                      have HLEa : Hid (∀ v ∈ la3, v ≤ R + 1) := hide fun v hv => by
                        rcases hle3 v hv with q | q
                        · exact HLE2.out v q
                        · omega
                      clear hle3
                      clear hany hV3 hK3 hvl HV9 HK9 HS9 HPS2
                      refine ⟨_, rfl, HSa.out, ?_⟩
                      simp only [Act.put, zzA, zzB, zzC]
                      refine hT 13 16 rfl rfl (by kernel_rfl) (fun _ _ _ h => h) (.inl ⟨by kernel_rfl, fun w' h => by go_simp; rfl⟩) HSa.out ?_
                      simp only [Act.put, zzA, zzB, zzC]
                      refine wpAnyH_done (by kernel_rfl) ?_ _
                      generalize visit st.2 k (p2, bs2) ((t : Int), d) = nx at *
                      cases hb2 : bs2.any id with
                      | true =>
                        have HNX : Hid (nx.2.any id = true) := hide (by rw [HANY.out, hb2]; rfl)
                        clear hb2 HANY
                        go_wp2
                        go_roundw
                        case rel => exact ⟨j + 1, nx.1, nx.2, la3, by omega, by go_num, by rw [HNX.out], HFD.out, HVa.out, HLEa.out, HPSa.out, HL1a.out, HL2a.out, HKa.out⟩
                        case measure => first | (simp [intOf]; omega) | simp [intOf]
                      | false =>
                        have HNX : Hid (nx.2.any id = b) := hide (by rw [HANY.out, hb2]; rfl)
                        clear hb2 HANY
                        go_wp2
                        go_roundw
                        case rel => exact ⟨j + 1, nx.1, nx.2, la3, by omega, by go_num, by rw [HNX.out], HFD.out, HVa.out, HLEa.out, HPSa.out, HL1a.out, HL2a.out, HKa.out⟩
                        case measure => first | (simp [intOf]; omega) | simp [intOf]
                    · obtain rfl : j = es.length := by omega
                      have HLV2 : Hid ((List.range (k + 1)).foldl (lineV xs st.2) (st.1, List.replicate xs.length false) = (p2, bs2)) := hide (by rw [HLV.out]; have e := HFOLD2.out; rw [List.take_of_length_le (Nat.le_refl _)] at e; exact e)
                      have hnot : ¬ (es.length : Int) < (es.length : Int) := by omega
                      have HBk := hide (HB7.out.trans (Keep3.below' (HK.out.mono (Nat.le_of_lt HV7.out.rs.lts)) (by omega) (by omega) (by omega)))
                      go_wp2
                      go_roundw
                      case rel => exact ⟨k + 1, p2, bs2, la2, by omega, by go_num, rfl, HLV2.out, HV2.out, HLE2.out, HPS2.out, HQ1.out, HQ2.out, (HK.out.block sb HV7.out.rs.lts HAP.out.n1 HAP.out.n2 HAP.out.n3).trans HF7.out, HBk.out⟩
                      case measure => first | (simp [intOf]; omega) | simp [intOf]
            · obtain rfl : k = xs.length := by omega
              have hRF : roundF xs st = (p1, bs1) := HFOLD.out
              have hcn := chF_cnt st.2 bs1 (by rw [HP2.out, HL2.out])
              have hlc := cntL_len bs1 st.2 (by rw [HP2.out, HL2.out])
              have haf : after xs st = (p1, cntL st.2 bs1) := by unfold after; rw [hRF]
              have hsx := HSF.out
              simp only [searchF, hRF] at hsx
              have HAF := hide haf
              have HCN := hide hcn
              have HLC := hide (hlc.trans HL2.out)
              have HSX := hide hsx
              have HLA1 := hide (HV.out.ll.trans HL2.out)
              clear hRF hcn hlc haf hsx
              have hnot : ¬ (xs.length : Int) < (xs.length : Int) := by omega
              cases hany : bs1.any id with
              | true =>
                have HS4 : Hid (searchF xs m (p1, cntL st.2 bs1) = some END) := hide (by have e := HSX.out; rw [hany, HAF.out] at e; exact e)
                clear hany
                go_wp2
                go_roundg (m + 1)
                case measure => omega
                case rel =>
                  refine ⟨(p1, cntL st.2 bs1), R + 1, la1, .inl ⟨rfl, m, rfl, HS4.out⟩, HPS1.out, HL1.out, HLC.out, HLA1.out, HV.out.rs, HLE1.out, by omega, by omega, fun j => ?_, by omega, ⟨_, HF.out.trans HSA1.out⟩, HB.out⟩
                  have a1 := HCH.out j
                  have a2 := HCN.out j
                  show 0 ≤ chF (cntL st.2 bs1) j ∧ chF (cntL st.2 bs1) j ≤ _
                  omega
              | false =>
                have HS4 : Hid ((p1, cntL st.2 bs1) = END) := hide (by have e := HSX.out; rw [hany, HAF.out] at e; exact Option.some.inj e)
                clear hany
                go_wp2
                go_roundg 0
                case measure => omega
                case rel =>
                  refine ⟨(p1, cntL st.2 bs1), R + 1, la1, .inr ⟨rfl, HS4.out⟩, HPS1.out, HL1.out, HLC.out, HLA1.out, HV.out.rs, HLE1.out, by omega, by omega, fun j => ?_, by omega, ⟨_, HF.out.trans HSA1.out⟩, HB.out⟩
                  have a1 := HCH.out j
                  have a2 := HCN.out j
                  show 0 ≤ chF (cntL st.2 bs1) j ∧ chF (cntL st.2 bs1) j ≤ _
                  omega
        · subst hst
          have HCO : Hid (∀ c ∈ st.1, ClOk c) := hide fun c hc' => pok_clok (HAO.out c hc')
          go_wp2_with fail
          go_loopw [17, 18] (fun tv iv w' => ∃ k : Nat, k ≤ xs.length ∧ iv = .int .i64 k ∧ tv = .string ⟨(prK st.1 k).toArray⟩ ∧ (∀ j, j < k → unmetAt xs st.1 j = false) ∧ RS w' sb pb hb lb pc hc lc st.1 st.2 la R ∧ Below sb w1 w') (fun _ iv _ => xs.length - (intOf iv).toNat)
          case atStart => exact ⟨0, Nat.zero_le _, rfl, rfl, fun j h => absurd h (by omega), HRS.out, HBE.out⟩
          case round =>
            clear HRS HBE
            obtain ⟨k, hk, rfl, rfl, hun, hRS, hBE⟩ := hrel
            have HUN := hide hun
            have HR := hide hRS
            have HB := hide hBE
            clear hun hRS hBE
            obtain ⟨W2, hW2⟩ : ∃ W : World, W = wr := ⟨_, rfl⟩
            subst hW2
            have hlp := prK_len st.1 HCO.out k (by rw [HP1.out]; exact hk)
            by_cases hlk : k < xs.length
            · have hkI : (k : Int) < (xs.length : Int) := by omega
              obtain ⟨x, hx⟩ : ∃ x, xs[k]? = some x := ⟨_, List.getElem?_eq_getElem hlk⟩
              obtain ⟨c, hc'⟩ : ∃ c, st.1[k]? = some c := ⟨_, List.getElem?_eq_getElem (by rw [HP1.out]; exact hlk)⟩
              have HX := hide hx
              have HC := hide hc'
              have HUA : Hid (unmetAt xs st.1 k = (!c.never && !metW x.word.toNat c x)) := hide (by unfold unmetAt; rw [hx, hc'])
              clear hx hc'
              go_wp2_with fail
              refine wp_region_held (S := fun W' => W'.cell? ⟨sb, 0, none⟩ = some (.slice (some ⟨pb, 0, none⟩) xs.length pc) ∧ W'.rangeAt pb (k * 25) (rcCells c).toList ∧ W'.rangeAt gl (k * 5) (rlA x).toList) mixed ?_
              have hb0 : Below W2.heap.size W2 { W2 with drawn := W2.drawn + 1 } := (Below.refl _ _).drew
              generalize ({ W2 with drawn := W2.drawn + 1 } : World) = w3 at *
              have HR3 := hide (HR.out.below hb0)
              have HB3 := hide (HB.out.trans (hb0.mono (Nat.le_of_lt HR.out.lts)))
              have HS3 : Hid (w3.cell? ⟨sb, 0, none⟩ = some (.slice (some ⟨pb, 0, none⟩) xs.length pc) ∧ w3.rangeAt pb (k * 25) (rcCells c).toList ∧ w3.rangeAt gl (k * 5) (rlA x).toList) := hide ⟨by have e := HR3.out.c0; rw [HP1.out] at e; exact e, HR3.out.claims.2 k c HC.out, fun j v hv => (HB3.out.cell (p := ⟨gl, k * 5 + j, none⟩) hglsb).trans (HL.out k x HX.out j v hv)⟩
              clear HR HB
              clear hb0
              refine hT 0 144 rfl rfl (by kernel_rfl) (fun _ _ _ h => h) (.inl ⟨by kernel_rfl, fun w' h => by go_simp; rfl⟩) HS3.out ?_
              simp only [Act.put, zzA, zzB, zzC]
              refine hT 1 145 rfl rfl (by kernel_rfl) (fun _ _ _ h => h) (.inl ⟨by kernel_rfl, fun w' h => by go_simp; rfl⟩) HS3.out ?_
              simp only [Act.put, zzA, zzB, zzC]
              refine hT 2 146 rfl rfl (by kernel_rfl) (fun _ _ _ h => h) (.inl ⟨by kernel_rfl, fun w' h => by go_simp; rfl⟩) HS3.out ?_
              simp only [Act.put, zzA, zzB, zzC]
              refine hT 3 147 rfl rfl (by kernel_rfl) (fun _ _ _ h => h) (.inl ⟨by kernel_rfl, fun w' h => by have hc := h.1; go_simp; rfl⟩) HS3.out ?_
              simp only [Act.put, zzA, zzB, zzC]
              refine hT 4 148 rfl rfl (by kernel_rfl) (fun _ _ _ h => h) (.inl ⟨by kernel_rfl, fun w' h => by go_simp; rfl⟩) HS3.out ?_
              simp only [Act.put, zzA, zzB, zzC]
              refine hT 5 149 rfl rfl (by kernel_rfl) (fun _ _ _ h => h) (.inl ⟨by kernel_rfl, fun w' h => by go_simp; rfl⟩) HS3.out ?_
              simp only [Act.put, zzA, zzB, zzC]
              refine hT 6 150 rfl rfl (by kernel_rfl) (fun _ _ _ h => h) (yieldsIf_load_mid (by kernel_rfl) 181 (.tmp 149) rfl (pb) (k * 25) (by kernel_rfl) (rcCells c).toList _ (fun w' h => h.2.1) Tryz.underlying181 rfl (by kernel_rfl)) HS3.out ?_
              simp only [Act.put, zzA, zzB, zzC]
              simp only [Array.toArray_toList]
              refine hT 7 151 rfl rfl (by kernel_rfl) (fun _ _ _ h => h) (.inl ⟨by kernel_rfl, fun w' h => by go_simp; rfl⟩) HS3.out ?_
              simp only [Act.put, zzA, zzB, zzC]
              refine hT 8 152 rfl rfl (by kernel_rfl) (fun _ _ _ h => h) (.inl ⟨by kernel_rfl, fun w' h => by go_simp; rfl⟩) HS3.out ?_
              simp only [Act.put, zzA, zzB, zzC]
              refine hT 9 153 rfl rfl (by kernel_rfl) (fun _ _ _ h => h) (.inl ⟨by kernel_rfl, fun w' h => by go_simp; rfl⟩) HS3.out ?_
              simp only [Act.put, zzA, zzB, zzC]
              refine hT 10 154 rfl rfl (by kernel_rfl) (fun _ _ _ h => h) (yieldsIf_load_mid (by kernel_rfl) 185 (.tmp 153) rfl (gl) (k * 5) (by kernel_rfl) (rlA x).toList _ (fun w' h => h.2.2) Tryz.underlying185 rfl (by kernel_rfl)) HS3.out ?_
              simp only [Act.put, zzA, zzB, zzC]
              simp only [Array.toArray_toList]
              refine held_call (i := 11) (some 155) (by kernel_rfl) rfl rfl (by kernel_rfl) (by go_simp; exact ⟨rfl, rfl⟩) ?_
              refine (rmeets_x (HOK.out k x HX.out) c _).mono ?_
              rintro e w4 ⟨rfl, hbx⟩
              have HR4 := hide (HR3.out.below hbx)
              have HB4 := hide (HB3.out.trans (hbx.mono (Nat.le_of_lt HR3.out.lts)))
              have HS4 : Hid (w4.cell? ⟨sb, 0, none⟩ = some (.slice (some ⟨pb, 0, none⟩) xs.length pc) ∧ w4.rangeAt pb (k * 25) (rcCells c).toList ∧ w4.rangeAt gl (k * 5) (rlA x).toList) := hide ⟨by have e := HR4.out.c0; rw [HP1.out] at e; exact e, HR4.out.claims.2 k c HC.out, fun j v hv => (HB4.out.cell (p := ⟨gl, k * 5 + j, none⟩) hglsb).trans (HL.out k x HX.out j v hv)⟩
              clear hbx HR3 HB3 HS3
              refine ⟨_, rfl, HS4.out, ?_⟩
              simp only [Act.put, zzA, zzB, zzC]
              refine hT 12 19 rfl rfl (by kernel_rfl) (fun _ _ _ h => h) (.inl ⟨by kernel_rfl, fun w' h => by go_simp; rfl⟩) HS4.out ?_
              simp only [Act.put, zzA, zzB, zzC]
              refine wpAnyH_done (by kernel_rfl) ?_ _
              have c0 := HS4.out.1
              have cn : w4.cell? ⟨pb, k * 25, none⟩ = some (.bool c.never) := HS4.out.2.1 0 _ rfl
              have HRC := hide HS4.out.2.1
              have HCC := hide (HCO.out c (List.mem_of_getElem? HC.out))
              have hcl := clT_len c HCC.out
              have hbw : Below w.heap.size w w4 := HB1.out.trans (HB4.out.mono (by rw [HSB.out]; exact HB1.out.size))
              have HBW := hide hbw
              clear HS4 hbw
              cases hcn : c.never with
              | true =>
                rw [hcn] at cn
                have HUF : Hid (unmetAt xs st.1 k = false) := hide (by rw [HUA.out, hcn]; rfl)
                clear hcn
                have hun2 : ∀ j, j < k + 1 → unmetAt xs st.1 j = false := fun j hj => by
                  rcases Nat.lt_succ_iff_lt_or_eq.1 hj with q | q
                  · exact HUN.out j q
                  · rw [q]; exact HUF.out
                have HUN2 := hide hun2
                clear hun2
                by_cases h0 : k = 0
                · subst h0
                  have HP := hide (prK_one st.1 c HC.out)
                  go_wp2_with (refine wpList_load_mid rfl 181 (.tmp 180) rfl pb (0 * 25) rfl (rcCells c).toList _ HRC.out Tryz.underlying181 rfl (by kernel_rfl) ?_)
                  try simp only [Array.toArray_toList]
                  refine (rwritten_any c HCC.out _).mono ?_
                  rintro e w5 ⟨rfl, hbx⟩
                  have HR5 := hide (HR4.out.below hbx)
                  have HB5 := hide (HB4.out.trans (hbx.mono (Nat.le_of_lt HR4.out.lts)))
                  clear hbx c0 cn
                  have hl1 : ¬ 9223372036854775807 < (clT c).length := by omega
                  go_wp2
                  go_roundw
                  case rel => exact ⟨1, by omega, by go_num, by rw [HP.out]; first | rfl | exact congrArg Value.string (ByteArray.ext (by simp [ByteArray.data_append])), HUN2.out, HR5.out, HB5.out⟩
                  case measure => first | (simp [intOf]; omega) | simp [intOf]
                · have hk0 : (0 : Int) < (k : Int) := by omega
                  have HP := hide (prK_more st.1 k c (by omega) HC.out)
                  have hl1 : ¬ 9223372036854775807 < (prK st.1 k).length + 1 := by omega
                  go_wp2_with (refine wpList_load_mid rfl 181 (.tmp 180) rfl pb (k * 25) rfl (rcCells c).toList _ HRC.out Tryz.underlying181 rfl (by kernel_rfl) ?_)
                  try simp only [Array.toArray_toList]
                  refine (rwritten_any c HCC.out _).mono ?_
                  rintro e w5 ⟨rfl, hbx⟩
                  have HR5 := hide (HR4.out.below hbx)
                  have HB5 := hide (HB4.out.trans (hbx.mono (Nat.le_of_lt HR4.out.lts)))
                  clear hbx c0 cn
                  have hl2 : ¬ 9223372036854775807 < (prK st.1 k).length + 1 + (clT c).length := by omega
                  go_wp2
                  go_roundw
                  case rel => exact ⟨k + 1, by omega, by go_num, by rw [HP.out]; exact congrArg Value.string (ByteArray.ext (by simp [ByteArray.data_append])), HUN2.out, HR5.out, HB5.out⟩
                  case measure => first | (simp [intOf]; omega) | simp [intOf]
              | false =>
                rw [hcn] at cn
                cases hm : metW x.word.toNat c x with
                | true =>
                  have HUF : Hid (unmetAt xs st.1 k = false) := hide (by rw [HUA.out, hcn, hm]; rfl)
                  clear hcn hm
                  have hun2 : ∀ j, j < k + 1 → unmetAt xs st.1 j = false := fun j hj => by
                    rcases Nat.lt_succ_iff_lt_or_eq.1 hj with q | q
                    · exact HUN.out j q
                    · rw [q]; exact HUF.out
                  have HUN2 := hide hun2
                  clear hun2
                  by_cases h0 : k = 0
                  · subst h0
                    have HP := hide (prK_one st.1 c HC.out)
                    go_wp2_with (refine wpList_load_mid rfl 181 (.tmp 180) rfl pb (0 * 25) rfl (rcCells c).toList _ HRC.out Tryz.underlying181 rfl (by kernel_rfl) ?_)
                    try simp only [Array.toArray_toList]
                    refine (rwritten_any c HCC.out _).mono ?_
                    rintro e w5 ⟨rfl, hbx⟩
                    have HR5 := hide (HR4.out.below hbx)
                    have HB5 := hide (HB4.out.trans (hbx.mono (Nat.le_of_lt HR4.out.lts)))
                    clear hbx c0 cn
                    have hl1 : ¬ 9223372036854775807 < (clT c).length := by omega
                    go_wp2
                    go_roundw
                    case rel => exact ⟨1, by omega, by go_num, by rw [HP.out]; first | rfl | exact congrArg Value.string (ByteArray.ext (by simp [ByteArray.data_append])), HUN2.out, HR5.out, HB5.out⟩
                    case measure => first | (simp [intOf]; omega) | simp [intOf]
                  · have hk0 : (0 : Int) < (k : Int) := by omega
                    have HP := hide (prK_more st.1 k c (by omega) HC.out)
                    have hl1 : ¬ 9223372036854775807 < (prK st.1 k).length + 1 := by omega
                    go_wp2_with (refine wpList_load_mid rfl 181 (.tmp 180) rfl pb (k * 25) rfl (rcCells c).toList _ HRC.out Tryz.underlying181 rfl (by kernel_rfl) ?_)
                    try simp only [Array.toArray_toList]
                    refine (rwritten_any c HCC.out _).mono ?_
                    rintro e w5 ⟨rfl, hbx⟩
                    have HR5 := hide (HR4.out.below hbx)
                    have HB5 := hide (HB4.out.trans (hbx.mono (Nat.le_of_lt HR4.out.lts)))
                    clear hbx c0 cn
                    have hl2 : ¬ 9223372036854775807 < (prK st.1 k).length + 1 + (clT c).length := by omega
                    go_wp2
                    go_roundw
                    case rel => exact ⟨k + 1, by omega, by go_num, by rw [HP.out]; exact congrArg Value.string (ByteArray.ext (by simp [ByteArray.data_append])), HUN2.out, HR5.out, HB5.out⟩
                    case measure => first | (simp [intOf]; omega) | simp [intOf]
                | false =>
                  have HUF := hide (unmet_take HUN.out hlk (by rw [HUA.out, hcn, hm]; rfl))
                  clear hcn hm
                  go_wp2
                  go_ret3
                  exact ⟨.inl ⟨k, by rw [HXS.out]; exact HUF.out, rfl⟩, HBW.out⟩
            · obtain rfl : k = xs.length := by omega
              have HUF := hide (runmet_none HUN.out)
              have HPA : Hid (prK st.1 xs.length = proofT st.1) := hide (by rw [← HP1.out]; exact prK_all _)
              have HBW := hide (HB1.out.trans (HB.out.mono (by rw [HSB.out]; exact HB1.out.size)))
              have hnot : ¬ (xs.length : Int) < (xs.length : Int) := by omega
              go_wp2
              go_ret3
              exact ⟨.inr ⟨by rw [HXS.out]; exact HUF.out, by rw [HPA.out]; rfl⟩, HBW.out⟩
end Go.Proofs.YtngopilbpiplhaaGreatDoor
