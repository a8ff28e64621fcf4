/-
  The contract of prover.Prove: what the plain search comes to.
-/
import Derived.Test.YtngopilbpiplhaaGreatDoorZClRd
import Derived.Test.YtngopilbpiplhaaGreatDoorZClUn
import Derived.Test.YtngopilbpiplhaaGreatDoorZClB2
import Derived.Deep.LoopGhost
namespace Go.Proofs.YtngopilbpiplhaaGreatDoor
open Go.RowKit
set_option linter.unusedVariables false

theorem chF_zero (n j : Nat) : chF (List.replicate n 0) j = 0 := by
  simp only [chF, List.getD_eq_getElem?_getD, List.getElem?_replicate]
  split <;> rfl
theorem chF_cnt (ch : List Int) (bs : List Bool) (h : ch.length = bs.length) (j : Nat) : chF ch j ≤ chF (cntL ch bs) j ∧ chF (cntL ch bs) j ≤ chF ch j + 1 := by
  by_cases hj : j < ch.length
  · have hb : j < bs.length := by omega
    simp only [chF, cntL, List.getD_eq_getElem?_getD, List.getElem?_zipWith, List.getElem?_eq_getElem hj, List.getElem?_eq_getElem hb, Option.getD_some]
    generalize ch[j] = c
    by_cases q : bs[j] = true
    · rw [if_pos q]; omega
    · rw [if_neg q]; omega
  · have e1 : chF ch j = 0 := by simp [chF, List.getD_eq_getElem?_getD, List.getElem?_eq_none (by omega : ch.length ≤ j)]
    have e2 : chF (cntL ch bs) j = 0 := by simp [chF, List.getD_eq_getElem?_getD, List.getElem?_eq_none (by rw [cntL_len bs ch h]; omega : (cntL ch bs).length ≤ j)]
    omega
theorem keep2_below {B b c : Nat} {u w w' : World} (h : Below B u w) (hk : Keep2 w.heap.size b c w w') (hb : B ≤ b) (hc : B ≤ c) (hB : B ≤ w.heap.size) : Below B u w' :=
  h.trans ⟨hk.os, hk.tape, hk.output, hk.size, fun k hk' => hk.block k (by omega) (by omega) (by omega)⟩

/-- What the search for a proof answers. -/
def ProveRes (xs : List Ln) (p : List Cl) (w : World) (e : Ending) (w' : World) : Prop :=
  Below w.heap.size w w' ∧ ((∃ k : Nat, unmetF xs p = some k ∧ e = .returned (.tuple #[.slice none 0 0, .int .i64 (k : Int)])) ∨
    (unmetF xs p = none ∧ e = .returned (.tuple #[.slice (some ⟨w.heap.size, 0, none⟩) xs.length xs.length, .int .i64 (-1)]) ∧ ClaimsAt w' w.heap.size p ∧ p.length = xs.length ∧ w.heap.size < w'.heap.size))

set_option maxRecDepth 100000 in
set_option maxHeartbeats 4000000 in
theorem Prove_any (s0 g gcap : Nat) (xs : List Ln) (w : World) (f : Nat) (hf : f ≤ 100000) (END : List Cl × List Int) (hE : searchF xs f (start0 xs.length) = some END) (hn : xs.length ≤ 100) (h0 : 0 < xs.length)
    (hT : Table s0 w) (hts : s0 + 56 ≤ w.heap.size) (hL : LinesAt w g xs) (hW : ∀ (k : Nat) (x : Ln), xs[k]? = some x → LineW s0 x)
    (hTo : ∀ (k : Nat) (x : Ln), xs[k]? = some x → ∀ c, ∀ e ∈ exitsOf x c k, ∃ t : Nat, e.1 = (t : Int) ∧ t < xs.length) :
    Calls Tryz.prog 39 #[.slice (some ⟨s0 + 55, 0, none⟩) 17 17, .slice (some ⟨g, 0, none⟩) xs.length gcap] w fun e w' => ProveRes xs END.1 w e w' := by
  have HE := hide hE
  have HT := hide hT
  have HL := hide hL
  have HW := hide hW
  have HTO := hide hTo
  have hlg := hL.lt
  clear hE hT hL hW hTo
  go_enter Tryz.func39, Tryz.ntmps39
  go_wp2_with fail
  refine (begin_any s0 g gcap xs w hn h0 HT.out hts HL.out).mono ?_
  rintro e w1 ⟨sb, hb, rfl, hS, hB, h1, h2⟩
  have HS := hide hS
  have HB := hide hB
  have hsz := hB.size
  clear hS hB
  go_wp2_with fail
  go_loopg [] f (fun gk w' => ∃ st : List Cl × List Int, searchF xs gk st = some END ∧ gk ≤ f ∧ SAt w' sb s0 g gcap w.heap.size hb xs st.1 st.2 ∧ (∀ j, 0 ≤ chF st.2 j ∧ chF st.2 j ≤ ((f - gk : Nat) : Int)) ∧ st.2.length = xs.length ∧ Keep2 w1.heap.size w.heap.size hb w1 w')
  case atStart => exact ⟨start0 xs.length, HE.out, Nat.le_refl _, HS.out, fun j => by show 0 ≤ chF (List.replicate xs.length 0) j ∧ chF (List.replicate xs.length 0) j ≤ _; rw [chF_zero]; omega, by simp [start0], Keep2.refl _ _ _ _⟩
  case round =>
    obtain ⟨st, hs, hg, hS2, hch, hl2, hK⟩ := hrel
    have hR := round_any sb s0 g gcap w.heap.size hb xs st.1 st.2 wr hn hS2 HW.out HTO.out (fun j => by have := hch j; omega) hl2 (by omega) (by omega) (by omega) hts (by omega) (by omega) (by omega)
    have hlr := roundF_len xs st.2 (List.range xs.length) (st.1, List.replicate xs.length false)
    have hl1 : (roundF xs st).1.length = xs.length := hlr.1.trans hS2.plen
    have hl3 : (roundF xs st).2.length = xs.length := hlr.2.trans (by simp)
    have HSF := hide hs
    have HCH := hide hch
    have HL2 := hide hl2
    have HK := hide hK
    have HR : Hid (Calls Tryz.prog 118 #[.pointer (some ⟨sb, 0, none⟩)] wr fun e w' => e = .returned (.bool ((roundF xs st).2.any id)) ∧ SAt w' sb s0 g gcap w.heap.size hb xs (roundF xs st).1 (cntL st.2 (roundF xs st).2) ∧ Keep2 wr.heap.size w.heap.size hb wr w') := hide hR
    have HL1 := hide hl1
    have HL3 := hide hl3
    have hszr := hK.size
    clear hs hch hl2 hK hR hl1 hl3 hlr hS2
    go_wp2_with fail
    refine HR.out.mono ?_
    rintro e w2 ⟨rfl, hS3, hK3⟩
    have HS3 := hide hS3
    have HK3 := hide (HK.out.trans (hK3.mono hszr))
    have hcn := chF_cnt st.2 (roundF xs st).2 (by rw [HL2.out, HL3.out])
    have HCN := hide hcn
    have hlc := cntL_len (roundF xs st).2 st.2 (by rw [HL2.out, HL3.out])
    have HLC := hide (hlc.trans HL3.out)
    clear hS3 hK3 hcn hlc HR
    obtain ⟨m, rfl⟩ : ∃ m, gk = m + 1 := by
      cases gk with
      | zero => exact absurd HSF.out (by simp [searchF])
      | succ m => exact ⟨m, rfl⟩
    cases hany : (roundF xs st).2.any id with
    | true =>
      have HS4 : Hid (searchF xs m (after xs st) = some END) := hide (by have := HSF.out; simp only [searchF] at this; rwa [if_pos hany] at this)
      clear hany
      go_wp2
      go_roundg m
      case measure => omega
      case rel =>
        refine ⟨after xs st, HS4.out, by omega, HS3.out, fun j => ?_, HLC.out, HK3.out⟩
        have a1 := HCH.out j
        have a2 := HCN.out j
        show 0 ≤ chF (cntL st.2 (roundF xs st).2) j ∧ chF (cntL st.2 (roundF xs st).2) j ≤ _
        omega
    | false =>
      have hend : after xs st = END := by
        have := HSF.out
        simp only [searchF] at this
        rw [if_neg (by rw [hany]; simp)] at this
        exact Option.some.inj this
      subst hend
      have HB2 := hide (keep2_below HB.out HK3.out (Nat.le_refl _) (by omega) hsz)
      have hsz2 := HB2.out.size
      have HU := hide (unmet_any sb s0 g gcap w.heap.size hb xs _ _ w2 hn HS3.out HW.out)
      clear hany
      go_wp2_with fail
      refine HU.out.mono ?_
      rintro e w3 ⟨rfl, hb3⟩
      have HB3 := hide (HB2.out.trans (hb3.mono hsz2))
      have HC3 := hide (HS3.out.claims.mono (hb3.block _ HS3.out.ltp))
      have c2 := (HS3.out.below hb3).c2
      have hs3 := hb3.size
      have hlp := HS3.out.ltp
      clear hb3 HU
      cases hu : unmetF xs (roundF xs st).1 with
      | none =>
        have HUN := hide hu
        clear hu
        rw [show atOf none = -1 from rfl]
        go_wp2
        go_ret2
        exact ⟨HB3.out, .inr ⟨HUN.out, rfl, HC3.out, HL1.out, by omega⟩⟩
      | some k =>
        have HUN := hide hu
        clear hu
        rw [show atOf (some k) = (k : Int) from rfl]
        have hk0 : (0 : Int) ≤ (k : Int) := by omega
        go_wp2
        go_ret2
        exact ⟨HB3.out, .inl ⟨k, HUN.out, rfl⟩⟩

end Go.Proofs.YtngopilbpiplhaaGreatDoor
