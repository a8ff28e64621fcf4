/-
  The contract of reader.Read: the lines of a program, or the first error with its place, for every text.
-/
import Derived.Test.YtngopilbpiplhaaGreatDoorLost
namespace Go.Proofs.YtngopilbpiplhaaGreatDoor
open Go.RowKit

theorem cutAt_count (c : UInt8) : ∀ l : List UInt8, (cutAt c l).length = l.count c + 1
  | [] => rfl
  | b :: l => by
    have h := cutAt_count c l
    unfold cutAt
    split
    · rename_i e; subst e; simp [h]
    · rename_i e
      split
      · rename_i e2; exact absurd e2 (cutAt_ne _ _)
      · rename_i p r e2
        rw [e2] at h
        rw [List.count_cons_of_ne e]
        simpa using h

theorem partF_word {x y : Ln} {c : UInt8} {t : List UInt8} (h : partF x c t = some y) : y.word = x.word := by
  unfold partF at h
  split at h
  · obtain ⟨r, _, e⟩ := Option.map_eq_some_iff.1 h; rw [← e]
  · split at h
    · obtain ⟨r, _, e⟩ := Option.map_eq_some_iff.1 h; rw [← e]
    · split at h
      · obtain ⟨v, _, e⟩ := Option.bind_eq_some_iff.1 h
        split at e
        · cases e; rfl
        · cases e
      · split at h
        · obtain ⟨v, _, e⟩ := Option.bind_eq_some_iff.1 h
          split at e
          · cases e; rfl
          · cases e
        · cases h
theorem partsF_word : ∀ (cs : List UInt8) (ps : List (List UInt8)) {x y : Ln}, partsF x cs ps = some y → y.word = x.word
  | [], [], x, y, h => by simp [partsF] at h; rw [h]
  | c :: cs, p :: ps, x, y, h => by
    obtain ⟨z, h1, h2⟩ := Option.bind_eq_some_iff.1 (show (partF x c p).bind (fun y => partsF y cs ps) = some y from h)
    rw [partsF_word cs ps h2, partF_word h1]
  | [], _ :: _, x, y, h => by simp [partsF] at h
  | _ :: _, [], x, y, h => by simp [partsF] at h
theorem lineF_word {t : List UInt8} {x : Ln} (h : lineF t = some x) : ∃ row : Nat, row < 17 ∧ x.word = (row : Int) := by
  unfold lineF at h
  split at h
  · cases h
  · obtain ⟨row, h1, h2⟩ := Option.bind_eq_some_iff.1 h
    split at h2
    · exact ⟨row, findF_lt h1, partsF_word _ _ h2⟩
    · cases h2
theorem linesF_worded (ts : List (List UInt8)) : Worded (linesF ts) := fun x hx => by
  obtain ⟨t, _, h⟩ := List.mem_filterMap.1 hx
  exact lineF_word h
theorem linesF_len (ts : List (List UInt8)) (h : ∀ t ∈ ts, (lineF t).isSome = true) : (linesF ts).length = ts.length := by
  induction ts with
  | nil => rfl
  | cons t ts ih =>
    obtain ⟨x, hx⟩ := Option.isSome_iff_exists.1 (h t (by simp))
    have := ih (fun u hu => h u (by simp [hu]))
    unfold linesF at this ⊢
    simp [hx, this]

/-- The lines of a text. -/
def progF (l : List UInt8) : List Ln := linesF (cutAt 10 l)
/-- A text is a program. -/
structure Good (l : List UInt8) : Prop where
  short : longF l = false
  lines : ∀ t ∈ cutAt 10 l, (lineF t).isSome = true
  jumps : ∀ x ∈ progF l, isLost (progF l).length x = false
  last : ∀ x, (progF l)[(progF l).length - 1]? = some x → wFalls x.word.toNat = false

/-- Why a text is none: the error, and its place. -/
def Bad (l : List UInt8) (c p : Int) : Prop :=
  (longF l = true ∧ c = 1 ∧ p = 0) ∨
  (longF l = false ∧ ∃ i : Nat, ∃ h : i < (cutAt 10 l).length, c = 2 ∧ p = (i : Int) ∧ lineF (cutAt 10 l)[i] = none ∧ ∀ j (hj : j < i), (lineF ((cutAt 10 l)[j]'(by omega))).isSome = true) ∨
  (longF l = false ∧ (∀ t ∈ cutAt 10 l, (lineF t).isSome = true) ∧ ∃ i : Nat, ∃ h : i < (progF l).length, c = 3 ∧ p = (i : Int) ∧ isLost (progF l).length (progF l)[i] = true ∧ ∀ j (hj : j < i), isLost (progF l).length ((progF l)[j]'(by omega)) = false) ∨
  (longF l = false ∧ (∀ t ∈ cutAt 10 l, (lineF t).isSome = true) ∧ (∀ x ∈ progF l, isLost (progF l).length x = false) ∧ c = 4 ∧ p = ((progF l).length : Int) - 1 ∧ ∃ x, (progF l)[(progF l).length - 1]? = some x ∧ wFalls x.word.toNat = true)

def ReadRes (l : List UInt8) (w : World) (e : Ending) (w' : World) : Prop :=
  ((∃ g cap, e = .returned (.tuple #[.slice (some ⟨g, 0, none⟩) (progF l).length cap, .int .i64 0, .int .i64 0]) ∧ Good l ∧ (progF l).length ≤ cap ∧ w.heap.size ≤ g ∧ LinesAt w' g (progF l)) ∨
   (∃ c p : Int, e = .returned (.tuple #[.slice none 0 0, .int .i64 c, .int .i64 p]) ∧ Bad l c p)) ∧ Below w.heap.size w w'

theorem bad_tr {l : List UInt8} {ts : List (List UInt8)} (e : cutAt 10 l = ts) (i : Nat) (hi : i < ts.length) (hb : lineF ts[i] = none) (hbef : ∀ j (hj : j < i), (lineF (ts[j]'(by omega))).isSome = true) :
    ∃ i' : Nat, ∃ h : i' < (cutAt 10 l).length, (2 : Int) = 2 ∧ (i : Int) = (i' : Int) ∧ lineF (cutAt 10 l)[i'] = none ∧ ∀ j (hj : j < i'), (lineF ((cutAt 10 l)[j]'(by omega))).isSome = true := by
  subst e
  exact ⟨i, hi, rfl, rfl, hb, hbef⟩
theorem lost_tr {l : List UInt8} {xs : List Ln} (e : progF l = xs) (i : Nat) (hi : i < xs.length) (hb : isLost xs.length xs[i] = true) (hbef : ∀ j (hj : j < i), isLost xs.length (xs[j]'(by omega)) = false) :
    ∃ i' : Nat, ∃ h : i' < (progF l).length, (3 : Int) = 3 ∧ (i : Int) = (i' : Int) ∧ isLost (progF l).length (progF l)[i'] = true ∧ ∀ j (hj : j < i'), isLost (progF l).length ((progF l)[j]'(by omega)) = false := by
  subst e
  exact ⟨i, hi, rfl, rfl, hb, hbef⟩

set_option maxRecDepth 100000 in
set_option maxHeartbeats 2000000 in
theorem Read_any (l : List UInt8) (s : Nat) (w : World) (hl : l.length ≤ 281474976710656) (hg : Glob w) (ht : w.heap[s + 55]? = some (.cells (trows s) 140)) :
    Calls Tryz.prog 32 #[.slice (some ⟨s + 55, 0, none⟩) 17 17, .string ⟨l.toArray⟩] w fun e w' => ReadRes l w e w' := by
  have HT := hide ht
  have hlt := blk_lt ht
  have hgs := hg.size
  clear ht
  go_enter Tryz.func32, Tryz.ntmps32
  go_wp2_with fail
  refine (isLong_any _ _ hl).mono ?_
  rintro e w' ⟨rfl, rfl⟩
  cases hlo : longF l with
  | true =>
    have HLO := hide hlo
    clear hlo
    go_wp2
    go_ret3
    exact ⟨.inr ⟨1, 0, rfl, .inl ⟨HLO.out, rfl, rfl⟩⟩, Below.refl _ _⟩
  | false =>
    have HLO := hide hlo
    have h8 : l.length ≤ 8000 ∧ l.count 10 < 100 := by simp [longF] at hlo; omega
    obtain ⟨h81, h82⟩ := h8
    have hcl := cutAt_count 10 l
    have hcl1 : (cutAt 10 l).length ≤ 100 := by omega
    have hcl0 : 0 < (cutAt 10 l).length := by omega
    have hpl : ∀ t ∈ cutAt 10 l, t.length < 4294967281 := fun t ht => by have := cutAt_piece 10 l t ht; omega
    clear hlo hcl h82
    go_wp2_with fail
    refine (Split_one _ _ _ (by omega) hg).mono ?_
    rintro e w1 ⟨rfl, rfl⟩
    have hP : progF l = linesF (cutAt 10 l) := rfl
    generalize hts : cutAt 10 l = ts at *
    have HTS := hide hts
    have HPP := hide hP
    clear hts hP
    go_wp2_with fail
    have hgA : ∀ o : Obj, Glob (w'.alloc o) := fun o => hg.below ((Below.refl w'.heap.size w').alloc (Nat.le_refl _) o) hgs
    refine (parse_any ts w'.heap.size s _ hcl1 hpl (hgA _) (blk_alloc HT.out _) (blk_new _ _)).mono ?_
    clear hgA
    rintro e w1 ⟨hres, hb1⟩
    have hb01 : Below w'.heap.size w' w1 := ((Below.refl _ _).alloc (Nat.le_refl _) _).trans (hb1.mono (by simp))
    have hsz1 : w'.heap.size + 1 ≤ w1.heap.size := by have := hb1.size; simpa using this
    have ht1 := (hb01.block _ hlt).trans HT.out
    have HT1 := hide ht1
    clear ht1
    rcases hres with ⟨v, rfl, hall, hown⟩ | ⟨i, rfl, hi, hbad, hbef⟩
    · have hlen : ts.length = (progF l).length := by rw [HPP.out, linesF_len ts hall]
      have HALL := hide hall
      clear hall
      rw [← HPP.out] at hown
      have hwd : Worded (progF l) := by rw [HPP.out]; exact linesF_worded ts
      obtain ⟨g, cap, rfl, hg1, hcap, hL⟩ := linesAt_of_owns hown hlen hcl0
      have hge : w'.heap.size ≤ g := by simp at hg1; omega
      clear hown hg1
      rw [hlen] at hcap hcl1 hcl0
      have HLEN := hide hlen
      rw [hlen]
      clear hlen
      have hPF : ∀ x, x = progF l → x = progF l := fun _ h => h
      clear hPF
      generalize hxs : progF l = xs at *
      have HXS := hide hxs
      clear hxs
      have HL := hide hL
      have hglt := hL.lt
      clear hL
      go_wp2_with fail
      refine (lostJump_any xs g cap s w1 hcl1 hwd HL.out HT1.out).mono ?_
      rintro e w2 ⟨hres, hb2⟩
      have hb02 : Below w'.heap.size w' w2 := hb01.trans (hb2.mono (by omega))
      have hL2 := HL.out.mono (hb2.block _ hglt)
      have ht2 := (hb02.block _ hlt).trans HT.out
      rcases hres with ⟨rfl, hno⟩ | ⟨i, rfl, hi, hlost, hbef⟩
      · have HNO := hide hno
        clear hno
        obtain ⟨m, hm⟩ : ∃ m, xs.length = m + 1 := ⟨xs.length - 1, by omega⟩
        have hml : m < xs.length := by omega
        obtain ⟨l0, l1, l2, l3⟩ := hL2.get hml
        obtain ⟨row, hrow, hrw⟩ := hwd _ (List.getElem_mem hml)
        rw [hrw] at l0
        have hr3 := (rowAt ht2 hrow).falls
        have hlast : xs[xs.length - 1]? = some xs[m] := by rw [show xs.length - 1 = m by omega]; exact List.getElem?_eq_getElem hml
        have HLAST := hide hlast
        have HRW := hide hrw
        have HL2 := hide hL2
        clear hlast hrw hL2 ht2 l1 l2 l3
        have HM := hide hm
        rw [hm]
        rw [hm] at hcap hcl1
        clear hm
        cases hf : wFalls row with
        | false =>
          rw [hf] at hr3
          have HF := hide hf
          clear hf
          go_wp2
          go_ret3
          refine ⟨.inl ⟨g, cap, by rw [HXS.out, HM.out]; rfl, ⟨HLO.out, by rw [HTS.out]; exact HALL.out, by rw [HXS.out]; exact HNO.out, fun x hx => ?_⟩, by rw [HXS.out, HM.out]; exact hcap, hge, by rw [HXS.out]; exact HL2.out⟩, hb02⟩
          rw [HXS.out, HLAST.out] at hx
          cases hx
          rw [HRW.out]; exact HF.out
        | true =>
          rw [hf] at hr3
          have HF := hide hf
          clear hf
          go_wp2
          go_ret3
          refine ⟨.inr ⟨4, _, rfl, .inr (.inr (.inr ⟨HLO.out, by rw [HTS.out]; exact HALL.out, by rw [HXS.out]; exact HNO.out, rfl, ?_, xs[m], by rw [HXS.out]; exact HLAST.out, by rw [HRW.out]; exact HF.out⟩))⟩, hb02⟩
          rw [HXS.out, HM.out]
          first | rfl | omega
      · have HLOST := hide hlost
        have HBEF := hide hbef
        clear hlost hbef
        go_wp2
        go_ret3
        refine ⟨.inr ⟨3, _, rfl, .inr (.inr (.inl ⟨HLO.out, by rw [HTS.out]; exact HALL.out, ?_⟩))⟩, hb02⟩
        exact lost_tr HXS.out i hi HLOST.out HBEF.out
    · have HBAD := hide hbad
      have HBEF := hide hbef
      clear hbad hbef
      go_wp2
      go_ret3
      exact ⟨.inr ⟨2, _, rfl, .inr (.inl ⟨HLO.out, bad_tr HTS.out i hi HBAD.out HBEF.out⟩)⟩, hb01⟩

end Go.Proofs.YtngopilbpiplhaaGreatDoor
