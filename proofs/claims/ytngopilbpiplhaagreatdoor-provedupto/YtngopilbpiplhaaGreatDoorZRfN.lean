/-
  The document's own answer: a line's form at every word; a line.
-/
import Derived.Test.YtngopilbpiplhaaGreatDoorZRfSz
import Derived.Test.YtngopilbpiplhaaGreatDoorZRfF
namespace Go.Proofs.YtngopilbpiplhaaGreatDoor
open Go.RowKit
set_option linter.unusedVariables false
set_option linter.unusedSimpArgs false
theorem findF_not {nm : List UInt8} (h : findF nm = none) : ∀ i, i < 17 → wName i ≠ nm := by
  unfold findF at h
  rw [List.find?_range_eq_none] at h
  intro i hi
  simpa using h i hi
theorem findF_get {nm : List UInt8} {row : Nat} (h : findF nm = some row) : nm = wName row ∧ row < 17 := by
  unfold findF at h
  rw [List.find?_range_eq_some] at h
  exact ⟨by have := h.1; simpa using (by simpa using this : wName row = nm).symm, by simpa using h.2.1⟩
theorem nm_no {nm l : List UInt8} (i : Nat) (h : findF nm = none) (hi : i < 17) (e : wName i = l) : (nm == l) = false := by
  rw [beq_eq_false_iff_ne]
  intro q
  exact findF_not h i hi (e.trans q.symm)
set_option maxRecDepth 100000 in
set_option maxHeartbeats 2000000 in
theorem form_none (nm : List UInt8) (h : findF nm = none) (w : World) : Calls Tryz.prog 183 #[.string ⟨nm.toArray⟩] w fun e w' => e = .returned (.string ⟨#[]⟩) ∧ w' = w := by
  have e0 : (nm == [115, 101, 116]) = false := nm_no 0 h (by omega) rfl
  have e1 : (nm == [109, 111, 118]) = false := nm_no 1 h (by omega) rfl
  have e2 : (nm == [97, 100, 100]) = false := nm_no 2 h (by omega) rfl
  have e3 : (nm == [115, 117, 98]) = false := nm_no 3 h (by omega) rfl
  have e4 : (nm == [109, 117, 108]) = false := nm_no 4 h (by omega) rfl
  have e5 : (nm == [97, 110, 100]) = false := nm_no 5 h (by omega) rfl
  have e6 : (nm == [100, 105, 118]) = false := nm_no 6 h (by omega) rfl
  have e7 : (nm == [105, 110]) = false := nm_no 7 h (by omega) rfl
  have e8 : (nm == [103, 101, 116]) = false := nm_no 8 h (by omega) rfl
  have e9 : (nm == [112, 117, 116]) = false := nm_no 9 h (by omega) rfl
  have e10 : (nm == [108, 111, 97, 100]) = false := nm_no 10 h (by omega) rfl
  have e11 : (nm == [107, 101, 101, 112]) = false := nm_no 11 h (by omega) rfl
  have e12 : (nm == [111, 117, 116]) = false := nm_no 12 h (by omega) rfl
  have e13 : (nm == [106, 109, 112]) = false := nm_no 13 h (by omega) rfl
  have e14 : (nm == [106, 108, 116]) = false := nm_no 14 h (by omega) rfl
  have e15 : (nm == [106, 101, 113]) = false := nm_no 15 h (by omega) rfl
  have e16 : (nm == [101, 110, 100]) = false := nm_no 16 h (by omega) rfl
  clear h
  go_enter Tryz.func183, Tryz.ntmps183
  go_wp2
  go_ret
  exact ⟨rfl, rfl⟩
theorem form_some (nm : List UInt8) (row : Nat) (h : findF nm = some row) (w : World) : Calls Tryz.prog 183 #[.string ⟨nm.toArray⟩] w fun e w' => e = .returned (.string ⟨(wParts row).toArray⟩) ∧ w' = w := by
  obtain ⟨rfl, hr⟩ := findF_get h
  clear h
  match row, hr with
  | 0, _ => exact form_0 w
  | 1, _ => exact form_1 w
  | 2, _ => exact form_2 w
  | 3, _ => exact form_3 w
  | 4, _ => exact form_4 w
  | 5, _ => exact form_5 w
  | 6, _ => exact form_6 w
  | 7, _ => exact form_7 w
  | 8, _ => exact form_8 w
  | 9, _ => exact form_9 w
  | 10, _ => exact form_10 w
  | 11, _ => exact form_11 w
  | 12, _ => exact form_12 w
  | 13, _ => exact form_13 w
  | 14, _ => exact form_14 w
  | 15, _ => exact form_15 w
  | 16, _ => exact form_16 w
  | n + 17, h => exact absurd h (by omega)
/-- A line's cells. -/
def rlA (x : Ln) : Array Value := #[.string ⟨(wName x.word.toNat).toArray⟩, .int .i64 x.r, .int .i64 x.s, .int .i64 (if x.word = 0 then x.n else 0), .int .i64 (if 13 ≤ x.word ∧ x.word ≤ 15 then min x.n 100 else 0)]
abbrev rlZ : Array Value := #[.string ⟨#[]⟩, .int .i64 0, .int .i64 0, .int .i64 0, .int .i64 0]
theorem rlA_one (x : Ln) : (rlA x).all (·.oneCell') = true := by simp [rlA, Value.oneCell']
theorem rlZ_one : rlZ.all (·.oneCell') = true := by simp [rlZ, Value.oneCell']
theorem rlA_n (x : Ln) (h : x.word = 0) (n : Int) : (rlA x).setIfInBounds 3 (.int .i64 n) = rlA { x with n := n } := by
  simp [rlA, h]
theorem rlA_l (x : Ln) (h1 : 13 ≤ x.word) (h2 : x.word ≤ 15) (n : Int) : (rlA x).setIfInBounds 4 (.int .i64 (min n 100)) = rlA { x with n := n } := by
  have h0 : ¬ x.word = 0 := by omega
  simp [rlA, h0, h1, h2]
theorem parts_n {row : Nat} (hr : row < 17) (h : 110 ∈ wParts row) : row = 0 := by
  match row, hr with
  | 0, _ => rfl
  | 1, _ | 2, _ | 3, _ | 4, _ | 5, _ | 6, _ | 7, _ | 8, _ | 9, _ | 10, _ | 11, _ | 12, _ | 13, _ | 14, _ | 15, _ | 16, _ => exact absurd h (by decide)
  | n + 17, h => exact absurd h (by omega)
theorem parts_l {row : Nat} (hr : row < 17) (h : 76 ∈ wParts row) : 13 ≤ row ∧ row ≤ 15 := by
  match row, hr with
  | 13, _ | 14, _ | 15, _ => omega
  | 0, _ | 1, _ | 2, _ | 3, _ | 4, _ | 5, _ | 6, _ | 7, _ | 8, _ | 9, _ | 10, _ | 11, _ | 12, _ | 16, _ => exact absurd h (by decide)
  | n + 17, h => exact absurd h (by omega)
theorem strC_slice {w : World} {B : Nat} {v : Value} {ps : List (List UInt8)} (h : w.ownsRow B 9 1 v ps.length (strC ps)) (h0 : 0 < ps.length) :
    ∃ g cap, v = .slice (some ⟨g, 0, none⟩) ps.length cap ∧ ps.length ≤ cap ∧ B ≤ g ∧ g < w.heap.size ∧ ∀ (j : Nat) (p : List UInt8), ps[j]? = some p → w.cell? ⟨g, j, none⟩ = some (.string ⟨p.toArray⟩) := by
  obtain ⟨_, ⟨_, h2⟩ | ⟨g, cap, cur, e, hg, hb, hc, _, _, ht⟩⟩ := h
  · omega
  · refine ⟨g, cap, e, hc, hg, blk_lt hb, fun j x hx => ?_⟩
    have hj := (List.getElem?_eq_some_iff.1 hx).1
    have h3 : (cur.toList.take (ps.length * 1))[j]? = some (.string ⟨x.toArray⟩) := by rw [ht, strC, List.getElem?_map, hx]; rfl
    rw [List.getElem?_take, if_pos (by omega)] at h3
    rw [cell_of_blk hb]
    simpa using h3
/-- What line answers. -/
def RLine (t : List UInt8) (w : World) (e : Ending) (w' : World) : Prop :=
  ((∃ x, lineF t = some x ∧ e = .returned (.tuple #[.agg (rlA x), .bool true])) ∨ (lineF t = none ∧ e = .returned (.tuple #[.agg rlZ, .bool false]))) ∧ Below w.heap.size w w'
set_option maxRecDepth 100000 in
set_option maxHeartbeats 8000000 in
theorem rline_any (t : List UInt8) (w : World) (hl : t.length ≤ 10000000) : Calls Tryz.prog 164 #[.string ⟨t.toArray⟩] w fun e w' => RLine t w e w' := by
  have hb0 : Below w.heap.size w (w.alloc (.cells rlZ 185)) := (Below.refl _ _).alloc (Nat.le_refl _) _
  have hz0 := blk_new w (.cells rlZ 185)
  have hs0 : (w.alloc (.cells rlZ 185)).heap.size = w.heap.size + 1 := World.size_alloc _ _
  have HB0 := hide hb0
  have HZ0 := hide hz0
  have HS0 := hide hs0
  clear hb0 hz0 hs0
  go_enter Tryz.func164, Tryz.ntmps164
  go_wp2_with fail
  refine (rcut_any t 32 32 rfl _ hl).mono ?_
  rintro e w1 ⟨v, rfl, hown, hb1⟩
  have hZ1 : w1.heap[w.heap.size]? = some (.cells rlZ 185) := (hb1.block _ (blk_lt HZ0.out)).trans HZ0.out
  have hB1 : Below w.heap.size w w1 := HB0.out.trans (hb1.mono (by rw [World.size_alloc]; omega))
  have hsz1 := hb1.size
  rw [HS0.out] at hsz1 hown
  have HZ1 := hide hZ1
  have HB1 := hide hB1
  clear hZ1 hB1 hb1 HZ0 HB0 HS0
  cases hcut : cutAt 32 t with
  | nil => exact absurd hcut (cutAt_ne _ _)
  | cons nm ps =>
    have HC := hide hcut
    have hpl : ∀ p ∈ nm :: ps, p.length ≤ t.length := fun p hp => cutAt_piece 32 t p (by rw [hcut]; exact hp)
    have hps : ps.length ≤ t.length := by have := cutAt_len 32 t; rw [hcut] at this; simpa using this
    rw [hcut] at hown
    clear hcut
    obtain ⟨g, cap, rfl, hcap, hgB, hgl, hcell⟩ := strC_slice hown (by simp)
    have HPL := hide hpl
    have HCELL := hide hcell
    have k0 : w1.cell? ⟨g, 0, none⟩ = some (.string ⟨nm.toArray⟩) := hcell 0 nm rfl
    have hcap' : ps.length + 1 ≤ cap := by simpa using hcap
    clear hown hpl hcell hcap
    rw [show (nm :: ps).length = ps.length + 1 from rfl]
    go_wp2_with fail
    cases hf : findF nm with
    | none =>
      have HN : Hid (lineF t = none) := hide (by unfold lineF; rw [HC.out]; simp [hf])
      refine (form_none nm hf w1).mono ?_
      rintro e w2 ⟨rfl, hw2⟩
      obtain rfl := hw2.symm
      clear hf
      go_wp2_with (refine wpList_storeRw rfl 185 (.tmp 2) (.tmp 29) rfl w.heap.size rlZ _ rfl rfl HZ1.out (by kernel_rfl) rfl rlZ_one ?_)
      intro v hv
      have hg : v.heap[w.heap.size]? = some (.cells rlZ 185) := by rw [hv.out]; exact setRow_heap _ _ _ _ _ _ HZ1.out
      have hb : Below w.heap.size w v := by rw [hv.out]; exact HB1.out.trans ((keep_setRow' w.heap.size _ _ _).below (Nat.le_refl _))
      clear hv
      have y0 : v.cell? ⟨w.heap.size, 0, none⟩ = some (.string ⟨#[]⟩) := cell_of_blk hg 0
      have y1 : v.cell? ⟨w.heap.size, 1, none⟩ = some (.int .i64 0) := cell_of_blk hg 1
      have y2 : v.cell? ⟨w.heap.size, 2, none⟩ = some (.int .i64 0) := cell_of_blk hg 2
      have y3 : v.cell? ⟨w.heap.size, 3, none⟩ = some (.int .i64 0) := cell_of_blk hg 3
      have y4 : v.cell? ⟨w.heap.size, 4, none⟩ = some (.int .i64 0) := cell_of_blk hg 4
      clear hg
      go_wp2
      exact bodyPost_ret (v := .tuple #[.agg rlZ, .bool false]) (by simp [results, Tryz.results164, go_sem, y0, y1, y2, y3, y4]) rfl ⟨.inr ⟨HN.out, rfl⟩, hb⟩
    | some row =>
      have hrow := findF_lt hf
      have hw3 := parts_len hrow
      have hnm := (findF_get hf).1
      refine (form_some nm row hf w1).mono ?_
      rintro e w2 ⟨rfl, hw2⟩
      obtain rfl := hw2.symm
      have hp1 := parts_pos hrow
      have hne : (wParts row == []) = false := by
        cases hwp : wParts row with
        | nil => rw [hwp] at hp1; simp at hp1
        | cons a b => rfl
      by_cases hpl : ps.length = (wParts row).length
      · have HF : Hid (lineF t = partsF ⟨row, 0, 0, 0⟩ (wParts row) ps) := hide (by unfold lineF; rw [HC.out]; simp [hf, hpl])
        clear hf
        have hl' : (((ps.length : Int) + 1) != ((wParts row).length : Int) + 1) = false := by rw [bne_eq_false_iff_eq]; omega
        have hps3 : ps.length ≤ 3 := by omega
        have hzl : w.heap.size < w1.heap.size := by omega
        have HL0 : Hid ((#[.string ⟨nm.toArray⟩, .int .i64 0, .int .i64 0, .int .i64 0, .int .i64 0] : Array Value) = rlA ⟨row, 0, 0, 0⟩) := hide (by
          have e : ((row : Int)).toNat = row := by simp
          simp [rlA, e, hnm]
          intros
          omega)
        have HNM := hide hnm
        clear hnm
        go_wp2_with (refine wpList_storeRw rfl 185 (.tmp 6) (.tmp 33) rfl w1.heap.size #[.string ⟨nm.toArray⟩, .int .i64 0, .int .i64 0, .int .i64 0, .int .i64 0] _ rfl rfl (blk_new w1 _) (by kernel_rfl) rfl (by simp [Value.oneCell']) ?_)
        intro W2 hW2
        have HBK : Hid (W2.heap[w1.heap.size]? = some (.cells (rlA ⟨row, 0, 0, 0⟩) 185)) := hide (by rw [hW2.out, ← HL0.out]; exact setRow_heap _ _ _ _ _ _ (blk_new w1 _))
        have HBB : Hid (Below w1.heap.size w1 W2) := hide (by rw [hW2.out]; exact ((Below.refl _ _).alloc (Nat.le_refl _) _).trans ((keep_setRow' w1.heap.size _ _ _).below (Nat.le_refl _)))
        clear hW2 k0
        go_wp2_with fail
        go_loopw [7] (fun iv w' => ∃ (k : Nat) (x : Ln), k ≤ ps.length ∧ iv = .int .i64 k ∧ partsF ⟨row, 0, 0, 0⟩ (wParts row) ps = partsF x ((wParts row).drop k) (ps.drop k) ∧ x.word = (row : Int) ∧ 0 ≤ x.r ∧ 0 ≤ x.s ∧ w'.heap[w1.heap.size]? = some (.cells (rlA x) 185) ∧ Below w1.heap.size w1 w') (fun iv _ => ps.length - (intOf iv).toNat)
        case atStart => exact ⟨0, ⟨row, 0, 0, 0⟩, Nat.zero_le _, rfl, rfl, rfl, Int.le_refl _, Int.le_refl _, HBK.out, HBB.out⟩
        case round =>
          clear HBK HBB
          obtain ⟨k, x, hk, rfl, hx, hxw, hr0', hs0', hbx, hbr⟩ := hrel
          have HX := hide hx
          have HXW := hide hxw
          have HBX := hide hbx
          have HBR := hide hbr
          have c1 : wr.cell? ⟨w1.heap.size, 1, none⟩ = some (.int .i64 x.r) := cell_of_blk hbx 1
          have c2 : wr.cell? ⟨w1.heap.size, 2, none⟩ = some (.int .i64 x.s) := cell_of_blk hbx 2
          have c3 : ∃ v3, wr.cell? ⟨w1.heap.size, 3, none⟩ = some (.int .i64 v3) := ⟨_, cell_of_blk hbx 3⟩
          have c4 : ∃ v4, wr.cell? ⟨w1.heap.size, 4, none⟩ = some (.int .i64 v4) := ⟨_, cell_of_blk hbx 4⟩
          obtain ⟨v3, c3⟩ := c3
          obtain ⟨v4, c4⟩ := c4
          have fz := frozen_of_blk hbx
          have nr : ¬ x.r < 0 := by omega
          have ns : ¬ x.s < 0 := by omega
          clear hx hxw hbx hbr
          by_cases hlk : k < ps.length
          · have hkl : k < (wParts row).length := by omega
            have hks : k < (⟨(wParts row).toArray⟩ : ByteArray).size := by rw [Lib.size_eq]; exact hkl
            have hpc : wr.cell? ⟨g, k + 1, none⟩ = some (.string ⟨(ps[k]).toArray⟩) := ((HBR.out.cell (p := ⟨g, k + 1, none⟩) hgl)).trans (HCELL.out (k + 1) ps[k] (by simp [hlk]))
            have hdrop := partsF_drop x (wParts row) ps k hkl hlk
            have hkb : (⟨(wParts row).toArray⟩ : ByteArray)[k]'hks = (wParts row)[k] := rfl
            rcases kinds_ok hrow _ (List.getElem_mem hkl) with hc | hc | hc | hc
            · rw [hc] at hdrop hkb
              have HKC := hide hkb
              clear hkb hc
              have hkc : (((⟨(wParts row).toArray⟩ : ByteArray)[k]'hks).toNat : Int) = 82 := by rw [HKC.out]; rfl
              go_wp2_with fail
              refine (rregister_any _ _).mono ?_
              rintro e w3 ⟨rfl, hw3'⟩
              obtain rfl := hw3'.symm
              clear hw3'
              cases hr : regF ps[k] with
              | none =>
                have hpf : partF x 82 ps[k] = none := by simp [partF, hr]
                rw [show rregF none = -1 from rfl]
                have HN : Hid (lineF t = none) := hide (by rw [HF.out, HX.out, hdrop, hpf]; rfl)
                clear hdrop
                clear hpf hr
                go_wp2_with (refine wpList_storeRw rfl 185 (.tmp 2) (.tmp 105) rfl w.heap.size rlZ _ rfl rfl (((HBR.out.setCell (p := ⟨w1.heap.size, 1, none⟩) (Nat.le_refl w1.heap.size) _).block _ hzl).trans HZ1.out) (by kernel_rfl) rfl rlZ_one ?_)
                intro v hv
                have hg : v.heap[w.heap.size]? = some (.cells rlZ 185) := by rw [hv.out]; exact setRow_heap _ _ _ _ _ _ (((HBR.out.setCell (p := ⟨w1.heap.size, 1, none⟩) (Nat.le_refl w1.heap.size) _).block _ hzl).trans HZ1.out)
                have hb : Below w.heap.size w v := by rw [hv.out]; exact (HB1.out.trans ((HBR.out.setCell (p := ⟨w1.heap.size, 1, none⟩) (Nat.le_refl w1.heap.size) _).mono (by omega))).trans ((keep_setRow' w.heap.size _ _ _).below (Nat.le_refl _))
                clear hv
                have y0 : v.cell? ⟨w.heap.size, 0, none⟩ = some (.string ⟨#[]⟩) := cell_of_blk hg 0
                have y1 : v.cell? ⟨w.heap.size, 1, none⟩ = some (.int .i64 0) := cell_of_blk hg 1
                have y2 : v.cell? ⟨w.heap.size, 2, none⟩ = some (.int .i64 0) := cell_of_blk hg 2
                have y3 : v.cell? ⟨w.heap.size, 3, none⟩ = some (.int .i64 0) := cell_of_blk hg 3
                have y4 : v.cell? ⟨w.heap.size, 4, none⟩ = some (.int .i64 0) := cell_of_blk hg 4
                clear hg
                go_wp2
                exact bodyPost_ret (v := .tuple #[.agg rlZ, .bool false]) (by simp [results, Tryz.results164, go_sem, y0, y1, y2, y3, y4]) rfl ⟨.inr ⟨HN.out, rfl⟩, hb⟩
              | some r =>
                have hpf : partF x 82 ps[k] = some { x with r := (r : Int) } := by simp [partF, hr]
                have hr0 : ¬ (r : Int) < 0 := by omega
                rw [show rregF (some r) = (r : Int) from rfl]
                clear hr
                have HX2 : Hid (partsF ⟨row, 0, 0, 0⟩ (wParts row) ps = partsF { x with r := (r : Int) } ((wParts row).drop (k + 1)) (ps.drop (k + 1))) := hide (by rw [HX.out, hdrop, hpf]; rfl)
                clear hpf hdrop
                go_wp2
                go_roundw
                case rel => exact ⟨k + 1, { x with r := (r : Int) }, by omega, by go_num, HX2.out, HXW.out, by show (0 : Int) ≤ (r : Int); omega, hs0', blk_setCell HBX.out 1 _, (HBR.out.setCell (p := ⟨w1.heap.size, 1, none⟩) (Nat.le_refl w1.heap.size) _)⟩
                case measure => first | (simp [intOf]; omega) | simp [intOf]
            · rw [hc] at hdrop hkb
              have HKC := hide hkb
              clear hkb hc
              have hkc : (((⟨(wParts row).toArray⟩ : ByteArray)[k]'hks).toNat : Int) = 83 := by rw [HKC.out]; rfl
              go_wp2_with fail
              refine (rregister_any _ _).mono ?_
              rintro e w3 ⟨rfl, hw3'⟩
              obtain rfl := hw3'.symm
              clear hw3'
              cases hr : regF ps[k] with
              | none =>
                have hpf : partF x 83 ps[k] = none := by simp [partF, hr]
                rw [show rregF none = -1 from rfl]
                have HN : Hid (lineF t = none) := hide (by rw [HF.out, HX.out, hdrop, hpf]; rfl)
                clear hdrop
                clear hpf hr
                go_wp2_with (refine wpList_storeRw rfl 185 (.tmp 2) (.tmp 105) rfl w.heap.size rlZ _ rfl rfl (((HBR.out.setCell (p := ⟨w1.heap.size, 2, none⟩) (Nat.le_refl w1.heap.size) _).block _ hzl).trans HZ1.out) (by kernel_rfl) rfl rlZ_one ?_)
                intro v hv
                have hg : v.heap[w.heap.size]? = some (.cells rlZ 185) := by rw [hv.out]; exact setRow_heap _ _ _ _ _ _ (((HBR.out.setCell (p := ⟨w1.heap.size, 2, none⟩) (Nat.le_refl w1.heap.size) _).block _ hzl).trans HZ1.out)
                have hb : Below w.heap.size w v := by rw [hv.out]; exact (HB1.out.trans ((HBR.out.setCell (p := ⟨w1.heap.size, 2, none⟩) (Nat.le_refl w1.heap.size) _).mono (by omega))).trans ((keep_setRow' w.heap.size _ _ _).below (Nat.le_refl _))
                clear hv
                have y0 : v.cell? ⟨w.heap.size, 0, none⟩ = some (.string ⟨#[]⟩) := cell_of_blk hg 0
                have y1 : v.cell? ⟨w.heap.size, 1, none⟩ = some (.int .i64 0) := cell_of_blk hg 1
                have y2 : v.cell? ⟨w.heap.size, 2, none⟩ = some (.int .i64 0) := cell_of_blk hg 2
                have y3 : v.cell? ⟨w.heap.size, 3, none⟩ = some (.int .i64 0) := cell_of_blk hg 3
                have y4 : v.cell? ⟨w.heap.size, 4, none⟩ = some (.int .i64 0) := cell_of_blk hg 4
                clear hg
                go_wp2
                exact bodyPost_ret (v := .tuple #[.agg rlZ, .bool false]) (by simp [results, Tryz.results164, go_sem, y0, y1, y2, y3, y4]) rfl ⟨.inr ⟨HN.out, rfl⟩, hb⟩
              | some r =>
                have hpf : partF x 83 ps[k] = some { x with s := (r : Int) } := by simp [partF, hr]
                have hr0 : ¬ (r : Int) < 0 := by omega
                rw [show rregF (some r) = (r : Int) from rfl]
                clear hr
                have HX2 : Hid (partsF ⟨row, 0, 0, 0⟩ (wParts row) ps = partsF { x with s := (r : Int) } ((wParts row).drop (k + 1)) (ps.drop (k + 1))) := hide (by rw [HX.out, hdrop, hpf]; rfl)
                clear hpf hdrop
                go_wp2
                go_roundw
                case rel => exact ⟨k + 1, { x with s := (r : Int) }, by omega, by go_num, HX2.out, HXW.out, hr0', by show (0 : Int) ≤ (r : Int); omega, blk_setCell HBX.out 2 _, (HBR.out.setCell (p := ⟨w1.heap.size, 2, none⟩) (Nat.le_refl w1.heap.size) _)⟩
                case measure => first | (simp [intOf]; omega) | simp [intOf]
            · rw [hc] at hdrop hkb
              have HKC := hide hkb
              clear hkb hc
              have hkc : (((⟨(wParts row).toArray⟩ : ByteArray)[k]'hks).toNat : Int) = 110 := by rw [HKC.out]; rfl
              have HROW0 := hide (parts_n hrow (by rw [← HKC.out]; exact List.getElem_mem _))
              go_wp2_with fail
              refine (rnumber_any ps[k] _ (by have := HPL.out ps[k] (by simp); omega)).mono ?_
              rintro e w3 ⟨⟨n, ok, rfl, hor⟩, hw3'⟩
              obtain rfl := hw3'.symm
              clear hw3'
              rcases hor with ⟨hn, rfl⟩ | ⟨hn, rfl⟩
              · by_cases h1 : 1000000000 < n
                · have hpf : partF x 110 ps[k] = none := by simp [partF, hn]; omega
                  have HN : Hid (lineF t = none) := hide (by rw [HF.out, HX.out, hdrop, hpf]; rfl)
                  clear hdrop
                  clear hpf hn
                  go_wp2_with (refine wpList_storeRw rfl 185 (.tmp 2) (.tmp 75) rfl w.heap.size rlZ _ rfl rfl ((HBR.out.block _ hzl).trans HZ1.out) (by kernel_rfl) rfl rlZ_one ?_)
                  intro v hv
                  have hg : v.heap[w.heap.size]? = some (.cells rlZ 185) := by rw [hv.out]; exact setRow_heap _ _ _ _ _ _ ((HBR.out.block _ hzl).trans HZ1.out)
                  have hb : Below w.heap.size w v := by rw [hv.out]; exact (HB1.out.trans (HBR.out.mono (by omega))).trans ((keep_setRow' w.heap.size _ _ _).below (Nat.le_refl _))
                  clear hv
                  have y0 : v.cell? ⟨w.heap.size, 0, none⟩ = some (.string ⟨#[]⟩) := cell_of_blk hg 0
                  have y1 : v.cell? ⟨w.heap.size, 1, none⟩ = some (.int .i64 0) := cell_of_blk hg 1
                  have y2 : v.cell? ⟨w.heap.size, 2, none⟩ = some (.int .i64 0) := cell_of_blk hg 2
                  have y3 : v.cell? ⟨w.heap.size, 3, none⟩ = some (.int .i64 0) := cell_of_blk hg 3
                  have y4 : v.cell? ⟨w.heap.size, 4, none⟩ = some (.int .i64 0) := cell_of_blk hg 4
                  clear hg
                  go_wp2
                  exact bodyPost_ret (v := .tuple #[.agg rlZ, .bool false]) (by simp [results, Tryz.results164, go_sem, y0, y1, y2, y3, y4]) rfl ⟨.inr ⟨HN.out, rfl⟩, hb⟩
                · by_cases h2 : n < -1000000000
                  · have hpf : partF x 110 ps[k] = none := by simp [partF, hn]; omega
                    have HN : Hid (lineF t = none) := hide (by rw [HF.out, HX.out, hdrop, hpf]; rfl)
                    clear hdrop
                    clear hpf hn
                    go_wp2_with (refine wpList_storeRw rfl 185 (.tmp 2) (.tmp 75) rfl w.heap.size rlZ _ rfl rfl ((HBR.out.block _ hzl).trans HZ1.out) (by kernel_rfl) rfl rlZ_one ?_)
                    intro v hv
                    have hg : v.heap[w.heap.size]? = some (.cells rlZ 185) := by rw [hv.out]; exact setRow_heap _ _ _ _ _ _ ((HBR.out.block _ hzl).trans HZ1.out)
                    have hb : Below w.heap.size w v := by rw [hv.out]; exact (HB1.out.trans (HBR.out.mono (by omega))).trans ((keep_setRow' w.heap.size _ _ _).below (Nat.le_refl _))
                    clear hv
                    have y0 : v.cell? ⟨w.heap.size, 0, none⟩ = some (.string ⟨#[]⟩) := cell_of_blk hg 0
                    have y1 : v.cell? ⟨w.heap.size, 1, none⟩ = some (.int .i64 0) := cell_of_blk hg 1
                    have y2 : v.cell? ⟨w.heap.size, 2, none⟩ = some (.int .i64 0) := cell_of_blk hg 2
                    have y3 : v.cell? ⟨w.heap.size, 3, none⟩ = some (.int .i64 0) := cell_of_blk hg 3
                    have y4 : v.cell? ⟨w.heap.size, 4, none⟩ = some (.int .i64 0) := cell_of_blk hg 4
                    clear hg
                    go_wp2
                    exact bodyPost_ret (v := .tuple #[.agg rlZ, .bool false]) (by simp [results, Tryz.results164, go_sem, y0, y1, y2, y3, y4]) rfl ⟨.inr ⟨HN.out, rfl⟩, hb⟩
                  · have hpf : partF x 110 ps[k] = some { x with n := n } := by simp [partF, hn]; omega
                    have HAN := hide (rlA_n x (by rw [HXW.out, HROW0.out]; rfl) n)
                    clear hn
                    have HX2 : Hid (partsF ⟨row, 0, 0, 0⟩ (wParts row) ps = partsF { x with n := n } ((wParts row).drop (k + 1)) (ps.drop (k + 1))) := hide (by rw [HX.out, hdrop, hpf]; rfl)
                    clear hpf hdrop
                    go_wp2
                    go_roundw
                    case rel => exact ⟨k + 1, { x with n := n }, by omega, by go_num, HX2.out, HXW.out, hr0', hs0', by rw [← HAN.out]; exact blk_setCell HBX.out 3 _, (HBR.out.setCell (p := ⟨w1.heap.size, 3, none⟩) (Nat.le_refl w1.heap.size) _)⟩
                    case measure => first | (simp [intOf]; omega) | simp [intOf]
              · have hpf : partF x 110 ps[k] = none := by simp [partF, hn]
                have HN : Hid (lineF t = none) := hide (by rw [HF.out, HX.out, hdrop, hpf]; rfl)
                clear hdrop
                clear hpf hn
                go_wp2_with (refine wpList_storeRw rfl 185 (.tmp 2) (.tmp 75) rfl w.heap.size rlZ _ rfl rfl ((HBR.out.block _ hzl).trans HZ1.out) (by kernel_rfl) rfl rlZ_one ?_)
                intro v hv
                have hg : v.heap[w.heap.size]? = some (.cells rlZ 185) := by rw [hv.out]; exact setRow_heap _ _ _ _ _ _ ((HBR.out.block _ hzl).trans HZ1.out)
                have hb : Below w.heap.size w v := by rw [hv.out]; exact (HB1.out.trans (HBR.out.mono (by omega))).trans ((keep_setRow' w.heap.size _ _ _).below (Nat.le_refl _))
                clear hv
                have y0 : v.cell? ⟨w.heap.size, 0, none⟩ = some (.string ⟨#[]⟩) := cell_of_blk hg 0
                have y1 : v.cell? ⟨w.heap.size, 1, none⟩ = some (.int .i64 0) := cell_of_blk hg 1
                have y2 : v.cell? ⟨w.heap.size, 2, none⟩ = some (.int .i64 0) := cell_of_blk hg 2
                have y3 : v.cell? ⟨w.heap.size, 3, none⟩ = some (.int .i64 0) := cell_of_blk hg 3
                have y4 : v.cell? ⟨w.heap.size, 4, none⟩ = some (.int .i64 0) := cell_of_blk hg 4
                clear hg
                go_wp2
                exact bodyPost_ret (v := .tuple #[.agg rlZ, .bool false]) (by simp [results, Tryz.results164, go_sem, y0, y1, y2, y3, y4]) rfl ⟨.inr ⟨HN.out, rfl⟩, hb⟩
            · rw [hc] at hdrop hkb
              have HKC := hide hkb
              clear hkb hc
              have hkc : (((⟨(wParts row).toArray⟩ : ByteArray)[k]'hks).toNat : Int) = 76 := by rw [HKC.out]; rfl
              have hrow1 := parts_l hrow (by rw [← HKC.out]; exact List.getElem_mem _)
              go_wp2_with fail
              refine (rnumber_any ps[k] _ (by have := HPL.out ps[k] (by simp); omega)).mono ?_
              rintro e w3 ⟨⟨n, ok, rfl, hor⟩, hw3'⟩
              obtain rfl := hw3'.symm
              clear hw3'
              rcases hor with ⟨hn, rfl⟩ | ⟨hn, rfl⟩
              · by_cases h1 : n < 0
                · have hpf : partF x 76 ps[k] = none := by simp [partF, hn]; omega
                  have HN : Hid (lineF t = none) := hide (by rw [HF.out, HX.out, hdrop, hpf]; rfl)
                  clear hdrop
                  clear hpf hn
                  go_wp2_with (refine wpList_storeRw rfl 185 (.tmp 2) (.tmp 91) rfl w.heap.size rlZ _ rfl rfl ((HBR.out.block _ hzl).trans HZ1.out) (by kernel_rfl) rfl rlZ_one ?_)
                  intro v hv
                  have hg : v.heap[w.heap.size]? = some (.cells rlZ 185) := by rw [hv.out]; exact setRow_heap _ _ _ _ _ _ ((HBR.out.block _ hzl).trans HZ1.out)
                  have hb : Below w.heap.size w v := by rw [hv.out]; exact (HB1.out.trans (HBR.out.mono (by omega))).trans ((keep_setRow' w.heap.size _ _ _).below (Nat.le_refl _))
                  clear hv
                  have y0 : v.cell? ⟨w.heap.size, 0, none⟩ = some (.string ⟨#[]⟩) := cell_of_blk hg 0
                  have y1 : v.cell? ⟨w.heap.size, 1, none⟩ = some (.int .i64 0) := cell_of_blk hg 1
                  have y2 : v.cell? ⟨w.heap.size, 2, none⟩ = some (.int .i64 0) := cell_of_blk hg 2
                  have y3 : v.cell? ⟨w.heap.size, 3, none⟩ = some (.int .i64 0) := cell_of_blk hg 3
                  have y4 : v.cell? ⟨w.heap.size, 4, none⟩ = some (.int .i64 0) := cell_of_blk hg 4
                  clear hg
                  go_wp2
                  exact bodyPost_ret (v := .tuple #[.agg rlZ, .bool false]) (by simp [results, Tryz.results164, go_sem, y0, y1, y2, y3, y4]) rfl ⟨.inr ⟨HN.out, rfl⟩, hb⟩
                · have hpf : partF x 76 ps[k] = some { x with n := n } := by simp [partF, hn]; omega
                  have HAL := hide (rlA_l x (by rw [HXW.out]; omega) (by rw [HXW.out]; omega) n)
                  clear hn
                  by_cases h2 : n < 100
                  · have hmin : min n 100 = n := by omega
                    rw [hmin] at HAL
                    clear hmin
                    have HX2 : Hid (partsF ⟨row, 0, 0, 0⟩ (wParts row) ps = partsF { x with n := n } ((wParts row).drop (k + 1)) (ps.drop (k + 1))) := hide (by rw [HX.out, hdrop, hpf]; rfl)
                    clear hpf hdrop
                    go_wp2
                    go_roundw
                    case rel => exact ⟨k + 1, { x with n := n }, by omega, by go_num, HX2.out, HXW.out, hr0', hs0', by rw [← HAL.out, show (rlA x).setIfInBounds 4 (.int .i64 n) = ((rlA x).setIfInBounds 4 (.int .i64 100)).setIfInBounds 4 (.int .i64 n) from rfl]; exact blk_setCell (blk_setCell HBX.out 4 _) 4 _, ((HBR.out.setCell (p := ⟨w1.heap.size, 4, none⟩) (Nat.le_refl w1.heap.size) _).setCell (p := ⟨w1.heap.size, 4, none⟩) (Nat.le_refl w1.heap.size) _)⟩
                    case measure => first | (simp [intOf]; omega) | simp [intOf]
                  · have hmin : min n 100 = 100 := by omega
                    rw [hmin] at HAL
                    clear hmin
                    have HX2 : Hid (partsF ⟨row, 0, 0, 0⟩ (wParts row) ps = partsF { x with n := n } ((wParts row).drop (k + 1)) (ps.drop (k + 1))) := hide (by rw [HX.out, hdrop, hpf]; rfl)
                    clear hpf hdrop
                    go_wp2
                    go_roundw
                    case rel => exact ⟨k + 1, { x with n := n }, by omega, by go_num, HX2.out, HXW.out, hr0', hs0', by rw [← HAL.out]; exact blk_setCell HBX.out 4 _, (HBR.out.setCell (p := ⟨w1.heap.size, 4, none⟩) (Nat.le_refl w1.heap.size) _)⟩
                    case measure => first | (simp [intOf]; omega) | simp [intOf]
              · have hpf : partF x 76 ps[k] = none := by simp [partF, hn]
                have HN : Hid (lineF t = none) := hide (by rw [HF.out, HX.out, hdrop, hpf]; rfl)
                clear hdrop
                clear hpf hn
                go_wp2_with (refine wpList_storeRw rfl 185 (.tmp 2) (.tmp 91) rfl w.heap.size rlZ _ rfl rfl ((HBR.out.block _ hzl).trans HZ1.out) (by kernel_rfl) rfl rlZ_one ?_)
                intro v hv
                have hg : v.heap[w.heap.size]? = some (.cells rlZ 185) := by rw [hv.out]; exact setRow_heap _ _ _ _ _ _ ((HBR.out.block _ hzl).trans HZ1.out)
                have hb : Below w.heap.size w v := by rw [hv.out]; exact (HB1.out.trans (HBR.out.mono (by omega))).trans ((keep_setRow' w.heap.size _ _ _).below (Nat.le_refl _))
                clear hv
                have y0 : v.cell? ⟨w.heap.size, 0, none⟩ = some (.string ⟨#[]⟩) := cell_of_blk hg 0
                have y1 : v.cell? ⟨w.heap.size, 1, none⟩ = some (.int .i64 0) := cell_of_blk hg 1
                have y2 : v.cell? ⟨w.heap.size, 2, none⟩ = some (.int .i64 0) := cell_of_blk hg 2
                have y3 : v.cell? ⟨w.heap.size, 3, none⟩ = some (.int .i64 0) := cell_of_blk hg 3
                have y4 : v.cell? ⟨w.heap.size, 4, none⟩ = some (.int .i64 0) := cell_of_blk hg 4
                clear hg
                go_wp2
                exact bodyPost_ret (v := .tuple #[.agg rlZ, .bool false]) (by simp [results, Tryz.results164, go_sem, y0, y1, y2, y3, y4]) rfl ⟨.inr ⟨HN.out, rfl⟩, hb⟩
          · have hke : k = ps.length := by omega
            have HX2 : Hid (lineF t = some x) := hide (by
              rw [HF.out, HX.out, hke, List.drop_of_length_le (by omega : (wParts row).length ≤ ps.length), List.drop_of_length_le (Nat.le_refl ps.length)]; rfl)
            have hnl : ¬ (k : Int) < ((wParts row).length : Int) := by omega
            clear hke
            have HZ2 := hide ((HBR.out.block _ hzl).trans HZ1.out)
            go_wp2_with (first | (refine wpList_load_row rfl 185 (.tmp 6) rfl w1.heap.size rfl _ _ _ _ HBX.out Tryz.underlying185 rfl (by kernel_rfl) ?_) | (refine wpList_storeRw rfl 185 (.tmp 2) (.tmp 106) rfl w.heap.size (rlA x) _ rfl rfl HZ2.out (by kernel_rfl) rfl (rlA_one x) ?_))
            intro v hv
            have hg : v.heap[w.heap.size]? = some (.cells (rlA x) 185) := by rw [hv.out]; exact setRow_heap _ _ _ _ _ _ HZ2.out
            have hb : Below w.heap.size w v := by rw [hv.out]; exact (HB1.out.trans (HBR.out.mono (by omega))).trans ((keep_setRow' w.heap.size _ _ _).below (Nat.le_refl _))
            clear hv c1 c2 c3 c4 fz
            have y0 : v.cell? ⟨w.heap.size, 0, none⟩ = (rlA x)[0]? := cell_of_blk hg 0
            have y1 : v.cell? ⟨w.heap.size, 1, none⟩ = (rlA x)[1]? := cell_of_blk hg 1
            have y2 : v.cell? ⟨w.heap.size, 2, none⟩ = (rlA x)[2]? := cell_of_blk hg 2
            have y3 : v.cell? ⟨w.heap.size, 3, none⟩ = (rlA x)[3]? := cell_of_blk hg 3
            have y4 : v.cell? ⟨w.heap.size, 4, none⟩ = (rlA x)[4]? := cell_of_blk hg 4
            clear hg
            go_wp2
            exact bodyPost_ret (v := .tuple #[.agg (rlA x), .bool true]) (by simp [results, Tryz.results164, go_sem, y0, y1, y2, y3, y4, rlA]) rfl ⟨.inl ⟨x, HX2.out, rfl⟩, hb⟩
      · have HN : Hid (lineF t = none) := hide (by unfold lineF; rw [HC.out]; simp [hf, hpl])
        clear hf
        have hl' : (((ps.length : Int) + 1) != ((wParts row).length : Int) + 1) = true := by rw [bne_iff_ne]; omega
        go_wp2_with (refine wpList_storeRw rfl 185 (.tmp 2) (.tmp 29) rfl w.heap.size rlZ _ rfl rfl HZ1.out (by kernel_rfl) rfl rlZ_one ?_)
        intro v hv
        have hg : v.heap[w.heap.size]? = some (.cells rlZ 185) := by rw [hv.out]; exact setRow_heap _ _ _ _ _ _ HZ1.out
        have hb : Below w.heap.size w v := by rw [hv.out]; exact HB1.out.trans ((keep_setRow' w.heap.size _ _ _).below (Nat.le_refl _))
        clear hv
        have y0 : v.cell? ⟨w.heap.size, 0, none⟩ = some (.string ⟨#[]⟩) := cell_of_blk hg 0
        have y1 : v.cell? ⟨w.heap.size, 1, none⟩ = some (.int .i64 0) := cell_of_blk hg 1
        have y2 : v.cell? ⟨w.heap.size, 2, none⟩ = some (.int .i64 0) := cell_of_blk hg 2
        have y3 : v.cell? ⟨w.heap.size, 3, none⟩ = some (.int .i64 0) := cell_of_blk hg 3
        have y4 : v.cell? ⟨w.heap.size, 4, none⟩ = some (.int .i64 0) := cell_of_blk hg 4
        clear hg
        go_wp2
        exact bodyPost_ret (v := .tuple #[.agg rlZ, .bool false]) (by simp [results, Tryz.results164, go_sem, y0, y1, y2, y3, y4]) rfl ⟨.inr ⟨HN.out, rfl⟩, hb⟩
end Go.Proofs.YtngopilbpiplhaaGreatDoor
