/-
  The document's own answer: Read.
  The document's own answer: a number's text.
  The document's own answer: a claim's text.
-/
import Derived.Test.YtngopilbpiplhaaGreatDoorZRfN
import Derived.Test.YtngopilbpiplhaaGreatDoorZClT
import Derived.Test.YtngopilbpiplhaaGreatDoorZRfK
import Derived.Test.YtngopilbpiplhaaGreatDoorZClRd
namespace Go.Proofs.YtngopilbpiplhaaGreatDoor
open Go.RowKit
set_option linter.unusedVariables false
set_option linter.unusedSimpArgs false
theorem rinfoLn : (Tryz.prog.info? 185).map (fun i => (i.zero, i.size, i.bytes)) = some (some (.agg rlZ), 5, 48) := by kernel_rfl
theorem exec_buildSliceRl {o : Oper} {a : Act} {w : World} (y : Operand) (x : Ln) (ho : o.op = .buildSlice 171 1 #[(0, y)]) (hy : a.eval y = .agg (rlA x)) :
    (execOp a.eval o).run Tryz.prog w = .ok (.value (.slice (some ⟨w.heap.size, 0, none⟩) 1 1)) (w.alloc (.cells (rlA x) 185)) := by
  unfold execOp
  simp only [ho, List.map_toArray, List.map_cons, List.map_nil, hy]
  kernel_rfl
theorem wpList_buildSliceRl {ops : Array Oper} {rest : List Oper} {o : Oper} {a : Act} {w : World} {Q : Exit → Act → World → Prop} (hgd : o.guard = none) (y : Operand) (x : Ln) (ho : o.op = .buildSlice 171 1 #[(0, y)]) (hy : a.eval y = .agg (rlA x))
    (h : ∀ w', Hid (w' = w.alloc (.cells (rlA x) 185)) → wpList Tryz.prog ops Q rest (a.put o.dst (.slice (some ⟨w.heap.size, 0, none⟩) 1 1)) w') : wpList Tryz.prog ops Q (o :: rest) a w :=
  wpList_plain hgd fun _ hK => by
    unfold Oper.wp
    rw [exec_buildSliceRl y x ho hy]
    exact hK _ _ (h _ (hide rfl))
/-- Lines as cells. -/
def rlL (xs : List Ln) : List Value := (xs.map fun x => (rlA x).toList).flatten
theorem rlL_snoc (xs : List Ln) (x : Ln) : rlL (xs ++ [x]) = rlL xs ++ (rlA x).toList := by simp [rlL]
theorem rlL_get (xs : List Ln) : ∀ (j : Nat) (h : j < xs.length) (i : Nat), i < 5 → (rlL xs)[j * 5 + i]? = (rlA xs[j]).toList[i]? := by
  induction xs with
  | nil => intro j h; cases h
  | cons e es ih =>
    intro j h i hi
    have e1 : rlL (e :: es) = (rlA e).toList ++ rlL es := rfl
    have l26 : (rlA e).toList.length = 5 := rfl
    rw [e1]
    cases j with
    | zero => rw [List.getElem?_append_left (by omega)]; simp
    | succ j =>
      rw [List.getElem?_append_right (by omega), l26, show (j + 1) * 5 + i - 5 = j * 5 + i by omega, ih j (by simpa using h) i hi]
      rfl
/-- Lines lie in a block. -/
def RLns (w : World) (g : Nat) (xs : List Ln) : Prop := ∀ k x, xs[k]? = some x → w.rangeAt g (k * 5) (rlA x).toList
theorem RLns.mono {w w' : World} {g : Nat} {xs : List Ln} (h : RLns w g xs) (hb : w'.heap[g]? = w.heap[g]?) : RLns w' g xs := fun k x hx j v hv => by
  rw [World.cell?_of_block (w := w) (a := ⟨g, k * 5 + j, none⟩) hb]
  exact h k x hx j v hv
theorem rlns_of {w : World} {B : Nat} {v : Value} {xs : List Ln} (h : w.ownsRow B 185 5 v xs.length (rlL xs)) (h0 : 0 < xs.length) :
    ∃ g cap, v = .slice (some ⟨g, 0, none⟩) xs.length cap ∧ xs.length ≤ cap ∧ B ≤ g ∧ g < w.heap.size ∧ RLns w g xs := by
  obtain ⟨_, ⟨_, h2⟩ | ⟨g, cap, cur, e, hg, hb, hc, _, _, ht⟩⟩ := h
  · omega
  · refine ⟨g, cap, e, hc, hg, blk_lt hb, fun k x hx i u hu => ?_⟩
    obtain ⟨hk, hxk⟩ := List.getElem?_eq_some_iff.1 hx
    have hi : i < 5 := (List.getElem?_eq_some_iff.1 hu).1
    rw [cell_of_blk hb, ← hu, ← hxk, ← rlL_get xs k hk i hi, ← ht, List.getElem?_take, if_pos (by omega)]
    simp
theorem RLns.cells {w : World} {g : Nat} {xs : List Ln} (h : RLns w g xs) {k : Nat} {x : Ln} (hx : xs[k]? = some x) :
    w.cell? ⟨g, k * 5, none⟩ = some (.string ⟨(wName x.word.toNat).toArray⟩) ∧ w.cell? ⟨g, k * 5 + 4, none⟩ = some (.int .i64 (if 13 ≤ x.word ∧ x.word ≤ 15 then min x.n 100 else 0)) :=
  ⟨h k x hx 0 _ rfl, h k x hx 4 _ rfl⟩
theorem wname_ends {row : Nat} (h : row < 17) : (wName row == [106, 109, 112]) = decide (row = 13) ∧ (wName row == [101, 110, 100]) = decide (row = 16) ∧ wFalls row = (!decide (row = 13) && !decide (row = 16)) := by
  match row, h with
  | 0, _ | 1, _ | 2, _ | 3, _ | 4, _ | 5, _ | 6, _ | 7, _ | 8, _ | 9, _ | 10, _ | 11, _ | 12, _ | 13, _ | 14, _ | 15, _ | 16, _ => decide
  | n + 17, h => exact absurd h (by omega)
theorem jumps_iff {row : Nat} (h : row < 17) : hasB (wParts row) 76 = decide (13 ≤ row ∧ row ≤ 15) := by
  match row, h with
  | 0, _ | 1, _ | 2, _ | 3, _ | 4, _ | 5, _ | 6, _ | 7, _ | 8, _ | 9, _ | 10, _ | 11, _ | 12, _ | 13, _ | 14, _ | 15, _ | 16, _ => decide +kernel
  | n + 17, h => exact absurd h (by omega)
theorem lost_iff {n : Nat} (hn : n ≤ 100) (h0 : 0 < n) {x : Ln} {row : Nat} (hr : row < 17) (hx : x.word = (row : Int)) : isLost n x = decide ((n : Int) ≤ (if 13 ≤ x.word ∧ x.word ≤ 15 then min x.n 100 else 0)) := by
  have e : x.word.toNat = row := by rw [hx]; simp
  unfold isLost
  rw [e, jumps_iff hr]
  by_cases h : 13 ≤ row ∧ row ≤ 15
  · rw [if_pos (by rw [hx]; omega)]
    simp only [h, decide_true, Bool.true_and, and_self]
    rw [decide_eq_decide]
    omega
  · rw [if_neg (by rw [hx]; omega)]
    simp [h]
    omega
def RRead (l : List UInt8) (w : World) (e : Ending) (w' : World) : Prop :=
  ((∃ g cap, e = .returned (.tuple #[.slice (some ⟨g, 0, none⟩) (progF l).length cap, .int .i64 0, .int .i64 0]) ∧ Good l ∧ (progF l).length ≤ cap ∧ w.heap.size ≤ g ∧ g < w'.heap.size ∧ RLns w' g (progF l)) ∨
   (∃ c p : Int, e = .returned (.tuple #[.slice none 0 0, .int .i64 c, .int .i64 p]) ∧ Bad l c p)) ∧ Below w.heap.size w w'
set_option maxRecDepth 100000 in
set_option maxHeartbeats 8000000 in
theorem rRead_any (l : List UInt8) (w : World) (hl : l.length ≤ 10000000) : Calls Tryz.prog 111 #[.string ⟨l.toArray⟩] w fun e w' => RRead l w e w' := by
  go_enter Tryz.func111, Tryz.ntmps111
  go_wp2_with fail
  refine (rcut_any l 10 10 rfl _ hl).mono ?_
  rintro e w1 ⟨v, rfl, hown, hb1⟩
  have hcl := cutAt_count 10 l
  have hcl0 : 0 < (cutAt 10 l).length := by omega
  have hlo : longF l = (decide (8000 < l.length) || decide (100 < (cutAt 10 l).length)) := by
    unfold longF
    rw [hcl]
    congr 1
    rw [decide_eq_decide]
    omega
  have hpl : ∀ t ∈ cutAt 10 l, t.length ≤ 10000000 := fun t ht => by have := cutAt_piece 10 l t ht; omega
  have hP : progF l = linesF (cutAt 10 l) := rfl
  have HLO := hide hlo
  have HPL := hide hpl
  have HP := hide hP
  clear hcl hlo hpl hP
  generalize hts : cutAt 10 l = ts at *
  have HTS := hide hts
  clear hts
  obtain ⟨g, cap, rfl, hcap, hgB, hgl, hcell⟩ := strC_slice hown hcl0
  have HCELL := hide hcell
  have hsz1 := hb1.size
  have HB1 := hide hb1
  clear hown hcell hb1
  by_cases h8 : 8000 < l.length
  · have h8I : (8000 : Int) < (l.length : Int) := by omega
    have HL : Hid (longF l = true) := hide (by rw [HLO.out]; simp [h8])
    go_wp2
    go_ret3
    exact ⟨.inr ⟨1, 0, rfl, .inl ⟨HL.out, rfl, rfl⟩⟩, HB1.out⟩
  · have h8I : ¬ (8000 : Int) < (l.length : Int) := by omega
    by_cases h1 : 100 < ts.length
    · have h1I : (100 : Int) < (ts.length : Int) := by omega
      have HL : Hid (longF l = true) := hide (by rw [HLO.out]; simp [h1])
      go_wp2
      go_ret3
      exact ⟨.inr ⟨1, 0, rfl, .inl ⟨HL.out, rfl, rfl⟩⟩, HB1.out⟩
    · have h1I : ¬ (100 : Int) < (ts.length : Int) := by omega
      have HL : Hid (longF l = false) := hide (by rw [HLO.out]; simp [h8, h1])
      clear HLO
      go_wp2
      go_loopw [6, 7] (fun v i w' => ∃ k : Nat, k ≤ ts.length ∧ i = .int .i64 k ∧ (∀ j (h : j < ts.length), j < k → (lineF ts[j]).isSome = true) ∧ w'.ownsRow w1.heap.size 185 5 v k (rlL (linesF (ts.take k))) ∧ Below w1.heap.size w1 w') (fun _ i _ => ts.length - (intOf i).toNat)
      case atStart => exact ⟨0, Nat.zero_le _, rfl, fun j _ h => absurd h (by omega), ⟨rfl, .inl ⟨rfl, rfl⟩⟩, Below.refl _ _⟩
      case round =>
        obtain ⟨k, hk, rfl, hall, hO, hB⟩ := hrel
        have HA := hide hall
        have HO := hide hO
        have HB := hide hB
        have hsz := hB.size
        clear hall hO hB
        obtain ⟨W9, hW9⟩ : ∃ W : World, W = wr := ⟨_, rfl⟩
        subst hW9
        by_cases hlk : k < ts.length
        · have hpc : W9.cell? ⟨g, k, none⟩ = some (.string ⟨(ts[k]).toArray⟩) := (HB.out.cell (p := ⟨g, k, none⟩) hgl).trans (HCELL.out k ts[k] (by simp [hlk]))
          go_wp2_with fail
          refine (rline_any ts[k] _ (HPL.out _ (List.getElem_mem _))).mono ?_
          rintro e w2 ⟨hres, hb2⟩
          have HB2 := hide (HB.out.trans (hb2.mono hsz))
          have HO2 := hide (ownsRow_below HO.out (fun g _ hg => hb2.block g hg))
          have hsz2 := hb2.size
          clear hb2 HO hpc
          rcases hres with ⟨x, hx, rfl⟩ | ⟨hx, rfl⟩
          · have HX := hide hx
            have HSN := hide (linesF_snoc ts k hlk x hx)
            clear hx
            go_wp2_with (refine wpList_storeRw rfl 185 (.tmp 8) (.tmp 34) rfl w2.heap.size (rlA x) _ rfl rfl (blk_new w2 _) (by kernel_rfl) rfl (rlA_one x) ?_)
            intro w3 hw3
            have HG3 : Hid (w3.heap[w2.heap.size]? = some (.cells (rlA x) 185)) := hide (by rw [hw3.out]; exact setRow_heap _ _ _ _ _ _ (blk_new w2 _))
            have hb3 : Below w2.heap.size w2 w3 := by rw [hw3.out]; exact ((Below.refl _ _).alloc (Nat.le_refl _) _).trans ((keep_setRow' w2.heap.size _ _ _).below (Nat.le_refl _))
            have HB3 := hide (HB2.out.trans (hb3.mono (by omega)))
            have HO3 := hide (ownsRow_below HO2.out (fun g _ hg => hb3.block g hg))
            have hsz3 := hb3.size
            clear hw3 hb3 HO2 HB2
            go_wp2_with (first | (refine wpList_load_row rfl 185 (.tmp 8) rfl w2.heap.size rfl _ _ _ _ HG3.out Tryz.underlying185 rfl (by kernel_rfl) ?_) | (refine wpList_buildSliceRl rfl (.tmp 40) x rfl rfl ?_))
            intro w4 hw4
            have HO4 : Hid (w4.ownsRow w1.heap.size 185 5 u6 k (rlL (linesF (ts.take k)))) := hide (by rw [hw4.out]; exact HO3.out.alloc _)
            have HN4 : Hid (w4.heap[w3.heap.size]? = some (.cells (rlA x) 185)) := hide (by rw [hw4.out]; exact blk_new w3 _)
            have HB4 : Hid (Below w1.heap.size w1 w4) := hide (by rw [hw4.out]; exact HB3.out.alloc (by omega) _)
            have hsz4 : w3.heap.size + 1 ≤ w4.heap.size := by rw [hw4.out, World.size_alloc]; omega
            clear hw4 HO3 HB3 HG3
            go_wp2_with (first | (at_builtin; refine wpList_appG rfl (.tmp 39) (.tmp 41) 171 185 (.agg rlZ) 5 48 rfl rinfoLn Tryz.underlying171 rfl (by decide) w1.heap.size _ k (rlL (linesF (ts.take k))) rfl HO4 w3.heap.size (rlA x) 185 rfl HN4.out rfl (rlA_one x) (by omega) (by omega) (by omega) ?_) | go_in)
            intro v5 w5 hO5 hG5
            have HB5 := hide (below_own HB4.out HO4.out hG5.out (by omega))
            clear hG5 HO4 HB4 HN4
            go_wp2
            go_roundw
            case rel =>
              refine ⟨k + 1, by omega, by go_num, fun j h hj => ?_, by rw [HSN.out, rlL_snoc]; exact hO5.out, HB5.out⟩
              rcases Nat.lt_succ_iff_lt_or_eq.1 hj with q | q
              · exact HA.out j h q
              · subst q; rw [HX.out]; rfl
            case measure => first | (simp [intOf]; omega) | simp [intOf]
          · have HX := hide hx
            clear hx
            go_wp2_with (refine wpList_storeRw rfl 185 (.tmp 8) (.tmp 34) rfl w2.heap.size rlZ _ rfl rfl (blk_new w2 _) (by kernel_rfl) rfl rlZ_one ?_)
            intro w3 hw3
            have HB3 : Hid (Below w1.heap.size w1 w3) := hide (by rw [hw3.out]; exact (HB2.out.alloc (by omega) _).trans ((keep_setRow' w1.heap.size _ _ _).below (by omega)))
            clear hw3
            go_wp2
            go_ret3
            refine ⟨.inr ⟨2, _, rfl, .inr (.inl ⟨HL.out, bad_tr HTS.out k hlk HX.out fun j hj => HA.out j (by omega) hj⟩)⟩, HB1.out.trans (HB3.out.mono hsz1)⟩
        · obtain rfl : k = ts.length := by omega
          have hall : ∀ t ∈ ts, (lineF t).isSome = true := fun t ht => by
            obtain ⟨j, hj, e⟩ := List.getElem_of_mem ht
            rw [← e]; exact HA.out j hj hj
          have hlen : ts.length = (progF l).length := by rw [HP.out, linesF_len ts hall]
          have hO := HO.out
          rw [List.take_of_length_le (Nat.le_refl _), ← HP.out, hlen] at hO
          have hwd : Worded (progF l) := by rw [HP.out]; exact linesF_worded ts
          have HALL := hide hall
          have HWD := hide hwd
          have HLEN := hide hlen
          obtain ⟨gg, cap2, rfl, hcap2, hggB, hggl, hL⟩ := rlns_of hO (by omega)
          have hn1 : (progF l).length ≤ 100 := by omega
          have hn0 : 0 < (progF l).length := by omega
          clear hall hlen hwd hO HO HA
          generalize hxs : progF l = xs at *
          have HXS := hide hxs
          have HLN := hide hL
          clear hxs hL
          have hnot : ¬ (ts.length : Int) < (ts.length : Int) := by omega
          go_wp2
          go_loopw [10] (fun i w' => ∃ k : Nat, k ≤ xs.length ∧ i = .int .i64 k ∧ (∀ j (h : j < xs.length), j < k → isLost xs.length xs[j] = false) ∧ w' = W9) (fun i _ => xs.length - (intOf i).toNat)
          case atStart => exact ⟨0, Nat.zero_le _, rfl, fun j _ h => absurd h (by omega), rfl⟩
          case round =>
            obtain ⟨k, hk, rfl, hno, hw⟩ := hrel
            obtain rfl := hw.symm
            clear hw
            have HNO := hide hno
            clear hno
            by_cases hlk : k < xs.length
            · obtain ⟨row, hrow, hrw⟩ := HWD.out _ (List.getElem_mem hlk)
              have hli := lost_iff hn1 hn0 hrow hrw
              obtain ⟨_, c4⟩ := HLN.out.cells (k := k) (x := xs[k]) (List.getElem?_eq_getElem hlk)
              have HLI := hide hli
              clear hli hrw
              generalize (if 13 ≤ xs[k].word ∧ xs[k].word ≤ 15 then min xs[k].n 100 else 0) = q at *
              by_cases hq : (xs.length : Int) ≤ q
              · have HLO : Hid (isLost xs.length xs[k] = true) := hide (by rw [HLI.out]; simp [hq])
                go_wp2
                go_ret3
                refine ⟨.inr ⟨3, _, rfl, .inr (.inr (.inl ⟨HL.out, by rw [HTS.out]; exact HALL.out, lost_tr HXS.out k hlk HLO.out fun j hj => HNO.out j (by omega) hj⟩))⟩, HB1.out.trans (HB.out.mono hsz1)⟩
              · have HLO : Hid (isLost xs.length xs[k] = false) := hide (by rw [HLI.out]; simpa using hq)
                go_wp2
                go_roundw
                case rel =>
                  refine ⟨k + 1, by omega, by go_num, fun j h hj => ?_, by first | rfl | trivial⟩
                  rcases Nat.lt_succ_iff_lt_or_eq.1 hj with q | q
                  · exact HNO.out j h q
                  · subst q; exact HLO.out
                case measure => first | (simp [intOf]; omega) | simp [intOf]
            · obtain rfl : k = xs.length := by omega
              obtain ⟨m, hm⟩ : ∃ m, xs.length = m + 1 := ⟨xs.length - 1, by omega⟩
              have hml : m < xs.length := by omega
              obtain ⟨row, hrow, hrw⟩ := HWD.out _ (List.getElem_mem hml)
              obtain ⟨c0, _⟩ := HLN.out.cells (k := m) (x := xs[m]) (List.getElem?_eq_getElem hml)
              rw [hrw, show ((row : Int)).toNat = row by simp] at c0
              have hlast : xs[xs.length - 1]? = some xs[m] := by rw [show xs.length - 1 = m by omega]; exact List.getElem?_eq_getElem hml
              have hnol : ∀ x ∈ xs, isLost xs.length x = false := fun x hx => by
                obtain ⟨j, hj, e⟩ := List.getElem_of_mem hx
                rw [← e]; exact HNO.out j hj hj
              obtain ⟨q1, q2, q3⟩ := wname_ends hrow
              have HLAST := hide hlast
              have HNOL := hide hnol
              have HRW := hide hrw
              have HQ3 := hide q3
              have HM := hide hm
              have HBE := hide (HB1.out.trans (HB.out.mono hsz1))
              have hgw : w.heap.size ≤ gg := by omega
              clear hlast hnol hrw q3 HNO HB
              rw [hm] at hcap2
              by_cases r13 : row = 13
              · subst r13
                have HFL : Hid (wFalls 13 = false) := hide rfl
                clear q1 q2
                replace c0 : W9.cell? ⟨gg, m * 5, none⟩ = some (.string ⟨#[106, 109, 112]⟩) := c0
                go_wp2
                go_ret3
                refine ⟨.inl ⟨gg, cap2, by rw [HXS.out, HM.out]; rfl, ⟨HL.out, by rw [HTS.out]; exact HALL.out, by rw [HXS.out]; exact HNOL.out, fun x hx => ?_⟩, by rw [HXS.out, HM.out]; exact hcap2, hgw, hggl, by rw [HXS.out]; exact HLN.out⟩, HBE.out⟩
                rw [HXS.out, HLAST.out] at hx
                cases hx
                rw [HRW.out]; exact HFL.out
              · by_cases r16 : row = 16
                · subst r16
                  have HFL : Hid (wFalls 16 = false) := hide rfl
                  clear q1 q2
                  replace c0 : W9.cell? ⟨gg, m * 5, none⟩ = some (.string ⟨#[101, 110, 100]⟩) := c0
                  go_wp2
                  go_ret3
                  refine ⟨.inl ⟨gg, cap2, by rw [HXS.out, HM.out]; rfl, ⟨HL.out, by rw [HTS.out]; exact HALL.out, by rw [HXS.out]; exact HNOL.out, fun x hx => ?_⟩, by rw [HXS.out, HM.out]; exact hcap2, hgw, hggl, by rw [HXS.out]; exact HLN.out⟩, HBE.out⟩
                  rw [HXS.out, HLAST.out] at hx
                  cases hx
                  rw [HRW.out]; exact HFL.out
                · have HFL : Hid (wFalls row = true) := hide (by rw [HQ3.out]; simp [r13, r16])
                  have p1 : (wName row == [106, 109, 112]) = false := by rw [q1]; simp [r13]
                  have p2 : (wName row == [101, 110, 100]) = false := by rw [q2]; simp [r16]
                  clear q1 q2
                  go_wp2
                  go_ret3
                  refine ⟨.inr ⟨4, _, rfl, .inr (.inr (.inr ⟨HL.out, by rw [HTS.out]; exact HALL.out, by rw [HXS.out]; exact HNOL.out, rfl, ?_, xs[m], by rw [HXS.out]; exact HLAST.out, by rw [HRW.out]; exact HFL.out⟩))⟩, HBE.out⟩
                  rw [HXS.out, HM.out]
                  first | rfl | omega
end Go.Proofs.YtngopilbpiplhaaGreatDoor

namespace Go.Proofs.YtngopilbpiplhaaGreatDoor
open Go.RowKit
set_option linter.unusedVariables false
set_option linter.unusedSimpArgs false
/-- Bytes as cells. -/
def bytC (l : List UInt8) : List Value := l.map fun b => .int .u8 (b.toNat : Int)
theorem bytC_snoc (l : List UInt8) (b : UInt8) : bytC (l ++ [b]) = bytC l ++ [.int .u8 (b.toNat : Int)] := by simp [bytC]
theorem rinfoU8 : (Tryz.prog.info? 5).map (fun i => (i.zero, i.size, i.bytes)) = some (some (.int .u8 0), 1, 1) := by kernel_rfl
def ByA (cur : Array Value) (X : List UInt8) : Prop := ∀ (j : Nat) (b : UInt8), X[j]? = some b → cur[j]? = some (.int .u8 (b.toNat : Int))
theorem ByA.set {cur : Array Value} {X : List UInt8} (h : ByA cur X) (j : Nat) (b : UInt8) (v : Value) (hv : v = .int .u8 (b.toNat : Int)) : ByA (cur.setIfInBounds j v) (X.set j b) := by
  intro i a ha
  by_cases e : i = j
  · subst e
    have hi : i < X.length := by have := (List.getElem?_eq_some_iff.1 ha).1; simpa using this
    rw [List.getElem?_set_self hi] at ha
    cases ha
    have hc := h i X[i] (List.getElem?_eq_getElem hi)
    have hs := (Array.getElem?_eq_some_iff.1 hc).1
    rw [Array.getElem?_setIfInBounds_self_of_lt hs, hv]
  · rw [List.getElem?_set_ne (by omega)] at ha
    rw [Array.getElem?_setIfInBounds_ne (by omega)]
    exact h i a ha
theorem bya_of {w : World} {B : Nat} {v : Value} {l : List UInt8} (h : w.ownsRow B 5 1 v l.length (bytC l)) (h0 : 0 < l.length) :
    ∃ g cap cur, v = .slice (some ⟨g, 0, none⟩) l.length cap ∧ l.length ≤ cap ∧ B ≤ g ∧ w.heap[g]? = some (.cells cur 5) ∧ ByA cur l := by
  obtain ⟨_, ⟨_, h2⟩ | ⟨g, cap, cur, e, hg, hb, hc, _, _, ht⟩⟩ := h
  · omega
  · refine ⟨g, cap, cur, e, hc, hg, hb, fun j x hx => ?_⟩
    have hj := (List.getElem?_eq_some_iff.1 hx).1
    have h3 : (cur.toList.take (l.length * 1))[j]? = some (.int .u8 (x.toNat : Int)) := by rw [ht, bytC, List.getElem?_map, hx]; rfl
    rw [List.getElem?_take, if_pos (by omega)] at h3
    simpa using h3
/-- A list whose ends are changed, k of them. -/
def revK (L : List UInt8) (k : Nat) : List UInt8 := (List.range L.length).map fun j => if j < k ∨ L.length - 1 - j < k then L.getD (L.length - 1 - j) 0 else L.getD j 0
theorem revK_len (L : List UInt8) (k : Nat) : (revK L k).length = L.length := by simp [revK]
theorem revK_get (L : List UInt8) (k : Nat) {j : Nat} (h : j < L.length) : (revK L k)[j]? = some (if j < k ∨ L.length - 1 - j < k then L.getD (L.length - 1 - j) 0 else L.getD j 0) := by
  simp [revK, h]
theorem revK_zero (L : List UInt8) : revK L 0 = L := by
  apply List.ext_getElem?
  intro j
  by_cases h : j < L.length
  · rw [revK_get L 0 h, if_neg (by omega), List.getD_eq_getElem?_getD, List.getElem?_eq_getElem h]; rfl
  · rw [List.getElem?_eq_none (by rw [revK_len]; omega), List.getElem?_eq_none (by omega)]
theorem revK_end (L : List UInt8) (k : Nat) (hk : k = L.length / 2) : revK L k = L.reverse := by
  apply List.ext_getElem?
  intro j
  by_cases h : j < L.length
  · rw [revK_get L k h, List.getElem?_reverse h, List.getElem?_eq_getElem (by omega)]
    by_cases q : j < k ∨ L.length - 1 - j < k
    · rw [if_pos q, List.getD_eq_getElem?_getD, List.getElem?_eq_getElem (by omega)]; rfl
    · rw [if_neg q, List.getD_eq_getElem?_getD, List.getElem?_eq_getElem h]
      simp only [Option.getD_some, show L.length - 1 - j = j by omega]
  · rw [List.getElem?_eq_none (by rw [revK_len]; omega), List.getElem?_eq_none (by simp; omega)]
theorem revK_step (L : List UInt8) (k : Nat) (hk : k < L.length / 2) : ((revK L k).set k (L.getD (L.length - 1 - k) 0)).set (L.length - 1 - k) (L.getD k 0) = revK L (k + 1) := by
  apply List.ext_getElem?
  intro j
  by_cases h : j < L.length
  · rw [revK_get L (k + 1) h]
    by_cases e1 : j = L.length - 1 - k
    · rw [e1, List.getElem?_set_self (by rw [List.length_set, revK_len]; omega), if_pos (by omega), show L.length - 1 - (L.length - 1 - k) = k by omega]
    · rw [List.getElem?_set_ne (by omega)]
      by_cases e2 : j = k
      · rw [e2, List.getElem?_set_self (by rw [revK_len]; omega), if_pos (by omega)]
      · rw [List.getElem?_set_ne (by omega), revK_get L k h]
        by_cases q : j < k ∨ L.length - 1 - j < k
        · rw [if_pos q, if_pos (by omega)]
        · rw [if_neg q, if_neg (by omega)]
  · rw [List.getElem?_eq_none (by simp [revK_len]; omega), List.getElem?_eq_none (by rw [revK_len]; omega)]
theorem rev_at (L : List UInt8) (k : Nat) (hk : k < L.length / 2) : (revK L k)[k]? = some (L.getD k 0) ∧ (revK L k)[L.length - 1 - k]? = some (L.getD (L.length - 1 - k) 0) := by
  rw [revK_get L k (by omega), revK_get L k (by omega), if_neg (by omega), if_neg (by omega)]
  exact ⟨rfl, rfl⟩
theorem dd_pos (u : Nat) (h : u ≠ 0) : 0 < (dd u).length := by rw [dd_step u h]; simp
theorem digit_cell (q : Nat) (h : q < 10) : Value.int .u8 (48 + (q : Int)) = .int .u8 ((UInt8.ofNat (48 + q)).toNat : Int) := by
  congr 1
  have : (UInt8.ofNat (48 + q)).toNat = 48 + q := by
    simp
    omega
  omega
set_option maxRecDepth 100000 in
set_option maxHeartbeats 8000000 in
theorem rdecimal_pos (u : Nat) (hu : u ≠ 0) (h1 : (u : Int) ≤ 9223372036854775807) (w : World) :
    Calls Tryz.prog 172 #[.int .i64 (u : Int)] w fun e w' => e = .returned (.string ⟨(dd u).toArray⟩) ∧ Below w.heap.size w w' := by
  have b0 : ((u : Int) == 0) = false := beq_eq_false_iff_ne.2 (by omega)
  have bn : ¬ (u : Int) < 0 := by omega
  go_enter Tryz.func172, Tryz.ntmps172
  go_wp2_with fail
  go_loopw [3, 4] (fun bv mv w' => ∃ (q : Nat) (l : List UInt8), q ≤ u ∧ mv = .int .i64 (q : Int) ∧ dd u = dd q ++ l.reverse ∧ w'.ownsRow w.heap.size 5 1 bv l.length (bytC l) ∧ Below w.heap.size w w') (fun _ mv _ => (intOf mv).toNat)
  case atStart => exact ⟨u, [], Nat.le_refl _, rfl, by simp, ⟨rfl, .inl ⟨rfl, rfl⟩⟩, Below.refl _ _⟩
  case round =>
    obtain ⟨q, l, hq, rfl, hd, hO, hB⟩ := hrel
    have HD : Hid (dd u = dd q ++ l.reverse) := hd
    have HO := hide hO
    have HB := hide hB
    have hsz := hB.size
    clear hd hO hB
    have hl20 : l.length ≤ 20 := by
      have h1 := congrArg List.length HD.out
      rw [List.length_append, List.length_reverse] at h1
      have h2 := dd_len20 u (by omega)
      omega
    obtain ⟨W9, hW9⟩ : ∃ W : World, W = wr := ⟨_, rfl⟩
    subst hW9
    by_cases hz : q = 0
    · subst hz
      have HD0 : Hid (dd u = l.reverse) := hide (by rw [HD.out]; rfl)
      have hl0 : 0 < l.length := by
        have h1 := congrArg List.length HD0.out
        rw [List.length_reverse] at h1
        have := dd_pos u hu
        omega
      have nn : ¬ (u : Int) < 0 := by omega
      obtain ⟨g, cap, cur, rfl, hcap, hgB, hgb, hby⟩ := bya_of HO.out (by exact hl0)
      have HGB := hide hgb
      have HBY := hide hby
      clear hgb hby HO
      generalize hLL : l = L at *
      have HLL := hide hLL
      clear hLL
      obtain ⟨h, hh⟩ : ∃ h : Nat, h = L.length / 2 := ⟨_, rfl⟩
      have hL20 : L.length ≤ 30 := by have := hl20; omega
      have hdiv : ((L.length : Int)).tdiv 2 = (h : Int) := by rw [Int.tdiv_eq_ediv_of_nonneg (by omega)]; omega
      have hwh : wrap64 (h : Int) = (h : Int) := by unfold wrap64; omega
      have HH := hide hh
      clear hh
      go_wp2_with fail
      go_loopw [6] (fun iv w' => ∃ (k : Nat) (cr : Array Value), k ≤ h ∧ iv = .int .i64 k ∧ w'.heap[g]? = some (.cells cr 5) ∧ ByA cr (revK L k) ∧ Below w.heap.size w w') (fun iv _ => h - (intOf iv).toNat)
      case atStart => exact ⟨0, cur, Nat.zero_le _, rfl, HGB.out, by rw [revK_zero]; exact HBY.out, HB.out⟩
      case round =>
        clear HGB HBY HB
        obtain ⟨k, cr, hk, rfl, hgb, hby, hb⟩ := hrel
        have HGB := hide hgb
        have HBY := hide hby
        have HB := hide hb
        have fz := frozen_of_blk hgb
        clear hgb hby hb
        by_cases hkh : k < h
        · have hkI : (k : Int) < (h : Int) := by omega
          have hkL : k < L.length / 2 := by rw [← HH.out]; exact hkh
          obtain ⟨m, hm⟩ : ∃ m : Nat, m = L.length - 1 - k := ⟨_, rfl⟩
          obtain ⟨r1, r2⟩ := rev_at L k hkL
          have hst := revK_step L k hkL
          rw [← hm] at r2 hst
          have ca : wr.cell? ⟨g, k, none⟩ = some (.int .u8 ((L.getD k 0).toNat : Int)) := (cell_of_blk HGB.out k).trans (HBY.out _ _ r1)
          have cb : wr.cell? ⟨g, m, none⟩ = some (.int .u8 ((L.getD m 0).toNat : Int)) := (cell_of_blk HGB.out m).trans (HBY.out _ _ r2)
          have hmI : (L.length : Int) - 1 - (k : Int) = (m : Int) := by omega
          have hml : (m : Int) < (L.length : Int) := by omega
          have hkm : ¬ k = m := by omega
          have HST := hide hst
          clear r1 r2 hst hm
          generalize L.getD k 0 = x at *
          generalize L.getD m 0 = y at *
          go_wp2
          go_roundw
          case rel =>
            refine ⟨k + 1, (cr.setIfInBounds k (.int .u8 (y.toNat : Int))).setIfInBounds m (.int .u8 (x.toNat : Int)), by omega, by go_num, blk_setCell (blk_setCell HGB.out k _) m _, ?_, (HB.out.setCell (p := ⟨g, k, none⟩) hgB _).setCell (p := ⟨g, m, none⟩) hgB _⟩
            rw [← HST.out]
            exact (HBY.out.set k y _ rfl).set m x _ rfl
          case measure => first | (simp [intOf]; omega) | simp [intOf]
        · obtain rfl : k = h := by omega
          have hnl : ¬ (k : Int) < (k : Int) := by omega
          have hlr : (revK L k).length = L.length := revK_len L k
          have hcv := run_convert_bytes_back (P := Tryz.prog) wr 76 9 5 ⟨g, 0, none⟩ cap (revK L k) Tryz.underlying76 Tryz.underlying5 Tryz.underlying9 (fun j hj => by
            have e : (⟨g, 0, none⟩ : Addr).add j = ⟨g, j, none⟩ := by unfold Addr.add; split <;> simp_all
            rw [e, cell_of_blk HGB.out]
            exact HBY.out j _ (List.getElem?_eq_getElem hj))
          rw [hlr] at hcv
          have HRV := hide (revK_end L k HH.out)
          clear hlr fz
          go_wp2
          go_ret
          refine ⟨?_, HB.out⟩
          rw [HRV.out, HD0.out]
          rfl
    · have q0 : ((q : Int) != 0) = true := by rw [bne_iff_ne]; omega
      have qq : (q : Int) ≤ 9223372036854775808 := by omega
      have qm : (q : Int) % 10 < 10 := by omega
      have qm0 : 0 ≤ (q : Int) % 10 := by omega
      go_wp2_with (first | (at_builtin; refine wpList_appG rfl (.tmp 19) (.tmp 23) 76 5 (.int .u8 0) 1 1 rfl rinfoU8 Tryz.underlying76 rfl (by decide) w.heap.size _ l.length (bytC l) rfl (hide (HO.out.alloc _)) W9.heap.size _ 5 rfl (blk_new _ _) rfl (by simp [Value.oneCell']) (by omega) (by omega) (by rw [World.size_alloc]; omega) ?_) | go_in)
      intro v2 w2 hO2 hG2
      have HB2 := hide (below_own (HB.out.alloc hsz _) (HO.out.alloc _) hG2.out (by rw [World.size_alloc]; omega))
      clear hG2 HO HB
      go_wp2
      go_roundw
      case rel =>
        refine ⟨q / 10, l ++ [UInt8.ofNat (48 + q % 10)], by omega, by go_num, ?_, ?_, HB2.out⟩
        · rw [HD.out, dd_step q hz]; simp
        · rw [bytC_snoc, List.length_append]
          have e := digit_cell (q % 10) (by omega)
          have h := hO2.out
          have e2 : (48 : Int) + ((q % 10 : Nat) : Int) = 48 + (q : Int) % 10 := by omega
          rw [e2] at e
          rw [← e]
          exact h
      case measure => first | (simp [intOf]; omega) | simp [intOf]
set_option maxRecDepth 100000 in
set_option maxHeartbeats 8000000 in
theorem rdecimal_neg (u : Nat) (hu : u ≠ 0) (h1 : (u : Int) ≤ 9223372036854775808) (w : World) :
    Calls Tryz.prog 172 #[.int .i64 (-(u : Int))] w fun e w' => e = .returned (.string ⟨(45 :: dd u).toArray⟩) ∧ Below w.heap.size w w' := by
  have b0 : ((-(u : Int)) == 0) = false := beq_eq_false_iff_ne.2 (by omega)
  have bn : -(u : Int) < 0 := by omega
  go_enter Tryz.func172, Tryz.ntmps172
  go_wp2_with fail
  go_loopw [3, 4] (fun bv mv w' => ∃ (q : Nat) (l : List UInt8), q ≤ u ∧ mv = .int .i64 (-(q : Int)) ∧ dd u = dd q ++ l.reverse ∧ w'.ownsRow w.heap.size 5 1 bv l.length (bytC l) ∧ Below w.heap.size w w') (fun _ mv _ => (-(intOf mv)).toNat)
  case atStart => exact ⟨u, [], Nat.le_refl _, rfl, by simp, ⟨rfl, .inl ⟨rfl, rfl⟩⟩, Below.refl _ _⟩
  case round =>
    obtain ⟨q, l, hq, rfl, hd, hO, hB⟩ := hrel
    have HD : Hid (dd u = dd q ++ l.reverse) := hd
    have HO := hide hO
    have HB := hide hB
    have hsz := hB.size
    clear hd hO hB
    have hl20 : l.length ≤ 20 := by
      have h1 := congrArg List.length HD.out
      rw [List.length_append, List.length_reverse] at h1
      have h2 := dd_len20 u (by omega)
      omega
    obtain ⟨W9, hW9⟩ : ∃ W : World, W = wr := ⟨_, rfl⟩
    subst hW9
    by_cases hz : q = 0
    · subst hz
      go_wp2_with (first | (at_builtin; refine wpList_appG rfl (.tmp 29) (.tmp 30) 76 5 (.int .u8 0) 1 1 rfl rinfoU8 Tryz.underlying76 rfl (by decide) w.heap.size _ l.length (bytC l) rfl (hide (HO.out.alloc _)) W9.heap.size _ 5 rfl (blk_new _ _) rfl (by simp [Value.oneCell']) (by omega) (by omega) (by rw [World.size_alloc]; omega) ?_) | go_in)
      intro v2 w2 hO2 hG2
      have HB2 := hide (below_own (HB.out.alloc hsz _) (HO.out.alloc _) hG2.out (by rw [World.size_alloc]; omega))
      clear hG2 HO HB
      have HO : Hid (w2.ownsRow w.heap.size 5 1 v2 (l ++ [45]).length (bytC (l ++ [45]))) := hide (by rw [bytC_snoc, List.length_append]; exact hO2.out)
      have HB := HB2
      clear hO2 HB2
      have HD0 : Hid (45 :: dd u = (l ++ [45]).reverse) := hide (by rw [HD.out]; simp [dd])
      have hl20' : (l ++ [45]).length ≤ 21 := by simp; omega
      replace hl20 := hl20'
      clear hl20'
      obtain ⟨g, cap, cur, rfl, hcap, hgB, hgb, hby⟩ := bya_of HO.out (by simp)
      have HGB := hide hgb
      have HBY := hide hby
      clear hgb hby HO
      generalize hLL : l ++ [45] = L at *
      have HLL := hide hLL
      clear hLL
      obtain ⟨h, hh⟩ : ∃ h : Nat, h = L.length / 2 := ⟨_, rfl⟩
      have hL20 : L.length ≤ 30 := by have := hl20; omega
      have hdiv : ((L.length : Int)).tdiv 2 = (h : Int) := by rw [Int.tdiv_eq_ediv_of_nonneg (by omega)]; omega
      have hwh : wrap64 (h : Int) = (h : Int) := by unfold wrap64; omega
      have HH := hide hh
      clear hh
      go_wp2_with fail
      go_loopw [6] (fun iv w' => ∃ (k : Nat) (cr : Array Value), k ≤ h ∧ iv = .int .i64 k ∧ w'.heap[g]? = some (.cells cr 5) ∧ ByA cr (revK L k) ∧ Below w.heap.size w w') (fun iv _ => h - (intOf iv).toNat)
      case atStart => exact ⟨0, cur, Nat.zero_le _, rfl, HGB.out, by rw [revK_zero]; exact HBY.out, HB.out⟩
      case round =>
        clear HGB HBY HB
        obtain ⟨k, cr, hk, rfl, hgb, hby, hb⟩ := hrel
        have HGB := hide hgb
        have HBY := hide hby
        have HB := hide hb
        have fz := frozen_of_blk hgb
        clear hgb hby hb
        by_cases hkh : k < h
        · have hkI : (k : Int) < (h : Int) := by omega
          have hkL : k < L.length / 2 := by rw [← HH.out]; exact hkh
          obtain ⟨m, hm⟩ : ∃ m : Nat, m = L.length - 1 - k := ⟨_, rfl⟩
          obtain ⟨r1, r2⟩ := rev_at L k hkL
          have hst := revK_step L k hkL
          rw [← hm] at r2 hst
          have ca : wr.cell? ⟨g, k, none⟩ = some (.int .u8 ((L.getD k 0).toNat : Int)) := (cell_of_blk HGB.out k).trans (HBY.out _ _ r1)
          have cb : wr.cell? ⟨g, m, none⟩ = some (.int .u8 ((L.getD m 0).toNat : Int)) := (cell_of_blk HGB.out m).trans (HBY.out _ _ r2)
          have hmI : (L.length : Int) - 1 - (k : Int) = (m : Int) := by omega
          have hml : (m : Int) < (L.length : Int) := by omega
          have hkm : ¬ k = m := by omega
          have HST := hide hst
          clear r1 r2 hst hm
          generalize L.getD k 0 = x at *
          generalize L.getD m 0 = y at *
          go_wp2
          go_roundw
          case rel =>
            refine ⟨k + 1, (cr.setIfInBounds k (.int .u8 (y.toNat : Int))).setIfInBounds m (.int .u8 (x.toNat : Int)), by omega, by go_num, blk_setCell (blk_setCell HGB.out k _) m _, ?_, (HB.out.setCell (p := ⟨g, k, none⟩) hgB _).setCell (p := ⟨g, m, none⟩) hgB _⟩
            rw [← HST.out]
            exact (HBY.out.set k y _ rfl).set m x _ rfl
          case measure => first | (simp [intOf]; omega) | simp [intOf]
        · obtain rfl : k = h := by omega
          have hnl : ¬ (k : Int) < (k : Int) := by omega
          have hlr : (revK L k).length = L.length := revK_len L k
          have hcv := run_convert_bytes_back (P := Tryz.prog) wr 76 9 5 ⟨g, 0, none⟩ cap (revK L k) Tryz.underlying76 Tryz.underlying5 Tryz.underlying9 (fun j hj => by
            have e : (⟨g, 0, none⟩ : Addr).add j = ⟨g, j, none⟩ := by unfold Addr.add; split <;> simp_all
            rw [e, cell_of_blk HGB.out]
            exact HBY.out j _ (List.getElem?_eq_getElem hj))
          rw [hlr] at hcv
          have HRV := hide (revK_end L k HH.out)
          clear hlr fz
          go_wp2
          go_ret
          refine ⟨?_, HB.out⟩
          rw [HRV.out, HD0.out]
          rfl
    · have q0 : ((-(q : Int)) != 0) = true := by rw [bne_iff_ne]; omega
      have qq : (q : Int) ≤ 9223372036854775808 := by omega
      have qm : (q : Int) % 10 < 10 := by omega
      have qm0 : 0 ≤ (q : Int) % 10 := by omega
      by_cases hx : (q : Int) % 10 = 0
      · go_wp2_with (first | (at_builtin; refine wpList_appG rfl (.tmp 19) (.tmp 23) 76 5 (.int .u8 0) 1 1 rfl rinfoU8 Tryz.underlying76 rfl (by decide) w.heap.size _ l.length (bytC l) rfl (hide (HO.out.alloc _)) W9.heap.size _ 5 rfl (blk_new _ _) rfl (by simp [Value.oneCell']) (by omega) (by omega) (by rw [World.size_alloc]; omega) ?_) | go_in)
        intro v2 w2 hO2 hG2
        have HB2 := hide (below_own (HB.out.alloc hsz _) (HO.out.alloc _) hG2.out (by rw [World.size_alloc]; omega))
        clear hG2 HO HB
        go_wp2
        go_roundw
        case rel =>
          refine ⟨q / 10, l ++ [UInt8.ofNat (48 + q % 10)], by omega, by go_num, ?_, ?_, HB2.out⟩
          · rw [HD.out, dd_step q hz]; simp
          · rw [bytC_snoc, List.length_append]
            have e := digit_cell (q % 10) (by omega)
            have h := hO2.out
            have e2 : (48 : Int) + ((q % 10 : Nat) : Int) = 48 + (q : Int) % 10 := by omega
            rw [e2] at e
            rw [← e]
            rw [hx]; exact h
        case measure => first | (simp [intOf]; omega) | simp [intOf]
      · go_wp2_with (first | (at_builtin; refine wpList_appG rfl (.tmp 19) (.tmp 23) 76 5 (.int .u8 0) 1 1 rfl rinfoU8 Tryz.underlying76 rfl (by decide) w.heap.size _ l.length (bytC l) rfl (hide (HO.out.alloc _)) W9.heap.size _ 5 rfl (blk_new _ _) rfl (by simp [Value.oneCell']) (by omega) (by omega) (by rw [World.size_alloc]; omega) ?_) | go_in)
        intro v2 w2 hO2 hG2
        have HB2 := hide (below_own (HB.out.alloc hsz _) (HO.out.alloc _) hG2.out (by rw [World.size_alloc]; omega))
        clear hG2 HO HB
        go_wp2
        go_roundw
        case rel =>
          refine ⟨q / 10, l ++ [UInt8.ofNat (48 + q % 10)], by omega, by go_num, ?_, ?_, HB2.out⟩
          · rw [HD.out, dd_step q hz]; simp
          · rw [bytC_snoc, List.length_append]
            have e := digit_cell (q % 10) (by omega)
            have h := hO2.out
            have e2 : (48 : Int) + ((q % 10 : Nat) : Int) = 48 + (q : Int) % 10 := by omega
            rw [e2] at e
            rw [← e]
            exact h
        case measure => first | (simp [intOf]; omega) | simp [intOf]
set_option maxHeartbeats 400000 in
theorem rdecimal_zero (w : World) :
    Calls Tryz.prog 172 #[.int .i64 0] w fun e w' => e = .returned (.string ⟨#[48]⟩) ∧ w' = w := by
  go_enter Tryz.func172, Tryz.ntmps172
  go_wp2
  go_ret
  exact ⟨rfl, rfl⟩
theorem rdecimal_any (n : Int) (h0 : -9223372036854775808 ≤ n) (h1 : n ≤ 9223372036854775807) (w : World) :
    Calls Tryz.prog 172 #[.int .i64 n] w fun e w' => e = .returned (.string ⟨(Lib.itoa n).toArray⟩) ∧ Below w.heap.size w w' := by
  rcases Int.lt_trichotomy n 0 with h | h | h
  · obtain ⟨u, rfl⟩ : ∃ u : Nat, n = -(u : Int) := ⟨n.natAbs, by omega⟩
    rw [itoa_neg u (by omega)]
    exact rdecimal_neg u (by omega) (by omega) w
  · subst h
    refine (rdecimal_zero w).mono ?_
    rintro e w' ⟨rfl, rfl⟩
    exact ⟨by rw [show Lib.itoa 0 = [48] by decide +kernel], Below.refl _ _⟩
  · obtain ⟨u, rfl⟩ : ∃ u : Nat, n = (u : Int) := ⟨n.natAbs, by omega⟩
    rw [itoa_pos u (by omega)]
    exact rdecimal_pos u (by omega) (by omega) w
end Go.Proofs.YtngopilbpiplhaaGreatDoor

namespace Go.Proofs.YtngopilbpiplhaaGreatDoor
open Go.RowKit
set_option linter.unusedVariables false
set_option linter.unusedSimpArgs false
theorem join_snoc (xs : List (List UInt8)) (x sep : List UInt8) (h : xs ≠ []) : Lib.join (xs ++ [x]) sep = Lib.join xs sep ++ sep ++ x := by
  cases xs with
  | nil => exact absurd rfl h
  | cons a r =>
    rw [List.cons_append, Lib.join_cons, Lib.join_cons]
    simp [Lib.joinTail]
theorem cprt_ne (c : Cl) : ∀ k, cprtF c k ≠ []
  | 0 => by simp [cprtF]
  | k + 1 => by
    unfold cprtF
    split
    · simp
    · exact cprt_ne c k
/-- A claim's text, up to register k. -/
def wrK (c : Cl) (k : Nat) : List UInt8 := Lib.join (cprtF c k) [32]
theorem wrK_yes (c : Cl) (k : Nat) (h : c.has k = true) : wrK c (k + 1) = wrK c k ++ [32] ++ partT c k := by
  unfold wrK
  rw [show cprtF c (k + 1) = cprtF c k ++ [partT c k] by simp [cprtF, h], join_snoc _ _ _ (cprt_ne c k)]
theorem wrK_no (c : Cl) (k : Nat) (h : c.has k = false) : wrK c (k + 1) = wrK c k := by
  unfold wrK
  rw [show cprtF c (k + 1) = cprtF c k by simp [cprtF, h]]
theorem wrK_len (c : Cl) (h : ClOk c) (k : Nat) (hk : k ≤ 8) : (wrK c k).length ≤ 500 := by
  have h1 := join_len (cprtF c k) 32
  have h2 := cprt_len c h k hk
  unfold wrK
  omega
theorem itoa_reg (k : Nat) : Lib.itoa (k : Int) = Lib.decDigits k := by
  unfold Lib.itoa
  rw [if_neg (by omega)]
  rfl
theorem exec_strAdd {o : Oper} {a : Act} {w : World} (x y : Operand) (l m : List UInt8) (ho : o.op = .binOp .add 9 x y 9) (hx : a.eval x = .string ⟨l.toArray⟩) (hy : a.eval y = .string ⟨m.toArray⟩) (hl : l.length + m.length ≤ 1000000) :
    (execOp a.eval o).run Tryz.prog w = .ok (.value (.string ⟨(l ++ m).toArray⟩)) w := by
  have h1 : ¬ 9223372036854775807 < l.length + m.length := by omega
  have e := strOf_app l m
  unfold execOp
  simp only [ho, hx, hy]
  go_simp
/-- The text of a claim. -/
theorem clT_wr (c : Cl) (h : c.never = false) : clT c = wrK c 8 := by simp [clT, h, wrK]
set_option maxRecDepth 100000 in
set_option maxHeartbeats 8000000 in
theorem rwritten_any (c : Cl) (hok : ClOk c) (w : World) : Calls Tryz.prog 116 #[.agg (rcCells c)] w fun e w' => e = .returned (.string ⟨(clT c).toArray⟩) ∧ Below w.heap.size w w' := by
  have hA0 : (w.alloc (rcB c)).heap[w.heap.size]? = some (rcB c) := blk_new w _
  have hB0 : Below w.heap.size w (w.alloc (rcB c)) := (Below.refl _ _).alloc (Nat.le_refl _) _
  have HOK := hide hok
  clear hok
  cases hn : c.never with
  | true =>
    have HT : Hid (clT c = [45]) := hide (by simp [clT, hn])
    have n1 : (rcCells c)[0]? = some (.bool true) := by rw [rc_never, hn]
    go_enter Tryz.func116, Tryz.ntmps116
    go_wp2
    go_ret
    exact ⟨by rw [HT.out]; rfl, hB0⟩
  | false =>
    have HT := hide (clT_wr c hn)
    have n1 : (rcCells c)[0]? = some (.bool false) := by rw [rc_never, hn]
    have HA0 := hide hA0
    have HB0 := hide hB0
    clear hA0 hB0
    go_enter Tryz.func116, Tryz.ntmps116
    go_wp2_with fail
    clear n1
    go_loopw [3, 4] (fun sv iv w' => ∃ k : Nat, k ≤ 8 ∧ iv = .int .i64 k ∧ sv = .string ⟨(wrK c k).toArray⟩ ∧ w'.heap[w.heap.size]? = some (rcB c) ∧ Below w.heap.size w w') (fun _ iv _ => 8 - (intOf iv).toNat)
    case atStart => exact ⟨0, by omega, rfl, by rfl, HA0.out, HB0.out⟩
    case round =>
      clear HA0 HB0
      obtain ⟨k, hk8, rfl, rfl, hA, hB⟩ := hrel
      have HA := hide hA
      have HB := hide hB
      obtain ⟨W9, hW9⟩ : ∃ W : World, W = wr := ⟨_, rfl⟩
      subst hW9
      by_cases hk : k < 8
      · have hkI : (k : Int) < 8 := by omega
        have c1 : W9.cell? ⟨w.heap.size, 1 + k, none⟩ = some (.bool (c.has k)) := (cell_of_blk hA _).trans (rc_has c k hk)
        clear hA hB
        cases hh : c.has k with
        | false =>
          have HN := hide (wrK_no c k hh)
          rw [hh] at c1
          clear hh
          go_wp2
          go_roundw
          case rel => exact ⟨k + 1, by omega, by go_num, by rw [HN.out], HA.out, HB.out⟩
          case measure => first | (simp [intOf]; omega) | simp [intOf]
        | true =>
          have HN := hide (wrK_yes c k hh)
          rw [hh] at c1
          obtain ⟨b0, b1, b2, b3⟩ := HOK.out k hk hh
          have hl0 := wrK_len c HOK.out k hk8
          have hl1 := itoa_20 (k : Int) (by omega) (by omega)
          have hl2 := itoa_20 (c.lo k) b0 b1
          have hl3 := itoa_20 (c.hi k) b2 b3
          clear hh
          go_wp2_with fail
          clear c1
          refine wp_region_held (S := fun W' => W'.heap[w.heap.size]? = some (rcB c) ∧ Below w.heap.size w W') mixed ?_
          have hb0 : ({ W9 with drawn := W9.drawn + 1 } : World).heap[w.heap.size]? = some (rcB c) ∧ Below w.heap.size w { W9 with drawn := W9.drawn + 1 } := ⟨HA.out, HB.out.drew⟩
          generalize ({ W9 with drawn := W9.drawn + 1 } : World) = w0 at *
          have HE0 := hide hb0
          clear hb0 HA HB
          refine hT 0 15 rfl rfl (by kernel_rfl) (fun _ _ _ h => h) (.inl ⟨by kernel_rfl, fun w' h => by go_simp; rfl⟩) HE0.out ?_
          simp only [Act.put, zzA, zzB, zzC]
          refine hT 1 16 rfl rfl (by kernel_rfl) (fun _ _ _ h => h) (.inl ⟨by kernel_rfl, fun w' h => exec_strAdd (.tmp 15) (.const (.string ⟨#[32, 114]⟩)) (wrK c k) ([32, 114]) rfl (by kernel_rfl) (by kernel_rfl) (by simp; omega)⟩) HE0.out ?_
          simp only [Act.put, zzA, zzB, zzC]
          refine hT 2 17 rfl rfl (by kernel_rfl) (fun _ _ _ h => h) (.inl ⟨by kernel_rfl, fun w' h => by go_simp; rfl⟩) HE0.out ?_
          simp only [Act.put, zzA, zzB, zzC]
          refine hT 6 21 rfl rfl (by kernel_rfl) (fun _ _ _ h => h) (.inl ⟨by kernel_rfl, fun w' h => by go_simp; rfl⟩) HE0.out ?_
          simp only [Act.put, zzA, zzB, zzC]
          refine hT 7 22 rfl rfl (by kernel_rfl) (fun _ _ _ h => h) (.inl ⟨by kernel_rfl, fun w' h => by go_simp; rfl⟩) HE0.out ?_
          simp only [Act.put, zzA, zzB, zzC]
          refine hT 8 23 rfl rfl (by kernel_rfl) (fun _ _ _ h => h) (.inl ⟨by kernel_rfl, fun w' h => by go_simp; rfl⟩) HE0.out ?_
          simp only [Act.put, zzA, zzB, zzC]
          refine hT 9 24 rfl rfl (by kernel_rfl) (fun _ _ _ h => h) (.inl ⟨by kernel_rfl, fun w' h => by have hc : w'.cell? ⟨w.heap.size, 9 + k, none⟩ = some (.int .i64 (c.lo k)) := (cell_of_blk h.1 _).trans (rc_lo c k hk); go_simp; rfl⟩) HE0.out ?_
          simp only [Act.put, zzA, zzB, zzC]
          refine hT 13 28 rfl rfl (by kernel_rfl) (fun _ _ _ h => h) (.inl ⟨by kernel_rfl, fun w' h => by go_simp; rfl⟩) HE0.out ?_
          simp only [Act.put, zzA, zzB, zzC]
          refine hT 14 29 rfl rfl (by kernel_rfl) (fun _ _ _ h => h) (.inl ⟨by kernel_rfl, fun w' h => by go_simp; rfl⟩) HE0.out ?_
          simp only [Act.put, zzA, zzB, zzC]
          refine hT 15 30 rfl rfl (by kernel_rfl) (fun _ _ _ h => h) (.inl ⟨by kernel_rfl, fun w' h => by go_simp; rfl⟩) HE0.out ?_
          simp only [Act.put, zzA, zzB, zzC]
          refine hT 16 31 rfl rfl (by kernel_rfl) (fun _ _ _ h => h) (.inl ⟨by kernel_rfl, fun w' h => by have hc : w'.cell? ⟨w.heap.size, 17 + k, none⟩ = some (.int .i64 (c.hi k)) := (cell_of_blk h.1 _).trans (rc_hi c k hk); go_simp; rfl⟩) HE0.out ?_
          simp only [Act.put, zzA, zzB, zzC]
          refine held_call (i := 3) (some 18) (by kernel_rfl) rfl rfl (by kernel_rfl) (by go_simp; exact ⟨rfl, rfl⟩) ?_
          refine (rdecimal_any ((k : Int)) (by omega) (by omega) _).mono ?_
          rintro e wd ⟨rfl, hbd⟩
          have HE1 := hide (⟨(hbd.block _ (blk_lt HE0.out.1)).trans HE0.out.1, HE0.out.2.trans (hbd.mono HE0.out.2.size)⟩ : wd.heap[w.heap.size]? = some (rcB c) ∧ Below w.heap.size w wd)
          clear hbd HE0
          refine ⟨_, rfl, HE1.out, ?_⟩
          simp only [Act.put, zzA, zzB, zzC]
          refine hT 4 19 rfl rfl (by kernel_rfl) (fun _ _ _ h => h) (.inl ⟨by kernel_rfl, fun w' h => exec_strAdd (.tmp 16) (.tmp 18) (wrK c k ++ [32, 114]) (Lib.itoa (k : Int)) rfl (by kernel_rfl) (by kernel_rfl) (by simp; omega)⟩) HE1.out ?_
          simp only [Act.put, zzA, zzB, zzC]
          refine hT 5 20 rfl rfl (by kernel_rfl) (fun _ _ _ h => h) (.inl ⟨by kernel_rfl, fun w' h => exec_strAdd (.tmp 19) (.const (.string ⟨#[61]⟩)) (wrK c k ++ [32, 114] ++ Lib.itoa (k : Int)) ([61]) rfl (by kernel_rfl) (by kernel_rfl) (by simp; omega)⟩) HE1.out ?_
          simp only [Act.put, zzA, zzB, zzC]
          refine held_call (i := 10) (some 25) (by kernel_rfl) rfl rfl (by kernel_rfl) (by go_simp; exact ⟨rfl, rfl⟩) ?_
          refine (rdecimal_any (c.lo k) b0 b1 _).mono ?_
          rintro e wd ⟨rfl, hbd⟩
          have HE2 := hide (⟨(hbd.block _ (blk_lt HE1.out.1)).trans HE1.out.1, HE1.out.2.trans (hbd.mono HE1.out.2.size)⟩ : wd.heap[w.heap.size]? = some (rcB c) ∧ Below w.heap.size w wd)
          clear hbd HE1
          refine ⟨_, rfl, HE2.out, ?_⟩
          simp only [Act.put, zzA, zzB, zzC]
          refine hT 11 26 rfl rfl (by kernel_rfl) (fun _ _ _ h => h) (.inl ⟨by kernel_rfl, fun w' h => exec_strAdd (.tmp 20) (.tmp 25) (wrK c k ++ [32, 114] ++ Lib.itoa (k : Int) ++ [61]) (Lib.itoa (c.lo k)) rfl (by kernel_rfl) (by kernel_rfl) (by simp; omega)⟩) HE2.out ?_
          simp only [Act.put, zzA, zzB, zzC]
          refine hT 12 27 rfl rfl (by kernel_rfl) (fun _ _ _ h => h) (.inl ⟨by kernel_rfl, fun w' h => exec_strAdd (.tmp 26) (.const (.string ⟨#[46, 46]⟩)) (wrK c k ++ [32, 114] ++ Lib.itoa (k : Int) ++ [61] ++ Lib.itoa (c.lo k)) ([46, 46]) rfl (by kernel_rfl) (by kernel_rfl) (by simp; omega)⟩) HE2.out ?_
          simp only [Act.put, zzA, zzB, zzC]
          refine held_call (i := 17) (some 32) (by kernel_rfl) rfl rfl (by kernel_rfl) (by go_simp; exact ⟨rfl, rfl⟩) ?_
          refine (rdecimal_any (c.hi k) b2 b3 _).mono ?_
          rintro e wd ⟨rfl, hbd⟩
          have HE3 := hide (⟨(hbd.block _ (blk_lt HE2.out.1)).trans HE2.out.1, HE2.out.2.trans (hbd.mono HE2.out.2.size)⟩ : wd.heap[w.heap.size]? = some (rcB c) ∧ Below w.heap.size w wd)
          clear hbd HE2
          refine ⟨_, rfl, HE3.out, ?_⟩
          simp only [Act.put, zzA, zzB, zzC]
          refine hT 18 33 rfl rfl (by kernel_rfl) (fun _ _ _ h => h) (.inl ⟨by kernel_rfl, fun w' h => exec_strAdd (.tmp 27) (.tmp 32) (wrK c k ++ [32, 114] ++ Lib.itoa (k : Int) ++ [61] ++ Lib.itoa (c.lo k) ++ [46, 46]) (Lib.itoa (c.hi k)) rfl (by kernel_rfl) (by kernel_rfl) (by simp; omega)⟩) HE3.out ?_
          simp only [Act.put, zzA, zzB, zzC]
          refine hT 19 3 rfl rfl (by kernel_rfl) (fun _ _ _ h => h) (.inl ⟨by kernel_rfl, fun w' h => by go_simp; rfl⟩) HE3.out ?_
          simp only [Act.put, zzA, zzB, zzC]
          refine wpAnyH_done (by kernel_rfl) ?_ _
          go_wp2
          go_roundw
          case rel => exact ⟨k + 1, by omega, by go_num, by rw [HN.out]; simp only [partT, spanT, ← itoa_reg, List.append_assoc, List.cons_append, List.nil_append], HE3.out.1, HE3.out.2⟩
          case measure => first | (simp [intOf]; omega) | simp [intOf]
      · obtain rfl : k = 8 := by omega
        clear hA hB
        go_wp2
        go_ret
        exact ⟨by rw [HT.out]; rfl, HB.out⟩
end Go.Proofs.YtngopilbpiplhaaGreatDoor
