/-
  The contracts of Span.letGo and Claim.LetGo.
-/
import Derived.Test.YtngopilbpiplhaaGreatDoorZClJ
namespace Go.Proofs.YtngopilbpiplhaaGreatDoor
open Go.RowKit

def letLo (a c : Int) : Int := if a < c then -9223372036854775808 else a
def letHi (b d : Int) : Int := if d < b then 9223372036854775807 else b

set_option maxRecDepth 100000 in
set_option maxHeartbeats 2000000 in
theorem sletGo_any (a b c d : Int) (w : World) : Calls Tryz.prog 250 #[spC a b, spC c d] w fun e w' => e = .returned (spC (letLo a c) (letHi b d)) ∧ w' = ((w.alloc (spB (letLo a c) (letHi b d))).alloc (spB c d)).alloc (spB (letLo a c) (letHi b d)) := by
  by_cases h1 : a < c
  · have e1 : letLo a c = -9223372036854775808 := if_pos h1
    by_cases h2 : d < b
    · have e2 : letHi b d = 9223372036854775807 := if_pos h2
      rw [e1, e2]; clear e1 e2
      go_enter Tryz.func250, Tryz.ntmps250
      go_wp2
      exact bodyPost_ret (results_cell_row rfl _ _ (w.heap.size + 1 + 1) 132 _ _ _ rfl (blk2 w _ _ _) Tryz.underlying132 rfl (by kernel_rfl)) rfl ⟨rfl, rfl⟩
    · have e2 : letHi b d = b := if_neg h2
      rw [e1, e2]; clear e1 e2
      go_enter Tryz.func250, Tryz.ntmps250
      go_wp2
      exact bodyPost_ret (results_cell_row rfl _ _ (w.heap.size + 1 + 1) 132 _ _ _ rfl (blk2 w _ _ _) Tryz.underlying132 rfl (by kernel_rfl)) rfl ⟨rfl, rfl⟩
  · have e1 : letLo a c = a := if_neg h1
    by_cases h2 : d < b
    · have e2 : letHi b d = 9223372036854775807 := if_pos h2
      rw [e1, e2]; clear e1 e2
      go_enter Tryz.func250, Tryz.ntmps250
      go_wp2
      exact bodyPost_ret (results_cell_row rfl _ _ (w.heap.size + 1 + 1) 132 _ _ _ rfl (blk2 w _ _ _) Tryz.underlying132 rfl (by kernel_rfl)) rfl ⟨rfl, rfl⟩
    · have e2 : letHi b d = b := if_neg h2
      rw [e1, e2]; clear e1 e2
      go_enter Tryz.func250, Tryz.ntmps250
      go_wp2
      exact bodyPost_ret (results_cell_row rfl _ _ (w.heap.size + 1 + 1) 132 _ _ _ rfl (blk2 w _ _ _) Tryz.underlying132 rfl (by kernel_rfl)) rfl ⟨rfl, rfl⟩

/-- The claim with each end that grew beyond what it was let go, of the registers below k. -/
def letK (c d : Cl) : Nat → Cl
  | 0 => c
  | k + 1 => if c.has k && d.has k then (letK c d k).with_ k (letLo ((letK c d k).lo k) (d.lo k)) (letHi ((letK c d k).hi k) (d.hi k)) else letK c d k
theorem letK_has (c d : Cl) : ∀ k j, (letK c d k).has j = c.has j
  | 0, _ => rfl
  | k + 1, j => by
    unfold letK
    split
    · rename_i h
      have hk : c.has k = true := by simp at h; exact h.1
      show (if j = k then true else (letK c d k).has j) = c.has j
      split
      · rename_i e; rw [e, hk]
      · exact letK_has c d k j
    · exact letK_has c d k j
theorem letK_yes (c d : Cl) (k : Nat) (h1 : c.has k = true) (h2 : d.has k = true) : letK c d (k + 1) = (letK c d k).with_ k (letLo ((letK c d k).lo k) (d.lo k)) (letHi ((letK c d k).hi k) (d.hi k)) := by
  conv => lhs; unfold letK
  simp [h1, h2]
theorem letK_no (c d : Cl) (k : Nat) (h : c.has k = false ∨ d.has k = false) : letK c d (k + 1) = letK c d k := by
  conv => lhs; unfold letK
  rcases h with h | h <;> simp [h]
theorem cl_set (c : Cl) (r : Nat) (h : r < 8) (hh : c.has r = true) (a b : Int) : ((clCells c).setIfInBounds (9 + r * 2) (.int .i64 a)).setIfInBounds (9 + r * 2 + 1) (.int .i64 b) = clCells (c.with_ r a b) := by
  rw [← cl_with c r h a b]
  congr 2
  have := cl_has c r h
  rw [hh] at this
  apply Array.ext_getElem?
  intro j
  rw [Array.getElem?_setIfInBounds]
  by_cases e : 1 + r = j
  · subst e
    rw [this, if_pos rfl, if_pos (by rw [cl_size]; omega)]
  · rw [if_neg e]

/-- The second claim handed in. -/
def CB (w : World) (d : Cl) (W : World) : Prop := W.heap[w.heap.size + 1]? = some (clB d) ∧ Below w.heap.size w W ∧ w.heap.size + 3 ≤ W.heap.size
theorem CC.cb {w W : World} {c d : Cl} (h : CC w c d W) : CB w d W := ⟨h.B, h.b, h.s⟩
theorem CB.cc {w W : World} {c d : Cl} (h : CB w d W) (hA : W.heap[w.heap.size]? = some (clB c)) : CC w c d W := ⟨hA, h.1, h.2.1, h.2.2⟩

set_option maxRecDepth 100000 in
set_option maxHeartbeats 2000000 in
theorem LetGo_any (c d : Cl) (w : World) : Calls Tryz.prog 215 #[.agg (clCells c), .agg (clCells d)] w fun e w' => e = .returned (.agg (clCells (letK c d 8))) ∧ Below w.heap.size w w' := by
  have hcc0 := cc_mk w c d (clB clNone)
  have hz0 := blk2 w (clB c) (clB d) (clB clNone)
  have HC2 := hide hcc0
  have HZ2 := hide hz0
  clear hcc0 hz0
  have k1 : (clCells c)[1]? = some (.bool (c.has 0)) := rfl
  have k2 : (clCells c)[1 + 1]? = some (.bool (c.has 1)) := rfl
  have k3 : (clCells c)[1 + 2]? = some (.bool (c.has 2)) := rfl
  have k4 : (clCells c)[1 + 3]? = some (.bool (c.has 3)) := rfl
  have k5 : (clCells c)[1 + 4]? = some (.bool (c.has 4)) := rfl
  have k6 : (clCells c)[1 + 5]? = some (.bool (c.has 5)) := rfl
  have k7 : (clCells c)[1 + 6]? = some (.bool (c.has 6)) := rfl
  have k8 : (clCells c)[1 + 7]? = some (.bool (c.has 7)) := rfl
  go_enter Tryz.func215, Tryz.ntmps215
  go_wp2_with fail
  clear k1 k2 k3 k4 k5 k6 k7 k8
  go_loopw [9] (fun iv w' => ∃ k : Nat, k ≤ 8 ∧ iv = .int .i64 k ∧ CC w (letK c d k) d w' ∧ w'.heap[w.heap.size + 1 + 1]? = some (clB clNone)) (fun iv _ => 8 - (intOf iv).toNat)
  case atStart => exact ⟨0, by omega, rfl, HC2.out, HZ2.out⟩
  case round =>
    clear HC2 HZ2
    obtain ⟨k, hk8, rfl, hcc3, hz3⟩ := hrel
    have HC3 := hide hcc3
    have HZ3 := hide hz3
    clear hcc3 hz3
    by_cases hk : k < 8
    · have hkI : (k : Int) < 8 := by omega
      have hidx := index8 c.has wr k hk
      have dk : wr.cell? ⟨w.heap.size + 1, 1 + k, none⟩ = some (.bool (d.has k)) := (cell_of_blk HC3.out.B (1 + k)).trans (cl_has d k hk)
      cases hck : c.has k with
      | true =>
        rw [hck] at hidx
        cases hdk : d.has k with
        | true =>
          rw [hdk] at dk
          have HJ1 := hide (letK_yes c d k hck hdk)
          have hhas : (letK c d k).has k = true := by rw [letK_has]; exact hck
          go_wp2_with fail
          refine wp_region_held (S := CB w d) mixed ?_
          have hb0 : Below wr.heap.size wr { wr with drawn := wr.drawn + 1 } := (Below.refl _ _).drew
          generalize ({ wr with drawn := wr.drawn + 1 } : World) = w0 at *
          have HC0 := hide (HC3.out.below hb0)
          have HS0 := hide HC0.out.cb
          have HZ0 := hide ((hb0.block _ (blk_lt HZ3.out)).trans HZ3.out)
          clear hb0 hidx dk
          refine held_take (i := 0) (some 20) rfl rfl (by kernel_rfl) (by kernel_rfl) (by kernel_rfl) (fun _ _ _ h => h) (.inl ⟨by kernel_rfl, fun w' h => by go_simp; rfl⟩) HS0.out ?_
          simp only [Act.put, List.setIfInBounds_toArray, List.set_cons_zero, List.set_cons_succ]
          refine held_take (i := 1) (some 21) rfl rfl (by kernel_rfl) (by kernel_rfl) (by kernel_rfl) (fun _ _ _ h => h) (.inl ⟨by kernel_rfl, fun w' h => by go_simp; rfl⟩) HS0.out ?_
          simp only [Act.put, List.setIfInBounds_toArray, List.set_cons_zero, List.set_cons_succ]
          refine held_take (i := 2) (some 22) rfl rfl (by kernel_rfl) (by kernel_rfl) (by kernel_rfl) (fun _ _ _ h => h) (.inl ⟨by kernel_rfl, fun w' h => by go_simp; rfl⟩) HS0.out ?_
          simp only [Act.put, List.setIfInBounds_toArray, List.set_cons_zero, List.set_cons_succ]
          refine held_take (i := 3) (some 23) rfl rfl (by kernel_rfl) (by kernel_rfl) (by kernel_rfl) (fun _ _ _ h => h) (.inl ⟨by kernel_rfl, fun w' h => by go_simp; rfl⟩) HS0.out ?_
          simp only [Act.put, List.setIfInBounds_toArray, List.set_cons_zero, List.set_cons_succ]
          refine held_take (i := 5) (some 25) rfl rfl (by kernel_rfl) (by kernel_rfl) (by kernel_rfl) (fun _ _ _ h => h) (.inl ⟨by kernel_rfl, fun w' h => by go_simp; rfl⟩) HS0.out ?_
          simp only [Act.put, List.setIfInBounds_toArray, List.set_cons_zero, List.set_cons_succ]
          refine held_take (i := 6) (some 26) rfl rfl (by kernel_rfl) (by kernel_rfl) (by kernel_rfl) (fun _ _ _ h => h) (.inl ⟨by kernel_rfl, fun w' h => by go_simp; rfl⟩) HS0.out ?_
          simp only [Act.put, List.setIfInBounds_toArray, List.set_cons_zero, List.set_cons_succ]
          refine held_take (i := 7) (some 27) rfl rfl (by kernel_rfl) (by kernel_rfl) (by kernel_rfl) (fun _ _ _ h => h) (.inl ⟨by kernel_rfl, fun w' h => by go_simp; rfl⟩) HS0.out ?_
          simp only [Act.put, List.setIfInBounds_toArray, List.set_cons_zero, List.set_cons_succ]
          refine held_take (i := 8) (some 28) rfl rfl (by kernel_rfl) (by kernel_rfl) (by kernel_rfl) (fun _ _ _ h => h) (.inl ⟨by kernel_rfl, fun w' h => by have hc := (cell_of_blk h.1 (9 + k * 2)).trans (cl_lo d k hk); have hd := (cell_of_blk h.1 (9 + k * 2 + 1)).trans (cl_hi d k hk); go_simp; rfl⟩) HS0.out ?_
          simp only [Act.put, List.setIfInBounds_toArray, List.set_cons_zero, List.set_cons_succ]
          refine held_take (i := 10) (some 30) rfl rfl (by kernel_rfl) (by kernel_rfl) (by kernel_rfl) (fun _ _ _ h => h) (.inl ⟨by kernel_rfl, fun w' h => by go_simp; rfl⟩) HS0.out ?_
          simp only [Act.put, List.setIfInBounds_toArray, List.set_cons_zero, List.set_cons_succ]
          have a0 := (cell_of_blk HC0.out.A (9 + k * 2)).trans (cl_lo (letK c d k) k hk)
          have a1 := (cell_of_blk HC0.out.A (9 + k * 2 + 1)).trans (cl_hi (letK c d k) k hk)
          refine held_val (i := 4) (some 24) (by kernel_rfl) rfl rfl (by kernel_rfl) (by go_simp; rfl) HS0.out ?_
          simp only [Act.put, List.setIfInBounds_toArray, List.set_cons_zero, List.set_cons_succ]
          clear a0 a1
          refine held_call (i := 9) (some 29) (by kernel_rfl) rfl rfl (by kernel_rfl) (by go_simp; exact ⟨rfl, rfl⟩) ?_
          refine (sletGo_any _ _ _ _ _).mono ?_
          rintro e w8 ⟨rfl, hw8⟩
          have hb8 : Below w0.heap.size w0 w8 := by rw [hw8]; exact (((Below.refl _ _).alloc (Nat.le_refl _) _).alloc (by simp) _).alloc (by simp; omega) _
          have HC8 := hide (HC0.out.below hb8)
          have HZ8 := hide ((hb8.block _ (blk_lt HZ0.out)).trans HZ0.out)
          clear hb8 hw8
          refine ⟨_, rfl, HC8.out.cb, ?_⟩
          simp only [Act.put, List.setIfInBounds_toArray, List.set_cons_zero, List.set_cons_succ]
          refine held_take (i := 11) (some 31) rfl rfl (by kernel_rfl) (by kernel_rfl) (by kernel_rfl) (fun _ _ _ h => h) (.inl ⟨by kernel_rfl, fun w' h => by go_simp; rfl⟩) HC8.out.cb ?_
          simp only [Act.put, List.setIfInBounds_toArray, List.set_cons_zero, List.set_cons_succ]
          have a0 := (cell_of_blk HC8.out.A (9 + k * 2)).trans (cl_lo (letK c d k) k hk)
          have a1 := (cell_of_blk HC8.out.A (9 + k * 2 + 1)).trans (cl_hi (letK c d k) k hk)
          have fr := frozen_of_blk HC8.out.A
          have hA : ((w8.setCell ⟨w.heap.size, 9 + k * 2, none⟩ (.int .i64 (letLo ((letK c d k).lo k) (d.lo k)))).setCell ⟨w.heap.size, 9 + k * 2 + 1, none⟩ (.int .i64 (letHi ((letK c d k).hi k) (d.hi k)))).heap[w.heap.size]? = some (clB (letK c d (k + 1))) := by
            have := blk_setCell (blk_setCell HC8.out.A (9 + k * 2) (.int .i64 (letLo ((letK c d k).lo k) (d.lo k)))) (9 + k * 2 + 1) (.int .i64 (letHi ((letK c d k).hi k) (d.hi k)))
            rw [cl_set (letK c d k) k hk hhas, ← HJ1.out] at this
            exact this
          have hB : CB w d ((w8.setCell ⟨w.heap.size, 9 + k * 2, none⟩ (.int .i64 (letLo ((letK c d k).lo k) (d.lo k)))).setCell ⟨w.heap.size, 9 + k * 2 + 1, none⟩ (.int .i64 (letHi ((letK c d k).hi k) (d.hi k)))) := by
            refine ⟨?_, (HC8.out.b.setCell (p := ⟨w.heap.size, _, none⟩) (Nat.le_refl _) _).setCell (p := ⟨w.heap.size, _, none⟩) (Nat.le_refl _) _, by simpa using HC8.out.s⟩
            rw [Below.heap_setCell _ _ _ _ (by show w.heap.size + 1 ≠ w.heap.size; omega), Below.heap_setCell _ _ _ _ (by show w.heap.size + 1 ≠ w.heap.size; omega)]
            exact HC8.out.B
          have hZ : ((w8.setCell ⟨w.heap.size, 9 + k * 2, none⟩ (.int .i64 (letLo ((letK c d k).lo k) (d.lo k)))).setCell ⟨w.heap.size, 9 + k * 2 + 1, none⟩ (.int .i64 (letHi ((letK c d k).hi k) (d.hi k)))).heap[w.heap.size + 1 + 1]? = some (clB clNone) := by
            rw [Below.heap_setCell _ _ _ _ (by show w.heap.size + 1 + 1 ≠ w.heap.size; omega), Below.heap_setCell _ _ _ _ (by show w.heap.size + 1 + 1 ≠ w.heap.size; omega)]
            exact HZ8.out
          have HA9 := hide hA
          have HB9 := hide hB
          have HZ9 := hide hZ
          clear hA hB hZ
          refine held_skip (i := 12) (by kernel_rfl) rfl (by kernel_rfl) (by go_simp) HB9.out ?_
          clear a0 a1 fr
          generalize (w8.setCell ⟨w.heap.size, 9 + k * 2, none⟩ (.int .i64 (letLo ((letK c d k).lo k) (d.lo k)))).setCell ⟨w.heap.size, 9 + k * 2 + 1, none⟩ (.int .i64 (letHi ((letK c d k).hi k) (d.hi k))) = w9 at *
          refine wpAnyH_done (by kernel_rfl) ?_ _
          go_wp2
          go_roundw
          case rel => exact ⟨k + 1, by omega, by go_num, HB9.out.cc HA9.out, HZ9.out⟩
          case measure => simp [intOf]; omega
        | false =>
          rw [hdk] at dk
          have HJ1 := hide (letK_no c d k (.inr hdk))
          go_wp2
          go_roundw
          case rel => exact ⟨k + 1, by omega, by go_num, by rw [HJ1.out]; exact HC3.out, HZ3.out⟩
          case measure => simp [intOf]; omega
      | false =>
        rw [hck] at hidx
        have HJ1 := hide (letK_no c d k (.inl hck))
        go_wp2
        go_roundw
        case rel => exact ⟨k + 1, by omega, by go_num, by rw [HJ1.out]; exact HC3.out, HZ3.out⟩
        case measure => simp [intOf]; omega
    · obtain rfl : k = 8 := by omega
      go_wp2_with (first | (refine wpList_load_row rfl 135 (.tmp 2) rfl w.heap.size rfl _ _ _ _ HC3.out.A Tryz.underlying135 rfl (by kernel_rfl) ?_) | (refine wpList_storeCl rfl (.tmp 4) (.tmp 33) rfl (w.heap.size + 1 + 1) (clCells (letK c d 8)) _ _ rfl rfl HZ3.out (cl_size _) (cl_size _) (cl_one _) ?_))
      intro w' hw
      have hg : w'.heap[w.heap.size + 1 + 1]? = some (clB (letK c d 8)) := by rw [hw.out]; exact setRow_heap _ _ _ _ _ _ HZ3.out
      have hb : Below w.heap.size w w' := by rw [hw.out]; exact (HC3.out.setRow _ (by omega) _).b
      clear hw
      go_wp2
      exact bodyPost_ret (results_cell_row rfl _ _ (w.heap.size + 1 + 1) 135 _ _ _ rfl hg Tryz.underlying135 rfl (by kernel_rfl)) rfl ⟨rfl, hb⟩

end Go.Proofs.YtngopilbpiplhaaGreatDoor
