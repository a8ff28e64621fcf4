/-
  The contract of claims.Start.
  The contracts of slices.Contains over truth values, and of search.count.
  The contract of search.count.
-/
import Derived.Test.YtngopilbpiplhaaGreatDoorZClA
import Derived.Test.YtngopilbpiplhaaGreatDoorZTxt
namespace Go.Proofs.YtngopilbpiplhaaGreatDoor
open Go.RowKit

/-- What is so ahead of line 0. -/
def clStart : Cl := clNone.with_ 0 0 64

set_option maxRecDepth 100000 in
set_option maxHeartbeats 2000000 in
theorem Start_any (w : World) : Calls Tryz.prog 173 #[] w fun e w' => e = .returned (.agg (clCells clStart)) ∧ Below w.heap.size w w' := by
  go_enter Tryz.func173, Tryz.ntmps173
  go_wp2_with fail
  refine (With_any clNone 0 (by omega) 0 64 _).mono ?_
  rintro e w1 ⟨rfl, hw1⟩
  have hz : (w.alloc (clB clNone)).heap[w.heap.size]? = some (clB clNone) := blk_new w _
  have hb0 : Below w.heap.size w (w.alloc (clB clNone)) := (Below.refl _ _).alloc (Nat.le_refl _) _
  have hb1 : Below (w.alloc (clB clNone)).heap.size (w.alloc (clB clNone)) w1 := by rw [hw1]; exact ((((Below.refl _ _).alloc (Nat.le_refl _) _).alloc (by simp) _).alloc (by simp) _).drew
  have hz1 : w1.heap[w.heap.size]? = some (clB clNone) := (hb1.block _ (by simp)).trans hz
  have hbw : Below w.heap.size w w1 := hb0.trans (hb1.mono (by simp))
  have HZ := hide hz1
  clear hw1 hz hb0 hb1 hz1
  go_wp2_with (refine wpList_storeCl rfl (.tmp 0) (.tmp 3) rfl w.heap.size (clCells clStart) _ _ rfl rfl HZ.out rfl (cl_size _) (cl_one _) ?_)
  intro w2 hw2
  have hg : w2.heap[w.heap.size]? = some (clB clStart) := by rw [hw2.out]; exact setRow_heap _ _ _ _ _ _ HZ.out
  have hb : Below w.heap.size w w2 := by rw [hw2.out]; exact hbw.trans ((keep_setRow' w.heap.size _ _ _).below (Nat.le_refl _))
  clear hw2
  go_wp2
  exact bodyPost_ret (results_cell_row rfl _ _ w.heap.size 135 _ _ _ rfl hg Tryz.underlying135 rfl (by kernel_rfl)) rfl ⟨rfl, hb⟩

end Go.Proofs.YtngopilbpiplhaaGreatDoor

namespace Go.Proofs.YtngopilbpiplhaaGreatDoor
open Go.RowKit

theorem any_of {bs : List Bool} {k : Nat} (h : k < bs.length) (hb : bs.getD k false = true) : bs.any id = true := by
  rw [List.any_eq_true]
  refine ⟨bs[k], List.getElem_mem h, ?_⟩
  simpa [List.getD_eq_getElem?_getD, h] using hb
theorem any_none {bs : List Bool} (h : ∀ j, j < bs.length → bs.getD j false = false) : bs.any id = false := by
  rw [List.any_eq_false]
  intro x hx
  obtain ⟨j, hj, e⟩ := List.getElem_of_mem hx
  have := h j hj
  simp [List.getD_eq_getElem?_getD, hj, e] at this
  simp [this]

set_option maxRecDepth 100000 in
set_option maxHeartbeats 2000000 in
theorem Index_any (bs : List Bool) (g cap : Nat) (w : World) (hl : bs.length ≤ 1000) (hc : ∀ j, j < bs.length → w.cell? ⟨g, j, none⟩ = some (.bool (bs.getD j false))) :
    Calls Tryz.prog 190 #[.slice (some ⟨g, 0, none⟩) bs.length cap, .bool true] w fun e w' => ∃ i : Int, e = .returned (.int .i64 i) ∧ decide (0 ≤ i) = bs.any id ∧ w' = w := by
  have HC := hide hc
  clear hc
  go_enter Tryz.func190, Tryz.ntmps190
  go_wp2_with fail
  go_loopw [8] (fun iv w' => ∃ k : Nat, k ≤ bs.length ∧ iv = .int .i64 k ∧ (∀ j, j < k → bs.getD j false = false) ∧ w' = w) (fun iv _ => bs.length - (intOf iv).toNat)
  case atStart => exact ⟨0, by omega, rfl, fun j h => absurd h (by omega), rfl⟩
  case round =>
    obtain ⟨k, hk, rfl, hno, rfl⟩ := hrel
    have HN := hide hno
    clear hno
    by_cases hlt : k < bs.length
    · have hcell := HC.out k hlt
      have hltI : (k : Int) < (bs.length : Int) := by omega
      cases hb : bs.getD k false with
      | true =>
        rw [hb] at hcell
        have HA := hide (any_of hlt hb)
        clear hb
        go_wp2
        go_ret
        exact ⟨_, rfl, by rw [HA.out]; simp, rfl⟩
      | false =>
        rw [hb] at hcell
        have HB := hide hb
        clear hb
        go_wp2
        go_roundw
        case rel =>
          refine ⟨k + 1, by omega, by go_num, fun j hj => ?_, by trivial⟩
          rcases Nat.lt_succ_iff_lt_or_eq.1 hj with h | h
          · exact HN.out j h
          · rw [h]; exact HB.out
        case measure => simp [intOf]; omega
    · obtain rfl : k = bs.length := by omega
      have HA := hide (any_none HN.out)
      go_wp2
      go_ret
      exact ⟨_, rfl, by rw [HA.out]; simp, rfl⟩

set_option maxRecDepth 100000 in
set_option maxHeartbeats 2000000 in
theorem Contains_any (bs : List Bool) (g cap : Nat) (w : World) (hl : bs.length ≤ 1000) (hc : ∀ j, j < bs.length → w.cell? ⟨g, j, none⟩ = some (.bool (bs.getD j false))) :
    Calls Tryz.prog 177 #[.slice (some ⟨g, 0, none⟩) bs.length cap, .bool true] w fun e w' => e = .returned (.bool (bs.any id)) ∧ w' = w := by
  have HI := hide (Index_any bs g cap w hl hc)
  clear hc
  go_enter Tryz.func177, Tryz.ntmps177
  go_wp2_with fail
  refine HI.out.mono ?_
  rintro e w1 ⟨i, rfl, hi, rfl⟩
  have HD := hide hi
  clear hi
  go_wp2
  go_ret
  refine ⟨?_, rfl⟩
  rw [← HD.out]
  rfl

end Go.Proofs.YtngopilbpiplhaaGreatDoor

namespace Go.Proofs.YtngopilbpiplhaaGreatDoor
open Go.RowKit

/-- How often each claim was changed, the lines below k counted. -/
def cntF (bs : List Bool) (ch : Nat → Int) (k : Nat) : Nat → Int := fun j => if j < k ∧ bs.getD j false = true then ch j + 1 else ch j
theorem cntF_yes (bs : List Bool) (ch : Nat → Int) (k : Nat) (h : bs.getD k false = true) : cntF bs ch (k + 1) = upd (cntF bs ch k) k (ch k + 1) := by
  funext j
  unfold cntF upd
  by_cases e : j = k
  · subst e; simp only [Nat.lt_succ_self, h, and_self, if_true]
  · by_cases q : j < k
    · simp only [e, if_false, q, show j < k + 1 by omega, true_and]
    · simp only [e, if_false, q, show ¬ j < k + 1 by omega, false_and]
theorem cntF_no (bs : List Bool) (ch : Nat → Int) (k : Nat) (h : bs.getD k false = false) : cntF bs ch (k + 1) = cntF bs ch k := by
  funext j
  unfold cntF
  by_cases e : j = k
  · subst e; simp only [h, Bool.false_eq_true, and_false, if_false]
  · by_cases q : j < k
    · simp only [q, show j < k + 1 by omega, true_and]
    · simp only [q, show ¬ j < k + 1 by omega, false_and]

set_option maxRecDepth 100000 in
set_option maxHeartbeats 2000000 in
theorem count_any (bs : List Bool) (ch : Nat → Int) (sb cb hb n' cap : Nat) (w : World) (hl : bs.length ≤ 1000) (hch : ∀ j, 0 ≤ ch j ∧ ch j ≤ 1000000) (hne1 : sb ≠ hb) (hne2 : cb ≠ hb)
    (h3 : w.cell? ⟨sb, 3, none⟩ = some (.slice (some ⟨hb, 0, none⟩) bs.length n')) (hB : w.heap[hb]? = some (.cells (arrC bs.length ch) 3)) (hc : ∀ j, j < bs.length → w.cell? ⟨cb, j, none⟩ = some (.bool (bs.getD j false))) :
    Calls Tryz.prog 176 #[.pointer (some ⟨sb, 0, none⟩), .slice (some ⟨cb, 0, none⟩) bs.length cap] w fun e w' => e = .returned (.tuple #[]) ∧ w'.heap[hb]? = some (.cells (arrC bs.length (cntF bs ch bs.length)) 3) ∧ (∀ B, Keep B hb w w') := by
  have HC := hide hc
  have HB := hide hB
  have H3 := hide h3
  have HCH := hide hch
  clear hc hB h3 hch
  go_enter Tryz.func176, Tryz.ntmps176
  go_wp2_with fail
  go_loopw [8] (fun iv w' => ∃ k : Nat, k ≤ bs.length ∧ iv = .int .i64 k ∧ w'.heap[hb]? = some (.cells (arrC bs.length (cntF bs ch k)) 3) ∧ (∀ B, Keep B hb w w')) (fun iv _ => bs.length - (intOf iv).toNat)
  case atStart => exact ⟨0, by omega, rfl, by rw [show cntF bs ch 0 = ch from by funext j; simp [cntF]]; exact HB.out, fun B => Keep.refl B hb w⟩
  case round =>
    obtain ⟨k, hk, rfl, hBk, hkeep⟩ := hrel
    have HBk := hide hBk
    have HK := hide hkeep
    clear hBk hkeep
    by_cases hlt : k < bs.length
    · have hltI : (k : Int) < (bs.length : Int) := by omega
      have hcb : wr.cell? ⟨cb, k, none⟩ = some (.bool (bs.getD k false)) := ((HK.out (cb + 1)).cell (p := ⟨cb, k, none⟩) (by show cb < cb + 1; omega) (by show cb ≠ hb; omega)).trans (HC.out k hlt)
      have hsb : wr.cell? ⟨sb, 3, none⟩ = some (.slice (some ⟨hb, 0, none⟩) bs.length n') := ((HK.out (sb + 1)).cell (p := ⟨sb, 3, none⟩) (by show sb < sb + 1; omega) (by show sb ≠ hb; omega)).trans H3.out
      cases hb2 : bs.getD k false with
      | true =>
        rw [hb2] at hcb
        have hch0 := HCH.out k
        have hck : cntF bs ch k k = ch k := by simp [cntF]
        have hcell : wr.cell? ⟨hb, k, none⟩ = some (.int .i64 (ch k)) := by rw [cell_of_blk HBk.out k, arrC_get _ _ hlt, hck]
        have hfr := frozen_of_blk HBk.out
        have HY := hide (cntF_yes bs ch k hb2)
        clear hb2 hck
        go_wp2
        go_roundw
        case rel =>
          refine ⟨k + 1, by omega, by go_num, ?_, fun B => (HK.out B).setCell (p := ⟨hb, k, none⟩) (.inr rfl) _⟩
          rw [HY.out, ← arrC_set]
          exact blk_setCell HBk.out k _
        case measure => simp [intOf]; omega
      | false =>
        rw [hb2] at hcb
        have HY := hide (cntF_no bs ch k hb2)
        clear hb2
        go_wp2
        go_roundw
        case rel => exact ⟨k + 1, by omega, by go_num, by rw [HY.out]; exact HBk.out, HK.out⟩
        case measure => simp [intOf]; omega
    · obtain rfl : k = bs.length := by omega
      go_wp2
      go_end0
      exact ⟨rfl, HBk.out, HK.out⟩

end Go.Proofs.YtngopilbpiplhaaGreatDoor
