/-
  The document's own answer: register, first.
  The document's own answer: the claim of the first line.
  Joining in one pass, as the document's own answer does it: the program's joining and letting go.
-/
import Derived.Test.YtngopilbpiplhaaGreatDoorZClO
namespace Go.Proofs.YtngopilbpiplhaaGreatDoor
open Go.RowKit
set_option linter.unusedVariables false
def rregF (o : Option Nat) : Int := match o with | some r => (r : Int) | none => -1
set_option maxRecDepth 100000 in
set_option maxHeartbeats 2000000 in
theorem rregister_any (s : ByteArray) (w : World) :
    Calls Tryz.prog 207 #[.string s] w fun e w' => e = .returned (.int .i64 (rregF (regF s.data.toList))) ∧ w' = w := by
  by_cases h2 : s.size = 2
  · obtain ⟨a, b, rfl⟩ := two_bytes s h2
    clear h2
    go_enter Tryz.func207, Tryz.ntmps207
    go_wp2
    all_goals go_ret
    all_goals refine ⟨?_, rfl⟩
    all_goals simp only [bget0, bget1] at *
    all_goals first
      | (rw [show regF [a, b] = none from if_neg (by omega)]; rfl)
      | (rw [show regF [a, b] = some (b.toNat - 48) from if_pos (by omega)]; exact congrArg (fun z => Ending.returned (.int .i64 z)) (by show _ = ((b.toNat - 48 : Nat) : Int); omega))
  · have h2' : ((s.size : Int) == 2) = false := by rw [beq_eq_false_iff_ne]; omega
    have hn : regF s.data.toList = none := by
      unfold regF
      split
      · rename_i a b e
        exact absurd (show s.size = 2 by rw [Lib.size_eq, e]; rfl) h2
      · rfl
    have HN := hide hn
    clear hn
    go_enter Tryz.func207, Tryz.ntmps207
    go_wp2
    all_goals go_ret
    all_goals exact ⟨by rw [unhide HN]; rfl, rfl⟩
end Go.Proofs.YtngopilbpiplhaaGreatDoor

namespace Go.Proofs.YtngopilbpiplhaaGreatDoor
open Go.RowKit
set_option linter.unusedVariables false
set_option maxRecDepth 100000 in
set_option maxHeartbeats 2000000 in
theorem rfirst_any (w : World) : Calls Tryz.prog 112 #[] w fun e w' => e = .returned (.agg (rcCells clStart)) ∧ Below w.heap.size w w' := by
  have hC : ((w.alloc (rcB clNone)).alloc (rcB clNone)).heap[w.heap.size + 1]? = some (rcB clNone) := heap_alloc2_new w _ _
  have HC := hide hC
  clear hC
  go_enter Tryz.func112, Tryz.ntmps112
  go_wp2_with (refine wpList_storeRw rfl 181 (.tmp 1) (.tmp 2) rfl (w.heap.size + 1) (rcCells clNone) (rcCells clNone) rfl rfl HC.out (by kernel_rfl) rfl (rc_one _) ?_)
  intro v hv
  have hg : v.heap[w.heap.size + 1]? = some (rcB clNone) := by rw [hv.out]; exact setRow_heap _ _ _ _ _ _ HC.out
  have hg0 : v.heap[w.heap.size]? = some (rcB clNone) := by
    rw [hv.out]
    exact ((keep_setRow' (w.heap.size + 1) (w.heap.size + 1) ((w.alloc (rcB clNone)).alloc (rcB clNone)) (rcCells clNone)).block w.heap.size (by omega) (by omega)).trans (blk_alloc (blk_new w _) _)
  have hb : Below w.heap.size w v := by
    rw [hv.out]
    exact (((Below.refl _ _).alloc (Nat.le_refl _) _).alloc (by simp) _).trans ((keep_setRow' w.heap.size _ _ _).below (by omega))
  clear hv HC
  have c1 : v.cell? ⟨w.heap.size + 1, 1, none⟩ = some (.bool false) := cell_of_blk hg 1
  have c2 : v.cell? ⟨w.heap.size + 1, 17, none⟩ = some (.int .i64 0) := cell_of_blk hg 17
  have fz := frozen_of_blk hg
  have hst : ((rcCells clNone).setIfInBounds 1 (.bool true)).setIfInBounds 17 (.int .i64 64) = rcCells clStart := rfl
  have HA : Hid (((v.setCell ⟨w.heap.size + 1, 1, none⟩ (.bool true)).setCell ⟨w.heap.size + 1, 17, none⟩ (.int .i64 64)).heap[w.heap.size + 1]? = some (rcB clStart)) := hide (blk_setCell (blk_setCell hg 1 _) 17 _)
  have HZ : Hid (((v.setCell ⟨w.heap.size + 1, 1, none⟩ (.bool true)).setCell ⟨w.heap.size + 1, 17, none⟩ (.int .i64 64)).heap[w.heap.size]? = some (rcB clNone)) := hide (by
    have k := ((Keep.refl (w.heap.size + 1) (w.heap.size + 1) v).setb _ _ 1 (.bool true)).setb _ _ 17 (.int .i64 64)
    rw [k.block w.heap.size (by omega) (by omega)]
    exact hg0)
  have HB : Hid (Below w.heap.size w ((v.setCell ⟨w.heap.size + 1, 1, none⟩ (.bool true)).setCell ⟨w.heap.size + 1, 17, none⟩ (.int .i64 64))) := hide ((hb.setCell (p := ⟨w.heap.size + 1, 1, none⟩) (by show w.heap.size ≤ w.heap.size + 1; omega) _).setCell (p := ⟨w.heap.size + 1, 17, none⟩) (by show w.heap.size ≤ w.heap.size + 1; omega) _)
  clear hg hg0 hb hst
  go_wp2_with (first | (refine wpList_load_row rfl 181 (.tmp 1) rfl (w.heap.size + 1) rfl _ _ _ _ HA.out Tryz.underlying181 rfl (by kernel_rfl) ?_) | (refine wpList_storeRw rfl 181 (.tmp 0) (.tmp 7) rfl w.heap.size (rcCells clStart) (rcCells clNone) rfl rfl HZ.out (by kernel_rfl) rfl (rc_one _) ?_))
  intro u hu
  have hg : u.heap[w.heap.size]? = some (rcB clStart) := by rw [hu.out]; exact setRow_heap _ _ _ _ _ _ HZ.out
  have hb : Below w.heap.size w u := by rw [hu.out]; exact HB.out.trans ((keep_setRow' w.heap.size _ _ _).below (by omega))
  clear hu HA HZ HB c1 c2 fz
  go_wp2
  exact bodyPost_ret (results_cell_row rfl _ _ w.heap.size 181 _ _ _ rfl hg Tryz.underlying181 rfl (by kernel_rfl)) rfl ⟨rfl, hb⟩
end Go.Proofs.YtngopilbpiplhaaGreatDoor

namespace Go.Proofs.YtngopilbpiplhaaGreatDoor
open Go.RowKit
set_option linter.unusedVariables false
def jnLo (b : Bool) (x y : Int) : Int := if y < x then (if b then -9223372036854775808 else y) else x
def jnHi (b : Bool) (x y : Int) : Int := if x < y then (if b then 9223372036854775807 else y) else x
theorem jnLo_true (x y : Int) : jnLo true x y = if y < x then -9223372036854775808 else x := by unfold jnLo; rw [if_pos rfl]
theorem jnHi_true (x y : Int) : jnHi true x y = if x < y then 9223372036854775807 else x := by unfold jnHi; rw [if_pos rfl]
def jnK (b : Bool) (c d : Cl) : Nat → Cl
  | 0 => clNone
  | k + 1 => if c.has k && d.has k then (jnK b c d k).with_ k (jnLo b (c.lo k) (d.lo k)) (jnHi b (c.hi k) (d.hi k)) else jnK b c d k
def jnF (b : Bool) (c d : Cl) : Cl := if c.never then d else if d.never then c else jnK b c d 8
theorem jnK_at (b : Bool) (c d : Cl) : ∀ n k, (jnK b c d n).never = false ∧ (jnK b c d n).has k = (decide (k < n) && c.has k && d.has k) ∧
    ((decide (k < n) && c.has k && d.has k) = true → (jnK b c d n).lo k = jnLo b (c.lo k) (d.lo k) ∧ (jnK b c d n).hi k = jnHi b (c.hi k) (d.hi k)) ∧
    ((decide (k < n) && c.has k && d.has k) = false → (jnK b c d n).lo k = 0 ∧ (jnK b c d n).hi k = 0)
  | 0, k => by refine ⟨rfl, ?_, fun h => ?_, fun _ => ⟨rfl, rfl⟩⟩ <;> simp [jnK, clNone] at *
  | n + 1, k => by
    obtain ⟨i0, i1, i2, i3⟩ := jnK_at b c d n k
    unfold jnK
    by_cases hb : (c.has n && d.has n) = true
    · rw [if_pos hb]
      refine ⟨i0, ?_, fun h => ?_, fun h => ?_⟩
      · rw [with_has]
        by_cases e : k = n
        · subst e; simp at hb; simp [hb]
        · rw [if_neg e, i1]; congr 2; simp; omega
      · rw [with_lo, with_hi]
        by_cases e : k = n
        · subst e; simp
        · rw [if_neg e, if_neg e]
          refine i2 ?_
          simp at h ⊢
          exact ⟨⟨by omega, h.1.2⟩, h.2⟩
      · rw [with_lo, with_hi]
        by_cases e : k = n
        · subst e
          rw [Bool.and_assoc, hb] at h
          simp at h
        · rw [if_neg e, if_neg e]
          refine i3 ?_
          rw [show decide (k < n) = decide (k < n + 1) from by simp; omega]
          exact h
    · rw [if_neg hb]
      have e1 : (decide (k < n + 1) && c.has k && d.has k) = (decide (k < n) && c.has k && d.has k) := by
        by_cases e : k = n
        · subst e
          rw [Bool.and_assoc, Bool.and_assoc, Bool.eq_false_iff.2 hb]
          simp
        · congr 2; simp; omega
      rw [e1]
      exact ⟨i0, i1, i2, i3⟩
theorem jnF_no (c d : Cl) : jnF false c d = joinF c d := by
  unfold jnF joinF
  split
  · rfl
  · split
    · rfl
    · refine Cl.ext' ((jnK_at false c d 8 0).1.trans (joinK_at c d 8 0).1.symm) fun k => ?_
      obtain ⟨_, i1, i2, i3⟩ := jnK_at false c d 8 k
      obtain ⟨_, j1, j2, j3⟩ := joinK_at c d 8 k
      refine ⟨i1.trans j1.symm, ?_⟩
      cases h : (decide (k < 8) && c.has k && d.has k) with
      | true =>
        have i2 := i2 h
        have j2 := j2 h
        rw [i2.1, i2.2, j2.1, j2.2]
        unfold jnLo jnHi
        constructor <;> (split <;> (try simp) <;> omega)
      | false =>
        have i3 := i3 h
        have j3 := j3 h
        exact ⟨i3.1.trans j3.1.symm, i3.2.trans j3.2.symm⟩
theorem jnF_yes {c d : Cl} (hd : d.never = false) (hc : c.never = true → ∀ k, c.has k = false) : jnF true c d = letK (joinF c d) c 8 := by
  cases hn : c.never with
  | true =>
    have e1 : jnF true c d = d := by unfold jnF; rw [hn]; rfl
    have e2 : joinF c d = d := by unfold joinF; rw [hn]; rfl
    rw [e1, e2]
    refine Cl.ext' (letK_at d c 8 0).1.symm fun k => ?_
    obtain ⟨_, l1, l2, l3⟩ := letK_at d c 8 k
    have h0 := hc hn k
    rw [h0] at l2 l3
    simp at l2 l3
    exact ⟨l1.symm, l2.symm, l3.symm⟩
  | false =>
    have e1 : jnF true c d = jnK true c d 8 := by unfold jnF; rw [hn, hd]; rfl
    have e2 : joinF c d = joinK c d 8 := by unfold joinF; rw [hn, hd]; rfl
    rw [e1, e2]
    refine Cl.ext' ((jnK_at true c d 8 0).1.trans ((letK_at (joinK c d 8) c 8 0).1.trans (joinK_at c d 8 0).1).symm) fun k => ?_
    obtain ⟨_, i1, i2, i3⟩ := jnK_at true c d 8 k
    obtain ⟨_, j1, j2, j3⟩ := joinK_at c d 8 k
    obtain ⟨_, l1, l2, l3⟩ := letK_at (joinK c d 8) c 8 k
    refine ⟨i1.trans (l1.trans j1).symm, ?_⟩
    cases h : (decide (k < 8) && c.has k && d.has k) with
    | true =>
      have i2 := i2 h
      have j2 := j2 h
      rw [h] at j1
      have h' := h
      simp at h'
      rw [if_pos (by rw [j1]; simp [h'])] at l2 l3
      rw [i2.1, i2.2, l2, l3, j2.1, j2.2, jnLo_true, jnHi_true]
      unfold letLo letHi
      refine ⟨?_, ?_⟩
      · split <;> split <;> omega
      · split <;> split <;> omega
    | false =>
      have i3 := i3 h
      have j3 := j3 h
      rw [h] at j1
      rw [if_neg (by rw [j1]; simp)] at l2 l3
      exact ⟨i3.1.trans (l2.trans j3.1).symm, i3.2.trans (l3.trans j3.2).symm⟩
theorem jn_at (from_ to_ : Nat) {c d : Cl} (n : Int) (hd : d.never = false) (hc : c.never = true → ∀ k, c.has k = false) : jnF (decide (6 < n) && decide (to_ ≤ from_)) c d = joinAt from_ to_ c d n := by
  unfold joinAt
  by_cases h : to_ ≤ from_ ∧ 6 < n
  · rw [if_pos h, show (decide (6 < n) && decide (to_ ≤ from_)) = true by simp [h.1, h.2]]
    exact jnF_yes hd hc
  · rw [if_neg h, show (decide (6 < n) && decide (to_ ≤ from_)) = false by simp; omega]
    exact jnF_no c d
end Go.Proofs.YtngopilbpiplhaaGreatDoor
