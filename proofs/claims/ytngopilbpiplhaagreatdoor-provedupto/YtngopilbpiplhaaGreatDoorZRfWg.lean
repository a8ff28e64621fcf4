/-
  The document's own answer: the ways out of jeq.
-/
import Derived.Test.YtngopilbpiplhaaGreatDoorZRfX
import Derived.Deep.Cut
namespace Go.Proofs.YtngopilbpiplhaaGreatDoor
open Go.RowKit
set_option linter.unusedVariables false
set_option linter.unusedSimpArgs false
set_option maxRecDepth 100000 in
set_option maxHeartbeats 8000000 in
theorem rways_15tf (c : Cl) (r s : Nat) (hr : r < 8) (hs : s < 8) (n l : Int) (at_ : Nat) (hat : at_ < 1000) (hrs : r ≠ s) (q1 : ¬ (c.lo r = c.hi r ∧ c.lo s = c.hi s ∧ c.lo r = c.lo s)) (q2 : ¬ max (c.lo r) (c.lo s) ≤ min (c.hi r) (c.hi s)) (w : World) : Calls Tryz.prog 114 #[.agg (rcCells c), .agg (rlCells 15 r s n l), .int .i64 (at_ : Int)] w fun e w' => ∃ v, e = .returned v ∧ w'.ownsRow (w.heap.size + 2) 190 26 v ([((at_ : Int) + 1, c)]).length (wyL ([((at_ : Int) + 1, c)])) ∧ Below w.heap.size w w' := by
  have hrI : (r : Int) < 8 := by omega
  have hsI : (s : Int) < 8 := by omega
  have h1 := rc_lo c r hr
  have h2 := rc_hi c r hr
  have h3 := rc_lo c s hs
  have h4 := rc_hi c s hs
  have H0 := rl_mk w c 15 r s n l
  have hrs : ((r : Int) == (s : Int)) = false := by rw [beq_eq_false_iff_ne]; omega
  have m1 : ¬ max (c.lo r) (c.lo s) ≤ min (c.hi r) (c.hi s) := q2
  clear q2
  have hcs : ((c.lo r != c.hi r) = true) ∨ ((c.lo r != c.hi r) = false ∧ (c.lo s != c.hi s) = true) ∨ ((c.lo r != c.hi r) = false ∧ (c.lo s != c.hi s) = false ∧ (c.lo r != c.lo s) = true) := by
    by_cases z1 : c.lo r = c.hi r
    · by_cases z2 : c.lo s = c.hi s
      · exact .inr (.inr ⟨by simpa using z1, by simpa using z2, by rw [bne_iff_ne]; intro z3; exact q1 ⟨z1, z2, z3⟩⟩)
      · exact .inr (.inl ⟨by simpa using z1, by rw [bne_iff_ne]; exact z2⟩)
    · exact .inl (by rw [bne_iff_ne]; exact z1)
  clear q1
  rcases hcs with z1 | ⟨z1, z2⟩ | ⟨z1, z2, z3⟩
  all_goals
    show Calls Tryz.prog 114 #[.agg (rcCells c), .agg #[.string ⟨#[106, 101, 113]⟩, .int .i64 r, .int .i64 s, .int .i64 n, .int .i64 l], .int .i64 (at_ : Int)] w _
    go_enter Tryz.func114, Tryz.ntmps114
    have HR0 := hide H0
    go_wp2_with (first | (refine wpList_load_row rfl 181 (.tmp 3) rfl (w.heap.size) rfl _ _ _ _ HR0.out.A Tryz.underlying181 rfl (by kernel_rfl) ?_) | (refine wpList_buildWy rfl (.tmp 163) (.tmp 164) ((at_ : Int) + 1) (c) rfl rfl rfl ?_) | (refine wpList_buildSliceWy rfl (.tmp 165) ((at_ : Int) + 1) (c) rfl rfl ?_))
    intro wb hwb
    have HRb : Hid (RL w c 15 r s n l wb) := hide (by rw [hwb.out]; exact HR0.out.alloc _)
    have HNb : Hid (wb.heap[w.heap.size + 1 + 1]? = some (.cells (wyC ((at_ : Int) + 1) (c)).toArray 190)) := hide (by rw [hwb.out]; have hq := blk_new ((w.alloc (rcB c)).alloc (rlB 15 r s n l)) (.cells (wyC ((at_ : Int) + 1) (c)).toArray 190); rw [World.size_alloc, World.size_alloc] at hq; exact hq)
    have HOb : Hid (wb.ownsRow (w.heap.size + 2) 190 26 (.slice none 0 0) 0 ([])) := hide (by rw [hwb.out]; exact ⟨rfl, .inl ⟨rfl, rfl⟩⟩)
    clear hwb
    go_wp2_with (first | (at_builtin; refine wpList_appG rfl (.tmp 161) (.tmp 166) 186 190 (.agg (wyC 0 clNone).toArray) 26 152 rfl infoWy Tryz.underlying186 rfl (by decide) (w.heap.size + 2) _ 0 ([]) rfl HOb (w.heap.size + 1 + 1) (wyC ((at_ : Int) + 1) (c)).toArray 190 rfl HNb.out rfl (wyC_one _ _) (by omega) (by omega) (by have := HRb.out.s; omega) ?_) | go_in)
    intro v2 wy hO2 hG2
    have HR2 := hide (HRb.out.grown HOb.out hG2.out)
    clear hG2 HRb HNb HOb
    clear H0 HR0 h1 h2 h3 h4
    have HRwx := HR2
    have HOwx : Hid (wy.ownsRow (w.heap.size + 2) 190 26 v2 1 ([] ++ wyC ((at_ : Int) + 1) (c))) := hO2
    clear HR2 hO2
    go_wp2_with fail
    refine (most_any (c.lo r) (c.lo s) _).mono ?_
    rintro e wq ⟨rfl, hwq⟩
    obtain rfl := hwq.symm
    clear hwq
    go_wp2_with fail
    refine (least_any (c.hi r) (c.hi s) _).mono ?_
    rintro e wq ⟨rfl, hwq⟩
    obtain rfl := hwq.symm
    clear hwq
    go_wp2
    go_ret
    exact ⟨_, rfl, by have h := HOwx.out; simpa [wyL] using h, HRwx.out.b⟩
end Go.Proofs.YtngopilbpiplhaaGreatDoor
