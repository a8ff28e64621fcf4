/-
  The contract of ward.Run at a program and a fuel that may be: the state of the plain run.
-/
import Derived.Test.YtngopilbpiplhaaGreatDoorRun
import Derived.Test.YtngopilbpiplhaaGreatDoorTable
namespace Go.Proofs.YtngopilbpiplhaaGreatDoor
open Go.RowKit

theorem Good.not_bad {l : List UInt8} (h : Good l) {c p : Int} : ¬ Bad l c p := by
  rintro (⟨h1, _⟩ | ⟨_, i, hi, _, _, h2, _⟩ | ⟨_, _, i, hi, _, _, h2, _⟩ | ⟨_, _, _, _, _, x, hx, h2⟩)
  · rw [h.short] at h1; cases h1
  · have := h.lines _ (List.getElem_mem hi); rw [h2] at this; cases this
  · have := h.jumps _ (List.getElem_mem hi); rw [this] at h2; cases h2
  · rw [h.last x hx] at h2; cases h2

set_option maxHeartbeats 400000 in
theorem isFuel_any (fuel : Nat) (hf : fuel ≤ 3000) (w : World) : Calls Tryz.prog 33 #[.int .i64 (fuel : Int)] w fun e w' => e = .returned (.bool true) ∧ w' = w := by
  have h0 : (0 : Int) ≤ (fuel : Int) := by omega
  have h1 : (fuel : Int) ≤ 3000 := by omega
  go_enter Tryz.func33, Tryz.ntmps33
  go_wp2
  go_ret
  exact ⟨rfl, rfl⟩

set_option maxRecDepth 100000 in
set_option maxHeartbeats 4000000 in
theorem wRun_any (l input : List UInt8) (fuel : Nat) (w : World) (hl : l.length ≤ 281474976710656) (hf : fuel ≤ 3000) (hgood : Good l) (hok : ∀ k (h : k < (progF l).length), LineOk (progF l).length k (progF l)[k])
    (hlen : (progF l).length ≤ 100) (hpos : 0 < (progF l).length) (hg : Glob w) (hp : PowT w) :
    Calls Tryz.prog 14 #[.string ⟨l.toArray⟩, .string ⟨input.toArray⟩, .int .i64 (fuel : Int)] w
      fun e w' => e = .returned (.tuple #[.agg (stCells (runOf (progF l) input fuel).1 (runOf (progF l) input fuel).2), .int .i64 0, .int .i64 0]) ∧ Below w.heap.size w w' := by
  have HG := hide hg
  have HP := hide hp
  have hg8 := hg.size
  have HOK := hide hok
  have hb1 : ∀ o : Obj, Below w.heap.size w (w.alloc o) := fun o => (Below.refl _ _).alloc (Nat.le_refl _) o
  have hf0 : ¬ (fuel : Int) < 0 := by omega
  have hf1 : ¬ (3000 : Int) < (fuel : Int) := by omega
  clear hg hp hok
  go_enter Tryz.func14, Tryz.ntmps14
  go_wp2_with fail
  refine (Rows_any _).mono ?_
  rintro e w1 ⟨rfl, ht1, hs1, hbr⟩
  simp only [World.size_alloc] at ht1 hs1 hbr ⊢
  have hq1 : w1.heap[w.heap.size]? = some (.cells zState 32) := (hbr.block _ (by omega)).trans (blk_new w _)
  have hb01 : Below w.heap.size w w1 := (hb1 _).trans (hbr.mono (by omega))
  have HT1 := hide ht1
  have HQ1 := hide hq1
  clear ht1 hq1 hb1 hbr
  go_wp2_with fail
  refine (Read_any l (w.heap.size + 1) w1 hl (HG.out.below hb01 hg8) HT1.out.rows).mono ?_
  rintro e w2 ⟨hres, hb2⟩
  rcases hres with ⟨g, cap, rfl, _, hcap, hge, hL⟩ | ⟨c, p, _, hbad⟩
  · have hb02 : Below w.heap.size w w2 := hb01.trans (hb2.mono (by omega))
    have ht2 : Table (w.heap.size + 1) w2 := HT1.out.mono fun k _ hk => hb2.block k (by omega)
    have hq2 : w2.heap[w.heap.size]? = some (.cells zState 32) := (hb2.block _ (by omega)).trans HQ1.out
    have hsz2 := hb2.size
    have hglt := hL.lt
    have HT2 := hide ht2
    have HQ2 := hide hq2
    have HL2 := hide hL
    clear ht2 hq2 hL
    generalize hxs : progF l = xs at *
    have HXS := hide hxs
    clear hxs
    go_wp2_with fail
    refine (isFuel_any fuel hf w2).mono ?_
    rintro e w2' ⟨rfl, rfl⟩
    go_wp2_with fail
    refine (New_any input w2').mono ?_
    rintro e wn ⟨rfl, hmn, hbn⟩
    have hszn := hmn.lt
    go_wp2_with fail
    refine (Run_any (w.heap.size + 1) g cap w2'.heap.size xs _ fuel wn hf hlen hpos HOK.out (HT2.out.mono fun k _ hk => hbn.block k (by omega)) (by omega) (HL2.out.mono (hbn.block _ hglt)) (by omega) (by omega) hszn hmn (start_out input) (start_okm input) rfl rfl (HP.out.mono ((hbn.block _ (by omega)).trans (hb02.block _ (by omega))))).mono ?_
    rintro e w3 ⟨he, hk3, _⟩
    obtain rfl : e = .returned (.agg (stCells (runOf xs input fuel).1 (runOf xs input fuel).2)) := he
    have hb3 : Below w2'.heap.size w2' w3 := hbn.trans ((hk3.mono (by omega)).below (Nat.le_refl _))
    have hq3 : w3.heap[w.heap.size]? = some (.cells zState 32) := (hb3.block _ (by omega)).trans HQ2.out
    have hb03 : Below w.heap.size w w3 := hb02.trans (hb3.mono (by omega))
    have HQ3 := hide hq3
    clear hq3
    go_wp2_with (refine wpList_plain rfl fun _ hK => wp_store_row 32 (.tmp 6) (.tmp 35) rfl w.heap.size (stCells (runOf xs input fuel).1 (runOf xs input fuel).2) rfl rfl _ _ HQ3.out (by kernel_rfl) rfl (st_one _ _) (hK _ _ ?_))
    have hst := setRow_heap w3 w.heap.size _ (stCells (runOf xs input fuel).1 (runOf xs input fuel).2) _ _ HQ3.out
    have hload : (loadVar 32 ⟨w.heap.size, 0, none⟩).run Tryz.prog (w3.setRow w.heap.size (stCells (runOf xs input fuel).1 (runOf xs input fuel).2)) = .ok (.agg (stCells (runOf xs input fuel).1 (runOf xs input fuel).2)) (w3.setRow w.heap.size (stCells (runOf xs input fuel).1 (runOf xs input fuel).2)) := run_loadVar_row _ w.heap.size _ 32 _ _ _ hst Tryz.underlying32 (by kernel_rfl) (by kernel_rfl)
    have hb4 : Below w.heap.size w (w3.setRow w.heap.size (stCells (runOf xs input fuel).1 (runOf xs input fuel).2)) := hb03.trans ((keep_setRow w.heap.size w.heap.size w3 _).below (Nat.le_refl _))
    exact bodyPost_ret (v := .tuple #[.agg (stCells (runOf xs input fuel).1 (runOf xs input fuel).2), .int .i64 0, .int .i64 0]) (by simp [results, Tryz.results14, asAddr, hload]) rfl ⟨by rw [HXS.out], hb4⟩
  · exact absurd hbad hgood.not_bad

end Go.Proofs.YtngopilbpiplhaaGreatDoor
