/-
  The contract of runner.Run: the state of the plain run.
  The contract of ward.Run at a program and a fuel that may be: the state of the plain run.
-/
import Derived.Test.YtngopilbpiplhaaGreatDoorZNew
import Derived.Test.YtngopilbpiplhaaGreatDoorZTable
namespace Go.Proofs.YtngopilbpiplhaaGreatDoor
open Go.RowKit

/-- A state of nothing. -/
def zState : Array Value := #[.int .i64 0, .int .i64 0, .int .i64 0, .int .i64 0, .bool false, .int .i64 0, .bool false, .int .i64 0, .bool false, .int .i64 0, .bool false, .int .i64 0, .bool false, .int .i64 0, .bool false, .int .i64 0, .bool false, .int .i64 0, .bool false, .int .i64 0, .string ⟨#[]⟩]
/-- What a run of lines comes to. -/
def runOf (xs : List Ln) (input : List UInt8) (fuel : Nat) : MS × List UInt8 := runF xs fuel ((MS.start input).setR 0 ((min 64 input.length : Nat) : Int), [])

theorem start_okm (l : List UInt8) : Okm ((MS.start l).setR 0 ((min 64 l.length : Nat) : Int)) := by
  refine okm_setR ⟨fun _ => ?_, fun _ => ?_, fun _ => ?_, fun k => ?_⟩ 0 (by omega) (by omega)
  · show (-9223372036854775808 : Int) ≤ 0 ∧ (0 : Int) ≤ 9223372036854775807; omega
  · show (-9223372036854775808 : Int) ≤ 0 ∧ (0 : Int) ≤ 9223372036854775807; omega
  · show (-9223372036854775808 : Int) ≤ 0 ∧ (0 : Int) ≤ 9223372036854775807; omega
  · exact (l.getD k 0).toNat_lt

theorem RunW.setLine {B b : Nat} {m : MS} {l : List UInt8} {w : World} (h : RunW B b m l w) (n : Int) : RunW B b { m with line := n } l (w.setCell ⟨b, 0, none⟩ (.int .i64 n)) := by
  have hk : Keep B b w (w.setCell ⟨b, 0, none⟩ (.int .i64 n)) := Keep.setb B b (Keep.refl _ _ _) _ _
  refine ⟨h.mach.setLine n, ownsRow_setb h.out h.low 0, by have := h.big; simpa using this, h.low, h.old, h.pow.keep hk (by have := h.old; have := h.low; omega) h.old⟩

theorem start_out (l : List UInt8) : ((MS.start l).setR 0 ((min 64 l.length : Nat) : Int)).out = .slice none 0 0 := rfl

set_option maxRecDepth 100000 in
set_option maxHeartbeats 4000000 in
theorem Run_any (s0 g cap b : Nat) (xs : List Ln) (m0 : MS) (fuel : Nat) (w : World) (hf : fuel ≤ 3000) (hL : xs.length ≤ 100) (h0 : 0 < xs.length) (hok : ∀ k (h : k < xs.length), LineOk xs.length k xs[k])
    (ht : Table s0 w) (hts : s0 + 56 ≤ b) (hLn : LinesAt w g xs) (hgb : g ≠ b) (hg8 : 8 ≤ b) (hbw : b < w.heap.size) (hM0 : Mach w b m0) (ho0 : m0.out = .slice none 0 0) (hm0 : Okm m0) (hh0 : m0.how = 0) (hl0 : m0.line = 0) (hp : PowT w) :
    Calls Tryz.prog 34 #[.slice (some ⟨s0 + 55, 0, none⟩) 17 17, .slice (some ⟨g, 0, none⟩) xs.length cap, .pointer (some ⟨b, 0, none⟩), .int .i64 (fuel : Int)] w
      fun e w' => e = .returned (.agg (stCells (runF xs fuel (m0, [])).1 (runF xs fuel (m0, [])).2)) ∧ Keep w.heap.size b w w' ∧ ∃ v, Mach w' b { (runF xs fuel (m0, [])).1 with out := v } := by
  have hmf : ∀ (fn : Fn) (first cap : Array Value) (w : World), (Instr.makeFunc fn first cap).run Tryz.prog w = .ok (.func fn first cap) w := fun _ _ _ _ => rfl
  generalize hRO : runF xs fuel (m0, []) = RO
  have HRO := hide hRO
  clear hRO
  have hR0 : RunW (w.heap.size + 2) b m0 [] ((w.alloc (.cells #[.pointer (some ⟨b, 0, none⟩)] 84)).alloc (.cells zState 32)) :=
    ⟨(hM0.alloc _).alloc _, by unfold OutIs; rw [ho0]; exact ⟨rfl, .inl ⟨rfl, rfl⟩⟩, by simp, by omega, hg8, hp.mono ((((Below.refl _ _).alloc (Nat.le_refl _) _).alloc (by simp) _).block _ (by omega))⟩
  have hmo : ({ m0 with out := Value.slice none 0 0 } : MS) = m0 := by rw [← ho0]
  have HMO := hide hmo
  have hlg := hLn.lt
  have HT := hide ht
  have HL := hide hLn
  have HP := hide hp
  have HOK := hide hok
  have HR0 := hide hR0
  have HM0 := hide hm0
  have HH0 := hide hh0
  have HL0 := hide hl0
  clear ht hLn hp hok hR0 hM0 ho0 hm0 hh0 hl0 hmo
  go_enter_defers Tryz.func34, Tryz.ntmps34
  go_wp2_with fail
  have hp3 := cell_of_blk (blk_alloc (blk_new w (.cells #[.pointer (some ⟨b, 0, none⟩)] 84)) (.cells zState 32)) 0
  have hq3 := heap_alloc2_new w (.cells #[.pointer (some ⟨b, 0, none⟩)] 84) (.cells zState 32)
  have hbw3 : Below w.heap.size w ((w.alloc (.cells #[.pointer (some ⟨b, 0, none⟩)] 84)).alloc (.cells zState 32)) := ((Below.refl _ _).alloc (Nat.le_refl _) _).alloc (by simp) _
  have hsz3 : ((w.alloc (.cells #[.pointer (some ⟨b, 0, none⟩)] 84)).alloc (.cells zState 32)).heap.size = w.heap.size + 2 := by simp
  change Code.wp _ _ _ _ ((w.alloc (.cells #[.pointer (some ⟨b, 0, none⟩)] 84)).alloc (.cells zState 32))
  generalize (w.alloc (.cells #[.pointer (some ⟨b, 0, none⟩)] 84)).alloc (.cells zState 32) = W3 at *
  have hp3' : W3.cell? ⟨w.heap.size, 0, none⟩ = some (.pointer (some ⟨b, 0, none⟩)) := hp3
  have HP3 := hide hp3'
  have HQ3 := hide hq3
  have HT3 : Hid (Table s0 W3) := hide (HT.out.mono fun k _ hk => hbw3.block k (by omega))
  have HL3 : Hid (LinesAt W3 g xs) := hide (HL.out.mono (hbw3.block _ hlg))
  have HB3 := hide hbw3
  have HS3 := hide hsz3
  clear hp3 hp3' hq3 hbw3 hsz3 HT HL HP
  go_loopw [12] (fun c w' => ∃ (i : Nat) (m : MS) (l : List UInt8) (v : Value) (k : Nat), i ≤ fuel ∧ c = .int .i64 i ∧ runF xs (fuel - i) (m, l) = RO ∧ RunW (w.heap.size + 2) b { m with out := v } l w' ∧ Keep (w.heap.size + 2) b W3 w' ∧ Okm m ∧ m.how = 0 ∧ k < xs.length ∧ m.line = (k : Int) ∧ l.length ≤ 21 * i) (fun c _ => fuel - (intOf c).toNat)
  case atStart => exact ⟨0, m0, [], .slice none 0 0, 0, Nat.zero_le _, rfl, HRO.out, by rw [HMO.out]; exact HR0.out, Keep.refl _ _ _, HM0.out, HH0.out, h0, HL0.out, Nat.le_refl _⟩
  case round =>
    obtain ⟨i, m, l, v, k, hi, rfl, hrun, hW, hK, hm, hhow, hk, hline, hll⟩ := hrel
    have HRUN := hide hrun
    have HW := hide hW
    have HK := hide hK
    have HM := hide hm
    have hbig := hW.big
    have hpr := (hK.cell (p := ⟨w.heap.size, 0, none⟩) (by show w.heap.size < _; omega) (by show w.heap.size ≠ _; omega)).trans HP3.out
    have HLINE := hide hline
    have HHOW := hide hhow
    clear hrun hW hK hm hline hhow
    by_cases hlt : i < fuel
    · have hc0 := HW.out.mach.cell0
      rw [show ({ m with out := v } : MS).line = (k : Int) from HLINE.out] at hc0
      have hLr := HL3.out.mono (HK.out.block g (by omega) (by omega))
      obtain ⟨l0, l1, l2, l3⟩ := hLr.get hk
      have hxk := HOK.out k hk
      obtain ⟨row, hrow, hwd⟩ := hxk.word
      obtain ⟨r, hr, hxr⟩ := hxk.r
      obtain ⟨s, hs, hxs⟩ := hxk.s
      have HXK := hide hxk
      rw [hwd] at l0
      rw [hxr] at l1
      rw [hxs] at l2
      have HWD := hide hwd
      have HXR := hide hxr
      have HXS := hide hxs
      clear hLr hxk hwd hxr hxs
      generalize hn : xs[k].n = n at *
      have HN := hide hn
      clear hn
      go_wp2_with fail
      refine wp_region_still_tail 7 mixed (by kernel_rfl) ?_
      simp only [List.take_succ_cons, List.take_zero, List.drop_succ_cons, List.drop_zero]
      have hnl : wr.heap.size < (wr.alloc (.cells #[.int .i64 (row : Int), .int .i64 (r : Int), .int .i64 (s : Int), .int .i64 n] 122)).heap.size := by simp
      generalize hWW : ({ (wr.alloc _) with drawn := _ } : World) = W4
      have hlb : W4.heap[wr.heap.size]? = some (.cells #[.int .i64 (row : Int), .int .i64 (r : Int), .int .i64 (s : Int), .int .i64 n] 122) := by rw [← hWW]; exact blk_new wr _
      have hbr4 : Below wr.heap.size wr W4 := by rw [← hWW]; exact ((Below.refl _ _).alloc (Nat.le_refl _) _).drew
      clear hWW hnl l0 l1 l2 l3 hc0
      have hk4 : Keep (w.heap.size + 2) b W3 W4 := HK.out.trans (Keep.of_below (hbr4.mono hbig))
      have hW4 := HW.out.keep hbr4
      have ht4 : Table s0 W4 := HT3.out.mono fun j _ hj => hk4.block j (by omega) (by omega)
      have hp4 := (hk4.cell (p := ⟨w.heap.size, 0, none⟩) (by show w.heap.size < _; omega) (by show w.heap.size ≠ _; omega)).trans HP3.out
      obtain ⟨f4, b4, f5, b5, f6, b6, f7, b7, e4, e5, e6, e7⟩ := row_funcs s0 hrow
      obtain ⟨r0, r1, r2, r3, r4, r5, r6, r7⟩ := rowAt ht4.rows hrow
      rw [e4] at r4
      rw [e5] at r5
      rw [e6] at r6
      rw [e7] at r7
      have E4 := hide e4
      have y0 : W4.cell? ⟨wr.heap.size, 0, none⟩ = some (.int .i64 (row : Int)) := cell_of_blk hlb 0
      have y1 : W4.cell? ⟨wr.heap.size, 1, none⟩ = some (.int .i64 (r : Int)) := cell_of_blk hlb 1
      have y2 : W4.cell? ⟨wr.heap.size, 2, none⟩ = some (.int .i64 (s : Int)) := cell_of_blk hlb 2
      have y3 : W4.cell? ⟨wr.heap.size, 3, none⟩ = some (.int .i64 n) := cell_of_blk hlb 3
      have HW4 := hide hW4
      have HK4 := hide hk4
      have HT4 := hide ht4
      clear e4 e5 e6 e7 hlb hW4 hk4 ht4
      have hrI : (row : Int) < 17 := by omega
      repeat still_step
      refine wpStill_nil ?_
      clear r0 r1 r2 r3 r4 r5 r6 r7 y0 y1 y2 y3 hp4
      go_wp2_with fail
      refine (step_any s0 (w.heap.size + 2) b row r s n { m with out := v } l W4 hrow hr hs HW4.out HT4.out (by omega) (okm_same HM.out ⟨rfl, rfl, rfl, rfl⟩) (by omega) ⟨by rw [show ({ m with out := v } : MS).line = (k : Int) from HLINE.out]; omega, by rw [show ({ m with out := v } : MS).line = (k : Int) from HLINE.out]; omega⟩ f4 b4 f5 b5 f6 b6 f7 b7 E4.out).mono ?_
      rintro e w5 ⟨rfl, v5, hm5, ho5, hk5⟩
      have hS : stepF xs[k].word.toNat xs[k].r.toNat xs[k].s.toNat xs[k].n m l = stepF row r s n m l := by
        rw [HWD.out, HXR.out, HXS.out, HN.out]; simp
      have hnx := stepF_next xs.length k xs[k] m l HXK.out hk HLINE.out
      have hokm := okm_stepF row r s n m l HM.out (by rw [← HN.out]; exact HXK.out.low) (by rw [← HN.out]; exact HXK.out.high)
      have hlen5 := stepF_len row r s n m l HM.out
      have hrun5 := HRUN.out
      have hgk : xs[m.line.toNat]? = some xs[k] := by rw [HLINE.out]; simp [hk]
      rw [show fuel - i = (fuel - (i + 1)) + 1 by omega] at hrun5
      unfold runF at hrun5
      rw [hgk] at hrun5
      dsimp only at hrun5
      rw [hS] at hrun5 hnx
      rw [stepF_out] at hm5 ho5
      generalize stepF row r s n m l = ST at *
      obtain ⟨m5, l5⟩ := ST
      dsimp only at hm5 ho5 hrun5 hnx hokm hlen5
      have hk05 : Keep (w.heap.size + 2) b W3 w5 := HK4.out.trans hk5
      have hW5 : RunW (w.heap.size + 2) b { m5 with out := v5 } l5 w5 := ⟨hm5, ho5, by have := HW4.out.big; have := hk5.size; omega, by omega, by omega, HW4.out.pow.keep hk5 (by omega) (by omega)⟩
      have hp5 := (hk05.cell (p := ⟨w.heap.size, 0, none⟩) (by show w.heap.size < _; omega) (by show w.heap.size ≠ _; omega)).trans HP3.out
      have hc2 := hm5.cell2
      have HW5 := hide hW5
      have HK5 := hide hk05
      have HNX := hide hnx
      have HR5 := hide hrun5
      have HOK5 := hide hokm
      clear hS hgk hm5 ho5 hk5 hk05 hW5 hrun5 hnx hokm HW4 HK4 HT4 HRUN hbr4 E4 HXK
      by_cases hh5 : m5.how = 0
      · have hh5' : (({ m5 with out := v5 } : MS).how != 0) = false := by simpa using hh5
        obtain ⟨k', hk', hnx'⟩ := HNX.out hh5
        have HNX' := hide hnx'
        have HR6 : Hid (runF xs (fuel - (i + 1)) ({ m5 with line := m5.next }, l5) = RO) := hide (by have := HR5.out; rwa [if_neg (by simpa using hh5)] at this)
        have HH5 := hide hh5
        clear hnx' hh5 HNX HR5
        go_wp2_with fail
        refine wp_region_still_tail 7 mixed (by kernel_rfl) ?_
        simp only [List.take_succ_cons, List.take_zero, List.drop_succ_cons, List.drop_zero]
        have hc1 := HW5.out.mach.cell1
        have hc00 := HW5.out.mach.cell0
        have hf5 := HW5.out.mach.frozen
        generalize hWW : ({ w5 with drawn := _ } : World) = W6
        have hW6 : RunW (w.heap.size + 2) b { m5 with out := v5 } l5 W6 := by rw [← hWW]; exact HW5.out.drew
        have hk6 : Keep (w.heap.size + 2) b W3 W6 := by rw [← hWW]; exact HK5.out.drew
        clear hWW hc1 hc00 hf5
        have hp6 := (hk6.cell (p := ⟨w.heap.size, 0, none⟩) (by show w.heap.size < _; omega) (by show w.heap.size ≠ _; omega)).trans HP3.out
        have hc1 := hW6.mach.cell1
        have hc00 := hW6.mach.cell0
        have hf5 := hW6.mach.frozen
        have HW6 := hide hW6
        have HK6 := hide hk6
        clear hW6 hk6 HW5 HK5 hp5 hc2 hh5'
        repeat still_step
        refine wpStill_nil ?_
        go_wp2
        go_roundw
        case rel =>
          refine ⟨i + 1, { m5 with line := m5.next }, l5, v5, k', by omega, by go_num, HR6.out, ?_, Keep.setb _ _ HK6.out _ _, okm_same HOK5.out ⟨rfl, rfl, rfl, rfl⟩, HH5.out, hk', HNX'.out, by omega⟩
          exact HW6.out.setLine _
        case measure => simp [intOf]; omega
      · have hh5' : (({ m5 with out := v5 } : MS).how != 0) = true := by simpa using hh5
        have HR6 : Hid ((m5, l5) = RO) := hide (by have := HR5.out; rwa [if_pos (by simpa using hh5)] at this)
        clear hh5 HNX HR5
        go_wp2_with fail
        refine leaves_cons (f := 106) (args := #[.pointer (some ⟨w.heap.size, 0, none⟩), .pointer (some ⟨w.heap.size + 1, 0, none⟩)]) (by simp) (by simp [go_sem]) ?_
        refine (deferred_any (w.heap.size + 2) b w.heap.size (w.heap.size + 1) _ _ .returning _ zState HW5.out hp5 ((HK5.out.block (w.heap.size + 1) (by omega) (by omega)).trans HQ3.out) rfl).mono ?_
        rintro e u' w6 ⟨rfl, rfl, hq6, hk6⟩
        have hload : (loadVar 32 ⟨w.heap.size + 1, 0, none⟩).run Tryz.prog w6 = .ok (.agg (stCells (RO).1 (RO).2)) w6 := by
          rw [← HR6.out]
          exact run_loadVar_row w6 (w.heap.size + 1) _ 32 _ _ _ hq6 Tryz.underlying32 (by kernel_rfl) (by kernel_rfl)
        have hsz5 := HK5.out.size
        have hs3 := HS3.out
        have hb6 : Keep w.heap.size b w w6 := (Keep.of_below HB3.out).trans ((HK5.out.mono (B' := w.heap.size) (by omega)).trans ⟨hk6.os, hk6.tape, hk6.output, hk6.size, fun k hk _ => hk6.block k (by omega) (by omega)⟩)
        have hm6 : Mach w6 b { RO.1 with out := v5 } := by
          rw [← HR6.out]
          exact HW5.out.mach.mono (hk6.block b (by omega) (by omega))
        simp [Leaves, settle, results, Tryz.results34, asAddr, hload]
        exact ⟨hb6, v5, hm6⟩
    · have HR6 : Hid ((m, l) = RO) := hide (by have := HRUN.out; rwa [show fuel - i = 0 by omega] at this)
      go_wp2_with fail
      refine leaves_cons (f := 106) (args := #[.pointer (some ⟨w.heap.size, 0, none⟩), .pointer (some ⟨w.heap.size + 1, 0, none⟩)]) (by simp) (by simp [go_sem]) ?_
      refine (deferred_any (w.heap.size + 2) b w.heap.size (w.heap.size + 1) _ _ .returning _ zState HW.out hpr ((HK.out.block (w.heap.size + 1) (by omega) (by omega)).trans HQ3.out) rfl).mono ?_
      rintro e u' w6 ⟨rfl, rfl, hq6, hk6⟩
      have hload : (loadVar 32 ⟨w.heap.size + 1, 0, none⟩).run Tryz.prog w6 = .ok (.agg (stCells (RO).1 (RO).2)) w6 := by
        rw [← HR6.out]
        exact run_loadVar_row w6 (w.heap.size + 1) _ 32 _ _ _ hq6 Tryz.underlying32 (by kernel_rfl) (by kernel_rfl)
      have hszr := HK.out.size
      have hs3 := HS3.out
      have hb6 : Keep w.heap.size b w w6 := (Keep.of_below HB3.out).trans ((HK.out.mono (B' := w.heap.size) (by omega)).trans ⟨hk6.os, hk6.tape, hk6.output, hk6.size, fun k hk _ => hk6.block k (by omega) (by omega)⟩)
      have hm6 : Mach w6 b { RO.1 with out := v } := by
        rw [← HR6.out]
        exact HW.out.mach.mono (hk6.block b (by omega) (by omega))
      simp [Leaves, settle, results, Tryz.results34, asAddr, hload]
      exact ⟨hb6, v, hm6⟩

end Go.Proofs.YtngopilbpiplhaaGreatDoor

namespace Go.Proofs.YtngopilbpiplhaaGreatDoor
open Go.RowKit

theorem Good.not_bad {l : List UInt8} (h : Good l) {c p : Int} : ¬ Bad l c p := by
  rintro (⟨h1, _⟩ | ⟨_, i, hi, _, _, h2, _⟩ | ⟨_, _, i, hi, _, _, h2, _⟩ | ⟨_, _, _, _, _, x, hx, h2⟩)
  · rw [h.short] at h1; cases h1
  · have := h.lines _ (List.getElem_mem hi); rw [h2] at this; cases this
  · have := h.jumps _ (List.getElem_mem hi); rw [this] at h2; cases h2
  · rw [h.last x hx] at h2; cases h2

set_option maxHeartbeats 400000 in
theorem isFuel_any (fuel : Nat) (hf : fuel ≤ 3000) (w : World) : Calls Tryz.prog 33 #[.int .i64 (fuel : Int)] w fun e w' => e = .returned (.bool true) ∧ w' = w := by
  have h0 : (0 : Int) ≤ (fuel : Int) := by omega
  have h1 : (fuel : Int) ≤ 3000 := by omega
  go_enter Tryz.func33, Tryz.ntmps33
  go_wp2
  go_ret
  exact ⟨rfl, rfl⟩

set_option maxRecDepth 100000 in
set_option maxHeartbeats 4000000 in
theorem wRun_any (l input : List UInt8) (fuel : Nat) (w : World) (hl : l.length ≤ 281474976710656) (hf : fuel ≤ 3000) (hgood : Good l) (hok : ∀ k (h : k < (progF l).length), LineOk (progF l).length k (progF l)[k])
    (hlen : (progF l).length ≤ 100) (hpos : 0 < (progF l).length) (hg : Glob w) (hp : PowT w) :
    Calls Tryz.prog 14 #[.string ⟨l.toArray⟩, .string ⟨input.toArray⟩, .int .i64 (fuel : Int)] w
      fun e w' => e = .returned (.tuple #[.agg (stCells (runOf (progF l) input fuel).1 (runOf (progF l) input fuel).2), .int .i64 0, .int .i64 0]) ∧ Below w.heap.size w w' := by
  have HG := hide hg
  have HP := hide hp
  have hg8 := hg.size
  have HOK := hide hok
  have hb1 : ∀ o : Obj, Below w.heap.size w (w.alloc o) := fun o => (Below.refl _ _).alloc (Nat.le_refl _) o
  have hf0 : ¬ (fuel : Int) < 0 := by omega
  have hf1 : ¬ (3000 : Int) < (fuel : Int) := by omega
  clear hg hp hok
  go_enter Tryz.func14, Tryz.ntmps14
  go_wp2_with fail
  refine (Rows_any _).mono ?_
  rintro e w1 ⟨rfl, ht1, hs1, hbr⟩
  simp only [World.size_alloc] at ht1 hs1 hbr ⊢
  have hq1 : w1.heap[w.heap.size]? = some (.cells zState 32) := (hbr.block _ (by omega)).trans (blk_new w _)
  have hb01 : Below w.heap.size w w1 := (hb1 _).trans (hbr.mono (by omega))
  have HT1 := hide ht1
  have HQ1 := hide hq1
  clear ht1 hq1 hb1 hbr
  go_wp2_with fail
  refine (Read_any l (w.heap.size + 1) w1 hl (HG.out.below hb01 hg8) HT1.out.rows).mono ?_
  rintro e w2 ⟨hres, hb2⟩
  rcases hres with ⟨g, cap, rfl, _, hcap, hge, hL⟩ | ⟨c, p, _, hbad⟩
  · have hb02 : Below w.heap.size w w2 := hb01.trans (hb2.mono (by omega))
    have ht2 : Table (w.heap.size + 1) w2 := HT1.out.mono fun k _ hk => hb2.block k (by omega)
    have hq2 : w2.heap[w.heap.size]? = some (.cells zState 32) := (hb2.block _ (by omega)).trans HQ1.out
    have hsz2 := hb2.size
    have hglt := hL.lt
    have HT2 := hide ht2
    have HQ2 := hide hq2
    have HL2 := hide hL
    clear ht2 hq2 hL
    generalize hxs : progF l = xs at *
    have HXS := hide hxs
    clear hxs
    go_wp2_with fail
    refine (isFuel_any fuel hf w2).mono ?_
    rintro e w2' ⟨rfl, rfl⟩
    go_wp2_with fail
    refine (New_any input w2').mono ?_
    rintro e wn ⟨rfl, hmn, hbn⟩
    have hszn := hmn.lt
    go_wp2_with fail
    refine (Run_any (w.heap.size + 1) g cap w2'.heap.size xs _ fuel wn hf hlen hpos HOK.out (HT2.out.mono fun k _ hk => hbn.block k (by omega)) (by omega) (HL2.out.mono (hbn.block _ hglt)) (by omega) (by omega) hszn hmn (start_out input) (start_okm input) rfl rfl (HP.out.mono ((hbn.block _ (by omega)).trans (hb02.block _ (by omega))))).mono ?_
    rintro e w3 ⟨he, hk3, _⟩
    obtain rfl : e = .returned (.agg (stCells (runOf xs input fuel).1 (runOf xs input fuel).2)) := he
    have hb3 : Below w2'.heap.size w2' w3 := hbn.trans ((hk3.mono (by omega)).below (Nat.le_refl _))
    have hq3 : w3.heap[w.heap.size]? = some (.cells zState 32) := (hb3.block _ (by omega)).trans HQ2.out
    have hb03 : Below w.heap.size w w3 := hb02.trans (hb3.mono (by omega))
    have HQ3 := hide hq3
    clear hq3
    go_wp2_with (refine wpList_plain rfl fun _ hK => wp_store_row 32 (.tmp 6) (.tmp 35) rfl w.heap.size (stCells (runOf xs input fuel).1 (runOf xs input fuel).2) rfl rfl _ _ HQ3.out (by kernel_rfl) rfl (st_one _ _) (hK _ _ ?_))
    have hst := setRow_heap w3 w.heap.size _ (stCells (runOf xs input fuel).1 (runOf xs input fuel).2) _ _ HQ3.out
    have hload : (loadVar 32 ⟨w.heap.size, 0, none⟩).run Tryz.prog (w3.setRow w.heap.size (stCells (runOf xs input fuel).1 (runOf xs input fuel).2)) = .ok (.agg (stCells (runOf xs input fuel).1 (runOf xs input fuel).2)) (w3.setRow w.heap.size (stCells (runOf xs input fuel).1 (runOf xs input fuel).2)) := run_loadVar_row _ w.heap.size _ 32 _ _ _ hst Tryz.underlying32 (by kernel_rfl) (by kernel_rfl)
    have hb4 : Below w.heap.size w (w3.setRow w.heap.size (stCells (runOf xs input fuel).1 (runOf xs input fuel).2)) := hb03.trans ((keep_setRow w.heap.size w.heap.size w3 _).below (Nat.le_refl _))
    exact bodyPost_ret (v := .tuple #[.agg (stCells (runOf xs input fuel).1 (runOf xs input fuel).2), .int .i64 0, .int .i64 0]) (by simp [results, Tryz.results14, asAddr, hload]) rfl ⟨by rw [HXS.out], hb4⟩
  · exact absurd hbad hgood.not_bad

end Go.Proofs.YtngopilbpiplhaaGreatDoor
