/-
  The contracts of machine.New and State.
  The contract of (*machine.Machine).State: the state is the machine's.
  What a run does (plain), and the contract of runner.Run's deferred function.
  A run, plain: the machine and what was put out behind some lines; that all numbers stay of 64 bits.
-/
import Derived.Test.YtngopilbpiplhaaGreatDoorZOut
import Derived.Lib.BufferWrite
import Derived.StillTailTactics
import Derived.Test.YtngopilbpiplhaaGreatDoorZStep
import Derived.Defers
namespace Go.Proofs.YtngopilbpiplhaaGreatDoor
open Go.RowKit

/-- A machine that was not used. -/
def MS.zero : MS := { line := 0, next := 0, how := 0, why := 0, value := 0, input := fun _ => 0, cells := fun _ => 0, kept := fun _ => 0, set := fun _ => false, num := fun _ => 0, out := .slice none 0 0 }

/-- The input's bytes: as many as were handed in, 0 in place of those that are missing. -/
def inputOf (l : List UInt8) : Nat → Nat := fun i => (l.getD i 0).toNat
def MS.start (l : List UInt8) : MS := { MS.zero with input := inputOf l }

theorem zero_marr : Tryz.zeroCells150 = marr MS.zero := by rfl

theorem start_arr (l : List UInt8) : ((marr MS.zero).toList.take 5 ++ Lib.byteCells (l.take 64) ++ (marr MS.zero).toList.drop (5 + (l.take 64).length)).toArray = marr (MS.start l) := by
  apply Array.ext_getElem?
  intro j
  have hz : ∀ k, k < 110 → (marr MS.zero).toList[k]? = some (mcell MS.zero k) := fun k hk => by rw [Array.getElem?_toList, marr_get _ hk]
  have hlz : (marr MS.zero).toList.length = 110 := by rw [Array.length_toList, marr_size]
  have hl5 : ((marr MS.zero).toList.take 5).length = 5 := by rw [List.length_take, hlz]; rfl
  have hlb : (Lib.byteCells (l.take 64)).length = (l.take 64).length := by simp [Lib.byteCells]
  have hl64 : (l.take 64).length ≤ 64 := List.length_take_le _ _
  rw [List.getElem?_toArray]
  by_cases h1 : j < 110
  · rw [marr_get _ h1]
    by_cases h2 : j < 5
    · rw [List.getElem?_append_left (by rw [List.length_append]; omega), List.getElem?_append_left (by omega), List.getElem?_take, if_pos h2, hz j h1]
      congr 1
      exact lt5_cases (p := fun j => mcell MS.zero j = mcell (MS.start l) j) rfl rfl rfl rfl rfl j h2
    · by_cases h3 : j < 5 + (l.take 64).length
      · rw [List.getElem?_append_left (by rw [List.length_append]; omega), List.getElem?_append_right (by omega), hl5]
        have h6 : j - 5 < l.length := by rw [List.length_take] at h3; omega
        have : (Lib.byteCells (l.take 64))[j - 5]? = some (.int .u8 ((l[j - 5]).toNat : Int)) := by
          simp only [Lib.byteCells, List.getElem?_map, List.getElem?_take]
          rw [if_pos (by omega), List.getElem?_eq_getElem h6]; rfl
        rw [this]
        congr 1
        have hm := mcell_input (MS.start l) (j - 5) (by omega)
        rw [show 5 + (j - 5) = j by omega] at hm
        rw [hm]
        simp [MS.start, inputOf, List.getD, List.getElem?_eq_getElem h6]
      · rw [List.getElem?_append_right (by rw [List.length_append]; omega), List.getElem?_drop, List.length_append, hl5, hlb, show 5 + (l.take 64).length + (j - (5 + (l.take 64).length)) = j by omega, hz j h1]
        congr 1
        by_cases h4 : j < 69
        · have hm := mcell_input (MS.start l) (j - 5) (by omega)
          have hm0 := mcell_input MS.zero (j - 5) (by omega)
          rw [show 5 + (j - 5) = j by omega] at hm hm0
          rw [hm, hm0]
          have h6 : l.length ≤ j - 5 := by rw [List.length_take] at h3; omega
          simp [MS.start, inputOf, MS.zero, List.getD, List.getElem?_eq_none h6]
        · have h5' : ¬ j < 5 := h2
          unfold mcell
          simp only [h5', h4, if_false]
          rfl
  · have a2 : (marr (MS.start l))[j]? = none := Array.getElem?_eq_none (by rw [marr_size]; omega)
    rw [a2, List.getElem?_eq_none (by rw [List.length_append, List.length_append, List.length_drop, hl5, hlb, hlz]; omega)]

theorem take_min64 (L : List UInt8) : L.take (min 64 L.length) = L.take 64 := by
  rcases Nat.le_total 64 L.length with h | h
  · rw [Nat.min_eq_left h]
  · rw [Nat.min_eq_right h, List.take_of_length_le h, List.take_of_length_le (Nat.le_refl _)]
theorem run_copy64 (w : World) (ty g : Nat) (s : ByteArray) (cur : Array Value) (t : TypeId) (hg : w.heap[g]? = some (.cells cur t (0, 0))) (hfit : 69 ≤ cur.size) :
    (Builtin.copy_ #[76, 9] ty #[.slice (some ⟨g, 5, none⟩) 64 64, .string s]).run Tryz.prog w =
      .ok (.int .i64 ((min 64 s.data.toList.length : Nat) : Int)) (w.setRow g (cur.toList.take 5 ++ Lib.byteCells (s.data.toList.take 64) ++ cur.toList.drop (5 + (s.data.toList.take 64).length)).toArray) := by
  have hmm : (s.data.toList.take 64).length = min 64 s.data.toList.length := List.length_take ..
  have hn : Nat.min s.size 64 = min 64 s.data.toList.length := by rw [← Lib.size_eq]; exact Nat.min_comm _ _
  have hlen : (Lib.byteCells (s.data.toList.take 64)).length = min 64 s.data.toList.length := by rw [← hmm]; simp [Lib.byteCells]
  have hst := run_storeCells_at Tryz.prog g 5 t (Lib.byteCells (s.data.toList.take 64)) 0 cur w hg (by rw [hlen]; omega) (Lib.byteCells_one _)
  have htk : List.take (min 64 s.data.toList.length) (List.map (fun b : UInt8 => Value.int IntKind.u8 (b.toNat : Int)) s.data.toList) = Lib.byteCells (s.data.toList.take 64) := by
    rw [← List.map_take, take_min64]
    rfl
  rw [hlen] at hst
  rw [hmm]
  simp only [Nat.add_zero] at hst
  have hu := Tryz.underlying76
  obtain ⟨i, hi, _, hz, _⟩ := info_parts infoU8
  simp only [Builtin.copy_, Builtin.lenOf, Builtin.firstCells]
  simp [run_underlying hu, sizeOf, typeInfo, hi]
  rw [hn, htk, hst]
  simp [Result.andThen]
  trace_state
  rfl

set_option maxRecDepth 1000000 in
set_option maxHeartbeats 2000000 in
theorem New_any (l : List UInt8) (w : World) :
    Calls Tryz.prog 35 #[.string ⟨l.toArray⟩] w fun e w' => e = .returned (.pointer (some ⟨w.heap.size, 0, none⟩)) ∧ Mach w' w.heap.size ((MS.start l).setR 0 ((min 64 l.length : Nat) : Int)) ∧ Below w.heap.size w w' := by
  have hblk := blk_new w (.cells Tryz.zeroCells150 150)
  have hcp := run_copy64 (w.alloc (.cells Tryz.zeroCells150 150)) 3 w.heap.size ⟨l.toArray⟩ _ _ hblk (by rw [zero_marr, marr_size]; omega)
  have hm : Mach ((w.alloc (.cells Tryz.zeroCells150 150)).setRow w.heap.size (Tryz.zeroCells150.toList.take 5 ++ Lib.byteCells (l.take 64) ++ Tryz.zeroCells150.toList.drop (5 + (l.take 64).length)).toArray) w.heap.size (MS.start l) := by
    unfold Mach
    rw [setRow_heap _ _ _ _ _ _ hblk, zero_marr, start_arr]
  have hb : Below w.heap.size w ((w.alloc (.cells Tryz.zeroCells150 150)).setRow w.heap.size (Tryz.zeroCells150.toList.take 5 ++ Lib.byteCells (l.take 64) ++ Tryz.zeroCells150.toList.drop (5 + (l.take 64).length)).toArray) := by
    have h0 : Below w.heap.size w (w.alloc (.cells Tryz.zeroCells150 150)) := (Below.refl _ _).alloc (Nat.le_refl _) _
    refine ⟨h0.os, h0.tape, h0.output, ?_, fun k hk => ?_⟩
    · simp [World.setRow]
    · rw [← h0.block k hk]
      simp only [World.setRow, Array.getElem?_modify]
      rw [if_neg (by omega)]
  have e0 : (⟨l.toArray⟩ : ByteArray).data.toList = l := rfl
  rw [e0] at hcp
  clear e0 hblk
  generalize (w.alloc (.cells Tryz.zeroCells150 150)).setRow w.heap.size (Tryz.zeroCells150.toList.take 5 ++ Lib.byteCells (l.take 64) ++ Tryz.zeroCells150.toList.drop (5 + (l.take 64).length)).toArray = W1 at *
  have HM := hide hm
  clear hm
  go_enter Tryz.func35, Tryz.ntmps35
  go_wp2_with fail
  refine (Set_any _ w.heap.size 0 _ _ (by omega) HM.out).mono ?_
  rintro e w2 ⟨rfl, rfl⟩
  go_wp2
  go_ret
  exact ⟨rfl, setW_mach (by omega) HM.out _, hb.trans ((setW_keep w.heap.size w.heap.size W1 0 _).below (Nat.le_refl _))⟩

end Go.Proofs.YtngopilbpiplhaaGreatDoor

namespace Go.Proofs.YtngopilbpiplhaaGreatDoor
open Go.RowKit

/-- A state's cells: how, line, why, value; the registers; what was put out. -/
def stCells (m : MS) (out : List UInt8) : Array Value :=
  #[.int .i64 m.how, .int .i64 m.line, .int .i64 m.why, .int .i64 m.value,
    .bool (m.set 0), .int .i64 (m.num 0), .bool (m.set 1), .int .i64 (m.num 1), .bool (m.set 2), .int .i64 (m.num 2), .bool (m.set 3), .int .i64 (m.num 3),
    .bool (m.set 4), .int .i64 (m.num 4), .bool (m.set 5), .int .i64 (m.num 5), .bool (m.set 6), .int .i64 (m.num 6), .bool (m.set 7), .int .i64 (m.num 7), .string ⟨out.toArray⟩]

theorem conv_out {B : Nat} {w : World} {v : Value} {l : List UInt8} (h : w.ownsRow B 5 1 v l.length (Lib.byteCells l)) : (convert 76 9 v).run Tryz.prog w = .ok (.string ⟨l.toArray⟩) w := by
  obtain ⟨h0, ⟨e, e2⟩ | ⟨g, cap, cur, e, hg, hb, hc, _, hsz, ht⟩⟩ := h
  · subst e
    have : l = [] := List.eq_nil_of_length_eq_zero e2
    subst this
    exact run_convert_bytes_nil w 76 5 Tryz.underlying76 Tryz.underlying5 0 0 9 Tryz.underlying9
  · subst e
    refine run_convert_bytes_back w 76 9 5 ⟨g, 0, none⟩ cap l Tryz.underlying76 Tryz.underlying5 Tryz.underlying9 (fun j hj => ?_)
    have e : (⟨g, 0, none⟩ : Addr).add j = ⟨g, j, none⟩ := by unfold Addr.add; split <;> simp_all
    rw [e, cell_of_blk hb]
    have h1 : (cur.toList.take (l.length * 1))[j]? = (Lib.byteCells l)[j]? := by rw [ht]
    rw [List.getElem?_take, if_pos (by omega), Array.getElem?_toList] at h1
    rw [h1]
    simp [Lib.byteCells, List.getElem?_eq_getElem hj]

theorem mixed : Tryz.prog.follows .mixedOrders = true := by kernel_rfl

set_option maxRecDepth 1000000 in
set_option maxHeartbeats 4000000 in
theorem State_any (B : Nat) (w : World) (b : Nat) (m : MS) (l : List UInt8) (h : Mach w b m) (ho : OutIs B w m l) :
    Calls Tryz.prog 107 #[.pointer (some ⟨b, 0, none⟩)] w fun e w' => e = .returned (.agg (stCells m l)) ∧ Below w.heap.size w w' := by
  have hbl := h.lt
  obtain ⟨a, c, hac⟩ := owns_len ho
  have HM := hide h
  have HO := hide ho
  have HAC := hide hac
  clear h ho hac
  go_enter Tryz.func107, Tryz.ntmps107
  go_wp2
  refine wp_region_still_tail 26 mixed (by kernel_rfl) ?_
  simp only [List.take_succ_cons, List.take_zero, List.drop_succ_cons, List.drop_zero]
  generalize hWW : ({ (w.alloc _) with drawn := _ } : World) = W
  have hW : Mach W b m := by rw [← hWW]; exact HM.out.alloc _
  have hnew : W.heap[w.heap.size]? = some (.cells #[.int .i64 0, .int .i64 0, .int .i64 0, .int .i64 0, .bool false, .int .i64 0, .bool false, .int .i64 0, .bool false, .int .i64 0, .bool false, .int .i64 0, .bool false, .int .i64 0, .bool false, .int .i64 0, .bool false, .int .i64 0, .bool false, .int .i64 0, .string ⟨#[]⟩] 32) := by rw [← hWW]; exact blk_new w _
  have hbW : Below w.heap.size w W := by rw [← hWW]; exact ((Below.refl _ _).alloc (Nat.le_refl _) _).drew
  have hoW : OutIs B W m l := by rw [← hWW]; exact HO.out.alloc _
  clear hWW
  have h109 := hW.cell109
  have hcv := conv_out hoW
  rw [HAC.out] at h109 hcv
  have c0 : W.cell? ⟨b, 0, none⟩ = some (.int .i64 m.line) := hW.cell (by omega)
  have c2 : W.cell? ⟨b, 2, none⟩ = some (.int .i64 m.how) := hW.cell (by omega)
  have c3 : W.cell? ⟨b, 3, none⟩ = some (.int .i64 m.why) := hW.cell (by omega)
  have c4 : W.cell? ⟨b, 4, none⟩ = some (.int .i64 m.value) := hW.cell (by omega)
  have r0 : W.cell? ⟨b, 93, none⟩ = some (.bool (m.set 0)) := hW.cell (by omega)
  have s0 : W.cell? ⟨b, 94, none⟩ = some (.int .i64 (m.num 0)) := hW.cell (by omega)
  have r1 : W.cell? ⟨b, 95, none⟩ = some (.bool (m.set 1)) := hW.cell (by omega)
  have s1 : W.cell? ⟨b, 96, none⟩ = some (.int .i64 (m.num 1)) := hW.cell (by omega)
  have r2 : W.cell? ⟨b, 97, none⟩ = some (.bool (m.set 2)) := hW.cell (by omega)
  have s2 : W.cell? ⟨b, 98, none⟩ = some (.int .i64 (m.num 2)) := hW.cell (by omega)
  have r3 : W.cell? ⟨b, 99, none⟩ = some (.bool (m.set 3)) := hW.cell (by omega)
  have s3 : W.cell? ⟨b, 100, none⟩ = some (.int .i64 (m.num 3)) := hW.cell (by omega)
  have r4 : W.cell? ⟨b, 101, none⟩ = some (.bool (m.set 4)) := hW.cell (by omega)
  have s4 : W.cell? ⟨b, 102, none⟩ = some (.int .i64 (m.num 4)) := hW.cell (by omega)
  have r5 : W.cell? ⟨b, 103, none⟩ = some (.bool (m.set 5)) := hW.cell (by omega)
  have s5 : W.cell? ⟨b, 104, none⟩ = some (.int .i64 (m.num 5)) := hW.cell (by omega)
  have r6 : W.cell? ⟨b, 105, none⟩ = some (.bool (m.set 6)) := hW.cell (by omega)
  have s6 : W.cell? ⟨b, 106, none⟩ = some (.int .i64 (m.num 6)) := hW.cell (by omega)
  have r7 : W.cell? ⟨b, 107, none⟩ = some (.bool (m.set 7)) := hW.cell (by omega)
  have s7 : W.cell? ⟨b, 108, none⟩ = some (.int .i64 (m.num 7)) := hW.cell (by omega)
  clear hW hoW
  repeat still_step
  refine wpStill_nil ?_
  clear h109 hcv c0 c2 c3 c4 r0 r1 r2 r3 r4 r5 r6 r7 s0 s1 s2 s3 s4 s5 s6 s7
  refine wpList_plain rfl fun _ hK => wp_store_row 32 _ _ rfl w.heap.size (stCells m l) rfl rfl _ _ hnew (by kernel_rfl) rfl (by simp [stCells, Value.oneCell']) (hK _ _ ?_)
  have hst := setRow_heap W w.heap.size _ (stCells m l) _ _ hnew
  have hb2 : Below w.heap.size w (W.setRow w.heap.size (stCells m l)) := by
    refine ⟨hbW.os, hbW.tape, hbW.output, ?_, fun k hk => ?_⟩
    · have := hbW.size; simpa [World.setRow] using this
    · rw [← hbW.block k hk]
      simp only [World.setRow, Array.getElem?_modify]
      rw [if_neg (by omega)]
  generalize W.setRow w.heap.size (stCells m l) = W2 at *
  clear hnew hbW
  have hload : (loadVar 32 ⟨w.heap.size, 0, none⟩).run Tryz.prog W2 = .ok (.agg (stCells m l)) W2 := run_loadVar_row W2 w.heap.size _ 32 (stCells m l) _ _ hst Tryz.underlying32 (by kernel_rfl) (by kernel_rfl)
  clear hst
  go_wp2
  exact bodyPost_ret (v := .agg (stCells m l)) (by simp [results, Tryz.results107, Act.put, asAddr, hload]) rfl ⟨rfl, hb2⟩

end Go.Proofs.YtngopilbpiplhaaGreatDoor

namespace Go.Proofs.YtngopilbpiplhaaGreatDoor
open Go.RowKit

theorem keep_setRow (B q : Nat) (w : World) (cs : Array Value) : Keep B q w (w.setRow q cs) := by
  refine ⟨rfl, rfl, rfl, by simp [World.setRow], fun k _ hk => ?_⟩
  simp only [World.setRow, Array.getElem?_modify]
  rw [if_neg (by omega)]
theorem st_one (m : MS) (l : List UInt8) : (stCells m l).all (·.oneCell') = true := by simp [stCells, Value.oneCell']

set_option maxRecDepth 100000 in
set_option maxHeartbeats 2000000 in
theorem deferred_any (B b p q : Nat) (m : MS) (l : List UInt8) (u : FrameMode) (w : World) (old : Array Value) (hw : RunW B b m l w) (hp : w.cell? ⟨p, 0, none⟩ = some (.pointer (some ⟨b, 0, none⟩))) (hq : w.heap[q]? = some (.cells old 32)) (ho : old.size = 21) :
    CallsD Tryz.prog 106 #[.pointer (some ⟨p, 0, none⟩), .pointer (some ⟨q, 0, none⟩)] u w fun e u' w' => u' = u ∧ (e = .returned (.tuple #[]) ∧ w'.heap[q]? = some (.cells (stCells m l) 32) ∧ Keep w.heap.size q w w') := by
  have HW := hide hw
  have HQ := hide hq
  have hlq := blk_lt hq
  clear hw hq
  go_enter_d Tryz.func106, Tryz.ntmps106
  go_wp2_with fail
  refine (State_any B w b m l HW.out.mach HW.out.out).mono ?_
  rintro e w1 ⟨rfl, hb1⟩
  have hq1 : w1.heap[q]? = some (.cells old 32) := (hb1.block q hlq).trans HQ.out
  have HQ1 := hide hq1
  clear hq1
  go_wp2_with (refine wpList_plain rfl fun _ hK => wp_store_row 32 (.tmp 1) (.tmp 3) rfl q (stCells m l) rfl rfl _ _ HQ1.out (by kernel_rfl) ho (st_one m l) (hK _ _ ?_))
  go_end0
  exact ⟨rfl, setRow_heap _ _ _ _ _ _ HQ1.out, (Keep.of_below hb1).trans (keep_setRow _ q w1 _)⟩

end Go.Proofs.YtngopilbpiplhaaGreatDoor

namespace Go.Proofs.YtngopilbpiplhaaGreatDoor
open Go.RowKit

/-- A run with so much fuel. -/
def runF (xs : List Ln) : Nat → MS × List UInt8 → MS × List UInt8
  | 0, st => st
  | k + 1, (m, l) =>
    match xs[m.line.toNat]? with
    | none => (m, l)
    | some x =>
      if (stepF x.word.toNat x.r.toNat x.s.toNat x.n m l).1.how ≠ 0 then stepF x.word.toNat x.r.toNat x.s.toNat x.n m l
      else runF xs k ({ (stepF x.word.toNat x.r.toNat x.s.toNat x.n m l).1 with line := (stepF x.word.toNat x.r.toNat x.s.toNat x.n m l).1.next }, (stepF x.word.toNat x.r.toNat x.s.toNat x.n m l).2)

/-- A line that is line k of a program of L lines. -/
structure LineOk (L k : Nat) (x : Ln) : Prop where
  word : ∃ row : Nat, row < 17 ∧ x.word = (row : Int)
  r : ∃ r : Nat, r < 8 ∧ x.r = (r : Int)
  s : ∃ s : Nat, s < 8 ∧ x.s = (s : Int)
  low : -9223372036854775808 ≤ x.n
  high : x.n ≤ 9223372036854775807
  falls : wFalls x.word.toNat = true → k + 1 < L
  jumps : 13 ≤ x.word.toNat → x.word.toNat ≤ 15 → 0 ≤ x.n ∧ x.n < (L : Int)

theorem wrap64_range (x : Int) : -9223372036854775808 ≤ wrap64 x ∧ wrap64 x ≤ 9223372036854775807 := by unfold wrap64; omega
theorem bits_range (a b : Int) : -9223372036854775808 ≤ bits BinOp.and IntKind.i64 a b ∧ bits BinOp.and IntKind.i64 a b ≤ 9223372036854775807 := by
  unfold bits
  simp only [IntKind.wrap_i64]
  omega

theorem okm_setR {m : MS} (h : Okm m) (r : Nat) {n : Int} (h0 : -9223372036854775808 ≤ n) (h1 : n ≤ 9223372036854775807) : Okm (m.setR r n) :=
  ⟨fun k => by simp only [MS.setR]; split; exact ⟨h0, h1⟩; exact h.num k, h.cells, h.kept, h.input⟩
theorem okm_setC {m : MS} (h : Okm m) (r : Nat) {n : Int} (h0 : -9223372036854775808 ≤ n) (h1 : n ≤ 9223372036854775807) : Okm (m.setC r n) :=
  ⟨h.num, fun k => by simp only [MS.setC]; split; exact ⟨h0, h1⟩; exact h.cells k, h.kept, h.input⟩
theorem okm_setK {m : MS} (h : Okm m) (r : Nat) {n : Int} (h0 : -9223372036854775808 ≤ n) (h1 : n ≤ 9223372036854775807) : Okm (m.setK r n) :=
  ⟨h.num, h.cells, fun k => by simp only [MS.setK]; split; exact ⟨h0, h1⟩; exact h.kept k, h.input⟩
theorem okm_same {m m' : MS} (h : Okm m) (e : m'.num = m.num ∧ m'.cells = m.cells ∧ m'.kept = m.kept ∧ m'.input = m.input) : Okm m' :=
  ⟨by rw [e.1]; exact h.num, by rw [e.2.1]; exact h.cells, by rw [e.2.2.1]; exact h.kept, by rw [e.2.2.2]; exact h.input⟩

theorem okm_doF (row r s : Nat) (n : Int) (m : MS) (l : List UInt8) (h : Okm m) (h0 : -9223372036854775808 ≤ n) (h1 : n ≤ 9223372036854775807) : Okm (doF row r s n m l).2.1 := by
  unfold doF
  split
  · exact okm_setR h _ h0 h1
  · exact okm_setR h _ (h.num s).1 (h.num s).2
  · exact okm_setR h _ (wrap64_range _).1 (wrap64_range _).2
  · exact okm_setR h _ (wrap64_range _).1 (wrap64_range _).2
  · exact okm_setR h _ (wrap64_range _).1 (wrap64_range _).2
  · exact okm_setR h _ (bits_range _ _).1 (bits_range _ _).2
  · split
    · exact h
    · exact okm_setR h _ (wrap64_range _).1 (wrap64_range _).2
  · split
    · have := h.input (m.num s).toNat
      exact okm_setR h _ (by omega) (by omega)
    · exact h
  · split
    · exact okm_setR h _ (h.cells _).1 (h.cells _).2
    · exact h
  · split
    · exact okm_setC h _ (h.num _).1 (h.num _).2
    · exact h
  · split
    · exact okm_setR h _ (h.kept _).1 (h.kept _).2
    · exact h
  · split
    · exact okm_setK h _ (h.num _).1 (h.num _).2
    · exact h
  · exact h
  · exact okm_same h ⟨rfl, rfl, rfl, rfl⟩
  · dsimp only; split
    · exact okm_same h ⟨rfl, rfl, rfl, rfl⟩
    · exact h
  · dsimp only; split
    · exact okm_same h ⟨rfl, rfl, rfl, rfl⟩
    · exact h
  · exact okm_same h ⟨rfl, rfl, rfl, rfl⟩
  · exact h

theorem okm_stepF (row r s : Nat) (n : Int) (m : MS) (l : List UInt8) (h : Okm m) (h0 : -9223372036854775808 ≤ n) (h1 : n ≤ 9223372036854775807) : Okm (stepF row r s n m l).1 := by
  have hm1 : Okm { m with next := m.line + 1 } := okm_same h ⟨rfl, rfl, rfl, rfl⟩
  have hd := okm_doF row r s n { m with next := m.line + 1 } l hm1 h0 h1
  unfold stepF
  dsimp only
  split
  · exact okm_same h ⟨rfl, rfl, rfl, rfl⟩
  · split
    · exact hd
    · exact okm_same hd ⟨rfl, rfl, rfl, rfl⟩

/-- A number's text is short. -/
theorem itoa_len (n : Int) (h0 : -9223372036854775808 ≤ n) (h1 : n ≤ 9223372036854775807) : (Lib.itoa n).length ≤ 20 := by
  rcases Int.lt_trichotomy n 0 with h | h | h
  · obtain ⟨u, rfl⟩ : ∃ u : Nat, n = -(u : Int) := ⟨n.natAbs, by omega⟩
    rw [itoa_neg u (by omega)]
    have := dd_len20 u (by omega)
    simp; omega
  · subst h; decide +kernel
  · obtain ⟨u, rfl⟩ : ∃ u : Nat, n = (u : Int) := ⟨n.natAbs, by omega⟩
    rw [itoa_pos u (by omega)]
    have := dd_len20 u (by omega)
    omega
theorem putF_len (l : List UInt8) (n : Int) (h0 : -9223372036854775808 ≤ n) (h1 : n ≤ 9223372036854775807) : (putF l n).length ≤ l.length + 21 := by
  have := itoa_len n h0 h1
  unfold putF
  split
  · omega
  · simp; omega
theorem doF_len (row r s : Nat) (n : Int) (m : MS) (l : List UInt8) (h : Okm m) : (doF row r s n m l).2.2.length ≤ l.length + 21 := by
  have := putF_len l (m.num r) (h.num r).1 (h.num r).2
  unfold doF
  split <;> (try split) <;> first | omega | (simp only; omega)
theorem stepF_len (row r s : Nat) (n : Int) (m : MS) (l : List UInt8) (h : Okm m) : (stepF row r s n m l).2.length ≤ l.length + 21 := by
  have hm1 : Okm { m with next := m.line + 1 } := okm_same h ⟨rfl, rfl, rfl, rfl⟩
  have hd := doF_len row r s n { m with next := m.line + 1 } l hm1
  unfold stepF
  dsimp only
  split
  · exact Nat.le_add_right _ _
  · split
    · exact hd
    · exact hd

/-- The machine's slice does not matter. -/
theorem doF_out (row r s : Nat) (n : Int) (m : MS) (l : List UInt8) (v : Value) : doF row r s n { m with out := v } l = ((doF row r s n m l).1, { (doF row r s n m l).2.1 with out := v }, (doF row r s n m l).2.2) := by
  unfold doF
  split <;> dsimp only [MS.setR, MS.setC, MS.setK] <;> (try (split <;> rfl))
theorem stepF_out (row r s : Nat) (n : Int) (m : MS) (l : List UInt8) (v : Value) : stepF row r s n { m with out := v } l = ({ (stepF row r s n m l).1 with out := v }, (stepF row r s n m l).2) := by
  have hd := doF_out row r s n { m with next := m.line + 1 } l v
  unfold stepF
  dsimp only at hd ⊢
  have hu : unsetF row r s { m with out := v, next := m.line + 1 } = unsetF row r s { m with next := m.line + 1 } := rfl
  rw [hu, hd]
  split
  · rfl
  · dsimp only
    split
    · rfl
    · rfl

/-- Where a run goes on: the next line is one of the program's. -/
theorem doF_next (row r s : Nat) (n : Int) (m : MS) (l : List UInt8) (hrow : row < 17) : (doF row r s n m l).2.1.how = (if row = 16 then 1 else m.how) ∧ ((doF row r s n m l).2.1.next = m.next ∧ row ≠ 13 ∨ 13 ≤ row ∧ row ≤ 15 ∧ (doF row r s n m l).2.1.next = n) := by
  match row, hrow with
  | 0, _ => simp [doF, MS.setR]
  | 1, _ => simp [doF, MS.setR]
  | 2, _ => simp [doF, MS.setR]
  | 3, _ => simp [doF, MS.setR]
  | 4, _ => simp [doF, MS.setR]
  | 5, _ => simp [doF, MS.setR]
  | 6, _ => simp only [doF]; split <;> simp [MS.setR]
  | 7, _ => simp only [doF]; split <;> simp [MS.setR]
  | 8, _ => simp only [doF]; split <;> simp [MS.setR]
  | 9, _ => simp only [doF]; split <;> simp [MS.setC]
  | 10, _ => simp only [doF]; split <;> simp [MS.setR]
  | 11, _ => simp only [doF]; split <;> simp [MS.setK]
  | 12, _ => simp [doF]
  | 13, _ => simp [doF]
  | 14, _ => simp only [doF]; split <;> simp
  | 15, _ => simp only [doF]; split <;> simp
  | 16, _ => simp [doF]
  | k + 17, h => exact absurd h (by omega)

theorem falls_of (row : Nat) (h : row < 17) (h1 : row ≠ 13) (h2 : row ≠ 16) : wFalls row = true := by
  match row, h with
  | 0, _ => first | rfl | exact absurd rfl h1 | exact absurd rfl h2
  | 1, _ => first | rfl | exact absurd rfl h1 | exact absurd rfl h2
  | 2, _ => first | rfl | exact absurd rfl h1 | exact absurd rfl h2
  | 3, _ => first | rfl | exact absurd rfl h1 | exact absurd rfl h2
  | 4, _ => first | rfl | exact absurd rfl h1 | exact absurd rfl h2
  | 5, _ => first | rfl | exact absurd rfl h1 | exact absurd rfl h2
  | 6, _ => first | rfl | exact absurd rfl h1 | exact absurd rfl h2
  | 7, _ => first | rfl | exact absurd rfl h1 | exact absurd rfl h2
  | 8, _ => first | rfl | exact absurd rfl h1 | exact absurd rfl h2
  | 9, _ => first | rfl | exact absurd rfl h1 | exact absurd rfl h2
  | 10, _ => first | rfl | exact absurd rfl h1 | exact absurd rfl h2
  | 11, _ => first | rfl | exact absurd rfl h1 | exact absurd rfl h2
  | 12, _ => first | rfl | exact absurd rfl h1 | exact absurd rfl h2
  | 13, _ => first | rfl | exact absurd rfl h1 | exact absurd rfl h2
  | 14, _ => first | rfl | exact absurd rfl h1 | exact absurd rfl h2
  | 15, _ => first | rfl | exact absurd rfl h1 | exact absurd rfl h2
  | 16, _ => first | rfl | exact absurd rfl h1 | exact absurd rfl h2
  | k + 17, h => exact absurd h (by omega)
theorem stepF_next (L k : Nat) (x : Ln) (m : MS) (l : List UInt8) (hx : LineOk L k x) (hk : k < L) (hm : m.line = (k : Int)) (hg : (stepF x.word.toNat x.r.toNat x.s.toNat x.n m l).1.how = 0) :
    ∃ k' : Nat, k' < L ∧ (stepF x.word.toNat x.r.toNat x.s.toNat x.n m l).1.next = (k' : Int) := by
  obtain ⟨row, hrow, hw⟩ := hx.word
  have hwn : x.word.toNat = row := by omega
  have hf := hx.falls
  have hj := hx.jumps
  rw [hwn] at hg hf hj ⊢
  have hn := doF_next row x.r.toNat x.s.toNat x.n { m with next := m.line + 1 } l hrow
  unfold stepF at hg ⊢
  dsimp only at hg hn ⊢
  split at hg
  · cases hg
  · rename_i hu
    rw [if_neg hu]
    split at hg
    · rename_i h0
      rw [if_pos h0]
      rw [hg] at hn
      obtain ⟨h1, h2⟩ := hn
      have hr16 : row ≠ 16 := by intro e; rw [if_pos e] at h1; cases h1
      rcases h2 with ⟨h2, h13⟩ | ⟨ha, hb, h2⟩
      · refine ⟨k + 1, hf (falls_of row hrow h13 hr16), ?_⟩
        rw [h2, hm]; rfl
      · obtain ⟨hj0, hj1⟩ := hj ha hb
        exact ⟨x.n.toNat, by omega, by rw [h2]; omega⟩
    · cases hg

end Go.Proofs.YtngopilbpiplhaaGreatDoor
