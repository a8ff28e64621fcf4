/-
  The contracts of machine.New and State.
-/
import Derived.Test.YtngopilbpiplhaaGreatDoorOut
import Derived.Lib.BufferWrite
namespace Go.Proofs.YtngopilbpiplhaaGreatDoor
open Go.RowKit

/-- A machine that was not used. -/
def MS.zero : MS := { line := 0, next := 0, how := 0, why := 0, value := 0, input := fun _ => 0, cells := fun _ => 0, kept := fun _ => 0, set := fun _ => false, num := fun _ => 0, out := .slice none 0 0 }

/-- The input's bytes: as many as were handed in, 0 in place of those that are missing. -/
def inputOf (l : List UInt8) : Nat → Nat := fun i => (l.getD i 0).toNat
def MS.start (l : List UInt8) : MS := { MS.zero with input := inputOf l }

theorem zero_marr : Tryz.zeroCells150 = marr MS.zero := by rfl

theorem start_arr (l : List UInt8) : ((marr MS.zero).toList.take 5 ++ Lib.byteCells (l.take 64) ++ (marr MS.zero).toList.drop (5 + (l.take 64).length)).toArray = marr (MS.start l) := by
  apply Array.ext_getElem?
  intro j
  have hz : ∀ k, k < 110 → (marr MS.zero).toList[k]? = some (mcell MS.zero k) := fun k hk => by rw [Array.getElem?_toList, marr_get _ hk]
  have hlz : (marr MS.zero).toList.length = 110 := by rw [Array.length_toList, marr_size]
  have hl5 : ((marr MS.zero).toList.take 5).length = 5 := by rw [List.length_take, hlz]; rfl
  have hlb : (Lib.byteCells (l.take 64)).length = (l.take 64).length := by simp [Lib.byteCells]
  have hl64 : (l.take 64).length ≤ 64 := List.length_take_le _ _
  rw [List.getElem?_toArray]
  by_cases h1 : j < 110
  · rw [marr_get _ h1]
    by_cases h2 : j < 5
    · rw [List.getElem?_append_left (by rw [List.length_append]; omega), List.getElem?_append_left (by omega), List.getElem?_take, if_pos h2, hz j h1]
      congr 1
      exact lt5_cases (p := fun j => mcell MS.zero j = mcell (MS.start l) j) rfl rfl rfl rfl rfl j h2
    · by_cases h3 : j < 5 + (l.take 64).length
      · rw [List.getElem?_append_left (by rw [List.length_append]; omega), List.getElem?_append_right (by omega), hl5]
        have h6 : j - 5 < l.length := by rw [List.length_take] at h3; omega
        have : (Lib.byteCells (l.take 64))[j - 5]? = some (.int .u8 ((l[j - 5]).toNat : Int)) := by
          simp only [Lib.byteCells, List.getElem?_map, List.getElem?_take]
          rw [if_pos (by omega), List.getElem?_eq_getElem h6]; rfl
        rw [this]
        congr 1
        have hm := mcell_input (MS.start l) (j - 5) (by omega)
        rw [show 5 + (j - 5) = j by omega] at hm
        rw [hm]
        simp [MS.start, inputOf, List.getD, List.getElem?_eq_getElem h6]
      · rw [List.getElem?_append_right (by rw [List.length_append]; omega), List.getElem?_drop, List.length_append, hl5, hlb, show 5 + (l.take 64).length + (j - (5 + (l.take 64).length)) = j by omega, hz j h1]
        congr 1
        by_cases h4 : j < 69
        · have hm := mcell_input (MS.start l) (j - 5) (by omega)
          have hm0 := mcell_input MS.zero (j - 5) (by omega)
          rw [show 5 + (j - 5) = j by omega] at hm hm0
          rw [hm, hm0]
          have h6 : l.length ≤ j - 5 := by rw [List.length_take] at h3; omega
          simp [MS.start, inputOf, MS.zero, List.getD, List.getElem?_eq_none h6]
        · have h5' : ¬ j < 5 := h2
          unfold mcell
          simp only [h5', h4, if_false]
          rfl
  · have a2 : (marr (MS.start l))[j]? = none := Array.getElem?_eq_none (by rw [marr_size]; omega)
    rw [a2, List.getElem?_eq_none (by rw [List.length_append, List.length_append, List.length_drop, hl5, hlb, hlz]; omega)]

theorem take_min64 (L : List UInt8) : L.take (min 64 L.length) = L.take 64 := by
  rcases Nat.le_total 64 L.length with h | h
  · rw [Nat.min_eq_left h]
  · rw [Nat.min_eq_right h, List.take_of_length_le h, List.take_of_length_le (Nat.le_refl _)]
theorem run_copy64 (w : World) (ty g : Nat) (s : ByteArray) (cur : Array Value) (t : TypeId) (hg : w.heap[g]? = some (.cells cur t (0, 0))) (hfit : 69 ≤ cur.size) :
    (Builtin.copy_ #[76, 9] ty #[.slice (some ⟨g, 5, none⟩) 64 64, .string s]).run Tryz.prog w =
      .ok (.int .i64 ((min 64 s.data.toList.length : Nat) : Int)) (w.setRow g (cur.toList.take 5 ++ Lib.byteCells (s.data.toList.take 64) ++ cur.toList.drop (5 + (s.data.toList.take 64).length)).toArray) := by
  have hmm : (s.data.toList.take 64).length = min 64 s.data.toList.length := List.length_take ..
  have hn : Nat.min s.size 64 = min 64 s.data.toList.length := by rw [← Lib.size_eq]; exact Nat.min_comm _ _
  have hlen : (Lib.byteCells (s.data.toList.take 64)).length = min 64 s.data.toList.length := by rw [← hmm]; simp [Lib.byteCells]
  have hst := run_storeCells_at Tryz.prog g 5 t (Lib.byteCells (s.data.toList.take 64)) 0 cur w hg (by rw [hlen]; omega) (Lib.byteCells_one _)
  have htk : List.take (min 64 s.data.toList.length) (List.map (fun b : UInt8 => Value.int IntKind.u8 (b.toNat : Int)) s.data.toList) = Lib.byteCells (s.data.toList.take 64) := by
    rw [← List.map_take, take_min64]
    rfl
  rw [hlen] at hst
  rw [hmm]
  simp only [Nat.add_zero] at hst
  have hu := Tryz.underlying76
  obtain ⟨i, hi, _, hz, _⟩ := info_parts infoU8
  simp only [Builtin.copy_, Builtin.lenOf, Builtin.firstCells]
  simp [run_underlying hu, sizeOf, typeInfo, hi]
  rw [hn, htk, hst]
  simp [Result.andThen]
  trace_state
  rfl

set_option maxRecDepth 1000000 in
set_option maxHeartbeats 2000000 in
theorem New_any (l : List UInt8) (w : World) :
    Calls Tryz.prog 35 #[.string ⟨l.toArray⟩] w fun e w' => e = .returned (.pointer (some ⟨w.heap.size, 0, none⟩)) ∧ Mach w' w.heap.size ((MS.start l).setR 0 ((min 64 l.length : Nat) : Int)) ∧ Below w.heap.size w w' := by
  have hblk := blk_new w (.cells Tryz.zeroCells150 150)
  have hcp := run_copy64 (w.alloc (.cells Tryz.zeroCells150 150)) 3 w.heap.size ⟨l.toArray⟩ _ _ hblk (by rw [zero_marr, marr_size]; omega)
  have hm : Mach ((w.alloc (.cells Tryz.zeroCells150 150)).setRow w.heap.size (Tryz.zeroCells150.toList.take 5 ++ Lib.byteCells (l.take 64) ++ Tryz.zeroCells150.toList.drop (5 + (l.take 64).length)).toArray) w.heap.size (MS.start l) := by
    unfold Mach
    rw [setRow_heap _ _ _ _ _ _ hblk, zero_marr, start_arr]
  have hb : Below w.heap.size w ((w.alloc (.cells Tryz.zeroCells150 150)).setRow w.heap.size (Tryz.zeroCells150.toList.take 5 ++ Lib.byteCells (l.take 64) ++ Tryz.zeroCells150.toList.drop (5 + (l.take 64).length)).toArray) := by
    have h0 : Below w.heap.size w (w.alloc (.cells Tryz.zeroCells150 150)) := (Below.refl _ _).alloc (Nat.le_refl _) _
    refine ⟨h0.os, h0.tape, h0.output, ?_, fun k hk => ?_⟩
    · simp [World.setRow]
    · rw [← h0.block k hk]
      simp only [World.setRow, Array.getElem?_modify]
      rw [if_neg (by omega)]
  have e0 : (⟨l.toArray⟩ : ByteArray).data.toList = l := rfl
  rw [e0] at hcp
  clear e0 hblk
  generalize (w.alloc (.cells Tryz.zeroCells150 150)).setRow w.heap.size (Tryz.zeroCells150.toList.take 5 ++ Lib.byteCells (l.take 64) ++ Tryz.zeroCells150.toList.drop (5 + (l.take 64).length)).toArray = W1 at *
  have HM := hide hm
  clear hm
  go_enter Tryz.func35, Tryz.ntmps35
  go_wp2_with fail
  refine (Set_any _ w.heap.size 0 _ _ (by omega) HM.out).mono ?_
  rintro e w2 ⟨rfl, rfl⟩
  go_wp2
  go_ret
  exact ⟨rfl, setW_mach (by omega) HM.out _, hb.trans ((setW_keep w.heap.size w.heap.size W1 0 _).below (Nat.le_refl _))⟩

end Go.Proofs.YtngopilbpiplhaaGreatDoor
