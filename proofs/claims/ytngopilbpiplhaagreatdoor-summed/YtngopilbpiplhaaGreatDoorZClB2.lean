/-
  The contract of prover.begin: a search in new memory, as it stands ahead of the first round.
-/
import Derived.Test.YtngopilbpiplhaaGreatDoorZClRa
import Derived.Test.YtngopilbpiplhaaGreatDoorZParse
import Derived.Deep.OwnRows
namespace Go.Proofs.YtngopilbpiplhaaGreatDoor
open Go.RowKit
set_option linter.unusedVariables false

theorem infoCl : (Tryz.prog.info? 135).map (fun i => (i.zero, i.size, i.bytes)) = some (some (.agg (clCells clNone)), 25, 144) := by kernel_rfl
theorem made_get (z : Array Value) (hz : z.size = 25) (n k j : Nat) (hk : k < n) (hj : j < 25) : (madeCells z (n * 25))[k * 25 + j]? = z[j]? := by
  have h1 : k * 25 + j < n * 25 := by omega
  have h2 : (k * 25 + j) % 25 = j := by omega
  have h3 : j < z.size := by omega
  simp [madeCells, h1, hz, h2]
  rw [getElem!_pos z j h3, Array.getElem?_eq_getElem h3]
theorem claims_made (w : World) (n : Nat) : ClaimsAt (w.alloc (.cells (madeCells (clCells clNone) (n * 25)) 135)) w.heap.size (List.replicate n clNone) := by
  have hb := blk_new w (.cells (madeCells (clCells clNone) (n * 25)) 135)
  refine ⟨fun j hj => ?_, fun k c hk j v hv => ?_⟩
  · rw [List.length_replicate] at hj
    rw [Nat.zero_add, cell_of_blk hb, frozen_of_blk hb]
    refine ⟨?_, rfl⟩
    have hs : j < (madeCells (clCells clNone) (n * 25)).size := by rw [size_madeCells]; exact hj
    rw [Array.getElem?_eq_getElem hs]
    rfl
  · obtain ⟨hk1, hk2⟩ := List.getElem?_eq_some_iff.1 hk
    rw [List.length_replicate] at hk1
    have : c = clNone := by rw [← hk2]; simp
    subst this
    have hj : j < 25 := (List.getElem?_eq_some_iff.1 hv).1
    rw [cell_of_blk hb, made_get _ rfl n k j hk1 hj]
    simpa using hv
theorem set_never (n k : Nat) (h : k < n) : (List.replicate k clNever ++ List.replicate (n - k) clNone).set k clNever = List.replicate (k + 1) clNever ++ List.replicate (n - (k + 1)) clNone := by
  rw [show n - k = (n - (k + 1)) + 1 by omega, List.replicate_succ, List.set_append_right _ _ (by simp)]
  simp [List.replicate_succ']
theorem made_ints (n : Nat) : madeCells #[.int .i64 0] n = arrC n (chF (List.replicate n 0)) := by
  apply Array.ext_getElem?
  intro j
  by_cases h : j < n
  · rw [arrC_get _ _ h]
    have h1 : j % 1 = 0 := Nat.mod_one j
    simp [madeCells, h, chF, Nat.mod_one]
  · simp [madeCells, arrC, h]

/-- A claim stored among claims. -/
theorem wpList_storeMidCl {ops : Array Oper} {rest : List Oper} {o : Oper} {a : Act} {w : World} {Q : Exit → Act → World → Prop} (hgd : o.guard = none) (x y : Operand) (ho : o.op = .store 135 x y) (b p : Nat) (c : Cl) (hx : a.eval x = .pointer (some ⟨b, p, none⟩)) (hy : a.eval y = .agg (clCells c))
    (ht : Hid (w.there b p 25)) (h : ∀ w', Hid (w' = w.setCells b p (clCells c).toList) → wpList Tryz.prog ops Q rest (a.put o.dst undef) w') : wpList Tryz.prog ops Q (o :: rest) a w :=
  wpList_store_mid hgd 135 x y ho b p (clCells c) hx hy ht.out (by kernel_rfl) (cl_one c) (h _ (hide rfl))

set_option maxRecDepth 100000 in
set_option maxHeartbeats 1000000 in
theorem begin_any (s0 g gcap : Nat) (xs : List Ln) (w : World) (hn : xs.length ≤ 100) (h0 : 0 < xs.length) (hT : Table s0 w) (hts : s0 + 56 ≤ w.heap.size) (hL : LinesAt w g xs) :
    Calls Tryz.prog 117 #[.slice (some ⟨s0 + 55, 0, none⟩) 17 17, .slice (some ⟨g, 0, none⟩) xs.length gcap] w
      fun e w' => ∃ sb hb : Nat, e = .returned (.pointer (some ⟨sb, 0, none⟩)) ∧ SAt w' sb s0 g gcap w.heap.size hb xs (start0 xs.length).1 (start0 xs.length).2 ∧ Below w.heap.size w w' ∧ w.heap.size < hb ∧ hb < sb := by
  obtain ⟨i0, hi, hz0, hz1, hz2⟩ := info_parts infoCl
  have hmk := run_make (P := Tryz.prog) w 91 135 i0 _ Tryz.underlying91 hi hz0 .i64 .i64 (xs.length : Int) (xs.length : Int) (by omega) (by omega) (by rw [hz2]; omega) (by omega)
  simp only [Int.toNat_natCast, hz1, show (Value.agg (clCells clNone)).cells = clCells clNone from rfl] at hmk
  have hmi := run_make_row' (P := Tryz.prog) 22 3 (.int .i64 0) 8 Tryz.underlying22 (by kernel_rfl) rfl .i64 .i64 xs.length (by omega) (by omega)
  rw [made_ints] at hmi
  have HMI := hide hmi
  have hC0 := claims_made w xs.length
  have hb0 : Below w.heap.size w (w.alloc (.cells (madeCells (clCells clNone) (xs.length * 25)) 135)) := (Below.refl _ _).alloc (Nat.le_refl _) _
  have hs0 : (w.alloc (.cells (madeCells (clCells clNone) (xs.length * 25)) 135)).heap.size = w.heap.size + 1 := World.size_alloc _ _
  have HT := hide hT
  have HL := hide hL
  have hlg := hL.lt
  clear hi hz0 hz1 hz2 hT hL hmi
  go_enter Tryz.func117, Tryz.ntmps117
  go_wp2_with fail
  clear hmk
  generalize w.alloc (.cells (madeCells (clCells clNone) (xs.length * 25)) 135) = W0 at *
  have HC0 := hide hC0
  have HB0 := hide hb0
  clear hC0 hb0
  go_loopw [12] (fun iv w' => ∃ k : Nat, k ≤ xs.length ∧ iv = .int .i64 k ∧ ClaimsAt w' w.heap.size (List.replicate k clNever ++ List.replicate (xs.length - k) clNone) ∧ Below w.heap.size w w' ∧ w.heap.size < w'.heap.size) (fun iv _ => xs.length - (intOf iv).toNat)
  case atStart => exact ⟨0, Nat.zero_le _, rfl, HC0.out, HB0.out, by omega⟩
  case round =>
    obtain ⟨k, hk, rfl, hC, hB, hsz⟩ := hrel
    have HC := hide hC
    have HB := hide hB
    clear hC hB
    obtain ⟨W9, hW9⟩ : ∃ W : World, W = wr := ⟨_, rfl⟩
    subst hW9
    by_cases hlt : k < xs.length
    · have hltI : (k : Int) < (xs.length : Int) := by omega
      go_wp2_with fail
      refine (Never_any W9).mono ?_
      rintro e w1 ⟨rfl, hw1⟩
      have hb1 : Below W9.heap.size W9 w1 := by rw [hw1]; exact (Below.refl _ _).alloc (Nat.le_refl _) _
      have HC1 := hide (HC.out.mono (hb1.block _ hsz))
      have HB1 := hide (HB.out.trans (hb1.mono HB.out.size))
      have hs1 := hb1.size
      clear hw1 hb1
      have hl : (List.replicate k clNever ++ List.replicate (xs.length - k) clNone).length = xs.length := by simp; omega
      have HTH : Hid (w1.there w.heap.size (k * 25) 25) := hide (HC1.out.there (by omega))
      go_wp2_with (refine wpList_storeMidCl rfl (.tmp 18) (.tmp 17) rfl w.heap.size (k * 25) clNever rfl rfl HTH ?_)
      intro w2 hw2
      have HC2 := hide (HC1.out.set (t := k) (by omega) clNever clNever rfl)
      rw [← hw2.out] at HC2
      have HK2 := hide (keep_setCells w.heap.size w.heap.size (clCells clNever).toList (k * 25) w1)
      rw [← hw2.out] at HK2
      have hs2 := setCells_size w.heap.size (clCells clNever).toList (k * 25) w1
      rw [← hw2.out] at hs2
      clear hw2
      go_wp2
      go_roundw
      case rel =>
        refine ⟨k + 1, by omega, by go_num, ?_, HB1.out.trans (HK2.out.below (Nat.le_refl _)), by omega⟩
        rw [← set_never _ _ hlt]
        exact HC2.out
      case measure => simp [intOf]; omega
    · obtain rfl : k = xs.length := by omega
      go_wp2_with fail
      refine (Start_any W9).mono ?_
      rintro e w1 ⟨rfl, hb1⟩
      have HC1 := hide (HC.out.mono (hb1.block _ hsz))
      have HB1 := hide (HB.out.trans (hb1.mono HB.out.size))
      have hs1 := hb1.size
      clear hb1
      have hl : (List.replicate xs.length clNever ++ List.replicate (xs.length - xs.length) clNone).length = xs.length := by simp
      have h0I : (0 : Int) < (xs.length : Int) := by omega
      have HTH : Hid (w1.there w.heap.size 0 25) := hide (HC1.out.there (t := 0) (by omega))
      go_wp2_with (refine wpList_storeMidCl rfl (.tmp 22) (.tmp 21) rfl w.heap.size 0 clStart rfl rfl HTH ?_)
      intro w2 hw2
      have HC2 := hide (HC1.out.set (t := 0) (by omega) clStart clStart rfl)
      rw [Nat.zero_mul, ← hw2.out] at HC2
      have HK2 := hide (keep_setCells w.heap.size w.heap.size (clCells clStart).toList 0 w1)
      rw [← hw2.out] at HK2
      have hs2 := setCells_size w.heap.size (clCells clStart).toList 0 w1
      rw [← hw2.out] at hs2
      clear hw2
      have hmi := HMI.out
      go_wp2
      have hB2 : Below w.heap.size w w2 := HB1.out.trans (HK2.out.below (Nat.le_refl _))
      have hH := blk_new w2 (.cells (arrC xs.length (chF (List.replicate xs.length 0))) 3)
      have hsA : (w2.alloc (.cells (arrC xs.length (chF (List.replicate xs.length 0))) 3)).heap.size = w2.heap.size + 1 := World.size_alloc _ _
      have hBA : Below w2.heap.size w2 (w2.alloc (.cells (arrC xs.length (chF (List.replicate xs.length 0))) 3)) := (Below.refl _ _).alloc (Nat.le_refl _) _
      generalize w2.alloc (.cells (arrC xs.length (chF (List.replicate xs.length 0))) 3) = w3 at *
      have hS := blk_new w3 (.cells #[.slice (some ⟨s0 + 55, 0, none⟩) 17 17, .slice (some ⟨g, 0, none⟩) xs.length gcap, .slice (some ⟨w.heap.size, 0, none⟩) xs.length xs.length, .slice (some ⟨w1.heap.size, 0, none⟩) xs.length xs.length] 196)
      have hsB : (w3.alloc (.cells #[.slice (some ⟨s0 + 55, 0, none⟩) 17 17, .slice (some ⟨g, 0, none⟩) xs.length gcap, .slice (some ⟨w.heap.size, 0, none⟩) xs.length xs.length, .slice (some ⟨w1.heap.size, 0, none⟩) xs.length xs.length] 196)).heap.size = w3.heap.size + 1 := World.size_alloc _ _
      have hBB : Below w3.heap.size w3 (w3.alloc (.cells #[.slice (some ⟨s0 + 55, 0, none⟩) 17 17, .slice (some ⟨g, 0, none⟩) xs.length gcap, .slice (some ⟨w.heap.size, 0, none⟩) xs.length xs.length, .slice (some ⟨w1.heap.size, 0, none⟩) xs.length xs.length] 196)) := (Below.refl _ _).alloc (Nat.le_refl _) _
      generalize w3.alloc (.cells #[.slice (some ⟨s0 + 55, 0, none⟩) 17 17, .slice (some ⟨g, 0, none⟩) xs.length gcap, .slice (some ⟨w.heap.size, 0, none⟩) xs.length xs.length, .slice (some ⟨w1.heap.size, 0, none⟩) xs.length xs.length] 196) = w4 at *
      have hB24 : Below w2.heap.size w2 w4 := hBA.trans (hBB.mono (by omega))
      have hB4 : Below w.heap.size w w4 := hB2.trans (hB24.mono (by omega))
      have hS4 : SAt w4 (w1.heap.size + 1) s0 g gcap w.heap.size w1.heap.size xs (start0 xs.length).1 (start0 xs.length).2 := by
        have hz : w3.heap.size = w1.heap.size + 1 := by omega
        rw [hz] at hS
        rw [hs2] at hH
        refine ⟨cell_of_blk hS 0, cell_of_blk hS 1, cell_of_blk hS 2, cell_of_blk hS 3, HT.out.mono fun j _ hj => hB4.block j (by omega), HL.out.mono (hB4.block _ hlg), ?_, by simp [start0], (hBB.block _ (by omega)).trans hH, by omega, by omega, by omega⟩
        have := HC2.out.mono (hB24.block w.heap.size (by omega))
        rwa [Nat.sub_self, List.replicate_zero, List.append_nil] at this
      go_ret
      exact ⟨_, _, rfl, hS4, hB4, by omega, by omega⟩

end Go.Proofs.YtngopilbpiplhaaGreatDoor
