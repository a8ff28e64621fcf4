/-
  The contract of reader.parseLine: the line that a text says, or none; new blocks alone.
-/
import Derived.Test.YtngopilbpiplhaaGreatDoorPart
namespace Go.Proofs.YtngopilbpiplhaaGreatDoor
open Go.RowKit

def LineRes (t : List UInt8) (w : World) (e : Ending) (w' : World) : Prop :=
  (∃ x, lineF t = some x ∧ e = .returned (.tuple #[.agg (lnArr x), .bool true]) ∨ lineF t = none ∧ e = .returned (.tuple #[.agg (lnArr x), .bool false])) ∧ Below w.heap.size w w'

set_option maxHeartbeats 2000000 in
theorem parseLine_any (t : List UInt8) (s : Nat) (w : World) (hs : t.length < 4294967281) (hg : Glob w) (ht : w.heap[s + 55]? = some (.cells (trows s) 140)) :
    Calls Tryz.prog 156 #[.slice (some ⟨s + 55, 0, none⟩) 17 17, .string ⟨t.toArray⟩] w fun e w' => LineRes t w e w' := by
  have HT := hide ht
  have hlt := blk_lt ht
  clear ht
  have hg2 : ∀ o1 o2 : Obj, Glob ((w.alloc o1).alloc o2) := fun o1 o2 => hg.below (((Below.refl w.heap.size w).alloc (Nat.le_refl _) o1).alloc (by simp) o2) hg.size
  have hg1 : ∀ o1 : Obj, Glob (w.alloc o1) := fun o1 => hg.below ((Below.refl w.heap.size w).alloc (Nat.le_refl _) o1) hg.size
  have hgs := hg.size
  go_enter Tryz.func156, Tryz.ntmps156
  go_wp2_with fail
  refine (Split_one _ _ _ hs (hg1 _)).mono ?_
  rintro e w' ⟨rfl, rfl⟩
  cases hcut : cutAt 32 t with
  | nil => exact absurd hcut (cutAt_ne _ _)
  | cons nm ps =>
    have HC := hide hcut
    have hpl : ∀ p ∈ nm :: ps, p.length ≤ t.length := fun p hp => cutAt_piece 32 t p (by rw [hcut]; exact hp)
    have hps : ps.length ≤ t.length := by have := cutAt_len 32 t; rw [hcut] at this; simpa using this
    clear hcut
    go_wp2_with fail
    refine (Find_any nm s _ ?_).mono ?_
    · rw [Below.heap_alloc _ _ _ (by simp; omega), Below.heap_alloc _ _ _ hlt]; exact HT.out
    rintro e w1 ⟨rfl, hb1⟩
    have hN : w.heap.size + 2 ≤ w1.heap.size := by have := hb1.size; simp at this; omega
    have k0 : w1.heap[w.heap.size]? = some (.cells #[.int .i64 0, .int .i64 0, .int .i64 0, .int .i64 0] 122) := by
      rw [hb1.block _ (by simp; omega), Below.heap_alloc _ _ _ (by simp), blk_new]
    have k1 : w1.heap[w.heap.size + 1]? = some (.cells ((nm :: ps).map fun p => Value.string ⟨p.toArray⟩).toArray 9) := by
      rw [hb1.block _ (by simp)]
      have := blk_new (w.alloc (.cells #[.int .i64 0, .int .i64 0, .int .i64 0, .int .i64 0] 122)) (.cells ((nm :: ps).map fun p => Value.string ⟨p.toArray⟩).toArray 9)
      simpa using this
    have hbw : Below w.heap.size w w1 := by
      refine Below.trans ?_ (hb1.mono (by simp; omega))
      exact ((Below.refl _ _).alloc (Nat.le_refl _) _).alloc (by simp) _
    have kt : w1.heap[s + 55]? = some (.cells (trows s) 140) := (hbw.block _ hlt).trans HT.out
    have hg3 : Glob w1 := hg.below hbw hgs
    clear hb1 hg1 hg2 hg
    have cz : ∀ o, w1.cell? ⟨w.heap.size, o, none⟩ = (#[.int .i64 0, .int .i64 0, .int .i64 0, .int .i64 0] : Array Value)[o]? := cell_of_blk k0
    have fz : ∀ o, w1.frozen? ⟨w.heap.size, o, none⟩ = false := frozen_of_blk k0
    have z0 : w1.cell? ⟨w.heap.size, 0, none⟩ = some (.int .i64 0) := cz 0
    have z1 : w1.cell? ⟨w.heap.size, 1, none⟩ = some (.int .i64 0) := cz 1
    have z2 : w1.cell? ⟨w.heap.size, 2, none⟩ = some (.int .i64 0) := cz 2
    have z3 : w1.cell? ⟨w.heap.size, 3, none⟩ = some (.int .i64 0) := cz 3
    clear cz
    have K0 := hide k0
    have K1 := hide k1
    have KT := hide kt
    clear k0 k1 kt
    cases hf : findF nm with
    | none =>
      have HN : Hid (lineF t = none) := hide (by unfold lineF; rw [HC.out]; simp [hf])
      clear hf
      rw [show resReg none = .tuple #[.int .i64 0, .bool false] from rfl]
      go_wp2
      exact bodyPost_ret (v := .tuple #[.agg #[.int .i64 0, .int .i64 0, .int .i64 0, .int .i64 0], .bool false]) (by simp [results, Tryz.results156, go_sem, z0, z1, z2, z3]) rfl ⟨⟨⟨0, 0, 0, 0⟩, .inr ⟨HN.out, rfl⟩⟩, by repeat (first | exact hbw | refine Below.setCell (B := w.heap.size) (p := ⟨w.heap.size, _, none⟩) ?_ (Nat.le_refl w.heap.size) _)⟩
    | some row =>
      have hrow := findF_lt hf
      have hw3 := parts_len hrow
      rw [show resReg (some row) = .tuple #[.int .i64 (row : Int), .bool true] from rfl]
      have hr := rowAt KT.out hrow
      have r1 := hr.parts
      clear hr
      by_cases hl : ps.length = (wParts row).length
      · have hl' : (((ps.length : Int) + 1) != 1 + ((wParts row).length : Int)) = false := by rw [bne_eq_false_iff_eq]; omega
        have HF : Hid (lineF t = partsF ⟨row, 0, 0, 0⟩ (wParts row) ps) := hide (by unfold lineF; rw [HC.out]; simp [hf, hl])
        clear hf
        have hps3 : ps.length ≤ 3 := by omega
        have hp1 := parts_pos hrow
        have hne : ¬ ps = [] := fun e => by rw [e] at hl; simp at hl; omega
        have hla : ps.length ≤ (wParts row).length := by omega
        have hlb : (wParts row).length ≤ ps.length := by omega
        clear hl
        go_wp2
        go_loopw [43] (fun i w' => ∃ (k : Nat) (x : Ln), k ≤ ps.length ∧ i = .int .i64 k ∧ partsF ⟨row, 0, 0, 0⟩ (wParts row) ps = partsF x ((wParts row).drop k) (ps.drop k) ∧ w'.heap[w1.heap.size]? = some (.cells (lnArr x) 122) ∧ Below w1.heap.size w1 w') (fun i _ => ps.length - (intOf i).toNat)
        case atStart =>
          exact ⟨0, ⟨row, 0, 0, 0⟩, Nat.zero_le _, rfl, rfl, blk_new _ _, (Below.refl _ _).alloc (Nat.le_refl _) _⟩
        case round =>
          obtain ⟨k, x, hk, rfl, hx, hbx, hbr⟩ := hrel
          have HX := hide hx
          have HBX := hide hbx
          clear hx hbx
          have hsz := hbr.size
          have k1 : wr.heap[w.heap.size + 1]? = some (.cells ((nm :: ps).map fun p => Value.string ⟨p.toArray⟩).toArray 9) := (hbr.block _ (by omega)).trans K1.out
          by_cases hlk : k < ps.length
          · have hpc : wr.cell? ⟨w.heap.size + 1, 1 + k, none⟩ = some (.string ⟨(ps[k]).toArray⟩) := by
              rw [cell_of_blk k1, Nat.add_comm 1 k]
              simp [hlk]
            clear k1
            have hkl : k < (wParts row).length := by omega
            have hdrop := partsF_drop x (wParts row) ps k hkl hlk
            go_wp2_with fail
            refine (parsePart_any x ((wParts row)[k]) (ps[k]) w1.heap.size wr (kinds_ok hrow _ (List.getElem_mem _)) HBX.out (by have := hpl ps[k] (by simp); omega) (hg3.below hbr (by omega))).mono ?_
            rintro e w2 ⟨x', rfl, hb2, hy, hkp⟩
            have hb12 : Below w1.heap.size w1 w2 := hbr.trans ((hkp.mono hsz).below (Nat.le_refl _))
            have k0 := (hb12.block _ (show w.heap.size < w1.heap.size by omega)).trans K0.out
            have fz2 : ∀ o, w2.frozen? ⟨w.heap.size, o, none⟩ = false := frozen_of_blk k0
            have y0 : w2.cell? ⟨w.heap.size, 0, none⟩ = some (.int .i64 0) := cell_of_blk k0 0
            have y1 : w2.cell? ⟨w.heap.size, 1, none⟩ = some (.int .i64 0) := cell_of_blk k0 1
            have y2 : w2.cell? ⟨w.heap.size, 2, none⟩ = some (.int .i64 0) := cell_of_blk k0 2
            have y3 : w2.cell? ⟨w.heap.size, 3, none⟩ = some (.int .i64 0) := cell_of_blk k0 3
            clear k0
            have HB2 := hide hb2
            clear hb2
            cases hpf : partF x ((wParts row)[k]) (ps[k]) with
            | none =>
              have HN : Hid (lineF t = none) := hide (by rw [HF.out, HX.out, hdrop, hpf]; rfl)
              clear hpf hdrop hy
              rw [show (none : Option Ln).isSome = false from rfl]
              go_wp2
              exact bodyPost_ret (v := .tuple #[.agg #[.int .i64 0, .int .i64 0, .int .i64 0, .int .i64 0], .bool false]) (by simp [results, Tryz.results156, go_sem, y0, y1, y2, y3]) rfl ⟨⟨⟨0, 0, 0, 0⟩, .inr ⟨HN.out, rfl⟩⟩, by repeat (first | exact hbw.trans (hb12.mono (by omega)) | refine Below.setCell (B := w.heap.size) (p := ⟨w.heap.size, _, none⟩) ?_ (Nat.le_refl w.heap.size) _)⟩
            | some y =>
              obtain rfl : x' = y := hy y hpf
              have HX2 : Hid (partsF ⟨row, 0, 0, 0⟩ (wParts row) ps = partsF x' ((wParts row).drop (k + 1)) (ps.drop (k + 1))) := hide (by rw [HX.out, hdrop, hpf]; rfl)
              clear hpf hdrop hy
              rw [show (some x' : Option Ln).isSome = true from rfl]
              go_wp2
              go_roundw
              case rel => exact ⟨k + 1, x', by omega, by go_num, HX2.out, HB2.out, hb12⟩
              case measure => simp [intOf]; omega
          · clear k1
            have hke : k = ps.length := by omega
            have HX2 : Hid (lineF t = some x) := hide (by
              rw [HF.out, HX.out, hke, List.drop_of_length_le (by omega : (wParts row).length ≤ ps.length), List.drop_of_length_le (Nat.le_refl ps.length)]; rfl)
            clear hke
            obtain ⟨⟨c0, c1, c2, c3⟩, fzb⟩ := lncells HBX.out
            have k0 := (hbr.block _ (show w.heap.size < w1.heap.size by omega)).trans K0.out
            have fz2 : ∀ o, wr.frozen? ⟨w.heap.size, o, none⟩ = false := frozen_of_blk k0
            have y0 : wr.cell? ⟨w.heap.size, 0, none⟩ = some (.int .i64 0) := cell_of_blk k0 0
            have y1 : wr.cell? ⟨w.heap.size, 1, none⟩ = some (.int .i64 0) := cell_of_blk k0 1
            have y2 : wr.cell? ⟨w.heap.size, 2, none⟩ = some (.int .i64 0) := cell_of_blk k0 2
            have y3 : wr.cell? ⟨w.heap.size, 3, none⟩ = some (.int .i64 0) := cell_of_blk k0 3
            clear k0
            go_wp2
            exact bodyPost_ret (v := .tuple #[.agg (lnArr x), .bool true]) (by simp [results, Tryz.results156, go_sem, y0, y1, y2, y3, lnArr]) rfl ⟨⟨x, .inl ⟨HX2.out, rfl⟩⟩, by repeat (first | exact hbw.trans (hbr.mono (by omega)) | refine Below.setCell (B := w.heap.size) (p := ⟨w.heap.size, _, none⟩) ?_ (Nat.le_refl w.heap.size) _)⟩
      · have HN : Hid (lineF t = none) := hide (by unfold lineF; rw [HC.out]; simp [hf, hl])
        clear hf
        have hl' : (((ps.length : Int) + 1) != 1 + ((wParts row).length : Int)) = true := by rw [bne_iff_ne]; omega
        go_wp2
        exact bodyPost_ret (v := .tuple #[.agg #[.int .i64 0, .int .i64 0, .int .i64 0, .int .i64 0], .bool false]) (by simp [results, Tryz.results156, go_sem, z0, z1, z2, z3]) rfl ⟨⟨⟨0, 0, 0, 0⟩, .inr ⟨HN.out, rfl⟩⟩, by repeat (first | exact hbw | refine Below.setCell (B := w.heap.size) (p := ⟨w.heap.size, _, none⟩) ?_ (Nat.le_refl w.heap.size) _)⟩

end Go.Proofs.YtngopilbpiplhaaGreatDoor
