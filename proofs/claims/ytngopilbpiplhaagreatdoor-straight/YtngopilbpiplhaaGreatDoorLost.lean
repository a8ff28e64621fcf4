/-
  The contracts of reader.lostJump and isLong.
-/
import Derived.Test.YtngopilbpiplhaaGreatDoorLines
namespace Go.Proofs.YtngopilbpiplhaaGreatDoor
open Go.RowKit

/-- Lines lie in a block. -/
def LinesAt (w : World) (g : Nat) (xs : List Ln) : Prop := ∃ cur t, w.heap[g]? = some (.cells cur t (0, 0)) ∧ cur.toList.take (xs.length * 4) = lnCells xs
theorem LinesAt.lt {w : World} {g : Nat} {xs : List Ln} (h : LinesAt w g xs) : g < w.heap.size := by obtain ⟨_, _, h, _⟩ := h; exact blk_lt h
theorem LinesAt.mono {w w' : World} {g : Nat} {xs : List Ln} (h : LinesAt w g xs) (hb : w'.heap[g]? = w.heap[g]?) : LinesAt w' g xs := by
  obtain ⟨cur, t, h1, h2⟩ := h
  exact ⟨cur, t, hb.trans h1, h2⟩
theorem lnCells_get (xs : List Ln) : ∀ (i : Nat) (h : i < xs.length) (j : Nat), j < 4 → (lnCells xs)[i * 4 + j]? = (lnArr xs[i])[j]? := by
  induction xs with
  | nil => intro i h; cases h
  | cons x xs ih =>
    intro i h j hj
    have e : lnCells (x :: xs) = (lnArr x).toList ++ lnCells xs := rfl
    have l4 : (lnArr x).toList.length = 4 := rfl
    rw [e]
    cases i with
    | zero => rw [List.getElem?_append_left (by omega)]; simp
    | succ i =>
      rw [List.getElem?_append_right (by omega), l4, show (i + 1) * 4 + j - 4 = i * 4 + j by omega, ih i (by simpa using h) j hj]
      rfl
theorem LinesAt.get {w : World} {g : Nat} {xs : List Ln} (h : LinesAt w g xs) {i : Nat} (hi : i < xs.length) :
    w.cell? ⟨g, i * 4, none⟩ = some (.int .i64 xs[i].word) ∧ w.cell? ⟨g, i * 4 + 1, none⟩ = some (.int .i64 xs[i].r) ∧ w.cell? ⟨g, i * 4 + 2, none⟩ = some (.int .i64 xs[i].s) ∧ w.cell? ⟨g, i * 4 + 3, none⟩ = some (.int .i64 xs[i].n) := by
  obtain ⟨cur, t, h1, h2⟩ := h
  have key : ∀ j, j < 4 → w.cell? ⟨g, i * 4 + j, none⟩ = (lnArr xs[i])[j]? := fun j hj => by
    rw [cell_of_blk h1, ← lnCells_get xs i hi j hj, ← h2, List.getElem?_take, if_pos (by omega)]
    simp
  exact ⟨key 0 (by omega), key 1 (by omega), key 2 (by omega), key 3 (by omega)⟩
theorem linesAt_of_owns {w : World} {B n : Nat} {v : Value} {xs : List Ln} (h : w.ownsRow B 122 4 v n (lnCells xs)) (hn : n = xs.length) (h0 : 0 < n) :
    ∃ g cap, v = .slice (some ⟨g, 0, none⟩) n cap ∧ B ≤ g ∧ n ≤ cap ∧ LinesAt w g xs := by
  obtain ⟨_, ⟨_, h2⟩ | ⟨g, cap, cur, e, hg, hb, hc, _, _, ht⟩⟩ := h
  · omega
  · exact ⟨g, cap, e, hg, hc, cur, _, hb, by rw [← hn]; exact ht⟩

/-- Does a line jump to a line that there is not? -/
def isLost (n : Nat) (x : Ln) : Bool := hasB (wParts x.word.toNat) 76 && decide ((n : Int) ≤ x.n)
/-- Each line's word is a row of the table. -/
def Worded (xs : List Ln) : Prop := ∀ x ∈ xs, ∃ row : Nat, row < 17 ∧ x.word = (row : Int)

def LostRes (xs : List Ln) (w : World) (e : Ending) (w' : World) : Prop :=
  ((e = .returned (.int .i64 (-1)) ∧ ∀ x ∈ xs, isLost xs.length x = false) ∨
   (∃ i : Nat, e = .returned (.int .i64 i) ∧ ∃ h : i < xs.length, isLost xs.length xs[i] = true ∧ ∀ j (hj : j < i), isLost xs.length (xs[j]'(by omega)) = false)) ∧ Below w.heap.size w w'

set_option maxRecDepth 100000 in
set_option maxHeartbeats 2000000 in
theorem lostJump_any (xs : List Ln) (g cap s : Nat) (w : World) (hn : xs.length ≤ 100) (hw : Worded xs) (hL : LinesAt w g xs) (ht : w.heap[s + 55]? = some (.cells (trows s) 140)) :
    Calls Tryz.prog 105 #[.slice (some ⟨s + 55, 0, none⟩) 17 17, .slice (some ⟨g, 0, none⟩) xs.length cap] w fun e w' => LostRes xs w e w' := by
  have HT := hide ht
  have hlt := blk_lt ht
  have HL := hide hL
  have hlg := hL.lt
  clear ht hL
  go_enter Tryz.func105, Tryz.ntmps105
  go_wp2
  go_loopw [9] (fun i w' => ∃ k : Nat, k ≤ xs.length ∧ i = .int .i64 k ∧ (∀ j (h : j < xs.length), j < k → isLost xs.length xs[j] = false) ∧ Below w.heap.size w w') (fun i _ => xs.length - (intOf i).toNat)
  case atStart => exact ⟨0, Nat.zero_le _, rfl, fun j _ h => absurd h (by omega), Below.refl _ _⟩
  case round =>
    obtain ⟨k, hk, rfl, hall, hb⟩ := hrel
    have HA := hide hall
    clear hall
    have hsz := hb.size
    have hs1 : s + 55 < wr.heap.size := by omega
    by_cases hlk : k < xs.length
    · obtain ⟨l0, l1, l2, l3⟩ := (HL.out.mono (hb.block _ hlg)).get hlk
      obtain ⟨row, hrow, hrw⟩ := hw _ (List.getElem_mem hlk)
      rw [hrw] at l0
      have HRW := hide hrw
      clear hrw
      have HE : Hid (isLost xs.length xs[k] = (hasB (wParts row) 76 && decide ((xs.length : Int) ≤ xs[k].n))) := hide (by unfold isLost; rw [HRW.out]; simp)
      obtain ⟨f4, b4, f5, b5, f6, b6, f7, b7, e4, e5, e6, e7⟩ := row_funcs s hrow
      obtain ⟨r0, r1, r2, r3, r4, r5, r6, r7⟩ := rowAt ((hb.block _ hlt).trans HT.out) hrow
      rw [e4] at r4
      rw [e5] at r5
      rw [e6] at r6
      rw [e7] at r7
      clear e4 e5 e6 e7
      generalize xs[k].n = N at *
      generalize xs[k].r = R at *
      generalize xs[k].s = S at *
      go_wp2_with fail
      refine (Jumps_any _ _ _ _ _ _ _ _ _ _ _ _ _).mono ?_
      rintro e w1 ⟨rfl, hb1⟩
      have hb01 : Below w.heap.size w w1 := hb.trans (((Below.refl _ _).alloc hsz _).trans (hb1.mono (by simp; omega)))
      have hc3 : w1.cell? ⟨wr.heap.size, 3, none⟩ = some (.int .i64 N) := by
        rw [hb1.cell (p := ⟨wr.heap.size, 3, none⟩) (by simp), cell_of_blk (blk_new wr _)]; rfl
      clear hb1 r0 r1 r2 r3 r4 r5 r6 r7 l0 l1 l2 l3
      rw [show hasB (⟨(wParts row).toArray⟩ : ByteArray).data.toList 76 = hasB (wParts row) 76 from rfl]
      cases hj : hasB (wParts row) 76 with
      | false =>
        have HJ : Hid (isLost xs.length xs[k] = false) := hide (by rw [HE.out, hj]; rfl)
        clear hj
        go_wp2
        go_roundw
        case rel =>
          refine ⟨k + 1, by omega, by go_num, fun j h hj => ?_, hb01⟩
          rcases Nat.lt_succ_iff_lt_or_eq.1 hj with q | q
          · exact HA.out j h q
          · subst q; exact HJ.out
        case measure => simp [intOf]; omega
      | true =>
        by_cases hN : (xs.length : Int) ≤ N
        · have HJ : Hid (isLost xs.length xs[k] = true) := hide (by rw [HE.out, hj]; simpa using hN)
          clear hj
          go_wp2
          go_ret
          exact ⟨.inr ⟨k, rfl, hlk, HJ.out, fun j hj => HA.out j (by omega) hj⟩, hb01⟩
        · have HJ : Hid (isLost xs.length xs[k] = false) := hide (by rw [HE.out, hj]; simpa using hN)
          clear hj
          go_wp2
          go_roundw
          case rel =>
            refine ⟨k + 1, by omega, by go_num, fun j h hj => ?_, hb01⟩
            rcases Nat.lt_succ_iff_lt_or_eq.1 hj with q | q
            · exact HA.out j h q
            · subst q; exact HJ.out
          case measure => simp [intOf]; omega
    · obtain rfl : k = xs.length := by omega
      go_wp2
      go_ret
      refine ⟨.inl ⟨rfl, fun x hx => ?_⟩, hb⟩
      obtain ⟨j, hj, e⟩ := List.getElem_of_mem hx
      rw [← e]; exact HA.out j hj hj

theorem ret_bool {a b : Bool} (h : a = b) : Ending.returned (.bool a) = .returned (.bool b) := by rw [h]
/-- Is a text too long for a program? -/
def longF (l : List UInt8) : Bool := decide (8000 < l.length) || decide (100 ≤ l.count 10)
set_option maxHeartbeats 400000 in
theorem isLong_any (l : List UInt8) (w : World) (hl : l.length ≤ 281474976710656) :
    Calls Tryz.prog 102 #[.string ⟨l.toArray⟩] w fun e w' => e = .returned (.bool (longF l)) ∧ w' = w := by
  by_cases h1 : 8000 < l.length
  · have HL : Hid (longF l = true) := hide (by simp [longF, h1])
    have h1' : (8000 : Int) < (l.length : Int) := by omega
    go_enter Tryz.func102, Tryz.ntmps102
    go_wp2
    go_ret
    exact ⟨by rw [HL.out]; rfl, rfl⟩
  · have HL : Hid (longF l = decide (100 ≤ l.count 10)) := hide (by simp [longF, h1])
    have h1' : ¬ (8000 : Int) < (l.length : Int) := by omega
    go_enter Tryz.func102, Tryz.ntmps102
    go_wp2_with (go_at_call 155; refine (Tryz.strings_Count_one _ _ _).mono ?_; rintro e w' ⟨rfl, rfl⟩)
    go_ret
    exact ⟨by rw [HL.out]; exact ret_bool (by rw [decide_eq_decide]; unfold Lib.countByte; omega), rfl⟩

end Go.Proofs.YtngopilbpiplhaaGreatDoor
