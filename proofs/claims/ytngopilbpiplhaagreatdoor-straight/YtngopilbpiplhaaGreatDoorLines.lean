/-
  The contracts of reader.parse, lostJump, isLong and Read: the lines that a text says, or the first error with its place.
-/
import Derived.Test.YtngopilbpiplhaaGreatDoorLine
namespace Go.Proofs.YtngopilbpiplhaaGreatDoor
open Go.RowKit

/-- The lines' cells, one behind the other. -/
def lnCells (xs : List Ln) : List Value := (xs.map fun x => (lnArr x).toList).flatten
theorem lnCells_len (xs : List Ln) : (lnCells xs).length = xs.length * 4 := by
  induction xs with
  | nil => rfl
  | cons x xs ih => simp only [lnCells, List.map_cons, List.flatten_cons, List.length_append] at ih ⊢; rw [ih]; simp [lnArr]; omega
theorem lnCells_snoc (xs : List Ln) (x : Ln) : lnCells (xs ++ [x]) = lnCells xs ++ (lnArr x).toList := by simp [lnCells]

/-- The lines of texts, up to the first that is none. -/
def linesF (ts : List (List UInt8)) : List Ln := ts.filterMap lineF

theorem linesF_snoc (ts : List (List UInt8)) (k : Nat) (h : k < ts.length) (x : Ln) (hx : lineF ts[k] = some x) : linesF (ts.take (k + 1)) = linesF (ts.take k) ++ [x] := by
  unfold linesF
  rw [List.take_succ_eq_append_getElem h, List.filterMap_append]
  simp [hx]

theorem infoLine : (Tryz.prog.info? 122).map (fun i => (i.zero, i.size, i.bytes)) = some (some (.agg #[.int .i64 0, .int .i64 0, .int .i64 0, .int .i64 0]), 4, 32) := by kernel_rfl

def ParseRes (ts : List (List UInt8)) (w : World) (e : Ending) (w' : World) : Prop :=
  ((∃ v, e = .returned (.tuple #[v, .int .i64 (-1)]) ∧ (∀ t ∈ ts, (lineF t).isSome = true) ∧ w'.ownsRow w.heap.size 122 4 v ts.length (lnCells (linesF ts))) ∨
   (∃ i : Nat, e = .returned (.tuple #[.slice none 0 0, .int .i64 i]) ∧ ∃ h : i < ts.length, lineF ts[i] = none ∧ ∀ j (hj : j < i), (lineF (ts[j]'(by omega))).isSome = true)) ∧ Below w.heap.size w w'

theorem ownsRow_below {B : Nat} {w w' : World} {t : TypeId} {sz : Nat} {v : Value} {n : Nat} {xs : List Value} (h : w.ownsRow B t sz v n xs) (hk : ∀ g, B ≤ g → g < w.heap.size → w'.heap[g]? = w.heap[g]?) : w'.ownsRow B t sz v n xs := by
  obtain ⟨h1, h2 | ⟨g, cap, cur, e, hg, hb, r⟩⟩ := h
  · exact ⟨h1, .inl h2⟩
  · exact ⟨h1, .inr ⟨g, cap, cur, e, hg, (hk g hg (blk_lt hb)).trans hb, r⟩⟩

set_option maxRecDepth 100000 in
set_option maxHeartbeats 2000000 in
theorem parse_any (ts : List (List UInt8)) (tb s : Nat) (w : World) (hn : ts.length ≤ 100) (hl : ∀ t ∈ ts, t.length < 4294967281) (hg : Glob w) (ht : w.heap[s + 55]? = some (.cells (trows s) 140))
    (htb : w.heap[tb]? = some (.cells (ts.map fun p => Value.string ⟨p.toArray⟩).toArray 9)) :
    Calls Tryz.prog 103 #[.slice (some ⟨s + 55, 0, none⟩) 17 17, .slice (some ⟨tb, 0, none⟩) ts.length ts.length] w fun e w' => ParseRes ts w e w' := by
  have HT := hide ht
  have hlt := blk_lt ht
  have HTB := hide htb
  have hltb := blk_lt htb
  clear ht htb
  obtain ⟨i0, hi, hz0, hz1, hz2⟩ := info_parts infoLine
  have hmk := run_make (P := Tryz.prog) w 79 122 i0 _ Tryz.underlying79 hi hz0 .i64 .i64 0 (ts.length : Int) (Int.le_refl _) (by omega) (by rw [hz2]; omega) (by omega)
  simp only [Int.toNat_zero, Int.toNat_natCast] at hmk
  have hown0 : (w.alloc (.cells (madeCells (Value.agg #[.int .i64 0, .int .i64 0, .int .i64 0, .int .i64 0]).cells (ts.length * i0.size)) 122)).ownsRow w.heap.size 122 4 (.slice (some ⟨w.heap.size, 0, none⟩) 0 ts.length) 0 [] := by
    rw [hz1]
    exact World.ownsRow_made w _ ts.length (Nat.le_refl _) (by unfold maxLen; omega) (size_madeCells _ _)
  have HO := hide hown0
  clear hown0
  generalize hW : w.alloc (.cells (madeCells (Value.agg #[.int .i64 0, .int .i64 0, .int .i64 0, .int .i64 0]).cells (ts.length * i0.size)) 122) = W at *
  have hbW : Below w.heap.size w W := by rw [← hW]; exact (Below.refl _ _).alloc (Nat.le_refl _) _
  have HW := hide hW
  clear hW
  have HI := hide hi
  have HZ0 := hide hz0
  have HZ1 := hide hz1
  have HZ2 := hide hz2
  clear hi hz0 hz1 hz2
  go_enter Tryz.func103, Tryz.ntmps103
  go_wp2
  clear hmk
  go_loopw [6, 16] (fun v i w' => ∃ k : Nat, k ≤ ts.length ∧ i = .int .i64 k ∧ (∀ j (h : j < ts.length), j < k → (lineF ts[j]).isSome = true) ∧ w'.ownsRow w.heap.size 122 4 v k (lnCells (linesF (ts.take k))) ∧ Below w.heap.size w w') (fun _ i _ => ts.length - (intOf i).toNat)
  case atStart => exact ⟨0, Nat.zero_le _, rfl, fun j _ h => absurd h (by omega), HO.out, hbW⟩
  case round =>
    clear HO HW hbW
    obtain ⟨k, hk, rfl, hall, hown, hb⟩ := hrel
    have HA := hide hall
    clear hall
    have hsz := hb.size
    by_cases hlk : k < ts.length
    · have hpc : wr.cell? ⟨tb, k, none⟩ = some (.string ⟨(ts[k]).toArray⟩) := by
        rw [cell_of_blk ((hb.block _ hltb).trans HTB.out)]
        simp [hlk]
      have HOW := hide hown
      clear hown
      go_wp2_with fail
      refine (parseLine_any (ts[k]) s wr (hl _ (List.getElem_mem _)) (hg.below hb hg.size) ((hb.block _ hlt).trans HT.out)).mono ?_
      rintro e w1 ⟨hres, hb1⟩
      have hb01 : Below w.heap.size w w1 := hb.trans (hb1.mono hsz)
      have hown1 := ownsRow_below HOW.out (fun g _ hg => hb1.block g hg)
      obtain ⟨x, ⟨hx, rfl⟩ | ⟨hx, rfl⟩⟩ := hres
      · have HXX := hide hx
        have HO1 := hide hown1
        clear hx hown1
        have hlen : (lnCells (linesF (ts.take k))).length = k * 4 := HO1.out.1
        have hsnoc := linesF_snoc ts k hlk x HXX.out
        have HS := hide hsnoc
        clear hsnoc hlen
        simp only [lnArr]
        go_wp2_with (first
          | (at_builtin; refine wpList_append_own _ rfl _ _ 79 rfl w.heap.size 122 i0 _ 4 32 Tryz.underlying79 HI.out HZ0.out HZ1.out HZ2.out rfl (by decide) _ _ _ rfl ((HO1.out.alloc _).alloc _) ⟨w1.heap.size + 1, 0, none⟩ 1 1 [.int .i64 x.word, .int .i64 x.r, .int .i64 x.s, .int .i64 x.n] rfl rfl ?c1 ?c2 ?c3 ?c4 ?c5 ?_)
          | go_in)
        case c1 =>
          intro j u hj
          have hnew := blk_new (w1.alloc (.cells #[.int .i64 x.word, .int .i64 x.r, .int .i64 x.s, .int .i64 x.n] 122)) (.cells #[.int .i64 x.word, .int .i64 x.r, .int .i64 x.s, .int .i64 x.n] 122)
          rw [World.size_alloc] at hnew
          have e : (⟨w1.heap.size + 1, 0, none⟩ : Addr).add j = ⟨w1.heap.size + 1, j, none⟩ := by unfold Addr.add; split <;> simp_all
          rw [e, cell_of_blk hnew]
          simpa using hj
        case c2 => intro u hu; simp at hu; rcases hu with rfl | rfl | rfl | rfl <;> rfl
        case c3 => unfold maxLen; omega
        case c4 => omega
        case c5 => have := hb01.size; simp; omega
        · intro v' w2 hown2 hgrow _
          have hb02 : Below w.heap.size w w2 := by
            refine Below.grown ((hb01.alloc hb01.size _).alloc (by simp; have := hb01.size; omega) _) hgrow (by simp; have := hb01.size; omega) ?_
            intro g hg'
            obtain ⟨_, ⟨e, _⟩ | ⟨g1, cap, cur, e, hg1, _⟩⟩ := HO1.out
            · rw [e] at hg'; cases hg'
            · rw [e] at hg'; cases hg'; exact hg1
          have HO2 := hide hown2
          clear hown2 hgrow
          go_wp2
          go_roundw
          case rel =>
            refine ⟨k + 1, by omega, by go_num, fun j h hj => ?_, ?_, hb02⟩
            · rcases Nat.lt_succ_iff_lt_or_eq.1 hj with q | q
              · exact HA.out j h q
              · subst q; rw [HXX.out]; rfl
            · rw [HS.out, lnCells_snoc]; exact HO2.out
          case measure => simp [intOf]; omega
      · have HXX := hide hx
        clear hx hown1
        simp only [lnArr]
        go_wp2
        go_ret2
        exact ⟨.inr ⟨k, rfl, hlk, HXX.out, fun j hj => HA.out j (by omega) hj⟩, hb01.alloc (by have := hb01.size; omega) _⟩
    · obtain rfl : k = ts.length := by omega
      have HOW := hide hown
      clear hown
      go_wp2
      go_ret2
      refine ⟨.inl ⟨_, rfl, fun t ht => ?_, ?_⟩, hb⟩
      · obtain ⟨j, hj, e⟩ := List.getElem_of_mem ht
        rw [← e]; exact HA.out j hj hj
      · have := HOW.out
        rwa [List.take_of_length_le (Nat.le_refl _)] at this

end Go.Proofs.YtngopilbpiplhaaGreatDoor
