/-
  The document's own search: a line's needs and ways, as the plain functions have them; why a text is no program is told in one way.
-/
import Derived.Test.YtngopilbpiplhaaGreatDoorZRfZ0
import Derived.Test.YtngopilbpiplhaaGreatDoorZRfSz
import Derived.Test.YtngopilbpiplhaaGreatDoorZRfO
import Derived.Test.YtngopilbpiplhaaGreatDoorZClRd
namespace Go.Proofs.YtngopilbpiplhaaGreatDoor
open Go.RowKit
set_option linter.unusedVariables false
set_option linter.unusedSimpArgs false
theorem rlA_eq {L k : Nat} {x : Ln} (h : LineOk L k x) : rlA x = rlCells x.word.toNat x.r.toNat x.s.toNat (if x.word = 0 then x.n else 0) (if 13 ≤ x.word ∧ x.word ≤ 15 then min x.n 100 else 0) := by
  obtain ⟨r, hr, er⟩ := h.r
  obtain ⟨s, hs, es⟩ := h.s
  unfold rlA rlCells
  have e1 : ((x.r.toNat : Nat) : Int) = x.r := by rw [er]; simp
  have e2 : ((x.s.toNat : Nat) : Int) = x.s := by rw [es]; simp
  rw [e1, e2]
theorem rmeets_x {L k : Nat} {x : Ln} (h : LineOk L k x) (c : Cl) (w : World) : Calls Tryz.prog 113 #[.agg (rcCells c), .agg (rlA x)] w fun e w' => e = .returned (.bool (metW x.word.toNat c x)) ∧ Below w.heap.size w w' := by
  obtain ⟨row, hrow, erow⟩ := h.word
  obtain ⟨r, hr, er⟩ := h.r
  obtain ⟨s, hs, es⟩ := h.s
  have e0 : x.word.toNat = row := by rw [erow]; simp
  have e1 : x.r.toNat = r := by rw [er]; simp
  have e2 : x.s.toNat = s := by rw [es]; simp
  rw [rlA_eq h, e0, e1, e2, metR_eq c x row r s er es]
  exact rmeets_any row hrow c r s hr hs _ _ w
theorem rways_x {L k : Nat} {x : Ln} (h : LineOk L k x) (hL : L ≤ 100) (c : Cl) (hn : c.never = false) (hp : POk c) (hm : metW x.word.toNat c x = true) (at_ : Nat) (hat : at_ < 1000) (w : World) :
    Calls Tryz.prog 114 #[.agg (rcCells c), .agg (rlA x), .int .i64 (at_ : Int)] w
      fun e w' => ∃ v, e = .returned v ∧ w'.ownsRow (w.heap.size + 2) 190 26 v (exW x.word.toNat at_ c x).length (wyL (exW x.word.toNat at_ c x)) ∧ Below w.heap.size w w' := by
  obtain ⟨row, hrow, erow⟩ := h.word
  obtain ⟨r, hr, er⟩ := h.r
  obtain ⟨s, hs, es⟩ := h.s
  have hj := h.jumps
  have e0 : x.word.toNat = row := by rw [erow]; simp
  have e1 : x.r.toNat = r := by rw [er]; simp
  have e2 : x.s.toNat = s := by rw [es]; simp
  rw [e0] at hm hj
  rw [rlA_eq h, e0, e1, e2]
  rw [metR_eq c x row r s er es] at hm
  refine rways_any row hrow c hn hp x r s hr hs er es _ _ (fun q => ?_) (fun q1 q2 => ?_) hm at_ hat w
  · rw [if_pos (by rw [erow, q]; rfl)]
  · have := hj q1 q2
    rw [if_pos (by rw [erow]; omega)]
    omega
theorem wyL_get (es : List (Int × Cl)) : ∀ (j : Nat) (h : j < es.length) (i : Nat), i < 26 → (wyL es)[j * 26 + i]? = (wyC es[j].1 es[j].2)[i]? := by
  induction es with
  | nil => intro j h; cases h
  | cons e es ih =>
    intro j h i hi
    have e1 : wyL (e :: es) = wyC e.1 e.2 ++ wyL es := rfl
    have l26 : (wyC e.1 e.2).length = 26 := rfl
    rw [e1]
    cases j with
    | zero => rw [List.getElem?_append_left (by omega)]; simp
    | succ j =>
      rw [List.getElem?_append_right (by omega), l26, show (j + 1) * 26 + i - 26 = j * 26 + i by omega, ih j (by simpa using h) i hi]
      rfl
theorem ways_slice {w : World} {B : Nat} {v : Value} {es : List (Int × Cl)} (h : w.ownsRow B 190 26 v es.length (wyL es)) :
    ∃ (a : Option Addr) (cap : Nat), v = .slice a es.length cap ∧ (0 < es.length → ∃ gb : Nat, a = some ⟨gb, 0, none⟩ ∧ B ≤ gb ∧ gb < w.heap.size ∧ ∀ j (hj : j < es.length), w.cell? ⟨gb, j * 26, none⟩ = some (.int .i64 es[j].1) ∧ w.rangeAt gb (j * 26 + 1) (rcCells es[j].2).toList) := by
  obtain ⟨_, ⟨e, h2⟩ | ⟨g, cap, cur, e, hg, hb, hc, _, _, ht⟩⟩ := h
  · exact ⟨none, 0, by rw [h2]; exact e, fun h0 => by omega⟩
  · refine ⟨some ⟨g, 0, none⟩, cap, e, fun _ => ⟨g, rfl, hg, blk_lt hb, fun j hj => ⟨?_, fun i u hu => ?_⟩⟩⟩
    · have h1 := wyL_get es j hj 0 (by omega)
      rw [Nat.add_zero, ← ht, List.getElem?_take, if_pos (by omega)] at h1
      rw [cell_of_blk hb]
      have h2 : (wyC es[j].1 es[j].2)[0]? = some (.int .i64 es[j].1) := rfl
      rw [h2] at h1
      simpa using h1
    · have hi : i < 25 := (List.getElem?_eq_some_iff.1 hu).1
      have h1 := wyL_get es j hj (i + 1) (by omega)
      rw [← ht, List.getElem?_take, if_pos (by omega)] at h1
      have h2 : (wyC es[j].1 es[j].2)[i + 1]? = (rcCells es[j].2).toList[i]? := rfl
      rw [h2, hu] at h1
      rw [cell_of_blk hb, show j * 26 + 1 + i = j * 26 + (i + 1) by omega]
      simpa using h1
/-- Why a text is no program: there is one answer. -/
theorem bad_one {l : List UInt8} {c p c' p' : Int} (h : Bad l c p) (k : Bad l c' p') : c = c' ∧ p = p' := by
  rcases h with ⟨a, h1, h2⟩ | ⟨a, i, hi, h1, h2, h3, h4⟩ | ⟨a, b, i, hi, h1, h2, h3, h4⟩ | ⟨a, b, d, h1, h2, x, hx, h3⟩ <;>
  rcases k with ⟨a', k1, k2⟩ | ⟨a', i', hi', k1, k2, k3, k4⟩ | ⟨a', b', i', hi', k1, k2, k3, k4⟩ | ⟨a', b', d', k1, k2, x', hx', k3⟩
  · omega
  · rw [a] at a'; cases a'
  · rw [a] at a'; cases a'
  · rw [a] at a'; cases a'
  · rw [a] at a'; cases a'
  · rcases Nat.lt_trichotomy i i' with q | q | q
    · have := k4 i q; rw [h3] at this; cases this
    · omega
    · have := h4 i' q; rw [k3] at this; cases this
  · have := b' _ (List.getElem_mem hi); rw [h3] at this; cases this
  · have := b' _ (List.getElem_mem hi); rw [h3] at this; cases this
  · rw [a] at a'; cases a'
  · have := b _ (List.getElem_mem hi'); rw [k3] at this; cases this
  · rcases Nat.lt_trichotomy i i' with q | q | q
    · have := k4 i q; rw [h3] at this; cases this
    · omega
    · have := h4 i' q; rw [k3] at this; cases this
  · have := d' _ (List.getElem_mem hi); rw [h3] at this; cases this
  · rw [a] at a'; cases a'
  · have := b _ (List.getElem_mem hi'); rw [k3] at this; cases this
  · have := d _ (List.getElem_mem hi'); rw [k3] at this; cases this
  · omega
theorem good_bad {l : List UInt8} {c p : Int} (h : Good l) (k : Bad l c p) : False := by
  rcases k with ⟨a', k1, k2⟩ | ⟨a', i', hi', k1, k2, k3, k4⟩ | ⟨a', b', i', hi', k1, k2, k3, k4⟩ | ⟨a', b', d', k1, k2, x', hx', k3⟩
  · rw [h.short] at a'; cases a'
  · have := h.lines _ (List.getElem_mem hi'); rw [k3] at this; cases this
  · have := h.jumps _ (List.getElem_mem hi'); rw [k3] at this; cases this
  · have := h.last x' hx'; rw [k3] at this; cases this
/-- The text of the claims below k. -/
def prK (p : List Cl) (k : Nat) : List UInt8 := Lib.join ((p.take k).map clT) [10]
theorem prK_one (p : List Cl) (c : Cl) (h : p[0]? = some c) : prK p 1 = clT c := by
  unfold prK
  cases p with
  | nil => cases h
  | cons a r => cases h; simp [Lib.join_one]
theorem prK_more (p : List Cl) (k : Nat) (c : Cl) (h0 : 0 < k) (h : p[k]? = some c) : prK p (k + 1) = prK p k ++ [10] ++ clT c := by
  obtain ⟨hk, e⟩ := List.getElem?_eq_some_iff.1 h
  unfold prK
  rw [List.take_succ_eq_append_getElem hk, List.map_append, List.map_cons, List.map_nil, e]
  refine join_snoc _ _ _ ?_
  intro q
  have := congrArg List.length q
  rw [List.length_map, List.length_take, List.length_nil] at this
  omega
theorem prK_all (p : List Cl) : prK p p.length = proofT p := by unfold prK proofT; rw [List.take_of_length_le (Nat.le_refl _)]
theorem rclT_len (c : Cl) (h : ClOk c) : (clT c).length ≤ 500 := by
  cases hn : c.never with
  | true => simp [clT, hn]
  | false => rw [clT_wr c hn]; exact wrK_len c h 8 (by omega)
theorem prK_len (p : List Cl) (h : ∀ c ∈ p, ClOk c) : ∀ k, k ≤ p.length → (prK p k).length ≤ 501 * k
  | 0, _ => by simp [prK, Lib.join_nil]
  | k + 1, hk => by
    have ih := prK_len p h k (by omega)
    have hc : p[k]? = some p[k] := List.getElem?_eq_getElem (by omega)
    have hl := rclT_len p[k] (h _ (List.getElem_mem _))
    by_cases h0 : 0 < k
    · rw [prK_more p k _ h0 hc]
      simp only [List.length_append, List.length_cons, List.length_nil]
      omega
    · obtain rfl : k = 0 := by omega
      rw [prK_one p _ hc]
      omega
theorem unmet_take {xs : List Ln} {p : List Cl} {k : Nat} (h : ∀ j, j < k → unmetAt xs p j = false) (hk : k < xs.length) (hu : unmetAt xs p k = true) : unmetF xs p = some k := by
  unfold unmetF
  rw [List.find?_range_eq_some]
  exact ⟨hu, by simpa using hk, fun j hj => by rw [h j hj]; rfl⟩
theorem runmet_none {xs : List Ln} {p : List Cl} (h : ∀ j, j < xs.length → unmetAt xs p j = false) : unmetF xs p = none := by
  unfold unmetF
  rw [List.find?_range_eq_none]
  intro j hj
  rw [h j hj]; rfl
end Go.Proofs.YtngopilbpiplhaaGreatDoor
