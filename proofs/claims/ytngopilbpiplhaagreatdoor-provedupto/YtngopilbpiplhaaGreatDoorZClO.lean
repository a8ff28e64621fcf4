/-
  The lines of a text that is a program; ward.Prove at every such text.
  ward.Prove at a text that is no program; the small functions of the document's own answer: most, least, add, sub, div, mul.
  The document's own answer: sub, div, mul.
  What the program reckons of two numbers, and what the document's own answer does: the same.
  The document's own claims: their cells, and put.
  The document's own answer: one number more for a span.
  The document's own answer: form, takes, places, at the seventeen words.
-/
import Derived.Test.YtngopilbpiplhaaGreatDoorZClWP
import Derived.Test.YtngopilbpiplhaaGreatDoorZClR
namespace Go.Proofs.YtngopilbpiplhaaGreatDoor
open Go.RowKit
set_option linter.unusedVariables false
theorem regF_lt {t : List UInt8} {r : Nat} (h : regF t = some r) : r < 8 := by
  unfold regF at h
  split at h
  · split at h
    · cases h; omega
    · cases h
  · cases h
structure RSOk (x : Ln) : Prop where
  r : ∃ r : Nat, r < 8 ∧ x.r = (r : Int)
  s : ∃ s : Nat, s < 8 ∧ x.s = (s : Int)
theorem partF_ok {x y : Ln} {c : UInt8} {t : List UInt8} (h : partF x c t = some y) (hx : RSOk x) :
    RSOk y ∧ (c ≠ 110 → 0 ≤ x.n → 0 ≤ y.n) ∧ (c ≠ 76 → (-1000000000 ≤ x.n ∧ x.n ≤ 1000000000) → (-1000000000 ≤ y.n ∧ y.n ≤ 1000000000)) := by
  unfold partF at h
  split at h
  · obtain ⟨r, hr, e⟩ := Option.map_eq_some_iff.1 h; rw [← e]; exact ⟨⟨⟨r, regF_lt hr, rfl⟩, hx.s⟩, fun _ q => q, fun _ q => q⟩
  · split at h
    · obtain ⟨r, hr, e⟩ := Option.map_eq_some_iff.1 h; rw [← e]; exact ⟨⟨hx.r, ⟨r, regF_lt hr, rfl⟩⟩, fun _ q => q, fun _ q => q⟩
    · split at h
      · rename_i hc
        obtain ⟨v, _, e⟩ := Option.bind_eq_some_iff.1 h
        split at e
        · rename_i hv; cases e; exact ⟨⟨hx.r, hx.s⟩, fun q _ => absurd hc q, fun _ _ => hv⟩
        · cases e
      · split at h
        · rename_i hc
          obtain ⟨v, _, e⟩ := Option.bind_eq_some_iff.1 h
          split at e
          · rename_i hv; cases e; exact ⟨⟨hx.r, hx.s⟩, fun _ _ => hv, fun q _ => absurd hc q⟩
          · cases e
        · cases h
theorem partsF_ok : ∀ (cs : List UInt8) (ps : List (List UInt8)) {x y : Ln}, partsF x cs ps = some y → RSOk x →
    RSOk y ∧ (110 ∉ cs → 0 ≤ x.n → 0 ≤ y.n) ∧ (76 ∉ cs → (-1000000000 ≤ x.n ∧ x.n ≤ 1000000000) → (-1000000000 ≤ y.n ∧ y.n ≤ 1000000000))
  | [], [], x, y, h, hx => by simp [partsF] at h; rw [← h]; exact ⟨hx, fun _ q => q, fun _ q => q⟩
  | c :: cs, p :: ps, x, y, h, hx => by
    obtain ⟨z, h1, h2⟩ := Option.bind_eq_some_iff.1 (show (partF x c p).bind (fun y => partsF y cs ps) = some y from h)
    obtain ⟨a1, a2, a3⟩ := partF_ok h1 hx
    obtain ⟨b1, b2, b3⟩ := partsF_ok cs ps h2 a1
    refine ⟨b1, fun q q0 => b2 (fun q1 => q (List.mem_cons_of_mem _ q1)) (a2 (fun q1 => q (by rw [q1]; exact List.mem_cons_self ..)) q0), fun q q0 => b3 (fun q1 => q (List.mem_cons_of_mem _ q1)) (a3 (fun q1 => q (by rw [q1]; exact List.mem_cons_self ..)) q0)⟩
  | [], _ :: _, x, y, h, _ => by simp [partsF] at h
  | _ :: _, [], x, y, h, _ => by simp [partsF] at h
theorem parts_jump {row : Nat} (h1 : 13 ≤ row) (h2 : row ≤ 15) : 110 ∉ wParts row ∧ hasB (wParts row) 76 = true := by
  match row, h1, h2 with
  | 13, _, _ | 14, _, _ | 15, _, _ => decide
theorem parts_plain {row : Nat} (h : row < 17) (h1 : ¬ (13 ≤ row ∧ row ≤ 15)) : 76 ∉ wParts row := by
  match row, h with
  | 0, _ | 1, _ | 2, _ | 3, _ | 4, _ | 5, _ | 6, _ | 7, _ | 8, _ | 9, _ | 10, _ | 11, _ | 12, _ | 16, _ => decide
  | 13, _ | 14, _ | 15, _ => exact absurd h1 (by omega)
  | n + 17, h => exact absurd h (by omega)
theorem lineF_ok {t : List UInt8} {x : Ln} (h : lineF t = some x) : ∃ row : Nat, row < 17 ∧ x.word = (row : Int) ∧ RSOk x ∧ (13 ≤ row → row ≤ 15 → 0 ≤ x.n) ∧ (¬ (13 ≤ row ∧ row ≤ 15) → (-1000000000 ≤ x.n ∧ x.n ≤ 1000000000)) := by
  unfold lineF at h
  split at h
  · cases h
  · obtain ⟨row, h1, h2⟩ := Option.bind_eq_some_iff.1 h
    split at h2
    · obtain ⟨a, b, c⟩ := partsF_ok _ _ h2 ⟨⟨0, by omega, rfl⟩, ⟨0, by omega, rfl⟩⟩
      exact ⟨row, findF_lt h1, partsF_word _ _ h2, a, fun q1 q2 => b (parts_jump q1 q2).1 (Int.le_refl _), fun q => c (parts_plain (findF_lt h1) q) ⟨by show (-1000000000 : Int) ≤ 0; omega, by show (0 : Int) ≤ 1000000000; omega⟩⟩
    · cases h2
theorem good_len {l : List UInt8} (h : Good l) : 0 < (progF l).length ∧ (progF l).length ≤ 100 := by
  have h1 : (progF l).length = l.count 10 + 1 := by unfold progF; rw [linesF_len _ h.lines, cutAt_count]
  have h2 := h.short
  simp [longF] at h2
  omega
theorem good_ok {l : List UInt8} (h : Good l) : ∀ (k : Nat) (x : Ln), (progF l)[k]? = some x → LineOk (progF l).length k x := by
  intro k x hx
  obtain ⟨hk, hxk⟩ := List.getElem?_eq_some_iff.1 hx
  obtain ⟨t, _, ht⟩ := List.mem_filterMap.1 (show x ∈ linesF (cutAt 10 l) from List.mem_of_getElem? hx)
  obtain ⟨row, hr, hw, hrs, hj, hp⟩ := lineF_ok ht
  have hl := good_len h
  have hlost := h.jumps x (List.mem_of_getElem? hx)
  have hwn : x.word.toNat = row := by rw [hw]; rfl
  have hjl : 13 ≤ row → row ≤ 15 → 0 ≤ x.n ∧ x.n < ((progF l).length : Int) := by
    intro q1 q2
    refine ⟨hj q1 q2, ?_⟩
    unfold isLost at hlost
    rw [hwn, (parts_jump q1 q2).2] at hlost
    simp at hlost
    exact hlost
  refine ⟨⟨row, hr, hw⟩, hrs.r, hrs.s, ?_, ?_, ?_, by rw [hwn]; exact hjl⟩
  · by_cases q : 13 ≤ row ∧ row ≤ 15
    · have := hjl q.1 q.2; omega
    · have := hp q; omega
  · by_cases q : 13 ≤ row ∧ row ≤ 15
    · have := hjl q.1 q.2; omega
    · have := hp q; omega
  · intro hf
    rcases Nat.lt_or_ge (k + 1) (progF l).length with q | q
    · exact q
    · have e : k = (progF l).length - 1 := by omega
      rw [e] at hx
      rw [h.last x hx] at hf
      cases hf
theorem next_falls' (i : Nat) (hi : i < 17) (c : Cl) (x : Ln) (h : (nextW i c x).never = false) : wFalls i = true := by
  match i, hi with
  | 0, _ | 1, _ | 2, _ | 3, _ | 4, _ | 5, _ | 6, _ | 7, _ | 8, _ | 9, _ | 10, _ | 11, _ | 12, _ | 14, _ | 15, _ => rfl
  | 13, _ | 16, _ => exact absurd h (by simp [nextW, clNever])
  | n + 17, h => exact absurd h (by omega)
theorem jump_jumps' (i : Nat) (hi : i < 17) (c : Cl) (x : Ln) (h : (jumpW i c x).never = false) : 13 ≤ i ∧ i ≤ 15 := by
  match i, hi with
  | 13, _ | 14, _ | 15, _ => omega
  | 0, _ | 1, _ | 2, _ | 3, _ | 4, _ | 5, _ | 6, _ | 7, _ | 8, _ | 9, _ | 10, _ | 11, _ | 12, _ | 16, _ => exact absurd h (by simp [jumpW, clNever])
  | n + 17, h => exact absurd h (by omega)
theorem exits_to' {L k : Nat} {x : Ln} (h : LineOk L k x) (hk : k < L) (c : Cl) : ∀ e ∈ exitsOf x c k, ∃ t : Nat, e.1 = (t : Int) ∧ t < L := by
  obtain ⟨row, hrow, hw⟩ := h.word
  have hi : x.word.toNat < 17 := by rw [hw]; simpa using hrow
  intro e he
  unfold exitsOf at he
  split at he
  · cases he
  · unfold exW at he
    rcases List.mem_append.1 he with he | he
    · split at he
      · cases he
      · rename_i hn
        rw [List.mem_singleton.1 he]
        exact ⟨k + 1, by show (k : Int) + 1 = _; omega, h.falls (next_falls' _ hi c x (by simpa using hn))⟩
    · split at he
      · cases he
      · rename_i hn
        rw [List.mem_singleton.1 he]
        obtain ⟨h1, h2⟩ := jump_jumps' _ hi c x (by simpa using hn)
        obtain ⟨h3, h4⟩ := h.jumps h1 h2
        exact ⟨x.n.toNat, by show x.n = _; omega, by omega⟩
theorem lineOk_ln {L k : Nat} {x : Ln} (h : LineOk L k x) : LnOk x := ⟨h.word, h.r, h.s, h.low, h.high⟩
theorem lineOk_x {L k : Nat} {x : Ln} (h : LineOk L k x) : XOk x := by
  obtain ⟨r, hr, er⟩ := h.r
  obtain ⟨s, hs, es⟩ := h.s
  exact ⟨by rw [er]; exact hr, by rw [es]; exact hs, h.low, h.high⟩
theorem good_to {l : List UInt8} (h : Good l) : ∀ (p : List Cl) (k : Nat), ∀ e ∈ exitsF (progF l) p k, e.1.toNat < (progF l).length := by
  intro p k e he
  unfold exitsF at he
  split at he
  · rename_i x c h1 h2
    obtain ⟨t, a, b⟩ := exits_to' (good_ok h k x h1) (List.getElem?_eq_some_iff.1 h1).1 c e (by unfold exitsOf; exact he)
    rw [a]; exact b
  · cases he
/-- The claims that the search comes to, of a program. -/
theorem good_search {l : List UInt8} (h : Good l) : ∃ f, f ≤ 100000 ∧ ∃ END, searchF (progF l) f (start0 (progF l).length) = some END ∧ AllOk END.1 :=
  search_some (progF l) (good_len h).2 (fun x hx => by obtain ⟨k, hk⟩ := List.getElem?_of_mem hx; exact lineOk_x (good_ok h k x hk)) (good_to h)
theorem pok_clok {c : Cl} (h : POk c) : ClOk c := fun k _ _ => by have := h k; unfold SpOk at this; omega
/-- ward.Prove at every program. -/
theorem wProve_good (l : List UInt8) (w : World) (hl : l.length ≤ 281474976710656) (h : Good l) (hg : Glob w) (hp : PowT w) :
    ∃ f, f ≤ 100000 ∧ ∃ END, searchF (progF l) f (start0 (progF l).length) = some END ∧ AllOk END.1 ∧
      Calls Tryz.prog 17 #[.string ⟨l.toArray⟩] w fun e w' => wProveRes (progF l) END.1 e ∧ Below w.heap.size w w' := by
  obtain ⟨f, hf, END, he, ho⟩ := good_search h
  exact ⟨f, hf, END, he, ho, wProve_any l w f hf END hl h (good_len h).2 (good_len h).1 he (fun c hc => pok_clok (ho c hc)) (fun s0 k x hx => lineW_any s0 x (lineOk_ln (good_ok h k x hx)))
    (fun k x hx c => exits_to' (good_ok h k x hx) (List.getElem?_eq_some_iff.1 hx).1 c) hg hp⟩
end Go.Proofs.YtngopilbpiplhaaGreatDoor

namespace Go.Proofs.YtngopilbpiplhaaGreatDoor
open Go.RowKit
set_option linter.unusedVariables false
set_option maxRecDepth 100000 in
set_option maxHeartbeats 2000000 in
theorem wProve_bad (l : List UInt8) (w : World) (hl : l.length ≤ 281474976710656) (hn : ¬ Good l) (hg : Glob w) :
    Calls Tryz.prog 17 #[.string ⟨l.toArray⟩] w fun e w' => (∃ c p : Int, e = .returned (.tuple #[.string ⟨#[]⟩, .int .i64 c, .int .i64 p]) ∧ Bad l c p) ∧ Below w.heap.size w w' := by
  have HG := hide hg
  have hg8 := hg.size
  clear hg
  go_enter Tryz.func17, Tryz.ntmps17
  go_wp2_with fail
  refine (Rows_any w).mono ?_
  rintro e w1 ⟨rfl, ht1, hs1, hb1⟩
  have HT1 := hide ht1
  have HB1 := hide hb1
  clear ht1 hb1
  go_wp2_with fail
  refine (Read_any l w.heap.size w1 hl (HG.out.below HB1.out hg8) HT1.out.rows).mono ?_
  rintro e w2 ⟨hres, hb2⟩
  rcases hres with ⟨g, cap, rfl, hgood, _⟩ | ⟨c, p, rfl, hbad⟩
  · exact absurd hgood hn
  · have HB2 := hide (HB1.out.trans (hb2.mono HB1.out.size))
    have HBAD := hide hbad
    have hc0 : ¬ c = 0 := by rcases hbad with ⟨_, h, _⟩ | ⟨_, i, _, h, _⟩ | ⟨_, _, i, _, h, _⟩ | ⟨_, _, _, h, _⟩ <;> omega
    clear hbad hb2
    go_wp2
    go_ret3
    exact ⟨⟨c, p, rfl, HBAD.out⟩, HB2.out⟩
set_option maxHeartbeats 400000 in
theorem most_any (a b : Int) (w : World) : Calls Tryz.prog 167 #[.int .i64 a, .int .i64 b] w fun e w' => e = .returned (.int .i64 (max a b)) ∧ w' = w := by
  go_enter Tryz.func167, Tryz.ntmps167
  by_cases h : b < a
  · have e : max a b = a := by omega
    rw [e]
    go_wp2
    go_ret
    exact ⟨rfl, rfl⟩
  · have e : max a b = b := by omega
    rw [e]
    go_wp2
    go_ret
    exact ⟨rfl, rfl⟩
set_option maxHeartbeats 400000 in
theorem least_any (a b : Int) (w : World) : Calls Tryz.prog 168 #[.int .i64 a, .int .i64 b] w fun e w' => e = .returned (.int .i64 (min a b)) ∧ w' = w := by
  go_enter Tryz.func168, Tryz.ntmps168
  by_cases h : a < b
  · have e : min a b = a := by omega
    rw [e]
    go_wp2
    go_ret
    exact ⟨rfl, rfl⟩
  · have e : min a b = b := by omega
    rw [e]
    go_wp2
    go_ret
    exact ⟨rfl, rfl⟩
/-- A number of 64 bits? -/
def In64 (n : Int) : Prop := -9223372036854775808 ≤ n ∧ n ≤ 9223372036854775807
instance (n : Int) : Decidable (In64 n) := inferInstanceAs (Decidable (_ ∧ _))
def rangeF (n : Int) : Int × Bool := if In64 n then (n, true) else (0, false)
theorem rangeF_yes {n : Int} (h : In64 n) : rangeF n = (n, true) := if_pos h
theorem rangeF_no {n : Int} (h : ¬ In64 n) : rangeF n = (0, false) := if_neg h
set_option maxRecDepth 100000 in
set_option maxHeartbeats 1000000 in
theorem radd_any (a b : Int) (ha : In64 a) (hb : In64 b) (w : World) : Calls Tryz.prog 209 #[.int .i64 a, .int .i64 b] w fun e w' => e = .returned (.tuple #[.int .i64 (rangeF (a + b)).1, .bool (rangeF (a + b)).2]) ∧ w' = w := by
  obtain ⟨a1, a2⟩ := ha
  obtain ⟨b1, b2⟩ := hb
  have w1 : 0 < b → wrap64 (9223372036854775807 - b) = 9223372036854775807 - b := fun h => wrap_id _ (by omega) (by omega)
  have w2 : b < 0 → wrap64 (-9223372036854775808 - b) = -9223372036854775808 - b := fun h => wrap_id _ (by omega) (by omega)
  by_cases p0 : 0 < b
  · have n0 : ¬ b < 0 := by omega
    have w1 := w1 p0
    clear w2
    by_cases p1 : 9223372036854775807 - b < a
    · rw [rangeF_no (by unfold In64; omega)]
      go_enter Tryz.func209, Tryz.ntmps209
      go_wp2
      go_ret2
      exact ⟨rfl, rfl⟩
    · rw [rangeF_yes (by unfold In64; omega)]
      have w3 : wrap64 (a + b) = a + b := wrap_id _ (by omega) (by omega)
      go_enter Tryz.func209, Tryz.ntmps209
      go_wp2
      go_ret2
      exact ⟨rfl, rfl⟩
  · by_cases n0 : b < 0
    · have w2 := w2 n0
      clear w1
      by_cases p1 : a < -9223372036854775808 - b
      · rw [rangeF_no (by unfold In64; omega)]
        go_enter Tryz.func209, Tryz.ntmps209
        go_wp2
        go_ret2
        exact ⟨rfl, rfl⟩
      · rw [rangeF_yes (by unfold In64; omega)]
        have w3 : wrap64 (a + b) = a + b := wrap_id _ (by omega) (by omega)
        go_enter Tryz.func209, Tryz.ntmps209
        go_wp2
        go_ret2
        exact ⟨rfl, rfl⟩
    · rw [rangeF_yes (by unfold In64; omega)]
      have w3 : wrap64 (a + b) = a + b := wrap_id _ (by omega) (by omega)
      clear w1 w2
      go_enter Tryz.func209, Tryz.ntmps209
      go_wp2
      go_ret2
      exact ⟨rfl, rfl⟩
end Go.Proofs.YtngopilbpiplhaaGreatDoor

namespace Go.Proofs.YtngopilbpiplhaaGreatDoor
open Go.RowKit
set_option linter.unusedVariables false
set_option linter.unusedSimpArgs false
set_option maxRecDepth 100000 in
set_option maxHeartbeats 1000000 in
theorem rsub_any (a b : Int) (ha : In64 a) (hb : In64 b) (w : World) : Calls Tryz.prog 211 #[.int .i64 a, .int .i64 b] w fun e w' => e = .returned (.tuple #[.int .i64 (rangeF (a - b)).1, .bool (rangeF (a - b)).2]) ∧ w' = w := by
  obtain ⟨a1, a2⟩ := ha
  obtain ⟨b1, b2⟩ := hb
  have w1 : b < 0 → wrap64 (9223372036854775807 + b) = 9223372036854775807 + b := fun h => wrap_id _ (by omega) (by omega)
  have w2 : 0 < b → wrap64 (-9223372036854775808 + b) = -9223372036854775808 + b := fun h => wrap_id _ (by omega) (by omega)
  by_cases p0 : b < 0
  · have n0 : ¬ 0 < b := by omega
    have w1 := w1 p0
    clear w2
    by_cases p1 : 9223372036854775807 + b < a
    · skip
      rw [rangeF_no (by unfold In64; omega)]
      go_enter Tryz.func211, Tryz.ntmps211
      go_wp2
      go_ret2
      exact ⟨rfl, rfl⟩
    · skip
      rw [rangeF_yes (by unfold In64; omega)]
      have w3 : wrap64 (a - b) = a - b := wrap_id _ (by omega) (by omega)
      go_enter Tryz.func211, Tryz.ntmps211
      go_wp2
      go_ret2
      exact ⟨rfl, rfl⟩
  · by_cases n0 : 0 < b
    · have w2 := w2 n0
      clear w1
      by_cases p1 : a < -9223372036854775808 + b
      · skip
        rw [rangeF_no (by unfold In64; omega)]
        go_enter Tryz.func211, Tryz.ntmps211
        go_wp2
        go_ret2
        exact ⟨rfl, rfl⟩
      · skip
        rw [rangeF_yes (by unfold In64; omega)]
        have w3 : wrap64 (a - b) = a - b := wrap_id _ (by omega) (by omega)
        go_enter Tryz.func211, Tryz.ntmps211
        go_wp2
        go_ret2
        exact ⟨rfl, rfl⟩
    · clear w1 w2
      rw [rangeF_yes (by unfold In64; omega)]
      have w3 : wrap64 (a - b) = a - b := wrap_id _ (by omega) (by omega)
      go_enter Tryz.func211, Tryz.ntmps211
      go_wp2
      go_ret2
      exact ⟨rfl, rfl⟩
def rdivF (a b : Int) : Int × Bool := if (a == -9223372036854775808 && b == -1) = true then (0, false) else (wrap64 (a.tdiv b), true)
set_option maxRecDepth 100000 in
set_option maxHeartbeats 1000000 in
theorem rdiv_any (a b : Int) (hb : b ≠ 0) (w : World) : Calls Tryz.prog 213 #[.int .i64 a, .int .i64 b] w fun e w' => e = .returned (.tuple #[.int .i64 (rdivF a b).1, .bool (rdivF a b).2]) ∧ w' = w := by
  unfold rdivF
  cases f1 : a == -9223372036854775808 <;> cases f2 : b == -1
  all_goals
    simp only [Bool.or_false, Bool.or_true, Bool.false_or, Bool.true_or, Bool.and_true, Bool.and_false, Bool.true_and, Bool.false_and, if_true, Bool.false_eq_true, if_false]
    go_enter Tryz.func213, Tryz.ntmps213
    go_wp2
    go_ret2
    exact ⟨rfl, rfl⟩
def rmulF (a b : Int) : Int × Bool := if (a == 0 || b == 0) = true then (0, true) else if ((a == -1 && b == -9223372036854775808) || (b == -1 && a == -9223372036854775808)) = true then (0, false) else (wrap64 (a * b), wrap64 ((wrap64 (a * b)).tdiv b) == a)
set_option maxRecDepth 100000 in
set_option maxHeartbeats 4000000 in
theorem rmul_any (a b : Int) (w : World) : Calls Tryz.prog 212 #[.int .i64 a, .int .i64 b] w fun e w' => e = .returned (.tuple #[.int .i64 (rmulF a b).1, .bool (rmulF a b).2]) ∧ Below w.heap.size w w' := by
  unfold rmulF
  cases f1 : a == 0 with
  | true =>
    simp only [Bool.or_false, Bool.or_true, Bool.false_or, Bool.true_or, Bool.and_true, Bool.and_false, Bool.true_and, Bool.false_and, if_true, Bool.false_eq_true, if_false]
    go_enter Tryz.func212, Tryz.ntmps212
    go_wp2
    go_ret2
    exact ⟨rfl, Below.refl _ _⟩
  | false =>
    cases f2 : b == 0 with
    | true =>
      simp only [Bool.or_false, Bool.or_true, Bool.false_or, Bool.true_or, Bool.and_true, Bool.and_false, Bool.true_and, Bool.false_and, if_true, Bool.false_eq_true, if_false]
      go_enter Tryz.func212, Tryz.ntmps212
      go_wp2
      go_ret2
      exact ⟨rfl, Below.refl _ _⟩
    | false =>
      have hb : b ≠ 0 := by simpa using f2
      cases f3 : a == -1 <;> cases f4 : b == -9223372036854775808 <;> cases f5 : b == -1 <;> cases f6 : a == -9223372036854775808
      all_goals
        simp only [Bool.or_false, Bool.or_true, Bool.false_or, Bool.true_or, Bool.and_true, Bool.and_false, Bool.true_and, Bool.false_and, if_true, Bool.false_eq_true, if_false]
        go_enter Tryz.func212, Tryz.ntmps212
        go_wp2
        first
          | (go_ret2; exact ⟨rfl, Below.refl _ _⟩)
          | (go_region; all_goals go_wp2; all_goals go_ret2; all_goals exact ⟨rfl, (Below.refl _ _).drew⟩)
end Go.Proofs.YtngopilbpiplhaaGreatDoor

namespace Go.Proofs.YtngopilbpiplhaaGreatDoor
open Go.RowKit
set_option linter.unusedVariables false
/-- Two reckonings say alike. -/
def Alike (p q : Int × Bool) : Prop := p.2 = q.2 ∧ (q.2 = true → p.1 = q.1)
theorem plus_alike (a c : Int) (ha : In64 a) (hc : In64 c) : Alike (plusF a c) (rangeF (a + c)) := by
  unfold In64 at ha hc
  by_cases h : In64 (a + c)
  · rw [rangeF_yes h]
    unfold In64 at h
    have e : wrap64 (a + c) = a + c := wrap_id _ h.1 h.2
    unfold plusF Alike
    rw [e]
    refine ⟨?_, fun _ => rfl⟩
    simp only [beq_iff_eq, decide_eq_decide]
    omega
  · rw [rangeF_no h]
    unfold In64 at h
    unfold plusF Alike
    refine ⟨?_, fun q => by cases q⟩
    simp only [beq_eq_false_iff_ne, ne_eq, decide_eq_decide]
    unfold wrap64
    omega
theorem less_alike (a c : Int) (ha : In64 a) (hc : In64 c) : Alike (lessF a c) (rangeF (a - c)) := by
  unfold In64 at ha hc
  by_cases h : In64 (a - c)
  · rw [rangeF_yes h]
    unfold In64 at h
    have e : wrap64 (a - c) = a - c := wrap_id _ h.1 h.2
    unfold lessF Alike
    rw [e]
    refine ⟨?_, fun _ => rfl⟩
    simp only [beq_iff_eq, decide_eq_decide]
    omega
  · rw [rangeF_no h]
    unfold In64 at h
    unfold lessF Alike
    refine ⟨?_, fun q => by cases q⟩
    simp only [beq_eq_false_iff_ne, ne_eq, decide_eq_decide]
    unfold wrap64
    omega
theorem by_alike (a c : Int) : Alike (byF a c) (rdivF a c) := by
  unfold byF rdivF Alike
  cases f1 : a == -9223372036854775808 <;> cases f2 : c == -1 <;> simp
/-- A product is a number of 64 bits: by dividing again. -/
theorem back_iff (d q : Int) (hd : d ≠ 0) (h1 : In64 d) (h2 : In64 q) : (wrap64 ((wrap64 (d * q)).tdiv d) = q ∧ ¬ (d = -1 ∧ q = -9223372036854775808)) ↔ In64 (d * q) := by
  unfold In64 at h1 h2
  constructor
  · rintro ⟨h, hx⟩
    have hp := wrap_ok (d * q)
    have hm := Int.mul_tdiv_add_tmod (wrap64 (d * q)) d
    have n1 : ((wrap64 (d * q)).tdiv d).natAbs = (wrap64 (d * q)).natAbs / d.natAbs := Int.natAbs_tdiv ..
    have n2 : ((wrap64 (d * q)).tmod d).natAbs = (wrap64 (d * q)).natAbs % d.natAbs := Int.natAbs_tmod ..
    have n3 : (wrap64 (d * q)).natAbs % d.natAbs < d.natAbs := Nat.mod_lt _ (by omega)
    have n4 : (wrap64 (d * q)).natAbs / d.natAbs ≤ (wrap64 (d * q)).natAbs := Nat.div_le_self ..
    have hrange : (wrap64 (d * q)).tdiv d ≠ 9223372036854775808 := by
      intro e
      by_cases d1 : d = 1
      · rw [d1, Int.tdiv_one] at e; rw [d1] at hp; omega
      · by_cases d2 : d = -1
        · refine hx ⟨d2, ?_⟩
          rw [e] at h
          rw [← h]
          unfold wrap64; omega
        · have : 2 ≤ d.natAbs := by omega
          have n5 : (wrap64 (d * q)).natAbs / d.natAbs ≤ (wrap64 (d * q)).natAbs / 2 := Nat.div_le_div_left this (by omega)
          omega
    have e : (wrap64 (d * q)).tdiv d = q := by
      rw [wrap_id] at h
      · exact h
      · omega
      · omega
    rw [e] at hm
    have hw : ∃ k : Int, wrap64 (d * q) = d * q + k * 18446744073709551616 := by
      refine ⟨-((d * q + 9223372036854775808) / 18446744073709551616), ?_⟩
      unfold wrap64
      omega
    obtain ⟨k, hk⟩ := hw
    generalize wrap64 (d * q) = p at *
    generalize d * q = m at *
    generalize p.tmod d = r at *
    unfold In64
    omega
  · intro h
    unfold In64 at h
    have e : wrap64 (d * q) = d * q := wrap_id _ h.1 h.2
    rw [e, Int.mul_tdiv_cancel_left q hd, wrap_id q h2.1 h2.2]
    refine ⟨rfl, ?_⟩
    rintro ⟨rfl, rfl⟩
    omega
theorem times_alike (a b : Int) (ha : In64 a) (hb : In64 b) : Alike (timesF a b) (rmulF a b) := by
  by_cases a0 : a = 0
  · subst a0
    have e : rmulF 0 b = (0, true) := by unfold rmulF; rfl
    rw [e]
    exact ⟨rfl, fun _ => rfl⟩
  by_cases b0 : b = 0
  · subst b0
    have e : rmulF a 0 = (0, true) := by unfold rmulF; rw [show (a == 0 || (0 : Int) == 0) = true by simp, if_pos rfl]
    rw [e]
    have e2 : timesF a 0 = (0, true) := by
      unfold timesF
      rw [if_neg a0, Int.mul_zero, show wrap64 0 = 0 by unfold wrap64; omega, Int.zero_tdiv, show wrap64 0 = 0 by unfold wrap64; omega]
      simp
    rw [e2]
    exact ⟨rfl, fun _ => rfl⟩
  have h1 := back_iff a b a0 ha hb
  have h2 := back_iff b a b0 hb ha
  rw [Int.mul_comm b a] at h2
  have f1 : (a == 0 || b == 0) = false := by simp [a0, b0]
  have et : timesF a b = (wrap64 (a * b), (wrap64 ((wrap64 (a * b)).tdiv a) == b) && (!(a == -1) || !(b == -9223372036854775808))) := if_neg a0
  by_cases h : In64 (a * b)
  · have h1 := h1.2 h
    have h2 := h2.2 h
    have e : wrap64 (a * b) = a * b := wrap_id _ h.1 h.2
    have hx : ¬ (a = -1 ∧ b = -9223372036854775808) := h1.2
    have hy : ¬ (b = -1 ∧ a = -9223372036854775808) := h2.2
    have e2 : rmulF a b = (wrap64 (a * b), true) := by
      unfold rmulF
      rw [f1, if_neg (by simp), if_neg (by simp; omega), h2.1]
      simp
    have e1 : timesF a b = (wrap64 (a * b), true) := by
      rw [et, h1.1]
      simp
      omega
    rw [e1, e2]
    exact ⟨rfl, fun _ => rfl⟩
  · have e2 : (rmulF a b).2 = false := by
      unfold rmulF
      rw [f1, if_neg (by simp)]
      split
      · rfl
      · rename_i hx
        show (wrap64 ((wrap64 (a * b)).tdiv b) == a) = false
        rw [beq_eq_false_iff_ne]
        intro q
        refine h (h2.1 ⟨q, ?_⟩)
        intro q2
        simp at hx
        exact hx.2 q2.1 q2.2
    have e1 : (timesF a b).2 = false := by
      rw [et]
      show ((wrap64 ((wrap64 (a * b)).tdiv a) == b) && (!(a == -1) || !(b == -9223372036854775808))) = false
      rw [Bool.eq_false_iff]
      intro q
      refine h (h1.1 ?_)
      simp at q
      exact ⟨q.1, by omega⟩
    exact ⟨e1.trans e2.symm, fun q => by rw [e2] at q; cases q⟩
end Go.Proofs.YtngopilbpiplhaaGreatDoor

namespace Go.Proofs.YtngopilbpiplhaaGreatDoor
open Go.RowKit
set_option linter.unusedVariables false
/-- The cells of a claim of the document's own answer. -/
def rcCells (c : Cl) : Array Value := #[.bool c.never,
  .bool (c.has 0), .bool (c.has 1), .bool (c.has 2), .bool (c.has 3), .bool (c.has 4), .bool (c.has 5), .bool (c.has 6), .bool (c.has 7),
  .int .i64 (c.lo 0), .int .i64 (c.lo 1), .int .i64 (c.lo 2), .int .i64 (c.lo 3), .int .i64 (c.lo 4), .int .i64 (c.lo 5), .int .i64 (c.lo 6), .int .i64 (c.lo 7),
  .int .i64 (c.hi 0), .int .i64 (c.hi 1), .int .i64 (c.hi 2), .int .i64 (c.hi 3), .int .i64 (c.hi 4), .int .i64 (c.hi 5), .int .i64 (c.hi 6), .int .i64 (c.hi 7)]
abbrev rcB (c : Cl) : Obj := .cells (rcCells c) 181
theorem rc_one (c : Cl) : (rcCells c).all (·.oneCell') = true := by simp [rcCells, Value.oneCell']
theorem rc_has (c : Cl) (r : Nat) (h : r < 8) : (rcCells c)[1 + r]? = some (.bool (c.has r)) :=
  lt8' (p := fun r => (rcCells c)[1 + r]? = some (.bool (c.has r))) rfl rfl rfl rfl rfl rfl rfl rfl r h
theorem rc_lo (c : Cl) (r : Nat) (h : r < 8) : (rcCells c)[9 + r]? = some (.int .i64 (c.lo r)) :=
  lt8' (p := fun r => (rcCells c)[9 + r]? = some (.int .i64 (c.lo r))) rfl rfl rfl rfl rfl rfl rfl rfl r h
theorem rc_hi (c : Cl) (r : Nat) (h : r < 8) : (rcCells c)[17 + r]? = some (.int .i64 (c.hi r)) :=
  lt8' (p := fun r => (rcCells c)[17 + r]? = some (.int .i64 (c.hi r))) rfl rfl rfl rfl rfl rfl rfl rfl r h
theorem rc_with (c : Cl) (r : Nat) (h : r < 8) (a b : Int) : (((rcCells c).setIfInBounds (1 + r) (.bool true)).setIfInBounds (9 + r) (.int .i64 a)).setIfInBounds (17 + r) (.int .i64 b) = rcCells (c.with_ r a b) :=
  lt8' (p := fun r => (((rcCells c).setIfInBounds (1 + r) (.bool true)).setIfInBounds (9 + r) (.int .i64 a)).setIfInBounds (17 + r) (.int .i64 b) = rcCells (c.with_ r a b)) rfl rfl rfl rfl rfl rfl rfl rfl r h
set_option maxRecDepth 100000 in
set_option maxHeartbeats 2000000 in
theorem rput_any (c : Cl) (r : Nat) (hr : r < 8) (a b : Int) (w : World) :
    Calls Tryz.prog 169 #[.agg (rcCells c), .int .i64 r, .int .i64 a, .int .i64 b] w fun e w' => e = .returned (.agg (rcCells (c.with_ r a b))) ∧ Below w.heap.size w w' := by
  have hrI : (r : Int) < 8 := by omega
  have h0 := rc_has c r hr
  have h1 := rc_lo c r hr
  have h2 := rc_hi c r hr
  have g1 : ((rcCells c).setIfInBounds (1 + r) (.bool true))[9 + r]? = some (.int .i64 (c.lo r)) := by rw [Array.getElem?_setIfInBounds_ne (by omega)]; exact h1
  have g2 : (((rcCells c).setIfInBounds (1 + r) (.bool true)).setIfInBounds (9 + r) (.int .i64 a))[17 + r]? = some (.int .i64 (c.hi r)) := by rw [Array.getElem?_setIfInBounds_ne (by omega), Array.getElem?_setIfInBounds_ne (by omega)]; exact h2
  go_enter Tryz.func169, Tryz.ntmps169
  have hA : ((w.alloc (.cells ((((rcCells c).setIfInBounds (1 + r) (.bool true)).setIfInBounds (9 + r) (.int .i64 a)).setIfInBounds (17 + r) (.int .i64 b)) 181)).alloc (rcB clNone)).heap[w.heap.size]? = some (.cells ((((rcCells c).setIfInBounds (1 + r) (.bool true)).setIfInBounds (9 + r) (.int .i64 a)).setIfInBounds (17 + r) (.int .i64 b)) 181) := blk_alloc (blk_new w _) _
  have hC : ((w.alloc (.cells ((((rcCells c).setIfInBounds (1 + r) (.bool true)).setIfInBounds (9 + r) (.int .i64 a)).setIfInBounds (17 + r) (.int .i64 b)) 181)).alloc (rcB clNone)).heap[w.heap.size + 1]? = some (rcB clNone) := heap_alloc2_new w _ _
  have hone : ((((rcCells c).setIfInBounds (1 + r) (.bool true)).setIfInBounds (9 + r) (.int .i64 a)).setIfInBounds (17 + r) (.int .i64 b)).all (·.oneCell') = true := by rw [rc_with c r hr a b]; exact rc_one _
  have hsz : ((((rcCells c).setIfInBounds (1 + r) (.bool true)).setIfInBounds (9 + r) (.int .i64 a)).setIfInBounds (17 + r) (.int .i64 b)).size = 25 := by rw [rc_with c r hr a b]; rfl
  have HA := hide hA
  have HC := hide hC
  have HO := hide hone
  have HSZ := hide hsz
  clear hA hC hone hsz
  go_wp2_with (first | (refine wpList_load_row rfl 181 (.tmp 4) rfl w.heap.size rfl _ _ _ _ HA.out Tryz.underlying181 rfl (by rw [HSZ.out]; kernel_rfl) ?_) | (refine wpList_storeRw rfl 181 (.tmp 8) (.tmp 20) rfl (w.heap.size + 1) _ (rcCells clNone) rfl rfl HC.out (by rw [HSZ.out]; kernel_rfl) (by rw [HSZ.out]; rfl) HO.out ?_))
  intro v hv
  have hg : v.heap[w.heap.size + 1]? = some (.cells ((((rcCells c).setIfInBounds (1 + r) (.bool true)).setIfInBounds (9 + r) (.int .i64 a)).setIfInBounds (17 + r) (.int .i64 b)) 181) := by rw [hv.out]; exact setRow_heap _ _ _ _ _ _ HC.out
  have hb : Below w.heap.size w v := by
    rw [hv.out]
    exact (((Below.refl _ _).alloc (Nat.le_refl _) _).alloc (by simp) _).trans ((keep_setRow' w.heap.size _ _ _).below (by omega))
  clear hv h0 h1 h2 g1 g2
  rw [rc_with c r hr a b] at hg
  go_wp2
  exact bodyPost_ret (results_cell_row rfl _ _ (w.heap.size + 1) 181 _ _ _ rfl hg Tryz.underlying181 rfl (by kernel_rfl)) rfl ⟨rfl, hb⟩
end Go.Proofs.YtngopilbpiplhaaGreatDoor

namespace Go.Proofs.YtngopilbpiplhaaGreatDoor
open Go.RowKit
set_option linter.unusedVariables false
abbrev snB (lo hi : Int) (o sm : Bool) : Obj := .cells #[.int .i64 lo, .int .i64 hi, .bool o, .bool sm] 285
set_option maxRecDepth 100000 in
set_option maxHeartbeats 2000000 in
theorem rwith_first (g : Nat) (lo hi : Int) (o : Bool) (n : Int) (k : Bool) (w : World) (hg : w.heap[g]? = some (snB lo hi o false)) :
    Calls Tryz.prog 210 #[.pointer (some ⟨g, 0, none⟩), .int .i64 n, .bool k] w fun e w' => e = .returned (.tuple #[]) ∧ w'.heap[g]? = some (snB n n k true) ∧ Keep w.heap.size g w w' := by
  have c0 : w.cell? ⟨g, 0, none⟩ = some (.int .i64 lo) := cell_of_blk hg 0
  have c1 : w.cell? ⟨g, 1, none⟩ = some (.int .i64 hi) := cell_of_blk hg 1
  have c2 : w.cell? ⟨g, 2, none⟩ = some (.bool o) := cell_of_blk hg 2
  have c3 : w.cell? ⟨g, 3, none⟩ = some (.bool false) := cell_of_blk hg 3
  have fz := frozen_of_blk hg
  have HG := hide hg
  clear hg
  cases k with
  | true =>
    go_enter Tryz.func210, Tryz.ntmps210
    go_wp2
    go_end0
    exact ⟨rfl, (blk_setCell (blk_setCell (blk_setCell (blk_setCell (blk_setCell HG.out 3 _) 2 _) 0 _) 1 _) 2 _), (Keep.setb _ g (Keep.setb _ g (Keep.setb _ g (Keep.setb _ g (Keep.setb _ g (Keep.refl _ g _) _ _) _ _) _ _) _ _) _ _)⟩
  | false =>
    go_enter Tryz.func210, Tryz.ntmps210
    go_wp2
    go_end0
    exact ⟨rfl, (blk_setCell (blk_setCell (blk_setCell (blk_setCell (blk_setCell HG.out 3 _) 2 _) 0 _) 1 _) 2 _), (Keep.setb _ g (Keep.setb _ g (Keep.setb _ g (Keep.setb _ g (Keep.setb _ g (Keep.refl _ g _) _ _) _ _) _ _) _ _) _ _)⟩
set_option maxRecDepth 100000 in
set_option maxHeartbeats 4000000 in
theorem rwith_more (g : Nat) (lo hi : Int) (o : Bool) (n : Int) (k : Bool) (w : World) (hg : w.heap[g]? = some (snB lo hi o true)) (hle : lo ≤ hi) :
    Calls Tryz.prog 210 #[.pointer (some ⟨g, 0, none⟩), .int .i64 n, .bool k] w fun e w' => e = .returned (.tuple #[]) ∧ w'.heap[g]? = some (snB (min lo n) (max hi n) (o && k) true) ∧ Keep w.heap.size g w w' := by
  have c0 : w.cell? ⟨g, 0, none⟩ = some (.int .i64 lo) := cell_of_blk hg 0
  have c1 : w.cell? ⟨g, 1, none⟩ = some (.int .i64 hi) := cell_of_blk hg 1
  have c2 : w.cell? ⟨g, 2, none⟩ = some (.bool o) := cell_of_blk hg 2
  have c3 : w.cell? ⟨g, 3, none⟩ = some (.bool true) := cell_of_blk hg 3
  have fz := frozen_of_blk hg
  have HG := hide hg
  clear hg
  by_cases h1 : n < lo
  · have h2 : ¬ hi < n := by omega
    rw [show min lo n = n by omega, show max hi n = hi by omega]
    cases o <;> cases k
    all_goals
      go_enter Tryz.func210, Tryz.ntmps210
      go_wp2
      go_end0
      exact ⟨rfl, (blk_setCell (blk_setCell HG.out 2 _) 0 _), (Keep.setb _ g (Keep.setb _ g (Keep.refl _ g _) _ _) _ _)⟩
  · by_cases h2 : hi < n
    · rw [show min lo n = lo by omega, show max hi n = n by omega]
      cases o <;> cases k
      all_goals
        go_enter Tryz.func210, Tryz.ntmps210
        go_wp2
        go_end0
        exact ⟨rfl, (blk_setCell (blk_setCell HG.out 2 _) 1 _), (Keep.setb _ g (Keep.setb _ g (Keep.refl _ g _) _ _) _ _)⟩
    · rw [show min lo n = lo by omega, show max hi n = hi by omega]
      cases o <;> cases k
      all_goals
        go_enter Tryz.func210, Tryz.ntmps210
        go_wp2
        go_end0
        exact ⟨rfl, (blk_setCell HG.out 2 _), (Keep.setb _ g (Keep.refl _ g _) _ _)⟩
end Go.Proofs.YtngopilbpiplhaaGreatDoor

namespace Go.Proofs.YtngopilbpiplhaaGreatDoor
open Go.RowKit
set_option linter.unusedVariables false
/-- The cells of a line of the document's own answer. -/
def rlCells (i r s : Nat) (n l : Int) : Array Value := #[.string ⟨(wName i).toArray⟩, .int .i64 r, .int .i64 s, .int .i64 n, .int .i64 l]
abbrev rlB (i r s : Nat) (n l : Int) : Obj := .cells (rlCells i r s n l) 185
set_option maxRecDepth 100000 in
set_option maxHeartbeats 1000000 in
theorem form_0 (w : World) : Calls Tryz.prog 183 #[.string ⟨(wName 0).toArray⟩] w fun e w' => e = .returned (.string ⟨(wParts 0).toArray⟩) ∧ w' = w := by
  show Calls Tryz.prog 183 #[.string ⟨#[115, 101, 116]⟩] w _
  go_enter Tryz.func183, Tryz.ntmps183
  go_wp2
  go_ret
  exact ⟨rfl, rfl⟩
set_option maxRecDepth 100000 in
set_option maxHeartbeats 1000000 in
theorem takes_0 (r s : Nat) (n l : Int) (w : World) : Calls Tryz.prog 165 #[.agg (rlCells 0 r s n l)] w fun e w' => e = .returned (.tuple #[.bool false, .bool false]) ∧ Below w.heap.size w w' := by
  show Calls Tryz.prog 165 #[.agg #[.string ⟨#[115, 101, 116]⟩, .int .i64 r, .int .i64 s, .int .i64 n, .int .i64 l]] w _
  go_enter Tryz.func165, Tryz.ntmps165
  go_wp2
  go_ret2
  exact ⟨rfl, (Below.refl _ _).alloc (Nat.le_refl _) _⟩
set_option maxRecDepth 100000 in
set_option maxHeartbeats 1000000 in
theorem places_0 (r s : Nat) (n l : Int) (w : World) : Calls Tryz.prog 166 #[.agg (rlCells 0 r s n l)] w fun e w' => e = .returned (.tuple #[.int .i64 0, .int .i64 0]) ∧ Below w.heap.size w w' := by
  show Calls Tryz.prog 166 #[.agg #[.string ⟨#[115, 101, 116]⟩, .int .i64 r, .int .i64 s, .int .i64 n, .int .i64 l]] w _
  go_enter Tryz.func166, Tryz.ntmps166
  go_wp2
  go_ret2
  exact ⟨rfl, (Below.refl _ _).alloc (Nat.le_refl _) _⟩
set_option maxRecDepth 100000 in
set_option maxHeartbeats 1000000 in
theorem form_1 (w : World) : Calls Tryz.prog 183 #[.string ⟨(wName 1).toArray⟩] w fun e w' => e = .returned (.string ⟨(wParts 1).toArray⟩) ∧ w' = w := by
  show Calls Tryz.prog 183 #[.string ⟨#[109, 111, 118]⟩] w _
  go_enter Tryz.func183, Tryz.ntmps183
  go_wp2
  go_ret
  exact ⟨rfl, rfl⟩
set_option maxRecDepth 100000 in
set_option maxHeartbeats 1000000 in
theorem takes_1 (r s : Nat) (n l : Int) (w : World) : Calls Tryz.prog 165 #[.agg (rlCells 1 r s n l)] w fun e w' => e = .returned (.tuple #[.bool false, .bool true]) ∧ Below w.heap.size w w' := by
  show Calls Tryz.prog 165 #[.agg #[.string ⟨#[109, 111, 118]⟩, .int .i64 r, .int .i64 s, .int .i64 n, .int .i64 l]] w _
  go_enter Tryz.func165, Tryz.ntmps165
  go_wp2
  go_ret2
  exact ⟨rfl, (Below.refl _ _).alloc (Nat.le_refl _) _⟩
set_option maxRecDepth 100000 in
set_option maxHeartbeats 1000000 in
theorem places_1 (r s : Nat) (n l : Int) (w : World) : Calls Tryz.prog 166 #[.agg (rlCells 1 r s n l)] w fun e w' => e = .returned (.tuple #[.int .i64 0, .int .i64 0]) ∧ Below w.heap.size w w' := by
  show Calls Tryz.prog 166 #[.agg #[.string ⟨#[109, 111, 118]⟩, .int .i64 r, .int .i64 s, .int .i64 n, .int .i64 l]] w _
  go_enter Tryz.func166, Tryz.ntmps166
  go_wp2
  go_ret2
  exact ⟨rfl, (Below.refl _ _).alloc (Nat.le_refl _) _⟩
set_option maxRecDepth 100000 in
set_option maxHeartbeats 1000000 in
theorem form_2 (w : World) : Calls Tryz.prog 183 #[.string ⟨(wName 2).toArray⟩] w fun e w' => e = .returned (.string ⟨(wParts 2).toArray⟩) ∧ w' = w := by
  show Calls Tryz.prog 183 #[.string ⟨#[97, 100, 100]⟩] w _
  go_enter Tryz.func183, Tryz.ntmps183
  go_wp2
  go_ret
  exact ⟨rfl, rfl⟩
set_option maxRecDepth 100000 in
set_option maxHeartbeats 1000000 in
theorem takes_2 (r s : Nat) (n l : Int) (w : World) : Calls Tryz.prog 165 #[.agg (rlCells 2 r s n l)] w fun e w' => e = .returned (.tuple #[.bool true, .bool true]) ∧ Below w.heap.size w w' := by
  show Calls Tryz.prog 165 #[.agg #[.string ⟨#[97, 100, 100]⟩, .int .i64 r, .int .i64 s, .int .i64 n, .int .i64 l]] w _
  go_enter Tryz.func165, Tryz.ntmps165
  go_wp2
  go_ret2
  exact ⟨rfl, (Below.refl _ _).alloc (Nat.le_refl _) _⟩
set_option maxRecDepth 100000 in
set_option maxHeartbeats 1000000 in
theorem places_2 (r s : Nat) (n l : Int) (w : World) : Calls Tryz.prog 166 #[.agg (rlCells 2 r s n l)] w fun e w' => e = .returned (.tuple #[.int .i64 0, .int .i64 0]) ∧ Below w.heap.size w w' := by
  show Calls Tryz.prog 166 #[.agg #[.string ⟨#[97, 100, 100]⟩, .int .i64 r, .int .i64 s, .int .i64 n, .int .i64 l]] w _
  go_enter Tryz.func166, Tryz.ntmps166
  go_wp2
  go_ret2
  exact ⟨rfl, (Below.refl _ _).alloc (Nat.le_refl _) _⟩
set_option maxRecDepth 100000 in
set_option maxHeartbeats 1000000 in
theorem form_3 (w : World) : Calls Tryz.prog 183 #[.string ⟨(wName 3).toArray⟩] w fun e w' => e = .returned (.string ⟨(wParts 3).toArray⟩) ∧ w' = w := by
  show Calls Tryz.prog 183 #[.string ⟨#[115, 117, 98]⟩] w _
  go_enter Tryz.func183, Tryz.ntmps183
  go_wp2
  go_ret
  exact ⟨rfl, rfl⟩
set_option maxRecDepth 100000 in
set_option maxHeartbeats 1000000 in
theorem takes_3 (r s : Nat) (n l : Int) (w : World) : Calls Tryz.prog 165 #[.agg (rlCells 3 r s n l)] w fun e w' => e = .returned (.tuple #[.bool true, .bool true]) ∧ Below w.heap.size w w' := by
  show Calls Tryz.prog 165 #[.agg #[.string ⟨#[115, 117, 98]⟩, .int .i64 r, .int .i64 s, .int .i64 n, .int .i64 l]] w _
  go_enter Tryz.func165, Tryz.ntmps165
  go_wp2
  go_ret2
  exact ⟨rfl, (Below.refl _ _).alloc (Nat.le_refl _) _⟩
set_option maxRecDepth 100000 in
set_option maxHeartbeats 1000000 in
theorem places_3 (r s : Nat) (n l : Int) (w : World) : Calls Tryz.prog 166 #[.agg (rlCells 3 r s n l)] w fun e w' => e = .returned (.tuple #[.int .i64 0, .int .i64 0]) ∧ Below w.heap.size w w' := by
  show Calls Tryz.prog 166 #[.agg #[.string ⟨#[115, 117, 98]⟩, .int .i64 r, .int .i64 s, .int .i64 n, .int .i64 l]] w _
  go_enter Tryz.func166, Tryz.ntmps166
  go_wp2
  go_ret2
  exact ⟨rfl, (Below.refl _ _).alloc (Nat.le_refl _) _⟩
set_option maxRecDepth 100000 in
set_option maxHeartbeats 1000000 in
theorem form_4 (w : World) : Calls Tryz.prog 183 #[.string ⟨(wName 4).toArray⟩] w fun e w' => e = .returned (.string ⟨(wParts 4).toArray⟩) ∧ w' = w := by
  show Calls Tryz.prog 183 #[.string ⟨#[109, 117, 108]⟩] w _
  go_enter Tryz.func183, Tryz.ntmps183
  go_wp2
  go_ret
  exact ⟨rfl, rfl⟩
set_option maxRecDepth 100000 in
set_option maxHeartbeats 1000000 in
theorem takes_4 (r s : Nat) (n l : Int) (w : World) : Calls Tryz.prog 165 #[.agg (rlCells 4 r s n l)] w fun e w' => e = .returned (.tuple #[.bool true, .bool true]) ∧ Below w.heap.size w w' := by
  show Calls Tryz.prog 165 #[.agg #[.string ⟨#[109, 117, 108]⟩, .int .i64 r, .int .i64 s, .int .i64 n, .int .i64 l]] w _
  go_enter Tryz.func165, Tryz.ntmps165
  go_wp2
  go_ret2
  exact ⟨rfl, (Below.refl _ _).alloc (Nat.le_refl _) _⟩
set_option maxRecDepth 100000 in
set_option maxHeartbeats 1000000 in
theorem places_4 (r s : Nat) (n l : Int) (w : World) : Calls Tryz.prog 166 #[.agg (rlCells 4 r s n l)] w fun e w' => e = .returned (.tuple #[.int .i64 0, .int .i64 0]) ∧ Below w.heap.size w w' := by
  show Calls Tryz.prog 166 #[.agg #[.string ⟨#[109, 117, 108]⟩, .int .i64 r, .int .i64 s, .int .i64 n, .int .i64 l]] w _
  go_enter Tryz.func166, Tryz.ntmps166
  go_wp2
  go_ret2
  exact ⟨rfl, (Below.refl _ _).alloc (Nat.le_refl _) _⟩
set_option maxRecDepth 100000 in
set_option maxHeartbeats 1000000 in
theorem form_5 (w : World) : Calls Tryz.prog 183 #[.string ⟨(wName 5).toArray⟩] w fun e w' => e = .returned (.string ⟨(wParts 5).toArray⟩) ∧ w' = w := by
  show Calls Tryz.prog 183 #[.string ⟨#[97, 110, 100]⟩] w _
  go_enter Tryz.func183, Tryz.ntmps183
  go_wp2
  go_ret
  exact ⟨rfl, rfl⟩
set_option maxRecDepth 100000 in
set_option maxHeartbeats 1000000 in
theorem takes_5 (r s : Nat) (n l : Int) (w : World) : Calls Tryz.prog 165 #[.agg (rlCells 5 r s n l)] w fun e w' => e = .returned (.tuple #[.bool true, .bool true]) ∧ Below w.heap.size w w' := by
  show Calls Tryz.prog 165 #[.agg #[.string ⟨#[97, 110, 100]⟩, .int .i64 r, .int .i64 s, .int .i64 n, .int .i64 l]] w _
  go_enter Tryz.func165, Tryz.ntmps165
  go_wp2
  go_ret2
  exact ⟨rfl, (Below.refl _ _).alloc (Nat.le_refl _) _⟩
set_option maxRecDepth 100000 in
set_option maxHeartbeats 1000000 in
theorem places_5 (r s : Nat) (n l : Int) (w : World) : Calls Tryz.prog 166 #[.agg (rlCells 5 r s n l)] w fun e w' => e = .returned (.tuple #[.int .i64 0, .int .i64 0]) ∧ Below w.heap.size w w' := by
  show Calls Tryz.prog 166 #[.agg #[.string ⟨#[97, 110, 100]⟩, .int .i64 r, .int .i64 s, .int .i64 n, .int .i64 l]] w _
  go_enter Tryz.func166, Tryz.ntmps166
  go_wp2
  go_ret2
  exact ⟨rfl, (Below.refl _ _).alloc (Nat.le_refl _) _⟩
set_option maxRecDepth 100000 in
set_option maxHeartbeats 1000000 in
theorem form_6 (w : World) : Calls Tryz.prog 183 #[.string ⟨(wName 6).toArray⟩] w fun e w' => e = .returned (.string ⟨(wParts 6).toArray⟩) ∧ w' = w := by
  show Calls Tryz.prog 183 #[.string ⟨#[100, 105, 118]⟩] w _
  go_enter Tryz.func183, Tryz.ntmps183
  go_wp2
  go_ret
  exact ⟨rfl, rfl⟩
set_option maxRecDepth 100000 in
set_option maxHeartbeats 1000000 in
theorem takes_6 (r s : Nat) (n l : Int) (w : World) : Calls Tryz.prog 165 #[.agg (rlCells 6 r s n l)] w fun e w' => e = .returned (.tuple #[.bool true, .bool true]) ∧ Below w.heap.size w w' := by
  show Calls Tryz.prog 165 #[.agg #[.string ⟨#[100, 105, 118]⟩, .int .i64 r, .int .i64 s, .int .i64 n, .int .i64 l]] w _
  go_enter Tryz.func165, Tryz.ntmps165
  go_wp2
  go_ret2
  exact ⟨rfl, (Below.refl _ _).alloc (Nat.le_refl _) _⟩
set_option maxRecDepth 100000 in
set_option maxHeartbeats 1000000 in
theorem places_6 (r s : Nat) (n l : Int) (w : World) : Calls Tryz.prog 166 #[.agg (rlCells 6 r s n l)] w fun e w' => e = .returned (.tuple #[.int .i64 0, .int .i64 0]) ∧ Below w.heap.size w w' := by
  show Calls Tryz.prog 166 #[.agg #[.string ⟨#[100, 105, 118]⟩, .int .i64 r, .int .i64 s, .int .i64 n, .int .i64 l]] w _
  go_enter Tryz.func166, Tryz.ntmps166
  go_wp2
  go_ret2
  exact ⟨rfl, (Below.refl _ _).alloc (Nat.le_refl _) _⟩
set_option maxRecDepth 100000 in
set_option maxHeartbeats 1000000 in
theorem form_7 (w : World) : Calls Tryz.prog 183 #[.string ⟨(wName 7).toArray⟩] w fun e w' => e = .returned (.string ⟨(wParts 7).toArray⟩) ∧ w' = w := by
  show Calls Tryz.prog 183 #[.string ⟨#[105, 110]⟩] w _
  go_enter Tryz.func183, Tryz.ntmps183
  go_wp2
  go_ret
  exact ⟨rfl, rfl⟩
set_option maxRecDepth 100000 in
set_option maxHeartbeats 1000000 in
theorem takes_7 (r s : Nat) (n l : Int) (w : World) : Calls Tryz.prog 165 #[.agg (rlCells 7 r s n l)] w fun e w' => e = .returned (.tuple #[.bool false, .bool true]) ∧ Below w.heap.size w w' := by
  show Calls Tryz.prog 165 #[.agg #[.string ⟨#[105, 110]⟩, .int .i64 r, .int .i64 s, .int .i64 n, .int .i64 l]] w _
  go_enter Tryz.func165, Tryz.ntmps165
  go_wp2
  go_ret2
  exact ⟨rfl, (Below.refl _ _).alloc (Nat.le_refl _) _⟩
set_option maxRecDepth 100000 in
set_option maxHeartbeats 1000000 in
theorem places_7 (r s : Nat) (n l : Int) (w : World) : Calls Tryz.prog 166 #[.agg (rlCells 7 r s n l)] w fun e w' => e = .returned (.tuple #[.int .i64 64, .int .i64 s]) ∧ Below w.heap.size w w' := by
  show Calls Tryz.prog 166 #[.agg #[.string ⟨#[105, 110]⟩, .int .i64 r, .int .i64 s, .int .i64 n, .int .i64 l]] w _
  go_enter Tryz.func166, Tryz.ntmps166
  go_wp2
  go_region
  all_goals go_wp2
  all_goals go_ret2
  all_goals exact ⟨rfl, ((Below.refl _ _).alloc (Nat.le_refl _) _).drew⟩
set_option maxRecDepth 100000 in
set_option maxHeartbeats 1000000 in
theorem form_8 (w : World) : Calls Tryz.prog 183 #[.string ⟨(wName 8).toArray⟩] w fun e w' => e = .returned (.string ⟨(wParts 8).toArray⟩) ∧ w' = w := by
  show Calls Tryz.prog 183 #[.string ⟨#[103, 101, 116]⟩] w _
  go_enter Tryz.func183, Tryz.ntmps183
  go_wp2
  go_ret
  exact ⟨rfl, rfl⟩
set_option maxRecDepth 100000 in
set_option maxHeartbeats 1000000 in
theorem takes_8 (r s : Nat) (n l : Int) (w : World) : Calls Tryz.prog 165 #[.agg (rlCells 8 r s n l)] w fun e w' => e = .returned (.tuple #[.bool false, .bool true]) ∧ Below w.heap.size w w' := by
  show Calls Tryz.prog 165 #[.agg #[.string ⟨#[103, 101, 116]⟩, .int .i64 r, .int .i64 s, .int .i64 n, .int .i64 l]] w _
  go_enter Tryz.func165, Tryz.ntmps165
  go_wp2
  go_ret2
  exact ⟨rfl, (Below.refl _ _).alloc (Nat.le_refl _) _⟩
set_option maxRecDepth 100000 in
set_option maxHeartbeats 1000000 in
theorem places_8 (r s : Nat) (n l : Int) (w : World) : Calls Tryz.prog 166 #[.agg (rlCells 8 r s n l)] w fun e w' => e = .returned (.tuple #[.int .i64 16, .int .i64 s]) ∧ Below w.heap.size w w' := by
  show Calls Tryz.prog 166 #[.agg #[.string ⟨#[103, 101, 116]⟩, .int .i64 r, .int .i64 s, .int .i64 n, .int .i64 l]] w _
  go_enter Tryz.func166, Tryz.ntmps166
  go_wp2
  go_region
  all_goals go_wp2
  all_goals go_ret2
  all_goals exact ⟨rfl, ((Below.refl _ _).alloc (Nat.le_refl _) _).drew⟩
set_option maxRecDepth 100000 in
set_option maxHeartbeats 1000000 in
theorem form_9 (w : World) : Calls Tryz.prog 183 #[.string ⟨(wName 9).toArray⟩] w fun e w' => e = .returned (.string ⟨(wParts 9).toArray⟩) ∧ w' = w := by
  show Calls Tryz.prog 183 #[.string ⟨#[112, 117, 116]⟩] w _
  go_enter Tryz.func183, Tryz.ntmps183
  go_wp2
  go_ret
  exact ⟨rfl, rfl⟩
set_option maxRecDepth 100000 in
set_option maxHeartbeats 1000000 in
theorem takes_9 (r s : Nat) (n l : Int) (w : World) : Calls Tryz.prog 165 #[.agg (rlCells 9 r s n l)] w fun e w' => e = .returned (.tuple #[.bool true, .bool true]) ∧ Below w.heap.size w w' := by
  show Calls Tryz.prog 165 #[.agg #[.string ⟨#[112, 117, 116]⟩, .int .i64 r, .int .i64 s, .int .i64 n, .int .i64 l]] w _
  go_enter Tryz.func165, Tryz.ntmps165
  go_wp2
  go_ret2
  exact ⟨rfl, (Below.refl _ _).alloc (Nat.le_refl _) _⟩
set_option maxRecDepth 100000 in
set_option maxHeartbeats 1000000 in
theorem places_9 (r s : Nat) (n l : Int) (w : World) : Calls Tryz.prog 166 #[.agg (rlCells 9 r s n l)] w fun e w' => e = .returned (.tuple #[.int .i64 16, .int .i64 r]) ∧ Below w.heap.size w w' := by
  show Calls Tryz.prog 166 #[.agg #[.string ⟨#[112, 117, 116]⟩, .int .i64 r, .int .i64 s, .int .i64 n, .int .i64 l]] w _
  go_enter Tryz.func166, Tryz.ntmps166
  go_wp2
  go_region
  all_goals go_wp2
  all_goals go_ret2
  all_goals exact ⟨rfl, ((Below.refl _ _).alloc (Nat.le_refl _) _).drew⟩
set_option maxRecDepth 100000 in
set_option maxHeartbeats 1000000 in
theorem form_10 (w : World) : Calls Tryz.prog 183 #[.string ⟨(wName 10).toArray⟩] w fun e w' => e = .returned (.string ⟨(wParts 10).toArray⟩) ∧ w' = w := by
  show Calls Tryz.prog 183 #[.string ⟨#[108, 111, 97, 100]⟩] w _
  go_enter Tryz.func183, Tryz.ntmps183
  go_wp2
  go_ret
  exact ⟨rfl, rfl⟩
set_option maxRecDepth 100000 in
set_option maxHeartbeats 1000000 in
theorem takes_10 (r s : Nat) (n l : Int) (w : World) : Calls Tryz.prog 165 #[.agg (rlCells 10 r s n l)] w fun e w' => e = .returned (.tuple #[.bool false, .bool true]) ∧ Below w.heap.size w w' := by
  show Calls Tryz.prog 165 #[.agg #[.string ⟨#[108, 111, 97, 100]⟩, .int .i64 r, .int .i64 s, .int .i64 n, .int .i64 l]] w _
  go_enter Tryz.func165, Tryz.ntmps165
  go_wp2
  go_ret2
  exact ⟨rfl, (Below.refl _ _).alloc (Nat.le_refl _) _⟩
set_option maxRecDepth 100000 in
set_option maxHeartbeats 1000000 in
theorem places_10 (r s : Nat) (n l : Int) (w : World) : Calls Tryz.prog 166 #[.agg (rlCells 10 r s n l)] w fun e w' => e = .returned (.tuple #[.int .i64 8, .int .i64 s]) ∧ Below w.heap.size w w' := by
  show Calls Tryz.prog 166 #[.agg #[.string ⟨#[108, 111, 97, 100]⟩, .int .i64 r, .int .i64 s, .int .i64 n, .int .i64 l]] w _
  go_enter Tryz.func166, Tryz.ntmps166
  go_wp2
  go_region
  all_goals go_wp2
  all_goals go_ret2
  all_goals exact ⟨rfl, ((Below.refl _ _).alloc (Nat.le_refl _) _).drew⟩
set_option maxRecDepth 100000 in
set_option maxHeartbeats 1000000 in
theorem form_11 (w : World) : Calls Tryz.prog 183 #[.string ⟨(wName 11).toArray⟩] w fun e w' => e = .returned (.string ⟨(wParts 11).toArray⟩) ∧ w' = w := by
  show Calls Tryz.prog 183 #[.string ⟨#[107, 101, 101, 112]⟩] w _
  go_enter Tryz.func183, Tryz.ntmps183
  go_wp2
  go_ret
  exact ⟨rfl, rfl⟩
set_option maxRecDepth 100000 in
set_option maxHeartbeats 1000000 in
theorem takes_11 (r s : Nat) (n l : Int) (w : World) : Calls Tryz.prog 165 #[.agg (rlCells 11 r s n l)] w fun e w' => e = .returned (.tuple #[.bool true, .bool true]) ∧ Below w.heap.size w w' := by
  show Calls Tryz.prog 165 #[.agg #[.string ⟨#[107, 101, 101, 112]⟩, .int .i64 r, .int .i64 s, .int .i64 n, .int .i64 l]] w _
  go_enter Tryz.func165, Tryz.ntmps165
  go_wp2
  go_ret2
  exact ⟨rfl, (Below.refl _ _).alloc (Nat.le_refl _) _⟩
set_option maxRecDepth 100000 in
set_option maxHeartbeats 1000000 in
theorem places_11 (r s : Nat) (n l : Int) (w : World) : Calls Tryz.prog 166 #[.agg (rlCells 11 r s n l)] w fun e w' => e = .returned (.tuple #[.int .i64 8, .int .i64 r]) ∧ Below w.heap.size w w' := by
  show Calls Tryz.prog 166 #[.agg #[.string ⟨#[107, 101, 101, 112]⟩, .int .i64 r, .int .i64 s, .int .i64 n, .int .i64 l]] w _
  go_enter Tryz.func166, Tryz.ntmps166
  go_wp2
  go_region
  all_goals go_wp2
  all_goals go_ret2
  all_goals exact ⟨rfl, ((Below.refl _ _).alloc (Nat.le_refl _) _).drew⟩
set_option maxRecDepth 100000 in
set_option maxHeartbeats 1000000 in
theorem form_12 (w : World) : Calls Tryz.prog 183 #[.string ⟨(wName 12).toArray⟩] w fun e w' => e = .returned (.string ⟨(wParts 12).toArray⟩) ∧ w' = w := by
  show Calls Tryz.prog 183 #[.string ⟨#[111, 117, 116]⟩] w _
  go_enter Tryz.func183, Tryz.ntmps183
  go_wp2
  go_ret
  exact ⟨rfl, rfl⟩
set_option maxRecDepth 100000 in
set_option maxHeartbeats 1000000 in
theorem takes_12 (r s : Nat) (n l : Int) (w : World) : Calls Tryz.prog 165 #[.agg (rlCells 12 r s n l)] w fun e w' => e = .returned (.tuple #[.bool true, .bool false]) ∧ Below w.heap.size w w' := by
  show Calls Tryz.prog 165 #[.agg #[.string ⟨#[111, 117, 116]⟩, .int .i64 r, .int .i64 s, .int .i64 n, .int .i64 l]] w _
  go_enter Tryz.func165, Tryz.ntmps165
  go_wp2
  go_ret2
  exact ⟨rfl, (Below.refl _ _).alloc (Nat.le_refl _) _⟩
set_option maxRecDepth 100000 in
set_option maxHeartbeats 1000000 in
theorem places_12 (r s : Nat) (n l : Int) (w : World) : Calls Tryz.prog 166 #[.agg (rlCells 12 r s n l)] w fun e w' => e = .returned (.tuple #[.int .i64 0, .int .i64 0]) ∧ Below w.heap.size w w' := by
  show Calls Tryz.prog 166 #[.agg #[.string ⟨#[111, 117, 116]⟩, .int .i64 r, .int .i64 s, .int .i64 n, .int .i64 l]] w _
  go_enter Tryz.func166, Tryz.ntmps166
  go_wp2
  go_ret2
  exact ⟨rfl, (Below.refl _ _).alloc (Nat.le_refl _) _⟩
set_option maxRecDepth 100000 in
set_option maxHeartbeats 1000000 in
theorem form_13 (w : World) : Calls Tryz.prog 183 #[.string ⟨(wName 13).toArray⟩] w fun e w' => e = .returned (.string ⟨(wParts 13).toArray⟩) ∧ w' = w := by
  show Calls Tryz.prog 183 #[.string ⟨#[106, 109, 112]⟩] w _
  go_enter Tryz.func183, Tryz.ntmps183
  go_wp2
  go_ret
  exact ⟨rfl, rfl⟩
set_option maxRecDepth 100000 in
set_option maxHeartbeats 1000000 in
theorem takes_13 (r s : Nat) (n l : Int) (w : World) : Calls Tryz.prog 165 #[.agg (rlCells 13 r s n l)] w fun e w' => e = .returned (.tuple #[.bool false, .bool false]) ∧ Below w.heap.size w w' := by
  show Calls Tryz.prog 165 #[.agg #[.string ⟨#[106, 109, 112]⟩, .int .i64 r, .int .i64 s, .int .i64 n, .int .i64 l]] w _
  go_enter Tryz.func165, Tryz.ntmps165
  go_wp2
  go_ret2
  exact ⟨rfl, (Below.refl _ _).alloc (Nat.le_refl _) _⟩
set_option maxRecDepth 100000 in
set_option maxHeartbeats 1000000 in
theorem places_13 (r s : Nat) (n l : Int) (w : World) : Calls Tryz.prog 166 #[.agg (rlCells 13 r s n l)] w fun e w' => e = .returned (.tuple #[.int .i64 0, .int .i64 0]) ∧ Below w.heap.size w w' := by
  show Calls Tryz.prog 166 #[.agg #[.string ⟨#[106, 109, 112]⟩, .int .i64 r, .int .i64 s, .int .i64 n, .int .i64 l]] w _
  go_enter Tryz.func166, Tryz.ntmps166
  go_wp2
  go_ret2
  exact ⟨rfl, (Below.refl _ _).alloc (Nat.le_refl _) _⟩
set_option maxRecDepth 100000 in
set_option maxHeartbeats 1000000 in
theorem form_14 (w : World) : Calls Tryz.prog 183 #[.string ⟨(wName 14).toArray⟩] w fun e w' => e = .returned (.string ⟨(wParts 14).toArray⟩) ∧ w' = w := by
  show Calls Tryz.prog 183 #[.string ⟨#[106, 108, 116]⟩] w _
  go_enter Tryz.func183, Tryz.ntmps183
  go_wp2
  go_ret
  exact ⟨rfl, rfl⟩
set_option maxRecDepth 100000 in
set_option maxHeartbeats 1000000 in
theorem takes_14 (r s : Nat) (n l : Int) (w : World) : Calls Tryz.prog 165 #[.agg (rlCells 14 r s n l)] w fun e w' => e = .returned (.tuple #[.bool true, .bool true]) ∧ Below w.heap.size w w' := by
  show Calls Tryz.prog 165 #[.agg #[.string ⟨#[106, 108, 116]⟩, .int .i64 r, .int .i64 s, .int .i64 n, .int .i64 l]] w _
  go_enter Tryz.func165, Tryz.ntmps165
  go_wp2
  go_ret2
  exact ⟨rfl, (Below.refl _ _).alloc (Nat.le_refl _) _⟩
set_option maxRecDepth 100000 in
set_option maxHeartbeats 1000000 in
theorem places_14 (r s : Nat) (n l : Int) (w : World) : Calls Tryz.prog 166 #[.agg (rlCells 14 r s n l)] w fun e w' => e = .returned (.tuple #[.int .i64 0, .int .i64 0]) ∧ Below w.heap.size w w' := by
  show Calls Tryz.prog 166 #[.agg #[.string ⟨#[106, 108, 116]⟩, .int .i64 r, .int .i64 s, .int .i64 n, .int .i64 l]] w _
  go_enter Tryz.func166, Tryz.ntmps166
  go_wp2
  go_ret2
  exact ⟨rfl, (Below.refl _ _).alloc (Nat.le_refl _) _⟩
set_option maxRecDepth 100000 in
set_option maxHeartbeats 1000000 in
theorem form_15 (w : World) : Calls Tryz.prog 183 #[.string ⟨(wName 15).toArray⟩] w fun e w' => e = .returned (.string ⟨(wParts 15).toArray⟩) ∧ w' = w := by
  show Calls Tryz.prog 183 #[.string ⟨#[106, 101, 113]⟩] w _
  go_enter Tryz.func183, Tryz.ntmps183
  go_wp2
  go_ret
  exact ⟨rfl, rfl⟩
set_option maxRecDepth 100000 in
set_option maxHeartbeats 1000000 in
theorem takes_15 (r s : Nat) (n l : Int) (w : World) : Calls Tryz.prog 165 #[.agg (rlCells 15 r s n l)] w fun e w' => e = .returned (.tuple #[.bool true, .bool true]) ∧ Below w.heap.size w w' := by
  show Calls Tryz.prog 165 #[.agg #[.string ⟨#[106, 101, 113]⟩, .int .i64 r, .int .i64 s, .int .i64 n, .int .i64 l]] w _
  go_enter Tryz.func165, Tryz.ntmps165
  go_wp2
  go_ret2
  exact ⟨rfl, (Below.refl _ _).alloc (Nat.le_refl _) _⟩
set_option maxRecDepth 100000 in
set_option maxHeartbeats 1000000 in
theorem places_15 (r s : Nat) (n l : Int) (w : World) : Calls Tryz.prog 166 #[.agg (rlCells 15 r s n l)] w fun e w' => e = .returned (.tuple #[.int .i64 0, .int .i64 0]) ∧ Below w.heap.size w w' := by
  show Calls Tryz.prog 166 #[.agg #[.string ⟨#[106, 101, 113]⟩, .int .i64 r, .int .i64 s, .int .i64 n, .int .i64 l]] w _
  go_enter Tryz.func166, Tryz.ntmps166
  go_wp2
  go_ret2
  exact ⟨rfl, (Below.refl _ _).alloc (Nat.le_refl _) _⟩
set_option maxRecDepth 100000 in
set_option maxHeartbeats 1000000 in
theorem form_16 (w : World) : Calls Tryz.prog 183 #[.string ⟨(wName 16).toArray⟩] w fun e w' => e = .returned (.string ⟨(wParts 16).toArray⟩) ∧ w' = w := by
  show Calls Tryz.prog 183 #[.string ⟨#[101, 110, 100]⟩] w _
  go_enter Tryz.func183, Tryz.ntmps183
  go_wp2
  go_ret
  exact ⟨rfl, rfl⟩
set_option maxRecDepth 100000 in
set_option maxHeartbeats 1000000 in
theorem takes_16 (r s : Nat) (n l : Int) (w : World) : Calls Tryz.prog 165 #[.agg (rlCells 16 r s n l)] w fun e w' => e = .returned (.tuple #[.bool true, .bool false]) ∧ Below w.heap.size w w' := by
  show Calls Tryz.prog 165 #[.agg #[.string ⟨#[101, 110, 100]⟩, .int .i64 r, .int .i64 s, .int .i64 n, .int .i64 l]] w _
  go_enter Tryz.func165, Tryz.ntmps165
  go_wp2
  go_ret2
  exact ⟨rfl, (Below.refl _ _).alloc (Nat.le_refl _) _⟩
set_option maxRecDepth 100000 in
set_option maxHeartbeats 1000000 in
theorem places_16 (r s : Nat) (n l : Int) (w : World) : Calls Tryz.prog 166 #[.agg (rlCells 16 r s n l)] w fun e w' => e = .returned (.tuple #[.int .i64 0, .int .i64 0]) ∧ Below w.heap.size w w' := by
  show Calls Tryz.prog 166 #[.agg #[.string ⟨#[101, 110, 100]⟩, .int .i64 r, .int .i64 s, .int .i64 n, .int .i64 l]] w _
  go_enter Tryz.func166, Tryz.ntmps166
  go_wp2
  go_ret2
  exact ⟨rfl, (Below.refl _ _).alloc (Nat.le_refl _) _⟩
end Go.Proofs.YtngopilbpiplhaaGreatDoor
