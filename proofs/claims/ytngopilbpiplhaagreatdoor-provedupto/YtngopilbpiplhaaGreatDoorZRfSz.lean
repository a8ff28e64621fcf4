/-
  The document's own answer: are a line's needs met? (more words)
  The document's own answer: the ways out of a line are those of the program.
  The document's own answer: a number's text.
-/
import Derived.Test.YtngopilbpiplhaaGreatDoorZRfSa
import Derived.Test.YtngopilbpiplhaaGreatDoorZRfSb
import Derived.Test.YtngopilbpiplhaaGreatDoorZRfSc
import Derived.Test.YtngopilbpiplhaaGreatDoorZRfSd
import Derived.Test.YtngopilbpiplhaaGreatDoorZRfSe
import Derived.Test.YtngopilbpiplhaaGreatDoorZRfW
import Derived.Test.YtngopilbpiplhaaGreatDoorZRfWl
import Derived.Test.YtngopilbpiplhaaGreatDoorZRfWm
import Derived.Test.YtngopilbpiplhaaGreatDoorZRfWn
import Derived.Test.YtngopilbpiplhaaGreatDoorZRfWe
import Derived.Test.YtngopilbpiplhaaGreatDoorZRfWf
import Derived.Test.YtngopilbpiplhaaGreatDoorZRfWg
import Derived.Test.YtngopilbpiplhaaGreatDoorZRfK
import Derived.Deep.Cut
namespace Go.Proofs.YtngopilbpiplhaaGreatDoor
open Go.RowKit
set_option linter.unusedVariables false
set_option linter.unusedSimpArgs false
theorem rmeets_any (i : Nat) (hi : i < 17) (c : Cl) (r s : Nat) (hr : r < 8) (hs : s < 8) (n l : Int) (w : World) : Calls Tryz.prog 113 #[.agg (rcCells c), .agg (rlCells i r s n l)] w fun e w' => e = .returned (.bool (metR i c r s)) ∧ Below w.heap.size w w' := by
  match i, hi with
  | 0, _ => exact rmeets_0 c r s hr hs n l w
  | 1, _ => exact rmeets_1 c r s hr hs n l w
  | 2, _ => exact rmeets_2 c r s hr hs n l w
  | 3, _ => exact rmeets_3 c r s hr hs n l w
  | 4, _ => exact rmeets_4 c r s hr hs n l w
  | 5, _ => exact rmeets_5 c r s hr hs n l w
  | 6, _ => exact rmeets_6 c r s hr hs n l w
  | 7, _ => exact rmeets_7 c r s hr hs n l w
  | 8, _ => exact rmeets_8 c r s hr hs n l w
  | 9, _ => exact rmeets_9 c r s hr hs n l w
  | 10, _ => exact rmeets_10 c r s hr hs n l w
  | 11, _ => exact rmeets_11 c r s hr hs n l w
  | 12, _ => exact rmeets_12 c r s hr hs n l w
  | 13, _ => exact rmeets_13 c r s hr hs n l w
  | 14, _ => exact rmeets_14 c r s hr hs n l w
  | 15, _ => exact rmeets_15 c r s hr hs n l w
  | 16, _ => exact rmeets_16 c r s hr hs n l w
  | n + 17, h => exact absurd h (by omega)
end Go.Proofs.YtngopilbpiplhaaGreatDoor

namespace Go.Proofs.YtngopilbpiplhaaGreatDoor
open Go.RowKit
set_option linter.unusedVariables false
set_option linter.unusedSimpArgs false
theorem with_same {c : Cl} {r : Nat} (h : c.has r = true) : c.with_ r (c.lo r) (c.hi r) = c := by
  refine Cl.ext' rfl fun k => ?_
  rw [with_has, with_lo, with_hi]
  by_cases e : k = r
  · subst e; simp [h]
  · simp [e]
theorem ex_on (i : Nat) (hi : i ≤ 12) (at_ : Int) (c : Cl) (hn : c.never = false) (x : Ln) (r s : Nat) (hr : x.r = (r : Int)) (hs : x.s = (s : Int)) (n : Int) (h0 : i = 0 → n = x.n) : exW i at_ c x = [(at_ + 1, nextR i c r s n)] := by
  have e : nextW i c x = nextR i c r s n := by
    rw [nextR_eq i hi c x r s hr hs]
    match i, hi with
    | 0, _ => rw [h0 rfl]
    | 1, _ | 2, _ | 3, _ | 4, _ | 5, _ | 6, _ | 7, _ | 8, _ | 9, _ | 10, _ | 11, _ | 12, _ => rfl
    | k + 13, h => exact absurd h (by omega)
  have e1 : (nextW i c x).never = false := by
    rw [← hn]
    match i, hi with
    | 0, _ | 1, _ | 2, _ | 3, _ | 4, _ | 5, _ | 6, _ | 7, _ | 8, _ | 9, _ | 10, _ | 11, _ | 12, _ => rfl
    | k + 13, h => exact absurd h (by omega)
  have e2 : (jumpW i c x).never = true := by
    match i, hi with
    | 0, _ | 1, _ | 2, _ | 3, _ | 4, _ | 5, _ | 6, _ | 7, _ | 8, _ | 9, _ | 10, _ | 11, _ | 12, _ => rfl
    | k + 13, h => exact absurd h (by omega)
  unfold exW
  rw [e1, e2, e]
  rfl
theorem ex_of {i : Nat} {at_ : Int} {c : Cl} {x : Ln} (N J : Cl) (h1 : nextW i c x = N) (h2 : jumpW i c x = J) : exW i at_ c x = (if N.never then [] else [(at_ + 1, N)]) ++ (if J.never then [] else [(x.n, J)]) := by
  unfold exW
  rw [h1, h2]
set_option maxHeartbeats 1000000 in
theorem rways_any (i : Nat) (hi : i < 17) (c : Cl) (hn : c.never = false) (hp : POk c) (x : Ln) (r s : Nat) (hr : r < 8) (hs : s < 8) (hxr : x.r = (r : Int)) (hxs : x.s = (s : Int)) (n l : Int) (h0 : i = 0 → n = x.n) (hj : 13 ≤ i → i ≤ 15 → l = x.n)
    (hm : metR i c r s = true) (at_ : Nat) (hat : at_ < 1000) (w : World) :
    Calls Tryz.prog 114 #[.agg (rcCells c), .agg (rlCells i r s n l), .int .i64 (at_ : Int)] w
      fun e w' => ∃ v, e = .returned v ∧ w'.ownsRow (w.heap.size + 2) 190 26 v (exW i at_ c x).length (wyL (exW i at_ c x)) ∧ Below w.heap.size w w' := by
  have er : x.r.toNat = r := by rw [hxr]; simp
  have es : x.s.toNat = s := by rw [hxs]; simp
  have pr := hp r
  have ps := hp s
  unfold SpOk at pr ps
  match i, hi with
  | 0, _ => rw [ex_on 0 (by omega) at_ c hn x r s hxr hxs n h0]; exact rways_0 c r s hr hs n l at_ hat hp hm w
  | 1, _ => rw [ex_on 1 (by omega) at_ c hn x r s hxr hxs n h0]; exact rways_1 c r s hr hs n l at_ hat hp hm w
  | 2, _ => rw [ex_on 2 (by omega) at_ c hn x r s hxr hxs n h0]; exact rways_2 c r s hr hs n l at_ hat hp hm w
  | 3, _ => rw [ex_on 3 (by omega) at_ c hn x r s hxr hxs n h0]; exact rways_3 c r s hr hs n l at_ hat hp hm w
  | 4, _ => rw [ex_on 4 (by omega) at_ c hn x r s hxr hxs n h0]; exact rways_4 c r s hr hs n l at_ hat hp hm w
  | 5, _ => rw [ex_on 5 (by omega) at_ c hn x r s hxr hxs n h0]; exact rways_5 c r s hr hs n l at_ hat hp hm w
  | 6, _ => rw [ex_on 6 (by omega) at_ c hn x r s hxr hxs n h0]; exact rways_6 c r s hr hs n l at_ hat hp hm w
  | 7, _ => rw [ex_on 7 (by omega) at_ c hn x r s hxr hxs n h0]; exact rways_7 c r s hr hs n l at_ hat hp hm w
  | 8, _ => rw [ex_on 8 (by omega) at_ c hn x r s hxr hxs n h0]; exact rways_8 c r s hr hs n l at_ hat hp hm w
  | 9, _ => rw [ex_on 9 (by omega) at_ c hn x r s hxr hxs n h0]; exact rways_9 c r s hr hs n l at_ hat hp hm w
  | 10, _ => rw [ex_on 10 (by omega) at_ c hn x r s hxr hxs n h0]; exact rways_10 c r s hr hs n l at_ hat hp hm w
  | 11, _ => rw [ex_on 11 (by omega) at_ c hn x r s hxr hxs n h0]; exact rways_11 c r s hr hs n l at_ hat hp hm w
  | 12, _ => rw [ex_on 12 (by omega) at_ c hn x r s hxr hxs n h0]; exact rways_12 c r s hr hs n l at_ hat hp hm w
  | 13, _ =>
    have e : exW 13 at_ c x = [(l, c)] := by rw [ex_of clNever c rfl rfl, hn, hj (by omega) (by omega)]; rfl
    rw [e]
    exact rways_13 c r s hr hs n l at_ hat w
  | 14, _ =>
    have hl := hj (by omega) (by omega)
    by_cases hrs : r = s
    · subst hrs
      have e : exW 14 at_ c x = [((at_ : Int) + 1, c)] := by
        rw [ex_of c clNever (by simp [nextW, er, es]) (by simp [jumpW, er, es]), hn]; rfl
      rw [e]
      exact rways_14s c r hr n l at_ hat w
    · by_cases q1 : c.lo s ≤ c.hi r
      · have e1 : nextW 14 c x = (c.with_ r (max (c.lo r) (c.lo s)) (c.hi r)).with_ s (c.lo s) (min (c.hi s) (c.hi r)) := by
          simp only [nextW, er, es]
          rw [if_neg hrs, if_neg (by omega)]
        by_cases q2 : c.lo r < c.hi s
        · have e2 : jumpW 14 c x = (c.with_ r (c.lo r) (min (c.hi r) (c.hi s - 1))).with_ s (max (c.lo s) (c.lo r + 1)) (c.hi s) := by
            simp only [jumpW, er, es]
            rw [if_neg hrs, if_neg (by omega), wrap_id (c.hi s - 1) (by omega) (by omega), wrap_id (c.lo r + 1) (by omega) (by omega)]
          have e : exW 14 at_ c x = [((at_ : Int) + 1, (c.with_ r (max (c.lo r) (c.lo s)) (c.hi r)).with_ s (c.lo s) (min (c.hi s) (c.hi r))), (l, (c.with_ r (c.lo r) (min (c.hi r) (c.hi s - 1))).with_ s (max (c.lo s) (c.lo r + 1)) (c.hi s))] := by
            rw [ex_of _ _ e1 e2, hl, if_neg (by show ¬ c.never = true; rw [hn]; simp), if_neg (by show ¬ c.never = true; rw [hn]; simp)]; rfl
          rw [e]
          exact rways_14tt c r s hr hs n l at_ hat hp hrs q1 q2 w
        · have e2 : jumpW 14 c x = clNever := by
            simp only [jumpW, er, es]
            rw [if_neg hrs, if_pos (by omega)]
          have e : exW 14 at_ c x = [((at_ : Int) + 1, (c.with_ r (max (c.lo r) (c.lo s)) (c.hi r)).with_ s (c.lo s) (min (c.hi s) (c.hi r)))] := by
            rw [ex_of _ _ e1 e2, if_neg (by show ¬ c.never = true; rw [hn]; simp), if_pos (show clNever.never = true from rfl)]; rfl
          rw [e]
          exact rways_14tf c r s hr hs n l at_ hat hp hrs q1 q2 w
      · have q2 : c.lo r < c.hi s := by omega
        have e1 : nextW 14 c x = clNever := by
          simp only [nextW, er, es]
          rw [if_neg hrs, if_pos (by omega)]
        have e2 : jumpW 14 c x = (c.with_ r (c.lo r) (min (c.hi r) (c.hi s - 1))).with_ s (max (c.lo s) (c.lo r + 1)) (c.hi s) := by
          simp only [jumpW, er, es]
          rw [if_neg hrs, if_neg (by omega), wrap_id (c.hi s - 1) (by omega) (by omega), wrap_id (c.lo r + 1) (by omega) (by omega)]
        have e : exW 14 at_ c x = [(l, (c.with_ r (c.lo r) (min (c.hi r) (c.hi s - 1))).with_ s (max (c.lo s) (c.lo r + 1)) (c.hi s))] := by
          rw [ex_of _ _ e1 e2, hl, if_pos (show clNever.never = true from rfl), if_neg (by show ¬ c.never = true; rw [hn]; simp)]; rfl
        rw [e]
        exact rways_14ft c r s hr hs n l at_ hat hp hrs q1 q2 w
  | 15, _ =>
    have hl := hj (by omega) (by omega)
    by_cases hrs : r = s
    · subst hrs
      have e : exW 15 at_ c x = [(l, c)] := by
        rw [ex_of clNever c (by simp [nextW, er, es]) (by simp [jumpW, er, es]), hn, hl]; rfl
      rw [e]
      exact rways_15s c r hr n l at_ hat w
    · have hb : c.has r = true ∧ c.has s = true := by
        rw [metR_15] at hm
        unfold metF at hm
        cases f1 : c.has r <;> cases f2 : c.has s <;> simp [f1, f2] at hm ⊢
      have hc : (c.with_ r (c.lo r) (c.hi r)).with_ s (c.lo s) (c.hi s) = c := by rw [with_same hb.1, with_same hb.2]
      by_cases q1 : c.lo r = c.hi r ∧ c.lo s = c.hi s ∧ c.lo r = c.lo s
      · have q2 : max (c.lo r) (c.lo s) ≤ min (c.hi r) (c.hi s) := by omega
        have e1 : nextW 15 c x = clNever := by
          simp only [nextW, er, es]
          rw [if_neg hrs, if_pos (by omega)]
        have e2 : jumpW 15 c x = (c.with_ r (max (c.lo r) (c.lo s)) (min (c.hi r) (c.hi s))).with_ s (max (c.lo r) (c.lo s)) (min (c.hi r) (c.hi s)) := by
          simp only [jumpW, er, es]
          rw [if_neg hrs, if_neg (by omega)]
        have e : exW 15 at_ c x = [(l, (c.with_ r (max (c.lo r) (c.lo s)) (min (c.hi r) (c.hi s))).with_ s (max (c.lo r) (c.lo s)) (min (c.hi r) (c.hi s)))] := by
          rw [ex_of _ _ e1 e2, hl, if_pos (show clNever.never = true from rfl), if_neg (by show ¬ c.never = true; rw [hn]; simp)]; rfl
        rw [e]
        exact rways_15ft c r s hr hs n l at_ hat hrs q1 q2 w
      · have e1 : nextW 15 c x = c := by
          simp only [nextW, er, es]
          rw [if_neg hrs, if_neg (by omega), hc]
        by_cases q2 : max (c.lo r) (c.lo s) ≤ min (c.hi r) (c.hi s)
        · have e2 : jumpW 15 c x = (c.with_ r (max (c.lo r) (c.lo s)) (min (c.hi r) (c.hi s))).with_ s (max (c.lo r) (c.lo s)) (min (c.hi r) (c.hi s)) := by
            simp only [jumpW, er, es]
            rw [if_neg hrs, if_neg (by omega)]
          have e : exW 15 at_ c x = [((at_ : Int) + 1, c), (l, (c.with_ r (max (c.lo r) (c.lo s)) (min (c.hi r) (c.hi s))).with_ s (max (c.lo r) (c.lo s)) (min (c.hi r) (c.hi s)))] := by
            rw [ex_of _ _ e1 e2, hl, if_neg (by rw [hn]; simp), if_neg (by show ¬ c.never = true; rw [hn]; simp)]; rfl
          rw [e]
          exact rways_15tt c r s hr hs n l at_ hat hrs q1 q2 w
        · have e2 : jumpW 15 c x = clNever := by
            simp only [jumpW, er, es]
            rw [if_neg hrs, if_pos (by omega)]
          have e : exW 15 at_ c x = [((at_ : Int) + 1, c)] := by
            rw [ex_of _ _ e1 e2, if_neg (by rw [hn]; simp), if_pos (show clNever.never = true from rfl)]; rfl
          rw [e]
          exact rways_15tf c r s hr hs n l at_ hat hrs q1 q2 w
  | 16, _ =>
    have e : exW 16 at_ c x = [] := by rw [ex_of clNever clNever rfl rfl]; rfl
    rw [e]
    exact rways_16 c r s hr hs n l at_ hat w
  | k + 17, h => exact absurd h (by omega)
end Go.Proofs.YtngopilbpiplhaaGreatDoor

namespace Go.Proofs.YtngopilbpiplhaaGreatDoor
open Go.RowKit
set_option linter.unusedVariables false
set_option linter.unusedSimpArgs false
/-- Digits counted below 0, as the document's own answer does: none where a sign is no digit or the number is none of 64 bits. -/
def downF (n : Int) : List UInt8 → Option Int
  | [] => some n
  | c :: r => if 48 ≤ c.toNat ∧ c.toNat ≤ 57 then (if n * 10 - ((c.toNat : Int) - 48) < -9223372036854775808 then none else downF (n * 10 - ((c.toNat : Int) - 48)) r) else none
/-- A number's text, as the document's own answer reads it. -/
def rnumF (l : List UInt8) : Option Int :=
  let d := Lib.trimPrefix l [45]
  if d = [] ∨ (l ≠ [48] ∧ d.head? = some 48) then none
  else (downF 0 d).bind fun n => if l.head? = some 45 then some n else if n = -9223372036854775808 then none else some (-n)
theorem down_bad : ∀ (l : List UInt8) (n : Int), allDig l = false → downF n l = none
  | [], _, h => by simp [allDig] at h
  | c :: r, n, h => by
    unfold downF
    by_cases hc : 48 ≤ c.toNat ∧ c.toNat ≤ 57
    · rw [if_pos hc]
      have hr : allDig r = false := by
        unfold allDig at h ⊢
        rw [List.all_cons] at h
        simp only [hc.1, hc.2, decide_true, Bool.and_self, Bool.true_and] at h
        exact h
      split
      · rfl
      · exact down_bad r _ hr
    · rw [if_neg hc]
theorem allDig_cons {c : UInt8} {r : List UInt8} (h : allDig (c :: r) = true) : (48 ≤ c.toNat ∧ c.toNat ≤ 57) ∧ allDig r = true := by
  unfold allDig at h ⊢
  rw [List.all_cons, Bool.and_eq_true] at h
  refine ⟨by simpa using h.1, h.2⟩
theorem pu_big (M : Nat) : ∀ (l : List UInt8) (acc : Nat), allDig l = true → 9223372036854775808 < acc → Lib.parseUintM M acc l = .range ∨ ∃ u, Lib.parseUintM M acc l = .ok u ∧ 9223372036854775808 < u
  | [], acc, _, h => .inr ⟨acc, rfl, h⟩
  | c :: r, acc, h, ha => by
    obtain ⟨hc, hr⟩ := allDig_cons h
    unfold Lib.parseUintM
    rw [if_pos hc]
    split
    · exact .inl rfl
    · omega
theorem down_pu : ∀ (l : List UInt8) (acc : Nat), allDig l = true → acc ≤ 9223372036854775808 →
    (∃ u : Nat, downF (-(acc : Int)) l = some (-(u : Int)) ∧ u ≤ 9223372036854775808 ∧ Lib.parseUintM 18446744073709551615 acc l = .ok u) ∨
    (downF (-(acc : Int)) l = none ∧ (Lib.parseUintM 18446744073709551615 acc l = .range ∨ ∃ u, Lib.parseUintM 18446744073709551615 acc l = .ok u ∧ 9223372036854775808 < u))
  | [], acc, _, h => .inl ⟨acc, rfl, h, rfl⟩
  | c :: r, acc, h, ha => by
    obtain ⟨hc, hr⟩ := allDig_cons h
    unfold Lib.parseUintM downF
    rw [if_pos hc, if_pos hc]
    by_cases hlt : acc * 10 + (c.toNat - 48) ≤ 9223372036854775808
    · rw [if_neg (by omega), if_neg (by omega), if_neg (by omega)]
      have e : -(acc : Int) * 10 - ((c.toNat : Int) - 48) = -((acc * 10 + (c.toNat - 48) : Nat) : Int) := by omega
      rw [e]
      exact down_pu r _ hr hlt
    · rw [if_pos (by omega)]
      refine .inr ⟨rfl, ?_⟩
      split
      · exact .inl rfl
      · split
        · exact .inl rfl
        · exact pu_big _ r _ hr (by omega)
theorem trim_minus (r : List UInt8) : Lib.trimPrefix (45 :: r) [45] = r := by
  simp [Lib.trimPrefix, Lib.hasPrefix]
theorem trim_other {c : UInt8} (r : List UInt8) (h : c ≠ 45) : Lib.trimPrefix (c :: r) [45] = c :: r := by
  have h' : ¬ (45 : UInt8) = c := fun e => h e.symm
  simp [Lib.trimPrefix, Lib.hasPrefix, h']
theorem numF_rnum (l : List UInt8) : rnumF l = numF l := by
  cases l with
  | nil => rfl
  | cons c r =>
    unfold rnumF numF
    by_cases h45 : c = 45
    · subst h45
      rw [trim_minus]
      simp only
      split
      · rfl
      · rename_i hno
        have hne : r ≠ [] := fun e => hno (.inl e)
        cases hd : allDig r with
        | false => rw [down_bad r 0 hd]; rfl
        | true =>
          rw [if_pos rfl]
          have hp : Lib.parseIntB 64 (45 :: r) = (match Lib.parseUintM 18446744073709551615 0 r with | .syntax => .syntax | .range => .range | .ok u => if 9223372036854775808 < u then .range else .ok (-(u : Int))) := by
            unfold Lib.parseIntB Lib.parseUintB
            simp [hne]
            generalize Lib.parseUintM 18446744073709551615 0 r = q
            cases q <;> rfl
          rw [hp]
          rcases down_pu r 0 hd (by omega) with ⟨u, h1, h2, h3⟩ | ⟨h1, h3 | ⟨u, h3, h4⟩⟩
          · rw [show (0 : Int) = -((0 : Nat) : Int) from rfl, h1, h3]
            simp only [Option.bind_some, List.head?_cons, if_true]
            rw [if_neg (by omega)]; rfl
          · rw [show (0 : Int) = -((0 : Nat) : Int) from rfl, h1, h3]; rfl
          · rw [show (0 : Int) = -((0 : Nat) : Int) from rfl, h1, h3]
            simp only [Option.bind_none]
            rw [if_pos h4]; rfl
    · rw [trim_other r h45]
      simp only
      split
      · rfl
      · cases hd : allDig (c :: r) with
        | false => rw [down_bad (c :: r) 0 hd]; rfl
        | true =>
          rw [if_pos rfl]
          have hc := (allDig_cons hd).1
          have hp : Lib.parseIntB 64 (c :: r) = (match Lib.parseUintM 18446744073709551615 0 (c :: r) with | .syntax => .syntax | .range => .range | .ok u => if 9223372036854775808 ≤ u then .range else .ok (u : Int)) := by
            have h43 : ¬ c.toNat = 43 := by omega
            have h45' : ¬ c.toNat = 45 := by omega
            unfold Lib.parseIntB Lib.parseUintB
            simp [h43, h45']
            generalize Lib.parseUintM 18446744073709551615 0 (c :: r) = q
            cases q <;> rfl
          rw [hp]
          have hh : (c :: r).head? ≠ some 45 := fun e => h45 (Option.some.inj e)
          rcases down_pu (c :: r) 0 hd (by omega) with ⟨u, h1, h2, h3⟩ | ⟨h1, h3 | ⟨u, h3, h4⟩⟩
          · rw [show (0 : Int) = -((0 : Nat) : Int) from rfl, h1, h3]
            simp only [Option.bind_some]
            rw [if_neg hh]
            by_cases hu : u = 9223372036854775808
            · rw [if_pos (by omega), if_pos (by omega)]; rfl
            · rw [if_neg (by omega), if_neg (by omega), Int.neg_neg]; rfl
          · rw [show (0 : Int) = -((0 : Nat) : Int) from rfl, h1, h3]; rfl
          · rw [show (0 : Int) = -((0 : Nat) : Int) from rfl, h1, h3]
            simp only [Option.bind_none]
            rw [if_pos (by omega)]; rfl
theorem down_dig {n : Int} {c : UInt8} {r : List UInt8} (hc : 48 ≤ c.toNat ∧ c.toNat ≤ 57) (hn : ¬ n * 10 - ((c.toNat : Int) - 48) < -9223372036854775808) : downF n (c :: r) = downF (n * 10 - ((c.toNat : Int) - 48)) r := by
  show (if _ then (if _ then _ else _) else _) = _
  rw [if_pos hc, if_neg hn]
theorem down_out {n : Int} {c : UInt8} {r : List UInt8} (hn : n * 10 - ((c.toNat : Int) - 48) < -9223372036854775808) : downF n (c :: r) = none := by
  show (if _ then (if _ then _ else _) else _) = _
  split
  · rfl
  · rfl
theorem down_no {n : Int} {c : UInt8} {r : List UInt8} (hc : ¬ (48 ≤ c.toNat ∧ c.toNat ≤ 57)) : downF n (c :: r) = none := by
  show (if _ then (if _ then _ else _) else _) = _
  rw [if_neg hc]
theorem tdiv10 (x : Int) (h0 : 0 ≤ x) (h1 : x ≤ 9) : (-9223372036854775808 + x).tdiv 10 = -((9223372036854775808 - x) / 10) := by
  rw [show -9223372036854775808 + x = -(9223372036854775808 - x) by omega, Int.neg_tdiv, Int.tdiv_eq_ediv_of_nonneg (by omega)]
def RNum (l : List UInt8) (w : World) (e : Ending) (w' : World) : Prop :=
  (∃ (n : Int) (ok : Bool), e = .returned (.tuple #[.int .i64 n, .bool ok]) ∧ (numF l = some n ∧ ok = true ∨ numF l = none ∧ ok = false)) ∧ w' = w
theorem rnum_nil {l : List UInt8} (h : Lib.trimPrefix l [45] = []) : rnumF l = none := by simp [rnumF, h]
theorem rnum_lead {l : List UInt8} {c : UInt8} {D : List UInt8} (h : Lib.trimPrefix l [45] = c :: D) (h1 : l ≠ [48]) (h2 : c.toNat = 48) : rnumF l = none := by
  have e : c = 48 := UInt8.toNat_inj.1 h2
  simp [rnumF, h, h1, e]
theorem rnum_at {l : List UInt8} {c : UInt8} {D : List UInt8} (h : Lib.trimPrefix l [45] = c :: D) (h1 : l = [48] ∨ c.toNat ≠ 48) : rnumF l = (downF 0 (c :: D)).bind fun n => if l.head? = some 45 then some n else if n = -9223372036854775808 then none else some (-n) := by
  simp only [rnumF, h]
  have hno : ¬ (c :: D = [] ∨ l ≠ [48] ∧ (c :: D).head? = some 48) := by
    rintro (q | ⟨q, r⟩)
    · cases q
    · rcases h1 with h1 | h1
      · exact q h1
      · have e : c = 48 := by simpa using r
        exact h1 (by rw [e]; rfl)
  rw [if_neg hno]
theorem rnum_yes {l : List UInt8} {c : UInt8} {D' D : List UInt8} (h : Lib.trimPrefix l [45] = c :: D') (h1 : l = [48] ∨ c.toNat ≠ 48) (hh : l.head? = some 45) (e : D = c :: D' := by rfl) (m : Int) (hm : downF 0 D = some m) : rnumF l = some m := by
  subst e
  rw [rnum_at h h1, hm, Option.bind_some, if_pos hh]
theorem rnum_pos {l : List UInt8} {c : UInt8} {D' D : List UInt8} (h : Lib.trimPrefix l [45] = c :: D') (h1 : l = [48] ∨ c.toNat ≠ 48) (hh : ¬ l.head? = some 45) (e : D = c :: D' := by rfl) (m : Int) (hn : ¬ m = -9223372036854775808) (hm : downF 0 D = some m) : rnumF l = some (-m) := by
  subst e
  rw [rnum_at h h1, hm, Option.bind_some, if_neg hh, if_neg hn]
theorem rnum_min {l : List UInt8} {c : UInt8} {D' D : List UInt8} (h : Lib.trimPrefix l [45] = c :: D') (h1 : l = [48] ∨ c.toNat ≠ 48) (hh : ¬ l.head? = some 45) (e : D = c :: D' := by rfl) (hm : downF 0 D = some (-9223372036854775808)) : rnumF l = none := by
  subst e
  rw [rnum_at h h1, hm, Option.bind_some, if_neg hh, if_pos rfl]
theorem rnum_no {l : List UInt8} {c : UInt8} {D' D : List UInt8} (h : Lib.trimPrefix l [45] = c :: D') (h1 : l = [48] ∨ c.toNat ≠ 48) (e : D = c :: D' := by rfl) (hm : downF 0 D = none) : rnumF l = none := by
  subst e
  rw [rnum_at h h1, hm]
  rfl
set_option maxRecDepth 100000 in
set_option maxHeartbeats 4000000 in
theorem rnumber_any (l : List UInt8) (W : World) (hl : l.length ≤ 281474976710656) : Calls Tryz.prog 208 #[.string ⟨l.toArray⟩] W fun e w' => RNum l W e w' := by
  have HNF := hide (numF_rnum l)
  by_cases hnil : l = []
  · subst hnil
    go_enter Tryz.func208, Tryz.ntmps208
    go_wp2
    go_ret2
    exact ⟨⟨0, false, rfl, .inr ⟨by rw [← HNF.out]; rfl, rfl⟩⟩, rfl⟩
  · have h0 : 0 < l.length := List.length_pos_iff.2 hnil
    have h0I : (0 : Int) < (l.length : Int) := by omega
    have hs0 : 0 < (⟨l.toArray⟩ : ByteArray).size := by rw [Lib.size_eq]; exact h0
    have hg0 : (⟨l.toArray⟩ : ByteArray)[0]'hs0 = l[0] := rfl
    have hcons : l = l[0] :: l.drop 1 := by
      cases l with
      | nil => exact absurd rfl hnil
      | cons a b => rfl
    have HCONS := hide hcons
    have HG0 := hide hg0
    clear hcons hnil hg0
    by_cases h45 : l[0].toNat = 45
    · have e45 : l[0] = 45 := UInt8.toNat_inj.1 h45
      have HH : Hid (l.head? = some 45) := hide (by rw [HCONS.out, e45]; rfl)
      have i0 : ((((⟨l.toArray⟩ : ByteArray)[0]'hs0).toNat : Int) == 45) = true := by rw [HG0.out]; simp; omega
      have hD : Lib.trimPrefix l [45] = l.drop 1 := by
        conv => lhs; rw [HCONS.out, e45]
        exact trim_minus _
      have hX : (⟨l.toArray⟩ : ByteArray).extract 1 l.length = ⟨(l.drop 1).toArray⟩ := by
        rw [ext_list, List.take_of_length_le (by rw [List.length_drop]; omega)]
      clear h45 e45
      generalize l.drop 1 = D at *
      have HD := hide hD
      clear hD
      cases D with
      | nil =>
        go_enter Tryz.func208, Tryz.ntmps208
        go_wp2
        go_ret2
        exact ⟨⟨0, false, rfl, .inr ⟨by rw [← HNF.out]; exact rnum_nil HD.out, rfl⟩⟩, rfl⟩
      | cons d D =>
        have hsz : 0 < (⟨(d :: D).toArray⟩ : ByteArray).size := by show 0 < (d :: D).toArray.size; simp
        by_cases hkey : l ≠ [48] ∧ d.toNat = 48
        · obtain ⟨hz, hc⟩ := hkey
          have hz' : (l == [48]) = false := by simpa using hz
          have hc' : (((⟨(d :: D).toArray⟩ : ByteArray)[0].toNat : Int) == 48) = true := by rw [sget0]; simp; omega
          have HR := hide (rnum_lead HD.out hz hc)
          clear hz hc
          go_enter Tryz.func208, Tryz.ntmps208
          go_wp2
          go_ret2
          exact ⟨⟨0, false, rfl, .inr ⟨by rw [← HNF.out]; exact HR.out, rfl⟩⟩, rfl⟩
        · have hor : l = [48] ∨ d.toNat ≠ 48 := by
            by_cases q : l = [48]
            · exact .inl q
            · exact .inr fun e => hkey ⟨q, e⟩
          clear hkey
          have hcase : ((((⟨(d :: D).toArray⟩ : ByteArray)[0].toNat : Int) == 48) = true ∧ (l == [48]) = true) ∨ (((⟨(d :: D).toArray⟩ : ByteArray)[0].toNat : Int) == 48) = false := by
            by_cases q : d.toNat = 48
            · refine .inl ⟨by rw [sget0]; simp; omega, ?_⟩
              rcases hor with h | h
              · simpa using h
              · exact absurd q h
            · exact .inr (by rw [sget0]; simp; omega)
          have HYES := hide (rnum_yes (l := l) (D := d :: D) HD.out hor HH.out)
          have HNO := hide (rnum_no (l := l) (D := d :: D) HD.out hor)
          clear hor
          have hne : ((d :: D) == []) = false := rfl
          have hDl : (d :: D).length ≤ 281474976710656 := by have := congrArg List.length HD.out; have := trim_len l [45]; omega
          clear HD
          generalize d :: D = E at *
          rcases hcase with ⟨hc', hz'⟩ | hc'
          all_goals
            go_enter Tryz.func208, Tryz.ntmps208
            go_wp2
            go_loopw [6, 7] (fun nv iv w' => ∃ (k : Nat) (m : Int), k ≤ E.length ∧ iv = .int .i64 k ∧ nv = .int .i64 m ∧ w' = W ∧ downF 0 E = downF m (E.drop k) ∧ -9223372036854775808 ≤ m ∧ m ≤ 0) (fun _ iv _ => E.length - (intOf iv).toNat)
            case atStart => exact ⟨0, 0, Nat.zero_le _, rfl, rfl, rfl, rfl, by omega, by omega⟩
            case round =>
              obtain ⟨k, m, hk, rfl, rfl, hw, hd, h0, h1⟩ := hrel
              subst hw
              have Hd := hide hd
              clear hd
              by_cases hlt : k < E.length
              · have hks : k < (⟨E.toArray⟩ : ByteArray).size := by rw [Lib.size_eq]; exact hlt
                have hdrop : E.drop k = E[k] :: E.drop (k + 1) := List.drop_eq_getElem_cons hlt
                have hgb : (⟨E.toArray⟩ : ByteArray)[k]'hks = E[k] := rfl
                generalize E[k] = g at *
                have HDR := hide hdrop
                have HGB := hide hgb
                have hg := g.toNat_lt
                clear hdrop hgb
                by_cases c0 : 48 ≤ g.toNat ∧ g.toNat ≤ 57
                · have hx0 : 0 ≤ (g.toNat : Int) - 48 := by omega
                  have hx1 : (g.toNat : Int) - 48 ≤ 9 := by omega
                  have i1 : ¬ (((⟨E.toArray⟩ : ByteArray)[k]'hks).toNat : Int) < 48 := by rw [HGB.out]; omega
                  have i2 : ¬ 57 < (((⟨E.toArray⟩ : ByteArray)[k]'hks).toNat : Int) := by rw [HGB.out]; omega
                  have i3 : ((((⟨E.toArray⟩ : ByteArray)[k]'hks).toNat : Int) - 48) = (g.toNat : Int) - 48 := by rw [HGB.out]
                  have t1 := tdiv10 _ hx0 hx1
                  have C0 := hide c0
                  clear c0
                  by_cases hov : m * 10 - ((g.toNat : Int) - 48) < -9223372036854775808
                  · have HR : Hid (numF l = none) := hide (by rw [← HNF.out]; exact HNO.out (by rw [Hd.out, HDR.out, down_out hov]))
                    have hlt2 : m < (-9223372036854775808 + ((g.toNat : Int) - 48)).tdiv 10 := by rw [t1]; omega
                    clear hov t1
                    go_wp2
                    go_ret2
                    exact ⟨⟨0, false, rfl, .inr ⟨HR.out, rfl⟩⟩, rfl⟩
                  · have HR : Hid (downF 0 E = downF (m * 10 - ((g.toNat : Int) - 48)) (E.drop (k + 1))) := hide (by rw [Hd.out, HDR.out, down_dig C0.out hov])
                    have hlt2 : ¬ m < (-9223372036854775808 + ((g.toNat : Int) - 48)).tdiv 10 := by rw [t1]; omega
                    clear t1
                    go_wp2
                    go_roundw
                    case rel => exact ⟨k + 1, m * 10 - ((g.toNat : Int) - 48), by omega, by go_num, by go_num, by first | rfl | trivial, HR.out, by omega, by omega⟩
                    case measure => first | (simp [intOf]; omega) | simp [intOf]
                · have HR : Hid (numF l = none) := hide (by rw [← HNF.out]; exact HNO.out (by rw [Hd.out, HDR.out, down_no c0]))
                  have HC0 := hide c0
                  clear c0
                  by_cases i1 : (((⟨E.toArray⟩ : ByteArray)[k]'hks).toNat : Int) < 48
                  · go_wp2
                    go_ret2
                    exact ⟨⟨0, false, rfl, .inr ⟨HR.out, rfl⟩⟩, rfl⟩
                  · have i2 : 57 < (((⟨E.toArray⟩ : ByteArray)[k]'hks).toNat : Int) := by
                      have := HC0.out
                      rw [← HGB.out] at this
                      omega
                    go_wp2
                    go_ret2
                    exact ⟨⟨0, false, rfl, .inr ⟨HR.out, rfl⟩⟩, rfl⟩
              · have hke : k = E.length := by omega
                have HR : Hid (numF l = some m) := hide (by rw [← HNF.out]; exact HYES.out m (by rw [Hd.out, hke, List.drop_length]; rfl))
                clear Hd hke
                go_wp2
                go_ret2
                exact ⟨⟨m, true, rfl, .inl ⟨HR.out, rfl⟩⟩, rfl⟩
    · have HH : Hid (¬ l.head? = some 45) := hide (by rw [HCONS.out]; intro q; exact h45 (by rw [show l[0] = 45 from Option.some.inj q]; rfl))
      have i0 : ((((⟨l.toArray⟩ : ByteArray)[0]'hs0).toNat : Int) == 45) = false := by rw [HG0.out]; simp; omega
      have hD : Lib.trimPrefix l [45] = l := by
        have := trim_other (c := l[0]) (l.drop 1) (fun q => h45 (by rw [q]; rfl))
        rw [← HCONS.out] at this
        exact this
      clear h45
      obtain ⟨D, hDD⟩ : ∃ D, D = l := ⟨l, rfl⟩
      have HD : Hid (Lib.trimPrefix l [45] = D) := hide (by rw [hDD]; exact hD)
      clear hD
      subst hDD
      cases D with
      | nil =>
        go_enter Tryz.func208, Tryz.ntmps208
        go_wp2
        go_ret2
        exact ⟨⟨0, false, rfl, .inr ⟨by rw [← HNF.out]; exact rnum_nil HD.out, rfl⟩⟩, rfl⟩
      | cons d D =>
        have hsz : 0 < (⟨(d :: D).toArray⟩ : ByteArray).size := by show 0 < (d :: D).toArray.size; simp
        by_cases hkey : (d :: D) ≠ [48] ∧ d.toNat = 48
        · obtain ⟨hz, hc⟩ := hkey
          have hz' : ((d :: D) == [48]) = false := by simpa using hz
          have hc' : (((⟨(d :: D).toArray⟩ : ByteArray)[0].toNat : Int) == 48) = true := by rw [sget0]; simp; omega
          have HR := hide (rnum_lead HD.out hz hc)
          clear hz hc
          go_enter Tryz.func208, Tryz.ntmps208
          go_wp2
          go_ret2
          exact ⟨⟨0, false, rfl, .inr ⟨by rw [← HNF.out]; exact HR.out, rfl⟩⟩, rfl⟩
        · have hor : (d :: D) = [48] ∨ d.toNat ≠ 48 := by
            by_cases q : (d :: D) = [48]
            · exact .inl q
            · exact .inr fun e => hkey ⟨q, e⟩
          clear hkey
          have hcase : ((((⟨(d :: D).toArray⟩ : ByteArray)[0].toNat : Int) == 48) = true ∧ ((d :: D) == [48]) = true) ∨ (((⟨(d :: D).toArray⟩ : ByteArray)[0].toNat : Int) == 48) = false := by
            by_cases q : d.toNat = 48
            · refine .inl ⟨by rw [sget0]; simp; omega, ?_⟩
              rcases hor with h | h
              · simpa using h
              · exact absurd q h
            · exact .inr (by rw [sget0]; simp; omega)
          have HYES := hide (rnum_pos (l := (d :: D)) (D := d :: D) HD.out hor HH.out)
          have HMIN := hide (rnum_min (l := (d :: D)) (D := d :: D) HD.out hor HH.out)
          have HNO := hide (rnum_no (l := (d :: D)) (D := d :: D) HD.out hor)
          clear hor
          have hne : ((d :: D) == []) = false := rfl
          have hDl : (d :: D).length ≤ 281474976710656 := by have := congrArg List.length HD.out; have := trim_len (d :: D) [45]; omega
          clear HD
          generalize d :: D = E at *
          rcases hcase with ⟨hc', hz'⟩ | hc'
          all_goals
            go_enter Tryz.func208, Tryz.ntmps208
            go_wp2
            go_loopw [6, 7] (fun nv iv w' => ∃ (k : Nat) (m : Int), k ≤ E.length ∧ iv = .int .i64 k ∧ nv = .int .i64 m ∧ w' = W ∧ downF 0 E = downF m (E.drop k) ∧ -9223372036854775808 ≤ m ∧ m ≤ 0) (fun _ iv _ => E.length - (intOf iv).toNat)
            case atStart => exact ⟨0, 0, Nat.zero_le _, rfl, rfl, rfl, rfl, by omega, by omega⟩
            case round =>
              obtain ⟨k, m, hk, rfl, rfl, hw, hd, h0, h1⟩ := hrel
              subst hw
              have Hd := hide hd
              clear hd
              by_cases hlt : k < E.length
              · have hks : k < (⟨E.toArray⟩ : ByteArray).size := by rw [Lib.size_eq]; exact hlt
                have hdrop : E.drop k = E[k] :: E.drop (k + 1) := List.drop_eq_getElem_cons hlt
                have hgb : (⟨E.toArray⟩ : ByteArray)[k]'hks = E[k] := rfl
                generalize E[k] = g at *
                have HDR := hide hdrop
                have HGB := hide hgb
                have hg := g.toNat_lt
                clear hdrop hgb
                by_cases c0 : 48 ≤ g.toNat ∧ g.toNat ≤ 57
                · have hx0 : 0 ≤ (g.toNat : Int) - 48 := by omega
                  have hx1 : (g.toNat : Int) - 48 ≤ 9 := by omega
                  have i1 : ¬ (((⟨E.toArray⟩ : ByteArray)[k]'hks).toNat : Int) < 48 := by rw [HGB.out]; omega
                  have i2 : ¬ 57 < (((⟨E.toArray⟩ : ByteArray)[k]'hks).toNat : Int) := by rw [HGB.out]; omega
                  have i3 : ((((⟨E.toArray⟩ : ByteArray)[k]'hks).toNat : Int) - 48) = (g.toNat : Int) - 48 := by rw [HGB.out]
                  have t1 := tdiv10 _ hx0 hx1
                  have C0 := hide c0
                  clear c0
                  by_cases hov : m * 10 - ((g.toNat : Int) - 48) < -9223372036854775808
                  · have HR : Hid (numF E = none) := hide (by rw [← HNF.out]; exact HNO.out (by rw [Hd.out, HDR.out, down_out hov]))
                    have hlt2 : m < (-9223372036854775808 + ((g.toNat : Int) - 48)).tdiv 10 := by rw [t1]; omega
                    clear hov t1
                    go_wp2
                    go_ret2
                    exact ⟨⟨0, false, rfl, .inr ⟨HR.out, rfl⟩⟩, rfl⟩
                  · have HR : Hid (downF 0 E = downF (m * 10 - ((g.toNat : Int) - 48)) (E.drop (k + 1))) := hide (by rw [Hd.out, HDR.out, down_dig C0.out hov])
                    have hlt2 : ¬ m < (-9223372036854775808 + ((g.toNat : Int) - 48)).tdiv 10 := by rw [t1]; omega
                    clear t1
                    go_wp2
                    go_roundw
                    case rel => exact ⟨k + 1, m * 10 - ((g.toNat : Int) - 48), by omega, by go_num, by go_num, by first | rfl | trivial, HR.out, by omega, by omega⟩
                    case measure => first | (simp [intOf]; omega) | simp [intOf]
                · have HR : Hid (numF E = none) := hide (by rw [← HNF.out]; exact HNO.out (by rw [Hd.out, HDR.out, down_no c0]))
                  have HC0 := hide c0
                  clear c0
                  by_cases i1 : (((⟨E.toArray⟩ : ByteArray)[k]'hks).toNat : Int) < 48
                  · go_wp2
                    go_ret2
                    exact ⟨⟨0, false, rfl, .inr ⟨HR.out, rfl⟩⟩, rfl⟩
                  · have i2 : 57 < (((⟨E.toArray⟩ : ByteArray)[k]'hks).toNat : Int) := by
                      have := HC0.out
                      rw [← HGB.out] at this
                      omega
                    go_wp2
                    go_ret2
                    exact ⟨⟨0, false, rfl, .inr ⟨HR.out, rfl⟩⟩, rfl⟩
              · have hke : k = E.length := by omega
                by_cases hmin : m = -9223372036854775808
                · subst hmin
                  have HR : Hid (numF E = none) := hide (by rw [← HNF.out]; exact HMIN.out (by rw [Hd.out, hke, List.drop_length]; rfl))
                  clear Hd hke
                  go_wp2
                  go_ret2
                  exact ⟨⟨0, false, rfl, .inr ⟨HR.out, rfl⟩⟩, rfl⟩
                · have hmn : (m == -9223372036854775808) = false := by rw [beq_eq_false_iff_ne]; exact hmin
                  have HR : Hid (numF E = some (-m)) := hide (by rw [← HNF.out]; exact HYES.out m hmin (by rw [Hd.out, hke, List.drop_length]; rfl))
                  have hng : wrap64 (-m) = -m := by unfold wrap64; omega
                  clear Hd hke
                  go_wp2
                  go_ret2
                  exact ⟨⟨-m, true, rfl, .inl ⟨HR.out, rfl⟩⟩, rfl⟩
end Go.Proofs.YtngopilbpiplhaaGreatDoor
