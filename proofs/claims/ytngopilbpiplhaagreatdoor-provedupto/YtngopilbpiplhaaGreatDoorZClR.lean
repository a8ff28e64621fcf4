/-
  The lines of all words: what the search asks of each.
-/
import Derived.Test.YtngopilbpiplhaaGreatDoorZClQ
import Derived.Test.YtngopilbpiplhaaGreatDoorZClY2
import Derived.Test.YtngopilbpiplhaaGreatDoorZClM2
import Derived.Test.YtngopilbpiplhaaGreatDoorZClE2
import Derived.Test.YtngopilbpiplhaaGreatDoorZClT2
import Derived.Test.YtngopilbpiplhaaGreatDoorZClG2
namespace Go.Proofs.YtngopilbpiplhaaGreatDoor
open Go.RowKit
set_option linter.unusedVariables false
theorem exL_one (k : Int) (c : Cl) : exL [(k, c)] = exC k c := by simp [exL]
theorem exL_two (k : Int) (c : Cl) (j : Int) (d : Cl) : exL [(k, c), (j, d)] = exC k c ++ exC j d := by simp [exL]
theorem Table.below' {s : Nat} {w W : World} (h : Table s w) (hb : Below w.heap.size w W) : Table s W := by
  have h55 : s + 55 < w.heap.size := blk_lt (h.rows)
  exact h.mono fun k h1 h2 => hb.block k (by omega)
/-- A function of the program that a call enters. -/
def Ent (f : FuncId) : Prop := ∀ (args : Array Value) (w : World), (callFunc f args).run Tryz.prog w = .ok (.enter f args) w
theorem en_nothing : Ent 130 := fun args w => by go_simp
theorem en_placeS : Ent 145 := fun args w => by go_simp
theorem en_placeR : Ent 149 := fun args w => by go_simp
theorem en_divisor : Ent 142 := fun args w => by go_simp
theorem en_sets : Ent 131 := fun args w => by go_simp
theorem en_reckons : Ent 136 := fun args w => by go_simp
theorem en_rows4 : Ent 61 := fun args w => by go_simp
theorem en_same : Ent 150 := fun args w => by go_simp
theorem en_nowhere : Ent 133 := fun args w => by go_simp
theorem en_turn : Ent 154 := fun args w => by go_simp
theorem en_Add : Ent 66 := fun args w => by go_simp
theorem en_Sub : Ent 68 := fun args w => by go_simp
theorem en_Mul : Ent 70 := fun args w => by go_simp
theorem en_And : Ent 72 := fun args w => by go_simp
theorem en_Div : Ent 75 := fun args w => by go_simp
theorem en_NotLess : Ent 95 := fun args w => by go_simp
theorem en_Less : Ent 96 := fun args w => by go_simp
theorem en_NotSame : Ent 98 := fun args w => by go_simp
theorem en_Same : Ent 99 := fun args w => by go_simp
theorem Exits_all (n p t : ByteArray) (fl : Bool) (f4 : FuncId) (b4 : Array Value) (f5 : FuncId) (b5 : Array Value) (at_ : Nat) (hat : at_ < 1000) (c : Cl) (hcn : c.never = false) (x : Ln) (r s : Nat) (hx : x.r = (r : Int)) (hy : x.s = (s : Int)) (hr : r < 8) (hs : s < 8) (w : World) (f6 : FuncId) (hent6 : Ent f6) (b6 : Array Value) (f7 : FuncId) (hent7 : Ent f7) (b7 : Array Value) (dN dJ : Cl)
    (hF6 : ∀ W : World, Below w.heap.size w W → Calls Tryz.prog f6 (#[.agg (clCells c), .agg (lnArr x)] ++ b6) W fun e w' => e = .returned (.agg (clCells dN)) ∧ Below W.heap.size W w') (hF7 : ∀ W : World, Below w.heap.size w W → Calls Tryz.prog f7 (#[.agg (clCells c), .agg (lnArr x)] ++ b7) W fun e w' => e = .returned (.agg (clCells dJ)) ∧ Below W.heap.size W w')
    (L : List (Int × Cl)) (hL : L = (if dN.never then [] else [((at_ : Int) + 1, dN)]) ++ (if dJ.never then [] else [(x.n, dJ)])) :
    Calls Tryz.prog 191 #[.agg #[.string n, .string p, .string t, .bool fl, .func (.func f4) #[] b4, .func (.func f5) #[] b5, .func (.func f6) #[] b6, .func (.func f7) #[] b7], .int .i64 at_, .agg (lnArr x), .agg (clCells c)] w
      fun e w' => ∃ v, e = .returned v ∧ w'.ownsRow (w.heap.size + 3) 243 26 v L.length (exL L) ∧ Below w.heap.size w w' := by
  cases hN : dN.never with
  | false =>
    cases hJ : dJ.never with
    | false =>
      have e : L = [((at_ : Int) + 1, dN), (x.n, dJ)] := by rw [hL, hN, hJ]; rfl
      rw [e, exL_two]
      exact Exits_gen_11 n p t fl f4 b4 f5 b5 at_ hat c hcn x r s hx hy hr hs w f6 hent6 b6 f7 hent7 b7 dN dJ hN hJ hF6 hF7
    | true =>
      have e : L = [((at_ : Int) + 1, dN)] := by rw [hL, hN, hJ]; rfl
      rw [e, exL_one]
      exact Exits_gen_10 n p t fl f4 b4 f5 b5 at_ hat c hcn x r s hx hy hr hs w f6 hent6 b6 f7 hent7 b7 dN dJ hN hJ hF6 hF7
  | true =>
    cases hJ : dJ.never with
    | false =>
      have e : L = [(x.n, dJ)] := by rw [hL, hN, hJ]; rfl
      rw [e, exL_one]
      exact Exits_gen_01 n p t fl f4 b4 f5 b5 at_ hat c hcn x r s hx hy hr hs w f6 hent6 b6 f7 hent7 b7 dN dJ hN hJ hF6 hF7
    | true =>
      have e : L = [] := by rw [hL, hN, hJ]; rfl
      rw [e]
      exact Exits_gen_00 n p t fl f4 b4 f5 b5 at_ hat c hcn x r s hx hy hr hs w f6 hent6 b6 f7 hent7 b7 dN dJ hN hJ hF6 hF7
theorem IsMet_all (n p t : ByteArray) (fl : Bool) (f4 : FuncId) (b4 : Array Value) (f6 : FuncId) (b6 : Array Value) (f7 : FuncId) (b7 : Array Value) (c : Cl) (x : Ln) (r s : Nat) (hx : x.r = (r : Int)) (hy : x.s = (s : Int)) (hr : r < 8) (hs : s < 8) (w : World) (f : FuncId) (hent : Ent f) (bn : Array Value) (nd : Bool) (hF : ∀ W : World, Below w.heap.size w W → Calls Tryz.prog f (#[.agg (clCells c), .agg (lnArr x)] ++ bn) W fun e w' => e = .returned (.bool nd) ∧ Below W.heap.size W w') :
    Calls Tryz.prog 178 #[.agg #[.string n, .string p, .string t, .bool fl, .func (.func f4) #[] b4, .func (.func f) #[] bn, .func (.func f6) #[] b6, .func (.func f7) #[] b7], .agg (clCells c), .agg (lnArr x)] w
      fun e w' => e = .returned (.bool (metF (hasB t.data.toList 82) (hasB t.data.toList 83) (c.has r) (c.has s) nd)) ∧ Below w.heap.size w w' := by
  rcases Bool.eq_false_or_eq_true (hasB t.data.toList 82) with h1 | h1 <;> rcases Bool.eq_false_or_eq_true (hasB t.data.toList 83) with h2 | h2
  · exact IsMet_gen_11 n p t fl f4 b4 f6 b6 f7 b7 c x r s hx hy hr hs w f hent bn nd hF h1 h2
  · exact IsMet_gen_10 n p t fl f4 b4 f6 b6 f7 b7 c x r s hx hy hr hs w f hent bn nd hF h1 h2
  · exact IsMet_gen_01 n p t fl f4 b4 f6 b6 f7 b7 c x r s hx hy hr hs w f hent bn nd hF h1 h2
  · exact IsMet_gen_00 n p t fl f4 b4 f6 b6 f7 b7 c x r s hx hy hr hs w f hent bn nd hF h1 h2
theorem lineW_of (s0 i r s : Nat) (n : Int) (hi : i < 17) (hr : r < 8) (hs : s < 8) (hn : NOk ⟨(i : Int), r, s, n⟩) (f4 f5 f6 f7 : FuncId) (b4 b5 b6 b7 : Array Value)
    (e4 : wDo s0 i = .func (.func f4) #[] b4) (e5 : wNeeds s0 i = .func (.func f5) #[] b5) (e6 : wNext s0 i = .func (.func f6) #[] b6) (e7 : wJump s0 i = .func (.func f7) #[] b7) (h5 : Ent f5) (h6 : Ent f6) (h7 : Ent f7)
    (hN : ∀ (c : Cl) (w : World), Table s0 w → Calls Tryz.prog f5 (#[.agg (clCells c), .agg (lnArr ⟨(i : Int), r, s, n⟩)] ++ b5) w fun e w' => e = .returned (.bool (needW i c ⟨(i : Int), r, s, n⟩)) ∧ Below w.heap.size w w')
    (hX : ∀ (c : Cl) (w : World), Table s0 w → POk c → metW i c ⟨(i : Int), r, s, n⟩ = true → Calls Tryz.prog f6 (#[.agg (clCells c), .agg (lnArr ⟨(i : Int), r, s, n⟩)] ++ b6) w fun e w' => e = .returned (.agg (clCells (nextW i c ⟨(i : Int), r, s, n⟩))) ∧ Below w.heap.size w w')
    (hJ : ∀ (c : Cl) (w : World), Table s0 w → POk c → metW i c ⟨(i : Int), r, s, n⟩ = true → Calls Tryz.prog f7 (#[.agg (clCells c), .agg (lnArr ⟨(i : Int), r, s, n⟩)] ++ b7) w fun e w' => e = .returned (.agg (clCells (jumpW i c ⟨(i : Int), r, s, n⟩))) ∧ Below w.heap.size w w') :
    LineW s0 ⟨(i : Int), r, s, n⟩ where
  word := rfl
  row := hi
  num := hn
  met c w ht := by
    show Calls Tryz.prog 178 #[.agg (wordA s0 i), .agg (clCells c), .agg (lnArr ⟨(i : Int), r, s, n⟩)] w _
    unfold wordA
    rw [e4, e5, e6, e7]
    exact IsMet_all ⟨(wName i).toArray⟩ ⟨(wParts i).toArray⟩ ⟨(wTakes i).toArray⟩ (wFalls i) f4 b4 f6 b6 f7 b7 c ⟨(i : Int), r, s, n⟩ r s rfl rfl hr hs w f5 h5 b5 _ fun W hb => hN c W (ht.below' hb)
  ex c w k hk hcn hm ho ht := by
    show Calls Tryz.prog 191 #[.agg (wordA s0 i), .int .i64 (k : Int), .agg (lnArr ⟨(i : Int), r, s, n⟩), .agg (clCells c)] w _
    unfold wordA
    rw [e4, e5, e6, e7]
    exact Exits_all ⟨(wName i).toArray⟩ ⟨(wParts i).toArray⟩ ⟨(wTakes i).toArray⟩ (wFalls i) f4 b4 f5 b5 k hk c hcn ⟨(i : Int), r, s, n⟩ r s rfl rfl hr hs w f6 h6 b6 f7 h7 b7 _ _ (fun W hb => hX c W (ht.below' hb) ho hm) (fun W hb => hJ c W (ht.below' hb) ho hm) _ rfl
theorem nothing_b (c : Cl) (x : Ln) (w : World) : Calls Tryz.prog 130 #[.agg (clCells c), .agg (lnArr x)] w fun e w' => e = .returned (.bool true) ∧ Below w.heap.size w w' :=
  (nothingC_any c x w).mono fun e w' h => ⟨h.1, by rw [h.2]; exact ((Below.refl _ _).alloc (Nat.le_refl _) _).alloc (by simp) _⟩
theorem same_b (c : Cl) (x : Ln) (w : World) : Calls Tryz.prog 150 #[.agg (clCells c), .agg (lnArr x)] w fun e w' => e = .returned (.agg (clCells c)) ∧ Below w.heap.size w w' :=
  (sameC_any c x w).mono fun e w' h => ⟨h.1, by rw [h.2]; exact (((Below.refl _ _).alloc (Nat.le_refl _) _).alloc (by simp) _).alloc (by simp; omega) _⟩
theorem met_need {i : Nat} {c : Cl} {x : Ln} (h : metW i c x = true) : needW i c x = true := by
  unfold metW metF at h
  split at h
  · cases h
  · exact h
theorem divOk {c : Cl} {s : Nat} (h : POk c) (hd : (decide (0 < c.lo s) || decide (c.hi s < 0)) = true) : c.lo s ≠ 0 ∧ c.hi s ≠ 0 := by
  have := h s
  unfold SpOk at this
  simp at hd
  omega
/-- An operation of two spans, by the table's blocks. -/
theorem setsReck (f : FuncId) (hent : Ent f) (s0 a : Nat) (lo hi : Int) (c : Cl) (x : Ln) (r s : Nat) (hx : x.r = (r : Int)) (hy : x.s = (s : Int)) (hr : r < 8) (hs : s < 8) (w : World)
    (hF : ∀ W : World, Calls Tryz.prog f #[spC (c.lo r) (c.hi r), spC (c.lo s) (c.hi s)] W fun e w' => e = .returned (spC lo hi) ∧ Below W.heap.size W w')
    (h1 : w.heap[s0 + a]? = some (.cells #[.func (.func f) #[] #[]] 146)) (h2 : w.heap[s0 + (a + 1)]? = some (.cells #[.func (.func 136) #[] #[.pointer (some ⟨s0 + a, 0, none⟩)]] 137)) :
    Calls Tryz.prog 131 #[.agg (clCells c), .agg (lnArr x), .pointer (some ⟨s0 + (a + 1), 0, none⟩)] w fun e w' => e = .returned (.agg (clCells (c.with_ r lo hi))) ∧ Below w.heap.size w w' :=
  sets_gen 136 en_reckons #[.pointer (some ⟨s0 + a, 0, none⟩)] lo hi c x r hx hr (s0 + (a + 1)) w (fun W hT => reckons_gen f hent lo hi c x r s hx hy hr hs (s0 + a) W hF (hT.old h1)) h2
theorem turn14n (s0 r s : Nat) (n : Int) (hr : r < 8) (hs : s < 8) (c : Cl) (w : World) (ht : Table s0 w) :
    Calls Tryz.prog 154 #[.agg (clCells c), .agg (lnArr ⟨14, r, s, n⟩), .pointer (some ⟨s0 + 45, 0, none⟩), .pointer (some ⟨s0 + 46, 0, none⟩)] w fun e w' => e = .returned (.agg (clCells (nextW 14 c ⟨14, r, s, n⟩))) ∧ Below w.heap.size w w' := by
  by_cases h : r = s
  · subst h
    have e : nextW 14 c ⟨14, r, r, n⟩ = c := if_pos rfl
    rw [e]
    exact turn_alike 150 en_same c c ⟨14, r, r, n⟩ r rfl rfl _ _ w (fun W _ => same_b c _ W) (ht 45 (by omega))
  · by_cases h1 : c.hi r < c.lo s
    · have e : nextW 14 c ⟨14, r, s, n⟩ = clNever := (if_neg h).trans (if_pos h1)
      rw [e]
      exact turn_gen 95 en_NotLess false 0 0 0 0 c ⟨14, r, s, n⟩ r s rfl rfl hr hs h _ _ w (fun W => by have := NotLess_any (c.lo r) (c.hi r) (c.lo s) (c.hi s) W; rwa [if_pos h1] at this) (ht 46 (by omega))
    · have e : nextW 14 c ⟨14, r, s, n⟩ = (c.with_ r (max (c.lo r) (c.lo s)) (c.hi r)).with_ s (c.lo s) (min (c.hi s) (c.hi r)) := (if_neg h).trans (if_neg h1)
      rw [e]
      exact turn_gen 95 en_NotLess true _ _ _ _ c ⟨14, r, s, n⟩ r s rfl rfl hr hs h _ _ w (fun W => by have := NotLess_any (c.lo r) (c.hi r) (c.lo s) (c.hi s) W; rwa [if_neg h1] at this) (ht 46 (by omega))
theorem turn14j (s0 r s : Nat) (n : Int) (hr : r < 8) (hs : s < 8) (c : Cl) (w : World) (ht : Table s0 w) :
    Calls Tryz.prog 154 #[.agg (clCells c), .agg (lnArr ⟨14, r, s, n⟩), .pointer (some ⟨s0 + 47, 0, none⟩), .pointer (some ⟨s0 + 48, 0, none⟩)] w fun e w' => e = .returned (.agg (clCells (jumpW 14 c ⟨14, r, s, n⟩))) ∧ Below w.heap.size w w' := by
  by_cases h : r = s
  · subst h
    have e : jumpW 14 c ⟨14, r, r, n⟩ = clNever := if_pos rfl
    rw [e]
    exact turn_alike 133 en_nowhere clNever c ⟨14, r, r, n⟩ r rfl rfl _ _ w (fun W _ => nowhereC_any c _ W) (ht 47 (by omega))
  · by_cases h1 : c.hi s ≤ c.lo r
    · have e : jumpW 14 c ⟨14, r, s, n⟩ = clNever := (if_neg h).trans (if_pos h1)
      rw [e]
      exact turn_gen 96 en_Less false 0 0 0 0 c ⟨14, r, s, n⟩ r s rfl rfl hr hs h _ _ w (fun W => by have := Less_any (c.lo r) (c.hi r) (c.lo s) (c.hi s) W; rwa [if_pos h1] at this) (ht 48 (by omega))
    · have e : jumpW 14 c ⟨14, r, s, n⟩ = (c.with_ r (c.lo r) (min (c.hi r) (wrap64 (c.hi s - 1)))).with_ s (max (c.lo s) (wrap64 (c.lo r + 1))) (c.hi s) := (if_neg h).trans (if_neg h1)
      rw [e]
      exact turn_gen 96 en_Less true _ _ _ _ c ⟨14, r, s, n⟩ r s rfl rfl hr hs h _ _ w (fun W => by have := Less_any (c.lo r) (c.hi r) (c.lo s) (c.hi s) W; rwa [if_neg h1] at this) (ht 48 (by omega))
theorem turn15n (s0 r s : Nat) (n : Int) (hr : r < 8) (hs : s < 8) (c : Cl) (w : World) (ht : Table s0 w) :
    Calls Tryz.prog 154 #[.agg (clCells c), .agg (lnArr ⟨15, r, s, n⟩), .pointer (some ⟨s0 + 50, 0, none⟩), .pointer (some ⟨s0 + 51, 0, none⟩)] w fun e w' => e = .returned (.agg (clCells (nextW 15 c ⟨15, r, s, n⟩))) ∧ Below w.heap.size w w' := by
  by_cases h : r = s
  · subst h
    have e : nextW 15 c ⟨15, r, r, n⟩ = clNever := if_pos rfl
    rw [e]
    exact turn_alike 133 en_nowhere clNever c ⟨15, r, r, n⟩ r rfl rfl _ _ w (fun W _ => nowhereC_any c _ W) (ht 50 (by omega))
  · by_cases h1 : c.lo r = c.lo s ∧ c.hi r = c.hi s ∧ c.lo r = c.hi r
    · have e : nextW 15 c ⟨15, r, s, n⟩ = clNever := (if_neg h).trans (if_pos h1)
      rw [e]
      exact turn_gen 98 en_NotSame false 0 0 0 0 c ⟨15, r, s, n⟩ r s rfl rfl hr hs h _ _ w (fun W => by have := NotSame_any (c.lo r) (c.hi r) (c.lo s) (c.hi s) W; rwa [if_pos h1] at this) (ht 51 (by omega))
    · have e : nextW 15 c ⟨15, r, s, n⟩ = (c.with_ r (c.lo r) (c.hi r)).with_ s (c.lo s) (c.hi s) := (if_neg h).trans (if_neg h1)
      rw [e]
      exact turn_gen 98 en_NotSame true _ _ _ _ c ⟨15, r, s, n⟩ r s rfl rfl hr hs h _ _ w (fun W => by have := NotSame_any (c.lo r) (c.hi r) (c.lo s) (c.hi s) W; rwa [if_neg h1] at this) (ht 51 (by omega))
theorem turn15j (s0 r s : Nat) (n : Int) (hr : r < 8) (hs : s < 8) (c : Cl) (w : World) (ht : Table s0 w) :
    Calls Tryz.prog 154 #[.agg (clCells c), .agg (lnArr ⟨15, r, s, n⟩), .pointer (some ⟨s0 + 52, 0, none⟩), .pointer (some ⟨s0 + 53, 0, none⟩)] w fun e w' => e = .returned (.agg (clCells (jumpW 15 c ⟨15, r, s, n⟩))) ∧ Below w.heap.size w w' := by
  by_cases h : r = s
  · subst h
    have e : jumpW 15 c ⟨15, r, r, n⟩ = c := if_pos rfl
    rw [e]
    exact turn_alike 150 en_same c c ⟨15, r, r, n⟩ r rfl rfl _ _ w (fun W _ => same_b c _ W) (ht 52 (by omega))
  · by_cases h1 : min (c.hi r) (c.hi s) < max (c.lo r) (c.lo s)
    · have e : jumpW 15 c ⟨15, r, s, n⟩ = clNever := (if_neg h).trans (if_pos h1)
      rw [e]
      exact turn_gen 99 en_Same false 0 0 0 0 c ⟨15, r, s, n⟩ r s rfl rfl hr hs h _ _ w (fun W => by have := Same_any (c.lo r) (c.hi r) (c.lo s) (c.hi s) W; rwa [if_pos h1] at this) (ht 53 (by omega))
    · have e : jumpW 15 c ⟨15, r, s, n⟩ = (c.with_ r (max (c.lo r) (c.lo s)) (min (c.hi r) (c.hi s))).with_ s (max (c.lo r) (c.lo s)) (min (c.hi r) (c.hi s)) := (if_neg h).trans (if_neg h1)
      rw [e]
      exact turn_gen 99 en_Same true _ _ _ _ c ⟨15, r, s, n⟩ r s rfl rfl hr hs h _ _ w (fun W => by have := Same_any (c.lo r) (c.hi r) (c.lo s) (c.hi s) W; rwa [if_neg h1] at this) (ht 53 (by omega))
theorem lineW_0 (s0 r s : Nat) (n : Int) (hr : r < 8) (hs : s < 8) (hn : NOk ⟨0, r, s, n⟩) : LineW s0 ⟨0, r, s, n⟩ :=
  lineW_of s0 0 r s n (by omega) hr hs hn _ _ _ _ _ _ _ _ rfl rfl rfl rfl en_nothing en_sets en_nowhere (fun c w ht => nothing_b c _ w)
    (fun c w ht ho hm => sets_rows2 c _ r rfl hr (s0 + 1) w (ht 1 (by omega)))
    (fun c w ht ho hm => nowhereC_any c _ w)
theorem lineW_1 (s0 r s : Nat) (n : Int) (hr : r < 8) (hs : s < 8) (hn : NOk ⟨1, r, s, n⟩) : LineW s0 ⟨1, r, s, n⟩ :=
  lineW_of s0 1 r s n (by omega) hr hs hn _ _ _ _ _ _ _ _ rfl rfl rfl rfl en_nothing en_sets en_nowhere (fun c w ht => nothing_b c _ w)
    (fun c w ht ho hm => sets_gen 61 en_rows4 #[] _ _ c _ r rfl hr (s0 + 3) w (fun W hT => rows4_any c _ s rfl hs W) (ht 3 (by omega)))
    (fun c w ht ho hm => nowhereC_any c _ w)
theorem lineW_2 (s0 r s : Nat) (n : Int) (hr : r < 8) (hs : s < 8) (hn : NOk ⟨2, r, s, n⟩) : LineW s0 ⟨2, r, s, n⟩ :=
  lineW_of s0 2 r s n (by omega) hr hs hn _ _ _ _ _ _ _ _ rfl rfl rfl rfl en_nothing en_sets en_nowhere (fun c w ht => nothing_b c _ w)
    (fun c w ht ho hm => setsReck 66 en_Add s0 5 _ _ c _ r s rfl rfl hr hs w (fun W => Add_any _ _ _ _ W) (ht 5 (by omega)) (ht 6 (by omega)))
    (fun c w ht ho hm => nowhereC_any c _ w)
theorem lineW_3 (s0 r s : Nat) (n : Int) (hr : r < 8) (hs : s < 8) (hn : NOk ⟨3, r, s, n⟩) : LineW s0 ⟨3, r, s, n⟩ :=
  lineW_of s0 3 r s n (by omega) hr hs hn _ _ _ _ _ _ _ _ rfl rfl rfl rfl en_nothing en_sets en_nowhere (fun c w ht => nothing_b c _ w)
    (fun c w ht ho hm => setsReck 68 en_Sub s0 8 _ _ c _ r s rfl rfl hr hs w (fun W => Sub_any _ _ _ _ W) (ht 8 (by omega)) (ht 9 (by omega)))
    (fun c w ht ho hm => nowhereC_any c _ w)
theorem lineW_4 (s0 r s : Nat) (n : Int) (hr : r < 8) (hs : s < 8) (hn : NOk ⟨4, r, s, n⟩) : LineW s0 ⟨4, r, s, n⟩ :=
  lineW_of s0 4 r s n (by omega) hr hs hn _ _ _ _ _ _ _ _ rfl rfl rfl rfl en_nothing en_sets en_nowhere (fun c w ht => nothing_b c _ w)
    (fun c w ht ho hm => setsReck 70 en_Mul s0 11 _ _ c _ r s rfl rfl hr hs w (fun W => Mul_any _ _ _ _ W) (ht 11 (by omega)) (ht 12 (by omega)))
    (fun c w ht ho hm => nowhereC_any c _ w)
theorem lineW_5 (s0 r s : Nat) (n : Int) (hr : r < 8) (hs : s < 8) (hn : NOk ⟨5, r, s, n⟩) : LineW s0 ⟨5, r, s, n⟩ :=
  lineW_of s0 5 r s n (by omega) hr hs hn _ _ _ _ _ _ _ _ rfl rfl rfl rfl en_nothing en_sets en_nowhere (fun c w ht => nothing_b c _ w)
    (fun c w ht ho hm => setsReck 72 en_And s0 14 _ _ c _ r s rfl rfl hr hs w (fun W => And_any _ _ _ _ W) (ht 14 (by omega)) (ht 15 (by omega)))
    (fun c w ht ho hm => nowhereC_any c _ w)
theorem lineW_6 (s0 r s : Nat) (n : Int) (hr : r < 8) (hs : s < 8) (hn : NOk ⟨6, r, s, n⟩) : LineW s0 ⟨6, r, s, n⟩ :=
  lineW_of s0 6 r s n (by omega) hr hs hn _ _ _ _ _ _ _ _ rfl rfl rfl rfl en_divisor en_sets en_nowhere (fun c w ht => divisorC_any c _ s rfl hs w)
    (fun c w ht ho hm => setsReck 75 en_Div s0 17 _ _ c _ r s rfl rfl hr hs w (fun W => Div_any _ _ _ _ (divOk ho (met_need hm)).1 (divOk ho (met_need hm)).2 W) (ht 17 (by omega)) (ht 18 (by omega)))
    (fun c w ht ho hm => nowhereC_any c _ w)
theorem lineW_7 (s0 r s : Nat) (n : Int) (hr : r < 8) (hs : s < 8) (hn : NOk ⟨7, r, s, n⟩) : LineW s0 ⟨7, r, s, n⟩ :=
  lineW_of s0 7 r s n (by omega) hr hs hn _ _ _ _ _ _ _ _ rfl rfl rfl rfl en_placeS en_sets en_nowhere (fun c w ht => placeSC_any c _ s 64 rfl hs (s0 + 21) w (ht 21 (by omega)))
    (fun c w ht ho hm => sets_fetches c _ r rfl hr (s0 + 23) w (s0 + 22) (0) 255 (ht 22 (by omega)) (ht 23 (by omega)))
    (fun c w ht ho hm => nowhereC_any c _ w)
theorem lineW_8 (s0 r s : Nat) (n : Int) (hr : r < 8) (hs : s < 8) (hn : NOk ⟨8, r, s, n⟩) : LineW s0 ⟨8, r, s, n⟩ :=
  lineW_of s0 8 r s n (by omega) hr hs hn _ _ _ _ _ _ _ _ rfl rfl rfl rfl en_placeS en_sets en_nowhere (fun c w ht => placeSC_any c _ s 16 rfl hs (s0 + 26) w (ht 26 (by omega)))
    (fun c w ht ho hm => sets_fetches c _ r rfl hr (s0 + 29) w (s0 + 28) (-9223372036854775808) 9223372036854775807 (ht 28 (by omega)) (ht 29 (by omega)))
    (fun c w ht ho hm => nowhereC_any c _ w)
theorem lineW_9 (s0 r s : Nat) (n : Int) (hr : r < 8) (hs : s < 8) (hn : NOk ⟨9, r, s, n⟩) : LineW s0 ⟨9, r, s, n⟩ :=
  lineW_of s0 9 r s n (by omega) hr hs hn _ _ _ _ _ _ _ _ rfl rfl rfl rfl en_placeR en_same en_nowhere (fun c w ht => placeRC_any c _ r 16 rfl hr (s0 + 32) w (ht 32 (by omega)))
    (fun c w ht ho hm => same_b c _ w)
    (fun c w ht ho hm => nowhereC_any c _ w)
theorem lineW_10 (s0 r s : Nat) (n : Int) (hr : r < 8) (hs : s < 8) (hn : NOk ⟨10, r, s, n⟩) : LineW s0 ⟨10, r, s, n⟩ :=
  lineW_of s0 10 r s n (by omega) hr hs hn _ _ _ _ _ _ _ _ rfl rfl rfl rfl en_placeS en_sets en_nowhere (fun c w ht => placeSC_any c _ s 8 rfl hs (s0 + 35) w (ht 35 (by omega)))
    (fun c w ht ho hm => sets_fetches c _ r rfl hr (s0 + 38) w (s0 + 37) (-9223372036854775808) 9223372036854775807 (ht 37 (by omega)) (ht 38 (by omega)))
    (fun c w ht ho hm => nowhereC_any c _ w)
theorem lineW_11 (s0 r s : Nat) (n : Int) (hr : r < 8) (hs : s < 8) (hn : NOk ⟨11, r, s, n⟩) : LineW s0 ⟨11, r, s, n⟩ :=
  lineW_of s0 11 r s n (by omega) hr hs hn _ _ _ _ _ _ _ _ rfl rfl rfl rfl en_placeR en_same en_nowhere (fun c w ht => placeRC_any c _ r 8 rfl hr (s0 + 41) w (ht 41 (by omega)))
    (fun c w ht ho hm => same_b c _ w)
    (fun c w ht ho hm => nowhereC_any c _ w)
theorem lineW_12 (s0 r s : Nat) (n : Int) (hr : r < 8) (hs : s < 8) (hn : NOk ⟨12, r, s, n⟩) : LineW s0 ⟨12, r, s, n⟩ :=
  lineW_of s0 12 r s n (by omega) hr hs hn _ _ _ _ _ _ _ _ rfl rfl rfl rfl en_nothing en_same en_nowhere (fun c w ht => nothing_b c _ w)
    (fun c w ht ho hm => same_b c _ w)
    (fun c w ht ho hm => nowhereC_any c _ w)
theorem lineW_13 (s0 r s : Nat) (n : Int) (hr : r < 8) (hs : s < 8) (hn : NOk ⟨13, r, s, n⟩) : LineW s0 ⟨13, r, s, n⟩ :=
  lineW_of s0 13 r s n (by omega) hr hs hn _ _ _ _ _ _ _ _ rfl rfl rfl rfl en_nothing en_nowhere en_same (fun c w ht => nothing_b c _ w)
    (fun c w ht ho hm => nowhereC_any c _ w)
    (fun c w ht ho hm => same_b c _ w)
theorem lineW_14 (s0 r s : Nat) (n : Int) (hr : r < 8) (hs : s < 8) (hn : NOk ⟨14, r, s, n⟩) : LineW s0 ⟨14, r, s, n⟩ :=
  lineW_of s0 14 r s n (by omega) hr hs hn _ _ _ _ _ _ _ _ rfl rfl rfl rfl en_nothing en_turn en_turn (fun c w ht => nothing_b c _ w)
    (fun c w ht ho hm => turn14n s0 r s n hr hs c w ht)
    (fun c w ht ho hm => turn14j s0 r s n hr hs c w ht)
theorem lineW_15 (s0 r s : Nat) (n : Int) (hr : r < 8) (hs : s < 8) (hn : NOk ⟨15, r, s, n⟩) : LineW s0 ⟨15, r, s, n⟩ :=
  lineW_of s0 15 r s n (by omega) hr hs hn _ _ _ _ _ _ _ _ rfl rfl rfl rfl en_nothing en_turn en_turn (fun c w ht => nothing_b c _ w)
    (fun c w ht ho hm => turn15n s0 r s n hr hs c w ht)
    (fun c w ht ho hm => turn15j s0 r s n hr hs c w ht)
theorem lineW_16 (s0 r s : Nat) (n : Int) (hr : r < 8) (hs : s < 8) (hn : NOk ⟨16, r, s, n⟩) : LineW s0 ⟨16, r, s, n⟩ :=
  lineW_of s0 16 r s n (by omega) hr hs hn _ _ _ _ _ _ _ _ rfl rfl rfl rfl en_nothing en_nowhere en_nowhere (fun c w ht => nothing_b c _ w)
    (fun c w ht ho hm => nowhereC_any c _ w)
    (fun c w ht ho hm => nowhereC_any c _ w)
/-- A line that may be read: its word, its registers, its number. -/
structure LnOk (x : Ln) : Prop where
  i : ∃ i : Nat, i < 17 ∧ x.word = (i : Int)
  r : ∃ r : Nat, r < 8 ∧ x.r = (r : Int)
  s : ∃ s : Nat, s < 8 ∧ x.s = (s : Int)
  n : NOk x
theorem lineW_any (s0 : Nat) (x : Ln) (h : LnOk x) : LineW s0 x := by
  obtain ⟨⟨i, hi, ei⟩, ⟨r, hr, er⟩, ⟨s, hs, es⟩, hn⟩ := h
  obtain ⟨wd, xr, xs, n⟩ := x
  dsimp only at ei er es
  subst ei er es
  match i, hi with
  | 0, _ => exact lineW_0 s0 r s n hr hs hn
  | 1, _ => exact lineW_1 s0 r s n hr hs hn
  | 2, _ => exact lineW_2 s0 r s n hr hs hn
  | 3, _ => exact lineW_3 s0 r s n hr hs hn
  | 4, _ => exact lineW_4 s0 r s n hr hs hn
  | 5, _ => exact lineW_5 s0 r s n hr hs hn
  | 6, _ => exact lineW_6 s0 r s n hr hs hn
  | 7, _ => exact lineW_7 s0 r s n hr hs hn
  | 8, _ => exact lineW_8 s0 r s n hr hs hn
  | 9, _ => exact lineW_9 s0 r s n hr hs hn
  | 10, _ => exact lineW_10 s0 r s n hr hs hn
  | 11, _ => exact lineW_11 s0 r s n hr hs hn
  | 12, _ => exact lineW_12 s0 r s n hr hs hn
  | 13, _ => exact lineW_13 s0 r s n hr hs hn
  | 14, _ => exact lineW_14 s0 r s n hr hs hn
  | 15, _ => exact lineW_15 s0 r s n hr hs hn
  | 16, _ => exact lineW_16 s0 r s n hr hs hn
  | k + 17, h => exact absurd h (by omega)
end Go.Proofs.YtngopilbpiplhaaGreatDoor
