/-
  Plain: the text of a number is read back as that number; the lines that Straight writes are read as lines.
  Plain: the lines that Straight writes, read as lines; and what a run of them comes to, line by line.
  Plain: what is so while Straight writes its lines: they are lines of a program, and a run of them has these registers and cells.
  Plain: the whole text that Straight writes is a program, and what a run of it comes to.
  The contract of wardkeep.awake: it answers true.
  What the lines that wardkeep.Straight writes do, one by one.
-/
import Derived.Test.YtngopilbpiplhaaGreatDoorZNew
import Derived.Test.YtngopilbpiplhaaGreatDoorZParse
import Derived.Test.YtngopilbpiplhaaGreatDoorZRun
namespace Go.Proofs.YtngopilbpiplhaaGreatDoor

theorem pum_cons (M acc : Nat) (c : UInt8) (r : List UInt8) : Lib.parseUintM M acc (c :: r) = if 48 ≤ c.toNat ∧ c.toNat ≤ 57 then (if 1844674407370955162 ≤ acc then .range else if M < acc * 10 + (c.toNat - 48) then .range else Lib.parseUintM M (acc * 10 + (c.toNat - 48)) r) else .«syntax» := rfl
theorem parseUintM_append (M : Nat) : ∀ (a b : List UInt8) (acc u : Nat), Lib.parseUintM M acc a = .ok u → Lib.parseUintM M acc (a ++ b) = Lib.parseUintM M u b
  | [], b, acc, u, h => by simp [Lib.parseUintM] at h; rw [h]; rfl
  | c :: a, b, acc, u, h => by
    rw [List.cons_append, pum_cons M acc c (a ++ b)]
    rw [pum_cons] at h
    split at h
    · rename_i h1
      rw [if_pos h1]
      split at h
      · cases h
      · rename_i h2
        rw [if_neg h2]
        split at h
        · cases h
        · rename_i h3
          rw [if_neg h3]
          exact parseUintM_append M a b _ u h
    · cases h
theorem parse_dd (M : Nat) (hM : 10000000000000000 ≤ M) : ∀ (k u : Nat), u < k → u < 1000000000000000 → Lib.parseUintM M 0 (dd u) = .ok u
  | 0, u, h, _ => absurd h (by omega)
  | k + 1, u, h, hu => by
    by_cases e : u = 0
    · subst e; simp [dd, Lib.parseUintM]
    · rw [dd_step u e, parseUintM_append M _ _ 0 (u / 10) (parse_dd M hM k (u / 10) (by omega) (by omega))]
      have hc : (UInt8.ofNat (48 + u % 10)).toNat = 48 + u % 10 := by simp; omega
      unfold Lib.parseUintM
      rw [hc, if_pos (by omega), if_neg (by omega), if_neg (by omega)]
      unfold Lib.parseUintM
      congr 1
      omega
theorem dd_head (u : Nat) : ∀ (k : Nat), u < k → u ≠ 0 → ∃ c r, dd u = c :: r ∧ 49 ≤ c.toNat ∧ c.toNat ≤ 57 ∧ allDig (c :: r) = true := by
  intro k
  induction k generalizing u with
  | zero => intro h; omega
  | succ k ih =>
    intro h h0
    have hc : (UInt8.ofNat (48 + u % 10)).toNat = 48 + u % 10 := by simp; omega
    rw [dd_step u h0]
    by_cases e : u / 10 = 0
    · have e2 : dd (u / 10) = [] := by rw [e]; rfl
      rw [e2]
      refine ⟨_, _, rfl, by omega, by omega, ?_⟩
      simp only [allDig, List.all_cons, List.all_nil, hc]
      simp; omega
    · obtain ⟨c, r, h1, h2, h3, h4⟩ := ih (u / 10) (by omega) e
      rw [h1]
      refine ⟨c, r ++ [_], rfl, h2, h3, ?_⟩
      have : allDig ((c :: r) ++ [UInt8.ofNat (48 + u % 10)]) = true := by
        unfold allDig at h4 ⊢
        rw [List.all_append, h4]
        simp
        omega
      exact this
theorem numF_pos (u : Nat) (h0 : u ≠ 0) (hu : u < 1000000000000000) : numF (dd u) = some (u : Int) := by
  obtain ⟨c, r, h1, h2, h3, h4⟩ := dd_head u (u + 1) (by omega) h0
  have hc : c.toNat ≠ 45 := by omega
  have hp := parse_dd (2 ^ 64 - 1) (by decide) (u + 1) u (by omega) hu
  have ht : Lib.trimPrefix (c :: r) [45] = c :: r := by
    unfold Lib.trimPrefix
    rw [if_neg]
    simp only [Lib.hasPrefix]
    intro h
    have : 45 = c := by simpa using h
    exact hc (by rw [← this]; rfl)
  have hpi : Lib.parseIntB 64 (c :: r) = .ok (u : Int) := by
    unfold Lib.parseIntB
    simp only
    rw [if_neg (by omega)]
    unfold Lib.parseUintB
    rw [if_neg (by simp), ← h1, hp]
    simp only
    rw [if_neg (by omega), if_neg (by omega), if_neg hc]
  unfold numF
  simp only
  rw [h1, ht, if_neg, if_pos h4, hpi]
  · rfl
  · rintro (q | ⟨_, q⟩)
    · cases q
    · have : c = 48 := by simpa using q
      rw [this] at h2; exact absurd h2 (by decide)
theorem numF_neg (u : Nat) (h0 : u ≠ 0) (hu : u < 1000000000000000) : numF (45 :: dd u) = some (-(u : Int)) := by
  obtain ⟨c, r, h1, h2, h3, h4⟩ := dd_head u (u + 1) (by omega) h0
  have hp := parse_dd (2 ^ 64 - 1) (by decide) (u + 1) u (by omega) hu
  have ht : Lib.trimPrefix (45 :: c :: r) [45] = c :: r := by
    simp [Lib.trimPrefix, Lib.hasPrefix]
  have hpi : Lib.parseIntB 64 (45 :: c :: r) = .ok (-(u : Int)) := by
    unfold Lib.parseIntB
    simp only
    rw [if_pos (by decide)]
    unfold Lib.parseUintB
    rw [if_neg (by simp), ← h1, hp]
    simp only
    rw [if_neg (by simp), if_neg (by omega), if_pos (by decide)]
  unfold numF
  simp only
  rw [h1, ht, if_neg, if_pos h4, hpi]
  · rfl
  · rintro (q | ⟨_, q⟩)
    · cases q
    · have : c = 48 := by simpa using q
      rw [this] at h2; exact absurd h2 (by decide)
/-- The text of a number is read as that number. -/
theorem numF_itoa (n : Int) (h0 : -1000000000000 ≤ n) (h1 : n ≤ 1000000000000) : numF (Lib.itoa n) = some n := by
  rcases Int.lt_trichotomy n 0 with h | h | h
  · obtain ⟨u, rfl⟩ : ∃ u : Nat, n = -(u : Int) := ⟨n.natAbs, by omega⟩
    rw [itoa_neg u (by omega), numF_neg u (by omega) (by omega)]
  · subst h; decide +kernel
  · obtain ⟨u, rfl⟩ : ∃ u : Nat, n = (u : Int) := ⟨n.natAbs, by omega⟩
    rw [itoa_pos u (by omega), numF_pos u (by omega) (by omega)]

end Go.Proofs.YtngopilbpiplhaaGreatDoor

namespace Go.Proofs.YtngopilbpiplhaaGreatDoor
open Go.RowKit

/-- A register's text. -/
def reg (a : Nat) : List UInt8 := 114 :: Lib.itoa (a : Int)

theorem lt8 {p : Nat → Prop} (h0 : p 0) (h1 : p 1) (h2 : p 2) (h3 : p 3) (h4 : p 4) (h5 : p 5) (h6 : p 6) (h7 : p 7) (a : Nat) (h : a < 8) : p a := by
  match a, h with
  | 0, _ => exact h0
  | 1, _ => exact h1
  | 2, _ => exact h2
  | 3, _ => exact h3
  | 4, _ => exact h4
  | 5, _ => exact h5
  | 6, _ => exact h6
  | 7, _ => exact h7
  | n + 8, h => exact absurd h (by omega)
theorem regF_reg (a : Nat) (h : a < 8) : regF (reg a) = some a := lt8 (p := fun a => regF (reg a) = some a) (by decide +kernel) (by decide +kernel) (by decide +kernel) (by decide +kernel) (by decide +kernel) (by decide +kernel) (by decide +kernel) (by decide +kernel) a h
theorem reg_plain (a : Nat) (h : a < 8) : 32 ∉ reg a ∧ 10 ∉ reg a ∧ (reg a).length = 2 := lt8 (p := fun a => 32 ∉ reg a ∧ 10 ∉ reg a ∧ (reg a).length = 2) (by decide +kernel) (by decide +kernel) (by decide +kernel) (by decide +kernel) (by decide +kernel) (by decide +kernel) (by decide +kernel) (by decide +kernel) a h

theorem dd_mem (u : Nat) (c : UInt8) (h : c ∈ dd u) : 48 ≤ c.toNat := by
  by_cases e : u = 0
  · subst e; simp [dd] at h
  · obtain ⟨d, r, h1, _, _, h4⟩ := dd_head u (u + 1) (by omega) e
    rw [h1] at h
    have := List.all_eq_true.1 h4 c h
    simp at this
    exact this.1
theorem itoa_mem (n : Int) (c : UInt8) (h : c ∈ Lib.itoa n) : c ≠ 32 ∧ c ≠ 10 := by
  have key : 45 ≤ c.toNat := by
    rcases Int.lt_trichotomy n 0 with q | q | q
    · obtain ⟨u, rfl⟩ : ∃ u : Nat, n = -(u : Int) := ⟨n.natAbs, by omega⟩
      rw [itoa_neg u (by omega)] at h
      rcases List.mem_cons.1 h with h | h
      · rw [h]; decide
      · have := dd_mem u c h; omega
    · subst q
      have e : Lib.itoa 0 = [48] := by decide +kernel
      rw [e] at h
      have : c = 48 := by simpa using h
      rw [this]; decide
    · obtain ⟨u, rfl⟩ : ∃ u : Nat, n = (u : Int) := ⟨n.natAbs, by omega⟩
      rw [itoa_pos u (by omega)] at h
      have := dd_mem u c h; omega
  exact ⟨fun e => by rw [e] at key; exact absurd key (by decide), fun e => by rw [e] at key; exact absurd key (by decide)⟩

/-- What a word's row must be for a text of it to be read. -/
structure WordOk (row : Nat) (ps : List UInt8) : Prop where
  find : findF (wName row) = some row
  parts : wParts row = ps
  blank : 32 ∉ wName row

theorem lineF_RS {row : Nat} (hw : WordOk row [82, 83]) (a b : Nat) (ha : a < 8) (hb : b < 8) : lineF (wName row ++ 32 :: (reg a ++ 32 :: reg b)) = some ⟨row, a, b, 0⟩ := by
  unfold lineF
  rw [cutAt_hit _ _ _ hw.blank, cutAt_hit _ _ _ (reg_plain a ha).1, cutAt_miss _ _ (reg_plain b hb).1]
  simp [hw.find, hw.parts, partsF, partF, regF_reg a ha, regF_reg b hb]
theorem lineF_R {row : Nat} (hw : WordOk row [82]) (a : Nat) (ha : a < 8) : lineF (wName row ++ 32 :: reg a) = some ⟨row, a, 0, 0⟩ := by
  unfold lineF
  rw [cutAt_hit _ _ _ hw.blank, cutAt_miss _ _ (reg_plain a ha).1]
  simp [hw.find, hw.parts, partsF, partF, regF_reg a ha]
theorem lineF_Rn {row : Nat} (hw : WordOk row [82, 110]) (a : Nat) (n : Int) (ha : a < 8) (h0 : -1000000000 ≤ n) (h1 : n ≤ 1000000000) : lineF (wName row ++ 32 :: (reg a ++ 32 :: Lib.itoa n)) = some ⟨row, a, 0, n⟩ := by
  unfold lineF
  rw [cutAt_hit _ _ _ hw.blank, cutAt_hit _ _ _ (reg_plain a ha).1, cutAt_miss _ _ (fun h => (itoa_mem n _ h).1 rfl)]
  simp [hw.find, hw.parts, partsF, partF, regF_reg a ha, numF_itoa n (by omega) (by omega), h0, h1]
theorem lineF_RSL {row : Nat} (hw : WordOk row [82, 83, 76]) (a b L : Nat) (ha : a < 8) (hb : b < 8) (hL : L < 1000) : lineF (wName row ++ 32 :: (reg a ++ 32 :: (reg b ++ 32 :: Lib.itoa (L : Int)))) = some ⟨row, a, b, L⟩ := by
  unfold lineF
  rw [cutAt_hit _ _ _ hw.blank, cutAt_hit _ _ _ (reg_plain a ha).1, cutAt_hit _ _ _ (reg_plain b hb).1, cutAt_miss _ _ (fun h => (itoa_mem _ _ h).1 rfl)]
  simp [hw.find, hw.parts, partsF, partF, regF_reg a ha, regF_reg b hb, numF_itoa (L : Int) (by omega) (by omega)]

theorem w0 : WordOk 0 [82, 110] := ⟨by decide +kernel, rfl, by decide +kernel⟩
theorem w1 : WordOk 1 [82, 83] := ⟨by decide +kernel, rfl, by decide +kernel⟩
theorem w2 : WordOk 2 [82, 83] := ⟨by decide +kernel, rfl, by decide +kernel⟩
theorem w3 : WordOk 3 [82, 83] := ⟨by decide +kernel, rfl, by decide +kernel⟩
theorem w4 : WordOk 4 [82, 83] := ⟨by decide +kernel, rfl, by decide +kernel⟩
theorem w5 : WordOk 5 [82, 83] := ⟨by decide +kernel, rfl, by decide +kernel⟩
theorem w6 : WordOk 6 [82, 83] := ⟨by decide +kernel, rfl, by decide +kernel⟩
theorem w7 : WordOk 7 [82, 83] := ⟨by decide +kernel, rfl, by decide +kernel⟩
theorem w8 : WordOk 8 [82, 83] := ⟨by decide +kernel, rfl, by decide +kernel⟩
theorem w9 : WordOk 9 [82, 83] := ⟨by decide +kernel, rfl, by decide +kernel⟩
theorem w12 : WordOk 12 [82] := ⟨by decide +kernel, rfl, by decide +kernel⟩
theorem w15 : WordOk 15 [82, 83, 76] := ⟨by decide +kernel, rfl, by decide +kernel⟩
theorem w16 : WordOk 16 [82] := ⟨by decide +kernel, rfl, by decide +kernel⟩

/-- Lines one behind the other, each with a line feed behind it. -/
def joined (ts : List (List UInt8)) : List UInt8 := (ts.map fun t => t ++ [10]).flatten
theorem joined_snoc (ts : List (List UInt8)) (t : List UInt8) : joined (ts ++ [t]) = joined ts ++ t ++ [10] := by simp [joined]
theorem cutAt_joined (z : List UInt8) (hz : 10 ∉ z) : ∀ ts : List (List UInt8), (∀ t ∈ ts, 10 ∉ t) → cutAt 10 (joined ts ++ z) = ts ++ [z]
  | [], _ => by simp [joined, cutAt_miss 10 z hz]
  | t :: ts, h => by
    have e : joined (t :: ts) ++ z = t ++ 10 :: (joined ts ++ z) := by simp [joined]
    rw [e, cutAt_hit 10 t _ (h t (by simp)), cutAt_joined z hz ts (fun u hu => h u (by simp [hu]))]
    rfl

/-- Lines were run, and led from one state to the other, whatever stands behind them. -/
def Exec (xs : List Ln) (a b : MS × List UInt8) : Prop := ∀ (ys : List Ln) (f : Nat), runF (xs ++ ys) (xs.length + f) a = runF (xs ++ ys) f b
theorem Exec.snoc {xs : List Ln} {a : MS × List UInt8} {m m' : MS} {l l' : List UInt8} (h : Exec xs a (m, l)) (x : Ln) (hl : m.line = (xs.length : Int)) (hs : stepF x.word.toNat x.r.toNat x.s.toNat x.n m l = (m', l')) (hh : m'.how = 0) :
    Exec (xs ++ [x]) a ({ m' with line := m'.next }, l') := by
  intro ys f
  have e := h (x :: ys) (f + 1)
  rw [show xs ++ [x] ++ ys = xs ++ x :: ys by simp, show (xs ++ [x]).length + f = xs.length + (f + 1) by simp; omega, e]
  have hg : (xs ++ x :: ys)[m.line.toNat]? = some x := by rw [hl]; simp
  conv => lhs; unfold runF
  rw [hg]
  dsimp only
  rw [hs]
  dsimp only
  rw [if_neg (by simpa using hh)]

end Go.Proofs.YtngopilbpiplhaaGreatDoor

namespace Go.Proofs.YtngopilbpiplhaaGreatDoor
open Go.RowKit

def upd (n : Nat → Int) (r : Nat) (v : Int) : Nat → Int := fun k => if k = r then v else n k

/-- The machine has the registers below q, and the cells. -/
structure Corr (input : List UInt8) (m : MS) (q : Nat) (n c : Nat → Int) : Prop where
  set : ∀ j, j < q → m.set j = true
  num : ∀ j, j < q → m.num j = n j
  cells : ∀ j, j < 16 → m.cells j = c j
  input : m.input = inputOf input
  how : m.how = 0
  why : m.why = 0
  value : m.value = 0
theorem Corr.same {input : List UInt8} {m m' : MS} {q : Nat} {n c : Nat → Int} (h : Corr input m q n c) (e : m'.set = m.set ∧ m'.num = m.num ∧ m'.cells = m.cells ∧ m'.input = m.input ∧ m'.how = m.how ∧ m'.why = m.why ∧ m'.value = m.value) : Corr input m' q n c := by
  obtain ⟨e1, e2, e3, e4, e5, e6, e7⟩ := e
  exact ⟨by rw [e1]; exact h.set, by rw [e2]; exact h.num, by rw [e3]; exact h.cells, by rw [e4]; exact h.input, by rw [e5]; exact h.how, by rw [e6]; exact h.why, by rw [e7]; exact h.value⟩
theorem Corr.setR {input : List UInt8} {m : MS} {q : Nat} {n c : Nat → Int} (h : Corr input m q n c) (r : Nat) (v : Int) : Corr input (m.setR r v) q (upd n r v) c := by
  refine ⟨fun j hj => ?_, fun j hj => ?_, h.cells, h.input, h.how, h.why, h.value⟩
  · simp only [MS.setR]; split; rfl; exact h.set j hj
  · simp only [MS.setR, upd]; split; rfl; exact h.num j hj
theorem Corr.setNew {input : List UInt8} {m : MS} {q : Nat} {n c : Nat → Int} (h : Corr input m q n c) (v : Int) : Corr input (m.setR q v) (q + 1) (upd n q v) c := by
  refine ⟨fun j hj => ?_, fun j hj => ?_, h.cells, h.input, h.how, h.why, h.value⟩
  · simp only [MS.setR]; split; rfl; exact h.set j (by omega)
  · simp only [MS.setR, upd]; split; rfl; exact h.num j (by omega)
theorem Corr.setC {input : List UInt8} {m : MS} {q : Nat} {n c : Nat → Int} (h : Corr input m q n c) (r : Nat) (v : Int) : Corr input (m.setC r v) q n (upd c r v) := by
  refine ⟨h.set, h.num, fun j hj => ?_, h.input, h.how, h.why, h.value⟩
  simp only [MS.setC, upd]; split; rfl; exact h.cells j hj

/-- A line that Straight writes ahead of line k. -/
structure LineS (k : Nat) (x : Ln) : Prop where
  word : ∃ row : Nat, row < 16 ∧ row ≠ 13 ∧ row ≠ 14 ∧ x.word = (row : Int)
  r : ∃ r : Nat, r < 8 ∧ x.r = (r : Int)
  s : ∃ s : Nat, s < 8 ∧ x.s = (s : Int)
  low : -9223372036854775808 ≤ x.n
  high : x.n ≤ 9223372036854775807
  jump : x.word = 15 → 0 ≤ x.n ∧ x.n ≤ (k : Int)
theorem LineS.mono {k k' : Nat} {x : Ln} (h : LineS k x) (hk : k ≤ k') : LineS k' x := ⟨h.word, h.r, h.s, h.low, h.high, fun e => by have := h.jump e; omega⟩

def st0 (input : List UInt8) : MS × List UInt8 := ((MS.start input).setR 0 ((min 64 input.length : Nat) : Int), [])

/-- What is so ahead of line k, q registers having been set. -/
def SInv (input : List UInt8) (q k : Nat) (T : List UInt8) (n c : Nat → Int) (out : List UInt8) : Prop :=
  ∃ (ts : List (List UInt8)) (xs : List Ln) (m : MS), T = joined ts ∧ ts.length = k ∧ xs.length = k ∧ ts.map lineF = xs.map some ∧ (∀ t ∈ ts, 10 ∉ t ∧ t.length ≤ 20) ∧ (∀ x ∈ xs, LineS k x) ∧
    Exec xs (st0 input) (m, out) ∧ m.line = (k : Int) ∧ Corr input m q n c

theorem SInv.start (input : List UInt8) : SInv input 0 0 [] (fun _ => 0) (fun _ => 0) [] :=
  ⟨[], [], (st0 input).1, rfl, rfl, rfl, rfl, by simp, by simp, fun ys f => by simp [st0], rfl, ⟨fun j h => absurd h (by omega), fun j h => absurd h (by omega), fun _ _ => rfl, rfl, rfl, rfl, rfl⟩⟩

/-- What a line does to what is so. -/
def Steps (input : List UInt8) (x : Ln) (q : Nat) (n c : Nat → Int) (out : List UInt8) (q' : Nat) (n' c' : Nat → Int) (out' : List UInt8) : Prop :=
  ∀ m : MS, Corr input m q n c → ∃ m', stepF x.word.toNat x.r.toNat x.s.toNat x.n m out = (m', out') ∧ m'.how = 0 ∧ (m'.next = m.line + 1 ∨ x.word = 15 ∧ m'.next = x.n) ∧ Corr input m' q' n' c'

theorem SInv.add {input : List UInt8} {q k : Nat} {T : List UInt8} {n c : Nat → Int} {out : List UInt8} (h : SInv input q k T n c out) (t : List UInt8) (x : Ln) (ht : lineF t = some x) (h10 : 10 ∉ t) (hl : t.length ≤ 20) (hx : LineS (k + 1) x) (hj : x.word = 15 → x.n = (k : Int) + 1)
    {q' : Nat} {n' c' : Nat → Int} {out' : List UInt8} (hs : Steps input x q n c out q' n' c' out') : SInv input q' (k + 1) (T ++ t ++ [10]) n' c' out' := by
  obtain ⟨ts, xs, m, h1, h2, h3, h4, h5, h6, h7, h8, h9⟩ := h
  obtain ⟨m', e1, e2, e3, e4⟩ := hs m h9
  refine ⟨ts ++ [t], xs ++ [x], { m' with line := m'.next }, by rw [joined_snoc, h1], by simp [h2], by simp [h3], by simp [h4, ht], ?_, ?_, h7.snoc x (by rw [h8, h3]) e1 e2, ?_, e4.same ⟨rfl, rfl, rfl, rfl, rfl, rfl, rfl⟩⟩
  · intro u hu
    rcases List.mem_append.1 hu with hu | hu
    · exact h5 u hu
    · rw [List.mem_singleton.1 hu]; exact ⟨h10, hl⟩
  · intro y hy
    rcases List.mem_append.1 hy with hy | hy
    · exact (h6 y hy).mono (by omega)
    · rw [List.mem_singleton.1 hy]; exact hx
  · show m'.next = _
    rcases e3 with e3 | ⟨e3, e5⟩
    · rw [e3, h8]; rfl
    · rw [e5, hj e3]; rfl

theorem step_of {row r s : Nat} {n : Int} {m : MS} {l l' : List UInt8} {m' : MS} (hu : unsetF row r s { m with next := m.line + 1 } = false) (hd : doF row r s n { m with next := m.line + 1 } l = (0, m', l')) : stepF row r s n m l = (m', l') := by
  unfold stepF
  dsimp only
  rw [hu, hd]
  rfl

/-- A line that sets R, and takes registers below q. -/
theorem steps_setR (input : List UInt8) (row r s : Nat) (x : Int) (q : Nat) (n c : Nat → Int) (out : List UInt8) (v : Int) (hrw : row ≠ 13) (ht : ∀ m : MS, Corr input m q n c → unsetF row r s m = false) (hd : ∀ m : MS, Corr input m q n c → doF row r s x m out = (0, m.setR r v, out)) :
    Steps input ⟨row, r, s, x⟩ q n c out q (upd n r v) c out := fun m hm => by
  have hm1 : Corr input { m with next := m.line + 1 } q n c := hm.same ⟨rfl, rfl, rfl, rfl, rfl, rfl, rfl⟩
  have _u := hrw
  have e := step_of (ht _ hm1) (hd _ hm1)
  exact ⟨({ m with next := m.line + 1 } : MS).setR r v, by simpa using e, hm.how, .inl rfl, hm1.setR r v⟩

theorem unset_RS {input : List UInt8} {m : MS} {q : Nat} {n c : Nat → Int} (h : Corr input m q n c) (row r s : Nat) (hr : r < q) (hs : s < q) : unsetF row r s m = false := by
  unfold unsetF
  rw [h.set r hr, h.set s hs]
  simp
theorem unset_none (row r s : Nat) (m : MS) (h1 : hasB (wTakes row) 82 = false) (h2 : hasB (wTakes row) 83 = false) : unsetF row r s m = false := by
  unfold unsetF; rw [h1, h2]; rfl

theorem steps_set (input : List UInt8) (r : Nat) (x : Int) (q : Nat) (n c : Nat → Int) (out : List UInt8) : Steps input ⟨(0 : Nat), r, (0 : Nat), x⟩ q n c out q (upd n r x) c out :=
  steps_setR input 0 r 0 x q n c out x (by omega) (fun _ _ => unset_none 0 r 0 _ (by decide +kernel) (by decide +kernel)) (fun _ _ => rfl)
theorem steps_new (input : List UInt8) (x : Int) (q : Nat) (n c : Nat → Int) (out : List UInt8) : Steps input ⟨(0 : Nat), q, (0 : Nat), x⟩ q n c out (q + 1) (upd n q x) c out := fun m hm => by
  have hm1 : Corr input { m with next := m.line + 1 } q n c := hm.same ⟨rfl, rfl, rfl, rfl, rfl, rfl, rfl⟩
  exact ⟨_, step_of (unset_none 0 _ 0 _ (by decide +kernel) (by decide +kernel)) rfl, hm.how, .inl rfl, by simpa using hm1.setNew x⟩
theorem steps_mov (input : List UInt8) (r s q : Nat) (hr : r < q) (hs : s < q) (n c : Nat → Int) (out : List UInt8) : Steps input ⟨(1 : Nat), r, s, 0⟩ q n c out q (upd n r (n s)) c out :=
  steps_setR input 1 r s 0 q n c out _ (by omega) (fun _ hm => unset_RS hm 1 r s hr hs) (fun m hm => by rw [← hm.num s hs]; rfl)
theorem steps_add (input : List UInt8) (r s q : Nat) (hr : r < q) (hs : s < q) (n c : Nat → Int) (out : List UInt8) : Steps input ⟨(2 : Nat), r, s, 0⟩ q n c out q (upd n r (wrap64 (n r + n s))) c out :=
  steps_setR input 2 r s 0 q n c out _ (by omega) (fun _ hm => unset_RS hm 2 r s hr hs) (fun m hm => by rw [← hm.num s hs, ← hm.num r hr]; rfl)
theorem steps_sub (input : List UInt8) (r s q : Nat) (hr : r < q) (hs : s < q) (n c : Nat → Int) (out : List UInt8) : Steps input ⟨(3 : Nat), r, s, 0⟩ q n c out q (upd n r (wrap64 (n r - n s))) c out :=
  steps_setR input 3 r s 0 q n c out _ (by omega) (fun _ hm => unset_RS hm 3 r s hr hs) (fun m hm => by rw [← hm.num s hs, ← hm.num r hr]; rfl)
theorem steps_mul (input : List UInt8) (r s q : Nat) (hr : r < q) (hs : s < q) (n c : Nat → Int) (out : List UInt8) : Steps input ⟨(4 : Nat), r, s, 0⟩ q n c out q (upd n r (wrap64 (n r * n s))) c out :=
  steps_setR input 4 r s 0 q n c out _ (by omega) (fun _ hm => unset_RS hm 4 r s hr hs) (fun m hm => by rw [← hm.num s hs, ← hm.num r hr]; rfl)
theorem steps_and (input : List UInt8) (r s q : Nat) (hr : r < q) (hs : s < q) (n c : Nat → Int) (out : List UInt8) : Steps input ⟨(5 : Nat), r, s, 0⟩ q n c out q (upd n r (bits BinOp.and IntKind.i64 (n r) (n s))) c out :=
  steps_setR input 5 r s 0 q n c out _ (by omega) (fun _ hm => unset_RS hm 5 r s hr hs) (fun m hm => by rw [← hm.num s hs, ← hm.num r hr]; rfl)
theorem steps_div (input : List UInt8) (r s q : Nat) (hr : r < q) (hs : s < q) (n c : Nat → Int) (out : List UInt8) (hz : n s ≠ 0) : Steps input ⟨(6 : Nat), r, s, 0⟩ q n c out q (upd n r (wrap64 ((n r).tdiv (n s)))) c out :=
  steps_setR input 6 r s 0 q n c out _ (by omega) (fun _ hm => unset_RS hm 6 r s hr hs) (fun m hm => by
    have e := hm.num s hs
    rw [← hm.num r hr, ← e]
    show (if m.num s = 0 then _ else _) = _
    rw [if_neg (by rw [e]; exact hz)])
theorem steps_in (input : List UInt8) (r s q : Nat) (hr : r < q) (hs : s < q) (n c : Nat → Int) (out : List UInt8) (p : Nat) (hp : p < 64) (hn : n s = (p : Int)) : Steps input ⟨(7 : Nat), r, s, 0⟩ q n c out q (upd n r (inputOf input p : Int)) c out :=
  steps_setR input 7 r s 0 q n c out _ (by omega) (fun _ hm => unset_RS hm 7 r s hr hs) (fun m hm => by
    have e := (hm.num s hs).trans hn
    show (if 0 ≤ m.num s ∧ m.num s < 64 then _ else _) = _
    rw [if_pos (by rw [e]; omega), e, hm.input]
    simp)
theorem steps_get (input : List UInt8) (r s q : Nat) (hr : r < q) (hs : s < q) (n c : Nat → Int) (out : List UInt8) (p : Nat) (hp : p < 16) (hn : n s = (p : Int)) : Steps input ⟨(8 : Nat), r, s, 0⟩ q n c out q (upd n r (c p)) c out :=
  steps_setR input 8 r s 0 q n c out _ (by omega) (fun _ hm => unset_RS hm 8 r s hr hs) (fun m hm => by
    have e := (hm.num s hs).trans hn
    show (if 0 ≤ m.num s ∧ m.num s < 16 then _ else _) = _
    rw [if_pos (by rw [e]; omega), e, Int.toNat_natCast, hm.cells p hp])
theorem steps_put (input : List UInt8) (r s q : Nat) (hr : r < q) (hs : s < q) (n c : Nat → Int) (out : List UInt8) (p : Nat) (hp : p < 16) (hn : n r = (p : Int)) : Steps input ⟨(9 : Nat), r, s, 0⟩ q n c out q n (upd c p (n s)) out := fun m hm => by
  have hm1 : Corr input { m with next := m.line + 1 } q n c := hm.same ⟨rfl, rfl, rfl, rfl, rfl, rfl, rfl⟩
  have e := (hm.num r hr).trans hn
  refine ⟨({ m with next := m.line + 1 } : MS).setC p (n s), step_of (by simpa using unset_RS hm1 9 r s hr hs) ?_, hm.how, .inl rfl, hm1.setC p (n s)⟩
  show (if 0 ≤ m.num r ∧ m.num r < 16 then _ else _) = _
  rw [if_pos (by rw [e]; omega), ← hm.num s hs]
  simp [e]
theorem steps_out (input : List UInt8) (r q : Nat) (hr : r < q) (h0 : 0 < q) (n c : Nat → Int) (out : List UInt8) : Steps input ⟨(12 : Nat), r, (0 : Nat), 0⟩ q n c out q n c (putF out (n r)) := fun m hm => by
  have hm1 : Corr input { m with next := m.line + 1 } q n c := hm.same ⟨rfl, rfl, rfl, rfl, rfl, rfl, rfl⟩
  refine ⟨_, step_of (m' := { m with next := m.line + 1 }) (by simpa using unset_RS hm1 12 r 0 hr h0) ?_, hm.how, .inl rfl, hm1⟩
  rw [← hm.num r hr]; rfl
theorem steps_jeq (input : List UInt8) (r s q : Nat) (hr : r < q) (hs : s < q) (n c : Nat → Int) (out : List UInt8) (L : Nat) : Steps input ⟨(15 : Nat), r, s, L⟩ q n c out q n c out := fun m hm => by
  have hm1 : Corr input { m with next := m.line + 1 } q n c := hm.same ⟨rfl, rfl, rfl, rfl, rfl, rfl, rfl⟩
  have hu := unset_RS hm1 15 r s hr hs
  by_cases e : m.num r = m.num s
  · refine ⟨{ m with next := (L : Int) }, step_of (by simpa using hu) ?_, hm.how, .inr ⟨rfl, rfl⟩, hm.same ⟨rfl, rfl, rfl, rfl, rfl, rfl, rfl⟩⟩
    show (_, (if m.num r = m.num s then _ else _), _) = _
    rw [if_pos e]
  · refine ⟨{ m with next := m.line + 1 }, step_of (by simpa using hu) ?_, hm.how, .inl rfl, hm1⟩
    show (_, (if m.num r = m.num s then _ else _), _) = _
    rw [if_neg e]

end Go.Proofs.YtngopilbpiplhaaGreatDoor

namespace Go.Proofs.YtngopilbpiplhaaGreatDoor
open Go.RowKit

theorem filterMap_of_map {ts : List (List UInt8)} : ∀ {xs : List Ln}, ts.map lineF = xs.map some → linesF ts = xs := by
  induction ts with
  | nil => intro xs h; cases xs with | nil => rfl | cons x xs => simp at h
  | cons t ts ih =>
    intro xs h
    cases xs with
    | nil => simp at h
    | cons x xs =>
      simp at h
      unfold linesF at ih ⊢
      simp [h.1, ih (by simpa using h.2)]
theorem some_of_map {ts : List (List UInt8)} : ∀ {xs : List Ln}, ts.map lineF = xs.map some → ∀ t ∈ ts, (lineF t).isSome = true := by
  intro xs h t ht
  have : lineF t ∈ xs.map some := by rw [← h]; exact List.mem_map_of_mem ht
  obtain ⟨x, _, e⟩ := List.mem_map.1 this
  rw [← e]; rfl
theorem joined_len (ts : List (List UInt8)) (h : ∀ t ∈ ts, t.length ≤ 20) : (joined ts).length ≤ 21 * ts.length := by
  induction ts with
  | nil => simp [joined]
  | cons t ts ih =>
    have h1 := h t (by simp)
    have h2 := ih (fun u hu => h u (by simp [hu]))
    have e : joined (t :: ts) = t ++ [10] ++ joined ts := by simp [joined]
    rw [e]
    simp only [List.length_append, List.length_cons, List.length_nil]
    omega
theorem no_jump (row : Nat) (h : row < 17) (h1 : row ≠ 13) (h2 : row ≠ 14) (h3 : row ≠ 15) : hasB (wParts row) 76 = false := by
  match row, h with
  | 0, _ => decide +kernel
  | 1, _ => decide +kernel
  | 2, _ => decide +kernel
  | 3, _ => decide +kernel
  | 4, _ => decide +kernel
  | 5, _ => decide +kernel
  | 6, _ => decide +kernel
  | 7, _ => decide +kernel
  | 8, _ => decide +kernel
  | 9, _ => decide +kernel
  | 10, _ => decide +kernel
  | 11, _ => decide +kernel
  | 12, _ => decide +kernel
  | 13, _ => exact absurd rfl h1
  | 14, _ => exact absurd rfl h2
  | 15, _ => exact absurd rfl h3
  | 16, _ => decide +kernel
  | n + 17, h => exact absurd h (by omega)

/-- The last line. -/
def endT : List UInt8 := wName 16 ++ 32 :: reg 0
def endL : Ln := ⟨(16 : Nat), (0 : Nat), (0 : Nat), 0⟩

structure Fin (input : List UInt8) (k : Nat) (l : List UInt8) (n : Nat → Int) (out : List UInt8) : Prop where
  good : Good l
  ok : ∀ j (h : j < (progF l).length), LineOk (progF l).length j (progF l)[j]
  len : (progF l).length = k + 1
  short : l.length ≤ 8000
  run : ∃ m', runOf (progF l) input 3000 = (m', out) ∧ m'.how = 1 ∧ m'.why = 0 ∧ m'.line = (k : Int) ∧ m'.value = n 0 ∧ ∀ j, j < 8 → m'.set j = true ∧ m'.num j = n j

theorem SInv.fin {input : List UInt8} {k : Nat} {T : List UInt8} {n c : Nat → Int} {out : List UInt8} (h : SInv input 8 k T n c out) (hk : k ≤ 90) : Fin input k (T ++ endT) n out := by
  obtain ⟨ts, xs, m, h1, h2, h3, h4, h5, h6, h7, h8, h9⟩ := h
  have he : lineF endT = some endL := lineF_R w16 0 (by omega)
  have he10 : 10 ∉ endT := by decide +kernel
  have hcut : cutAt 10 (T ++ endT) = ts ++ [endT] := by rw [h1]; exact cutAt_joined endT he10 ts (fun t ht => (h5 t ht).1)
  have hmap : (ts ++ [endT]).map lineF = (xs ++ [endL]).map some := by simp [h4, he]
  have hprog : progF (T ++ endT) = xs ++ [endL] := by unfold progF; rw [hcut]; exact filterMap_of_map hmap
  have hlen : (progF (T ++ endT)).length = k + 1 := by rw [hprog]; simp [h3]
  have hT := joined_len ts (fun t ht => (h5 t ht).2)
  have hel : endT.length = 6 := by decide +kernel
  have hsh : (T ++ endT).length ≤ 8000 := by rw [List.length_append, hel, h1]; omega
  have hcnt : (T ++ endT).count 10 = k := by
    have := cutAt_count 10 (T ++ endT)
    have h' : (ts ++ [endT]).length = k + 1 := by simp [h2]
    rw [hcut, h'] at this
    omega
  have hlong : longF (T ++ endT) = false := by
    unfold longF
    rw [hcnt]
    simp
    constructor
    · have := hsh; rw [List.length_append] at this; omega
    · omega
  have hlx : ∀ x ∈ xs, LineS k x := h6
  refine ⟨⟨hlong, ?_, ?_, ?_⟩, ?_, hlen, hsh, ?_⟩
  · rw [hcut]; exact some_of_map hmap
  · rw [hprog]
    intro x hx
    rcases List.mem_append.1 hx with hx | hx
    · have hs := h6 x hx
      obtain ⟨row, hr, h13, h14, hw⟩ := hs.word
      unfold isLost
      rw [hw, Int.toNat_natCast]
      by_cases e : row = 15
      · have := hs.jump (by rw [hw, e]; rfl)
        simp [h3]; intro _; omega
      · rw [no_jump row (by omega) h13 h14 e]; rfl
    · rw [List.mem_singleton.1 hx]
      unfold isLost endL
      rw [Int.toNat_natCast, no_jump 16 (by omega) (by omega) (by omega) (by omega)]; rfl
  · rw [hprog]
    intro x hx
    rw [show (xs ++ [endL]).length - 1 = xs.length by simp, List.getElem?_append_right (Nat.le_refl _)] at hx
    simp at hx
    rw [← hx]; rfl
  · rw [hprog]
    intro j hj
    have hl1 : (xs ++ [endL]).length = k + 1 := by simp [h3]
    by_cases e : j < xs.length
    · have hg : (xs ++ [endL])[j] = xs[j] := List.getElem_append_left e
      rw [hg, hl1]
      have hs := h6 xs[j] (List.getElem_mem e)
      obtain ⟨row, hr, h13, h14, hw⟩ := hs.word
      refine ⟨⟨row, by omega, hw⟩, hs.r, hs.s, hs.low, hs.high, fun _ => by omega, fun q1 q2 => ?_⟩
      rw [hw, Int.toNat_natCast] at q1 q2
      have := hs.jump (by rw [hw]; omega)
      omega
    · have hje : j = xs.length := by omega
      subst hje
      have hg : (xs ++ [endL])[xs.length] = endL := by simp
      rw [hg]
      refine ⟨⟨16, by omega, rfl⟩, ⟨0, by omega, rfl⟩, ⟨0, by omega, rfl⟩, by show (-9223372036854775808 : Int) ≤ 0; omega, by show (0 : Int) ≤ 9223372036854775807; omega, fun q => (by cases q), fun _ q => absurd q (by decide)⟩
  · rw [hprog]
    have e1 := h7 [endL] (3000 - k)
    rw [h3, show k + (3000 - k) = 3000 by omega] at e1
    have e2 : runOf (xs ++ [endL]) input 3000 = runF (xs ++ [endL]) (3000 - k) (m, out) := e1
    rw [e2, show 3000 - k = (2999 - k) + 1 by omega]
    unfold runF
    have hg : (xs ++ [endL])[m.line.toNat]? = some endL := by rw [h8]; simp [← h3]
    rw [hg]
    dsimp only
    have hm1 : Corr input { m with next := m.line + 1 } 8 n c := h9.same ⟨rfl, rfl, rfl, rfl, rfl, rfl, rfl⟩
    have hst : stepF endL.word.toNat endL.r.toNat endL.s.toNat endL.n m out = ({ m with next := m.line + 1, how := 1, value := m.num 0 }, out) :=
      step_of (row := 16) (r := 0) (s := 0) (unset_RS hm1 16 0 0 (by omega) (by omega)) rfl
    rw [hst]
    dsimp only
    rw [if_pos (by decide)]
    refine ⟨_, rfl, rfl, h9.why, h8, h9.num 0 (by omega), fun j hj => ⟨h9.set j hj, h9.num j hj⟩⟩

end Go.Proofs.YtngopilbpiplhaaGreatDoor

namespace Go.Proofs.YtngopilbpiplhaaGreatDoor
open Go.RowKit

def awT : List UInt8 := [115, 101, 116, 32, 114, 49, 32, 53, 10, 97, 100, 100, 32, 114, 49, 32, 114, 48, 10, 105, 110, 32, 114, 50, 32, 114, 49, 10, 101, 110, 100, 32, 114, 50]
def awX : List Ln := [⟨0, 1, 0, 5⟩, ⟨2, 1, 0, 0⟩, ⟨7, 2, 1, 0⟩, ⟨16, 2, 0, 0⟩]
def awI : List UInt8 := [97, 98, 99]

theorem aw_prog : progF awT = awX := by kernel_rfl
theorem aw_good : Good awT := by
  refine ⟨by decide +kernel, by decide +kernel, ?_, ?_⟩
  · rw [aw_prog]
    intro x hx
    simp [awX] at hx
    rcases hx with rfl | rfl | rfl | rfl <;> decide +kernel
  · rw [aw_prog]
    intro x hx
    have : x = ⟨16, 2, 0, 0⟩ := by simpa [awX] using hx.symm
    rw [this]; rfl
theorem aw_ok : ∀ k (h : k < (progF awT).length), LineOk (progF awT).length k (progF awT)[k] := by
  rw [aw_prog]
  intro k h
  match k, h with
  | 0, _ =>
    show LineOk 4 0 ⟨0, 1, 0, 5⟩
    exact ⟨⟨0, by omega, rfl⟩, ⟨1, by omega, rfl⟩, ⟨0, by omega, rfl⟩, by decide, by decide, fun _ => by decide, fun q => absurd q (by decide)⟩
  | 1, _ =>
    show LineOk 4 1 ⟨2, 1, 0, 0⟩
    exact ⟨⟨2, by omega, rfl⟩, ⟨1, by omega, rfl⟩, ⟨0, by omega, rfl⟩, by decide, by decide, fun _ => by decide, fun q => absurd q (by decide)⟩
  | 2, _ =>
    show LineOk 4 2 ⟨7, 2, 1, 0⟩
    exact ⟨⟨7, by omega, rfl⟩, ⟨2, by omega, rfl⟩, ⟨1, by omega, rfl⟩, by decide, by decide, fun _ => by decide, fun q => absurd q (by decide)⟩
  | 3, _ =>
    show LineOk 4 3 ⟨16, 2, 0, 0⟩
    exact ⟨⟨16, by omega, rfl⟩, ⟨2, by omega, rfl⟩, ⟨0, by omega, rfl⟩, by decide, by decide, fun q => absurd q (by decide), fun _ q => absurd q (by decide)⟩
theorem aw_how : (runOf (progF awT) awI 9).1.how = 1 := by rw [aw_prog]; kernel_rfl
theorem aw_line : (runOf (progF awT) awI 9).1.line = 3 := by rw [aw_prog]; kernel_rfl
theorem aw_set : (runOf (progF awT) awI 9).1.set 1 = true := by rw [aw_prog]; kernel_rfl
theorem aw_num : (runOf (progF awT) awI 9).1.num 1 = 8 := by rw [aw_prog]; kernel_rfl

theorem st_cell (m : MS) (l : List UInt8) : (stCells m l)[0]? = some (.int .i64 m.how) ∧ (stCells m l)[1]? = some (.int .i64 m.line) ∧ (stCells m l)[6]? = some (.bool (m.set 1)) ∧ (stCells m l)[7]? = some (.int .i64 (m.num 1)) := ⟨rfl, rfl, rfl, rfl⟩

set_option maxRecDepth 100000 in
set_option maxHeartbeats 4000000 in
theorem awake_any (w : World) (hg : Glob w) (hp : PowT w) :
    Calls Tryz.prog 11 #[] w fun e w' => e = .returned (.bool true) ∧ Below w.heap.size w w' := by
  have HR := hide (wRun_any awT awI 9 w (by decide) (by decide) aw_good aw_ok (by rw [aw_prog]; decide) (by rw [aw_prog]; decide) hg hp)
  go_enter Tryz.func11, Tryz.ntmps11
  go_wp2_with fail
  refine HR.out.mono ?_
  rintro e w1 ⟨rfl, hb1⟩
  have h4 := st_cell (runOf (progF awT) awI 9).1 (runOf (progF awT) awI 9).2
  rw [aw_how, aw_line, aw_set, aw_num] at h4
  have hone := st_one (runOf (progF awT) awI 9).1 (runOf (progF awT) awI 9).2
  have hsz : (stCells (runOf (progF awT) awI 9).1 (runOf (progF awT) awI 9).2).size = 21 := rfl
  generalize stCells (runOf (progF awT) awI 9).1 (runOf (progF awT) awI 9).2 = SC at *
  have HS := hide hsz
  clear hsz
  have c0 : ∀ zs : Array Value, ((w1.alloc (.cells zs 32)).setRow w1.heap.size SC).cell? ⟨w1.heap.size, 0, none⟩ = some (.int .i64 1) := fun zs => (cell_of_blk (setRow_heap _ _ _ _ _ _ (blk_new w1 _)) 0).trans h4.1
  have c1 : ∀ zs : Array Value, ((w1.alloc (.cells zs 32)).setRow w1.heap.size SC).cell? ⟨w1.heap.size, 1, none⟩ = some (.int .i64 3) := fun zs => (cell_of_blk (setRow_heap _ _ _ _ _ _ (blk_new w1 _)) 1).trans h4.2.1
  have c6 : ∀ zs : Array Value, ((w1.alloc (.cells zs 32)).setRow w1.heap.size SC).cell? ⟨w1.heap.size, 6, none⟩ = some (.bool true) := fun zs => (cell_of_blk (setRow_heap _ _ _ _ _ _ (blk_new w1 _)) 6).trans h4.2.2.1
  have c7 : ∀ zs : Array Value, ((w1.alloc (.cells zs 32)).setRow w1.heap.size SC).cell? ⟨w1.heap.size, 7, none⟩ = some (.int .i64 8) := fun zs => (cell_of_blk (setRow_heap _ _ _ _ _ _ (blk_new w1 _)) 7).trans h4.2.2.2
  clear h4
  go_wp2_with (refine wpList_plain rfl fun _ hK => wp_store_row 32 (.tmp 1) (.tmp 6) rfl w1.heap.size SC rfl rfl _ _ (blk_new w1 _) (by rw [HS.out]; kernel_rfl) HS.out.symm hone (hK _ _ ?_))
  go_ret
  exact ⟨rfl, hb1.trans (((Below.refl _ _).alloc hb1.size _).trans ((keep_setRow w.heap.size w1.heap.size _ _).below hb1.size))⟩

end Go.Proofs.YtngopilbpiplhaaGreatDoor

namespace Go.Proofs.YtngopilbpiplhaaGreatDoor
open Go.RowKit

/-- The cells of an array of numbers. -/
def arrC (k : Nat) (n : Nat → Int) : Array Value := ((List.range k).map fun i => Value.int .i64 (n i)).toArray
theorem arrC_get (k : Nat) (n : Nat → Int) {i : Nat} (h : i < k) : (arrC k n)[i]? = some (.int .i64 (n i)) := by simp [arrC, h]
theorem arrC_set (k : Nat) (n : Nat → Int) (i : Nat) (v : Int) : (arrC k n).setIfInBounds i (.int .i64 v) = arrC k (upd n i v) := by
  apply Array.ext_getElem?
  intro j
  rw [Array.getElem?_setIfInBounds]
  by_cases h1 : j < k
  · rw [arrC_get k n h1, arrC_get k _ h1]
    by_cases h2 : i = j
    · subst h2; simp [arrC, h1, upd]
    · rw [if_neg h2]; simp only [upd]; rw [if_neg (fun e => h2 e.symm)]
  · have a1 : (arrC k n)[j]? = none := Array.getElem?_eq_none (by simp [arrC]; omega)
    have a2 : (arrC k (upd n i v))[j]? = none := Array.getElem?_eq_none (by simp [arrC]; omega)
    rw [a1, a2]
    by_cases h2 : i = j
    · subst h2; simp [arrC]; omega
    · rw [if_neg h2]

/-- The raw number at a place. -/
def rawAt (raw : List Int) (j : Nat) : Int := raw.getD j 0
/-- What register r is set to first. -/
def firstX (raw : List Int) (r : Nat) : Int := if r < raw.length then pickF (rawAt raw r) 2000001 - 1000000 else 0

theorem set_no10 (r : Nat) (x : Int) (hr : r < 8) : 10 ∉ wName 0 ++ 32 :: (reg r ++ 32 :: Lib.itoa x) := by
  intro h
  simp only [List.mem_append, List.mem_cons] at h
  rcases h with h | h | h | h | h
  · exact absurd h (by decide +kernel)
  · cases h
  · exact (reg_plain r hr).2.1 h
  · cases h
  · exact (itoa_mem x _ h).2 rfl
theorem itoa_short (x : Int) (h0 : -1000000000 ≤ x) (h1 : x ≤ 1000000000) : (Lib.itoa x).length ≤ 11 := by
  rcases Int.lt_trichotomy x 0 with h | h | h
  · obtain ⟨u, rfl⟩ : ∃ u : Nat, x = -(u : Int) := ⟨x.natAbs, by omega⟩
    rw [itoa_neg u (by omega)]
    have := dd_len 10 u (by have : (10 : Nat) ^ 10 = 10000000000 := rfl; omega)
    simp; omega
  · subst h; decide +kernel
  · obtain ⟨u, rfl⟩ : ∃ u : Nat, x = (u : Int) := ⟨x.natAbs, by omega⟩
    rw [itoa_pos u (by omega)]
    have := dd_len 10 u (by have : (10 : Nat) ^ 10 = 10000000000 := rfl; omega)
    omega
theorem set_len (r : Nat) (x : Int) (hr : r < 8) (h0 : -1000000000 ≤ x) (h1 : x ≤ 1000000000) : (wName 0 ++ 32 :: (reg r ++ 32 :: Lib.itoa x)).length ≤ 20 := by
  have a := (reg_plain r hr).2.2
  have b := itoa_short x h0 h1
  have c : (wName 0).length = 3 := rfl
  simp only [List.length_append, List.length_cons]
  omega
theorem lineS_set (r : Nat) (x : Int) (k : Nat) (hr : r < 8) (h0 : -1000000000 ≤ x) (h1 : x ≤ 1000000000) : LineS k ⟨(0 : Nat), r, (0 : Nat), x⟩ :=
  ⟨⟨0, by omega, by omega, by omega, rfl⟩, ⟨r, hr, rfl⟩, ⟨0, by omega, rfl⟩, by show (-9223372036854775808 : Int) ≤ x; omega, by show x ≤ 9223372036854775807; omega, fun h => absurd h (by show ((0 : Nat) : Int) ≠ 15; decide)⟩
theorem SInv.len {input : List UInt8} {q k : Nat} {T : List UInt8} {n c : Nat → Int} {out : List UInt8} (h : SInv input q k T n c out) : T.length ≤ 21 * k := by
  obtain ⟨ts, xs, m, h1, h2, _, _, h5, _⟩ := h
  rw [h1, ← h2]
  exact joined_len ts (fun t ht => (h5 t ht).2)

/-- Each is a number of 64 bits. -/
def Rng (n : Nat → Int) : Prop := ∀ j, -9223372036854775808 ≤ n j ∧ n j ≤ 9223372036854775807
theorem Rng.upd {n : Nat → Int} (h : Rng n) (r : Nat) {v : Int} (h0 : -9223372036854775808 ≤ v) (h1 : v ≤ 9223372036854775807) : Rng (upd n r v) := fun j => by
  unfold Go.Proofs.YtngopilbpiplhaaGreatDoor.upd; split; exact ⟨h0, h1⟩; exact h j

theorem rng0 : Rng (fun _ => 0) := fun _ => by show (-9223372036854775808 : Int) ≤ 0 ∧ (0 : Int) ≤ 9223372036854775807; omega
theorem pick_nat (x : Int) (p : Nat) (hp : 0 < p) : ∃ a : Nat, a < p ∧ pickF x (p : Int) = (a : Int) := by
  have := pickF_lt x (p : Int) (by omega)
  exact ⟨(pickF x (p : Int)).toNat, by omega, by omega⟩

theorem wpList_storeN {ops : Array Oper} {rest : List Oper} {o : Oper} {a : Act} {w : World} {Q : Exit → Act → World → Prop} (hgd : o.guard = none) (x y : Operand) (ho : o.op = .store 2 x y) (g k j : Nat) (n : Nat → Int) (t : TypeId) (v : Int)
    (hx : a.eval x = .pointer (some ⟨g, j, none⟩)) (hy : a.eval y = .int .i64 v) (hg : w.heap[g]? = some (.cells (arrC k n) t)) (hj : j < k)
    (h : ∀ w', w'.heap[g]? = some (.cells (arrC k (upd n j v)) t) → (∀ B, Keep B g w w') → w'.heap.size = w.heap.size → wpList Tryz.prog ops Q rest (a.put o.dst undef) w') : wpList Tryz.prog ops Q (o :: rest) a w := by
  refine wpList_plain hgd fun _ hK => ?_
  have hc := (cell_of_blk hg j).trans (arrC_get k n hj)
  have hf := frozen_of_blk hg j
  have hb := blk_setCell hg j (.int .i64 v)
  rw [arrC_set] at hb
  have h' := h (w.setCell ⟨g, j, none⟩ (.int .i64 v)) hb (fun B => (Keep.refl B g w).setCell (p := ⟨g, j, none⟩) (.inr rfl) _) (World.size_setCell ..)
  unfold Oper.wp execOp
  simp only [ho, hx, hy, Instr.storeAt, Instr.sureAddr, Sem.run_bind, Sem.run_pure, Result.andThen_ok]
  clear h hb
  have hrun : (storeVar 2 ⟨g, j, none⟩ (.int .i64 v)).run Tryz.prog w = .ok () (w.setCell ⟨g, j, none⟩ (.int .i64 v)) := by go_simp
  rw [hrun]
  exact hK _ _ h'

theorem wrap_eq (x : Int) : IntKind.i64.wrap x = wrap64 x := by rw [IntKind.wrap_i64]; unfold wrap64; rfl
/-- What the world holds while the lines are written. -/
structure SW (raw : List Int) (rb ro : Nat) (w1 w : World) (n c : Nat → Int) : Prop where
  N : w.heap[w1.heap.size]? = some (.cells (arrC 8 n) 24)
  C : w.heap[w1.heap.size + 1]? = some (.cells (arrC 16 c) 25)
  B : Below w1.heap.size w1 w
  raw : ∀ j, j < raw.length → w.cell? ⟨rb, ro + j, none⟩ = some (.int .i64 (rawAt raw j))
  rb : rb < w1.heap.size
theorem SW.below {raw : List Int} {rb ro : Nat} {w1 w w' : World} {n c : Nat → Int} (h : SW raw rb ro w1 w n c) (hb : Below w.heap.size w w') : SW raw rb ro w1 w' n c :=
  ⟨(hb.block _ (blk_lt h.N)).trans h.N, (hb.block _ (blk_lt h.C)).trans h.C, h.B.trans (hb.mono h.B.size), fun j hj => (hb.cell (p := ⟨rb, ro + j, none⟩) (by show rb < _; have := h.rb; have := h.B.size; omega)).trans (h.raw j hj), h.rb⟩
theorem SW.setN {raw : List Int} {rb ro : Nat} {w1 w w' : World} {n c n' : Nat → Int} (h : SW raw rb ro w1 w n c) (hN : w'.heap[w1.heap.size]? = some (.cells (arrC 8 n') 24)) (hk : ∀ B, Keep B w1.heap.size w w') : SW raw rb ro w1 w' n' c :=
  ⟨hN, ((hk (w1.heap.size + 2)).block _ (by omega) (by omega)).trans h.C, h.B.trans ((hk w1.heap.size).below (Nat.le_refl _)), fun j hj => ((hk w1.heap.size).cell (p := ⟨rb, ro + j, none⟩) h.rb (by show rb ≠ _; have := h.rb; omega)).trans (h.raw j hj), h.rb⟩
theorem SW.setC {raw : List Int} {rb ro : Nat} {w1 w w' : World} {n c c' : Nat → Int} (h : SW raw rb ro w1 w n c) (hC : w'.heap[w1.heap.size + 1]? = some (.cells (arrC 16 c') 25)) (hk : ∀ B, Keep B (w1.heap.size + 1) w w') : SW raw rb ro w1 w' n c' :=
  ⟨((hk (w1.heap.size + 1)).block _ (by omega) (by omega)).trans h.N, hC, h.B.trans ((hk w1.heap.size).below (by omega)), fun j hj => ((hk w1.heap.size).cell (p := ⟨rb, ro + j, none⟩) h.rb (by show rb ≠ _; have := h.rb; omega)).trans (h.raw j hj), h.rb⟩
theorem SW.drew {raw : List Int} {rb ro : Nat} {w1 w : World} {n c : Nat → Int} (h : SW raw rb ro w1 w n c) : SW raw rb ro w1 w.drew n c := h.below (Below.refl _ _).drew
theorem SW.n {raw : List Int} {rb ro : Nat} {w1 w : World} {n c : Nat → Int} (h : SW raw rb ro w1 w n c) (j : Nat) (hj : j < 8) : w.cell? ⟨w1.heap.size, j, none⟩ = some (.int .i64 (n j)) := (cell_of_blk h.N j).trans (arrC_get 8 n hj)
theorem SW.c {raw : List Int} {rb ro : Nat} {w1 w : World} {n c : Nat → Int} (h : SW raw rb ro w1 w n c) (j : Nat) (hj : j < 16) : w.cell? ⟨w1.heap.size + 1, j, none⟩ = some (.int .i64 (c j)) := (cell_of_blk h.C j).trans (arrC_get 16 c hj)

/-- Lines of two registers. -/
theorem RS_no10 (row a b : Nat) (hn : 10 ∉ wName row) (ha : a < 8) (hb : b < 8) : 10 ∉ wName row ++ 32 :: (reg a ++ 32 :: reg b) := by
  intro h
  simp only [List.mem_append, List.mem_cons] at h
  rcases h with h | h | h | h | h
  · exact hn h
  · cases h
  · exact (reg_plain a ha).2.1 h
  · cases h
  · exact (reg_plain b hb).2.1 h
theorem RS_len (row a b : Nat) (hn : (wName row).length ≤ 3) (ha : a < 8) (hb : b < 8) : (wName row ++ 32 :: (reg a ++ 32 :: reg b)).length ≤ 20 := by
  have h1 := (reg_plain a ha).2.2
  have h2 := (reg_plain b hb).2.2
  simp only [List.length_append, List.length_cons]
  omega
theorem lineS_RS (row a b k : Nat) (h : row < 13) (ha : a < 8) (hb : b < 8) : LineS k ⟨row, a, b, 0⟩ :=
  ⟨⟨row, by omega, by omega, by omega, rfl⟩, ⟨a, ha, rfl⟩, ⟨b, hb, rfl⟩, by show (-9223372036854775808 : Int) ≤ 0; omega, by show (0 : Int) ≤ 9223372036854775807; omega, fun e => absurd e (by show (row : Int) ≠ 15; omega)⟩
/-- One line of two registers more. -/
theorem SInv.addRS {input : List UInt8} {k : Nat} {T : List UInt8} {n c : Nat → Int} {out : List UInt8} (h : SInv input 8 k T n c out) (row a b : Nat) (hrow : row < 13) (hw : WordOk row [82, 83]) (hn : 10 ∉ wName row) (hl : (wName row).length ≤ 3) (ha : a < 8) (hb : b < 8) {n' c' : Nat → Int}
    (hs : Steps input ⟨row, a, b, 0⟩ 8 n c out 8 n' c' out) : SInv input 8 (k + 1) (T ++ (wName row ++ 32 :: (reg a ++ 32 :: reg b)) ++ [10]) n' c' out :=
  h.add _ _ (lineF_RS hw a b ha hb) (RS_no10 row a b hn ha hb) (RS_len row a b hl ha hb) (lineS_RS row a b _ hrow ha hb) (fun e => absurd e (by show (row : Int) ≠ 15; omega)) hs

theorem wrap_in (input : List UInt8) (p : Nat) (h : p < (⟨input.toArray⟩ : ByteArray).size) : wrap64 (((⟨input.toArray⟩ : ByteArray)[p].toNat : Nat) : Int) = (inputOf input p : Int) := by
  have h' : p < input.length := by simpa [ByteArray.size] using h
  have e : (⟨input.toArray⟩ : ByteArray)[p] = input[p] := rfl
  have e2 : inputOf input p = input[p].toNat := by simp [inputOf, List.getD_eq_getElem?_getD, h']
  rw [e, e2]
  have := input[p].toNat_lt
  unfold wrap64; omega
theorem inputOf_range (input : List UInt8) (p : Nat) : (-9223372036854775808 : Int) ≤ (inputOf input p : Int) ∧ (inputOf input p : Int) ≤ 9223372036854775807 := by
  have := (input.getD p 0).toNat_lt
  unfold inputOf; omega
theorem reg7 : reg 7 = [114, 55] := by decide +kernel
theorem itoa7m : Lib.itoa (-7) = [45, 55] := by decide +kernel
theorem upd_upd (n : Nat → Int) (a : Nat) (x y : Int) : upd (upd n a x) a y = upd n a y := by
  funext k; unfold upd; split <;> rfl
theorem upd_at (n : Nat → Int) (a : Nat) (x : Int) : upd n a x a = x := by simp [upd]
theorem upd_off (n : Nat → Int) {a b : Nat} (h : b ≠ a) (x : Int) : upd n a x b = n b := by simp [upd, h]
/-- One line more that sets a register to a number. -/
theorem SInv.addSet {input : List UInt8} {k : Nat} {T : List UInt8} {n c : Nat → Int} {out : List UInt8} (h : SInv input 8 k T n c out) (r : Nat) (x : Int) (hr : r < 8) (h0 : -1000000000 ≤ x) (h1 : x ≤ 1000000000) :
    SInv input 8 (k + 1) (T ++ (wName 0 ++ 32 :: (reg r ++ 32 :: Lib.itoa x)) ++ [10]) (upd n r x) c out :=
  h.add _ _ (lineF_Rn w0 r x hr h0 h1) (set_no10 r x hr) (set_len r x hr h0 h1) (lineS_set r x _ hr h0 h1) (fun e => absurd e (by show ((0 : Nat) : Int) ≠ 15; decide)) (steps_set input r x 8 n c out)
/-- One line more that writes a register out. -/
theorem SInv.addOut {input : List UInt8} {k : Nat} {T : List UInt8} {n c : Nat → Int} {out : List UInt8} (h : SInv input 8 k T n c out) (r : Nat) (hr : r < 8) :
    SInv input 8 (k + 1) (T ++ (wName 12 ++ 32 :: reg r) ++ [10]) n c (putF out (n r)) :=
  h.add _ _ (lineF_R w12 r hr) (by
      intro e
      simp only [List.mem_append, List.mem_cons] at e
      rcases e with e | e | e
      · exact absurd e (by decide +kernel)
      · cases e
      · exact (reg_plain r hr).2.1 e) (by
      have a := (reg_plain r hr).2.2
      have b : (wName 12).length = 3 := rfl
      simp only [List.length_append, List.length_cons]; omega)
    ⟨⟨12, by omega, by omega, by omega, rfl⟩, ⟨r, hr, rfl⟩, ⟨0, by omega, rfl⟩, by show (-9223372036854775808 : Int) ≤ 0; omega, by show (0 : Int) ≤ 9223372036854775807; omega, fun e => absurd e (by show ((12 : Nat) : Int) ≠ 15; decide)⟩
    (fun e => absurd e (by show ((12 : Nat) : Int) ≠ 15; decide)) (steps_out input r 8 hr (by omega) n c out)
/-- One line more that jumps to the next one or goes on to it. -/
theorem SInv.addJeq {input : List UInt8} {k : Nat} {T : List UInt8} {n c : Nat → Int} {out : List UInt8} (h : SInv input 8 k T n c out) (a b : Nat) (ha : a < 8) (hb : b < 8) (hk : k < 500) :
    SInv input 8 (k + 1) (T ++ (wName 15 ++ 32 :: (reg a ++ 32 :: (reg b ++ 32 :: Lib.itoa ((k + 1 : Nat) : Int)))) ++ [10]) n c out :=
  h.add _ _ (lineF_RSL w15 a b (k + 1) ha hb (by omega)) (by
      intro e
      simp only [List.mem_append, List.mem_cons] at e
      rcases e with e | e | e | e | e | e | e
      · exact absurd e (by decide +kernel)
      · cases e
      · exact (reg_plain a ha).2.1 e
      · cases e
      · exact (reg_plain b hb).2.1 e
      · cases e
      · exact (itoa_mem _ _ e).2 rfl) (by
      have h1 := (reg_plain a ha).2.2
      have h2 := (reg_plain b hb).2.2
      have h3 : (wName 15).length = 3 := rfl
      have h4 := dd_len 3 (k + 1) (by have : (10 : Nat) ^ 3 = 1000 := rfl; omega)
      rw [itoa_pos (k + 1) (by omega)]
      simp only [List.length_append, List.length_cons]; omega)
    ⟨⟨15, by omega, by omega, by omega, rfl⟩, ⟨a, ha, rfl⟩, ⟨b, hb, rfl⟩, by show (-9223372036854775808 : Int) ≤ ((k + 1 : Nat) : Int); omega, by show ((k + 1 : Nat) : Int) ≤ 9223372036854775807; omega, fun _ => by show 0 ≤ ((k + 1 : Nat) : Int) ∧ ((k + 1 : Nat) : Int) ≤ ((k + 1 : Nat) : Int); omega⟩
    (fun _ => by show ((k + 1 : Nat) : Int) = (k : Int) + 1; omega) (steps_jeq input a b 8 ha hb n c out (k + 1))

/-- A whole state stored into a variable. -/
theorem wpList_storeRow {ops : Array Oper} {rest : List Oper} {o : Oper} {a : Act} {w : World} {Q : Exit → Act → World → Prop} (hgd : o.guard = none) (x y : Operand) (ho : o.op = .store 32 x y) (g : Nat) (SC old : Array Value) (t : TypeId)
    (hx : a.eval x = .pointer (some ⟨g, 0, none⟩)) (hy : a.eval y = .agg SC) (hg : w.heap[g]? = some (.cells old t)) (hsz : SC.size = 21) (hold : old.size = 21) (hone : SC.all (·.oneCell') = true)
    (h : ∀ w', w'.heap[g]? = some (.cells SC t) → (∀ B, Keep B g w w') → w'.heap.size = w.heap.size → wpList Tryz.prog ops Q rest (a.put o.dst undef) w') : wpList Tryz.prog ops Q (o :: rest) a w :=
  wpList_plain hgd fun _ hK => wp_store_row 32 x y ho g SC hx hy t old hg (by rw [hsz]; kernel_rfl) (by rw [hsz, hold]) hone
    (hK _ _ (h _ (setRow_heap w g old SC t _ hg) (fun B => keep_setRow B g w SC) (by simp [World.setRow])))
theorem st_reg (m : MS) (l : List UInt8) (j : Nat) (h : j < 8) : (stCells m l)[4 + j * 2]? = some (.bool (m.set j)) ∧ (stCells m l)[4 + j * 2 + 1]? = some (.int .i64 (m.num j)) :=
  lt8 (p := fun j => (stCells m l)[4 + j * 2]? = some (.bool (m.set j)) ∧ (stCells m l)[4 + j * 2 + 1]? = some (.int .i64 (m.num j))) ⟨rfl, rfl⟩ ⟨rfl, rfl⟩ ⟨rfl, rfl⟩ ⟨rfl, rfl⟩ ⟨rfl, rfl⟩ ⟨rfl, rfl⟩ ⟨rfl, rfl⟩ ⟨rfl, rfl⟩ j h
theorem st_head (m : MS) (l : List UInt8) : (stCells m l)[0]? = some (.int .i64 m.how) ∧ (stCells m l)[1]? = some (.int .i64 m.line) ∧ (stCells m l)[2]? = some (.int .i64 m.why) ∧ (stCells m l)[3]? = some (.int .i64 m.value) ∧ (stCells m l)[20]? = some (.string ⟨l.toArray⟩) := ⟨rfl, rfl, rfl, rfl, rfl⟩
/-- What a state holds behind a run that ended well. -/
structure StIs (SC : Array Value) (k : Nat) (n : Nat → Int) (out : List UInt8) : Prop where
  size : SC.size = 21
  one : SC.all (·.oneCell') = true
  how : SC[0]? = some (.int .i64 1)
  line : SC[1]? = some (.int .i64 k)
  why : SC[2]? = some (.int .i64 0)
  value : SC[3]? = some (.int .i64 (n 0))
  out : SC[20]? = some (.string ⟨out.toArray⟩)
  set : ∀ j, j < 8 → SC[4 + j * 2]? = some (.bool true)
  num : ∀ j, j < 8 → SC[4 + j * 2 + 1]? = some (.int .i64 (n j))
theorem Fin.st {input : List UInt8} {k : Nat} {l : List UInt8} {n : Nat → Int} {out : List UInt8} (h : Fin input k l n out) : StIs (stCells (runOf (progF l) input 3000).1 (runOf (progF l) input 3000).2) k n out := by
  obtain ⟨m, e, h1, h2, h3, h4, h5⟩ := h.run
  rw [e]
  obtain ⟨a0, a1, a2, a3, a4⟩ := st_head m out
  refine ⟨rfl, st_one m out, ?_, ?_, ?_, ?_, a4, fun j hj => ?_, fun j hj => ?_⟩
  · rw [a0, h1]
  · rw [a1, h3]
  · rw [a2, h2]
  · rw [a3, h4]
  · rw [(st_reg m out j hj).1, (h5 j hj).1]
  · rw [(st_reg m out j hj).2, (h5 j hj).2]
theorem end_text (T : List UInt8) : (⟨T.toArray⟩ : ByteArray) ++ ⟨#[101, 110, 100, 32, 114, 48]⟩ = ⟨(T ++ endT).toArray⟩ := by
  have e : endT = [101, 110, 100, 32, 114, 48] := by decide +kernel
  rw [e]
  exact ByteArray.ext (by simp [ByteArray.data_append])

end Go.Proofs.YtngopilbpiplhaaGreatDoor
