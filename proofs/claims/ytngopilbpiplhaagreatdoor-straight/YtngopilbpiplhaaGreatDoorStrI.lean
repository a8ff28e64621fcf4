/-
  Plain: what is so while Straight writes its lines: they are lines of a program, and a run of them has these registers and cells.
-/
import Derived.Test.YtngopilbpiplhaaGreatDoorStrP
namespace Go.Proofs.YtngopilbpiplhaaGreatDoor
open Go.RowKit

def upd (n : Nat → Int) (r : Nat) (v : Int) : Nat → Int := fun k => if k = r then v else n k

/-- The machine has the registers below q, and the cells. -/
structure Corr (input : List UInt8) (m : MS) (q : Nat) (n c : Nat → Int) : Prop where
  set : ∀ j, j < q → m.set j = true
  num : ∀ j, j < q → m.num j = n j
  cells : ∀ j, j < 16 → m.cells j = c j
  input : m.input = inputOf input
  how : m.how = 0
  why : m.why = 0
  value : m.value = 0
theorem Corr.same {input : List UInt8} {m m' : MS} {q : Nat} {n c : Nat → Int} (h : Corr input m q n c) (e : m'.set = m.set ∧ m'.num = m.num ∧ m'.cells = m.cells ∧ m'.input = m.input ∧ m'.how = m.how ∧ m'.why = m.why ∧ m'.value = m.value) : Corr input m' q n c := by
  obtain ⟨e1, e2, e3, e4, e5, e6, e7⟩ := e
  exact ⟨by rw [e1]; exact h.set, by rw [e2]; exact h.num, by rw [e3]; exact h.cells, by rw [e4]; exact h.input, by rw [e5]; exact h.how, by rw [e6]; exact h.why, by rw [e7]; exact h.value⟩
theorem Corr.setR {input : List UInt8} {m : MS} {q : Nat} {n c : Nat → Int} (h : Corr input m q n c) (r : Nat) (v : Int) : Corr input (m.setR r v) q (upd n r v) c := by
  refine ⟨fun j hj => ?_, fun j hj => ?_, h.cells, h.input, h.how, h.why, h.value⟩
  · simp only [MS.setR]; split; rfl; exact h.set j hj
  · simp only [MS.setR, upd]; split; rfl; exact h.num j hj
theorem Corr.setNew {input : List UInt8} {m : MS} {q : Nat} {n c : Nat → Int} (h : Corr input m q n c) (v : Int) : Corr input (m.setR q v) (q + 1) (upd n q v) c := by
  refine ⟨fun j hj => ?_, fun j hj => ?_, h.cells, h.input, h.how, h.why, h.value⟩
  · simp only [MS.setR]; split; rfl; exact h.set j (by omega)
  · simp only [MS.setR, upd]; split; rfl; exact h.num j (by omega)
theorem Corr.setC {input : List UInt8} {m : MS} {q : Nat} {n c : Nat → Int} (h : Corr input m q n c) (r : Nat) (v : Int) : Corr input (m.setC r v) q n (upd c r v) := by
  refine ⟨h.set, h.num, fun j hj => ?_, h.input, h.how, h.why, h.value⟩
  simp only [MS.setC, upd]; split; rfl; exact h.cells j hj

/-- A line that Straight writes ahead of line k. -/
structure LineS (k : Nat) (x : Ln) : Prop where
  word : ∃ row : Nat, row < 16 ∧ row ≠ 13 ∧ row ≠ 14 ∧ x.word = (row : Int)
  r : ∃ r : Nat, r < 8 ∧ x.r = (r : Int)
  s : ∃ s : Nat, s < 8 ∧ x.s = (s : Int)
  low : -9223372036854775808 ≤ x.n
  high : x.n ≤ 9223372036854775807
  jump : x.word = 15 → 0 ≤ x.n ∧ x.n ≤ (k : Int)
theorem LineS.mono {k k' : Nat} {x : Ln} (h : LineS k x) (hk : k ≤ k') : LineS k' x := ⟨h.word, h.r, h.s, h.low, h.high, fun e => by have := h.jump e; omega⟩

def st0 (input : List UInt8) : MS × List UInt8 := ((MS.start input).setR 0 ((min 64 input.length : Nat) : Int), [])

/-- What is so ahead of line k, q registers having been set. -/
def SInv (input : List UInt8) (q k : Nat) (T : List UInt8) (n c : Nat → Int) (out : List UInt8) : Prop :=
  ∃ (ts : List (List UInt8)) (xs : List Ln) (m : MS), T = joined ts ∧ ts.length = k ∧ xs.length = k ∧ ts.map lineF = xs.map some ∧ (∀ t ∈ ts, 10 ∉ t ∧ t.length ≤ 20) ∧ (∀ x ∈ xs, LineS k x) ∧
    Exec xs (st0 input) (m, out) ∧ m.line = (k : Int) ∧ Corr input m q n c

theorem SInv.start (input : List UInt8) : SInv input 0 0 [] (fun _ => 0) (fun _ => 0) [] :=
  ⟨[], [], (st0 input).1, rfl, rfl, rfl, rfl, by simp, by simp, fun ys f => by simp [st0], rfl, ⟨fun j h => absurd h (by omega), fun j h => absurd h (by omega), fun _ _ => rfl, rfl, rfl, rfl, rfl⟩⟩

/-- What a line does to what is so. -/
def Steps (input : List UInt8) (x : Ln) (q : Nat) (n c : Nat → Int) (out : List UInt8) (q' : Nat) (n' c' : Nat → Int) (out' : List UInt8) : Prop :=
  ∀ m : MS, Corr input m q n c → ∃ m', stepF x.word.toNat x.r.toNat x.s.toNat x.n m out = (m', out') ∧ m'.how = 0 ∧ (m'.next = m.line + 1 ∨ x.word = 15 ∧ m'.next = x.n) ∧ Corr input m' q' n' c'

theorem SInv.add {input : List UInt8} {q k : Nat} {T : List UInt8} {n c : Nat → Int} {out : List UInt8} (h : SInv input q k T n c out) (t : List UInt8) (x : Ln) (ht : lineF t = some x) (h10 : 10 ∉ t) (hl : t.length ≤ 20) (hx : LineS (k + 1) x) (hj : x.word = 15 → x.n = (k : Int) + 1)
    {q' : Nat} {n' c' : Nat → Int} {out' : List UInt8} (hs : Steps input x q n c out q' n' c' out') : SInv input q' (k + 1) (T ++ t ++ [10]) n' c' out' := by
  obtain ⟨ts, xs, m, h1, h2, h3, h4, h5, h6, h7, h8, h9⟩ := h
  obtain ⟨m', e1, e2, e3, e4⟩ := hs m h9
  refine ⟨ts ++ [t], xs ++ [x], { m' with line := m'.next }, by rw [joined_snoc, h1], by simp [h2], by simp [h3], by simp [h4, ht], ?_, ?_, h7.snoc x (by rw [h8, h3]) e1 e2, ?_, e4.same ⟨rfl, rfl, rfl, rfl, rfl, rfl, rfl⟩⟩
  · intro u hu
    rcases List.mem_append.1 hu with hu | hu
    · exact h5 u hu
    · rw [List.mem_singleton.1 hu]; exact ⟨h10, hl⟩
  · intro y hy
    rcases List.mem_append.1 hy with hy | hy
    · exact (h6 y hy).mono (by omega)
    · rw [List.mem_singleton.1 hy]; exact hx
  · show m'.next = _
    rcases e3 with e3 | ⟨e3, e5⟩
    · rw [e3, h8]; rfl
    · rw [e5, hj e3]; rfl

theorem step_of {row r s : Nat} {n : Int} {m : MS} {l l' : List UInt8} {m' : MS} (hu : unsetF row r s { m with next := m.line + 1 } = false) (hd : doF row r s n { m with next := m.line + 1 } l = (0, m', l')) : stepF row r s n m l = (m', l') := by
  unfold stepF
  dsimp only
  rw [hu, hd]
  rfl

/-- A line that sets R, and takes registers below q. -/
theorem steps_setR (input : List UInt8) (row r s : Nat) (x : Int) (q : Nat) (n c : Nat → Int) (out : List UInt8) (v : Int) (hrw : row ≠ 13) (ht : ∀ m : MS, Corr input m q n c → unsetF row r s m = false) (hd : ∀ m : MS, Corr input m q n c → doF row r s x m out = (0, m.setR r v, out)) :
    Steps input ⟨row, r, s, x⟩ q n c out q (upd n r v) c out := fun m hm => by
  have hm1 : Corr input { m with next := m.line + 1 } q n c := hm.same ⟨rfl, rfl, rfl, rfl, rfl, rfl, rfl⟩
  have _u := hrw
  have e := step_of (ht _ hm1) (hd _ hm1)
  exact ⟨({ m with next := m.line + 1 } : MS).setR r v, by simpa using e, hm.how, .inl rfl, hm1.setR r v⟩

theorem unset_RS {input : List UInt8} {m : MS} {q : Nat} {n c : Nat → Int} (h : Corr input m q n c) (row r s : Nat) (hr : r < q) (hs : s < q) : unsetF row r s m = false := by
  unfold unsetF
  rw [h.set r hr, h.set s hs]
  simp
theorem unset_none (row r s : Nat) (m : MS) (h1 : hasB (wTakes row) 82 = false) (h2 : hasB (wTakes row) 83 = false) : unsetF row r s m = false := by
  unfold unsetF; rw [h1, h2]; rfl

theorem steps_set (input : List UInt8) (r : Nat) (x : Int) (q : Nat) (n c : Nat → Int) (out : List UInt8) : Steps input ⟨(0 : Nat), r, (0 : Nat), x⟩ q n c out q (upd n r x) c out :=
  steps_setR input 0 r 0 x q n c out x (by omega) (fun _ _ => unset_none 0 r 0 _ (by decide +kernel) (by decide +kernel)) (fun _ _ => rfl)
theorem steps_new (input : List UInt8) (x : Int) (q : Nat) (n c : Nat → Int) (out : List UInt8) : Steps input ⟨(0 : Nat), q, (0 : Nat), x⟩ q n c out (q + 1) (upd n q x) c out := fun m hm => by
  have hm1 : Corr input { m with next := m.line + 1 } q n c := hm.same ⟨rfl, rfl, rfl, rfl, rfl, rfl, rfl⟩
  exact ⟨_, step_of (unset_none 0 _ 0 _ (by decide +kernel) (by decide +kernel)) rfl, hm.how, .inl rfl, by simpa using hm1.setNew x⟩
theorem steps_mov (input : List UInt8) (r s q : Nat) (hr : r < q) (hs : s < q) (n c : Nat → Int) (out : List UInt8) : Steps input ⟨(1 : Nat), r, s, 0⟩ q n c out q (upd n r (n s)) c out :=
  steps_setR input 1 r s 0 q n c out _ (by omega) (fun _ hm => unset_RS hm 1 r s hr hs) (fun m hm => by rw [← hm.num s hs]; rfl)
theorem steps_add (input : List UInt8) (r s q : Nat) (hr : r < q) (hs : s < q) (n c : Nat → Int) (out : List UInt8) : Steps input ⟨(2 : Nat), r, s, 0⟩ q n c out q (upd n r (wrap64 (n r + n s))) c out :=
  steps_setR input 2 r s 0 q n c out _ (by omega) (fun _ hm => unset_RS hm 2 r s hr hs) (fun m hm => by rw [← hm.num s hs, ← hm.num r hr]; rfl)
theorem steps_sub (input : List UInt8) (r s q : Nat) (hr : r < q) (hs : s < q) (n c : Nat → Int) (out : List UInt8) : Steps input ⟨(3 : Nat), r, s, 0⟩ q n c out q (upd n r (wrap64 (n r - n s))) c out :=
  steps_setR input 3 r s 0 q n c out _ (by omega) (fun _ hm => unset_RS hm 3 r s hr hs) (fun m hm => by rw [← hm.num s hs, ← hm.num r hr]; rfl)
theorem steps_mul (input : List UInt8) (r s q : Nat) (hr : r < q) (hs : s < q) (n c : Nat → Int) (out : List UInt8) : Steps input ⟨(4 : Nat), r, s, 0⟩ q n c out q (upd n r (wrap64 (n r * n s))) c out :=
  steps_setR input 4 r s 0 q n c out _ (by omega) (fun _ hm => unset_RS hm 4 r s hr hs) (fun m hm => by rw [← hm.num s hs, ← hm.num r hr]; rfl)
theorem steps_and (input : List UInt8) (r s q : Nat) (hr : r < q) (hs : s < q) (n c : Nat → Int) (out : List UInt8) : Steps input ⟨(5 : Nat), r, s, 0⟩ q n c out q (upd n r (bits BinOp.and IntKind.i64 (n r) (n s))) c out :=
  steps_setR input 5 r s 0 q n c out _ (by omega) (fun _ hm => unset_RS hm 5 r s hr hs) (fun m hm => by rw [← hm.num s hs, ← hm.num r hr]; rfl)
theorem steps_div (input : List UInt8) (r s q : Nat) (hr : r < q) (hs : s < q) (n c : Nat → Int) (out : List UInt8) (hz : n s ≠ 0) : Steps input ⟨(6 : Nat), r, s, 0⟩ q n c out q (upd n r (wrap64 ((n r).tdiv (n s)))) c out :=
  steps_setR input 6 r s 0 q n c out _ (by omega) (fun _ hm => unset_RS hm 6 r s hr hs) (fun m hm => by
    have e := hm.num s hs
    rw [← hm.num r hr, ← e]
    show (if m.num s = 0 then _ else _) = _
    rw [if_neg (by rw [e]; exact hz)])
theorem steps_in (input : List UInt8) (r s q : Nat) (hr : r < q) (hs : s < q) (n c : Nat → Int) (out : List UInt8) (p : Nat) (hp : p < 64) (hn : n s = (p : Int)) : Steps input ⟨(7 : Nat), r, s, 0⟩ q n c out q (upd n r (inputOf input p : Int)) c out :=
  steps_setR input 7 r s 0 q n c out _ (by omega) (fun _ hm => unset_RS hm 7 r s hr hs) (fun m hm => by
    have e := (hm.num s hs).trans hn
    show (if 0 ≤ m.num s ∧ m.num s < 64 then _ else _) = _
    rw [if_pos (by rw [e]; omega), e, hm.input]
    simp)
theorem steps_get (input : List UInt8) (r s q : Nat) (hr : r < q) (hs : s < q) (n c : Nat → Int) (out : List UInt8) (p : Nat) (hp : p < 16) (hn : n s = (p : Int)) : Steps input ⟨(8 : Nat), r, s, 0⟩ q n c out q (upd n r (c p)) c out :=
  steps_setR input 8 r s 0 q n c out _ (by omega) (fun _ hm => unset_RS hm 8 r s hr hs) (fun m hm => by
    have e := (hm.num s hs).trans hn
    show (if 0 ≤ m.num s ∧ m.num s < 16 then _ else _) = _
    rw [if_pos (by rw [e]; omega), e, Int.toNat_natCast, hm.cells p hp])
theorem steps_put (input : List UInt8) (r s q : Nat) (hr : r < q) (hs : s < q) (n c : Nat → Int) (out : List UInt8) (p : Nat) (hp : p < 16) (hn : n r = (p : Int)) : Steps input ⟨(9 : Nat), r, s, 0⟩ q n c out q n (upd c p (n s)) out := fun m hm => by
  have hm1 : Corr input { m with next := m.line + 1 } q n c := hm.same ⟨rfl, rfl, rfl, rfl, rfl, rfl, rfl⟩
  have e := (hm.num r hr).trans hn
  refine ⟨({ m with next := m.line + 1 } : MS).setC p (n s), step_of (by simpa using unset_RS hm1 9 r s hr hs) ?_, hm.how, .inl rfl, hm1.setC p (n s)⟩
  show (if 0 ≤ m.num r ∧ m.num r < 16 then _ else _) = _
  rw [if_pos (by rw [e]; omega), ← hm.num s hs]
  simp [e]
theorem steps_out (input : List UInt8) (r q : Nat) (hr : r < q) (h0 : 0 < q) (n c : Nat → Int) (out : List UInt8) : Steps input ⟨(12 : Nat), r, (0 : Nat), 0⟩ q n c out q n c (putF out (n r)) := fun m hm => by
  have hm1 : Corr input { m with next := m.line + 1 } q n c := hm.same ⟨rfl, rfl, rfl, rfl, rfl, rfl, rfl⟩
  refine ⟨_, step_of (m' := { m with next := m.line + 1 }) (by simpa using unset_RS hm1 12 r 0 hr h0) ?_, hm.how, .inl rfl, hm1⟩
  rw [← hm.num r hr]; rfl
theorem steps_jeq (input : List UInt8) (r s q : Nat) (hr : r < q) (hs : s < q) (n c : Nat → Int) (out : List UInt8) (L : Nat) : Steps input ⟨(15 : Nat), r, s, L⟩ q n c out q n c out := fun m hm => by
  have hm1 : Corr input { m with next := m.line + 1 } q n c := hm.same ⟨rfl, rfl, rfl, rfl, rfl, rfl, rfl⟩
  have hu := unset_RS hm1 15 r s hr hs
  by_cases e : m.num r = m.num s
  · refine ⟨{ m with next := (L : Int) }, step_of (by simpa using hu) ?_, hm.how, .inr ⟨rfl, rfl⟩, hm.same ⟨rfl, rfl, rfl, rfl, rfl, rfl, rfl⟩⟩
    show (_, (if m.num r = m.num s then _ else _), _) = _
    rw [if_pos e]
  · refine ⟨{ m with next := m.line + 1 }, step_of (by simpa using hu) ?_, hm.how, .inl rfl, hm1⟩
    show (_, (if m.num r = m.num s then _ else _), _) = _
    rw [if_neg e]

end Go.Proofs.YtngopilbpiplhaaGreatDoor
