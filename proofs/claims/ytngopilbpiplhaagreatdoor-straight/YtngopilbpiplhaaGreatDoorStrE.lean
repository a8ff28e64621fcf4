/-
  Plain: the whole text that Straight writes is a program, and what a run of it comes to.
-/
import Derived.Test.YtngopilbpiplhaaGreatDoorStrI
namespace Go.Proofs.YtngopilbpiplhaaGreatDoor
open Go.RowKit

theorem filterMap_of_map {ts : List (List UInt8)} : ∀ {xs : List Ln}, ts.map lineF = xs.map some → linesF ts = xs := by
  induction ts with
  | nil => intro xs h; cases xs with | nil => rfl | cons x xs => simp at h
  | cons t ts ih =>
    intro xs h
    cases xs with
    | nil => simp at h
    | cons x xs =>
      simp at h
      unfold linesF at ih ⊢
      simp [h.1, ih (by simpa using h.2)]
theorem some_of_map {ts : List (List UInt8)} : ∀ {xs : List Ln}, ts.map lineF = xs.map some → ∀ t ∈ ts, (lineF t).isSome = true := by
  intro xs h t ht
  have : lineF t ∈ xs.map some := by rw [← h]; exact List.mem_map_of_mem ht
  obtain ⟨x, _, e⟩ := List.mem_map.1 this
  rw [← e]; rfl
theorem joined_len (ts : List (List UInt8)) (h : ∀ t ∈ ts, t.length ≤ 20) : (joined ts).length ≤ 21 * ts.length := by
  induction ts with
  | nil => simp [joined]
  | cons t ts ih =>
    have h1 := h t (by simp)
    have h2 := ih (fun u hu => h u (by simp [hu]))
    have e : joined (t :: ts) = t ++ [10] ++ joined ts := by simp [joined]
    rw [e]
    simp only [List.length_append, List.length_cons, List.length_nil]
    omega
theorem no_jump (row : Nat) (h : row < 17) (h1 : row ≠ 13) (h2 : row ≠ 14) (h3 : row ≠ 15) : hasB (wParts row) 76 = false := by
  match row, h with
  | 0, _ => decide +kernel
  | 1, _ => decide +kernel
  | 2, _ => decide +kernel
  | 3, _ => decide +kernel
  | 4, _ => decide +kernel
  | 5, _ => decide +kernel
  | 6, _ => decide +kernel
  | 7, _ => decide +kernel
  | 8, _ => decide +kernel
  | 9, _ => decide +kernel
  | 10, _ => decide +kernel
  | 11, _ => decide +kernel
  | 12, _ => decide +kernel
  | 13, _ => exact absurd rfl h1
  | 14, _ => exact absurd rfl h2
  | 15, _ => exact absurd rfl h3
  | 16, _ => decide +kernel
  | n + 17, h => exact absurd h (by omega)

/-- The last line. -/
def endT : List UInt8 := wName 16 ++ 32 :: reg 0
def endL : Ln := ⟨(16 : Nat), (0 : Nat), (0 : Nat), 0⟩

structure Fin (input : List UInt8) (k : Nat) (l : List UInt8) (n : Nat → Int) (out : List UInt8) : Prop where
  good : Good l
  ok : ∀ j (h : j < (progF l).length), LineOk (progF l).length j (progF l)[j]
  len : (progF l).length = k + 1
  short : l.length ≤ 8000
  run : ∃ m', runOf (progF l) input 3000 = (m', out) ∧ m'.how = 1 ∧ m'.why = 0 ∧ m'.line = (k : Int) ∧ m'.value = n 0 ∧ ∀ j, j < 8 → m'.set j = true ∧ m'.num j = n j

theorem SInv.fin {input : List UInt8} {k : Nat} {T : List UInt8} {n c : Nat → Int} {out : List UInt8} (h : SInv input 8 k T n c out) (hk : k ≤ 90) : Fin input k (T ++ endT) n out := by
  obtain ⟨ts, xs, m, h1, h2, h3, h4, h5, h6, h7, h8, h9⟩ := h
  have he : lineF endT = some endL := lineF_R w16 0 (by omega)
  have he10 : 10 ∉ endT := by decide +kernel
  have hcut : cutAt 10 (T ++ endT) = ts ++ [endT] := by rw [h1]; exact cutAt_joined endT he10 ts (fun t ht => (h5 t ht).1)
  have hmap : (ts ++ [endT]).map lineF = (xs ++ [endL]).map some := by simp [h4, he]
  have hprog : progF (T ++ endT) = xs ++ [endL] := by unfold progF; rw [hcut]; exact filterMap_of_map hmap
  have hlen : (progF (T ++ endT)).length = k + 1 := by rw [hprog]; simp [h3]
  have hT := joined_len ts (fun t ht => (h5 t ht).2)
  have hel : endT.length = 6 := by decide +kernel
  have hsh : (T ++ endT).length ≤ 8000 := by rw [List.length_append, hel, h1]; omega
  have hcnt : (T ++ endT).count 10 = k := by
    have := cutAt_count 10 (T ++ endT)
    have h' : (ts ++ [endT]).length = k + 1 := by simp [h2]
    rw [hcut, h'] at this
    omega
  have hlong : longF (T ++ endT) = false := by
    unfold longF
    rw [hcnt]
    simp
    constructor
    · have := hsh; rw [List.length_append] at this; omega
    · omega
  have hlx : ∀ x ∈ xs, LineS k x := h6
  refine ⟨⟨hlong, ?_, ?_, ?_⟩, ?_, hlen, hsh, ?_⟩
  · rw [hcut]; exact some_of_map hmap
  · rw [hprog]
    intro x hx
    rcases List.mem_append.1 hx with hx | hx
    · have hs := h6 x hx
      obtain ⟨row, hr, h13, h14, hw⟩ := hs.word
      unfold isLost
      rw [hw, Int.toNat_natCast]
      by_cases e : row = 15
      · have := hs.jump (by rw [hw, e]; rfl)
        simp [h3]; intro _; omega
      · rw [no_jump row (by omega) h13 h14 e]; rfl
    · rw [List.mem_singleton.1 hx]
      unfold isLost endL
      rw [Int.toNat_natCast, no_jump 16 (by omega) (by omega) (by omega) (by omega)]; rfl
  · rw [hprog]
    intro x hx
    rw [show (xs ++ [endL]).length - 1 = xs.length by simp, List.getElem?_append_right (Nat.le_refl _)] at hx
    simp at hx
    rw [← hx]; rfl
  · rw [hprog]
    intro j hj
    have hl1 : (xs ++ [endL]).length = k + 1 := by simp [h3]
    by_cases e : j < xs.length
    · have hg : (xs ++ [endL])[j] = xs[j] := List.getElem_append_left e
      rw [hg, hl1]
      have hs := h6 xs[j] (List.getElem_mem e)
      obtain ⟨row, hr, h13, h14, hw⟩ := hs.word
      refine ⟨⟨row, by omega, hw⟩, hs.r, hs.s, hs.low, hs.high, fun _ => by omega, fun q1 q2 => ?_⟩
      rw [hw, Int.toNat_natCast] at q1 q2
      have := hs.jump (by rw [hw]; omega)
      omega
    · have hje : j = xs.length := by omega
      subst hje
      have hg : (xs ++ [endL])[xs.length] = endL := by simp
      rw [hg]
      refine ⟨⟨16, by omega, rfl⟩, ⟨0, by omega, rfl⟩, ⟨0, by omega, rfl⟩, by show (-9223372036854775808 : Int) ≤ 0; omega, by show (0 : Int) ≤ 9223372036854775807; omega, fun q => (by cases q), fun _ q => absurd q (by decide)⟩
  · rw [hprog]
    have e1 := h7 [endL] (3000 - k)
    rw [h3, show k + (3000 - k) = 3000 by omega] at e1
    have e2 : runOf (xs ++ [endL]) input 3000 = runF (xs ++ [endL]) (3000 - k) (m, out) := e1
    rw [e2, show 3000 - k = (2999 - k) + 1 by omega]
    unfold runF
    have hg : (xs ++ [endL])[m.line.toNat]? = some endL := by rw [h8]; simp [← h3]
    rw [hg]
    dsimp only
    have hm1 : Corr input { m with next := m.line + 1 } 8 n c := h9.same ⟨rfl, rfl, rfl, rfl, rfl, rfl, rfl⟩
    have hst : stepF endL.word.toNat endL.r.toNat endL.s.toNat endL.n m out = ({ m with next := m.line + 1, how := 1, value := m.num 0 }, out) :=
      step_of (row := 16) (r := 0) (s := 0) (unset_RS hm1 16 0 0 (by omega) (by omega)) rfl
    rw [hst]
    dsimp only
    rw [if_pos (by decide)]
    refine ⟨_, rfl, rfl, h9.why, h8, h9.num 0 (by omega), fun j hj => ⟨h9.set j hj, h9.num j hj⟩⟩

end Go.Proofs.YtngopilbpiplhaaGreatDoor
