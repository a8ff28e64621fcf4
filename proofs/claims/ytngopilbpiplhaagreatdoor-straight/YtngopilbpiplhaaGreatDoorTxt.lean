/-
  Plain: the text of a number is read back as that number; the lines that Straight writes are read as lines.
-/
import Derived.Test.YtngopilbpiplhaaGreatDoorRunF
import Derived.Test.YtngopilbpiplhaaGreatDoorRead
namespace Go.Proofs.YtngopilbpiplhaaGreatDoor

theorem pum_cons (M acc : Nat) (c : UInt8) (r : List UInt8) : Lib.parseUintM M acc (c :: r) = if 48 ≤ c.toNat ∧ c.toNat ≤ 57 then (if 1844674407370955162 ≤ acc then .range else if M < acc * 10 + (c.toNat - 48) then .range else Lib.parseUintM M (acc * 10 + (c.toNat - 48)) r) else .«syntax» := rfl
theorem parseUintM_append (M : Nat) : ∀ (a b : List UInt8) (acc u : Nat), Lib.parseUintM M acc a = .ok u → Lib.parseUintM M acc (a ++ b) = Lib.parseUintM M u b
  | [], b, acc, u, h => by simp [Lib.parseUintM] at h; rw [h]; rfl
  | c :: a, b, acc, u, h => by
    rw [List.cons_append, pum_cons M acc c (a ++ b)]
    rw [pum_cons] at h
    split at h
    · rename_i h1
      rw [if_pos h1]
      split at h
      · cases h
      · rename_i h2
        rw [if_neg h2]
        split at h
        · cases h
        · rename_i h3
          rw [if_neg h3]
          exact parseUintM_append M a b _ u h
    · cases h
theorem parse_dd (M : Nat) (hM : 10000000000000000 ≤ M) : ∀ (k u : Nat), u < k → u < 1000000000000000 → Lib.parseUintM M 0 (dd u) = .ok u
  | 0, u, h, _ => absurd h (by omega)
  | k + 1, u, h, hu => by
    by_cases e : u = 0
    · subst e; simp [dd, Lib.parseUintM]
    · rw [dd_step u e, parseUintM_append M _ _ 0 (u / 10) (parse_dd M hM k (u / 10) (by omega) (by omega))]
      have hc : (UInt8.ofNat (48 + u % 10)).toNat = 48 + u % 10 := by simp; omega
      unfold Lib.parseUintM
      rw [hc, if_pos (by omega), if_neg (by omega), if_neg (by omega)]
      unfold Lib.parseUintM
      congr 1
      omega
theorem dd_head (u : Nat) : ∀ (k : Nat), u < k → u ≠ 0 → ∃ c r, dd u = c :: r ∧ 49 ≤ c.toNat ∧ c.toNat ≤ 57 ∧ allDig (c :: r) = true := by
  intro k
  induction k generalizing u with
  | zero => intro h; omega
  | succ k ih =>
    intro h h0
    have hc : (UInt8.ofNat (48 + u % 10)).toNat = 48 + u % 10 := by simp; omega
    rw [dd_step u h0]
    by_cases e : u / 10 = 0
    · have e2 : dd (u / 10) = [] := by rw [e]; rfl
      rw [e2]
      refine ⟨_, _, rfl, by omega, by omega, ?_⟩
      simp only [allDig, List.all_cons, List.all_nil, hc]
      simp; omega
    · obtain ⟨c, r, h1, h2, h3, h4⟩ := ih (u / 10) (by omega) e
      rw [h1]
      refine ⟨c, r ++ [_], rfl, h2, h3, ?_⟩
      have : allDig ((c :: r) ++ [UInt8.ofNat (48 + u % 10)]) = true := by
        unfold allDig at h4 ⊢
        rw [List.all_append, h4]
        simp
        omega
      exact this
theorem numF_pos (u : Nat) (h0 : u ≠ 0) (hu : u < 1000000000000000) : numF (dd u) = some (u : Int) := by
  obtain ⟨c, r, h1, h2, h3, h4⟩ := dd_head u (u + 1) (by omega) h0
  have hc : c.toNat ≠ 45 := by omega
  have hp := parse_dd (2 ^ 64 - 1) (by decide) (u + 1) u (by omega) hu
  have ht : Lib.trimPrefix (c :: r) [45] = c :: r := by
    unfold Lib.trimPrefix
    rw [if_neg]
    simp only [Lib.hasPrefix]
    intro h
    have : 45 = c := by simpa using h
    exact hc (by rw [← this]; rfl)
  have hpi : Lib.parseIntB 64 (c :: r) = .ok (u : Int) := by
    unfold Lib.parseIntB
    simp only
    rw [if_neg (by omega)]
    unfold Lib.parseUintB
    rw [if_neg (by simp), ← h1, hp]
    simp only
    rw [if_neg (by omega), if_neg (by omega), if_neg hc]
  unfold numF
  simp only
  rw [h1, ht, if_neg, if_pos h4, hpi]
  · rfl
  · rintro (q | ⟨_, q⟩)
    · cases q
    · have : c = 48 := by simpa using q
      rw [this] at h2; exact absurd h2 (by decide)
theorem numF_neg (u : Nat) (h0 : u ≠ 0) (hu : u < 1000000000000000) : numF (45 :: dd u) = some (-(u : Int)) := by
  obtain ⟨c, r, h1, h2, h3, h4⟩ := dd_head u (u + 1) (by omega) h0
  have hp := parse_dd (2 ^ 64 - 1) (by decide) (u + 1) u (by omega) hu
  have ht : Lib.trimPrefix (45 :: c :: r) [45] = c :: r := by
    simp [Lib.trimPrefix, Lib.hasPrefix]
  have hpi : Lib.parseIntB 64 (45 :: c :: r) = .ok (-(u : Int)) := by
    unfold Lib.parseIntB
    simp only
    rw [if_pos (by decide)]
    unfold Lib.parseUintB
    rw [if_neg (by simp), ← h1, hp]
    simp only
    rw [if_neg (by simp), if_neg (by omega), if_pos (by decide)]
  unfold numF
  simp only
  rw [h1, ht, if_neg, if_pos h4, hpi]
  · rfl
  · rintro (q | ⟨_, q⟩)
    · cases q
    · have : c = 48 := by simpa using q
      rw [this] at h2; exact absurd h2 (by decide)
/-- The text of a number is read as that number. -/
theorem numF_itoa (n : Int) (h0 : -1000000000000 ≤ n) (h1 : n ≤ 1000000000000) : numF (Lib.itoa n) = some n := by
  rcases Int.lt_trichotomy n 0 with h | h | h
  · obtain ⟨u, rfl⟩ : ∃ u : Nat, n = -(u : Int) := ⟨n.natAbs, by omega⟩
    rw [itoa_neg u (by omega), numF_neg u (by omega) (by omega)]
  · subst h; decide +kernel
  · obtain ⟨u, rfl⟩ : ∃ u : Nat, n = (u : Int) := ⟨n.natAbs, by omega⟩
    rw [itoa_pos u (by omega), numF_pos u (by omega) (by omega)]

end Go.Proofs.YtngopilbpiplhaaGreatDoor
