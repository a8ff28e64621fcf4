/-
  The lines of six words: what the search asks of each.
-/
import Derived.Test.YtngopilbpiplhaaGreatDoorZClQ
import Derived.Test.YtngopilbpiplhaaGreatDoorZClY
namespace Go.Proofs.YtngopilbpiplhaaGreatDoor
open Go.RowKit

theorem exW_never (i : Nat) (k : Int) (c : Cl) (x : Ln) (h1 : (nextW i c x).never = true) (h2 : (jumpW i c x).never = true) : exW i k c x = [] := by unfold exW; rw [if_pos h1, if_pos h2]; rfl
theorem exW_next (i : Nat) (k : Int) (c : Cl) (x : Ln) (h1 : (nextW i c x).never = false) (h2 : (jumpW i c x).never = true) : exW i k c x = [(k + 1, nextW i c x)] := by unfold exW; rw [if_neg (by rw [h1]; simp), if_pos h2]; rfl
theorem exW_jump (i : Nat) (k : Int) (c : Cl) (x : Ln) (h1 : (nextW i c x).never = true) (h2 : (jumpW i c x).never = false) : exW i k c x = [(x.n, jumpW i c x)] := by unfold exW; rw [if_pos h1, if_neg (by rw [h2]; simp)]; rfl
theorem exW_both (i : Nat) (k : Int) (c : Cl) (x : Ln) (h1 : (nextW i c x).never = false) (h2 : (jumpW i c x).never = false) : exW i k c x = [(k + 1, nextW i c x), (x.n, jumpW i c x)] := by unfold exW; rw [if_neg (by rw [h1]; simp), if_neg (by rw [h2]; simp)]; rfl
theorem exL_one (k : Int) (c : Cl) : exL [(k, c)] = exC k c := by simp [exL]
theorem exL_two (k : Int) (c : Cl) (j : Int) (d : Cl) : exL [(k, c), (j, d)] = exC k c ++ exC j d := by simp [exL]

theorem lineW_set (s0 r s : Nat) (n : Int) (hr : r < 8) (hs : s < 8) : LineW s0 ⟨0, r, s, n⟩ where
  word := rfl
  row := by show 0 < 17; omega
  met c w ht := IsMet_nothing_00 ⟨(wName 0).toArray⟩ ⟨(wParts 0).toArray⟩ ⟨(wTakes 0).toArray⟩ true _ _ _ _ _ _ c ⟨0, r, s, n⟩ r s rfl rfl hr hs w (by decide +kernel) (by decide +kernel)
  ex c w k hk hn hm ht := by
    rw [show (⟨0, (r : Int), (s : Int), n⟩ : Ln).word.toNat = 0 from rfl, exW_next 0 k c ⟨0, r, s, n⟩ hn rfl, exL_one]
    exact Exits_0 ⟨(wName 0).toArray⟩ ⟨(wParts 0).toArray⟩ ⟨(wTakes 0).toArray⟩ true _ _ _ _ k hk c hn ⟨0, r, s, n⟩ r s rfl rfl hr hs w (s0 + 1) (ht 1 (by omega))
theorem lineW_add (s0 r s : Nat) (n : Int) (hr : r < 8) (hs : s < 8) : LineW s0 ⟨2, r, s, n⟩ where
  word := rfl
  row := by show 2 < 17; omega
  met c w ht := IsMet_nothing_11 ⟨(wName 2).toArray⟩ ⟨(wParts 2).toArray⟩ ⟨(wTakes 2).toArray⟩ true _ _ _ _ _ _ c ⟨2, r, s, n⟩ r s rfl rfl hr hs w (by decide +kernel) (by decide +kernel)
  ex c w k hk hn hm ht := by
    rw [show (⟨2, (r : Int), (s : Int), n⟩ : Ln).word.toNat = 2 from rfl, exW_next 2 k c ⟨2, r, s, n⟩ hn rfl, exL_one]
    exact Exits_2 ⟨(wName 2).toArray⟩ ⟨(wParts 2).toArray⟩ ⟨(wTakes 2).toArray⟩ true _ _ _ _ k hk c hn ⟨2, r, s, n⟩ r s rfl rfl hr hs w (s0 + 6) (s0 + 5) (ht 6 (by omega)) (ht 5 (by omega))
theorem lineW_in (s0 r s : Nat) (n : Int) (hr : r < 8) (hs : s < 8) : LineW s0 ⟨7, r, s, n⟩ where
  word := rfl
  row := by show 7 < 17; omega
  met c w ht := IsMet_placeS_01 ⟨(wName 7).toArray⟩ ⟨(wParts 7).toArray⟩ ⟨(wTakes 7).toArray⟩ true _ _ _ _ _ _ c ⟨7, r, s, n⟩ r s rfl rfl hr hs w (s0 + 21) 64 (ht 21 (by omega)) (by decide +kernel) (by decide +kernel)
  ex c w k hk hn hm ht := by
    rw [show (⟨7, (r : Int), (s : Int), n⟩ : Ln).word.toNat = 7 from rfl, exW_next 7 k c ⟨7, r, s, n⟩ hn rfl, exL_one]
    exact Exits_7 ⟨(wName 7).toArray⟩ ⟨(wParts 7).toArray⟩ ⟨(wTakes 7).toArray⟩ true _ _ _ _ k hk c hn ⟨7, r, s, n⟩ r s rfl rfl hr hs w (s0 + 23) (s0 + 22) 0 255 (ht 23 (by omega)) (ht 22 (by omega))
theorem lineW_jmp (s0 r s : Nat) (n : Int) (hr : r < 8) (hs : s < 8) : LineW s0 ⟨13, r, s, n⟩ where
  word := rfl
  row := by show 13 < 17; omega
  met c w ht := IsMet_nothing_00 ⟨(wName 13).toArray⟩ ⟨(wParts 13).toArray⟩ ⟨(wTakes 13).toArray⟩ false _ _ _ _ _ _ c ⟨13, r, s, n⟩ r s rfl rfl hr hs w (by decide +kernel) (by decide +kernel)
  ex c w k hk hn hm ht := by
    rw [show (⟨13, (r : Int), (s : Int), n⟩ : Ln).word.toNat = 13 from rfl, exW_jump 13 k c ⟨13, r, s, n⟩ rfl hn, exL_one]
    exact Exits_13 ⟨(wName 13).toArray⟩ ⟨(wParts 13).toArray⟩ ⟨(wTakes 13).toArray⟩ false _ _ _ _ k hk c hn ⟨13, r, s, n⟩ r s rfl rfl hr hs w
theorem lineW_end (s0 r s : Nat) (n : Int) (hr : r < 8) (hs : s < 8) : LineW s0 ⟨16, r, s, n⟩ where
  word := rfl
  row := by show 16 < 17; omega
  met c w ht := IsMet_nothing_10 ⟨(wName 16).toArray⟩ ⟨(wParts 16).toArray⟩ ⟨(wTakes 16).toArray⟩ false _ _ _ _ _ _ c ⟨16, r, s, n⟩ r s rfl rfl hr hs w (by decide +kernel) (by decide +kernel)
  ex c w k hk hn hm ht := by
    rw [show (⟨16, (r : Int), (s : Int), n⟩ : Ln).word.toNat = 16 from rfl, exW_never 16 k c ⟨16, r, s, n⟩ rfl rfl]
    exact Exits_16 ⟨(wName 16).toArray⟩ ⟨(wParts 16).toArray⟩ ⟨(wTakes 16).toArray⟩ false _ _ _ _ k hk c hn ⟨16, r, s, n⟩ r s rfl rfl hr hs w

theorem next14_no (c : Cl) (r s : Nat) (n : Int) (h : r ≠ s) (h1 : c.hi r < c.lo s) : nextW 14 c ⟨14, r, s, n⟩ = clNever := by
  show (if r = s then c else if c.hi r < c.lo s then clNever else _) = clNever
  rw [if_neg h, if_pos h1]
theorem next14_yes (c : Cl) (r s : Nat) (n : Int) (h : r ≠ s) (h1 : c.lo s ≤ c.hi r) : nextW 14 c ⟨14, r, s, n⟩ = (c.with_ r (max (c.lo r) (c.lo s)) (c.hi r)).with_ s (c.lo s) (min (c.hi s) (c.hi r)) := by
  show (if r = s then c else if c.hi r < c.lo s then clNever else _) = _
  rw [if_neg h, if_neg (by omega)]; rfl
theorem jump14_no (c : Cl) (r s : Nat) (n : Int) (h : r ≠ s) (h1 : c.hi s ≤ c.lo r) : jumpW 14 c ⟨14, r, s, n⟩ = clNever := by
  show (if r = s then clNever else if c.hi s ≤ c.lo r then clNever else _) = clNever
  rw [if_neg h, if_pos h1]
theorem jump14_yes (c : Cl) (r s : Nat) (n : Int) (h : r ≠ s) (h1 : c.lo r < c.hi s) : jumpW 14 c ⟨14, r, s, n⟩ = (c.with_ r (c.lo r) (min (c.hi r) (wrap64 (c.hi s - 1)))).with_ s (max (c.lo s) (wrap64 (c.lo r + 1))) (c.hi s) := by
  show (if r = s then clNever else if c.hi s ≤ c.lo r then clNever else _) = _
  rw [if_neg h, if_neg (by omega)]; rfl
theorem lineW_jlt (s0 r s : Nat) (n : Int) (hr : r < 8) (hs : s < 8) (hrs : r ≠ s) : LineW s0 ⟨14, r, s, n⟩ where
  word := rfl
  row := by show 14 < 17; omega
  met c w ht := IsMet_nothing_11 ⟨(wName 14).toArray⟩ ⟨(wParts 14).toArray⟩ ⟨(wTakes 14).toArray⟩ true _ _ _ _ _ _ c ⟨14, r, s, n⟩ r s rfl rfl hr hs w (by decide +kernel) (by decide +kernel)
  ex c w k hk hn hm ht := by
    rw [show (⟨14, (r : Int), (s : Int), n⟩ : Ln).word.toNat = 14 from rfl]
    by_cases h1 : c.hi r < c.lo s
    · have e1 := next14_no c r s n hrs h1
      by_cases h2 : c.hi s ≤ c.lo r
      · have e2 := jump14_no c r s n hrs h2
        rw [exW_never 14 k c ⟨14, r, s, n⟩ (by rw [e1]; rfl) (by rw [e2]; rfl)]
        exact Exits_14_00 ⟨(wName 14).toArray⟩ ⟨(wParts 14).toArray⟩ ⟨(wTakes 14).toArray⟩ true _ _ _ _ k hk c hn ⟨14, r, s, n⟩ r s rfl rfl hr hs w hrs (s0 + 45) (s0 + 46) (s0 + 47) (s0 + 48) (ht 46 (by omega)) (ht 48 (by omega)) h1 h2
      · have e2 := jump14_yes c r s n hrs (by omega)
        rw [exW_jump 14 k c ⟨14, r, s, n⟩ (by rw [e1]; rfl) (by rw [e2]; exact hn), exL_one, e2]
        exact Exits_14_01 ⟨(wName 14).toArray⟩ ⟨(wParts 14).toArray⟩ ⟨(wTakes 14).toArray⟩ true _ _ _ _ k hk c hn ⟨14, r, s, n⟩ r s rfl rfl hr hs w hrs (s0 + 45) (s0 + 46) (s0 + 47) (s0 + 48) (ht 46 (by omega)) (ht 48 (by omega)) h1 (by omega)
    · have e1 := next14_yes c r s n hrs (by omega)
      by_cases h2 : c.hi s ≤ c.lo r
      · have e2 := jump14_no c r s n hrs h2
        rw [exW_next 14 k c ⟨14, r, s, n⟩ (by rw [e1]; exact hn) (by rw [e2]; rfl), exL_one, e1]
        exact Exits_14_10 ⟨(wName 14).toArray⟩ ⟨(wParts 14).toArray⟩ ⟨(wTakes 14).toArray⟩ true _ _ _ _ k hk c hn ⟨14, r, s, n⟩ r s rfl rfl hr hs w hrs (s0 + 45) (s0 + 46) (s0 + 47) (s0 + 48) (ht 46 (by omega)) (ht 48 (by omega)) (by omega) h2
      · have e2 := jump14_yes c r s n hrs (by omega)
        rw [exW_both 14 k c ⟨14, r, s, n⟩ (by rw [e1]; exact hn) (by rw [e2]; exact hn), exL_two, e1, e2]
        exact Exits_14_11 ⟨(wName 14).toArray⟩ ⟨(wParts 14).toArray⟩ ⟨(wTakes 14).toArray⟩ true _ _ _ _ k hk c hn ⟨14, r, s, n⟩ r s rfl rfl hr hs w hrs (s0 + 45) (s0 + 46) (s0 + 47) (s0 + 48) (ht 46 (by omega)) (ht 48 (by omega)) (by omega) (by omega)

end Go.Proofs.YtngopilbpiplhaaGreatDoor
