/-
  A text cut at one byte: the library's pieces are those of a plain function on lists.
-/
import Derived.Lib.SplitLaws
import Derived.Lib.Split
import Derived.Lib.CountLaws
import Derived.Lib.CutLaws
import Derived.Lib.IndexBytes
import Derived.Lib.IndexLaws
import Derived.Test.YtngopilbpiplhaaGreatDoorPure
namespace Go.Proofs.YtngopilbpiplhaaGreatDoor

/-- A list cut at a byte. -/
def cutAt (c : UInt8) : List UInt8 → List (List UInt8)
  | [] => [[]]
  | b :: l => if b = c then [] :: cutAt c l else
    match cutAt c l with
    | [] => [[b]]
    | p :: r => (b :: p) :: r

theorem cutAt_ne (c : UInt8) (l : List UInt8) : cutAt c l ≠ [] := by
  cases l with
  | nil => simp [cutAt]
  | cons b l =>
    unfold cutAt
    split
    · simp
    · split <;> simp

theorem cutAt_miss (c : UInt8) : ∀ l : List UInt8, c ∉ l → cutAt c l = [l]
  | [], _ => rfl
  | b :: l, h => by
    have h1 : b ≠ c := fun e => h (by simp [e])
    have h2 := cutAt_miss c l (fun e => h (by simp [e]))
    simp [cutAt, h1, h2]
theorem cutAt_hit (c : UInt8) : ∀ (p l : List UInt8), c ∉ p → cutAt c (p ++ c :: l) = p :: cutAt c l
  | [], l, _ => by simp [cutAt]
  | b :: p, l, h => by
    have h1 : b ≠ c := fun e => h (by simp [e])
    have h2 := cutAt_hit c p l (fun e => h (by simp [e]))
    simp [cutAt, h1, h2]

theorem not_mem_of_get {c : UInt8} {l : List UInt8} (h : ∀ k : Nat, l[k]? ≠ some c) : c ∉ l := fun hm => by
  obtain ⟨k, hk, e⟩ := List.getElem_of_mem hm
  exact h k (by rw [List.getElem?_eq_getElem hk, e])

theorem splitB_one (c : UInt8) : ∀ (n : Nat) (s : ByteArray), s.size ≤ n →
    Lib.splitB ⟨#[c]⟩ 0 (Lib.countB s ⟨#[c]⟩) s = (cutAt c s.data.toList).map fun l => ⟨l.toArray⟩ := by
  intro n
  induction n with
  | zero =>
    intro s hs
    have e : s.data.toList = [] := by
      have := Lib.size_eq s
      exact List.eq_nil_of_length_eq_zero (by omega)
    have hi : Lib.indexB s ⟨#[c]⟩ = -1 := by
      show Lib.index s.data.toList [c] = -1
      rw [e]; rfl
    rw [Lib.splitB_miss _ _ _ _ hi, e]
    simp only [cutAt, List.map_cons, List.map_nil]
    rw [← e]
  | succ n ih =>
    intro s hs
    have ho : Lib.indexB s ⟨#[c]⟩ = Lib.indexByte s.data.toList c := Lib.index_one s.data.toList c
    rcases Lib.indexB_cases s ⟨#[c]⟩ with hi | ⟨i, hi, hle⟩
    · rw [Lib.splitB_miss _ _ _ _ hi]
      have hm : c ∉ s.data.toList := not_mem_of_get (Lib.indexByte_none (by rw [← ho, hi]))
      rw [cutAt_miss c _ hm]
      simp
    · have h1 : (1 : Nat) ≤ (⟨#[c]⟩ : ByteArray).size := Nat.le_refl _
      have hz : (⟨#[c]⟩ : ByteArray).size = 1 := rfl
      rw [Lib.countB_hit s ⟨#[c]⟩ i h1 hi, Nat.add_comm, Lib.splitB_hit _ _ _ _ i hi]
      rw [hz] at hle
      rw [hz, ih _ (by rw [ByteArray.size_extract]; omega)]
      obtain ⟨hc, hno⟩ := Lib.indexByte_some (l := s.data.toList) (c := c) (o := i) (by rw [← ho, hi])
      have hlen := Lib.size_eq s
      have hil : i < s.data.toList.length := by omega
      have hsp : s.data.toList = s.data.toList.take i ++ c :: s.data.toList.drop (i + 1) := by
        have e : s.data.toList[i] = c := by rw [List.getElem?_eq_getElem hil] at hc; exact Option.some.inj hc
        conv => lhs; rw [← List.take_append_drop i s.data.toList, List.drop_eq_getElem_cons hil, e]
      have hm : c ∉ s.data.toList.take i := not_mem_of_get (fun k => by
        rw [List.getElem?_take]
        split
        · exact hno k (by assumption)
        · simp)
      have hx : (s.extract (i + 1) s.size).data.toList = s.data.toList.drop (i + 1) := by
        rw [ByteArray.data_extract, Array.toList_extract, List.extract_eq_take_drop]
        rw [List.take_of_length_le (by rw [List.length_drop]; omega)]
      have hcut : cutAt c s.data.toList = s.data.toList.take i :: cutAt c (s.data.toList.drop (i + 1)) := by
        conv => lhs; rw [hsp]
        exact cutAt_hit c _ _ hm
      rw [hcut, hx]
      simp only [List.map_cons]
      congr 1
      exact ByteArray.ext (by
        have h := Lib.extract_from_zero s (i + 0)
        rw [Nat.add_zero] at h ⊢
        show _ = (List.take i s.data.toList).toArray
        rw [← h])

theorem countB_one (s : ByteArray) (c : UInt8) : Lib.countB s ⟨#[c]⟩ + 1 = (cutAt c s.data.toList).length := by
  have h := splitB_one c s.size s (Nat.le_refl _)
  have h2 := Lib.splitB_all ⟨#[c]⟩ (Nat.le_refl _) 0 (Lib.countB s ⟨#[c]⟩) s rfl
  rw [h] at h2
  simpa using h2.symm

theorem cutAt_len (c : UInt8) : ∀ l : List UInt8, (cutAt c l).length ≤ l.length + 1
  | [] => by simp [cutAt]
  | b :: l => by
    have h := cutAt_len c l
    unfold cutAt
    split
    · simp; omega
    · split
      · simp
      · rename_i p r e
        rw [e] at h
        simp at h ⊢; omega

theorem cutAt_piece (c : UInt8) : ∀ l p : List UInt8, p ∈ cutAt c l → p.length ≤ l.length
  | [], p, h => by simp [cutAt] at h; simp [h]
  | b :: l, p, h => by
    have ih := cutAt_piece c l
    unfold cutAt at h
    split at h
    · rcases List.mem_cons.1 h with h | h
      · simp [h]
      · have := ih p h; simp; omega
    · split at h
      · simp at h; simp [h]
      · rename_i q r e
        rcases List.mem_cons.1 h with h | h
        · have := ih q (by rw [e]; simp); simp [h]; omega
        · have := ih p (by rw [e]; simp [h]); simp; omega

end Go.Proofs.YtngopilbpiplhaaGreatDoor
