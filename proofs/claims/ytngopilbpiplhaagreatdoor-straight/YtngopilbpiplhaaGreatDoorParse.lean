/-
  The contracts of the small functions of package reader: parseRegister, parseNumber. Each answers what the plain function of its bytes says; nothing old is changed.
-/
import Derived.Test.YtngopilbpiplhaaGreatDoorBase
import Derived.Test.YtngopilbpiplhaaGreatDoorPure
import Derived.Test.YtngopilbpiplhaaGreatDoorShelf
namespace Go.Proofs.YtngopilbpiplhaaGreatDoor
open Go.RowKit

def resReg (o : Option Nat) : Value := match o with | some r => .tuple #[.int .i64 (r : Int), .bool true] | none => .tuple #[.int .i64 0, .bool false]

theorem two_bytes (s : ByteArray) (h : s.size = 2) : ∃ a b : UInt8, s = ⟨#[a, b]⟩ := by
  obtain ⟨⟨l⟩⟩ := s
  match l, h with
  | [a, b], _ => exact ⟨a, b, rfl⟩

theorem bget0 (a b : UInt8) (h : 0 < (⟨#[a, b]⟩ : ByteArray).size) : (⟨#[a, b]⟩ : ByteArray)[0] = a := rfl
theorem bget1 (a b : UInt8) (h : 1 < (⟨#[a, b]⟩ : ByteArray).size) : (⟨#[a, b]⟩ : ByteArray)[1] = b := rfl
theorem ret2_eq {k : IntKind} {a b : Int} {x y : Bool} (h : a = b) (g : x = y) : Ending.returned (.tuple #[.int k a, .bool x]) = .returned (.tuple #[.int k b, .bool y]) := by rw [h, g]

set_option maxHeartbeats 1000000 in
theorem parseRegister_any (s : ByteArray) (w : World) :
    Calls Tryz.prog 245 #[.string s] w fun e w' => e = .returned (resReg (regF s.data.toList)) ∧ w' = w := by
  by_cases h2 : s.size = 2
  · obtain ⟨a, b, rfl⟩ := two_bytes s h2
    clear h2
    go_enter Tryz.func245, Tryz.ntmps245
    go_wp2
    all_goals go_ret2
    all_goals refine ⟨?_, rfl⟩
    all_goals simp only [bget0, bget1] at *
    all_goals first
      | (rw [show regF [a, b] = none from if_neg (by omega)]; rfl)
      | (rw [show regF [a, b] = some (b.toNat - 48) from if_pos (by omega)]; exact ret2_eq (by omega) rfl)
  · have h2' : ((s.size : Int) != 2) = true := by rw [bne_iff_ne]; omega
    have hn : regF s.data.toList = none := by
      unfold regF
      split
      · rename_i a b e
        exact absurd (show s.size = 2 by rw [Lib.size_eq, e]; rfl) h2
      · rfl
    have HN := hide hn
    clear hn
    go_enter Tryz.func245, Tryz.ntmps245
    go_wp2
    all_goals go_ret2
    all_goals exact ⟨by rw [unhide HN]; rfl, rfl⟩

theorem numF_nil {l : List UInt8} (h : Lib.trimPrefix l [45] = []) : numF l = none := by simp [numF, h]
theorem numF_lead {l : List UInt8} {c : UInt8} {D : List UInt8} (h : Lib.trimPrefix l [45] = c :: D) (h1 : l ≠ [48]) (h2 : c.toNat = 48) : numF l = none := by
  have e : c = 48 := UInt8.toNat_inj.1 h2
  simp [numF, h, h1, e]
theorem numF_bad {l : List UInt8} {D : List UInt8} (h : Lib.trimPrefix l [45] = D) (h1 : allDig D = false) : numF l = none := by
  simp only [numF, h]
  split
  · rfl
  · simp [h1]
theorem numF_good {l : List UInt8} {c : UInt8} {D : List UInt8} (h : Lib.trimPrefix l [45] = c :: D) (h1 : l = [48] ∨ c.toNat ≠ 48) (h2 : allDig (c :: D) = true) :
    numF l = numOf (Lib.parseIntB 64 l) := by
  simp only [numF, h]
  have hno : ¬ (c :: D = [] ∨ l ≠ [48] ∧ (c :: D).head? = some 48) := by
    rintro (q | ⟨q, r⟩)
    · cases q
    · rcases h1 with h1 | h1
      · exact q h1
      · have e : c = 48 := by simpa using r
        exact h1 (by rw [e]; rfl)
  rw [if_neg hno, if_pos h2]
theorem trim_len (l p : List UInt8) : (Lib.trimPrefix l p).length ≤ l.length := by
  unfold Lib.trimPrefix
  split
  · simp
  · exact Nat.le_refl _
theorem sgetk (L : List UInt8) (k : Nat) (h : k < (⟨L.toArray⟩ : ByteArray).size) : (⟨L.toArray⟩ : ByteArray)[k] = L[k]'(by rw [Lib.size_eq] at h; simpa using h) := rfl
theorem sget0 (c : UInt8) (D : List UInt8) (h : 0 < (⟨(c :: D).toArray⟩ : ByteArray).size) : (⟨(c :: D).toArray⟩ : ByteArray)[0] = c := rfl

def NumRes (l : List UInt8) (w : World) (e : Ending) (w' : World) : Prop :=
  ∃ (n : Int) (ok : Bool), e = .returned (.tuple #[.int .i64 n, .bool ok]) ∧ (numF l = some n ∧ ok = true ∨ numF l = none ∧ ok = false) ∧ Below w.heap.size w w'
theorem below_bytesWorld (w : World) (e : TypeId) (s : ByteArray) : Below w.heap.size w (Lib.bytesWorld w e s) := by
  unfold Lib.bytesWorld
  have h : Below w.heap.size w (w.drew.alloc (.cells (Lib.bytesCells w e s) e)) := ((Below.refl _ _).drew).alloc (Nat.le_refl _) _
  refine ⟨h.os, h.tape, h.output, ?_, ?_⟩
  · unfold World.freeze; rw [if_neg (by omega)]; simp
  · intro k hk
    unfold World.freeze; rw [if_neg (by omega)]
    rw [← h.block k hk]
    simp only [Array.getElem?_modify]
    rw [if_neg (by omega)]
theorem NumRes.no {l : List UInt8} {w w' : World} (n : Int) (h : numF l = none) (hb : Below w.heap.size w w') : NumRes l w (.returned (.tuple #[.int .i64 n, .bool false])) w' := ⟨n, false, rfl, .inr ⟨h, rfl⟩, hb⟩
theorem NumRes.yes {l : List UInt8} {w w' : World} {n : Int} (h : numF l = some n) (hb : Below w.heap.size w w') : NumRes l w (.returned (.tuple #[.int .i64 n, .bool true])) w' := ⟨n, true, rfl, .inl ⟨h, rfl⟩, hb⟩

set_option maxHeartbeats 1000000 in
theorem parseNumber_any (l : List UInt8) (w : World) (hs : l.length ≤ 281474976710656) (hg : Glob w) :
    Calls Tryz.prog 246 #[.string ⟨l.toArray⟩] w fun e w' => NumRes l w e w' := by
  obtain ⟨ts, ps, hes⟩ := hg.errSyntax
  obtain ⟨tr, pr, her⟩ := hg.errRange
  go_enter Tryz.func246, Tryz.ntmps246
  go_wp2_with fail
  refine (Tryz.strings_TrimPrefix _ _ _).mono ?_
  rintro e w' ⟨rfl, rfl⟩
  generalize hD : Lib.trimPrefix (⟨l.toArray⟩ : ByteArray).data.toList (⟨#[45]⟩ : ByteArray).data.toList = D
  have HD : Hid (Lib.trimPrefix l [45] = D) := hide (by simpa using hD)
  clear hD
  cases D with
  | nil =>
    go_wp2
    go_ret2
    exact NumRes.no _ (numF_nil HD.out) (Below.refl _ _)
  | cons c D =>
    have hsz : 0 < (⟨(c :: D).toArray⟩ : ByteArray).size := by show 0 < (c :: D).toArray.size; simp
    have hlen := congrArg List.length HD.out
    have hlen2 := trim_len l [45]
    have hle : (c :: D).length ≤ 281474976710656 := by omega
    clear hlen hlen2
    by_cases hkey : l ≠ [48] ∧ c.toNat = 48
    · obtain ⟨hz, hc⟩ := hkey
      have hz' : (l == [48]) = false := by simpa using hz
      have hc' : (((⟨(c :: D).toArray⟩ : ByteArray)[0].toNat : Int) == 48) = true := by rw [sget0]; simp; omega
      go_wp2
      go_ret2
      exact NumRes.no _ (numF_lead HD.out hz hc) (Below.refl _ _)
    · have hor : l = [48] ∨ c.toNat ≠ 48 := by
        by_cases q : l = [48]
        · exact .inl q
        · exact .inr fun e => hkey ⟨q, e⟩
      clear hkey
      have HG := hide (numF_good HD.out hor)
      have HB := hide (numF_bad HD.out)
      have hcase : (l == [48]) = true ∨ (l == [48]) = false ∧ (((⟨(c :: D).toArray⟩ : ByteArray)[0].toNat : Int) == 48) = false := by
        rcases hor with h | h
        · exact .inl (by simpa using h)
        · by_cases q : l = [48]
          · exact .inl (by simpa using q)
          · exact .inr ⟨by simpa using q, by rw [sget0]; simp; omega⟩
      clear hor
      have hne : ((c :: D) == []) = false := rfl
      have hpos : 0 < (c :: D).length := by simp
      generalize c :: D = L at *
      rcases hcase with hz' | ⟨hz', hc'⟩
      all_goals
        go_wp2
        go_loop [23] (fun i => ∃ k : Nat, k ≤ L.length ∧ i = .int .i64 k ∧ allDig (L.take k) = true) (fun i => L.length - (intOf i).toNat)
        case atStart => exact ⟨0, Nat.zero_le _, rfl, rfl⟩
        case round =>
          obtain ⟨k, hk, rfl, hd⟩ := hrel
          have Hd := hide hd
          clear hd
          by_cases hlt : k < L.length
          · have hsn := allDig_snoc L k hlt
            have hbad := allDig_bad L k hlt
            have HS := hide hsn
            have HBD := hide hbad
            clear hsn hbad
            go_wp2
            all_goals simp only [sgetk] at *
            all_goals first
              | (go_round
                 case rel => exact ⟨k + 1, by omega, by go_num, by rw [HS.out, Hd.out]; simp; omega⟩
                 case measure => simp [intOf]; omega)
              | (go_ret2
                 exact NumRes.no _ (HB.out (HBD.out (by omega))) (Below.refl _ _))
          · have ha : allDig L = true := by have := Hd.out; rwa [List.take_of_length_le (by omega)] at this
            have HF := hide (HG.out ha)
            clear ha HG HB Hd
            have hsl : (⟨l.toArray⟩ : ByteArray).size = l.length := by simp [Lib.size_eq]
            have HL := hide hsl
            clear hsl
            go_wp2_with fail
            cases hp : Lib.parseIntB 64 l with
            | ok v =>
              have HP : Hid (Lib.parseIntB 64 l = .ok v) := hp
              clear hp
              refine (Tryz.strconv_ParseInt_10_at64_ok _ (by rw [HL.out]; omega) v (by simpa using HP.out) _).mono ?_
              rintro e w1 ⟨rfl, hw⟩
              have hb : Below w'.heap.size w' w1 := by
                rcases hw with rfl | ⟨t, rfl⟩
                · exact Below.refl _ _
                · exact below_bytesWorld _ _ _
              clear hw
              go_wp2
              go_quiet (fail)
              go_wp2
              go_ret2
              exact NumRes.yes (by rw [HF.out, HP.out]; rfl) (below_drewN hb _)
            | «syntax» =>
              have HP : Hid (Lib.parseIntB 64 l = .«syntax») := hp
              clear hp
              refine (Tryz.strconv_ParseInt_10_at64_syntax _ (by rw [HL.out]; omega) (by simpa using HP.out) _ _ hes (.inr ⟨_, _, rfl⟩)).mono ?_
              rintro e w1 ⟨N, rfl, hN, hcN, hb⟩
              clear hcN hN
              go_wp2
              go_quiet (fail)
              go_wp2
              go_ret2
              exact NumRes.no _ (by rw [HF.out, HP.out]; rfl) (below_drewN hb _)
            | range =>
              have HP : Hid (Lib.parseIntB 64 l = .range) := hp
              clear hp
              refine (Tryz.strconv_ParseInt_10_at64_range _ (by rw [HL.out]; omega) (by simpa using HP.out) _ _ her (.inr ⟨_, _, rfl⟩)).mono ?_
              rintro e w1 ⟨N, rfl, hN, hcN, hb⟩
              clear hcN hN
              go_wp2
              go_quiet (fail)
              go_wp2
              go_ret2
              exact NumRes.no _ (by rw [HF.out, HP.out]; rfl) (below_drewN hb _)

end Go.Proofs.YtngopilbpiplhaaGreatDoor
