/-
  The contracts of the small functions of package reader: parseRegister, parseNumber. Each answers what the plain function of its bytes says; nothing old is changed.
  The contracts of words.Find, Jumps, TakesR, TakesS: what the table's row says; new blocks alone.
  A text cut at one byte: the library's pieces are those of a plain function on lists.
  The contract of reader.parsePart: the line's block is as the plain function says; nothing else that was there is changed.
  The contract of reader.parseLine: the line that a text says, or none; new blocks alone.
  The contracts of reader.parse, lostJump, isLong and Read: the lines that a text says, or the first error with its place.
  The contracts of reader.lostJump and isLong.
  The contract of reader.Read: the lines of a program, or the first error with its place, for every text.
-/
import Derived.Test.YtngopilbpiplhaaGreatDoorZBase
import Derived.Test.YtngopilbpiplhaaGreatDoorZShelf2
import Derived.Laws.EntriesVeiled
import Derived.Lib.SplitLaws
import Derived.Lib.Split
import Derived.Lib.CountLaws
import Derived.Lib.CutLaws
import Derived.Lib.IndexBytes
import Derived.Lib.IndexLaws
namespace Go.Proofs.YtngopilbpiplhaaGreatDoor
open Go.RowKit

def resReg (o : Option Nat) : Value := match o with | some r => .tuple #[.int .i64 (r : Int), .bool true] | none => .tuple #[.int .i64 0, .bool false]

theorem two_bytes (s : ByteArray) (h : s.size = 2) : ∃ a b : UInt8, s = ⟨#[a, b]⟩ := by
  obtain ⟨⟨l⟩⟩ := s
  match l, h with
  | [a, b], _ => exact ⟨a, b, rfl⟩

theorem bget0 (a b : UInt8) (h : 0 < (⟨#[a, b]⟩ : ByteArray).size) : (⟨#[a, b]⟩ : ByteArray)[0] = a := rfl
theorem bget1 (a b : UInt8) (h : 1 < (⟨#[a, b]⟩ : ByteArray).size) : (⟨#[a, b]⟩ : ByteArray)[1] = b := rfl
theorem ret2_eq {k : IntKind} {a b : Int} {x y : Bool} (h : a = b) (g : x = y) : Ending.returned (.tuple #[.int k a, .bool x]) = .returned (.tuple #[.int k b, .bool y]) := by rw [h, g]

set_option maxHeartbeats 1000000 in
theorem parseRegister_any (s : ByteArray) (w : World) :
    Calls Tryz.prog 245 #[.string s] w fun e w' => e = .returned (resReg (regF s.data.toList)) ∧ w' = w := by
  by_cases h2 : s.size = 2
  · obtain ⟨a, b, rfl⟩ := two_bytes s h2
    clear h2
    go_enter Tryz.func245, Tryz.ntmps245
    go_wp2
    all_goals go_ret2
    all_goals refine ⟨?_, rfl⟩
    all_goals simp only [bget0, bget1] at *
    all_goals first
      | (rw [show regF [a, b] = none from if_neg (by omega)]; rfl)
      | (rw [show regF [a, b] = some (b.toNat - 48) from if_pos (by omega)]; exact ret2_eq (by omega) rfl)
  · have h2' : ((s.size : Int) != 2) = true := by rw [bne_iff_ne]; omega
    have hn : regF s.data.toList = none := by
      unfold regF
      split
      · rename_i a b e
        exact absurd (show s.size = 2 by rw [Lib.size_eq, e]; rfl) h2
      · rfl
    have HN := hide hn
    clear hn
    go_enter Tryz.func245, Tryz.ntmps245
    go_wp2
    all_goals go_ret2
    all_goals exact ⟨by rw [unhide HN]; rfl, rfl⟩

theorem numF_nil {l : List UInt8} (h : Lib.trimPrefix l [45] = []) : numF l = none := by simp [numF, h]
theorem numF_lead {l : List UInt8} {c : UInt8} {D : List UInt8} (h : Lib.trimPrefix l [45] = c :: D) (h1 : l ≠ [48]) (h2 : c.toNat = 48) : numF l = none := by
  have e : c = 48 := UInt8.toNat_inj.1 h2
  simp [numF, h, h1, e]
theorem numF_bad {l : List UInt8} {D : List UInt8} (h : Lib.trimPrefix l [45] = D) (h1 : allDig D = false) : numF l = none := by
  simp only [numF, h]
  split
  · rfl
  · simp [h1]
theorem numF_good {l : List UInt8} {c : UInt8} {D : List UInt8} (h : Lib.trimPrefix l [45] = c :: D) (h1 : l = [48] ∨ c.toNat ≠ 48) (h2 : allDig (c :: D) = true) :
    numF l = numOf (Lib.parseIntB 64 l) := by
  simp only [numF, h]
  have hno : ¬ (c :: D = [] ∨ l ≠ [48] ∧ (c :: D).head? = some 48) := by
    rintro (q | ⟨q, r⟩)
    · cases q
    · rcases h1 with h1 | h1
      · exact q h1
      · have e : c = 48 := by simpa using r
        exact h1 (by rw [e]; rfl)
  rw [if_neg hno, if_pos h2]
theorem trim_len (l p : List UInt8) : (Lib.trimPrefix l p).length ≤ l.length := by
  unfold Lib.trimPrefix
  split
  · simp
  · exact Nat.le_refl _
theorem sgetk (L : List UInt8) (k : Nat) (h : k < (⟨L.toArray⟩ : ByteArray).size) : (⟨L.toArray⟩ : ByteArray)[k] = L[k]'(by rw [Lib.size_eq] at h; simpa using h) := rfl
theorem sget0 (c : UInt8) (D : List UInt8) (h : 0 < (⟨(c :: D).toArray⟩ : ByteArray).size) : (⟨(c :: D).toArray⟩ : ByteArray)[0] = c := rfl

def NumRes (l : List UInt8) (w : World) (e : Ending) (w' : World) : Prop :=
  ∃ (n : Int) (ok : Bool), e = .returned (.tuple #[.int .i64 n, .bool ok]) ∧ (numF l = some n ∧ ok = true ∨ numF l = none ∧ ok = false) ∧ Below w.heap.size w w'
theorem below_bytesWorld (w : World) (e : TypeId) (s : ByteArray) : Below w.heap.size w (Lib.bytesWorld w e s) := by
  unfold Lib.bytesWorld
  have h : Below w.heap.size w (w.drew.alloc (.cells (Lib.bytesCells w e s) e)) := ((Below.refl _ _).drew).alloc (Nat.le_refl _) _
  refine ⟨h.os, h.tape, h.output, ?_, ?_⟩
  · unfold World.freeze; rw [if_neg (by omega)]; simp
  · intro k hk
    unfold World.freeze; rw [if_neg (by omega)]
    rw [← h.block k hk]
    simp only [Array.getElem?_modify]
    rw [if_neg (by omega)]
theorem NumRes.no {l : List UInt8} {w w' : World} (n : Int) (h : numF l = none) (hb : Below w.heap.size w w') : NumRes l w (.returned (.tuple #[.int .i64 n, .bool false])) w' := ⟨n, false, rfl, .inr ⟨h, rfl⟩, hb⟩
theorem NumRes.yes {l : List UInt8} {w w' : World} {n : Int} (h : numF l = some n) (hb : Below w.heap.size w w') : NumRes l w (.returned (.tuple #[.int .i64 n, .bool true])) w' := ⟨n, true, rfl, .inl ⟨h, rfl⟩, hb⟩

set_option maxHeartbeats 1000000 in
theorem parseNumber_any (l : List UInt8) (w : World) (hs : l.length ≤ 281474976710656) (hg : Glob w) :
    Calls Tryz.prog 246 #[.string ⟨l.toArray⟩] w fun e w' => NumRes l w e w' := by
  obtain ⟨ts, ps, hes⟩ := hg.errSyntax
  obtain ⟨tr, pr, her⟩ := hg.errRange
  go_enter Tryz.func246, Tryz.ntmps246
  go_wp2_with fail
  refine (Tryz.strings_TrimPrefix _ _ _).mono ?_
  rintro e w' ⟨rfl, rfl⟩
  generalize hD : Lib.trimPrefix (⟨l.toArray⟩ : ByteArray).data.toList (⟨#[45]⟩ : ByteArray).data.toList = D
  have HD : Hid (Lib.trimPrefix l [45] = D) := hide (by simpa using hD)
  clear hD
  cases D with
  | nil =>
    go_wp2
    go_ret2
    exact NumRes.no _ (numF_nil HD.out) (Below.refl _ _)
  | cons c D =>
    have hsz : 0 < (⟨(c :: D).toArray⟩ : ByteArray).size := by show 0 < (c :: D).toArray.size; simp
    have hlen := congrArg List.length HD.out
    have hlen2 := trim_len l [45]
    have hle : (c :: D).length ≤ 281474976710656 := by omega
    clear hlen hlen2
    by_cases hkey : l ≠ [48] ∧ c.toNat = 48
    · obtain ⟨hz, hc⟩ := hkey
      have hz' : (l == [48]) = false := by simpa using hz
      have hc' : (((⟨(c :: D).toArray⟩ : ByteArray)[0].toNat : Int) == 48) = true := by rw [sget0]; simp; omega
      go_wp2
      go_ret2
      exact NumRes.no _ (numF_lead HD.out hz hc) (Below.refl _ _)
    · have hor : l = [48] ∨ c.toNat ≠ 48 := by
        by_cases q : l = [48]
        · exact .inl q
        · exact .inr fun e => hkey ⟨q, e⟩
      clear hkey
      have HG := hide (numF_good HD.out hor)
      have HB := hide (numF_bad HD.out)
      have hcase : (l == [48]) = true ∨ (l == [48]) = false ∧ (((⟨(c :: D).toArray⟩ : ByteArray)[0].toNat : Int) == 48) = false := by
        rcases hor with h | h
        · exact .inl (by simpa using h)
        · by_cases q : l = [48]
          · exact .inl (by simpa using q)
          · exact .inr ⟨by simpa using q, by rw [sget0]; simp; omega⟩
      clear hor
      have hne : ((c :: D) == []) = false := rfl
      have hpos : 0 < (c :: D).length := by simp
      generalize c :: D = L at *
      rcases hcase with hz' | ⟨hz', hc'⟩
      all_goals
        go_wp2
        go_loop [23] (fun i => ∃ k : Nat, k ≤ L.length ∧ i = .int .i64 k ∧ allDig (L.take k) = true) (fun i => L.length - (intOf i).toNat)
        case atStart => exact ⟨0, Nat.zero_le _, rfl, rfl⟩
        case round =>
          obtain ⟨k, hk, rfl, hd⟩ := hrel
          have Hd := hide hd
          clear hd
          by_cases hlt : k < L.length
          · have hsn := allDig_snoc L k hlt
            have hbad := allDig_bad L k hlt
            have HS := hide hsn
            have HBD := hide hbad
            clear hsn hbad
            go_wp2
            all_goals simp only [sgetk] at *
            all_goals first
              | (go_round
                 case rel => exact ⟨k + 1, by omega, by go_num, by rw [HS.out, Hd.out]; simp; omega⟩
                 case measure => simp [intOf]; omega)
              | (go_ret2
                 exact NumRes.no _ (HB.out (HBD.out (by omega))) (Below.refl _ _))
          · have ha : allDig L = true := by have := Hd.out; rwa [List.take_of_length_le (by omega)] at this
            have HF := hide (HG.out ha)
            clear ha HG HB Hd
            have hsl : (⟨l.toArray⟩ : ByteArray).size = l.length := by simp [Lib.size_eq]
            have HL := hide hsl
            clear hsl
            go_wp2_with fail
            cases hp : Lib.parseIntB 64 l with
            | ok v =>
              have HP : Hid (Lib.parseIntB 64 l = .ok v) := hp
              clear hp
              refine (Tryz.strconv_ParseInt_10_at64_ok _ (by rw [HL.out]; omega) v (by simpa using HP.out) _).mono ?_
              rintro e w1 ⟨rfl, hw⟩
              have hb : Below w'.heap.size w' w1 := by
                rcases hw with rfl | ⟨t, rfl⟩
                · exact Below.refl _ _
                · exact below_bytesWorld _ _ _
              clear hw
              go_wp2
              go_quiet (fail)
              go_wp2
              go_ret2
              exact NumRes.yes (by rw [HF.out, HP.out]; rfl) (below_drewN hb _)
            | «syntax» =>
              have HP : Hid (Lib.parseIntB 64 l = .«syntax») := hp
              clear hp
              refine (Tryz.strconv_ParseInt_10_at64_syntax _ (by rw [HL.out]; omega) (by simpa using HP.out) _ _ hes (.inr ⟨_, _, rfl⟩)).mono ?_
              rintro e w1 ⟨N, rfl, hN, hcN, hb⟩
              clear hcN hN
              go_wp2
              go_quiet (fail)
              go_wp2
              go_ret2
              exact NumRes.no _ (by rw [HF.out, HP.out]; rfl) (below_drewN hb _)
            | range =>
              have HP : Hid (Lib.parseIntB 64 l = .range) := hp
              clear hp
              refine (Tryz.strconv_ParseInt_10_at64_range _ (by rw [HL.out]; omega) (by simpa using HP.out) _ _ her (.inr ⟨_, _, rfl⟩)).mono ?_
              rintro e w1 ⟨N, rfl, hN, hcN, hb⟩
              clear hcN hN
              go_wp2
              go_quiet (fail)
              go_wp2
              go_ret2
              exact NumRes.no _ (by rw [HF.out, HP.out]; rfl) (below_drewN hb _)

end Go.Proofs.YtngopilbpiplhaaGreatDoor

namespace Go.Proofs.YtngopilbpiplhaaGreatDoor
open Go.RowKit

/-- The row of the word of that name. -/
def findF (nm : List UInt8) : Option Nat := (List.range 17).find? fun i => wName i == nm
theorem findF_some {nm : List UInt8} {k : Nat} (hk : k < 17) (h : wName k = nm) (hb : ∀ i, i < k → wName i ≠ nm) : findF nm = some k := by
  unfold findF
  rw [List.find?_range_eq_some]
  exact ⟨by simpa using h, by simpa using hk, fun j hj => by simpa using hb j hj⟩
theorem findF_none {nm : List UInt8} (hb : ∀ i, i < 17 → wName i ≠ nm) : findF nm = none := by
  unfold findF
  rw [List.find?_range_eq_none]
  intro i hi
  simpa using hb i hi

theorem row_funcs (s : Nat) {k : Nat} (hk : k < 17) : ∃ f4 b4 f5 b5 f6 b6 f7 b7, wDo s k = .func (.func f4) #[] b4 ∧ wNeeds s k = .func (.func f5) #[] b5 ∧ wNext s k = .func (.func f6) #[] b6 ∧ wJump s k = .func (.func f7) #[] b7 := by
  match k, hk with
  | 0, _ => exact ⟨_, _, _, _, _, _, _, _, rfl, rfl, rfl, rfl⟩
  | 1, _ => exact ⟨_, _, _, _, _, _, _, _, rfl, rfl, rfl, rfl⟩
  | 2, _ => exact ⟨_, _, _, _, _, _, _, _, rfl, rfl, rfl, rfl⟩
  | 3, _ => exact ⟨_, _, _, _, _, _, _, _, rfl, rfl, rfl, rfl⟩
  | 4, _ => exact ⟨_, _, _, _, _, _, _, _, rfl, rfl, rfl, rfl⟩
  | 5, _ => exact ⟨_, _, _, _, _, _, _, _, rfl, rfl, rfl, rfl⟩
  | 6, _ => exact ⟨_, _, _, _, _, _, _, _, rfl, rfl, rfl, rfl⟩
  | 7, _ => exact ⟨_, _, _, _, _, _, _, _, rfl, rfl, rfl, rfl⟩
  | 8, _ => exact ⟨_, _, _, _, _, _, _, _, rfl, rfl, rfl, rfl⟩
  | 9, _ => exact ⟨_, _, _, _, _, _, _, _, rfl, rfl, rfl, rfl⟩
  | 10, _ => exact ⟨_, _, _, _, _, _, _, _, rfl, rfl, rfl, rfl⟩
  | 11, _ => exact ⟨_, _, _, _, _, _, _, _, rfl, rfl, rfl, rfl⟩
  | 12, _ => exact ⟨_, _, _, _, _, _, _, _, rfl, rfl, rfl, rfl⟩
  | 13, _ => exact ⟨_, _, _, _, _, _, _, _, rfl, rfl, rfl, rfl⟩
  | 14, _ => exact ⟨_, _, _, _, _, _, _, _, rfl, rfl, rfl, rfl⟩
  | 15, _ => exact ⟨_, _, _, _, _, _, _, _, rfl, rfl, rfl, rfl⟩
  | 16, _ => exact ⟨_, _, _, _, _, _, _, _, rfl, rfl, rfl, rfl⟩
  | n + 17, h => exact absurd h (by omega)

set_option maxHeartbeats 1000000 in
theorem Find_any (nm : List UInt8) (s : Nat) (w : World) (ht : w.heap[s + 55]? = some (.cells (trows s) 140)) :
    Calls Tryz.prog 198 #[.slice (some ⟨s + 55, 0, none⟩) 17 17, .string ⟨nm.toArray⟩] w fun e w' => e = .returned (resReg (findF nm)) ∧ Below w.heap.size w w' := by
  have HT := hide ht
  have hlt := blk_lt ht
  clear ht
  go_enter Tryz.func198, Tryz.ntmps198
  go_wp2
  go_loopw [10] (fun i w' => ∃ k : Nat, k ≤ 17 ∧ i = .int .i64 k ∧ (∀ j, j < k → wName j ≠ nm) ∧ Below w.heap.size w w') (fun i _ => 17 - (intOf i).toNat)
  case atStart => exact ⟨0, by omega, rfl, fun j h => absurd h (by omega), Below.refl _ _⟩
  case round =>
    obtain ⟨k, hk, rfl, hno, hb⟩ := hrel
    have HN := hide hno
    clear hno
    by_cases hk7 : k < 17
    · have hr := rowAt (w := wr) (s := s) (i := k) (by rw [hb.block _ hlt]; exact HT.out) hk7
      obtain ⟨r0, r1, r2, r3, r4, r5, r6, r7⟩ := hr
      obtain ⟨f4, b4, f5, b5, f6, b6, f7, b7, e4, e5, e6, e7⟩ := row_funcs s hk7
      rw [e4] at r4
      rw [e5] at r5
      rw [e6] at r6
      rw [e7] at r7
      clear e4 e5 e6 e7
      by_cases hnm : wName k = nm
      · have HF := hide (findF_some hk7 hnm HN.out)
        have hnm' : (wName k == nm) = true := by simpa using hnm
        clear hnm
        go_wp2
        go_ret2
        refine ⟨by rw [HF.out]; rfl, ?_⟩
        exact hb.trans ((Below.refl _ _).alloc hb.size _)
      · have HF := hide hnm
        have hnm' : (wName k == nm) = false := by simpa using hnm
        clear hnm
        go_wp2
        go_roundw
        case rel =>
          refine ⟨k + 1, by omega, by go_num, fun j hj => ?_, hb.trans ((Below.refl _ _).alloc hb.size _)⟩
          rcases Nat.lt_succ_iff_lt_or_eq.1 hj with h | h
          · exact HN.out j h
          · rw [h]; exact HF.out
        case measure => simp [intOf]; omega
    · obtain rfl : k = 17 := by omega
      have HF := hide (findF_none HN.out)
      clear HN
      go_wp2
      go_ret2
      exact ⟨by rw [HF.out]; rfl, hb⟩

/-- Does a text bear a letter? -/
def hasB (l : List UInt8) (c : UInt8) : Bool := decide (0 ≤ Lib.indexByte l c)

set_option maxHeartbeats 400000 in
theorem Jumps_any (n p t : ByteArray) (fl : Bool) (f4 : FuncId) (b4 : Array Value) (f5 : FuncId) (b5 : Array Value) (f6 : FuncId) (b6 : Array Value) (f7 : FuncId) (b7 : Array Value) (w : World) :
    Calls Tryz.prog 158 #[.agg #[.string n, .string p, .string t, .bool fl, .func (.func f4) #[] b4, .func (.func f5) #[] b5, .func (.func f6) #[] b6, .func (.func f7) #[] b7]] w
      fun e w' => e = .returned (.bool (hasB p.data.toList 76)) ∧ Below w.heap.size w w' := by
  go_enter Tryz.func158, Tryz.ntmps158
  go_wp2_with (go_at_call 201; refine (Tryz.strings_Contains_one _ _ _).mono ?_; rintro e w' ⟨rfl, rfl⟩)
  go_ret
  exact ⟨rfl, (Below.refl _ _).alloc (Nat.le_refl _) _⟩
set_option maxHeartbeats 400000 in
theorem TakesR_any (n p t : ByteArray) (fl : Bool) (f4 : FuncId) (b4 : Array Value) (f5 : FuncId) (b5 : Array Value) (f6 : FuncId) (b6 : Array Value) (f7 : FuncId) (b7 : Array Value) (w : World) :
    Calls Tryz.prog 202 #[.agg #[.string n, .string p, .string t, .bool fl, .func (.func f4) #[] b4, .func (.func f5) #[] b5, .func (.func f6) #[] b6, .func (.func f7) #[] b7]] w
      fun e w' => e = .returned (.bool (hasB t.data.toList 82)) ∧ Below w.heap.size w w' := by
  go_enter Tryz.func202, Tryz.ntmps202
  go_wp2_with (go_at_call 201; refine (Tryz.strings_Contains_one _ _ _).mono ?_; rintro e w' ⟨rfl, rfl⟩)
  go_ret
  exact ⟨rfl, (Below.refl _ _).alloc (Nat.le_refl _) _⟩
set_option maxHeartbeats 400000 in
theorem TakesS_any (n p t : ByteArray) (fl : Bool) (f4 : FuncId) (b4 : Array Value) (f5 : FuncId) (b5 : Array Value) (f6 : FuncId) (b6 : Array Value) (f7 : FuncId) (b7 : Array Value) (w : World) :
    Calls Tryz.prog 204 #[.agg #[.string n, .string p, .string t, .bool fl, .func (.func f4) #[] b4, .func (.func f5) #[] b5, .func (.func f6) #[] b6, .func (.func f7) #[] b7]] w
      fun e w' => e = .returned (.bool (hasB t.data.toList 83)) ∧ Below w.heap.size w w' := by
  go_enter Tryz.func204, Tryz.ntmps204
  go_wp2_with (go_at_call 201; refine (Tryz.strings_Contains_one _ _ _).mono ?_; rintro e w' ⟨rfl, rfl⟩)
  go_ret
  exact ⟨rfl, (Below.refl _ _).alloc (Nat.le_refl _) _⟩

end Go.Proofs.YtngopilbpiplhaaGreatDoor

namespace Go.Proofs.YtngopilbpiplhaaGreatDoor

/-- A list cut at a byte. -/
def cutAt (c : UInt8) : List UInt8 → List (List UInt8)
  | [] => [[]]
  | b :: l => if b = c then [] :: cutAt c l else
    match cutAt c l with
    | [] => [[b]]
    | p :: r => (b :: p) :: r

theorem cutAt_ne (c : UInt8) (l : List UInt8) : cutAt c l ≠ [] := by
  cases l with
  | nil => simp [cutAt]
  | cons b l =>
    unfold cutAt
    split
    · simp
    · split <;> simp

theorem cutAt_miss (c : UInt8) : ∀ l : List UInt8, c ∉ l → cutAt c l = [l]
  | [], _ => rfl
  | b :: l, h => by
    have h1 : b ≠ c := fun e => h (by simp [e])
    have h2 := cutAt_miss c l (fun e => h (by simp [e]))
    simp [cutAt, h1, h2]
theorem cutAt_hit (c : UInt8) : ∀ (p l : List UInt8), c ∉ p → cutAt c (p ++ c :: l) = p :: cutAt c l
  | [], l, _ => by simp [cutAt]
  | b :: p, l, h => by
    have h1 : b ≠ c := fun e => h (by simp [e])
    have h2 := cutAt_hit c p l (fun e => h (by simp [e]))
    simp [cutAt, h1, h2]

theorem not_mem_of_get {c : UInt8} {l : List UInt8} (h : ∀ k : Nat, l[k]? ≠ some c) : c ∉ l := fun hm => by
  obtain ⟨k, hk, e⟩ := List.getElem_of_mem hm
  exact h k (by rw [List.getElem?_eq_getElem hk, e])

theorem splitB_one (c : UInt8) : ∀ (n : Nat) (s : ByteArray), s.size ≤ n →
    Lib.splitB ⟨#[c]⟩ 0 (Lib.countB s ⟨#[c]⟩) s = (cutAt c s.data.toList).map fun l => ⟨l.toArray⟩ := by
  intro n
  induction n with
  | zero =>
    intro s hs
    have e : s.data.toList = [] := by
      have := Lib.size_eq s
      exact List.eq_nil_of_length_eq_zero (by omega)
    have hi : Lib.indexB s ⟨#[c]⟩ = -1 := by
      show Lib.index s.data.toList [c] = -1
      rw [e]; rfl
    rw [Lib.splitB_miss _ _ _ _ hi, e]
    simp only [cutAt, List.map_cons, List.map_nil]
    rw [← e]
  | succ n ih =>
    intro s hs
    have ho : Lib.indexB s ⟨#[c]⟩ = Lib.indexByte s.data.toList c := Lib.index_one s.data.toList c
    rcases Lib.indexB_cases s ⟨#[c]⟩ with hi | ⟨i, hi, hle⟩
    · rw [Lib.splitB_miss _ _ _ _ hi]
      have hm : c ∉ s.data.toList := not_mem_of_get (Lib.indexByte_none (by rw [← ho, hi]))
      rw [cutAt_miss c _ hm]
      simp
    · have h1 : (1 : Nat) ≤ (⟨#[c]⟩ : ByteArray).size := Nat.le_refl _
      have hz : (⟨#[c]⟩ : ByteArray).size = 1 := rfl
      rw [Lib.countB_hit s ⟨#[c]⟩ i h1 hi, Nat.add_comm, Lib.splitB_hit _ _ _ _ i hi]
      rw [hz] at hle
      rw [hz, ih _ (by rw [ByteArray.size_extract]; omega)]
      obtain ⟨hc, hno⟩ := Lib.indexByte_some (l := s.data.toList) (c := c) (o := i) (by rw [← ho, hi])
      have hlen := Lib.size_eq s
      have hil : i < s.data.toList.length := by omega
      have hsp : s.data.toList = s.data.toList.take i ++ c :: s.data.toList.drop (i + 1) := by
        have e : s.data.toList[i] = c := by rw [List.getElem?_eq_getElem hil] at hc; exact Option.some.inj hc
        conv => lhs; rw [← List.take_append_drop i s.data.toList, List.drop_eq_getElem_cons hil, e]
      have hm : c ∉ s.data.toList.take i := not_mem_of_get (fun k => by
        rw [List.getElem?_take]
        split
        · exact hno k (by assumption)
        · simp)
      have hx : (s.extract (i + 1) s.size).data.toList = s.data.toList.drop (i + 1) := by
        rw [ByteArray.data_extract, Array.toList_extract, List.extract_eq_take_drop]
        rw [List.take_of_length_le (by rw [List.length_drop]; omega)]
      have hcut : cutAt c s.data.toList = s.data.toList.take i :: cutAt c (s.data.toList.drop (i + 1)) := by
        conv => lhs; rw [hsp]
        exact cutAt_hit c _ _ hm
      rw [hcut, hx]
      simp only [List.map_cons]
      congr 1
      exact ByteArray.ext (by
        have h := Lib.extract_from_zero s (i + 0)
        rw [Nat.add_zero] at h ⊢
        show _ = (List.take i s.data.toList).toArray
        rw [← h])

theorem countB_one (s : ByteArray) (c : UInt8) : Lib.countB s ⟨#[c]⟩ + 1 = (cutAt c s.data.toList).length := by
  have h := splitB_one c s.size s (Nat.le_refl _)
  have h2 := Lib.splitB_all ⟨#[c]⟩ (Nat.le_refl _) 0 (Lib.countB s ⟨#[c]⟩) s rfl
  rw [h] at h2
  simpa using h2.symm

theorem cutAt_len (c : UInt8) : ∀ l : List UInt8, (cutAt c l).length ≤ l.length + 1
  | [] => by simp [cutAt]
  | b :: l => by
    have h := cutAt_len c l
    unfold cutAt
    split
    · simp; omega
    · split
      · simp
      · rename_i p r e
        rw [e] at h
        simp at h ⊢; omega

theorem cutAt_piece (c : UInt8) : ∀ l p : List UInt8, p ∈ cutAt c l → p.length ≤ l.length
  | [], p, h => by simp [cutAt] at h; simp [h]
  | b :: l, p, h => by
    have ih := cutAt_piece c l
    unfold cutAt at h
    split at h
    · rcases List.mem_cons.1 h with h | h
      · simp [h]
      · have := ih p h; simp; omega
    · split at h
      · simp at h; simp [h]
      · rename_i q r e
        rcases List.mem_cons.1 h with h | h
        · have := ih q (by rw [e]; simp); simp [h]; omega
        · have := ih p (by rw [e]; simp [h]); simp; omega

end Go.Proofs.YtngopilbpiplhaaGreatDoor

namespace Go.Proofs.YtngopilbpiplhaaGreatDoor
open Go.RowKit

def lnArr (x : Ln) : Array Value := #[.int .i64 x.word, .int .i64 x.r, .int .i64 x.s, .int .i64 x.n]

/-- What parsePart leaves. -/
def PartRes (x : Ln) (c : UInt8) (t : List UInt8) (b : Nat) (w : World) (e : Ending) (w' : World) : Prop :=
  ∃ x' : Ln, e = .returned (.bool (partF x c t).isSome) ∧ w'.heap[b]? = some (.cells (lnArr x') 122) ∧ (∀ y, partF x c t = some y → x' = y) ∧ Keep w.heap.size b w w'

theorem lncells {w : World} {b : Nat} {x : Ln} (hb : w.heap[b]? = some (.cells (lnArr x) 122)) :
    (w.cell? ⟨b, 0, none⟩ = some (.int .i64 x.word) ∧ w.cell? ⟨b, 1, none⟩ = some (.int .i64 x.r) ∧ w.cell? ⟨b, 2, none⟩ = some (.int .i64 x.s) ∧ w.cell? ⟨b, 3, none⟩ = some (.int .i64 x.n)) ∧ ∀ o, w.frozen? ⟨b, o, none⟩ = false :=
  ⟨⟨cell_of_blk hb 0, cell_of_blk hb 1, cell_of_blk hb 2, cell_of_blk hb 3⟩, frozen_of_blk hb⟩

theorem PartRes.of {x : Ln} (x' : Ln) {c : UInt8} {t : List UInt8} {b : Nat} {w w1 : World} {k : Bool} {v : Value} {o : Nat} (hk : k = (partF x c t).isSome) (hb : w1.heap[b]? = some (.cells (lnArr x) 122))
    (hs : (lnArr x).setIfInBounds o v = lnArr x') (hy : ∀ y, partF x c t = some y → x' = y) (hbl : Below w.heap.size w w1) : PartRes x c t b w (.returned (.bool k)) (w1.setCell ⟨b, o, none⟩ v) :=
  ⟨x', by rw [hk], by rw [← hs]; exact blk_setCell hb _ _, hy, (Keep.of_below hbl).setCell (p := ⟨b, o, none⟩) (.inr rfl) _⟩

set_option maxHeartbeats 1000000 in
theorem parsePart_R (x : Ln) (t : List UInt8) (b : Nat) (w : World) (hb : w.heap[b]? = some (.cells (lnArr x) 122)) :
    Calls Tryz.prog 199 #[.pointer (some ⟨b, 0, none⟩), .int .u8 82, .string ⟨t.toArray⟩] w fun e w' => PartRes x 82 t b w e w' := by
  obtain ⟨⟨c0, c1, c2, c3⟩, fz⟩ := lncells hb
  have HB := hide hb
  clear hb
  have HP : Hid (partF x 82 t = (regF t).map fun (r : Nat) => { x with r := (r : Int) }) := hide (by simp [partF])
  go_enter Tryz.func199, Tryz.ntmps199
  go_wp2_with fail
  refine (parseRegister_any _ _).mono ?_
  rintro e w' ⟨rfl, rfl⟩
  cases hr : regF t with
  | none =>
    have HR := hide hr
    clear hr
    rw [show resReg none = .tuple #[.int .i64 0, .bool false] from rfl]
    go_wp2
    go_ret
    exact PartRes.of { x with r := 0 } (by rw [HP.out, HR.out]; rfl) HB.out rfl (fun y hy => by rw [HP.out, HR.out] at hy; cases hy) (Below.refl _ _)
  | some r =>
    have HR := hide hr
    clear hr
    rw [show resReg (some r) = .tuple #[.int .i64 (r : Int), .bool true] from rfl]
    go_wp2
    go_ret
    exact PartRes.of { x with r := (r : Int) } (by rw [HP.out, HR.out]; rfl) HB.out rfl (fun y hy => by rw [HP.out, HR.out] at hy; cases hy; rfl) (Below.refl _ _)

set_option maxHeartbeats 1000000 in
theorem parsePart_S (x : Ln) (t : List UInt8) (b : Nat) (w : World) (hb : w.heap[b]? = some (.cells (lnArr x) 122)) :
    Calls Tryz.prog 199 #[.pointer (some ⟨b, 0, none⟩), .int .u8 83, .string ⟨t.toArray⟩] w fun e w' => PartRes x 83 t b w e w' := by
  obtain ⟨⟨c0, c1, c2, c3⟩, fz⟩ := lncells hb
  have HB := hide hb
  clear hb
  have HP : Hid (partF x 83 t = (regF t).map fun (r : Nat) => { x with s := (r : Int) }) := hide (by simp [partF])
  go_enter Tryz.func199, Tryz.ntmps199
  go_wp2_with fail
  refine (parseRegister_any _ _).mono ?_
  rintro e w' ⟨rfl, rfl⟩
  cases hr : regF t with
  | none =>
    have HR := hide hr
    clear hr
    rw [show resReg none = .tuple #[.int .i64 0, .bool false] from rfl]
    go_wp2
    go_ret
    exact PartRes.of { x with s := 0 } (by rw [HP.out, HR.out]; rfl) HB.out rfl (fun y hy => by rw [HP.out, HR.out] at hy; cases hy) (Below.refl _ _)
  | some r =>
    have HR := hide hr
    clear hr
    rw [show resReg (some r) = .tuple #[.int .i64 (r : Int), .bool true] from rfl]
    go_wp2
    go_ret
    exact PartRes.of { x with s := (r : Int) } (by rw [HP.out, HR.out]; rfl) HB.out rfl (fun y hy => by rw [HP.out, HR.out] at hy; cases hy; rfl) (Below.refl _ _)

set_option maxHeartbeats 1000000 in
theorem parsePart_n (x : Ln) (t : List UInt8) (b : Nat) (w : World) (hb : w.heap[b]? = some (.cells (lnArr x) 122)) (ht : t.length ≤ 281474976710656) (hg : Glob w) :
    Calls Tryz.prog 199 #[.pointer (some ⟨b, 0, none⟩), .int .u8 110, .string ⟨t.toArray⟩] w fun e w' => PartRes x 110 t b w e w' := by
  have HB := hide hb
  have hlt := blk_lt hb
  clear hb
  have HP : Hid (partF x 110 t = (numF t).bind fun v => if -1000000000 ≤ v ∧ v ≤ 1000000000 then some { x with n := v } else none) := hide (by simp [partF])
  go_enter Tryz.func199, Tryz.ntmps199
  go_wp2_with fail
  refine (parseNumber_any _ _ ht hg).mono ?_
  rintro e w1 ⟨n, ok, rfl, hor, hbl⟩
  have hb1 : w1.heap[b]? = some (.cells (lnArr x) 122) := (hbl.block b hlt).trans HB.out
  obtain ⟨⟨c0, c1, c2, c3⟩, fz⟩ := lncells hb1
  have HB1 := hide hb1
  clear hb1
  rcases hor with ⟨hn, rfl⟩ | ⟨hn, rfl⟩
  · have HN := hide hn
    clear hn
    go_wp2
    all_goals go_ret
    all_goals
      refine PartRes.of { x with n := n } ?_ HB1.out rfl (fun y hy => ?_) hbl
      · rw [HP.out, HN.out, Option.bind_some]
        by_cases q : (-1000000000 ≤ n ∧ n ≤ 1000000000)
        · rw [if_pos q]; first | rfl | (simp; omega)
        · rw [if_neg q]; first | rfl | (simp; omega) | (exfalso; omega)
      · rw [HP.out, HN.out, Option.bind_some] at hy
        split at hy
        · cases hy; rfl
        · cases hy
  · have HN := hide hn
    clear hn
    go_wp2
    go_ret
    exact PartRes.of { x with n := n } (by rw [HP.out, HN.out]; rfl) HB1.out rfl (fun y hy => by rw [HP.out, HN.out] at hy; cases hy) hbl

set_option maxHeartbeats 1000000 in
theorem parsePart_L (x : Ln) (t : List UInt8) (b : Nat) (w : World) (hb : w.heap[b]? = some (.cells (lnArr x) 122)) (ht : t.length ≤ 281474976710656) (hg : Glob w) :
    Calls Tryz.prog 199 #[.pointer (some ⟨b, 0, none⟩), .int .u8 76, .string ⟨t.toArray⟩] w fun e w' => PartRes x 76 t b w e w' := by
  have HB := hide hb
  have hlt := blk_lt hb
  clear hb
  have HP : Hid (partF x 76 t = (numF t).bind fun v => if 0 ≤ v then some { x with n := v } else none) := hide (by simp [partF])
  go_enter Tryz.func199, Tryz.ntmps199
  go_wp2_with fail
  refine (parseNumber_any _ _ ht hg).mono ?_
  rintro e w1 ⟨n, ok, rfl, hor, hbl⟩
  have hb1 : w1.heap[b]? = some (.cells (lnArr x) 122) := (hbl.block b hlt).trans HB.out
  obtain ⟨⟨c0, c1, c2, c3⟩, fz⟩ := lncells hb1
  have HB1 := hide hb1
  clear hb1
  rcases hor with ⟨hn, rfl⟩ | ⟨hn, rfl⟩
  · have HN := hide hn
    clear hn
    go_wp2
    all_goals go_ret
    all_goals
      refine PartRes.of { x with n := n } ?_ HB1.out rfl (fun y hy => ?_) hbl
      · rw [HP.out, HN.out, Option.bind_some]
        by_cases q : (0 ≤ n)
        · rw [if_pos q]; first | rfl | (simp; omega)
        · rw [if_neg q]; first | rfl | (simp; omega) | (exfalso; omega)
      · rw [HP.out, HN.out, Option.bind_some] at hy
        split at hy
        · cases hy; rfl
        · cases hy
  · have HN := hide hn
    clear hn
    go_wp2
    go_ret
    exact PartRes.of { x with n := n } (by rw [HP.out, HN.out]; rfl) HB1.out rfl (fun y hy => by rw [HP.out, HN.out] at hy; cases hy) hbl

/-- reader.parsePart, at each kind that a word of the table has. -/
theorem parsePart_any (x : Ln) (c : UInt8) (t : List UInt8) (b : Nat) (w : World) (hc : c = 82 ∨ c = 83 ∨ c = 110 ∨ c = 76) (hb : w.heap[b]? = some (.cells (lnArr x) 122)) (ht : t.length ≤ 281474976710656) (hg : Glob w) :
    Calls Tryz.prog 199 #[.pointer (some ⟨b, 0, none⟩), .int .u8 (c.toNat : Int), .string ⟨t.toArray⟩] w fun e w' => PartRes x c t b w e w' := by
  rcases hc with rfl | rfl | rfl | rfl
  · rw [show (((82 : UInt8).toNat : Nat) : Int) = 82 from rfl]; exact parsePart_R x t b w hb
  · rw [show (((83 : UInt8).toNat : Nat) : Int) = 83 from rfl]; exact parsePart_S x t b w hb
  · rw [show (((110 : UInt8).toNat : Nat) : Int) = 110 from rfl]; exact parsePart_n x t b w hb ht hg
  · rw [show (((76 : UInt8).toNat : Nat) : Int) = 76 from rfl]; exact parsePart_L x t b w hb ht hg

/-- strings.Split at one byte. -/
theorem Split_one (l : List UInt8) (c : UInt8) (w : World) (hs : l.length < 4294967281) (hg : Glob w) :
    Calls Tryz.prog 104 #[.string ⟨l.toArray⟩, .string ⟨#[c]⟩] w fun e w' =>
      e = .returned (.slice (some ⟨w.heap.size, 0, none⟩) (cutAt c l).length (cutAt c l).length) ∧ w' = w.alloc (.cells ((cutAt c l).map fun p => Value.string ⟨p.toArray⟩).toArray 9) := by
  obtain ⟨m, hm⟩ := hg.maxLen
  refine (Tryz.strings_Split ⟨l.toArray⟩ ⟨#[c]⟩ m w (by rw [Lib.size_eq]; simpa using hs) hm (Nat.le_refl _)).mono ?_
  rintro e w' ⟨rfl, rfl⟩
  have h1 : Lib.countB ⟨l.toArray⟩ ⟨#[c]⟩ + 1 = (cutAt c l).length := countB_one ⟨l.toArray⟩ c
  have h2 : Lib.splitB ⟨#[c]⟩ 0 (Lib.countB ⟨l.toArray⟩ ⟨#[c]⟩) ⟨l.toArray⟩ = (cutAt c l).map fun l => ⟨l.toArray⟩ := splitB_one c _ ⟨l.toArray⟩ (Nat.le_refl _)
  rw [h1, h2, List.map_map]
  exact ⟨rfl, rfl⟩

/-- The parts of a line, one behind the other. -/
def partsF : Ln → List UInt8 → List (List UInt8) → Option Ln
  | x, [], [] => some x
  | x, c :: cs, p :: ps => (partF x c p).bind fun y => partsF y cs ps
  | _, _, _ => none
/-- A line of a program. -/
def lineF (t : List UInt8) : Option Ln :=
  match cutAt 32 t with
  | [] => none
  | nm :: ps => (findF nm).bind fun row => if ps.length = (wParts row).length then partsF ⟨row, 0, 0, 0⟩ (wParts row) ps else none

theorem kinds_ok {row : Nat} (hr : row < 17) : ∀ c ∈ wParts row, c = 82 ∨ c = 83 ∨ c = 110 ∨ c = 76 := by
  match row, hr with
  | 0, _ => decide
  | 1, _ => decide
  | 2, _ => decide
  | 3, _ => decide
  | 4, _ => decide
  | 5, _ => decide
  | 6, _ => decide
  | 7, _ => decide
  | 8, _ => decide
  | 9, _ => decide
  | 10, _ => decide
  | 11, _ => decide
  | 12, _ => decide
  | 13, _ => decide
  | 14, _ => decide
  | 15, _ => decide
  | 16, _ => decide
  | n + 17, h => exact absurd h (by omega)
theorem parts_len {row : Nat} (hr : row < 17) : (wParts row).length ≤ 3 := by
  match row, hr with
  | 0, _ => decide
  | 1, _ => decide
  | 2, _ => decide
  | 3, _ => decide
  | 4, _ => decide
  | 5, _ => decide
  | 6, _ => decide
  | 7, _ => decide
  | 8, _ => decide
  | 9, _ => decide
  | 10, _ => decide
  | 11, _ => decide
  | 12, _ => decide
  | 13, _ => decide
  | 14, _ => decide
  | 15, _ => decide
  | 16, _ => decide
  | n + 17, h => exact absurd h (by omega)
theorem parts_pos {row : Nat} (hr : row < 17) : 1 ≤ (wParts row).length := by
  match row, hr with
  | 0, _ => decide
  | 1, _ => decide
  | 2, _ => decide
  | 3, _ => decide
  | 4, _ => decide
  | 5, _ => decide
  | 6, _ => decide
  | 7, _ => decide
  | 8, _ => decide
  | 9, _ => decide
  | 10, _ => decide
  | 11, _ => decide
  | 12, _ => decide
  | 13, _ => decide
  | 14, _ => decide
  | 15, _ => decide
  | 16, _ => decide
  | n + 17, h => exact absurd h (by omega)
theorem partsF_drop (x : Ln) (cs : List UInt8) (ps : List (List UInt8)) (k : Nat) (h1 : k < cs.length) (h2 : k < ps.length) :
    partsF x (cs.drop k) (ps.drop k) = (partF x cs[k] ps[k]).bind fun y => partsF y (cs.drop (k + 1)) (ps.drop (k + 1)) := by
  rw [List.drop_eq_getElem_cons h1, List.drop_eq_getElem_cons h2]
  rfl
theorem findF_lt {nm : List UInt8} {k : Nat} (h : findF nm = some k) : k < 17 := by
  have := List.mem_of_find?_eq_some h
  simpa using this

end Go.Proofs.YtngopilbpiplhaaGreatDoor

namespace Go.Proofs.YtngopilbpiplhaaGreatDoor
open Go.RowKit

def LineRes (t : List UInt8) (w : World) (e : Ending) (w' : World) : Prop :=
  (∃ x, lineF t = some x ∧ e = .returned (.tuple #[.agg (lnArr x), .bool true]) ∨ lineF t = none ∧ e = .returned (.tuple #[.agg (lnArr x), .bool false])) ∧ Below w.heap.size w w'

set_option maxHeartbeats 2000000 in
theorem parseLine_any (t : List UInt8) (s : Nat) (w : World) (hs : t.length < 4294967281) (hg : Glob w) (ht : w.heap[s + 55]? = some (.cells (trows s) 140)) :
    Calls Tryz.prog 156 #[.slice (some ⟨s + 55, 0, none⟩) 17 17, .string ⟨t.toArray⟩] w fun e w' => LineRes t w e w' := by
  have HT := hide ht
  have hlt := blk_lt ht
  clear ht
  have hg2 : ∀ o1 o2 : Obj, Glob ((w.alloc o1).alloc o2) := fun o1 o2 => hg.below (((Below.refl w.heap.size w).alloc (Nat.le_refl _) o1).alloc (by simp) o2) hg.size
  have hg1 : ∀ o1 : Obj, Glob (w.alloc o1) := fun o1 => hg.below ((Below.refl w.heap.size w).alloc (Nat.le_refl _) o1) hg.size
  have hgs := hg.size
  go_enter Tryz.func156, Tryz.ntmps156
  go_wp2_with fail
  refine (Split_one _ _ _ hs (hg1 _)).mono ?_
  rintro e w' ⟨rfl, rfl⟩
  cases hcut : cutAt 32 t with
  | nil => exact absurd hcut (cutAt_ne _ _)
  | cons nm ps =>
    have HC := hide hcut
    have hpl : ∀ p ∈ nm :: ps, p.length ≤ t.length := fun p hp => cutAt_piece 32 t p (by rw [hcut]; exact hp)
    have hps : ps.length ≤ t.length := by have := cutAt_len 32 t; rw [hcut] at this; simpa using this
    clear hcut
    go_wp2_with fail
    refine (Find_any nm s _ ?_).mono ?_
    · rw [Below.heap_alloc _ _ _ (by simp; omega), Below.heap_alloc _ _ _ hlt]; exact HT.out
    rintro e w1 ⟨rfl, hb1⟩
    have hN : w.heap.size + 2 ≤ w1.heap.size := by have := hb1.size; simp at this; omega
    have k0 : w1.heap[w.heap.size]? = some (.cells #[.int .i64 0, .int .i64 0, .int .i64 0, .int .i64 0] 122) := by
      rw [hb1.block _ (by simp; omega), Below.heap_alloc _ _ _ (by simp), blk_new]
    have k1 : w1.heap[w.heap.size + 1]? = some (.cells ((nm :: ps).map fun p => Value.string ⟨p.toArray⟩).toArray 9) := by
      rw [hb1.block _ (by simp)]
      have := blk_new (w.alloc (.cells #[.int .i64 0, .int .i64 0, .int .i64 0, .int .i64 0] 122)) (.cells ((nm :: ps).map fun p => Value.string ⟨p.toArray⟩).toArray 9)
      simpa using this
    have hbw : Below w.heap.size w w1 := by
      refine Below.trans ?_ (hb1.mono (by simp; omega))
      exact ((Below.refl _ _).alloc (Nat.le_refl _) _).alloc (by simp) _
    have kt : w1.heap[s + 55]? = some (.cells (trows s) 140) := (hbw.block _ hlt).trans HT.out
    have hg3 : Glob w1 := hg.below hbw hgs
    clear hb1 hg1 hg2 hg
    have cz : ∀ o, w1.cell? ⟨w.heap.size, o, none⟩ = (#[.int .i64 0, .int .i64 0, .int .i64 0, .int .i64 0] : Array Value)[o]? := cell_of_blk k0
    have fz : ∀ o, w1.frozen? ⟨w.heap.size, o, none⟩ = false := frozen_of_blk k0
    have z0 : w1.cell? ⟨w.heap.size, 0, none⟩ = some (.int .i64 0) := cz 0
    have z1 : w1.cell? ⟨w.heap.size, 1, none⟩ = some (.int .i64 0) := cz 1
    have z2 : w1.cell? ⟨w.heap.size, 2, none⟩ = some (.int .i64 0) := cz 2
    have z3 : w1.cell? ⟨w.heap.size, 3, none⟩ = some (.int .i64 0) := cz 3
    clear cz
    have K0 := hide k0
    have K1 := hide k1
    have KT := hide kt
    clear k0 k1 kt
    cases hf : findF nm with
    | none =>
      have HN : Hid (lineF t = none) := hide (by unfold lineF; rw [HC.out]; simp [hf])
      clear hf
      rw [show resReg none = .tuple #[.int .i64 0, .bool false] from rfl]
      go_wp2
      exact bodyPost_ret (v := .tuple #[.agg #[.int .i64 0, .int .i64 0, .int .i64 0, .int .i64 0], .bool false]) (by simp [results, Tryz.results156, go_sem, z0, z1, z2, z3]) rfl ⟨⟨⟨0, 0, 0, 0⟩, .inr ⟨HN.out, rfl⟩⟩, by repeat (first | exact hbw | refine Below.setCell (B := w.heap.size) (p := ⟨w.heap.size, _, none⟩) ?_ (Nat.le_refl w.heap.size) _)⟩
    | some row =>
      have hrow := findF_lt hf
      have hw3 := parts_len hrow
      rw [show resReg (some row) = .tuple #[.int .i64 (row : Int), .bool true] from rfl]
      have hr := rowAt KT.out hrow
      have r1 := hr.parts
      clear hr
      by_cases hl : ps.length = (wParts row).length
      · have hl' : (((ps.length : Int) + 1) != 1 + ((wParts row).length : Int)) = false := by rw [bne_eq_false_iff_eq]; omega
        have HF : Hid (lineF t = partsF ⟨row, 0, 0, 0⟩ (wParts row) ps) := hide (by unfold lineF; rw [HC.out]; simp [hf, hl])
        clear hf
        have hps3 : ps.length ≤ 3 := by omega
        have hp1 := parts_pos hrow
        have hne : ¬ ps = [] := fun e => by rw [e] at hl; simp at hl; omega
        have hla : ps.length ≤ (wParts row).length := by omega
        have hlb : (wParts row).length ≤ ps.length := by omega
        clear hl
        go_wp2
        go_loopw [43] (fun i w' => ∃ (k : Nat) (x : Ln), k ≤ ps.length ∧ i = .int .i64 k ∧ partsF ⟨row, 0, 0, 0⟩ (wParts row) ps = partsF x ((wParts row).drop k) (ps.drop k) ∧ w'.heap[w1.heap.size]? = some (.cells (lnArr x) 122) ∧ Below w1.heap.size w1 w') (fun i _ => ps.length - (intOf i).toNat)
        case atStart =>
          exact ⟨0, ⟨row, 0, 0, 0⟩, Nat.zero_le _, rfl, rfl, blk_new _ _, (Below.refl _ _).alloc (Nat.le_refl _) _⟩
        case round =>
          obtain ⟨k, x, hk, rfl, hx, hbx, hbr⟩ := hrel
          have HX := hide hx
          have HBX := hide hbx
          clear hx hbx
          have hsz := hbr.size
          have k1 : wr.heap[w.heap.size + 1]? = some (.cells ((nm :: ps).map fun p => Value.string ⟨p.toArray⟩).toArray 9) := (hbr.block _ (by omega)).trans K1.out
          by_cases hlk : k < ps.length
          · have hpc : wr.cell? ⟨w.heap.size + 1, 1 + k, none⟩ = some (.string ⟨(ps[k]).toArray⟩) := by
              rw [cell_of_blk k1, Nat.add_comm 1 k]
              simp [hlk]
            clear k1
            have hkl : k < (wParts row).length := by omega
            have hdrop := partsF_drop x (wParts row) ps k hkl hlk
            go_wp2_with fail
            refine (parsePart_any x ((wParts row)[k]) (ps[k]) w1.heap.size wr (kinds_ok hrow _ (List.getElem_mem _)) HBX.out (by have := hpl ps[k] (by simp); omega) (hg3.below hbr (by omega))).mono ?_
            rintro e w2 ⟨x', rfl, hb2, hy, hkp⟩
            have hb12 : Below w1.heap.size w1 w2 := hbr.trans ((hkp.mono hsz).below (Nat.le_refl _))
            have k0 := (hb12.block _ (show w.heap.size < w1.heap.size by omega)).trans K0.out
            have fz2 : ∀ o, w2.frozen? ⟨w.heap.size, o, none⟩ = false := frozen_of_blk k0
            have y0 : w2.cell? ⟨w.heap.size, 0, none⟩ = some (.int .i64 0) := cell_of_blk k0 0
            have y1 : w2.cell? ⟨w.heap.size, 1, none⟩ = some (.int .i64 0) := cell_of_blk k0 1
            have y2 : w2.cell? ⟨w.heap.size, 2, none⟩ = some (.int .i64 0) := cell_of_blk k0 2
            have y3 : w2.cell? ⟨w.heap.size, 3, none⟩ = some (.int .i64 0) := cell_of_blk k0 3
            clear k0
            have HB2 := hide hb2
            clear hb2
            cases hpf : partF x ((wParts row)[k]) (ps[k]) with
            | none =>
              have HN : Hid (lineF t = none) := hide (by rw [HF.out, HX.out, hdrop, hpf]; rfl)
              clear hpf hdrop hy
              rw [show (none : Option Ln).isSome = false from rfl]
              go_wp2
              exact bodyPost_ret (v := .tuple #[.agg #[.int .i64 0, .int .i64 0, .int .i64 0, .int .i64 0], .bool false]) (by simp [results, Tryz.results156, go_sem, y0, y1, y2, y3]) rfl ⟨⟨⟨0, 0, 0, 0⟩, .inr ⟨HN.out, rfl⟩⟩, by repeat (first | exact hbw.trans (hb12.mono (by omega)) | refine Below.setCell (B := w.heap.size) (p := ⟨w.heap.size, _, none⟩) ?_ (Nat.le_refl w.heap.size) _)⟩
            | some y =>
              obtain rfl : x' = y := hy y hpf
              have HX2 : Hid (partsF ⟨row, 0, 0, 0⟩ (wParts row) ps = partsF x' ((wParts row).drop (k + 1)) (ps.drop (k + 1))) := hide (by rw [HX.out, hdrop, hpf]; rfl)
              clear hpf hdrop hy
              rw [show (some x' : Option Ln).isSome = true from rfl]
              go_wp2
              go_roundw
              case rel => exact ⟨k + 1, x', by omega, by go_num, HX2.out, HB2.out, hb12⟩
              case measure => simp [intOf]; omega
          · clear k1
            have hke : k = ps.length := by omega
            have HX2 : Hid (lineF t = some x) := hide (by
              rw [HF.out, HX.out, hke, List.drop_of_length_le (by omega : (wParts row).length ≤ ps.length), List.drop_of_length_le (Nat.le_refl ps.length)]; rfl)
            clear hke
            obtain ⟨⟨c0, c1, c2, c3⟩, fzb⟩ := lncells HBX.out
            have k0 := (hbr.block _ (show w.heap.size < w1.heap.size by omega)).trans K0.out
            have fz2 : ∀ o, wr.frozen? ⟨w.heap.size, o, none⟩ = false := frozen_of_blk k0
            have y0 : wr.cell? ⟨w.heap.size, 0, none⟩ = some (.int .i64 0) := cell_of_blk k0 0
            have y1 : wr.cell? ⟨w.heap.size, 1, none⟩ = some (.int .i64 0) := cell_of_blk k0 1
            have y2 : wr.cell? ⟨w.heap.size, 2, none⟩ = some (.int .i64 0) := cell_of_blk k0 2
            have y3 : wr.cell? ⟨w.heap.size, 3, none⟩ = some (.int .i64 0) := cell_of_blk k0 3
            clear k0
            go_wp2
            exact bodyPost_ret (v := .tuple #[.agg (lnArr x), .bool true]) (by simp [results, Tryz.results156, go_sem, y0, y1, y2, y3, lnArr]) rfl ⟨⟨x, .inl ⟨HX2.out, rfl⟩⟩, by repeat (first | exact hbw.trans (hbr.mono (by omega)) | refine Below.setCell (B := w.heap.size) (p := ⟨w.heap.size, _, none⟩) ?_ (Nat.le_refl w.heap.size) _)⟩
      · have HN : Hid (lineF t = none) := hide (by unfold lineF; rw [HC.out]; simp [hf, hl])
        clear hf
        have hl' : (((ps.length : Int) + 1) != 1 + ((wParts row).length : Int)) = true := by rw [bne_iff_ne]; omega
        go_wp2
        exact bodyPost_ret (v := .tuple #[.agg #[.int .i64 0, .int .i64 0, .int .i64 0, .int .i64 0], .bool false]) (by simp [results, Tryz.results156, go_sem, z0, z1, z2, z3]) rfl ⟨⟨⟨0, 0, 0, 0⟩, .inr ⟨HN.out, rfl⟩⟩, by repeat (first | exact hbw | refine Below.setCell (B := w.heap.size) (p := ⟨w.heap.size, _, none⟩) ?_ (Nat.le_refl w.heap.size) _)⟩

end Go.Proofs.YtngopilbpiplhaaGreatDoor

namespace Go.Proofs.YtngopilbpiplhaaGreatDoor
open Go.RowKit

/-- The lines' cells, one behind the other. -/
def lnCells (xs : List Ln) : List Value := (xs.map fun x => (lnArr x).toList).flatten
theorem lnCells_len (xs : List Ln) : (lnCells xs).length = xs.length * 4 := by
  induction xs with
  | nil => rfl
  | cons x xs ih => simp only [lnCells, List.map_cons, List.flatten_cons, List.length_append] at ih ⊢; rw [ih]; simp [lnArr]; omega
theorem lnCells_snoc (xs : List Ln) (x : Ln) : lnCells (xs ++ [x]) = lnCells xs ++ (lnArr x).toList := by simp [lnCells]

/-- The lines of texts, up to the first that is none. -/
def linesF (ts : List (List UInt8)) : List Ln := ts.filterMap lineF

theorem linesF_snoc (ts : List (List UInt8)) (k : Nat) (h : k < ts.length) (x : Ln) (hx : lineF ts[k] = some x) : linesF (ts.take (k + 1)) = linesF (ts.take k) ++ [x] := by
  unfold linesF
  rw [List.take_succ_eq_append_getElem h, List.filterMap_append]
  simp [hx]

theorem infoLine : (Tryz.prog.info? 122).map (fun i => (i.zero, i.size, i.bytes)) = some (some (.agg #[.int .i64 0, .int .i64 0, .int .i64 0, .int .i64 0]), 4, 32) := by kernel_rfl

def ParseRes (ts : List (List UInt8)) (w : World) (e : Ending) (w' : World) : Prop :=
  ((∃ v, e = .returned (.tuple #[v, .int .i64 (-1)]) ∧ (∀ t ∈ ts, (lineF t).isSome = true) ∧ w'.ownsRow w.heap.size 122 4 v ts.length (lnCells (linesF ts))) ∨
   (∃ i : Nat, e = .returned (.tuple #[.slice none 0 0, .int .i64 i]) ∧ ∃ h : i < ts.length, lineF ts[i] = none ∧ ∀ j (hj : j < i), (lineF (ts[j]'(by omega))).isSome = true)) ∧ Below w.heap.size w w'

theorem ownsRow_below {B : Nat} {w w' : World} {t : TypeId} {sz : Nat} {v : Value} {n : Nat} {xs : List Value} (h : w.ownsRow B t sz v n xs) (hk : ∀ g, B ≤ g → g < w.heap.size → w'.heap[g]? = w.heap[g]?) : w'.ownsRow B t sz v n xs := by
  obtain ⟨h1, h2 | ⟨g, cap, cur, e, hg, hb, r⟩⟩ := h
  · exact ⟨h1, .inl h2⟩
  · exact ⟨h1, .inr ⟨g, cap, cur, e, hg, (hk g hg (blk_lt hb)).trans hb, r⟩⟩

set_option maxRecDepth 100000 in
set_option maxHeartbeats 2000000 in
theorem parse_any (ts : List (List UInt8)) (tb s : Nat) (w : World) (hn : ts.length ≤ 100) (hl : ∀ t ∈ ts, t.length < 4294967281) (hg : Glob w) (ht : w.heap[s + 55]? = some (.cells (trows s) 140))
    (htb : w.heap[tb]? = some (.cells (ts.map fun p => Value.string ⟨p.toArray⟩).toArray 9)) :
    Calls Tryz.prog 103 #[.slice (some ⟨s + 55, 0, none⟩) 17 17, .slice (some ⟨tb, 0, none⟩) ts.length ts.length] w fun e w' => ParseRes ts w e w' := by
  have HT := hide ht
  have hlt := blk_lt ht
  have HTB := hide htb
  have hltb := blk_lt htb
  clear ht htb
  obtain ⟨i0, hi, hz0, hz1, hz2⟩ := info_parts infoLine
  have hmk := run_make (P := Tryz.prog) w 79 122 i0 _ Tryz.underlying79 hi hz0 .i64 .i64 0 (ts.length : Int) (Int.le_refl _) (by omega) (by rw [hz2]; omega) (by omega)
  simp only [Int.toNat_zero, Int.toNat_natCast] at hmk
  have hown0 : (w.alloc (.cells (madeCells (Value.agg #[.int .i64 0, .int .i64 0, .int .i64 0, .int .i64 0]).cells (ts.length * i0.size)) 122)).ownsRow w.heap.size 122 4 (.slice (some ⟨w.heap.size, 0, none⟩) 0 ts.length) 0 [] := by
    rw [hz1]
    exact World.ownsRow_made w _ ts.length (Nat.le_refl _) (by unfold maxLen; omega) (size_madeCells _ _)
  have HO := hide hown0
  clear hown0
  generalize hW : w.alloc (.cells (madeCells (Value.agg #[.int .i64 0, .int .i64 0, .int .i64 0, .int .i64 0]).cells (ts.length * i0.size)) 122) = W at *
  have hbW : Below w.heap.size w W := by rw [← hW]; exact (Below.refl _ _).alloc (Nat.le_refl _) _
  have HW := hide hW
  clear hW
  have HI := hide hi
  have HZ0 := hide hz0
  have HZ1 := hide hz1
  have HZ2 := hide hz2
  clear hi hz0 hz1 hz2
  go_enter Tryz.func103, Tryz.ntmps103
  go_wp2
  clear hmk
  go_loopw [6, 16] (fun v i w' => ∃ k : Nat, k ≤ ts.length ∧ i = .int .i64 k ∧ (∀ j (h : j < ts.length), j < k → (lineF ts[j]).isSome = true) ∧ w'.ownsRow w.heap.size 122 4 v k (lnCells (linesF (ts.take k))) ∧ Below w.heap.size w w') (fun _ i _ => ts.length - (intOf i).toNat)
  case atStart => exact ⟨0, Nat.zero_le _, rfl, fun j _ h => absurd h (by omega), HO.out, hbW⟩
  case round =>
    clear HO HW hbW
    obtain ⟨k, hk, rfl, hall, hown, hb⟩ := hrel
    have HA := hide hall
    clear hall
    have hsz := hb.size
    by_cases hlk : k < ts.length
    · have hpc : wr.cell? ⟨tb, k, none⟩ = some (.string ⟨(ts[k]).toArray⟩) := by
        rw [cell_of_blk ((hb.block _ hltb).trans HTB.out)]
        simp [hlk]
      have HOW := hide hown
      clear hown
      go_wp2_with fail
      refine (parseLine_any (ts[k]) s wr (hl _ (List.getElem_mem _)) (hg.below hb hg.size) ((hb.block _ hlt).trans HT.out)).mono ?_
      rintro e w1 ⟨hres, hb1⟩
      have hb01 : Below w.heap.size w w1 := hb.trans (hb1.mono hsz)
      have hown1 := ownsRow_below HOW.out (fun g _ hg => hb1.block g hg)
      obtain ⟨x, ⟨hx, rfl⟩ | ⟨hx, rfl⟩⟩ := hres
      · have HXX := hide hx
        have HO1 := hide hown1
        clear hx hown1
        have hlen : (lnCells (linesF (ts.take k))).length = k * 4 := HO1.out.1
        have hsnoc := linesF_snoc ts k hlk x HXX.out
        have HS := hide hsnoc
        clear hsnoc hlen
        simp only [lnArr]
        go_wp2_with (first
          | (at_builtin; refine wpList_append_own _ rfl _ _ 79 rfl w.heap.size 122 i0 _ 4 32 Tryz.underlying79 HI.out HZ0.out HZ1.out HZ2.out rfl (by decide) _ _ _ rfl ((HO1.out.alloc _).alloc _) ⟨w1.heap.size + 1, 0, none⟩ 1 1 [.int .i64 x.word, .int .i64 x.r, .int .i64 x.s, .int .i64 x.n] rfl rfl ?c1 ?c2 ?c3 ?c4 ?c5 ?_)
          | go_in)
        case c1 =>
          intro j u hj
          have hnew := blk_new (w1.alloc (.cells #[.int .i64 x.word, .int .i64 x.r, .int .i64 x.s, .int .i64 x.n] 122)) (.cells #[.int .i64 x.word, .int .i64 x.r, .int .i64 x.s, .int .i64 x.n] 122)
          rw [World.size_alloc] at hnew
          have e : (⟨w1.heap.size + 1, 0, none⟩ : Addr).add j = ⟨w1.heap.size + 1, j, none⟩ := by unfold Addr.add; split <;> simp_all
          rw [e, cell_of_blk hnew]
          simpa using hj
        case c2 => intro u hu; simp at hu; rcases hu with rfl | rfl | rfl | rfl <;> rfl
        case c3 => unfold maxLen; omega
        case c4 => omega
        case c5 => have := hb01.size; simp; omega
        · intro v' w2 hown2 hgrow _
          have hb02 : Below w.heap.size w w2 := by
            refine Below.grown ((hb01.alloc hb01.size _).alloc (by simp; have := hb01.size; omega) _) hgrow (by simp; have := hb01.size; omega) ?_
            intro g hg'
            obtain ⟨_, ⟨e, _⟩ | ⟨g1, cap, cur, e, hg1, _⟩⟩ := HO1.out
            · rw [e] at hg'; cases hg'
            · rw [e] at hg'; cases hg'; exact hg1
          have HO2 := hide hown2
          clear hown2 hgrow
          go_wp2
          go_roundw
          case rel =>
            refine ⟨k + 1, by omega, by go_num, fun j h hj => ?_, ?_, hb02⟩
            · rcases Nat.lt_succ_iff_lt_or_eq.1 hj with q | q
              · exact HA.out j h q
              · subst q; rw [HXX.out]; rfl
            · rw [HS.out, lnCells_snoc]; exact HO2.out
          case measure => simp [intOf]; omega
      · have HXX := hide hx
        clear hx hown1
        simp only [lnArr]
        go_wp2
        go_ret2
        exact ⟨.inr ⟨k, rfl, hlk, HXX.out, fun j hj => HA.out j (by omega) hj⟩, hb01.alloc (by have := hb01.size; omega) _⟩
    · obtain rfl : k = ts.length := by omega
      have HOW := hide hown
      clear hown
      go_wp2
      go_ret2
      refine ⟨.inl ⟨_, rfl, fun t ht => ?_, ?_⟩, hb⟩
      · obtain ⟨j, hj, e⟩ := List.getElem_of_mem ht
        rw [← e]; exact HA.out j hj hj
      · have := HOW.out
        rwa [List.take_of_length_le (Nat.le_refl _)] at this

end Go.Proofs.YtngopilbpiplhaaGreatDoor

namespace Go.Proofs.YtngopilbpiplhaaGreatDoor
open Go.RowKit

/-- Lines lie in a block. -/
def LinesAt (w : World) (g : Nat) (xs : List Ln) : Prop := ∃ cur t, w.heap[g]? = some (.cells cur t (0, 0)) ∧ cur.toList.take (xs.length * 4) = lnCells xs
theorem LinesAt.lt {w : World} {g : Nat} {xs : List Ln} (h : LinesAt w g xs) : g < w.heap.size := by obtain ⟨_, _, h, _⟩ := h; exact blk_lt h
theorem LinesAt.mono {w w' : World} {g : Nat} {xs : List Ln} (h : LinesAt w g xs) (hb : w'.heap[g]? = w.heap[g]?) : LinesAt w' g xs := by
  obtain ⟨cur, t, h1, h2⟩ := h
  exact ⟨cur, t, hb.trans h1, h2⟩
theorem lnCells_get (xs : List Ln) : ∀ (i : Nat) (h : i < xs.length) (j : Nat), j < 4 → (lnCells xs)[i * 4 + j]? = (lnArr xs[i])[j]? := by
  induction xs with
  | nil => intro i h; cases h
  | cons x xs ih =>
    intro i h j hj
    have e : lnCells (x :: xs) = (lnArr x).toList ++ lnCells xs := rfl
    have l4 : (lnArr x).toList.length = 4 := rfl
    rw [e]
    cases i with
    | zero => rw [List.getElem?_append_left (by omega)]; simp
    | succ i =>
      rw [List.getElem?_append_right (by omega), l4, show (i + 1) * 4 + j - 4 = i * 4 + j by omega, ih i (by simpa using h) j hj]
      rfl
theorem LinesAt.get {w : World} {g : Nat} {xs : List Ln} (h : LinesAt w g xs) {i : Nat} (hi : i < xs.length) :
    w.cell? ⟨g, i * 4, none⟩ = some (.int .i64 xs[i].word) ∧ w.cell? ⟨g, i * 4 + 1, none⟩ = some (.int .i64 xs[i].r) ∧ w.cell? ⟨g, i * 4 + 2, none⟩ = some (.int .i64 xs[i].s) ∧ w.cell? ⟨g, i * 4 + 3, none⟩ = some (.int .i64 xs[i].n) := by
  obtain ⟨cur, t, h1, h2⟩ := h
  have key : ∀ j, j < 4 → w.cell? ⟨g, i * 4 + j, none⟩ = (lnArr xs[i])[j]? := fun j hj => by
    rw [cell_of_blk h1, ← lnCells_get xs i hi j hj, ← h2, List.getElem?_take, if_pos (by omega)]
    simp
  exact ⟨key 0 (by omega), key 1 (by omega), key 2 (by omega), key 3 (by omega)⟩
theorem linesAt_of_owns {w : World} {B n : Nat} {v : Value} {xs : List Ln} (h : w.ownsRow B 122 4 v n (lnCells xs)) (hn : n = xs.length) (h0 : 0 < n) :
    ∃ g cap, v = .slice (some ⟨g, 0, none⟩) n cap ∧ B ≤ g ∧ n ≤ cap ∧ LinesAt w g xs := by
  obtain ⟨_, ⟨_, h2⟩ | ⟨g, cap, cur, e, hg, hb, hc, _, _, ht⟩⟩ := h
  · omega
  · exact ⟨g, cap, e, hg, hc, cur, _, hb, by rw [← hn]; exact ht⟩

/-- Does a line jump to a line that there is not? -/
def isLost (n : Nat) (x : Ln) : Bool := hasB (wParts x.word.toNat) 76 && decide ((n : Int) ≤ x.n)
/-- Each line's word is a row of the table. -/
def Worded (xs : List Ln) : Prop := ∀ x ∈ xs, ∃ row : Nat, row < 17 ∧ x.word = (row : Int)

def LostRes (xs : List Ln) (w : World) (e : Ending) (w' : World) : Prop :=
  ((e = .returned (.int .i64 (-1)) ∧ ∀ x ∈ xs, isLost xs.length x = false) ∨
   (∃ i : Nat, e = .returned (.int .i64 i) ∧ ∃ h : i < xs.length, isLost xs.length xs[i] = true ∧ ∀ j (hj : j < i), isLost xs.length (xs[j]'(by omega)) = false)) ∧ Below w.heap.size w w'

set_option maxRecDepth 100000 in
set_option maxHeartbeats 2000000 in
theorem lostJump_any (xs : List Ln) (g cap s : Nat) (w : World) (hn : xs.length ≤ 100) (hw : Worded xs) (hL : LinesAt w g xs) (ht : w.heap[s + 55]? = some (.cells (trows s) 140)) :
    Calls Tryz.prog 105 #[.slice (some ⟨s + 55, 0, none⟩) 17 17, .slice (some ⟨g, 0, none⟩) xs.length cap] w fun e w' => LostRes xs w e w' := by
  have HT := hide ht
  have hlt := blk_lt ht
  have HL := hide hL
  have hlg := hL.lt
  clear ht hL
  go_enter Tryz.func105, Tryz.ntmps105
  go_wp2
  go_loopw [9] (fun i w' => ∃ k : Nat, k ≤ xs.length ∧ i = .int .i64 k ∧ (∀ j (h : j < xs.length), j < k → isLost xs.length xs[j] = false) ∧ Below w.heap.size w w') (fun i _ => xs.length - (intOf i).toNat)
  case atStart => exact ⟨0, Nat.zero_le _, rfl, fun j _ h => absurd h (by omega), Below.refl _ _⟩
  case round =>
    obtain ⟨k, hk, rfl, hall, hb⟩ := hrel
    have HA := hide hall
    clear hall
    have hsz := hb.size
    have hs1 : s + 55 < wr.heap.size := by omega
    by_cases hlk : k < xs.length
    · obtain ⟨l0, l1, l2, l3⟩ := (HL.out.mono (hb.block _ hlg)).get hlk
      obtain ⟨row, hrow, hrw⟩ := hw _ (List.getElem_mem hlk)
      rw [hrw] at l0
      have HRW := hide hrw
      clear hrw
      have HE : Hid (isLost xs.length xs[k] = (hasB (wParts row) 76 && decide ((xs.length : Int) ≤ xs[k].n))) := hide (by unfold isLost; rw [HRW.out]; simp)
      obtain ⟨f4, b4, f5, b5, f6, b6, f7, b7, e4, e5, e6, e7⟩ := row_funcs s hrow
      obtain ⟨r0, r1, r2, r3, r4, r5, r6, r7⟩ := rowAt ((hb.block _ hlt).trans HT.out) hrow
      rw [e4] at r4
      rw [e5] at r5
      rw [e6] at r6
      rw [e7] at r7
      clear e4 e5 e6 e7
      generalize xs[k].n = N at *
      generalize xs[k].r = R at *
      generalize xs[k].s = S at *
      go_wp2_with fail
      refine (Jumps_any _ _ _ _ _ _ _ _ _ _ _ _ _).mono ?_
      rintro e w1 ⟨rfl, hb1⟩
      have hb01 : Below w.heap.size w w1 := hb.trans (((Below.refl _ _).alloc hsz _).trans (hb1.mono (by simp; omega)))
      have hc3 : w1.cell? ⟨wr.heap.size, 3, none⟩ = some (.int .i64 N) := by
        rw [hb1.cell (p := ⟨wr.heap.size, 3, none⟩) (by simp), cell_of_blk (blk_new wr _)]; rfl
      clear hb1 r0 r1 r2 r3 r4 r5 r6 r7 l0 l1 l2 l3
      rw [show hasB (⟨(wParts row).toArray⟩ : ByteArray).data.toList 76 = hasB (wParts row) 76 from rfl]
      cases hj : hasB (wParts row) 76 with
      | false =>
        have HJ : Hid (isLost xs.length xs[k] = false) := hide (by rw [HE.out, hj]; rfl)
        clear hj
        go_wp2
        go_roundw
        case rel =>
          refine ⟨k + 1, by omega, by go_num, fun j h hj => ?_, hb01⟩
          rcases Nat.lt_succ_iff_lt_or_eq.1 hj with q | q
          · exact HA.out j h q
          · subst q; exact HJ.out
        case measure => simp [intOf]; omega
      | true =>
        by_cases hN : (xs.length : Int) ≤ N
        · have HJ : Hid (isLost xs.length xs[k] = true) := hide (by rw [HE.out, hj]; simpa using hN)
          clear hj
          go_wp2
          go_ret
          exact ⟨.inr ⟨k, rfl, hlk, HJ.out, fun j hj => HA.out j (by omega) hj⟩, hb01⟩
        · have HJ : Hid (isLost xs.length xs[k] = false) := hide (by rw [HE.out, hj]; simpa using hN)
          clear hj
          go_wp2
          go_roundw
          case rel =>
            refine ⟨k + 1, by omega, by go_num, fun j h hj => ?_, hb01⟩
            rcases Nat.lt_succ_iff_lt_or_eq.1 hj with q | q
            · exact HA.out j h q
            · subst q; exact HJ.out
          case measure => simp [intOf]; omega
    · obtain rfl : k = xs.length := by omega
      go_wp2
      go_ret
      refine ⟨.inl ⟨rfl, fun x hx => ?_⟩, hb⟩
      obtain ⟨j, hj, e⟩ := List.getElem_of_mem hx
      rw [← e]; exact HA.out j hj hj

theorem ret_bool {a b : Bool} (h : a = b) : Ending.returned (.bool a) = .returned (.bool b) := by rw [h]
/-- Is a text too long for a program? -/
def longF (l : List UInt8) : Bool := decide (8000 < l.length) || decide (100 ≤ l.count 10)
set_option maxHeartbeats 400000 in
theorem isLong_any (l : List UInt8) (w : World) (hl : l.length ≤ 281474976710656) :
    Calls Tryz.prog 102 #[.string ⟨l.toArray⟩] w fun e w' => e = .returned (.bool (longF l)) ∧ w' = w := by
  by_cases h1 : 8000 < l.length
  · have HL : Hid (longF l = true) := hide (by simp [longF, h1])
    have h1' : (8000 : Int) < (l.length : Int) := by omega
    go_enter Tryz.func102, Tryz.ntmps102
    go_wp2
    go_ret
    exact ⟨by rw [HL.out]; rfl, rfl⟩
  · have HL : Hid (longF l = decide (100 ≤ l.count 10)) := hide (by simp [longF, h1])
    have h1' : ¬ (8000 : Int) < (l.length : Int) := by omega
    go_enter Tryz.func102, Tryz.ntmps102
    go_wp2_with (go_at_call 155; refine (Tryz.strings_Count_one _ _ _).mono ?_; rintro e w' ⟨rfl, rfl⟩)
    go_ret
    exact ⟨by rw [HL.out]; exact ret_bool (by rw [decide_eq_decide]; unfold Lib.countByte; omega), rfl⟩

end Go.Proofs.YtngopilbpiplhaaGreatDoor

namespace Go.Proofs.YtngopilbpiplhaaGreatDoor
open Go.RowKit

theorem cutAt_count (c : UInt8) : ∀ l : List UInt8, (cutAt c l).length = l.count c + 1
  | [] => rfl
  | b :: l => by
    have h := cutAt_count c l
    unfold cutAt
    split
    · rename_i e; subst e; simp [h]
    · rename_i e
      split
      · rename_i e2; exact absurd e2 (cutAt_ne _ _)
      · rename_i p r e2
        rw [e2] at h
        rw [List.count_cons_of_ne e]
        simpa using h

theorem partF_word {x y : Ln} {c : UInt8} {t : List UInt8} (h : partF x c t = some y) : y.word = x.word := by
  unfold partF at h
  split at h
  · obtain ⟨r, _, e⟩ := Option.map_eq_some_iff.1 h; rw [← e]
  · split at h
    · obtain ⟨r, _, e⟩ := Option.map_eq_some_iff.1 h; rw [← e]
    · split at h
      · obtain ⟨v, _, e⟩ := Option.bind_eq_some_iff.1 h
        split at e
        · cases e; rfl
        · cases e
      · split at h
        · obtain ⟨v, _, e⟩ := Option.bind_eq_some_iff.1 h
          split at e
          · cases e; rfl
          · cases e
        · cases h
theorem partsF_word : ∀ (cs : List UInt8) (ps : List (List UInt8)) {x y : Ln}, partsF x cs ps = some y → y.word = x.word
  | [], [], x, y, h => by simp [partsF] at h; rw [h]
  | c :: cs, p :: ps, x, y, h => by
    obtain ⟨z, h1, h2⟩ := Option.bind_eq_some_iff.1 (show (partF x c p).bind (fun y => partsF y cs ps) = some y from h)
    rw [partsF_word cs ps h2, partF_word h1]
  | [], _ :: _, x, y, h => by simp [partsF] at h
  | _ :: _, [], x, y, h => by simp [partsF] at h
theorem lineF_word {t : List UInt8} {x : Ln} (h : lineF t = some x) : ∃ row : Nat, row < 17 ∧ x.word = (row : Int) := by
  unfold lineF at h
  split at h
  · cases h
  · obtain ⟨row, h1, h2⟩ := Option.bind_eq_some_iff.1 h
    split at h2
    · exact ⟨row, findF_lt h1, partsF_word _ _ h2⟩
    · cases h2
theorem linesF_worded (ts : List (List UInt8)) : Worded (linesF ts) := fun x hx => by
  obtain ⟨t, _, h⟩ := List.mem_filterMap.1 hx
  exact lineF_word h
theorem linesF_len (ts : List (List UInt8)) (h : ∀ t ∈ ts, (lineF t).isSome = true) : (linesF ts).length = ts.length := by
  induction ts with
  | nil => rfl
  | cons t ts ih =>
    obtain ⟨x, hx⟩ := Option.isSome_iff_exists.1 (h t (by simp))
    have := ih (fun u hu => h u (by simp [hu]))
    unfold linesF at this ⊢
    simp [hx, this]

/-- The lines of a text. -/
def progF (l : List UInt8) : List Ln := linesF (cutAt 10 l)
/-- A text is a program. -/
structure Good (l : List UInt8) : Prop where
  short : longF l = false
  lines : ∀ t ∈ cutAt 10 l, (lineF t).isSome = true
  jumps : ∀ x ∈ progF l, isLost (progF l).length x = false
  last : ∀ x, (progF l)[(progF l).length - 1]? = some x → wFalls x.word.toNat = false

/-- Why a text is none: the error, and its place. -/
def Bad (l : List UInt8) (c p : Int) : Prop :=
  (longF l = true ∧ c = 1 ∧ p = 0) ∨
  (longF l = false ∧ ∃ i : Nat, ∃ h : i < (cutAt 10 l).length, c = 2 ∧ p = (i : Int) ∧ lineF (cutAt 10 l)[i] = none ∧ ∀ j (hj : j < i), (lineF ((cutAt 10 l)[j]'(by omega))).isSome = true) ∨
  (longF l = false ∧ (∀ t ∈ cutAt 10 l, (lineF t).isSome = true) ∧ ∃ i : Nat, ∃ h : i < (progF l).length, c = 3 ∧ p = (i : Int) ∧ isLost (progF l).length (progF l)[i] = true ∧ ∀ j (hj : j < i), isLost (progF l).length ((progF l)[j]'(by omega)) = false) ∨
  (longF l = false ∧ (∀ t ∈ cutAt 10 l, (lineF t).isSome = true) ∧ (∀ x ∈ progF l, isLost (progF l).length x = false) ∧ c = 4 ∧ p = ((progF l).length : Int) - 1 ∧ ∃ x, (progF l)[(progF l).length - 1]? = some x ∧ wFalls x.word.toNat = true)

def ReadRes (l : List UInt8) (w : World) (e : Ending) (w' : World) : Prop :=
  ((∃ g cap, e = .returned (.tuple #[.slice (some ⟨g, 0, none⟩) (progF l).length cap, .int .i64 0, .int .i64 0]) ∧ Good l ∧ (progF l).length ≤ cap ∧ w.heap.size ≤ g ∧ LinesAt w' g (progF l)) ∨
   (∃ c p : Int, e = .returned (.tuple #[.slice none 0 0, .int .i64 c, .int .i64 p]) ∧ Bad l c p)) ∧ Below w.heap.size w w'

theorem bad_tr {l : List UInt8} {ts : List (List UInt8)} (e : cutAt 10 l = ts) (i : Nat) (hi : i < ts.length) (hb : lineF ts[i] = none) (hbef : ∀ j (hj : j < i), (lineF (ts[j]'(by omega))).isSome = true) :
    ∃ i' : Nat, ∃ h : i' < (cutAt 10 l).length, (2 : Int) = 2 ∧ (i : Int) = (i' : Int) ∧ lineF (cutAt 10 l)[i'] = none ∧ ∀ j (hj : j < i'), (lineF ((cutAt 10 l)[j]'(by omega))).isSome = true := by
  subst e
  exact ⟨i, hi, rfl, rfl, hb, hbef⟩
theorem lost_tr {l : List UInt8} {xs : List Ln} (e : progF l = xs) (i : Nat) (hi : i < xs.length) (hb : isLost xs.length xs[i] = true) (hbef : ∀ j (hj : j < i), isLost xs.length (xs[j]'(by omega)) = false) :
    ∃ i' : Nat, ∃ h : i' < (progF l).length, (3 : Int) = 3 ∧ (i : Int) = (i' : Int) ∧ isLost (progF l).length (progF l)[i'] = true ∧ ∀ j (hj : j < i'), isLost (progF l).length ((progF l)[j]'(by omega)) = false := by
  subst e
  exact ⟨i, hi, rfl, rfl, hb, hbef⟩

set_option maxRecDepth 100000 in
set_option maxHeartbeats 2000000 in
theorem Read_any (l : List UInt8) (s : Nat) (w : World) (hl : l.length ≤ 281474976710656) (hg : Glob w) (ht : w.heap[s + 55]? = some (.cells (trows s) 140)) :
    Calls Tryz.prog 32 #[.slice (some ⟨s + 55, 0, none⟩) 17 17, .string ⟨l.toArray⟩] w fun e w' => ReadRes l w e w' := by
  have HT := hide ht
  have hlt := blk_lt ht
  have hgs := hg.size
  clear ht
  go_enter Tryz.func32, Tryz.ntmps32
  go_wp2_with fail
  refine (isLong_any _ _ hl).mono ?_
  rintro e w' ⟨rfl, rfl⟩
  cases hlo : longF l with
  | true =>
    have HLO := hide hlo
    clear hlo
    go_wp2
    go_ret3
    exact ⟨.inr ⟨1, 0, rfl, .inl ⟨HLO.out, rfl, rfl⟩⟩, Below.refl _ _⟩
  | false =>
    have HLO := hide hlo
    have h8 : l.length ≤ 8000 ∧ l.count 10 < 100 := by simp [longF] at hlo; omega
    obtain ⟨h81, h82⟩ := h8
    have hcl := cutAt_count 10 l
    have hcl1 : (cutAt 10 l).length ≤ 100 := by omega
    have hcl0 : 0 < (cutAt 10 l).length := by omega
    have hpl : ∀ t ∈ cutAt 10 l, t.length < 4294967281 := fun t ht => by have := cutAt_piece 10 l t ht; omega
    clear hlo hcl h82
    go_wp2_with fail
    refine (Split_one _ _ _ (by omega) hg).mono ?_
    rintro e w1 ⟨rfl, rfl⟩
    have hP : progF l = linesF (cutAt 10 l) := rfl
    generalize hts : cutAt 10 l = ts at *
    have HTS := hide hts
    have HPP := hide hP
    clear hts hP
    go_wp2_with fail
    have hgA : ∀ o : Obj, Glob (w'.alloc o) := fun o => hg.below ((Below.refl w'.heap.size w').alloc (Nat.le_refl _) o) hgs
    refine (parse_any ts w'.heap.size s _ hcl1 hpl (hgA _) (blk_alloc HT.out _) (blk_new _ _)).mono ?_
    clear hgA
    rintro e w1 ⟨hres, hb1⟩
    have hb01 : Below w'.heap.size w' w1 := ((Below.refl _ _).alloc (Nat.le_refl _) _).trans (hb1.mono (by simp))
    have hsz1 : w'.heap.size + 1 ≤ w1.heap.size := by have := hb1.size; simpa using this
    have ht1 := (hb01.block _ hlt).trans HT.out
    have HT1 := hide ht1
    clear ht1
    rcases hres with ⟨v, rfl, hall, hown⟩ | ⟨i, rfl, hi, hbad, hbef⟩
    · have hlen : ts.length = (progF l).length := by rw [HPP.out, linesF_len ts hall]
      have HALL := hide hall
      clear hall
      rw [← HPP.out] at hown
      have hwd : Worded (progF l) := by rw [HPP.out]; exact linesF_worded ts
      obtain ⟨g, cap, rfl, hg1, hcap, hL⟩ := linesAt_of_owns hown hlen hcl0
      have hge : w'.heap.size ≤ g := by simp at hg1; omega
      clear hown hg1
      rw [hlen] at hcap hcl1 hcl0
      have HLEN := hide hlen
      rw [hlen]
      clear hlen
      have hPF : ∀ x, x = progF l → x = progF l := fun _ h => h
      clear hPF
      generalize hxs : progF l = xs at *
      have HXS := hide hxs
      clear hxs
      have HL := hide hL
      have hglt := hL.lt
      clear hL
      go_wp2_with fail
      refine (lostJump_any xs g cap s w1 hcl1 hwd HL.out HT1.out).mono ?_
      rintro e w2 ⟨hres, hb2⟩
      have hb02 : Below w'.heap.size w' w2 := hb01.trans (hb2.mono (by omega))
      have hL2 := HL.out.mono (hb2.block _ hglt)
      have ht2 := (hb02.block _ hlt).trans HT.out
      rcases hres with ⟨rfl, hno⟩ | ⟨i, rfl, hi, hlost, hbef⟩
      · have HNO := hide hno
        clear hno
        obtain ⟨m, hm⟩ : ∃ m, xs.length = m + 1 := ⟨xs.length - 1, by omega⟩
        have hml : m < xs.length := by omega
        obtain ⟨l0, l1, l2, l3⟩ := hL2.get hml
        obtain ⟨row, hrow, hrw⟩ := hwd _ (List.getElem_mem hml)
        rw [hrw] at l0
        have hr3 := (rowAt ht2 hrow).falls
        have hlast : xs[xs.length - 1]? = some xs[m] := by rw [show xs.length - 1 = m by omega]; exact List.getElem?_eq_getElem hml
        have HLAST := hide hlast
        have HRW := hide hrw
        have HL2 := hide hL2
        clear hlast hrw hL2 ht2 l1 l2 l3
        have HM := hide hm
        rw [hm]
        rw [hm] at hcap hcl1
        clear hm
        cases hf : wFalls row with
        | false =>
          rw [hf] at hr3
          have HF := hide hf
          clear hf
          go_wp2
          go_ret3
          refine ⟨.inl ⟨g, cap, by rw [HXS.out, HM.out]; rfl, ⟨HLO.out, by rw [HTS.out]; exact HALL.out, by rw [HXS.out]; exact HNO.out, fun x hx => ?_⟩, by rw [HXS.out, HM.out]; exact hcap, hge, by rw [HXS.out]; exact HL2.out⟩, hb02⟩
          rw [HXS.out, HLAST.out] at hx
          cases hx
          rw [HRW.out]; exact HF.out
        | true =>
          rw [hf] at hr3
          have HF := hide hf
          clear hf
          go_wp2
          go_ret3
          refine ⟨.inr ⟨4, _, rfl, .inr (.inr (.inr ⟨HLO.out, by rw [HTS.out]; exact HALL.out, by rw [HXS.out]; exact HNO.out, rfl, ?_, xs[m], by rw [HXS.out]; exact HLAST.out, by rw [HRW.out]; exact HF.out⟩))⟩, hb02⟩
          rw [HXS.out, HM.out]
          first | rfl | omega
      · have HLOST := hide hlost
        have HBEF := hide hbef
        clear hlost hbef
        go_wp2
        go_ret3
        refine ⟨.inr ⟨3, _, rfl, .inr (.inr (.inl ⟨HLO.out, by rw [HTS.out]; exact HALL.out, ?_⟩))⟩, hb02⟩
        exact lost_tr HXS.out i hi HLOST.out HBEF.out
    · have HBAD := hide hbad
      have HBEF := hide hbef
      clear hbad hbef
      go_wp2
      go_ret3
      exact ⟨.inr ⟨2, _, rfl, .inr (.inl ⟨HLO.out, bad_tr HTS.out i hi HBAD.out HBEF.out⟩)⟩, hb01⟩

end Go.Proofs.YtngopilbpiplhaaGreatDoor
