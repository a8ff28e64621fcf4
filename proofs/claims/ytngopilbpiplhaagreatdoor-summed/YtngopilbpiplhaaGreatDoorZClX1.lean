/-
  The contract of Span.text.
  The contract of Claim.text.
  The contract of claims.Text.
  The contract of ward.Prove at a program that may be read.
-/
import Derived.Test.YtngopilbpiplhaaGreatDoorZClRa
import Derived.Test.YtngopilbpiplhaaGreatDoorZOut
import Derived.Test.YtngopilbpiplhaaGreatDoorZShelf2
import Derived.Lib.Join
import Derived.Test.YtngopilbpiplhaaGreatDoorZClB2
import Derived.Test.YtngopilbpiplhaaGreatDoorZClPr
import Derived.Test.YtngopilbpiplhaaGreatDoorZRun
namespace Go.Proofs.YtngopilbpiplhaaGreatDoor
open Go.RowKit
set_option linter.unusedVariables false

/-- A span's text. -/
def spanT (a b : Int) : List UInt8 := Lib.itoa a ++ [46, 46] ++ Lib.itoa b
theorem itoa_20 (n : Int) (h0 : -9223372036854775808 ≤ n) (h1 : n ≤ 9223372036854775807) : (Lib.itoa n).length ≤ 20 := by
  rcases Int.lt_trichotomy n 0 with h | h | h
  · obtain ⟨u, rfl⟩ : ∃ u : Nat, n = -(u : Int) := ⟨n.natAbs, by omega⟩
    rw [itoa_neg u (by omega)]
    have := dd_len20 u (by omega)
    simp; omega
  · subst h
    rw [show Lib.itoa 0 = [48] by decide +kernel]
    decide
  · obtain ⟨u, rfl⟩ : ∃ u : Nat, n = (u : Int) := ⟨n.natAbs, by omega⟩
    rw [itoa_pos u (by omega)]
    have := dd_len20 u (by omega)
    omega
theorem spanT_len (a b : Int) (h0 : -9223372036854775808 ≤ a) (h1 : a ≤ 9223372036854775807) (h2 : -9223372036854775808 ≤ b) (h3 : b ≤ 9223372036854775807) : (spanT a b).length ≤ 42 := by
  have := itoa_20 a h0 h1
  have := itoa_20 b h2 h3
  simp [spanT]; omega
theorem below_app {w w' : World} (os : Array Obj) (h1 : w'.os = w.os) (h2 : w'.tape = w.tape) (h3 : w'.output = w.output) (h4 : w'.heap = w.heap ++ os) : Below w.heap.size w w' :=
  ⟨h1, h2, h3, by rw [h4]; simp, fun j hj => by rw [h4]; simp [Array.getElem?_append, hj]⟩

set_option maxRecDepth 100000 in
set_option maxHeartbeats 2000000 in
theorem stext_any (a b : Int) (h0 : -9223372036854775808 ≤ a) (h1 : a ≤ 9223372036854775807) (h2 : -9223372036854775808 ≤ b) (h3 : b ≤ 9223372036854775807) (w : World) (hp : PowT w) (h8 : 8 ≤ w.heap.size) :
    Calls Tryz.prog 179 #[spC a b] w fun e w' => e = .returned (.string ⟨(spanT a b).toArray⟩) ∧ Below w.heap.size w w' := by
  have hla := itoa_20 a h0 h1
  have hlb := itoa_20 b h2 h3
  have hS0 : (w.alloc (spB a b)).heap[w.heap.size]? = some (spB a b) ∧ Below w.heap.size w (w.alloc (spB a b)) := ⟨blk_new w _, (Below.refl _ _).alloc (Nat.le_refl _) _⟩
  have HP := hide hp
  clear hp
  go_enter Tryz.func179, Tryz.ntmps179
  go_upto_region 1 with fail
  change Code.wp _ _ _ _ (w.alloc (spB a b))
  generalize w.alloc (spB a b) = W at *
  refine wp_region_held (S := fun W' => W'.heap[w.heap.size]? = some (spB a b) ∧ Below w.heap.size w W') mixed ?_
  have hb0 : ({ W with drawn := W.drawn + 1 } : World).heap[w.heap.size]? = some (spB a b) ∧ Below w.heap.size w { W with drawn := W.drawn + 1 } := ⟨hS0.1, hS0.2.drew⟩
  generalize ({ W with drawn := W.drawn + 1 } : World) = w0 at *
  have HE0 := hide hb0
  clear hb0 hS0
  refine held_take (i := 0) (some 3) rfl rfl (by kernel_rfl) (by kernel_rfl) (by kernel_rfl) (fun _ _ _ h => h) (.inl ⟨by kernel_rfl, fun w' h => by go_simp; rfl⟩) HE0.out ?_
  simp only [Act.put, List.setIfInBounds_toArray, List.set_cons_zero, List.set_cons_succ]
  refine held_take (i := 1) (some 4) rfl rfl (by kernel_rfl) (by kernel_rfl) (by kernel_rfl) (fun _ _ _ h => h) (.inl ⟨by kernel_rfl, fun w' h => by have hc : w'.cell? ⟨w.heap.size, 0, none⟩ = some (.int .i64 a) := cell_of_blk h.1 0; go_simp; rfl⟩) HE0.out ?_
  simp only [Act.put, List.setIfInBounds_toArray, List.set_cons_zero, List.set_cons_succ]
  refine held_take (i := 4) (some 7) rfl rfl (by kernel_rfl) (by kernel_rfl) (by kernel_rfl) (fun _ _ _ h => h) (.inl ⟨by kernel_rfl, fun w' h => by go_simp; rfl⟩) HE0.out ?_
  simp only [Act.put, List.setIfInBounds_toArray, List.set_cons_zero, List.set_cons_succ]
  refine held_take (i := 5) (some 8) rfl rfl (by kernel_rfl) (by kernel_rfl) (by kernel_rfl) (fun _ _ _ h => h) (.inl ⟨by kernel_rfl, fun w' h => by have hc : w'.cell? ⟨w.heap.size, 1, none⟩ = some (.int .i64 b) := cell_of_blk h.1 1; go_simp; rfl⟩) HE0.out ?_
  simp only [Act.put, List.setIfInBounds_toArray, List.set_cons_zero, List.set_cons_succ]
  refine held_call (i := 2) (some 5) (by kernel_rfl) rfl rfl (by kernel_rfl) (by go_simp; exact ⟨rfl, rfl⟩) ?_
  refine (Tryz.strconv_FormatInt_10 a h0 h1 w0 (HP.out.mono (HE0.out.2.block _ (by omega)))).mono ?_
  rintro e w1 ⟨rfl, kg, og, hg1⟩
  have hb1 : Below w0.heap.size w0 w1 := below_app og (by rw [hg1]; rfl) (by rw [hg1]; rfl) (by rw [hg1]; rfl) (by rw [hg1]; rfl)
  have HE1 : Hid (w1.heap[w.heap.size]? = some (spB a b) ∧ Below w.heap.size w w1) := hide ⟨(hb1.block _ (blk_lt HE0.out.1)).trans HE0.out.1, HE0.out.2.trans (hb1.mono HE0.out.2.size)⟩
  clear hg1 hb1
  refine ⟨_, rfl, HE1.out, ?_⟩
  simp only [Act.put, List.setIfInBounds_toArray, List.set_cons_zero, List.set_cons_succ]
  refine held_take (i := 3) (some 6) rfl rfl (by kernel_rfl) (by kernel_rfl) (by kernel_rfl) (fun _ _ _ h => h) (.inl ⟨by kernel_rfl, fun w' h => by go_simp; rw [if_neg (by first | omega | (simp; omega))]⟩) HE1.out ?_
  simp only [Act.put, List.setIfInBounds_toArray, List.set_cons_zero, List.set_cons_succ]
  refine held_call (i := 6) (some 9) (by kernel_rfl) rfl rfl (by kernel_rfl) (by go_simp; exact ⟨rfl, rfl⟩) ?_
  refine (Tryz.strconv_FormatInt_10 b h2 h3 w1 (HP.out.mono (HE1.out.2.block _ (by omega)))).mono ?_
  rintro e w2 ⟨rfl, kg, og, hg2⟩
  have hb2 : Below w1.heap.size w1 w2 := below_app og (by rw [hg2]; rfl) (by rw [hg2]; rfl) (by rw [hg2]; rfl) (by rw [hg2]; rfl)
  have HE2 : Hid (w2.heap[w.heap.size]? = some (spB a b) ∧ Below w.heap.size w w2) := hide ⟨(hb2.block _ (blk_lt HE1.out.1)).trans HE1.out.1, HE1.out.2.trans (hb2.mono HE1.out.2.size)⟩
  clear hg2 hb2
  refine ⟨_, rfl, HE2.out, ?_⟩
  simp only [Act.put, List.setIfInBounds_toArray, List.set_cons_zero, List.set_cons_succ]
  refine held_take (i := 7) (some 10) rfl rfl (by kernel_rfl) (by kernel_rfl) (by kernel_rfl) (fun _ _ _ h => h) (.inl ⟨by kernel_rfl, fun w' h => by go_simp; rw [if_neg (by first | omega | (simp; omega))]⟩) HE2.out ?_
  simp only [Act.put, List.setIfInBounds_toArray, List.set_cons_zero, List.set_cons_succ]
  refine held_take (i := 8) (some 2) rfl rfl (by kernel_rfl) (by kernel_rfl) (by kernel_rfl) (fun _ _ _ h => h) (.inl ⟨by kernel_rfl, fun w' h => by go_simp; rfl⟩) HE2.out ?_
  simp only [Act.put, List.setIfInBounds_toArray, List.set_cons_zero, List.set_cons_succ]
  refine wpAnyH_done (by kernel_rfl) ?_ _
  go_wp2
  go_ret
  refine ⟨?_, HE2.out.2⟩
  exact congrArg (fun z => Ending.returned (Value.string z)) (ByteArray.ext (by simp [ByteArray.data_append, spanT]))

end Go.Proofs.YtngopilbpiplhaaGreatDoor

namespace Go.Proofs.YtngopilbpiplhaaGreatDoor
open Go.RowKit
set_option linter.unusedVariables false
set_option linter.unusedSimpArgs false

/-- A register's part of a claim's text; the parts of the registers below k; the text. -/
def partT (c : Cl) (k : Nat) : List UInt8 := 114 :: (Lib.decDigits k ++ 61 :: spanT (c.lo k) (c.hi k))
def cprtF (c : Cl) : Nat → List (List UInt8)
  | 0 => [[111, 107]]
  | k + 1 => if c.has k then cprtF c k ++ [partT c k] else cprtF c k
def clT (c : Cl) : List UInt8 := if c.never then [45] else Lib.join (cprtF c 8) [32]
/-- All numbers of a claim are ones of 64 bits. -/
def ClOk (c : Cl) : Prop := ∀ k, k < 8 → c.has k = true → -9223372036854775808 ≤ c.lo k ∧ c.lo k ≤ 9223372036854775807 ∧ -9223372036854775808 ≤ c.hi k ∧ c.hi k ≤ 9223372036854775807
theorem dec_one (k : Nat) (h : k < 8) : (Lib.decDigits k).length = 1 := by rw [Lib.decDigits_one (by omega)]; rfl
theorem partT_len (c : Cl) (h : ClOk c) (k : Nat) (hk : k < 8) (hh : c.has k = true) : (partT c k).length ≤ 45 := by
  obtain ⟨a, b, d, e⟩ := h k hk hh
  have := spanT_len _ _ a b d e
  have := dec_one k hk
  simp [partT]; omega
theorem cprt_len (c : Cl) (h : ClOk c) : ∀ k, k ≤ 8 → (cprtF c k).length ≤ k + 1 ∧ 0 < (cprtF c k).length ∧ Lib.lens (cprtF c k) ≤ 45 * k + 2
  | 0, _ => ⟨by simp [cprtF], by simp [cprtF], by simp [cprtF, Lib.lens]⟩
  | k + 1, hk => by
    obtain ⟨h1, h2, h3⟩ := cprt_len c h k (by omega)
    unfold cprtF
    cases hh : c.has k with
    | true =>
      have := partT_len c h k (by omega) hh
      refine ⟨by simp; omega, by simp, ?_⟩
      have e : Lib.lens (cprtF c k ++ [partT c k]) = Lib.lens (cprtF c k) + (partT c k).length := by simp [Lib.lens]
      simp only [if_true]
      omega
    | false => exact ⟨by simp; omega, by simpa using h2, by simp; omega⟩
theorem join_len (xs : List (List UInt8)) (s : UInt8) : (Lib.join xs [s]).length ≤ Lib.lens xs + xs.length := by
  cases xs with
  | nil => simp [Lib.join]
  | cons x r =>
    have e : Lib.join (x :: r) [s] = x ++ Lib.joinTail [s] r := Lib.join_cons x r [s]
    rw [e, List.length_append, Lib.joinTail_length]
    simp [Lib.lens]; omega
/-- Strings that are owned lie in a block of their own. -/
theorem strs_slice {w : World} {B : Nat} {v : Value} {xs : List ByteArray} {n : Nat} (h : w.ownsRow B 9 1 v n (xs.map Value.string)) (hn : n = xs.length) (h0 : 0 < n) :
    ∃ g cap, v = .slice (some ⟨g, 0, none⟩) n cap ∧ n ≤ cap ∧ g < w.heap.size ∧ ∀ (j : Nat) x, xs[j]? = some x → w.cell? ⟨g, 0 + j, none⟩ = some (.string x) := by
  obtain ⟨_, ⟨_, h2⟩ | ⟨g, cap, cur, e, hg, hb, hc, _, _, ht⟩⟩ := h
  · omega
  · refine ⟨g, cap, e, hc, blk_lt hb, fun j x hx => ?_⟩
    have hj := (List.getElem?_eq_some_iff.1 hx).1
    have h3 : (cur.toList.take (n * 1))[j]? = some (.string x) := by rw [ht, List.getElem?_map, hx]; rfl
    rw [List.getElem?_take, if_pos (by omega)] at h3
    rw [Nat.zero_add, cell_of_blk hb]
    simpa using h3
theorem ownBlk_ge {w : World} {B g : Nat} {e : TypeId} {sz n : Nat} {v : Value} {xs : List Value} (h : w.ownsRow B e sz v n xs) (hg : v.ownBlock = some g) : B ≤ g := (World.ownsRow.lt h g hg).1
theorem infoStr : (Tryz.prog.info? 9).map (fun i => (i.zero, i.size, i.bytes)) = some (some (.string ⟨#[]⟩), 1, 16) := by kernel_rfl
theorem exec_buildStr {o : Oper} {a : Act} {w : World} (x : Operand) (s : ByteArray) (ho : o.op = .buildSlice 46 1 #[(0, x)]) (hx : a.eval x = .string s) :
    (execOp a.eval o).run Tryz.prog w = .ok (.value (.slice (some ⟨w.heap.size, 0, none⟩) 1 1)) (w.alloc (.cells #[.string s] 9)) := by
  unfold execOp
  simp only [ho, List.map_toArray, List.map_cons, List.map_nil, hx]
  kernel_rfl
theorem held_append {ops : Array Oper} {Q : Exit → Act → World → Prop} {S : World → Prop} {i : Nat} {o : Oper} {a : Act} {w : World} {fuel : Nat} {listed : Array Bool}
    (hr : Region.ready .any ops listed = [i]) (hi : ops[i]? = some o) (hw : Region.wanted o (yielded ops a.tmps) = true) (s x : Operand) (ho : o.op = .call { callee := .builtin .append, args := #[s, x], argTypes := #[46, 46] })
    (B : Nat) (v : Value) (n : Nat) (xs : List Value) (hs : a.eval s = v) (hown : w.ownsRow B 9 1 v n xs) (g : Nat) (u : ByteArray) (hx : a.eval x = .slice (some ⟨g, 0, none⟩) 1 1) (hu : w.heap[g]? = some (.cells #[.string u] 9))
    (h63 : n ≤ 1000) (hB : B ≤ w.heap.size)
    (h : ∀ v' w', w'.ownsRow B 9 1 v' (n + 1) (xs ++ [.string u]) → w.grownBy w' v.ownBlock → S w' ∧ wpAnyH Tryz.prog .any ops Q S fuel (listed.setIfInBounds i true) (a.put o.dst v') w') : wpAnyH Tryz.prog .any ops Q S (fuel + 1) listed a w := by
  refine wpAnyH_all hr (by simp) fun j hj => ?_
  obtain rfl : j = i := by simpa using hj
  unfold wpOp
  simp only [hi, hw, if_true]
  refine .inl ?_
  obtain ⟨i0, hi0, hz0, hz1, hz2⟩ := info_parts infoStr
  refine wp_append_own w s x 46 ho B 9 i0 _ 1 16 Tryz.underlying46 hi0 hz0 hz1 hz2 rfl (by decide) v n xs hs hown ⟨g, 0, none⟩ 1 1 [.string u] hx rfl ?_ (by simp [Value.oneCell']) (by unfold maxLen; omega) (by omega) hB fun v' w' h2 h3 _ => h v' w' h2 h3
  intro k z hk
  have hk0 : k = 0 := by have := (List.getElem?_eq_some_iff.1 hk).1; simp at this; omega
  subst hk0
  have e : (⟨g, 0, none⟩ : Addr).add 0 = ⟨g, 0, none⟩ := by unfold Addr.add; split <;> simp_all
  rw [e, cell_of_blk hu]
  simpa using hk
theorem index_has (c : Cl) (w : World) (k : Nat) (hk : k < 8) : (Instr.index 130 (.agg (hasA c)) (.int .i64 (k : Int))).run Tryz.prog w = .ok (.bool (c.has k)) w := index8 c.has w k hk
theorem strOf_app (l : List UInt8) (m : List UInt8) : (⟨l.toArray⟩ : ByteArray) ++ ⟨m.toArray⟩ = ⟨(l ++ m).toArray⟩ := ByteArray.ext (by simp [ByteArray.data_append])

set_option maxRecDepth 100000 in
set_option maxHeartbeats 4000000 in
theorem ctext_any (c : Cl) (hok : ClOk c) (w : World) (hp : PowT w) (h8 : 8 ≤ w.heap.size) :
    Calls Tryz.prog 120 #[.agg (clCells c)] w fun e w' => e = .returned (.string ⟨(clT c).toArray⟩) ∧ Below w.heap.size w w' := by
  have HP := hide hp
  have HOK := hide hok
  have hA0 : (w.alloc (clB c)).heap[w.heap.size]? = some (clB c) := blk_new w _
  have hB0 : Below w.heap.size w (w.alloc (clB c)) := (Below.refl _ _).alloc (Nat.le_refl _) _
  have hs0 : (w.alloc (clB c)).heap.size = w.heap.size + 1 := World.size_alloc _ _
  clear hp hok
  cases hn : c.never with
  | true =>
    have HT : Hid (clT c = [45]) := hide (by simp [clT, hn])
    have n1 : (clCells c)[0]? = some (.bool true) := by rw [cl_never, hn]
    go_enter Tryz.func120, Tryz.ntmps120
    go_wp2
    go_ret
    exact ⟨by rw [HT.out]; rfl, hB0⟩
  | false =>
    have HT : Hid (clT c = Lib.join (cprtF c 8) [32]) := hide (by simp [clT, hn])
    have n1 : (clCells c)[0]? = some (.bool false) := by rw [cl_never, hn]
    have hR1 : ((w.alloc (clB c)).alloc (.cells #[.string ⟨#[111, 107]⟩] 9)).rangeAt w.heap.size 1 (hasA c).toList := fun j v hv => by
      rw [cell_of_blk (blk_alloc hA0 _)]
      have hj := (List.getElem?_eq_some_iff.1 hv).1
      rw [← hv]
      exact lt8' (p := fun j => (clCells c)[1 + j]? = (hasA c).toList[j]?) rfl rfl rfl rfl rfl rfl rfl rfl j hj
    have HR1 := hide hR1
    clear hR1 hn
    go_enter Tryz.func120, Tryz.ntmps120
    go_upto_region 4 with fail
    go_wp2_with (refine wpList_load_mid rfl 130 (.tmp 9) rfl w.heap.size 1 rfl (hasA c).toList _ HR1.out Tryz.underlying130 rfl (by kernel_rfl) ?_)
    have hO1 : ((w.alloc (clB c)).alloc (.cells #[.string ⟨#[111, 107]⟩] 9)).ownsRow (w.heap.size + 1) 9 1 (.slice (some ⟨w.heap.size + 1, 0, none⟩) 1 1) 1 (((cprtF c 0).map fun l => (⟨l.toArray⟩ : ByteArray)).map Value.string) :=
      ⟨rfl, .inr ⟨w.heap.size + 1, 1, #[.string ⟨#[111, 107]⟩], rfl, Nat.le_refl _, heap_alloc2_new w _ _, Nat.le_refl _, by decide, rfl, rfl⟩⟩
    have hA1 := blk_alloc hA0 (.cells #[.string ⟨#[111, 107]⟩] 9)
    have hB1 : Below w.heap.size w ((w.alloc (clB c)).alloc (.cells #[.string ⟨#[111, 107]⟩] 9)) := hB0.alloc (by omega) _
    have hs1 : ((w.alloc (clB c)).alloc (.cells #[.string ⟨#[111, 107]⟩] 9)).heap.size = w.heap.size + 2 := by simp
    clear HR1 hA0 hB0 hs0 n1
    change Code.wp _ _ _ _ ((w.alloc (clB c)).alloc (.cells #[.string ⟨#[111, 107]⟩] 9))
    generalize (w.alloc (clB c)).alloc (.cells #[.string ⟨#[111, 107]⟩] 9) = W1 at *
    have HO1 := hide hO1
    have HA1 := hide hA1
    have HB1 := hide hB1
    clear hO1 hA1 hB1
    go_loopw [3, 11] (fun pv iv w' => ∃ k : Nat, k ≤ 8 ∧ iv = .int .i64 k ∧ w'.ownsRow (w.heap.size + 1) 9 1 pv (cprtF c k).length (((cprtF c k).map fun l => (⟨l.toArray⟩ : ByteArray)).map Value.string) ∧ w'.heap[w.heap.size]? = some (clB c) ∧ Below w.heap.size w w' ∧ w.heap.size + 2 ≤ w'.heap.size) (fun _ iv _ => 8 - (intOf iv).toNat)
    case atStart => exact ⟨0, by omega, rfl, HO1.out, HA1.out, HB1.out, by omega⟩
    case round =>
      clear HO1 HA1 HB1
      obtain ⟨k, hk8, rfl, hO, hA, hB, hsz⟩ := hrel
      have HO := hide hO
      have HA := hide hA
      have HB := hide hB
      clear hO hA hB
      obtain ⟨W9, hW9⟩ : ∃ W : World, W = wr := ⟨_, rfl⟩
      subst hW9
      have hcl := cprt_len c HOK.out k hk8
      by_cases hk : k < 8
      · have hkI : (k : Int) < 8 := by omega
        have hidx := index_has c W9 k hk
        cases hck : c.has k with
        | false =>
          rw [hck] at hidx
          have HN : Hid (cprtF c (k + 1) = cprtF c k) := hide (by simp [cprtF, hck])
          clear hck
          go_wp2
          go_roundw
          case rel => exact ⟨k + 1, by omega, by go_num, by rw [HN.out]; exact HO.out, HA.out, HB.out, hsz⟩
          case measure => simp [intOf]; omega
        | true =>
          rw [hck] at hidx
          have HN : Hid (cprtF c (k + 1) = cprtF c k ++ [partT c k]) := hide (by simp [cprtF, hck])
          obtain ⟨b0, b1, b2, b3⟩ := HOK.out k hk hck
          have hsl := spanT_len _ _ b0 b1 b2 b3
          have hd1 := dec_one k hk
          clear hck
          have hR9 : ∀ W : World, W.heap[w.heap.size]? = some (clB c) → W.rangeAt w.heap.size (9 + k * 2) [.int .i64 (c.lo k), .int .i64 (c.hi k)] := fun W hW j v hv => by
            rw [cell_of_blk hW]
            match j, hv with
            | 0, hv => exact (cl_lo c k hk).trans hv
            | 1, hv => exact (cl_hi c k hk).trans hv
            | n + 2, hv => simp at hv
          go_wp2_with fail
          clear hidx
          refine wp_region_held (S := fun W' => W'.heap[w.heap.size]? = some (clB c) ∧ Below w.heap.size w W') mixed ?_
          have hb0 : ({ W9 with drawn := W9.drawn + 1 } : World).heap[w.heap.size]? = some (clB c) ∧ Below w.heap.size w { W9 with drawn := W9.drawn + 1 } := ⟨HA.out, HB.out.drew⟩
          have hO0 : ({ W9 with drawn := W9.drawn + 1 } : World).ownsRow (w.heap.size + 1) 9 1 u3 (cprtF c k).length (((cprtF c k).map fun l => (⟨l.toArray⟩ : ByteArray)).map Value.string) := HO.out
          have hz0 : ({ W9 with drawn := W9.drawn + 1 } : World).heap.size = W9.heap.size := rfl
          generalize ({ W9 with drawn := W9.drawn + 1 } : World) = w0 at *
          have HE0 := hide hb0
          have HO0 := hide hO0
          clear hb0 hO0 HA HO HB
          refine held_take (i := 0) (some 16) rfl rfl (by kernel_rfl) (by kernel_rfl) (by kernel_rfl) (fun _ _ _ h => h) (.inl ⟨by kernel_rfl, fun w' h => by go_simp; rfl⟩) HE0.out ?_
          simp only [Act.put, List.setIfInBounds_toArray, List.set_cons_zero, List.set_cons_succ]
          refine held_take (i := 1) (some 17) rfl rfl (by kernel_rfl) (by kernel_rfl) (by kernel_rfl) (fun _ _ _ h => h) (.inl ⟨by kernel_rfl, fun w' h => by go_simp; rfl⟩) HE0.out ?_
          simp only [Act.put, List.setIfInBounds_toArray, List.set_cons_zero, List.set_cons_succ]
          refine held_take (i := 5) (some 21) rfl rfl (by kernel_rfl) (by kernel_rfl) (by kernel_rfl) (fun _ _ _ h => h) (.inl ⟨by kernel_rfl, fun w' h => by go_simp; rfl⟩) HE0.out ?_
          simp only [Act.put, List.setIfInBounds_toArray, List.set_cons_zero, List.set_cons_succ]
          refine held_take (i := 6) (some 22) rfl rfl (by kernel_rfl) (by kernel_rfl) (by kernel_rfl) (fun _ _ _ h => h) (.inl ⟨by kernel_rfl, fun w' h => by go_simp; rfl⟩) HE0.out ?_
          simp only [Act.put, List.setIfInBounds_toArray, List.set_cons_zero, List.set_cons_succ]
          refine held_take (i := 7) (some 23) rfl rfl (by kernel_rfl) (by kernel_rfl) (by kernel_rfl) (fun _ _ _ h => h) (.inl ⟨by kernel_rfl, fun w' h => by go_simp; rfl⟩) HE0.out ?_
          simp only [Act.put, List.setIfInBounds_toArray, List.set_cons_zero, List.set_cons_succ]
          refine held_take (i := 8) (some 24) rfl rfl (by kernel_rfl) (by kernel_rfl) (by kernel_rfl) (fun _ _ _ h => h) (yieldsIf_load_mid (by kernel_rfl) 132 (.tmp 23) rfl w.heap.size (9 + k * 2) (by kernel_rfl) [.int .i64 (c.lo k), .int .i64 (c.hi k)] _ (fun w' h => hR9 w' h.1) Tryz.underlying132 rfl (by kernel_rfl)) HE0.out ?_
          simp only [Act.put, List.setIfInBounds_toArray, List.set_cons_zero, List.set_cons_succ]
          refine held_call (i := 2) (some 18) (by kernel_rfl) rfl rfl (by kernel_rfl) (by go_simp; exact ⟨rfl, rfl⟩) ?_
          refine (Tryz.strconv_Itoa_small k (by omega) w0).mono ?_
          rintro e w1 ⟨rfl, rfl⟩
          refine ⟨_, rfl, HE0.out, ?_⟩
          simp only [Act.put, List.setIfInBounds_toArray, List.set_cons_zero, List.set_cons_succ]
          refine held_take (i := 3) (some 19) rfl rfl (by kernel_rfl) (by kernel_rfl) (by kernel_rfl) (fun _ _ _ h => h) (.inl ⟨by kernel_rfl, fun w' h => by go_simp; first | rfl | rw [if_neg (by first | omega | (simp; omega))]⟩) HE0.out ?_
          simp only [Act.put, List.setIfInBounds_toArray, List.set_cons_zero, List.set_cons_succ]
          refine held_take (i := 4) (some 20) rfl rfl (by kernel_rfl) (by kernel_rfl) (by kernel_rfl) (fun _ _ _ h => h) (.inl ⟨by kernel_rfl, fun w' h => by go_simp; first | rfl | rw [if_neg (by first | omega | (simp; omega))]⟩) HE0.out ?_
          simp only [Act.put, List.setIfInBounds_toArray, List.set_cons_zero, List.set_cons_succ]
          refine held_call (i := 9) (some 25) (by kernel_rfl) rfl rfl (by kernel_rfl) (by go_simp; exact ⟨rfl, rfl⟩) ?_
          refine (stext_any (c.lo k) (c.hi k) b0 b1 b2 b3 w1 (HP.out.mono (HE0.out.2.block _ (by omega))) (by omega)).mono ?_
          rintro e w2 ⟨rfl, hb2⟩
          have HE2 : Hid (w2.heap[w.heap.size]? = some (clB c) ∧ Below w.heap.size w w2) := hide ⟨(hb2.block _ (blk_lt HE0.out.1)).trans HE0.out.1, HE0.out.2.trans (hb2.mono HE0.out.2.size)⟩
          have HO2 := hide (ownsRow_below HO0.out (fun g _ hg => hb2.block g hg))
          have hz2 := hb2.size
          clear hb2 HE0 HO0
          refine ⟨_, rfl, HE2.out, ?_⟩
          simp only [Act.put, List.setIfInBounds_toArray, List.set_cons_zero, List.set_cons_succ]
          refine held_take (i := 10) (some 26) rfl rfl (by kernel_rfl) (by kernel_rfl) (by kernel_rfl) (fun _ _ _ h => h) (.inl ⟨by kernel_rfl, fun w' h => by go_simp; first | rfl | rw [if_neg (by first | omega | (simp; omega))]⟩) HE2.out ?_
          simp only [Act.put, List.setIfInBounds_toArray, List.set_cons_zero, List.set_cons_succ]
          refine wpAnyH_all (rs := [11]) (by kernel_rfl) (by simp) ?_
          intro i hi
          obtain rfl : i = 11 := by simpa using hi
          clear hi
          have hstr : (((⟨#[114]⟩ : ByteArray) ++ ⟨(Lib.decDigits k).toArray⟩) ++ ⟨#[61]⟩) ++ ⟨(spanT (c.lo k) (c.hi k)).toArray⟩ = ⟨(partT c k).toArray⟩ := ByteArray.ext (by simp [ByteArray.data_append, partT])
          refine wpOp_new (some 27) rfl rfl (by kernel_rfl) (exec_buildStr (.tmp 26) ((((⟨#[114]⟩ : ByteArray) ++ ⟨(Lib.decDigits k).toArray⟩) ++ ⟨#[61]⟩) ++ ⟨(spanT (c.lo k) (c.hi k)).toArray⟩) rfl rfl) ?_
          rw [hstr]
          have hb3 : Below w2.heap.size w2 (w2.alloc (.cells #[.string ⟨(partT c k).toArray⟩] 9)) := (Below.refl _ _).alloc (Nat.le_refl _) _
          have HU3 := hide (blk_new w2 (.cells #[.string ⟨(partT c k).toArray⟩] 9))
          have hz3 : (w2.alloc (.cells #[.string ⟨(partT c k).toArray⟩] 9)).heap.size = w2.heap.size + 1 := World.size_alloc _ _
          generalize w2.alloc (.cells #[.string ⟨(partT c k).toArray⟩] 9) = w3 at *
          have HE3 : Hid (w3.heap[w.heap.size]? = some (clB c) ∧ Below w.heap.size w w3) := hide ⟨(hb3.block _ (blk_lt HE2.out.1)).trans HE2.out.1, HE2.out.2.trans (hb3.mono HE2.out.2.size)⟩
          have HO3 := hide (ownsRow_below HO2.out (fun g _ hg => hb3.block g hg))
          clear hb3 HE2 HO2 hstr
          refine ⟨HE3.out, ?_⟩
          simp only [Act.put, List.setIfInBounds_toArray, List.set_cons_zero, List.set_cons_succ]
          refine held_append (i := 12) (by kernel_rfl) rfl (by kernel_rfl) (.tmp 16) (.tmp 27) rfl (w.heap.size + 1) u3 (cprtF c k).length _ (by kernel_rfl) HO3.out w2.heap.size ⟨(partT c k).toArray⟩ (by kernel_rfl) HU3.out (by omega) (by omega) ?_
          intro v4 w4 hO4 hg4
          have hb4 : Below (w.heap.size + 1) w3 w4 := Below.grown (Below.refl _ _) hg4 (by omega) (fun g hg => ownBlk_ge HO3.out hg)
          have HE4 : Hid (w4.heap[w.heap.size]? = some (clB c) ∧ Below w.heap.size w w4) := hide ⟨(hb4.block _ (by omega)).trans HE3.out.1, HE3.out.2.trans (hb4.mono (by omega))⟩
          have HO4 := hide hO4
          have hz4 := hb4.size
          clear hO4 hg4 hb4 HO3 HU3 HE3
          refine ⟨HE4.out, ?_⟩
          simp only [Act.put, List.setIfInBounds_toArray, List.set_cons_zero, List.set_cons_succ]
          refine held_take (i := 13) (some 3) rfl rfl (by kernel_rfl) (by kernel_rfl) (by kernel_rfl) (fun _ _ _ h => h) (.inl ⟨by kernel_rfl, fun w' h => by go_simp; rfl⟩) HE4.out ?_
          simp only [Act.put, List.setIfInBounds_toArray, List.set_cons_zero, List.set_cons_succ]
          refine wpAnyH_done (by kernel_rfl) ?_ _
          go_wp2
          go_roundw
          case rel =>
            refine ⟨k + 1, by omega, by go_num, ?_, HE4.out.1, HE4.out.2, by omega⟩
            rw [HN.out, List.length_append, List.map_append, List.map_append]
            exact HO4.out
          case measure => simp [intOf]; omega
      · obtain rfl : k = 8 := by omega
        obtain ⟨g, cap, rfl, hcap, hgl, hcells⟩ := strs_slice HO.out (by simp) hcl.2.1
        have hjl := join_len (cprtF c 8) 32
        have hmap : ((cprtF c 8).map fun l => (⟨l.toArray⟩ : ByteArray)).map (·.data.toList) = cprtF c 8 := by simp [List.map_map, Function.comp_def]
        have hJ := Tryz.strings_Join g 0 cap ((cprtF c 8).map fun l => (⟨l.toArray⟩ : ByteArray)) ⟨#[32]⟩ W9 hcells hgl (by rw [List.length_map]; omega) (by rw [List.length_map]; omega) (by rw [hmap]; show (Lib.join (cprtF c 8) [32]).length ≤ _; omega)
        rw [hmap, List.length_map] at hJ
        have HJ := hide hJ
        clear hcells hJ hmap
        go_wp2_with fail
        refine HJ.out.mono ?_
        rintro e w1 ⟨rfl, hb1⟩
        have HB1 := hide (HB.out.trans (hb1.mono HB.out.size))
        clear hb1 HJ
        go_wp2
        go_ret
        exact ⟨by rw [HT.out]; rfl, HB1.out⟩

end Go.Proofs.YtngopilbpiplhaaGreatDoor

namespace Go.Proofs.YtngopilbpiplhaaGreatDoor
open Go.RowKit
set_option linter.unusedVariables false
set_option linter.unusedSimpArgs false

/-- A proof's text. -/
def proofT (p : List Cl) : List UInt8 := Lib.join (p.map clT) [10]
theorem clT_len (c : Cl) (h : ClOk c) : (clT c).length ≤ 400 := by
  unfold clT
  split
  · simp
  · have h1 := cprt_len c h 8 (Nat.le_refl _)
    have h2 := join_len (cprtF c 8) 32
    omega
theorem lens_le (xs : List (List UInt8)) (h : ∀ x ∈ xs, x.length ≤ 400) : Lib.lens xs ≤ 400 * xs.length := by
  induction xs with
  | nil => simp [Lib.lens]
  | cons x xs ih =>
    have h1 := ih fun y hy => h y (by simp [hy])
    have h2 := h x (by simp)
    have e : Lib.lens (x :: xs) = x.length + Lib.lens xs := by simp [Lib.lens]
    rw [e, List.length_cons]
    omega
theorem wpList_buildStr {ops : Array Oper} {rest : List Oper} {o : Oper} {a : Act} {w : World} {Q : Exit → Act → World → Prop} (hgd : o.guard = none) (x : Operand) (s : ByteArray) (ho : o.op = .buildSlice 46 1 #[(0, x)]) (hx : a.eval x = .string s)
    (h : ∀ w', Hid (w' = w.alloc (.cells #[.string s] 9)) → wpList Tryz.prog ops Q rest (a.put o.dst (.slice (some ⟨w.heap.size, 0, none⟩) 1 1)) w') : wpList Tryz.prog ops Q (o :: rest) a w :=
  wpList_plain hgd fun _ hK => by
    unfold Oper.wp
    rw [exec_buildStr x s ho hx]
    exact hK _ _ (h _ (hide rfl))
theorem str_at {w2 w3 : World} (s : ByteArray) (h : w3 = w2.alloc (.cells #[.string s] 9)) : ∀ j u, ([Value.string s])[j]? = some u → w3.cell? ((⟨w2.heap.size, 0, none⟩ : Addr).add j) = some u := by
  intro j u hj
  have e : (⟨w2.heap.size, 0, none⟩ : Addr).add j = ⟨w2.heap.size, j, none⟩ := by unfold Addr.add; split <;> simp_all
  rw [e, h, cell_of_blk (blk_new w2 _)]
  simpa using hj

set_option maxRecDepth 100000 in
set_option maxHeartbeats 4000000 in
theorem Text_any (p : List Cl) (pb cap : Nat) (w : World) (hn : p.length ≤ 100) (h0 : 0 < p.length) (hC : ClaimsAt w pb p) (hlp : pb < w.heap.size) (hok : ∀ c ∈ p, ClOk c) (hp : PowT w) (h8 : 8 ≤ w.heap.size) :
    Calls Tryz.prog 40 #[.slice (some ⟨pb, 0, none⟩) p.length cap] w fun e w' => e = .returned (.string ⟨(proofT p).toArray⟩) ∧ Below w.heap.size w w' := by
  obtain ⟨i0, hi, hz0, hz1, hz2⟩ := info_parts infoStr
  have hmk := run_make (P := Tryz.prog) w 46 9 i0 _ Tryz.underlying46 hi hz0 .i64 .i64 0 (p.length : Int) (Int.le_refl _) (by omega) (by rw [hz2]; omega) (by omega)
  simp only [Int.toNat_zero, Int.toNat_natCast, hz1, Nat.mul_one] at hmk
  have hown0 : (w.alloc (.cells (madeCells (Value.string ⟨#[]⟩).cells p.length) 9)).ownsRow w.heap.size 9 1 (.slice (some ⟨w.heap.size, 0, none⟩) 0 p.length) 0 [] := World.ownsRow_made w _ p.length (Nat.le_refl _) (by unfold maxLen; omega) (by rw [size_madeCells]; omega)
  have hb0 : Below w.heap.size w (w.alloc (.cells (madeCells (Value.string ⟨#[]⟩).cells p.length) 9)) := (Below.refl _ _).alloc (Nat.le_refl _) _
  have HC := hide hC
  have HOK := hide hok
  have HP := hide hp
  have HI := hide hi
  have HI0 := hide hz0
  have HI1 := hide hz1
  have HI2 := hide hz2
  clear hC hok hp hi hz0 hz1 hz2
  go_enter Tryz.func40, Tryz.ntmps40
  go_wp2_with fail
  change Code.wp _ _ _ _ (w.alloc (.cells (madeCells (Value.string ⟨#[]⟩).cells p.length) 9))
  clear hmk
  generalize w.alloc (.cells (madeCells (Value.string ⟨#[]⟩).cells p.length) 9) = W0 at *
  have HO0 := hide hown0
  have HB0 := hide hb0
  clear hown0 hb0
  go_loopw [3, 11] (fun pv iv w' => ∃ k : Nat, k ≤ p.length ∧ iv = .int .i64 k ∧ w'.ownsRow w.heap.size 9 1 pv k (((p.take k).map fun c => (⟨(clT c).toArray⟩ : ByteArray)).map Value.string) ∧ Below w.heap.size w w') (fun _ iv _ => p.length - (intOf iv).toNat)
  case atStart => exact ⟨0, Nat.zero_le _, rfl, HO0.out, HB0.out⟩
  case round =>
    clear HO0 HB0
    obtain ⟨k, hk, rfl, hO, hB⟩ := hrel
    have HO := hide hO
    have HB := hide hB
    have hsz := hB.size
    clear hO hB
    obtain ⟨W9, hW9⟩ : ∃ W : World, W = wr := ⟨_, rfl⟩
    subst hW9
    by_cases hlt : k < p.length
    · have hltI : (k : Int) < (p.length : Int) := by omega
      obtain ⟨c, hc⟩ : ∃ c, p[k]? = some c := ⟨_, List.getElem?_eq_getElem hlt⟩
      have hok := HOK.out c (List.mem_of_getElem? hc)
      have HCOK := hide hok
      have HRC := hide ((HC.out.mono (HB.out.block _ hlp)).2 k c hc)
      have HTK : Hid (p.take (k + 1) = p.take k ++ [c]) := hide (by rw [List.take_add_one, hc]; rfl)
      clear hc hok
      go_wp2_with (first | (refine wpList_load_mid rfl 135 (.tmp 13) rfl pb (k * 25) rfl (clCells c).toList _ HRC.out Tryz.underlying135 rfl (by kernel_rfl) ?_) | (refine wpList_storeCl rfl (.tmp 5) (.tmp 14) rfl W9.heap.size (clCells c) _ _ rfl rfl (blk_new W9 _) (cl_size _) rfl (cl_one _) ?_))
      intro w1 hw1
      have hb1 : Below W9.heap.size W9 w1 := by rw [hw1.out]; exact below_setG ((Below.refl _ _).alloc (Nat.le_refl _) _) (Nat.le_refl _) _
      have HC1 : Hid (w1.heap[W9.heap.size]? = some (clB c)) := hide (by rw [hw1.out]; exact setRow_heap _ _ _ _ _ _ (blk_new W9 _))
      have HO1 := hide (ownsRow_below HO.out (fun g _ hg => hb1.block g hg))
      have HB1 := hide (HB.out.trans (hb1.mono HB.out.size))
      have hs1 := hb1.size
      clear hw1 hb1 HRC HO
      go_wp2_with (refine wpList_load_row rfl 135 (.tmp 5) rfl W9.heap.size rfl _ _ _ _ HC1.out Tryz.underlying135 rfl (by kernel_rfl) ?_)
      refine (ctext_any c HCOK.out w1 (HP.out.mono (HB1.out.block _ (by omega))) (by omega)).mono ?_
      rintro e w2 ⟨rfl, hb2⟩
      have HO2 := hide (ownsRow_below HO1.out (fun g _ hg => hb2.block g hg))
      have HB2 := hide (HB1.out.trans (hb2.mono HB1.out.size))
      have hs2 := hb2.size
      clear hb2 HO1 HC1
      go_wp2_with (refine wpList_buildStr rfl (.tmp 17) ⟨(clT c).toArray⟩ rfl rfl ?_)
      intro w3 hw3
      have HST := hide (str_at _ hw3.out)
      have hb3 : Below w2.heap.size w2 w3 := by rw [hw3.out]; exact (Below.refl _ _).alloc (Nat.le_refl _) _
      have HO3 := hide (ownsRow_below HO2.out (fun g _ hg => hb3.block g hg))
      have HB3 := hide (HB2.out.trans (hb3.mono HB2.out.size))
      have hs3 := hb3.size
      clear hw3 hb3 HO2
      go_wp2_with (at_builtin; refine wpList_append_own _ rfl (.tmp 15) (.tmp 18) 46 rfl w.heap.size 9 i0 _ 1 16 Tryz.underlying46 HI.out HI0.out HI1.out HI2.out rfl (by decide) u3 k _ rfl HO3.out ⟨w2.heap.size, 0, none⟩ 1 1 [.string ⟨(clT c).toArray⟩] rfl rfl HST.out (by simp [Value.oneCell']) (by unfold maxLen; omega) (by omega) (by omega) ?_)
      intro v4 w4 hO4 hg4 _
      have hb4 : Below w.heap.size w3 w4 := Below.grown (Below.refl _ _) hg4 (by omega) (fun g hg => ownBlk_ge HO3.out hg)
      have HO4 := hide hO4
      have HB4 := hide (HB3.out.trans hb4)
      clear hO4 hg4 hb4 HO3 HST
      go_wp2
      go_roundw
      case rel =>
        refine ⟨k + 1, by omega, by go_num, ?_, HB4.out⟩
        rw [HTK.out, show (((p.take k ++ [c]).map fun c => (⟨(clT c).toArray⟩ : ByteArray)).map Value.string) = List.take k (List.map (Value.string ∘ fun c => (⟨(clT c).toArray⟩ : ByteArray)) p) ++ [Value.string ⟨(clT c).toArray⟩] by simp [List.map_take]]
        exact HO4.out
      case measure => simp [intOf]; omega
    · obtain rfl : k = p.length := by omega
      have hO := HO.out
      rw [List.take_of_length_le (Nat.le_refl _)] at hO
      obtain ⟨g, cap, rfl, hcap, hgl, hcells⟩ := strs_slice hO (by simp) h0
      have hjl := join_len (p.map clT) 10
      have hll := lens_le (p.map clT) (fun x hx => by obtain ⟨c, hc, rfl⟩ := List.mem_map.1 hx; exact clT_len c (HOK.out c hc))
      rw [List.length_map] at hjl hll
      have hmap : (p.map fun c => (⟨(clT c).toArray⟩ : ByteArray)).map (·.data.toList) = p.map clT := by simp [List.map_map, Function.comp_def]
      have hJ := Tryz.strings_Join g 0 cap (p.map fun c => (⟨(clT c).toArray⟩ : ByteArray)) ⟨#[10]⟩ W9 hcells hgl (by rw [List.length_map]; omega) (by rw [List.length_map]; omega) (by rw [hmap]; show (Lib.join (p.map clT) [10]).length ≤ _; omega)
      rw [hmap, List.length_map] at hJ
      have HJ := hide hJ
      clear hcells hJ hmap hO HO
      go_wp2_with fail
      refine HJ.out.mono ?_
      rintro e w1 ⟨rfl, hb1⟩
      have HB1 := hide (HB.out.trans (hb1.mono HB.out.size))
      clear hb1 HJ
      go_wp2
      go_ret
      exact ⟨rfl, HB1.out⟩

end Go.Proofs.YtngopilbpiplhaaGreatDoor

namespace Go.Proofs.YtngopilbpiplhaaGreatDoor
open Go.RowKit
set_option linter.unusedVariables false

/-- What Prove answers of a program whose search comes to these claims. -/
def wProveRes (xs : List Ln) (p : List Cl) (e : Ending) : Prop :=
  (∃ k : Nat, unmetF xs p = some k ∧ e = .returned (.tuple #[.string ⟨#[]⟩, .int .i64 7, .int .i64 (k : Int)])) ∨
  (unmetF xs p = none ∧ e = .returned (.tuple #[.string ⟨(proofT p).toArray⟩, .int .i64 0, .int .i64 0]))

set_option maxRecDepth 100000 in
set_option maxHeartbeats 4000000 in
theorem wProve_any (l : List UInt8) (w : World) (f : Nat) (hf : f ≤ 100000) (END : List Cl × List Int) (hl : l.length ≤ 281474976710656) (hgood : Good l) (hlen : (progF l).length ≤ 100) (hpos : 0 < (progF l).length)
    (hE : searchF (progF l) f (start0 (progF l).length) = some END) (hcok : ∀ c ∈ END.1, ClOk c) (hW : ∀ (s0 k : Nat) (x : Ln), (progF l)[k]? = some x → LineW s0 x)
    (hTo : ∀ (k : Nat) (x : Ln), (progF l)[k]? = some x → ∀ c, ∀ e ∈ exitsOf x c k, ∃ t : Nat, e.1 = (t : Int) ∧ t < (progF l).length) (hg : Glob w) (hp : PowT w) :
    Calls Tryz.prog 17 #[.string ⟨l.toArray⟩] w fun e w' => wProveRes (progF l) END.1 e ∧ Below w.heap.size w w' := by
  have HG := hide hg
  have HP := hide hp
  have hg8 := hg.size
  have HE := hide hE
  have HCOK := hide hcok
  have HW := hide hW
  have HTO := hide hTo
  clear hg hp hE hcok hW hTo
  go_enter Tryz.func17, Tryz.ntmps17
  go_wp2_with fail
  refine (Rows_any w).mono ?_
  rintro e w1 ⟨rfl, ht1, hs1, hb1⟩
  have HT1 := hide ht1
  have HB1 := hide hb1
  clear ht1 hb1
  go_wp2_with fail
  refine (Read_any l w.heap.size w1 hl (HG.out.below HB1.out hg8) HT1.out.rows).mono ?_
  rintro e w2 ⟨hres, hb2⟩
  rcases hres with ⟨g, cap, rfl, _, hcap, hge, hL⟩ | ⟨c, p, _, hbad⟩
  · have HB2 := hide (HB1.out.trans (hb2.mono HB1.out.size))
    have HT2 : Hid (Table w.heap.size w2) := hide (HT1.out.mono fun k _ hk => hb2.block k (by omega))
    have hsz2 := hb2.size
    have HL2 := hide hL
    clear hb2 hL HT1 HB1
    generalize hxs : progF l = xs at *
    have HXS := hide hxs
    clear hxs
    have HPR := hide (Prove_any w.heap.size g cap xs w2 f hf END HE.out hlen hpos HT2.out (by omega) HL2.out (HW.out w.heap.size) HTO.out)
    go_wp2_with fail
    refine HPR.out.mono ?_
    rintro e w3 ⟨hb3, hres3⟩
    have HB3 := hide (HB2.out.trans (hb3.mono HB2.out.size))
    have hsz3 := hb3.size
    clear hb3 HPR
    rcases hres3 with ⟨k, hu, rfl⟩ | ⟨hu, rfl, hC, hpl, hlt⟩
    · have HU := hide hu
      have hk0 : (0 : Int) ≤ (k : Int) := by omega
      clear hu
      go_wp2
      go_ret3
      exact ⟨.inl ⟨k, by rw [HXS.out]; exact HU.out, rfl⟩, HB3.out⟩
    · have HU := hide hu
      have hC3 := Text_any END.1 w2.heap.size xs.length w3 (by omega) (by omega) hC hlt HCOK.out (HP.out.mono (HB3.out.block _ (by omega))) (by omega)
      rw [hpl] at hC3
      have HTX := hide hC3
      clear hu hC hC3
      go_wp2_with fail
      refine HTX.out.mono ?_
      rintro e w4 ⟨rfl, hb4⟩
      have HB4 := hide (HB3.out.trans (hb4.mono HB3.out.size))
      clear hb4 HTX
      go_wp2
      go_ret3
      exact ⟨.inr ⟨by rw [HXS.out]; exact HU.out, rfl⟩, HB4.out⟩
  · exact absurd hbad hgood.not_bad

end Go.Proofs.YtngopilbpiplhaaGreatDoor
