/-
  The contracts of PutOut (and the table's closure that calls it), New, State.
-/
import Derived.Test.YtngopilbpiplhaaGreatDoorSmall
import Derived.Test.YtngopilbpiplhaaGreatDoorShelf
namespace Go.Proofs.YtngopilbpiplhaaGreatDoor
open Go.RowKit

/-- What was put out so far: bytes that the machine's slice owns, among the blocks from B on. -/
def OutIs (B : Nat) (w : World) (m : MS) (l : List UInt8) : Prop := w.ownsRow B 5 1 m.out l.length (Lib.byteCells l)
/-- The library's table of powers of ten is as its text lays it. -/
def PowT (w : World) : Prop := Lib.TabIs Tryz.prog w "internal/strconv.uint64pow10" .u64 Lib.pow10Tab
theorem gPow : Tryz.prog.globalNamed "internal/strconv.uint64pow10" = some 1 := by kernel_rfl
theorem PowT.mono {w w' : World} (h : PowT w) (hb : w'.heap[(1 : Nat)]? = w.heap[(1 : Nat)]?) : PowT w' := by
  unfold PowT Lib.TabIs World.var? at h ⊢
  rw [gPow] at h ⊢
  simp only [Option.bind_some] at h ⊢
  rw [hb]; exact h
theorem PowT.below {B : Nat} {w : World} (h : PowT w) (hB : 8 ≤ B) : Lib.TabBelow Tryz.prog B w "internal/strconv.uint64pow10" .u64 Lib.pow10Tab := fun _ hb => h.mono (hb.block _ (by omega))
theorem PowT.keep {B b : Nat} {w w' : World} (h : PowT w) (hk : Keep B b w w') (hB : 8 ≤ B) (hb : 8 ≤ b) : PowT w' := h.mono (hk.block _ (by omega) (by omega))

theorem mcell_out (m : MS) : mcell m 109 = m.out := rfl
theorem Mach.setOut {w : World} {b : Nat} {m : MS} (h : Mach w b m) (v : Value) : Mach (w.setCell ⟨b, 109, none⟩ v) b { m with out := v } := by
  refine h.setc _ (by omega) rfl ?_
  intro j hj hne
  unfold mcell
  have : j < 109 := by omega
  simp [this]

theorem infoU8 : (Tryz.prog.info? 5).map (fun i => (i.zero, i.size, i.bytes)) = some (some (.int .u8 0), 1, 1) := by kernel_rfl

theorem owns_len {w : World} {B t sz n : Nat} {v : Value} {xs : List Value} (h : w.ownsRow B t sz v n xs) : ∃ a c, v = .slice a n c := by
  obtain ⟨_, ⟨e, e2⟩ | ⟨g, cap, cur, e, _⟩⟩ := h
  · subst e2; exact ⟨_, _, e⟩
  · exact ⟨_, _, e⟩

/-- What PutOut leaves. -/
def OutRes (B b : Nat) (m : MS) (l : List UInt8) (w : World) (e : Ending) (w' : World) : Prop :=
  e = .returned (.tuple #[]) ∧ ∃ v, Mach w' b { m with out := v } ∧ OutIs B w' { m with out := v } l ∧ Keep B b w w'

theorem byteCells_append (a b : List UInt8) : Lib.byteCells a ++ Lib.byteCells b = Lib.byteCells (a ++ b) := by simp [Lib.byteCells]

theorem ownsRow_setb {w : World} {B t sz n b : Nat} {v u : Value} {xs : List Value} (h : w.ownsRow B t sz v n xs) (hb : b < B) (o : Nat) : (w.setCell ⟨b, o, none⟩ u).ownsRow B t sz v n xs := ownsRow_setCell_below h hb u

set_option maxRecDepth 100000 in
set_option maxHeartbeats 2000000 in
theorem PutOut_first (B : Nat) (w : World) (b : Nat) (m : MS) (n : Int) (h0 : -9223372036854775808 ≤ n) (h1 : n ≤ 9223372036854775807) (h : Mach w b m) (ho : OutIs B w m []) (hb : b < B) (hB : B ≤ w.heap.size) (h8 : 8 ≤ b) (hp : PowT w) :
    Calls Tryz.prog 90 #[.pointer (some ⟨b, 0, none⟩), .int .i64 n] w fun e w' => OutRes B b m (Lib.itoa n) w e w' := by
  have hc := h.cell109
  have hf := h.frozen
  have HM := hide h
  have HP := hide hp
  obtain ⟨a, c, hac⟩ := owns_len ho
  unfold OutIs at ho
  rw [hac] at hc ho
  have HO := hide ho
  clear h ho hp hac
  simp only [List.length_nil] at hc
  go_enter Tryz.func90, Tryz.ntmps90
  go_wp2_with fail
  refine (Tryz.strconv_AppendInt_10 B 0 n h0 h1 _ _ w HO.out hB (by omega) (HP.out.below (by omega))).mono ?_
  rintro e w1 ⟨v', rfl, hown, hb1, _⟩
  have hm1 : Mach w1 b m := HM.out.mono (hb1.block b hb)
  have hc1 := hm1.cell109
  have hf1 := hm1.frozen
  have HM1 := hide hm1
  clear hm1
  obtain ⟨a1, c1, hac1⟩ := owns_len hown
  subst hac1
  have HOW := hide hown
  clear hown
  go_wp2
  go_end0
  refine ⟨rfl, _, HM1.out.setOut _, ?_, (Keep.of_below hb1).setb B b _ _⟩
  have h := ownsRow_setb (u := .slice a1 (0 + (Lib.itoa n).length) c1) HOW.out hb 109
  simp only [Nat.zero_add] at h
  exact h

set_option maxRecDepth 100000 in
set_option maxHeartbeats 2000000 in
theorem PutOut_more (B : Nat) (w : World) (b : Nat) (m : MS) (n : Int) (l : List UInt8) (hl0 : 0 < l.length) (hl1 : l.length ≤ 1000000) (h0 : -9223372036854775808 ≤ n) (h1 : n ≤ 9223372036854775807) (h : Mach w b m) (ho : OutIs B w m l) (hb : b < B) (hB : B ≤ w.heap.size) (h8 : 8 ≤ b) (hp : PowT w) :
    Calls Tryz.prog 90 #[.pointer (some ⟨b, 0, none⟩), .int .i64 n] w fun e w' => OutRes B b m (l ++ [32] ++ Lib.itoa n) w e w' := by
  have hc := h.cell109
  have hf := h.frozen
  have HM := hide h
  have HP := hide hp
  have hbl := h.lt
  obtain ⟨a, c, hac⟩ := owns_len ho
  unfold OutIs at ho
  rw [hac] at hc ho
  have HO := hide ho
  clear h ho hp hac
  obtain ⟨i0, hi, hz0, hz1, hz2⟩ := info_parts infoU8
  have HI := hide hi
  have HZ0 := hide hz0
  have HZ1 := hide hz1
  have HZ2 := hide hz2
  clear hi hz0 hz1 hz2
  go_enter Tryz.func90, Tryz.ntmps90
  go_wp2_with (first
    | (at_builtin; refine wpList_append_own _ rfl _ _ 76 rfl B 5 i0 _ 1 1 Tryz.underlying76 HI.out HZ0.out HZ1.out HZ2.out rfl (by decide) _ _ _ rfl (HO.out.alloc _) ⟨w.heap.size, 0, none⟩ 1 1 [.int .u8 32] rfl rfl ?c1 ?c2 ?c3 ?c4 ?c5 ?_)
    | go_in)
  case c1 =>
    intro j u hj
    match j, hj with
    | 0, hj =>
      simp at hj
      subst hj
      have e : (⟨w.heap.size, 0, none⟩ : Addr).add 0 = ⟨w.heap.size, 0, none⟩ := by unfold Addr.add; split <;> simp_all
      rw [e, cell_of_blk (blk_new w _)]; rfl
  case c2 => intro u hu; simp at hu; subst hu; rfl
  case c3 => unfold maxLen; omega
  case c4 => omega
  case c5 => simp; omega
  · intro v1 w1 hown1 hgrow _
    have hb01 : Below B w w1 := by
      refine Below.grown ((Below.refl _ _).alloc hB _) hgrow (by simp; omega) ?_
      intro g hg'
      obtain ⟨_, ⟨e, _⟩ | ⟨g1, cap, cur, e, hg1, _⟩⟩ := HO.out
      · rw [e] at hg'; cases hg'
      · rw [e] at hg'; cases hg'; exact hg1
    have hm1 : Mach w1 b m := HM.out.mono (hb01.block b hb)
    have hc1 := hm1.cell109
    have hf1 := hm1.frozen
    obtain ⟨a1, c1, hac1⟩ := owns_len hown1
    subst hac1
    have HM1 := hide hm1
    have HO1 : Hid ((w1.setCell ⟨b, 109, none⟩ (.slice a1 (l.length + 1) c1)).ownsRow B 5 1 (.slice a1 (l.length + 1) c1) (l.length + 1) (Lib.byteCells (l ++ [32]))) := hide (by
      have hq := ownsRow_setb (u := .slice a1 (l.length + 1) c1) hown1 hb 109
      rw [← byteCells_append]
      exact hq)
    have HP1 : Hid (PowT (w1.setCell ⟨b, 109, none⟩ (.slice a1 (l.length + 1) c1))) := hide ((HP.out.mono (hb01.block _ (by omega))).keep (Keep.setb B b (Keep.refl _ _ _) _ _) (by omega) h8)
    clear hm1 hown1 hgrow
    go_wp2_with fail
    refine (Tryz.strconv_AppendInt_10 B (l.length + 1) n h0 h1 _ _ _ HO1.out (by have := hb01.size; simp; omega) (by omega) (HP1.out.below (by omega))).mono ?_
    rintro e w2 ⟨v', rfl, hown, hb2, _⟩
    have hm2 : Mach w2 b { m with out := .slice a1 (l.length + 1) c1 } := (HM1.out.setOut _).mono (hb2.block b hb)
    have hc2 := hm2.cell109
    have hf2 := hm2.frozen
    have HM2 := hide hm2
    clear hm2
    obtain ⟨a2, c2, hac2⟩ := owns_len hown
    subst hac2
    have HOW := hide hown
    clear hown
    go_wp2
    go_end0
    refine ⟨rfl, _, HM2.out.setOut _, ?_, ((Keep.setb B b (Keep.of_below hb01) _ _).trans (Keep.of_below hb2)).setb B b _ _⟩
    have h := ownsRow_setb (u := .slice a2 (l.length + 1 + (Lib.itoa n).length) c2) HOW.out hb 109
    unfold OutIs
    rw [List.length_append, List.length_append, ← byteCells_append (l ++ [32])]
    exact h

set_option maxHeartbeats 400000 in
theorem rows14_any (B b : Nat) (m : MS) (n : Int) (l : List UInt8) (w : World) (hc : Calls Tryz.prog 90 #[.pointer (some ⟨b, 0, none⟩), .int .i64 n] w fun e w' => OutRes B b m l w e w') :
    Calls Tryz.prog 89 #[.pointer (some ⟨b, 0, none⟩), .int .i64 n] w fun e w' => OutRes B b m l w e w' := by
  have HC := hide hc
  clear hc
  go_enter Tryz.func89, Tryz.ntmps89
  go_wp2_with fail
  refine HC.out.mono ?_
  rintro e w' ⟨rfl, v, hm, ho, hk⟩
  go_wp2
  go_end0
  exact ⟨rfl, v, hm, ho, hk⟩

end Go.Proofs.YtngopilbpiplhaaGreatDoor
