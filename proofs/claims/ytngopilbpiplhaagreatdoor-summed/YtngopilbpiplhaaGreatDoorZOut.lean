/-
  The contracts of PutOut (and the table's closure that calls it), New, State.
  The contracts of the acts out and end.
  What a line does (plain), and the contracts of runner.do and step, out of the act's own contract.
-/
import Derived.Test.YtngopilbpiplhaaGreatDoorZMach
import Derived.Test.YtngopilbpiplhaaGreatDoorZShelf2
import Derived.Test.YtngopilbpiplhaaGreatDoorZParse
namespace Go.Proofs.YtngopilbpiplhaaGreatDoor
open Go.RowKit

/-- What was put out so far: bytes that the machine's slice owns, among the blocks from B on. -/
def OutIs (B : Nat) (w : World) (m : MS) (l : List UInt8) : Prop := w.ownsRow B 5 1 m.out l.length (Lib.byteCells l)
/-- The library's table of powers of ten is as its text lays it. -/
def PowT (w : World) : Prop := Lib.TabIs Tryz.prog w "internal/strconv.uint64pow10" .u64 Lib.pow10Tab
theorem gPow : Tryz.prog.globalNamed "internal/strconv.uint64pow10" = some 1 := by kernel_rfl
theorem PowT.mono {w w' : World} (h : PowT w) (hb : w'.heap[(1 : Nat)]? = w.heap[(1 : Nat)]?) : PowT w' := by
  unfold PowT Lib.TabIs World.var? at h ⊢
  rw [gPow] at h ⊢
  simp only [Option.bind_some] at h ⊢
  rw [hb]; exact h
theorem PowT.below {B : Nat} {w : World} (h : PowT w) (hB : 8 ≤ B) : Lib.TabBelow Tryz.prog B w "internal/strconv.uint64pow10" .u64 Lib.pow10Tab := fun _ hb => h.mono (hb.block _ (by omega))
theorem PowT.keep {B b : Nat} {w w' : World} (h : PowT w) (hk : Keep B b w w') (hB : 8 ≤ B) (hb : 8 ≤ b) : PowT w' := h.mono (hk.block _ (by omega) (by omega))

theorem mcell_out (m : MS) : mcell m 109 = m.out := rfl
theorem Mach.setOut {w : World} {b : Nat} {m : MS} (h : Mach w b m) (v : Value) : Mach (w.setCell ⟨b, 109, none⟩ v) b { m with out := v } := by
  refine h.setc _ (by omega) rfl ?_
  intro j hj hne
  unfold mcell
  have : j < 109 := by omega
  simp [this]

theorem infoU8 : (Tryz.prog.info? 5).map (fun i => (i.zero, i.size, i.bytes)) = some (some (.int .u8 0), 1, 1) := by kernel_rfl

theorem owns_len {w : World} {B t sz n : Nat} {v : Value} {xs : List Value} (h : w.ownsRow B t sz v n xs) : ∃ a c, v = .slice a n c := by
  obtain ⟨_, ⟨e, e2⟩ | ⟨g, cap, cur, e, _⟩⟩ := h
  · subst e2; exact ⟨_, _, e⟩
  · exact ⟨_, _, e⟩

/-- What PutOut leaves. -/
def OutRes (B b : Nat) (m : MS) (l : List UInt8) (w : World) (e : Ending) (w' : World) : Prop :=
  e = .returned (.tuple #[]) ∧ ∃ v, Mach w' b { m with out := v } ∧ OutIs B w' { m with out := v } l ∧ Keep B b w w'

theorem byteCells_append (a b : List UInt8) : Lib.byteCells a ++ Lib.byteCells b = Lib.byteCells (a ++ b) := by simp [Lib.byteCells]

theorem ownsRow_setb {w : World} {B t sz n b : Nat} {v u : Value} {xs : List Value} (h : w.ownsRow B t sz v n xs) (hb : b < B) (o : Nat) : (w.setCell ⟨b, o, none⟩ u).ownsRow B t sz v n xs := ownsRow_setCell_below h hb u

set_option maxRecDepth 100000 in
set_option maxHeartbeats 2000000 in
theorem PutOut_first (B : Nat) (w : World) (b : Nat) (m : MS) (n : Int) (h0 : -9223372036854775808 ≤ n) (h1 : n ≤ 9223372036854775807) (h : Mach w b m) (ho : OutIs B w m []) (hb : b < B) (hB : B ≤ w.heap.size) (h8 : 8 ≤ b) (hp : PowT w) :
    Calls Tryz.prog 90 #[.pointer (some ⟨b, 0, none⟩), .int .i64 n] w fun e w' => OutRes B b m (Lib.itoa n) w e w' := by
  have hc := h.cell109
  have hf := h.frozen
  have HM := hide h
  have HP := hide hp
  obtain ⟨a, c, hac⟩ := owns_len ho
  unfold OutIs at ho
  rw [hac] at hc ho
  have HO := hide ho
  clear h ho hp hac
  simp only [List.length_nil] at hc
  go_enter Tryz.func90, Tryz.ntmps90
  go_wp2_with fail
  refine (Tryz.strconv_AppendInt_10 B 0 n h0 h1 _ _ w HO.out hB (by omega) (HP.out.below (by omega))).mono ?_
  rintro e w1 ⟨v', rfl, hown, hb1, _⟩
  have hm1 : Mach w1 b m := HM.out.mono (hb1.block b hb)
  have hc1 := hm1.cell109
  have hf1 := hm1.frozen
  have HM1 := hide hm1
  clear hm1
  obtain ⟨a1, c1, hac1⟩ := owns_len hown
  subst hac1
  have HOW := hide hown
  clear hown
  go_wp2
  go_end0
  refine ⟨rfl, _, HM1.out.setOut _, ?_, (Keep.of_below hb1).setb B b _ _⟩
  have h := ownsRow_setb (u := .slice a1 (0 + (Lib.itoa n).length) c1) HOW.out hb 109
  simp only [Nat.zero_add] at h
  exact h

set_option maxRecDepth 100000 in
set_option maxHeartbeats 2000000 in
theorem PutOut_more (B : Nat) (w : World) (b : Nat) (m : MS) (n : Int) (l : List UInt8) (hl0 : 0 < l.length) (hl1 : l.length ≤ 1000000) (h0 : -9223372036854775808 ≤ n) (h1 : n ≤ 9223372036854775807) (h : Mach w b m) (ho : OutIs B w m l) (hb : b < B) (hB : B ≤ w.heap.size) (h8 : 8 ≤ b) (hp : PowT w) :
    Calls Tryz.prog 90 #[.pointer (some ⟨b, 0, none⟩), .int .i64 n] w fun e w' => OutRes B b m (l ++ [32] ++ Lib.itoa n) w e w' := by
  have hc := h.cell109
  have hf := h.frozen
  have HM := hide h
  have HP := hide hp
  have hbl := h.lt
  obtain ⟨a, c, hac⟩ := owns_len ho
  unfold OutIs at ho
  rw [hac] at hc ho
  have HO := hide ho
  clear h ho hp hac
  obtain ⟨i0, hi, hz0, hz1, hz2⟩ := info_parts infoU8
  have HI := hide hi
  have HZ0 := hide hz0
  have HZ1 := hide hz1
  have HZ2 := hide hz2
  clear hi hz0 hz1 hz2
  go_enter Tryz.func90, Tryz.ntmps90
  go_wp2_with (first
    | (at_builtin; refine wpList_append_own _ rfl _ _ 76 rfl B 5 i0 _ 1 1 Tryz.underlying76 HI.out HZ0.out HZ1.out HZ2.out rfl (by decide) _ _ _ rfl (HO.out.alloc _) ⟨w.heap.size, 0, none⟩ 1 1 [.int .u8 32] rfl rfl ?c1 ?c2 ?c3 ?c4 ?c5 ?_)
    | go_in)
  case c1 =>
    intro j u hj
    match j, hj with
    | 0, hj =>
      simp at hj
      subst hj
      have e : (⟨w.heap.size, 0, none⟩ : Addr).add 0 = ⟨w.heap.size, 0, none⟩ := by unfold Addr.add; split <;> simp_all
      rw [e, cell_of_blk (blk_new w _)]; rfl
  case c2 => intro u hu; simp at hu; subst hu; rfl
  case c3 => unfold maxLen; omega
  case c4 => omega
  case c5 => simp; omega
  · intro v1 w1 hown1 hgrow _
    have hb01 : Below B w w1 := by
      refine Below.grown ((Below.refl _ _).alloc hB _) hgrow (by simp; omega) ?_
      intro g hg'
      obtain ⟨_, ⟨e, _⟩ | ⟨g1, cap, cur, e, hg1, _⟩⟩ := HO.out
      · rw [e] at hg'; cases hg'
      · rw [e] at hg'; cases hg'; exact hg1
    have hm1 : Mach w1 b m := HM.out.mono (hb01.block b hb)
    have hc1 := hm1.cell109
    have hf1 := hm1.frozen
    obtain ⟨a1, c1, hac1⟩ := owns_len hown1
    subst hac1
    have HM1 := hide hm1
    have HO1 : Hid ((w1.setCell ⟨b, 109, none⟩ (.slice a1 (l.length + 1) c1)).ownsRow B 5 1 (.slice a1 (l.length + 1) c1) (l.length + 1) (Lib.byteCells (l ++ [32]))) := hide (by
      have hq := ownsRow_setb (u := .slice a1 (l.length + 1) c1) hown1 hb 109
      rw [← byteCells_append]
      exact hq)
    have HP1 : Hid (PowT (w1.setCell ⟨b, 109, none⟩ (.slice a1 (l.length + 1) c1))) := hide ((HP.out.mono (hb01.block _ (by omega))).keep (Keep.setb B b (Keep.refl _ _ _) _ _) (by omega) h8)
    clear hm1 hown1 hgrow
    go_wp2_with fail
    refine (Tryz.strconv_AppendInt_10 B (l.length + 1) n h0 h1 _ _ _ HO1.out (by have := hb01.size; simp; omega) (by omega) (HP1.out.below (by omega))).mono ?_
    rintro e w2 ⟨v', rfl, hown, hb2, _⟩
    have hm2 : Mach w2 b { m with out := .slice a1 (l.length + 1) c1 } := (HM1.out.setOut _).mono (hb2.block b hb)
    have hc2 := hm2.cell109
    have hf2 := hm2.frozen
    have HM2 := hide hm2
    clear hm2
    obtain ⟨a2, c2, hac2⟩ := owns_len hown
    subst hac2
    have HOW := hide hown
    clear hown
    go_wp2
    go_end0
    refine ⟨rfl, _, HM2.out.setOut _, ?_, ((Keep.setb B b (Keep.of_below hb01) _ _).trans (Keep.of_below hb2)).setb B b _ _⟩
    have h := ownsRow_setb (u := .slice a2 (l.length + 1 + (Lib.itoa n).length) c2) HOW.out hb 109
    unfold OutIs
    rw [List.length_append, List.length_append, ← byteCells_append (l ++ [32])]
    exact h

set_option maxHeartbeats 400000 in
theorem rows14_any (B b : Nat) (m : MS) (n : Int) (l : List UInt8) (w : World) (hc : Calls Tryz.prog 90 #[.pointer (some ⟨b, 0, none⟩), .int .i64 n] w fun e w' => OutRes B b m l w e w') :
    Calls Tryz.prog 89 #[.pointer (some ⟨b, 0, none⟩), .int .i64 n] w fun e w' => OutRes B b m l w e w' := by
  have HC := hide hc
  clear hc
  go_enter Tryz.func89, Tryz.ntmps89
  go_wp2_with fail
  refine HC.out.mono ?_
  rintro e w' ⟨rfl, v, hm, ho, hk⟩
  go_wp2
  go_end0
  exact ⟨rfl, v, hm, ho, hk⟩

end Go.Proofs.YtngopilbpiplhaaGreatDoor

namespace Go.Proofs.YtngopilbpiplhaaGreatDoor
open Go.RowKit

set_option maxRecDepth 100000 in
set_option maxHeartbeats 2000000 in
theorem act_end (w : World) (b cb : Nat) (m : MS) (wd n : Int) (r s : Nat) (hr : r < 8) (h : Mach w b m) (hc : w.heap[cb]? = some (.cells #[.func (.func 100) #[] #[]] 159)) :
    Calls Tryz.prog 151 #[.pointer (some ⟨b, 0, none⟩), lnV wd r s n, .pointer (some ⟨cb, 0, none⟩)] w fun e w' => ActRes b 0 { m with how := 1, value := m.num r } w e w' := by
  have HM := hide h
  have hcc : w.cell? ⟨cb, 0, none⟩ = some (.func (.func 100) #[] #[]) := cell_of_blk hc 0
  have hlt := blk_lt hc
  have hbl := h.lt
  clear h hc
  go_enter Tryz.func151, Tryz.ntmps151
  go_wp2
  go_region_with (first
    | (go_at_call 60; refine (Number_any _ b r m hr ?_).mono ?_; exact HM.out.alloc _; rintro e w1 ⟨rfl, rfl⟩)
    | (go_at_call 100; refine (rows18_any _ b m (m.num r) ?_).mono ?_; exact HM.out.alloc _; rintro e w2 ⟨rfl, hm2, hk2⟩))
  all_goals go_wp2
  all_goals go_ret
  all_goals exact ⟨rfl, hm2, ((keep_alloc b w _).drew).trans (hk2 _)⟩

/-- What out does: it answers 0; the numbers that were put out are now l'. -/
def OutAct (B b : Nat) (m : MS) (l' : List UInt8) (w : World) (e : Ending) (w' : World) : Prop :=
  e = .returned (.int .i64 0) ∧ ∃ v, Mach w' b { m with out := v } ∧ OutIs B w' { m with out := v } l' ∧ Keep B b w w'

set_option maxRecDepth 100000 in
set_option maxHeartbeats 2000000 in
theorem act_out (B : Nat) (w : World) (b cb : Nat) (m : MS) (l' : List UInt8) (wd n : Int) (r s : Nat) (hr : r < 8) (h : Mach w b m) (hB : B ≤ w.heap.size) (hc : w.heap[cb]? = some (.cells #[.func (.func 89) #[] #[]] 159))
    (hp : ∀ o : Obj, Calls Tryz.prog 90 #[.pointer (some ⟨b, 0, none⟩), .int .i64 (m.num r)] (w.alloc o).drew fun e w' => OutRes B b m l' (w.alloc o).drew e w') :
    Calls Tryz.prog 151 #[.pointer (some ⟨b, 0, none⟩), lnV wd r s n, .pointer (some ⟨cb, 0, none⟩)] w fun e w' => OutAct B b m l' w e w' := by
  have HM := hide h
  have HP := hide hp
  have hcc : w.cell? ⟨cb, 0, none⟩ = some (.func (.func 89) #[] #[]) := cell_of_blk hc 0
  have hlt := blk_lt hc
  have hbl := h.lt
  clear h hc hp
  go_enter Tryz.func151, Tryz.ntmps151
  go_wp2
  go_region_with (first
    | (go_at_call 60; refine (Number_any _ b r m hr ?_).mono ?_; exact HM.out.alloc _; rintro e w1 ⟨rfl, rfl⟩)
    | (go_at_call 89; refine (rows14_any B b m (m.num r) l' _ (HP.out _)).mono ?_; rintro e w2 ⟨rfl, v, hm2, ho2, hk2⟩))
  all_goals go_wp2
  all_goals go_ret
  all_goals exact ⟨rfl, v, hm2, ho2, ((((Keep.refl B b w).alloc hB _).drew).trans hk2)⟩

end Go.Proofs.YtngopilbpiplhaaGreatDoor

namespace Go.Proofs.YtngopilbpiplhaaGreatDoor
open Go.RowKit

/-- Behind an act: it answered why; the machine is m' (its slice apart), and l' was put out. -/
def DoRes (B b : Nat) (why : Int) (m' : MS) (l' : List UInt8) (w : World) (e : Ending) (w' : World) : Prop :=
  e = .returned (.int .i64 why) ∧ ∃ v, Mach w' b { m' with out := v } ∧ OutIs B w' { m' with out := v } l' ∧ Keep B b w w'

/-- What holds of the world while a run goes on. -/
structure RunW (B b : Nat) (m : MS) (l : List UInt8) (w : World) : Prop where
  mach : Mach w b m
  out : OutIs B w m l
  big : B ≤ w.heap.size
  low : b < B
  old : 8 ≤ b
  pow : PowT w
theorem RunW.keep {B b : Nat} {m : MS} {l : List UInt8} {w w' : World} (h : RunW B b m l w) (hk : Below w.heap.size w w') : RunW B b m l w' :=
  ⟨h.mach.mono (hk.block _ h.mach.lt), ownsRow_below h.out (fun g _ hg => hk.block g hg), Nat.le_trans h.big hk.size, h.low, h.old, h.pow.mono (hk.block _ (by have := h.mach.lt; have := h.old; omega))⟩
theorem RunW.alloc {B b : Nat} {m : MS} {l : List UInt8} {w : World} (h : RunW B b m l w) (o : Obj) : RunW B b m l (w.alloc o) := h.keep ((Below.refl _ _).alloc (Nat.le_refl _) o)
theorem DoRes.below {B b : Nat} {why : Int} {m' : MS} {l' : List UInt8} {w w1 : World} {e : Ending} {w' : World} (h : DoRes B b why m' l' w1 e w') (hb : Below w.heap.size w w1) (hB : B ≤ w.heap.size) : DoRes B b why m' l' w e w' := by
  obtain ⟨h1, v, h2, h3, h4⟩ := h
  exact ⟨h1, v, h2, h3, (Keep.of_below (hb.mono hB)).trans h4⟩

/-- The act of a row, wherever a run is. -/
def ActOk (B b : Nat) (f : FuncId) (cap : Array Value) (row r s : Nat) (n : Int) (m : MS) (l : List UInt8) (why : Int) (m' : MS) (l' : List UInt8) (w0 : World) : Prop :=
  ∀ w, RunW B b m l w → Keep B b w0 w → Calls Tryz.prog f (#[.pointer (some ⟨b, 0, none⟩), lnV row r s n] ++ cap) w fun e w' => DoRes B b why m' l' w e w'

set_option maxRecDepth 100000 in
set_option maxHeartbeats 2000000 in
theorem do_any (B b : Nat) (row r s : Nat) (n : Int) (m : MS) (l : List UInt8) (why : Int) (m' : MS) (l' : List UInt8) (nm pt tk : List UInt8) (fl : Bool) (f4 f5 f6 f7 : FuncId) (b4 b5 b6 b7 : Array Value) (w : World)
    (hr : r < 8) (hs : s < 8) (hw : RunW B b m l w) (tR : hasB tk 82 = true → m.set r = true) (tS : hasB tk 83 = true → m.set s = true)
    (hent : ∀ (args : Array Value) (w : World), (callFunc f4 args).run Tryz.prog w = .ok (.enter f4 args) w) (ha : ActOk B b f4 b4 row r s n m l why m' l' w) :
    Calls Tryz.prog 159 #[.pointer (some ⟨b, 0, none⟩), .agg #[.string ⟨nm.toArray⟩, .string ⟨pt.toArray⟩, .string ⟨tk.toArray⟩, .bool fl, .func (.func f4) #[] b4, .func (.func f5) #[] b5, .func (.func f6) #[] b6, .func (.func f7) #[] b7], lnV row r s n] w
      fun e w' => DoRes B b why m' l' w e w' := by
  have HW := hide hw
  have HA := hide ha
  have hB := hw.big
  clear hw ha
  have k0 : ∀ o, ((w.alloc (.cells #[.string ⟨nm.toArray⟩, .string ⟨pt.toArray⟩, .string ⟨tk.toArray⟩, .bool fl, .func (.func f4) #[] b4, .func (.func f5) #[] b5, .func (.func f6) #[] b6, .func (.func f7) #[] b7] 140)).alloc (.cells #[.int .i64 (row : Int), .int .i64 (r : Int), .int .i64 (s : Int), .int .i64 n] 122)).cell? ⟨w.heap.size, o, none⟩ = (#[.string ⟨nm.toArray⟩, .string ⟨pt.toArray⟩, .string ⟨tk.toArray⟩, .bool fl, .func (.func f4) #[] b4, .func (.func f5) #[] b5, .func (.func f6) #[] b6, .func (.func f7) #[] b7] : Array Value)[o]? := fun o => cell_of_blk (blk_alloc (blk_new w _) _) o
  have k1 : ∀ o, ((w.alloc (.cells #[.string ⟨nm.toArray⟩, .string ⟨pt.toArray⟩, .string ⟨tk.toArray⟩, .bool fl, .func (.func f4) #[] b4, .func (.func f5) #[] b5, .func (.func f6) #[] b6, .func (.func f7) #[] b7] 140)).alloc (.cells #[.int .i64 (row : Int), .int .i64 (r : Int), .int .i64 (s : Int), .int .i64 n] 122)).cell? ⟨w.heap.size + 1, o, none⟩ = (#[.int .i64 (row : Int), .int .i64 (r : Int), .int .i64 (s : Int), .int .i64 n] : Array Value)[o]? := fun o => by
    have hn := blk_new (w.alloc (.cells #[.string ⟨nm.toArray⟩, .string ⟨pt.toArray⟩, .string ⟨tk.toArray⟩, .bool fl, .func (.func f4) #[] b4, .func (.func f5) #[] b5, .func (.func f6) #[] b6, .func (.func f7) #[] b7] 140)) (.cells #[.int .i64 (row : Int), .int .i64 (r : Int), .int .i64 (s : Int), .int .i64 n] 122)
    rw [World.size_alloc] at hn
    exact cell_of_blk hn o
  have K0 := hide k0
  have K1 := hide k1
  clear k0 k1
  go_enter Tryz.func159, Tryz.ntmps159
  go_wp2_with fail
  refine (TakesR_any _ _ _ _ _ _ _ _ _ _ _ _ _).mono ?_
  rintro e w1 ⟨rfl, hb1⟩
  have hsz1 : w.heap.size + 2 ≤ w1.heap.size := by have := hb1.size; simp at this; omega
  have hb01 : Below w.heap.size w w1 := (((Below.refl _ _).alloc (Nat.le_refl _) _).alloc (by simp) _).trans (hb1.mono (by simp; omega))
  have x1 : ∀ o, w1.cell? ⟨w.heap.size, o, none⟩ = (#[.string ⟨nm.toArray⟩, .string ⟨pt.toArray⟩, .string ⟨tk.toArray⟩, .bool fl, .func (.func f4) #[] b4, .func (.func f5) #[] b5, .func (.func f6) #[] b6, .func (.func f7) #[] b7] : Array Value)[o]? := fun o => (hb1.cell (p := ⟨w.heap.size, o, none⟩) (by simp; omega)).trans (K0.out o)
  have y1 : ∀ o, w1.cell? ⟨w.heap.size + 1, o, none⟩ = (#[.int .i64 (row : Int), .int .i64 (r : Int), .int .i64 (s : Int), .int .i64 n] : Array Value)[o]? := fun o => (hb1.cell (p := ⟨w.heap.size + 1, o, none⟩) (by simp)).trans (K1.out o)
  have HX1 := hide x1
  have HY1 := hide y1
  clear hb1
  rw [show hasB (⟨tk.toArray⟩ : ByteArray).data.toList 82 = hasB tk 82 from rfl]
  cases hR : hasB tk 82 with
  | true =>
    have hset := tR hR
    clear hR tR
    go_wp2_with fail
    refine (IsSet_any w1 b r m hr (HW.out.keep hb01).mach).mono ?_
    rintro e w2 ⟨rfl, rfl⟩
    rw [hset]
    clear hset
    go_wp2_with fail
    refine (TakesS_any _ _ _ _ _ _ _ _ _ _ _ _ _).mono ?_
    rintro e w3 ⟨rfl, hb3⟩
    have hsz3 : w.heap.size + 2 ≤ w3.heap.size := by have := hb3.size; omega
    have hb03 : Below w.heap.size w w3 := hb01.trans (hb3.mono (by omega))
    have x3 : ∀ o, w3.cell? ⟨w.heap.size, o, none⟩ = (#[.string ⟨nm.toArray⟩, .string ⟨pt.toArray⟩, .string ⟨tk.toArray⟩, .bool fl, .func (.func f4) #[] b4, .func (.func f5) #[] b5, .func (.func f6) #[] b6, .func (.func f7) #[] b7] : Array Value)[o]? := fun o => (hb3.cell (p := ⟨w.heap.size, o, none⟩) (by simp; omega)).trans (HX1.out o)
    have y3 : ∀ o, w3.cell? ⟨w.heap.size + 1, o, none⟩ = (#[.int .i64 (row : Int), .int .i64 (r : Int), .int .i64 (s : Int), .int .i64 n] : Array Value)[o]? := fun o => (hb3.cell (p := ⟨w.heap.size + 1, o, none⟩) (by simp; omega)).trans (HY1.out o)
    clear hb3 x1 y1 HX1 HY1 K0 K1
    rw [show hasB (⟨tk.toArray⟩ : ByteArray).data.toList 83 = hasB tk 83 from rfl]
    cases hS : hasB tk 83 with
    | true =>
      have hset := tS hS
      clear hS tS
      go_wp2_with fail
      refine (IsSet_any _ b s m hs (HW.out.keep hb03).mach).mono ?_
      rintro e w4 ⟨rfl, rfl⟩
      rw [hset]
      clear hset
      go_wp2_with fail
      refine (HA.out _ (HW.out.keep hb03) (Keep.of_below (hb03.mono hB))).mono ?_
      rintro e w5 hres
      have hres2 := hres.below hb03 hB
      obtain ⟨rfl, hrest⟩ := hres
      have HR := hide hres2
      clear hres2 hrest x3 y3
      go_wp2
      go_ret
      exact HR.out
    | false =>
      clear hS tS
      go_wp2_with fail
      refine (HA.out _ (HW.out.keep hb03) (Keep.of_below (hb03.mono hB))).mono ?_
      rintro e w5 hres
      have hres2 := hres.below hb03 hB
      obtain ⟨rfl, hrest⟩ := hres
      have HR := hide hres2
      clear hres2 hrest x3 y3
      go_wp2
      go_ret
      exact HR.out
  | false =>
    clear hR tR
    go_wp2_with fail
    refine (TakesS_any _ _ _ _ _ _ _ _ _ _ _ _ _).mono ?_
    rintro e w3 ⟨rfl, hb3⟩
    have hsz3 : w.heap.size + 2 ≤ w3.heap.size := by have := hb3.size; omega
    have hb03 : Below w.heap.size w w3 := hb01.trans (hb3.mono (by omega))
    have x3 : ∀ o, w3.cell? ⟨w.heap.size, o, none⟩ = (#[.string ⟨nm.toArray⟩, .string ⟨pt.toArray⟩, .string ⟨tk.toArray⟩, .bool fl, .func (.func f4) #[] b4, .func (.func f5) #[] b5, .func (.func f6) #[] b6, .func (.func f7) #[] b7] : Array Value)[o]? := fun o => (hb3.cell (p := ⟨w.heap.size, o, none⟩) (by simp; omega)).trans (HX1.out o)
    have y3 : ∀ o, w3.cell? ⟨w.heap.size + 1, o, none⟩ = (#[.int .i64 (row : Int), .int .i64 (r : Int), .int .i64 (s : Int), .int .i64 n] : Array Value)[o]? := fun o => (hb3.cell (p := ⟨w.heap.size + 1, o, none⟩) (by simp; omega)).trans (HY1.out o)
    clear hb3 x1 y1 HX1 HY1 K0 K1
    rw [show hasB (⟨tk.toArray⟩ : ByteArray).data.toList 83 = hasB tk 83 from rfl]
    cases hS : hasB tk 83 with
    | true =>
      have hset := tS hS
      clear hS tS
      go_wp2_with fail
      refine (IsSet_any _ b s m hs (HW.out.keep hb03).mach).mono ?_
      rintro e w4 ⟨rfl, rfl⟩
      rw [hset]
      clear hset
      go_wp2_with fail
      refine (HA.out _ (HW.out.keep hb03) (Keep.of_below (hb03.mono hB))).mono ?_
      rintro e w5 hres
      have hres2 := hres.below hb03 hB
      obtain ⟨rfl, hrest⟩ := hres
      have HR := hide hres2
      clear hres2 hrest x3 y3
      go_wp2
      go_ret
      exact HR.out
    | false =>
      clear hS tS
      go_wp2_with fail
      refine (HA.out _ (HW.out.keep hb03) (Keep.of_below (hb03.mono hB))).mono ?_
      rintro e w5 hres
      have hres2 := hres.below hb03 hB
      obtain ⟨rfl, hrest⟩ := hres
      have HR := hide hres2
      clear hres2 hrest x3 y3
      go_wp2
      go_ret
      exact HR.out

end Go.Proofs.YtngopilbpiplhaaGreatDoor
