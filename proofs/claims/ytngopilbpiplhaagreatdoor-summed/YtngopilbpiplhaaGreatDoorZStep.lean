/-
  The contracts of runner.do where a register is unset, and of step.
-/
import Derived.Test.YtngopilbpiplhaaGreatDoorZRowOk
import Derived.Test.YtngopilbpiplhaaGreatDoorZParse
namespace Go.Proofs.YtngopilbpiplhaaGreatDoor
open Go.RowKit

set_option maxRecDepth 100000 in
set_option maxHeartbeats 2000000 in
theorem do_unset (B b : Nat) (row r s : Nat) (n : Int) (m : MS) (l : List UInt8) (nm pt tk : List UInt8) (fl : Bool) (f4 f5 f6 f7 : FuncId) (b4 b5 b6 b7 : Array Value) (w : World)
    (hr : r < 8) (hs : s < 8) (hw : RunW B b m l w) (hu : (hasB tk 82 = true ∧ m.set r = false) ∨ ((hasB tk 82 = true → m.set r = true) ∧ hasB tk 83 = true ∧ m.set s = false)) :
    Calls Tryz.prog 159 #[.pointer (some ⟨b, 0, none⟩), .agg #[.string ⟨nm.toArray⟩, .string ⟨pt.toArray⟩, .string ⟨tk.toArray⟩, .bool fl, .func (.func f4) #[] b4, .func (.func f5) #[] b5, .func (.func f6) #[] b6, .func (.func f7) #[] b7], lnV row r s n] w
      fun e w' => DoRes B b 1 m l w e w' := by
  have HW := hide hw
  have hB := hw.big
  clear hw
  have k0 : ∀ o, ((w.alloc (.cells #[.string ⟨nm.toArray⟩, .string ⟨pt.toArray⟩, .string ⟨tk.toArray⟩, .bool fl, .func (.func f4) #[] b4, .func (.func f5) #[] b5, .func (.func f6) #[] b6, .func (.func f7) #[] b7] 140)).alloc (.cells #[.int .i64 (row : Int), .int .i64 (r : Int), .int .i64 (s : Int), .int .i64 n] 122)).cell? ⟨w.heap.size, o, none⟩ = (#[.string ⟨nm.toArray⟩, .string ⟨pt.toArray⟩, .string ⟨tk.toArray⟩, .bool fl, .func (.func f4) #[] b4, .func (.func f5) #[] b5, .func (.func f6) #[] b6, .func (.func f7) #[] b7] : Array Value)[o]? := fun o => cell_of_blk (blk_alloc (blk_new w _) _) o
  have k1 : ∀ o, ((w.alloc (.cells #[.string ⟨nm.toArray⟩, .string ⟨pt.toArray⟩, .string ⟨tk.toArray⟩, .bool fl, .func (.func f4) #[] b4, .func (.func f5) #[] b5, .func (.func f6) #[] b6, .func (.func f7) #[] b7] 140)).alloc (.cells #[.int .i64 (row : Int), .int .i64 (r : Int), .int .i64 (s : Int), .int .i64 n] 122)).cell? ⟨w.heap.size + 1, o, none⟩ = (#[.int .i64 (row : Int), .int .i64 (r : Int), .int .i64 (s : Int), .int .i64 n] : Array Value)[o]? := fun o => by
    have hn := blk_new (w.alloc (.cells #[.string ⟨nm.toArray⟩, .string ⟨pt.toArray⟩, .string ⟨tk.toArray⟩, .bool fl, .func (.func f4) #[] b4, .func (.func f5) #[] b5, .func (.func f6) #[] b6, .func (.func f7) #[] b7] 140)) (.cells #[.int .i64 (row : Int), .int .i64 (r : Int), .int .i64 (s : Int), .int .i64 n] 122)
    rw [World.size_alloc] at hn
    exact cell_of_blk hn o
  have K0 := hide k0
  have K1 := hide k1
  clear k0 k1
  go_enter Tryz.func159, Tryz.ntmps159
  go_wp2_with fail
  refine (TakesR_any _ _ _ _ _ _ _ _ _ _ _ _ _).mono ?_
  rintro e w1 ⟨rfl, hb1⟩
  have hsz1 : w.heap.size + 2 ≤ w1.heap.size := by have := hb1.size; simp at this; omega
  have hb01 : Below w.heap.size w w1 := (((Below.refl _ _).alloc (Nat.le_refl _) _).alloc (by simp) _).trans (hb1.mono (by simp; omega))
  have x1 : ∀ o, w1.cell? ⟨w.heap.size, o, none⟩ = (#[.string ⟨nm.toArray⟩, .string ⟨pt.toArray⟩, .string ⟨tk.toArray⟩, .bool fl, .func (.func f4) #[] b4, .func (.func f5) #[] b5, .func (.func f6) #[] b6, .func (.func f7) #[] b7] : Array Value)[o]? := fun o => (hb1.cell (p := ⟨w.heap.size, o, none⟩) (by simp; omega)).trans (K0.out o)
  have y1 : ∀ o, w1.cell? ⟨w.heap.size + 1, o, none⟩ = (#[.int .i64 (row : Int), .int .i64 (r : Int), .int .i64 (s : Int), .int .i64 n] : Array Value)[o]? := fun o => (hb1.cell (p := ⟨w.heap.size + 1, o, none⟩) (by simp)).trans (K1.out o)
  have HX1 := hide x1
  have HY1 := hide y1
  clear hb1
  rw [show hasB (⟨tk.toArray⟩ : ByteArray).data.toList 82 = hasB tk 82 from rfl]
  rcases hu with ⟨hR, hrs⟩ | ⟨tR, hS, hss⟩
  · rw [hR]
    clear hR
    go_wp2_with fail
    refine (IsSet_any w1 b r m hr (HW.out.keep hb01).mach).mono ?_
    rintro e w2 ⟨rfl, rfl⟩
    rw [hrs]
    clear hrs
    go_wp2
    go_ret
    exact ⟨rfl, m.out, (HW.out.keep hb01).mach, (HW.out.keep hb01).out, Keep.of_below (hb01.mono hB)⟩
  · cases hR : hasB tk 82 with
    | true =>
      have hset := tR hR
      clear hR tR
      go_wp2_with fail
      refine (IsSet_any w1 b r m hr (HW.out.keep hb01).mach).mono ?_
      rintro e w2 ⟨rfl, rfl⟩
      rw [hset]
      clear hset
      go_wp2_with fail
      refine (TakesS_any _ _ _ _ _ _ _ _ _ _ _ _ _).mono ?_
      rintro e w3 ⟨rfl, hb3⟩
      have hsz3 : w.heap.size + 2 ≤ w3.heap.size := by have := hb3.size; omega
      have hb03 : Below w.heap.size w w3 := hb01.trans (hb3.mono (by omega))
      have x3 : ∀ o, w3.cell? ⟨w.heap.size, o, none⟩ = (#[.string ⟨nm.toArray⟩, .string ⟨pt.toArray⟩, .string ⟨tk.toArray⟩, .bool fl, .func (.func f4) #[] b4, .func (.func f5) #[] b5, .func (.func f6) #[] b6, .func (.func f7) #[] b7] : Array Value)[o]? := fun o => (hb3.cell (p := ⟨w.heap.size, o, none⟩) (by simp; omega)).trans (HX1.out o)
      have y3 : ∀ o, w3.cell? ⟨w.heap.size + 1, o, none⟩ = (#[.int .i64 (row : Int), .int .i64 (r : Int), .int .i64 (s : Int), .int .i64 n] : Array Value)[o]? := fun o => (hb3.cell (p := ⟨w.heap.size + 1, o, none⟩) (by simp; omega)).trans (HY1.out o)
      clear hb3 x1 y1 HX1 HY1 K0 K1
      rw [show hasB (⟨tk.toArray⟩ : ByteArray).data.toList 83 = hasB tk 83 from rfl, hS]
      clear hS
      go_wp2_with fail
      refine (IsSet_any _ b s m hs (HW.out.keep hb03).mach).mono ?_
      rintro e w4 ⟨rfl, rfl⟩
      rw [hss]
      clear hss
      go_wp2
      go_ret
      exact ⟨rfl, m.out, (HW.out.keep hb03).mach, (HW.out.keep hb03).out, Keep.of_below (hb03.mono hB)⟩
    | false =>
      clear hR tR
      go_wp2_with fail
      refine (TakesS_any _ _ _ _ _ _ _ _ _ _ _ _ _).mono ?_
      rintro e w3 ⟨rfl, hb3⟩
      have hsz3 : w.heap.size + 2 ≤ w3.heap.size := by have := hb3.size; omega
      have hb03 : Below w.heap.size w w3 := hb01.trans (hb3.mono (by omega))
      have x3 : ∀ o, w3.cell? ⟨w.heap.size, o, none⟩ = (#[.string ⟨nm.toArray⟩, .string ⟨pt.toArray⟩, .string ⟨tk.toArray⟩, .bool fl, .func (.func f4) #[] b4, .func (.func f5) #[] b5, .func (.func f6) #[] b6, .func (.func f7) #[] b7] : Array Value)[o]? := fun o => (hb3.cell (p := ⟨w.heap.size, o, none⟩) (by simp; omega)).trans (HX1.out o)
      have y3 : ∀ o, w3.cell? ⟨w.heap.size + 1, o, none⟩ = (#[.int .i64 (row : Int), .int .i64 (r : Int), .int .i64 (s : Int), .int .i64 n] : Array Value)[o]? := fun o => (hb3.cell (p := ⟨w.heap.size + 1, o, none⟩) (by simp; omega)).trans (HY1.out o)
      clear hb3 x1 y1 HX1 HY1 K0 K1
      rw [show hasB (⟨tk.toArray⟩ : ByteArray).data.toList 83 = hasB tk 83 from rfl, hS]
      clear hS
      go_wp2_with fail
      refine (IsSet_any _ b s m hs (HW.out.keep hb03).mach).mono ?_
      rintro e w4 ⟨rfl, rfl⟩
      rw [hss]
      clear hss
      go_wp2
      go_ret
      exact ⟨rfl, m.out, (HW.out.keep hb03).mach, (HW.out.keep hb03).out, Keep.of_below (hb03.mono hB)⟩

/-- Is a register that the word takes unset? -/
def unsetF (row r s : Nat) (m : MS) : Bool := (hasB (wTakes row) 82 && !m.set r) || (hasB (wTakes row) 83 && !m.set s)

/-- One line: the machine behind it, and what was put out. -/
def stepF (row r s : Nat) (n : Int) (m : MS) (l : List UInt8) : MS × List UInt8 :=
  let m1 : MS := { m with next := m.line + 1 }
  if unsetF row r s m1 then ({ m1 with how := 2, why := 1 }, l)
  else if (doF row r s n m1 l).1 = 0 then (doF row r s n m1 l).2 else ({ (doF row r s n m1 l).2.1 with how := 2, why := (doF row r s n m1 l).1 }, (doF row r s n m1 l).2.2)

/-- Behind a line: the machine is m' (its slice apart), and l' was put out. -/
def StepRes (B b : Nat) (m' : MS) (l' : List UInt8) (w : World) (e : Ending) (w' : World) : Prop :=
  e = .returned (.tuple #[]) ∧ ∃ v, Mach w' b { m' with out := v } ∧ OutIs B w' { m' with out := v } l' ∧ Keep B b w w'

theorem RunW.setNext {B b : Nat} {m : MS} {l : List UInt8} {w : World} (h : RunW B b m l w) (n : Int) : RunW B b { m with next := n } l (w.setCell ⟨b, 1, none⟩ (.int .i64 n)) := by
  have hk : Keep B b w (w.setCell ⟨b, 1, none⟩ (.int .i64 n)) := Keep.setb B b (Keep.refl _ _ _) _ _
  refine ⟨h.mach.setNext n, ownsRow_setb h.out h.low 1, by have := h.big; simpa using this, h.low, h.old, h.pow.keep hk (by have := h.old; have := h.low; omega) h.old⟩

theorem ownsRow_keep {B b t sz n : Nat} {w w' : World} {v : Value} {xs : List Value} (h : w.ownsRow B t sz v n xs) (hk : Keep w.heap.size b w w') (hb : b < B) : w'.ownsRow B t sz v n xs :=
  ownsRow_below h (fun g hg hlt => hk.block g hlt (by omega))

set_option maxRecDepth 100000 in
set_option maxHeartbeats 2000000 in
theorem step_any (s0 B b row r s : Nat) (n : Int) (m : MS) (l : List UInt8) (w : World) (hrow : row < 17) (hr : r < 8) (hs : s < 8) (hw : RunW B b m l w) (ht : Table s0 w) (hs0 : s0 + 56 ≤ b) (hm : Okm m) (hl : l.length ≤ 1000000) (hline : 0 ≤ m.line ∧ m.line < 1000)
    (f4 : FuncId) (b4 : Array Value) (f5 : FuncId) (b5 : Array Value) (f6 : FuncId) (b6 : Array Value) (f7 : FuncId) (b7 : Array Value) (e4 : wDo s0 row = .func (.func f4) #[] b4) :
    Calls Tryz.prog 108 #[.pointer (some ⟨b, 0, none⟩), .agg #[.string ⟨(wName row).toArray⟩, .string ⟨(wParts row).toArray⟩, .string ⟨(wTakes row).toArray⟩, .bool (wFalls row), .func (.func f4) #[] b4, .func (.func f5) #[] b5, .func (.func f6) #[] b6, .func (.func f7) #[] b7], lnV row r s n] w
      fun e w' => StepRes B b (stepF row r s n m l).1 (stepF row r s n m l).2 w e w' := by
  obtain ⟨hl0, hl1⟩ := hline
  have HW := hide hw
  have HT := hide ht
  have hbl := hw.mach.lt
  have c0 := hw.mach.cell0
  have c1 := hw.mach.cell1
  have hf := hw.mach.frozen
  clear hw ht
  go_enter Tryz.func108, Tryz.ntmps108
  go_wp2_with fail
  have hB := HW.out.big
  have hkW : ∀ o1 o2 : Obj, Keep B b w (((w.setCell ⟨b, 1, none⟩ (.int .i64 (m.line + 1))).alloc o1).alloc o2) := fun o1 o2 => ((Keep.setb B b (Keep.refl _ _ _) _ _).alloc (by simpa using hB) o1).alloc (by simp; omega) o2
  have hrW : ∀ o1 o2 : Obj, RunW B b { m with next := m.line + 1 } l (((w.setCell ⟨b, 1, none⟩ (.int .i64 (m.line + 1))).alloc o1).alloc o2) := fun o1 o2 => ((HW.out.setNext _).alloc o1).alloc o2
  have htW : ∀ o1 o2 : Obj, Table s0 (((w.setCell ⟨b, 1, none⟩ (.int .i64 (m.line + 1))).alloc o1).alloc o2) := fun o1 o2 => HT.out.mono fun k _ hk => (hkW o1 o2).block k (by have := HW.out.low; omega) (by omega)
  have hm1 : Okm { m with next := m.line + 1 } := ⟨hm.num, hm.cells, hm.kept, hm.input⟩
  have hE : stepF row r s n m l = (if unsetF row r s { m with next := m.line + 1 } then ({ m with next := m.line + 1, how := 2, why := 1 }, l)
    else if (doF row r s n { m with next := m.line + 1 } l).1 = 0 then (doF row r s n { m with next := m.line + 1 } l).2 else ({ (doF row r s n { m with next := m.line + 1 } l).2.1 with how := 2, why := (doF row r s n { m with next := m.line + 1 } l).1 }, (doF row r s n { m with next := m.line + 1 } l).2.2)) := rfl
  generalize hmm : ({ m with next := m.line + 1 } : MS) = m1 at *
  have HE := hide hE
  have HKW := hide hkW
  have HRW := hide hrW
  have HTW := hide htW
  clear hE hkW hrW htW
  cases hU : unsetF row r s m1 with
  | true =>
    have hu : (hasB (wTakes row) 82 = true ∧ m1.set r = false) ∨ ((hasB (wTakes row) 82 = true → m1.set r = true) ∧ hasB (wTakes row) 83 = true ∧ m1.set s = false) := by
      unfold unsetF at hU
      cases h1 : hasB (wTakes row) 82 <;> cases h2 : m1.set r <;> cases h3 : hasB (wTakes row) 83 <;> cases h4 : m1.set s <;> simp_all
    refine (do_unset B b row r s n m1 l _ _ _ _ f4 f5 f6 f7 b4 b5 b6 b7 _ hr hs (HRW.out _ _) hu).mono ?_
    rintro e w2 ⟨rfl, v, hm2, ho2, hk2⟩
    have hk02 := (HKW.out _ _).trans hk2
    have HE2 : Hid (stepF row r s n m l = ({ m1 with how := 2, why := 1 }, l)) := hide (by rw [HE.out, hU]; subst hmm; rfl)
    clear hk2 hU hu
    have HM2 := hide hm2
    have HO2 := hide ho2
    clear hm2 ho2
    go_wp2_with fail
    refine (Fail_any w2 b { m1 with out := v } 1 HM2.out).mono ?_
    rintro e w3 ⟨rfl, hm3, hk3⟩
    have ho3 : OutIs B w3 { m1 with out := v } l := ownsRow_keep HO2.out (hk3 _) HW.out.low
    have HM3 := hide hm3
    have HO3 := hide ho3
    clear hm3 ho3
    go_wp2
    go_end0
    refine ⟨rfl, v, ?_, ?_, hk02.trans (hk3 B)⟩
    · rw [HE2.out]; exact HM3.out
    · rw [HE2.out]; exact HO3.out
  | false =>
    have tR : hasB (wTakes row) 82 = true → m1.set r = true := by
      intro h1; unfold unsetF at hU; cases h2 : m1.set r <;> simp_all
    have tS : hasB (wTakes row) 83 = true → m1.set s = true := by
      intro h1; unfold unsetF at hU; cases h2 : m1.set s <;> simp_all
    have hrk := rowOk s0 B b row r s n m1 l _ hrow (HTW.out (.cells #[.string ⟨(wName row).toArray⟩, .string ⟨(wParts row).toArray⟩, .string ⟨(wTakes row).toArray⟩, .bool (wFalls row), .func (.func f4) #[] b4, .func (.func f5) #[] b5, .func (.func f6) #[] b6, .func (.func f7) #[] b7] 140) (.cells #[.int .i64 (row : Int), .int .i64 (r : Int), .int .i64 (s : Int), .int .i64 n] 122)) hs0 HW.out.low hr hs hm1 hl
    obtain ⟨g4, c4, e4', hent, hact⟩ := hrk
    rw [e4] at e4'
    obtain ⟨rfl, rfl⟩ : f4 = g4 ∧ b4 = c4 := by injection e4' with h1 h2 h3; injection h1 with h1; exact ⟨h1, h3⟩
    generalize hD : doF row r s n m1 l = D at *
    obtain ⟨why, m2, l2⟩ := D
    refine (do_any B b row r s n m1 l why m2 l2 _ _ _ _ f4 f5 f6 f7 b4 b5 b6 b7 _ hr hs (HRW.out _ _) tR tS hent hact).mono ?_
    rintro e w2 ⟨rfl, v, hm2, ho2, hk2⟩
    have hk02 := (HKW.out _ _).trans hk2
    have HE2 : Hid (stepF row r s n m l = if why = 0 then (m2, l2) else ({ m2 with how := 2, why := why }, l2)) := hide (by rw [HE.out, hU]; rfl)
    clear hk2 hU tR tS hent hact e4' HE hD
    have HM2 := hide hm2
    have HO2 := hide ho2
    clear hm2 ho2
    by_cases hwz : why = 0
    · have HE3 : Hid (stepF row r s n m l = (m2, l2)) := hide (by rw [HE2.out, if_pos hwz])
      clear HE2
      subst hwz
      go_wp2
      go_end0
      refine ⟨rfl, v, ?_, ?_, hk02⟩
      · rw [HE3.out]; exact HM2.out
      · rw [HE3.out]; exact HO2.out
    · have HE3 : Hid (stepF row r s n m l = ({ m2 with how := 2, why := why }, l2)) := hide (by rw [HE2.out, if_neg hwz])
      clear HE2
      have hwz' : (why != 0) = true := by simpa using hwz
      go_wp2_with fail
      refine (Fail_any w2 b { m2 with out := v } why HM2.out).mono ?_
      rintro e w3 ⟨rfl, hm3, hk3⟩
      have ho3 : OutIs B w3 { m2 with out := v } l2 := ownsRow_keep HO2.out (hk3 _) HW.out.low
      have HM3 := hide hm3
      have HO3 := hide ho3
      clear hm3 ho3
      go_wp2
      go_end0
      refine ⟨rfl, v, ?_, ?_, hk02.trans (hk3 B)⟩
      · rw [HE3.out]; exact HM3.out
      · rw [HE3.out]; exact HO3.out

end Go.Proofs.YtngopilbpiplhaaGreatDoor
