/-
  What a line does (plain), and the contracts of runner.do and step, out of the act's own contract.
-/
import Derived.Test.YtngopilbpiplhaaGreatDoorActF
import Derived.Test.YtngopilbpiplhaaGreatDoorLines
namespace Go.Proofs.YtngopilbpiplhaaGreatDoor
open Go.RowKit

/-- Behind an act: it answered why; the machine is m' (its slice apart), and l' was put out. -/
def DoRes (B b : Nat) (why : Int) (m' : MS) (l' : List UInt8) (w : World) (e : Ending) (w' : World) : Prop :=
  e = .returned (.int .i64 why) ∧ ∃ v, Mach w' b { m' with out := v } ∧ OutIs B w' { m' with out := v } l' ∧ Keep B b w w'

/-- What holds of the world while a run goes on. -/
structure RunW (B b : Nat) (m : MS) (l : List UInt8) (w : World) : Prop where
  mach : Mach w b m
  out : OutIs B w m l
  big : B ≤ w.heap.size
  low : b < B
  old : 8 ≤ b
  pow : PowT w
theorem RunW.keep {B b : Nat} {m : MS} {l : List UInt8} {w w' : World} (h : RunW B b m l w) (hk : Below w.heap.size w w') : RunW B b m l w' :=
  ⟨h.mach.mono (hk.block _ h.mach.lt), ownsRow_below h.out (fun g _ hg => hk.block g hg), Nat.le_trans h.big hk.size, h.low, h.old, h.pow.mono (hk.block _ (by have := h.mach.lt; have := h.old; omega))⟩
theorem RunW.alloc {B b : Nat} {m : MS} {l : List UInt8} {w : World} (h : RunW B b m l w) (o : Obj) : RunW B b m l (w.alloc o) := h.keep ((Below.refl _ _).alloc (Nat.le_refl _) o)
theorem DoRes.below {B b : Nat} {why : Int} {m' : MS} {l' : List UInt8} {w w1 : World} {e : Ending} {w' : World} (h : DoRes B b why m' l' w1 e w') (hb : Below w.heap.size w w1) (hB : B ≤ w.heap.size) : DoRes B b why m' l' w e w' := by
  obtain ⟨h1, v, h2, h3, h4⟩ := h
  exact ⟨h1, v, h2, h3, (Keep.of_below (hb.mono hB)).trans h4⟩

/-- The act of a row, wherever a run is. -/
def ActOk (B b : Nat) (f : FuncId) (cap : Array Value) (row r s : Nat) (n : Int) (m : MS) (l : List UInt8) (why : Int) (m' : MS) (l' : List UInt8) (w0 : World) : Prop :=
  ∀ w, RunW B b m l w → Keep B b w0 w → Calls Tryz.prog f (#[.pointer (some ⟨b, 0, none⟩), lnV row r s n] ++ cap) w fun e w' => DoRes B b why m' l' w e w'

set_option maxRecDepth 100000 in
set_option maxHeartbeats 2000000 in
theorem do_any (B b : Nat) (row r s : Nat) (n : Int) (m : MS) (l : List UInt8) (why : Int) (m' : MS) (l' : List UInt8) (nm pt tk : List UInt8) (fl : Bool) (f4 f5 f6 f7 : FuncId) (b4 b5 b6 b7 : Array Value) (w : World)
    (hr : r < 8) (hs : s < 8) (hw : RunW B b m l w) (tR : hasB tk 82 = true → m.set r = true) (tS : hasB tk 83 = true → m.set s = true)
    (hent : ∀ (args : Array Value) (w : World), (callFunc f4 args).run Tryz.prog w = .ok (.enter f4 args) w) (ha : ActOk B b f4 b4 row r s n m l why m' l' w) :
    Calls Tryz.prog 159 #[.pointer (some ⟨b, 0, none⟩), .agg #[.string ⟨nm.toArray⟩, .string ⟨pt.toArray⟩, .string ⟨tk.toArray⟩, .bool fl, .func (.func f4) #[] b4, .func (.func f5) #[] b5, .func (.func f6) #[] b6, .func (.func f7) #[] b7], lnV row r s n] w
      fun e w' => DoRes B b why m' l' w e w' := by
  have HW := hide hw
  have HA := hide ha
  have hB := hw.big
  clear hw ha
  have k0 : ∀ o, ((w.alloc (.cells #[.string ⟨nm.toArray⟩, .string ⟨pt.toArray⟩, .string ⟨tk.toArray⟩, .bool fl, .func (.func f4) #[] b4, .func (.func f5) #[] b5, .func (.func f6) #[] b6, .func (.func f7) #[] b7] 140)).alloc (.cells #[.int .i64 (row : Int), .int .i64 (r : Int), .int .i64 (s : Int), .int .i64 n] 122)).cell? ⟨w.heap.size, o, none⟩ = (#[.string ⟨nm.toArray⟩, .string ⟨pt.toArray⟩, .string ⟨tk.toArray⟩, .bool fl, .func (.func f4) #[] b4, .func (.func f5) #[] b5, .func (.func f6) #[] b6, .func (.func f7) #[] b7] : Array Value)[o]? := fun o => cell_of_blk (blk_alloc (blk_new w _) _) o
  have k1 : ∀ o, ((w.alloc (.cells #[.string ⟨nm.toArray⟩, .string ⟨pt.toArray⟩, .string ⟨tk.toArray⟩, .bool fl, .func (.func f4) #[] b4, .func (.func f5) #[] b5, .func (.func f6) #[] b6, .func (.func f7) #[] b7] 140)).alloc (.cells #[.int .i64 (row : Int), .int .i64 (r : Int), .int .i64 (s : Int), .int .i64 n] 122)).cell? ⟨w.heap.size + 1, o, none⟩ = (#[.int .i64 (row : Int), .int .i64 (r : Int), .int .i64 (s : Int), .int .i64 n] : Array Value)[o]? := fun o => by
    have hn := blk_new (w.alloc (.cells #[.string ⟨nm.toArray⟩, .string ⟨pt.toArray⟩, .string ⟨tk.toArray⟩, .bool fl, .func (.func f4) #[] b4, .func (.func f5) #[] b5, .func (.func f6) #[] b6, .func (.func f7) #[] b7] 140)) (.cells #[.int .i64 (row : Int), .int .i64 (r : Int), .int .i64 (s : Int), .int .i64 n] 122)
    rw [World.size_alloc] at hn
    exact cell_of_blk hn o
  have K0 := hide k0
  have K1 := hide k1
  clear k0 k1
  go_enter Tryz.func159, Tryz.ntmps159
  go_wp2_with fail
  refine (TakesR_any _ _ _ _ _ _ _ _ _ _ _ _ _).mono ?_
  rintro e w1 ⟨rfl, hb1⟩
  have hsz1 : w.heap.size + 2 ≤ w1.heap.size := by have := hb1.size; simp at this; omega
  have hb01 : Below w.heap.size w w1 := (((Below.refl _ _).alloc (Nat.le_refl _) _).alloc (by simp) _).trans (hb1.mono (by simp; omega))
  have x1 : ∀ o, w1.cell? ⟨w.heap.size, o, none⟩ = (#[.string ⟨nm.toArray⟩, .string ⟨pt.toArray⟩, .string ⟨tk.toArray⟩, .bool fl, .func (.func f4) #[] b4, .func (.func f5) #[] b5, .func (.func f6) #[] b6, .func (.func f7) #[] b7] : Array Value)[o]? := fun o => (hb1.cell (p := ⟨w.heap.size, o, none⟩) (by simp; omega)).trans (K0.out o)
  have y1 : ∀ o, w1.cell? ⟨w.heap.size + 1, o, none⟩ = (#[.int .i64 (row : Int), .int .i64 (r : Int), .int .i64 (s : Int), .int .i64 n] : Array Value)[o]? := fun o => (hb1.cell (p := ⟨w.heap.size + 1, o, none⟩) (by simp)).trans (K1.out o)
  have HX1 := hide x1
  have HY1 := hide y1
  clear hb1
  rw [show hasB (⟨tk.toArray⟩ : ByteArray).data.toList 82 = hasB tk 82 from rfl]
  cases hR : hasB tk 82 with
  | true =>
    have hset := tR hR
    clear hR tR
    go_wp2_with fail
    refine (IsSet_any w1 b r m hr (HW.out.keep hb01).mach).mono ?_
    rintro e w2 ⟨rfl, rfl⟩
    rw [hset]
    clear hset
    go_wp2_with fail
    refine (TakesS_any _ _ _ _ _ _ _ _ _ _ _ _ _).mono ?_
    rintro e w3 ⟨rfl, hb3⟩
    have hsz3 : w.heap.size + 2 ≤ w3.heap.size := by have := hb3.size; omega
    have hb03 : Below w.heap.size w w3 := hb01.trans (hb3.mono (by omega))
    have x3 : ∀ o, w3.cell? ⟨w.heap.size, o, none⟩ = (#[.string ⟨nm.toArray⟩, .string ⟨pt.toArray⟩, .string ⟨tk.toArray⟩, .bool fl, .func (.func f4) #[] b4, .func (.func f5) #[] b5, .func (.func f6) #[] b6, .func (.func f7) #[] b7] : Array Value)[o]? := fun o => (hb3.cell (p := ⟨w.heap.size, o, none⟩) (by simp; omega)).trans (HX1.out o)
    have y3 : ∀ o, w3.cell? ⟨w.heap.size + 1, o, none⟩ = (#[.int .i64 (row : Int), .int .i64 (r : Int), .int .i64 (s : Int), .int .i64 n] : Array Value)[o]? := fun o => (hb3.cell (p := ⟨w.heap.size + 1, o, none⟩) (by simp; omega)).trans (HY1.out o)
    clear hb3 x1 y1 HX1 HY1 K0 K1
    rw [show hasB (⟨tk.toArray⟩ : ByteArray).data.toList 83 = hasB tk 83 from rfl]
    cases hS : hasB tk 83 with
    | true =>
      have hset := tS hS
      clear hS tS
      go_wp2_with fail
      refine (IsSet_any _ b s m hs (HW.out.keep hb03).mach).mono ?_
      rintro e w4 ⟨rfl, rfl⟩
      rw [hset]
      clear hset
      go_wp2_with fail
      refine (HA.out _ (HW.out.keep hb03) (Keep.of_below (hb03.mono hB))).mono ?_
      rintro e w5 hres
      have hres2 := hres.below hb03 hB
      obtain ⟨rfl, hrest⟩ := hres
      have HR := hide hres2
      clear hres2 hrest x3 y3
      go_wp2
      go_ret
      exact HR.out
    | false =>
      clear hS tS
      go_wp2_with fail
      refine (HA.out _ (HW.out.keep hb03) (Keep.of_below (hb03.mono hB))).mono ?_
      rintro e w5 hres
      have hres2 := hres.below hb03 hB
      obtain ⟨rfl, hrest⟩ := hres
      have HR := hide hres2
      clear hres2 hrest x3 y3
      go_wp2
      go_ret
      exact HR.out
  | false =>
    clear hR tR
    go_wp2_with fail
    refine (TakesS_any _ _ _ _ _ _ _ _ _ _ _ _ _).mono ?_
    rintro e w3 ⟨rfl, hb3⟩
    have hsz3 : w.heap.size + 2 ≤ w3.heap.size := by have := hb3.size; omega
    have hb03 : Below w.heap.size w w3 := hb01.trans (hb3.mono (by omega))
    have x3 : ∀ o, w3.cell? ⟨w.heap.size, o, none⟩ = (#[.string ⟨nm.toArray⟩, .string ⟨pt.toArray⟩, .string ⟨tk.toArray⟩, .bool fl, .func (.func f4) #[] b4, .func (.func f5) #[] b5, .func (.func f6) #[] b6, .func (.func f7) #[] b7] : Array Value)[o]? := fun o => (hb3.cell (p := ⟨w.heap.size, o, none⟩) (by simp; omega)).trans (HX1.out o)
    have y3 : ∀ o, w3.cell? ⟨w.heap.size + 1, o, none⟩ = (#[.int .i64 (row : Int), .int .i64 (r : Int), .int .i64 (s : Int), .int .i64 n] : Array Value)[o]? := fun o => (hb3.cell (p := ⟨w.heap.size + 1, o, none⟩) (by simp; omega)).trans (HY1.out o)
    clear hb3 x1 y1 HX1 HY1 K0 K1
    rw [show hasB (⟨tk.toArray⟩ : ByteArray).data.toList 83 = hasB tk 83 from rfl]
    cases hS : hasB tk 83 with
    | true =>
      have hset := tS hS
      clear hS tS
      go_wp2_with fail
      refine (IsSet_any _ b s m hs (HW.out.keep hb03).mach).mono ?_
      rintro e w4 ⟨rfl, rfl⟩
      rw [hset]
      clear hset
      go_wp2_with fail
      refine (HA.out _ (HW.out.keep hb03) (Keep.of_below (hb03.mono hB))).mono ?_
      rintro e w5 hres
      have hres2 := hres.below hb03 hB
      obtain ⟨rfl, hrest⟩ := hres
      have HR := hide hres2
      clear hres2 hrest x3 y3
      go_wp2
      go_ret
      exact HR.out
    | false =>
      clear hS tS
      go_wp2_with fail
      refine (HA.out _ (HW.out.keep hb03) (Keep.of_below (hb03.mono hB))).mono ?_
      rintro e w5 hres
      have hres2 := hres.below hb03 hB
      obtain ⟨rfl, hrest⟩ := hres
      have HR := hide hres2
      clear hres2 hrest x3 y3
      go_wp2
      go_ret
      exact HR.out

end Go.Proofs.YtngopilbpiplhaaGreatDoor
