/-
  The given statement about wardkeep.Straight: for every list of numbers and every input it answers true and leaves both as they were. From the contract Straight_any; the package variables' cells from what the row lists and from the world's shape.
-/
import Derived.Test.YtngopilbpiplhaaGreatDoorCards
import Derived.Test.YtngopilbpiplhaaGreatDoorTie
import Derived.Test.YtngopilbpiplhaaGreatDoorStr1f
import Derived.Deep.DeepHandedRow
import Derived.Deep.DeepWitnessRowRef
import Derived.Lib.LaidTab
import Derived.Lib.LaidIn
import Derived.LaidSub
import Derived.Stop.LaidErr
import Derived.ProofKit
import Derived.SizedLaws
import Derived.OpenShut
import Derived.Carry
import Derived.Conc.Holds
import Derived.Leaving
namespace Go.Proofs.YtngopilbpiplhaaGreatDoor.straight
open Go.ChangeShapes Go.WideShapes Go.ChangeAt Go.RowKit Go.Lib
open Go.ChangeMaps (open_string shut_string)

theorem own : ownKnob Tryz.prog.godebug = none := by kernel_rfl
theorem laidOut : laidOutB Tryz.prog = true := by kernel_rfl
theorem star : "*" ++ "errors.errorString" = "*errors.errorString" := by decide
theorem rowE (u : TypeId) (h : Tryz.prog.typeName? 3 u = some "*errors.errorString") : u = 361 :=
  typeName_ptr_named (nm := "errors.errorString") (by rw [star]; kernel_rfl) (by kernel_rfl) (by decide) u (by rw [star]; exact h)

theorem cell_lt {W : World} {b o : Nat} {v : Value} (h : W.cell? ⟨b, o, none⟩ = some v) : b < W.heap.size := by
  rcases Nat.lt_or_ge b W.heap.size with h' | h'
  · exact h'
  · simp [World.cell?, Array.getElem?_eq_none h'] at h

/-- What the list and the shape say of the variables. -/
theorem globs {W : World} (hL : laidMetH Tryz.prog Rows.straightRow.laid W) (hsh : W.ShapedOpen Tryz.prog) : Glob W ∧ PowT W := by
  have hM : laidMet Tryz.prog Rows.straightRow.laid W := hL
  have h3 : laidMet Tryz.prog (("internal/strconv.uint64pow10", Rows.laid_internal_strconv_uint64pow10) :: Rows.straightRow.laid.drop 3) W := hM.tail.tail
  have hp : PowT W := Lib.tabIs_of_head (k := .u64) (zs := Lib.pow10Tab) (rest := Rows.straightRow.laid.drop 3) gPow (by kernel_rfl) Tryz.underlying339 Tryz.underlying262 (by kernel_rfl) (by kernel_rfl) h3
  have h5 : laidMet Tryz.prog (("strconv.ErrRange", Rows.laid_strconv_ErrRange) :: Rows.straightRow.laid.drop 5) W := hM.tail.tail.tail.tail
  have h6 : laidMet Tryz.prog (("strconv.ErrSyntax", Rows.laid_strconv_ErrSyntax) :: Rows.straightRow.laid.drop 6) W := hM.tail.tail.tail.tail.tail
  obtain ⟨a0, t0, hv0, _⟩ := laid_sentinel (g := 7) h5 (by kernel_rfl) (by kernel_rfl) Tryz.underlying251 rowE Tryz.underlying361 Tryz.underlying363 rfl rfl Tryz.underlying9 (by kernel_rfl) (by kernel_rfl)
  obtain ⟨a1, t1, hv1, _⟩ := laid_sentinel (g := 6) h6 (by kernel_rfl) (by kernel_rfl) Tryz.underlying251 rowE Tryz.underlying361 Tryz.underlying363 rfl rfl Tryz.underlying9 (by kernel_rfl) (by kernel_rfl)
  have c7 : W.cell? ⟨7, 0, none⟩ = some (.iface 361 (.pointer (some a0))) := by simpa using World.var?_cell (g := 7) (by kernel_rfl) hv0 0
  have c6 : W.cell? ⟨6, 0, none⟩ = some (.iface 361 (.pointer (some a1))) := by simpa using World.var?_cell (g := 6) (by kernel_rfl) hv1 0
  exact ⟨⟨Tryz.laysM146.s1_3 W hsh, ⟨_, _, c6⟩, ⟨_, _, c7⟩, cell_lt c7⟩, hp⟩

set_option maxRecDepth 100000 in
/-- What the walk gives, for every argument and every such world. -/
theorem contract (H : Type) (enc : TypeId × Value → H) (W : World) (base : Nat) (args : Array Value) (ds gs : List (DataW H)) (before : List MemPlace)
    (hval : ∀ (j : Nat) t v, Tryz.f3.params[j]? = some t → args[j]? = some v → Value.okWide Tryz.prog W .any base t v)
    (hW : DataW.Whole enc Tryz.prog Tryz.f3.params.toList Rows.straightSpec.vars false W args.toList ds gs before)
    (hz : (DataW.weightsEach Tryz.prog (Tryz.f3.params.toList ++ Rows.straightSpec.plain.varTypes Tryz.prog) (ds ++ gs)).all (· ≤ reachBytes) = true)
    (hL : laidMetH Tryz.prog Rows.straightRow.laid W) (hsh : W.ShapedOpen Tryz.prog) :
    Calls Tryz.prog 3 args W fun e W' => ∃ v, e = .returned v ∧ Rows.straightSpec.post enc Tryz.prog Tryz.f3 false true false false W args v W' := by
  obtain ⟨hg, hp⟩ := globs hL hsh
  have hg8 := hg.size
  have hW' := hW
  obtain ⟨p, q, hA0, hV, rfl, hfz, hnd⟩ := hW
  have hA : DataW.TrodAll enc Tryz.prog W 0 (fun _ => true) true Tryz.f3.params.toList args.toList ds p := hA0
  rw [Tryz.params3] at hA hval hz
  obtain ⟨v0, v1, d0, d1, p0, p1, rfl, rfl, rfl, h0, h1⟩ := trodAll_two hA
  obtain ⟨rfl, rfl⟩ := trodVars_none hV
  have hv0 := hval 0 22 v0 rfl rfl
  obtain ⟨s, rfl, rfl, rfl, ws⟩ := open_string Tryz.underlying9 (hval 1 9 v1 rfl rfl) h1
  have hlt : ∀ x ∈ p0, x.block < W.heap.size := fun x hx => by simpa using hW'.lt x (by simp [hx])
  have hse : s = ⟨s.data.toList.toArray⟩ := by cases s; simp
  have h0k := h0
  obtain ⟨oa, len, cap, rfl⟩ := okWide_slice Tryz.underlying22 hv0
  obtain ⟨fuel, hf⟩ := h0
  have key : ∃ (raw : List Int) (rb ro : Nat), raw.length = len ∧ (0 < raw.length → oa = some ⟨rb, ro, none⟩) ∧ raw.length ≤ 140737488355328 ∧ (∀ j, -9223372036854775808 ≤ rawAt raw j ∧ rawAt raw j ≤ 9223372036854775807) ∧
      (∀ j, j < raw.length → W.cell? ⟨rb, ro + j, none⟩ = some (.int .i64 (rawAt raw j))) ∧ rb < W.heap.size := by
    rcases open_ints Tryz.underlying22 Tryz.underlying3 (by kernel_rfl) hf with ⟨e1, _⟩ | ⟨a, len', cap', zs, e1, _, hlc, _, hzl, hx, hcell, hwf⟩
    · simp [Value.cells] at e1
      obtain ⟨rfl, rfl, rfl⟩ := e1
      exact ⟨[], 0, 0, rfl, fun h => absurd h (by simp), by simp, fun j => by simp [rawAt], fun j h => absurd h (by simp), by omega⟩
    · simp [Value.cells] at e1
      obtain ⟨rfl, rfl, rfl⟩ := e1
      simp only [Prod.mk.injEq] at hx
      obtain ⟨rfl, rfl⟩ := hx
      have hzl' : zs.length = cap := by simpa using hzl
      have hw := sized_slice hz (j := 0) rfl rfl Tryz.underlying22
      rw [show Tryz.prog.bytesOf 3 = 8 by kernel_rfl] at hw
      have hlen : len ≤ 140737488355328 := by
        simp [lits] at hw
        have : reachBytes = 140737488351232 := rfl
        omega
      have hspot : a.spot = none ∧ a.block < W.heap.size := by
        simp only [Value.okWide, Tryz.underlying22, Cell.okWide, Cell.ok] at hv0
        obtain ⟨_, _, _, h2, row, cells, h3, _⟩ := hv0
        refine ⟨h2, ?_⟩
        rcases Nat.lt_or_ge a.block W.heap.size with h' | h'
        · exact h'
        · simp [World.shape?, Array.getElem?_eq_none h'] at h3
      obtain ⟨rb, ro, spot⟩ := a
      obtain ⟨rfl, hblk⟩ := hspot
      have hat : ∀ j, j < len → rawAt (zs.take len) j = zs.getD j 0 := fun j hj => by simp [rawAt, List.getD_eq_getElem?_getD, hj]
      refine ⟨zs.take len, rb, ro, by simp; omega, fun _ => rfl, by simp; omega, fun j => ?_, fun j hj => ?_, hblk⟩
      · by_cases hj : j < len
        · rw [hat j hj]
          have := range_i64 hwf j
          simpa [List.getD_eq_getElem?_getD] using this
        · have : rawAt (zs.take len) j = 0 := by simp [rawAt, List.getD_eq_getElem?_getD, List.getElem?_take, hj]
          rw [this]; omega
      · have hj' : j < len := by simp at hj; omega
        rw [hat j hj']
        have := hcell j (by omega)
        rwa [Go.WideShapes.add_plain] at this
  obtain ⟨raw, rb, ro, rfl, hra, hrl, hrg, hcl, hrb⟩ := key
  rw [hse]
  refine (Straight_any raw s.data.toList oa rb ro cap W hra hg hp hrl hrg hcl hrb).mono ?_
  rintro e W' ⟨rfl, hb⟩
  rw [← hse]
  refine ⟨_, rfl, _, _, _, [], p0 ++ [], [], hW', ?_, ?_, ?_, hb.frame _, fun h => by cases h⟩
  · exact trodAll_mk1 (shut_bool Tryz.underlying4 _)
  · exact trodAll_mk2 (Below.trod laidOut (by kernel_rfl) (of_decide_eq_true (by kernel_rfl)) h0k hb hlt) (shut_string Tryz.underlying9 ws)
  · rfl

end Go.Proofs.YtngopilbpiplhaaGreatDoor.straight
