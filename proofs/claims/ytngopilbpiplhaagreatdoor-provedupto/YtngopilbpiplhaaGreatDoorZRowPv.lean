/-
  The given statement about wardlaw.Proved: for every two texts of bounded bulk it answers true. From the contract Proved_any; the package variables' cells from what the row lists and from the world's shape.
-/
import Derived.Test.YtngopilbpiplhaaGreatDoorCards
import Derived.Test.YtngopilbpiplhaaGreatDoorTie
import Derived.Test.YtngopilbpiplhaaGreatDoorZRfPv
import Derived.Deep.DeepHandedRow
import Derived.Deep.DeepWitnessRowRef
import Derived.Lib.LaidTab
import Derived.Lib.LaidIn
import Derived.LaidSub
import Derived.Stop.LaidErr
import Derived.ProofKit
import Derived.SizedLaws
import Derived.OpenShut
import Derived.Carry
import Derived.Conc.Holds
import Derived.Leaving
namespace Go.Proofs.YtngopilbpiplhaaGreatDoor.proved
open Go.ChangeShapes Go.WideShapes Go.ChangeAt Go.RowKit Go.Lib
open Go.ChangeMaps (open_string shut_string)
theorem own : ownKnob Tryz.prog.godebug = none := by kernel_rfl
theorem star : "*" ++ "errors.errorString" = "*errors.errorString" := by decide
theorem rowE (u : TypeId) (h : Tryz.prog.typeName? 3 u = some "*errors.errorString") : u = 361 :=
  typeName_ptr_named (nm := "errors.errorString") (by rw [star]; kernel_rfl) (by kernel_rfl) (by decide) u (by rw [star]; exact h)
theorem cell_lt {W : World} {b o : Nat} {v : Value} (h : W.cell? ⟨b, o, none⟩ = some v) : b < W.heap.size := by
  rcases Nat.lt_or_ge b W.heap.size with h' | h'
  · exact h'
  · simp [World.cell?, Array.getElem?_eq_none h'] at h
/-- What the list and the shape say of the variables. -/
theorem globs {W : World} (hL : laidMetH Tryz.prog Rows.provedUptoRow.laid W) (hsh : W.ShapedOpen Tryz.prog) : Glob W ∧ PowT W := by
  have hM : laidMet Tryz.prog Rows.provedUptoRow.laid W := hL
  have h3 : laidMet Tryz.prog (("internal/strconv.uint64pow10", Rows.laid_internal_strconv_uint64pow10) :: Rows.provedUptoRow.laid.drop 3) W := hM.tail.tail
  have hp : PowT W := Lib.tabIs_of_head (k := .u64) (zs := Lib.pow10Tab) (rest := Rows.provedUptoRow.laid.drop 3) gPow (by kernel_rfl) Tryz.underlying339 Tryz.underlying262 (by kernel_rfl) (by kernel_rfl) h3
  have h5 : laidMet Tryz.prog (("strconv.ErrRange", Rows.laid_strconv_ErrRange) :: Rows.provedUptoRow.laid.drop 5) W := hM.tail.tail.tail.tail
  have h6 : laidMet Tryz.prog (("strconv.ErrSyntax", Rows.laid_strconv_ErrSyntax) :: Rows.provedUptoRow.laid.drop 6) W := hM.tail.tail.tail.tail.tail
  obtain ⟨a0, t0, hv0, _⟩ := laid_sentinel (g := 7) h5 (by kernel_rfl) (by kernel_rfl) Tryz.underlying251 rowE Tryz.underlying361 Tryz.underlying363 rfl rfl Tryz.underlying9 (by kernel_rfl) (by kernel_rfl)
  obtain ⟨a1, t1, hv1, _⟩ := laid_sentinel (g := 6) h6 (by kernel_rfl) (by kernel_rfl) Tryz.underlying251 rowE Tryz.underlying361 Tryz.underlying363 rfl rfl Tryz.underlying9 (by kernel_rfl) (by kernel_rfl)
  have c7 : W.cell? ⟨7, 0, none⟩ = some (.iface 361 (.pointer (some a0))) := by simpa using World.var?_cell (g := 7) (by kernel_rfl) hv0 0
  have c6 : W.cell? ⟨6, 0, none⟩ = some (.iface 361 (.pointer (some a1))) := by simpa using World.var?_cell (g := 6) (by kernel_rfl) hv1 0
  exact ⟨⟨Tryz.laysM146.s1_3 W hsh, ⟨_, _, c6⟩, ⟨_, _, c7⟩, cell_lt c7⟩, hp⟩
set_option maxRecDepth 100000 in
/-- What the walk gives, for every argument and every such world. -/
theorem contract (H : Type) (enc : TypeId × Value → H) (W : World) (base : Nat) (args : Array Value) (ds gs : List (DataW H)) (before : List MemPlace)
    (hval : ∀ (j : Nat) t v, Tryz.f5.params[j]? = some t → args[j]? = some v → Value.okWide Tryz.prog W .any base t v)
    (hW : DataW.Whole enc Tryz.prog Tryz.f5.params.toList Rows.provedSpec.vars false W args.toList ds gs before)
    (hk : Rows.uptoSmall H (ds ++ gs) = true) (hL : laidMetH Tryz.prog Rows.provedUptoRow.laid W) (hsh : W.ShapedOpen Tryz.prog) :
    Calls Tryz.prog 5 args W fun e W' => ∃ v, e = .returned v ∧ Rows.provedSpec.post enc Tryz.prog Tryz.f5 false true false false W args v W' := by
  obtain ⟨hg, hp⟩ := globs hL hsh
  have hW' := hW
  obtain ⟨p, q, hA0, hV, rfl, hfz, hnd⟩ := hW
  have hA : DataW.TrodAll enc Tryz.prog W 0 (fun _ => true) true Tryz.f5.params.toList args.toList ds p := hA0
  rw [Tryz.params5] at hA hval
  obtain ⟨v0, v1, d0, d1, p0, p1, rfl, rfl, rfl, h0, h1⟩ := trodAll_two hA
  obtain ⟨rfl, rfl⟩ := trodVars_none hV
  obtain ⟨s, rfl, rfl, rfl, ws⟩ := open_string Tryz.underlying9 (hval 0 9 v0 rfl rfl) h0
  obtain ⟨t, rfl, rfl, rfl, wt⟩ := open_string Tryz.underlying9 (hval 1 9 v1 rfl rfl) h1
  have hse : s = ⟨s.data.toList.toArray⟩ := by cases s; simp
  have hte : t = ⟨t.data.toList.toArray⟩ := by cases t; simp
  have hb := of_decide_eq_true hk
  simp only [Rows.uptoBulkAll, Rows.uptoBulk, List.append_nil] at hb
  have hls : s.data.toList.length ≤ 10000000 := by first | omega | (simp at hb ⊢; omega)
  have hlt : t.data.toList.length ≤ 10000000 := by first | omega | (simp at hb ⊢; omega)
  rw [hse, hte]
  refine (Proved_any s.data.toList t.data.toList W hls hlt hg hp).mono ?_
  rintro e W' ⟨rfl, hb⟩
  rw [← hse, ← hte]
  refine ⟨_, rfl, _, _, _, [], [], [], hW', ?_, ?_, ?_, hb.frame _, fun h => by cases h⟩
  · exact trodAll_mk1 (shut_bool Tryz.underlying4 _)
  · exact trodAll_mk2 (shut_string Tryz.underlying9 ws) (shut_string Tryz.underlying9 wt)
  · rfl
end Go.Proofs.YtngopilbpiplhaaGreatDoor.proved
