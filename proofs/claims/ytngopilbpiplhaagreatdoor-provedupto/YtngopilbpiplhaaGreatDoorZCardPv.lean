/-
  Proved: wardlaw.Proved answers true for every two texts (as long as what it reads is of bulk at most 1048576: the second form); on every schedule, without a data race. Conditions: the package variables of Go's library that the row lists start as the program's text lays them (the card ties them to it); the card speaks of a pruned copy of the project that holds the packages this function loads.
-/
import Derived.Test.YtngopilbpiplhaaGreatDoorZRowPv
namespace Go.Proofs.YtngopilbpiplhaaGreatDoor.proved
open Go.ChangeShapes Go.WideShapes Go.ChangeAt Go.RowKit Go.Lib
/-- The cell that a datum of a number is laid as. -/
def litCell : DataW Unit → Value
  | .lit (.int k n) => .int k n
  | _ => undef
/-- The cells that a row of numbers is laid as. -/
def rowCells : DataW Unit → List Value
  | .agg ds => ds.map litCell
  | _ => []
/-- The cells that a row of rows of numbers is laid as. -/
def rowsCells : DataW Unit → List Value
  | .agg ds => ds.flatMap rowCells
  | _ => []
/-- A world for the witness: the settled one with two blocks more (the errors' texts), the seven listed variables holding what their initialisers lay. -/
def laidWorld (P : Program) (os : Os) : World :=
  let N := (World.settled P os).heap.size
  let w0 := World.holding P os ⟨#[
    .cells #[.string ⟨#[118, 97, 108, 117, 101, 32, 111, 117, 116, 32, 111, 102, 32, 114, 97, 110, 103, 101]⟩] 363, .cells #[.string ⟨#[105, 110, 118, 97, 108, 105, 100, 32, 115, 121, 110, 116, 97, 120]⟩] 363], #[], []⟩
  let put (h : Array Obj) (g : Nat) (cs : Array Value) : Array Obj := h.modify g fun
    | .cells _ t frozen => .cells cs t frozen
    | o => o
  let h0 := put (put w0.heap 7 #[.iface 361 (.pointer (some ⟨N, 0, none⟩))]) 6 #[.iface 361 (.pointer (some ⟨N + 1, 0, none⟩))]
  let h1 := put (put h0 4 (rowCells Rows.laid_math_bits_deBruijn32tab).toArray) 5 (rowCells Rows.laid_math_bits_deBruijn64tab).toArray
  let h2 := put (put h1 1 (rowCells Rows.laid_internal_strconv_uint64pow10).toArray) 3 (rowsCells Rows.laid_unicode_utf8_acceptRanges).toArray
  let h3 := put h2 2 (rowCells Rows.laid_unicode_utf8_first).toArray
  { w0 with heap := h3 }
set_option maxRecDepth 1000000 in
theorem laid_met (os : Os) (args : Array Value) : laidMet Tryz.prog Rows.provedUptoRow.laid ((laidWorld Tryz.prog os).forCall (fun _ _ => 0) ⟨#[], args, []⟩).memory :=
  (LaidIn.of_run [4, 5, 1, 3, 7, (World.settled Tryz.prog default).heap.size, 6, (World.settled Tryz.prog default).heap.size + 1, 2] 8 (by kernel_rfl) (by kernel_rfl) (by kernel_rfl) (by kernel_rfl)).met
abbrev wArgs : Array Value := #[.string ⟨#[]⟩, .string ⟨#[]⟩]
theorem witness_row (os : Os) {H : Type} (enc : TypeId × Value → H) :
    (Rows.OpenSpec.upto Rows.provedSpec).preRow enc Tryz.prog Tryz.f5 Rows.provedUptoRow.domain false Rows.provedUptoRow.laid ((laidWorld Tryz.prog os).forCall (fun _ _ => 0) ⟨#[], wArgs, []⟩).memory wArgs := by
  have hw : (DataW.whole enc Tryz.prog ((laidWorld Tryz.prog os).forCall (fun _ _ => 0) ⟨#[], wArgs, []⟩).memory Tryz.f5.params.toList (Rows.OpenSpec.upto Rows.provedSpec).vars false wArgs.toList 8).map (fun x => (x.1, x.2.1)) =
      some ([.lit (.string []), .lit (.string [])], []) := by kernel_rfl
  obtain ⟨⟨x1, x2, x3⟩, hx, hx1⟩ := Option.map_eq_some_iff.1 hw
  simp only [Prod.mk.injEq] at hx1
  obtain ⟨rfl, rfl⟩ := hx1
  exact OpenSpec.preRow_of_cond 8 hx (by kernel_rfl) (fun k hk => by cases hk; kernel_rfl) (by kernel_rfl) (laid_met os _)
set_option maxRecDepth 100000 in
theorem lifted (os : Os) (started : os.Started) (H : Type) (enc : TypeId × Value → H) (F : Stop.Interp) :
    ReturnsInHanded {} Tryz.checked os 5 .any ((Rows.OpenSpec.upto Rows.provedSpec).preRow enc Tryz.prog Tryz.f5 Rows.provedUptoRow.domain false Rows.provedUptoRow.laid) (((Rows.OpenSpec.upto Rows.provedSpec).at F).post enc Tryz.prog Tryz.f5 false true false false) := by
  refine returnsInHanded_of_row (C := Tryz.checked) (s := Rows.OpenSpec.upto Rows.provedSpec) own started (by kernel_rfl) Tryz.func5
    (witness_row_atRef (enc := enc) (C := Tryz.checked) false (laidWorld Tryz.prog os) wArgs rfl (by kernel_rfl) (by kernel_rfl) (by kernel_rfl) (witness_row os enc)) ?_
  intro W base args ds gs before hval hW _ hcond _ hL hsh _
  exact contract H enc W base args ds gs before hval hW (hcond _ rfl) hL hsh
/-- The same row where at the return every other goroutine has ended. -/
abbrev endRow : OpenClaim := { Rows.provedUptoRow with leaving := false }
theorem said0 : endRow.holds Tryz.pinned (Rows.OpenSpec.upto Rows.provedSpec) :=
  OpenClaim.holds_of_cond 5 Tryz.f5 rfl rfl rfl rfl rfl rfl rfl ⟨rfl, rfl, rfl, rfl, rfl⟩ rfl rfl rfl rfl rfl (by kernel_rfl) Tryz.func5 (by kernel_rfl)
    (of_decide_eq_true (by kernel_rfl)) (by unfold Func.isWrapper; first | (rw [if_pos (by decide +kernel)]; kernel_rfl) | (rw [if_neg (by decide +kernel)]; exact ⟨rfl, rfl⟩))
    (fun os started H enc _ F => by rw [OpenClaim.pre_eq_preRow]; exact lifted os started H enc F)
/-- Where none is left at the return, none is left that does not leave. -/
theorem said : Rows.ProvedUptoSaid := by
  obtain ⟨_, a2, a3, a4, a5, a6, a7, a8, f, fn, h1, h2, b1, b2, b3, b4, b5, b6, b7, b8, b9, b10, b11, b12, b13, b14, b15, b16, b17, b18, b19, L, hL, hall⟩ := said0
  refine ⟨by kernel_rfl, a2, a3, a4, a5, a6, a7, a8, f, fn, h1, h2, b1, b2, b3, b4, b5, b6, b7, b8, b9, b10, b11, b12, b13, b14, b15, b16, b17, b18, b19, L, hL, fun os st hq H enc inj => ?_⟩
  have g := hall os st hq H enc inj
  intro F
  exact ReturnsInOpen.mono (fun _ _ _ x => ⟨x.2.1, onlyLeaving_of_quiet x.1, x.2.2⟩) (fun _ x => x) (g F)
theorem plain (f : FuncId) (fn : Func) (hf : Tryz.pinned.checked.prog.funcNamed "ward/wardlaw.Proved" = some f) (hfn : Tryz.pinned.checked.prog.funcs[f]? = some fn) :
    true = Tryz.pinned.checked.prog.looks [] ∧ ∀ (j : Nat) t, fn.params[j]? = some t → Tryz.pinned.checked.prog.wantsStandIn t = false := by
  obtain rfl : f = 5 := Option.some.inj ((show Tryz.prog.funcNamed "ward/wardlaw.Proved" = some 5 by kernel_rfl).symm.trans hf) |>.symm
  obtain rfl : fn = Tryz.f5 := (Option.some.inj (Tryz.func5.symm.trans hfn)).symm
  refine ⟨by kernel_rfl, fun j t ht => ?_⟩
  rw [Tryz.params5] at ht
  obtain rfl : t = 9 := by simpa using Array.mem_of_getElem? ht
  exact (show Tryz.prog.wantsStandIn 9 = false by kernel_rfl)
/-- A tied card whose function can start goroutines. -/
theorem tied_goes (Lk : Looks) {p : Pinned} {s : OpenSpec} {c : OpenClaim} (kinds : List LaidKind) (tests : Bool) (har : Bool × String) (lk g : Bool)
    (hc : c.holds p s) (hw : c.wfByText s = true) (htie : c.laidByTextAt Lk p kinds tests)
    (hst : c.start = .entering) (hnb : c.noBlocks = false ∧ c.again = false) (hm : p.checked.prog.mainIs = some (har.1, har.2.toList)) (hn : (!har.1 && har.2.isEmpty && !lk) = false)
    (hl : ∀ f fn, p.checked.prog.funcNamed c.func = some f → p.checked.prog.funcs[f]? = some fn → lk = p.checked.prog.looks [] ∧ ∀ (j : Nat) t, fn.params[j]? = some t → p.checked.prog.wantsStandIn t = false)
    (hg : g = c.goesBy p.checked.prog) :
    Claim7.holds p (.plain s) { stood := { row := c, standIns := [], harness := har, looks := lk }, kinds := [], alts := [], goes := g, laidByText := true, laidKinds := kinds, laidTests := tests, laidLooks := Lk } := by
  have h6 : Claim7.isSixth { stood := { row := c, standIns := [], harness := har, looks := lk }, kinds := [] } = false := by simpa [Claim7.isSixth] using hn
  exact ⟨Claim7.tied_new_at Lk kinds tests (Claim7.new_of_sixth hc har lk hst hnb hm h6 hl) hw, (fun D hD => by cases hD), htie, (fun h => by cases h), hg⟩
theorem card : Rows.ProvedUptoCardSaid :=
  tied_goes .later _ _ _ _ _ said (by kernel_rfl) provedUpto_row_tie rfl ⟨rfl, rfl⟩ (by kernel_rfl) rfl plain (by kernel_rfl)
end Go.Proofs.YtngopilbpiplhaaGreatDoor.proved
namespace Go.Proofs.YtngopilbpiplhaaGreatDoor
/-- wardlaw.Proved answers true for every input. -/
theorem proved_holds : Rows.ProvedUptoCardSaid := proved.card
end Go.Proofs.YtngopilbpiplhaaGreatDoor
