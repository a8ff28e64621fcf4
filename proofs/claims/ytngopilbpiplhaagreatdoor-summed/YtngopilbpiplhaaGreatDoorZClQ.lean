/-
  The search in memory; the contract of search.exits.
-/
import Derived.Test.YtngopilbpiplhaaGreatDoorZClP
import Derived.Test.YtngopilbpiplhaaGreatDoorZClX
import Derived.Test.YtngopilbpiplhaaGreatDoorZClW
import Derived.Test.YtngopilbpiplhaaGreatDoorZClS
import Derived.Test.YtngopilbpiplhaaGreatDoorZParse
import Derived.Deep.Cut
namespace Go.Proofs.YtngopilbpiplhaaGreatDoor
open Go.RowKit
set_option linter.unusedVariables false

/-- A row of the table as it is handed over. -/
def wordA (s i : Nat) : Array Value := #[.string ⟨(wName i).toArray⟩, .string ⟨(wParts i).toArray⟩, .string ⟨(wTakes i).toArray⟩, .bool (wFalls i), wDo s i, wNeeds s i, wNext s i, wJump s i]
theorem wordA_size (s i : Nat) : (wordA s i).size = 8 := rfl
theorem wordA_one (s i : Nat) (h : i < 17) : (wordA s i).all (·.oneCell') = true := by
  obtain ⟨f4, b4, f5, b5, f6, b6, f7, b7, e4, e5, e6, e7⟩ := row_funcs s h
  unfold wordA
  rw [e4, e5, e6, e7]
  simp [Value.oneCell']
theorem wordA_range {s : Nat} {w : World} (h : Table s w) {i : Nat} (hi : i < 17) : w.rangeAt (s + 55) (i * 8) (wordA s i).toList := by
  obtain ⟨r0, r1, r2, r3, r4, r5, r6, r7⟩ := rowAt h.rows hi
  intro j v hv
  match j, hv with
  | 0, hv => exact (show w.cell? ⟨s + 55, i * 8 + 0, none⟩ = _ from r0).trans hv
  | 1, hv => rw [r1]; exact hv
  | 2, hv => rw [r2]; exact hv
  | 3, hv => rw [r3]; exact hv
  | 4, hv => rw [r4]; exact hv
  | 5, hv => rw [r5]; exact hv
  | 6, hv => rw [r6]; exact hv
  | 7, hv => rw [r7]; exact hv
  | n + 8, hv => simp [wordA] at hv
theorem LinesAt.range {w : World} {g : Nat} {xs : List Ln} (h : LinesAt w g xs) {i : Nat} (hi : i < xs.length) : w.rangeAt g (i * 4) (lnArr xs[i]).toList := by
  obtain ⟨r0, r1, r2, r3⟩ := h.get hi
  intro j v hv
  match j, hv with
  | 0, hv => exact (show w.cell? ⟨g, i * 4 + 0, none⟩ = _ from r0).trans hv
  | 1, hv => rw [r1]; exact hv
  | 2, hv => rw [r2]; exact hv
  | 3, hv => rw [r3]; exact hv
  | n + 4, hv => simp [lnArr] at hv
/-- Ways out, as cells. -/
def exL (l : List (Int × Cl)) : List Value := l.flatMap fun e => exC e.1 e.2

/-- What the search asks of a line: that its word's two closures answer as the plain functions say. -/
structure LineW (s0 : Nat) (x : Ln) : Prop where
  word : x.word = ((x.word.toNat : Nat) : Int)
  row : x.word.toNat < 17
  met : ∀ (c : Cl) (w : World), Table s0 w → Calls Tryz.prog 178 #[.agg (wordA s0 x.word.toNat), .agg (clCells c), .agg (lnArr x)] w fun e w' => e = .returned (.bool (metW x.word.toNat c x)) ∧ Below w.heap.size w w'
  ex : ∀ (c : Cl) (w : World) (at_ : Nat), at_ < 1000 → c.never = false → metW x.word.toNat c x = true → Table s0 w → Calls Tryz.prog 191 #[.agg (wordA s0 x.word.toNat), .int .i64 (at_ : Int), .agg (lnArr x), .agg (clCells c)] w
    fun e w' => ∃ v, e = .returned v ∧ w'.ownsRow (w.heap.size + 3) 243 26 v (exW x.word.toNat at_ c x).length (exL (exW x.word.toNat at_ c x)) ∧ Below w.heap.size w w'

/-- Claims lie in a block. -/
def ClaimsAt (w : World) (pb : Nat) (p : List Cl) : Prop := w.there pb 0 (p.length * 25) ∧ ∀ k c, p[k]? = some c → w.rangeAt pb (k * 25) (clCells c).toList
theorem ClaimsAt.mono {w w' : World} {pb : Nat} {p : List Cl} (h : ClaimsAt w pb p) (hb : w'.heap[pb]? = w.heap[pb]?) : ClaimsAt w' pb p := by
  have hc : ∀ o, w'.cell? ⟨pb, o, none⟩ = w.cell? ⟨pb, o, none⟩ := fun o => World.cell?_of_block hb
  have hf : ∀ o, w'.frozen? ⟨pb, o, none⟩ = w.frozen? ⟨pb, o, none⟩ := fun o => by simp [World.frozen?, hb]
  exact ⟨fun j hj => by rw [hc, hf]; exact h.1 j hj, fun k c hk j v hv => by rw [hc]; exact h.2 k c hk j v hv⟩
/-- The number of changes of line j. -/
def chF (ch : List Int) : Nat → Int := fun j => ch.getD j 0

/-- A search: its four fields, and what they lead to. -/
structure SAt (w : World) (sb s0 g gcap pb hb : Nat) (xs : List Ln) (p : List Cl) (ch : List Int) : Prop where
  c0 : w.cell? ⟨sb, 0, none⟩ = some (.slice (some ⟨s0 + 55, 0, none⟩) 17 17)
  c1 : w.cell? ⟨sb, 1, none⟩ = some (.slice (some ⟨g, 0, none⟩) xs.length gcap)
  c2 : w.cell? ⟨sb, 2, none⟩ = some (.slice (some ⟨pb, 0, none⟩) xs.length xs.length)
  c3 : w.cell? ⟨sb, 3, none⟩ = some (.slice (some ⟨hb, 0, none⟩) xs.length xs.length)
  tab : Table s0 w
  lines : LinesAt w g xs
  claims : ClaimsAt w pb p
  plen : p.length = xs.length
  chg : w.heap[hb]? = some (.cells (arrC xs.length (chF ch)) 3)
  lt0 : s0 + 56 ≤ w.heap.size
  lts : sb < w.heap.size
  ltp : pb < w.heap.size
theorem SAt.ltg {w : World} {sb s0 g gcap pb hb : Nat} {xs : List Ln} {p : List Cl} {ch : List Int} (h : SAt w sb s0 g gcap pb hb xs p ch) : g < w.heap.size := h.lines.lt
theorem SAt.lth {w : World} {sb s0 g gcap pb hb : Nat} {xs : List Ln} {p : List Cl} {ch : List Int} (h : SAt w sb s0 g gcap pb hb xs p ch) : hb < w.heap.size := blk_lt h.chg
theorem SAt.below {w w' : World} {sb s0 g gcap pb hb : Nat} {xs : List Ln} {p : List Cl} {ch : List Int} (h : SAt w sb s0 g gcap pb hb xs p ch) (hb' : Below w.heap.size w w') : SAt w' sb s0 g gcap pb hb xs p ch :=
  ⟨(hb'.cell (p := ⟨sb, 0, none⟩) h.lts).trans h.c0, (hb'.cell (p := ⟨sb, 1, none⟩) h.lts).trans h.c1, (hb'.cell (p := ⟨sb, 2, none⟩) h.lts).trans h.c2, (hb'.cell (p := ⟨sb, 3, none⟩) h.lts).trans h.c3,
   h.tab.mono fun k _ hk => hb'.block k (by have := h.lt0; omega), h.lines.mono (hb'.block _ h.ltg), h.claims.mono (hb'.block _ h.ltp), h.plen, (hb'.block _ h.lth).trans h.chg,
   Nat.le_trans h.lt0 hb'.size, Nat.lt_of_lt_of_le h.lts hb'.size, Nat.lt_of_lt_of_le h.ltp hb'.size⟩

theorem ownsRow_low {w : World} {B B' : Nat} {e : TypeId} {sz n : Nat} {v : Value} {xs : List Value} (h : w.ownsRow B e sz v n xs) (hB : B' ≤ B) : w.ownsRow B' e sz v n xs := by
  obtain ⟨h1, h2 | ⟨g, cap, cur, e1, hg, r⟩⟩ := h
  · exact ⟨h1, .inl h2⟩
  · exact ⟨h1, .inr ⟨g, cap, cur, e1, Nat.le_trans hB hg, r⟩⟩
theorem exec_allocLn {o : Oper} {a : Act} {w : World} (ho : o.op = .alloc 122) : (execOp a.eval o).run Tryz.prog w = .ok (.value (.pointer (some ⟨w.heap.size, 0, none⟩))) (w.alloc (lnB ⟨0, 0, 0, 0⟩)) := by
  unfold execOp
  simp only [ho]
  kernel_rfl
theorem exec_allocWd {o : Oper} {a : Act} {w : World} (ho : o.op = .alloc 140) : (execOp a.eval o).run Tryz.prog w = .ok (.value (.pointer (some ⟨w.heap.size, 0, none⟩))) (w.alloc (.cells #[.string ⟨#[]⟩, .string ⟨#[]⟩, .string ⟨#[]⟩, .bool false, .nilFunc, .nilFunc, .nilFunc, .nilFunc] 140)) := by
  unfold execOp
  simp only [ho]
  kernel_rfl
/-- A store of a row of whatever type. -/
theorem exec_storeRow {o : Oper} {a : Act} {w : World} (ty : TypeId) (x y : Operand) (ho : o.op = .store ty x y) (g : Nat) (SC old : Array Value) (hx : a.eval x = .pointer (some ⟨g, 0, none⟩)) (hy : a.eval y = .agg SC) (hg : w.heap[g]? = some (.cells old ty)) (hi : (Tryz.prog.info? ty).map (·.size) = some SC.size) (hold : old.size = SC.size) (hone : SC.all (·.oneCell') = true) :
    (execOp a.eval o).run Tryz.prog w = .ok .skip (w.setRow g SC) := by
  unfold execOp
  simp only [ho, hx, hy, Instr.storeAt, Instr.sureAddr, Sem.run_bind, Sem.run_pure, Result.andThen_ok, run_storeVar_row (P := Tryz.prog) w g ty ty old SC hg hi hold hone]
theorem held_storeRow {ops : Array Oper} {Q : Exit → Act → World → Prop} {S : World → Prop} {i : Nat} {o : Oper} {a : Act} {w : World} {fuel : Nat} {listed : Array Bool} (ty : TypeId) (x y : Operand) (g : Nat) (SC old : Array Value)
    (hr : Region.ready .any ops listed = [i]) (hi : ops[i]? = some o) (hw : Region.wanted o (yielded ops a.tmps) = true) (ho : o.op = .store ty x y) (hx : a.eval x = .pointer (some ⟨g, 0, none⟩)) (hy : a.eval y = .agg SC)
    (hg : w.heap[g]? = some (.cells old ty)) (hin : (Tryz.prog.info? ty).map (·.size) = some SC.size) (hold : old.size = SC.size) (hone : SC.all (·.oneCell') = true) (hS : S (w.setRow g SC))
    (hd : o.dst = none) (h : ∀ w', Hid (w' = w.setRow g SC) → wpAnyH Tryz.prog .any ops Q S fuel (listed.setIfInBounds i true) a w') : wpAnyH Tryz.prog .any ops Q S (fuel + 1) listed a w :=
  held_skip hr hi hw (exec_storeRow ty x y ho g SC old hx hy hg hin hold hone) hS (by rw [hd]; exact h _ (hide rfl))
theorem below_setG {B g : Nat} {w W : World} (h : Below B w W) (hg : B ≤ g) (cs : Array Value) : Below B w (W.setRow g cs) := h.trans ((keep_setRow' B _ _ _).below hg)
/-- The ways out of a line, by its claim. -/
def exitsOf (x : Ln) (c : Cl) (at_ : Nat) : List (Int × Cl) := if c.never || !metW x.word.toNat c x then [] else exW x.word.toNat at_ c x

set_option maxRecDepth 100000 in
set_option maxHeartbeats 4000000 in
theorem exits_any (sb s0 g gcap pb hb : Nat) (xs : List Ln) (p : List Cl) (ch : List Int) (k : Nat) (w : World) (hn : xs.length ≤ 1000) (hS : SAt w sb s0 g gcap pb hb xs p ch) (x : Ln) (hx : xs[k]? = some x) (c : Cl) (hc : p[k]? = some c) (hW : LineW s0 x) :
    Calls Tryz.prog 174 #[.pointer (some ⟨sb, 0, none⟩), .int .i64 (k : Int)] w
      fun e w' => ∃ v, e = .returned v ∧ w'.ownsRow w.heap.size 243 26 v (exitsOf x c k).length (exL (exitsOf x c k)) ∧ Below w.heap.size w w' := by
  obtain ⟨hk, hxk⟩ := List.getElem?_eq_some_iff.1 hx
  have hRc := hS.claims.2 k c hc
  have hRl := hS.lines.range hk
  rw [hxk] at hRl
  have hlts := hS.lts
  have hltp := hS.ltp
  have hltg := hS.ltg
  have hkI : (k : Int) < (xs.length : Int) := by omega
  have hword := hW.word
  have hrow := hW.row
  have hmet := hW.met
  have hex := hW.ex
  unfold exitsOf
  clear hW
  generalize x.word.toNat = i at *
  have HSA := hide hS
  have HMET := hide hmet
  have HWX := hide hex
  have HRC := hide hRc
  have HRL := hide hRl
  have HWORD := hide hword
  clear hS hRc hRl hx hc hxk hmet hex hword
  generalize hEO : (if c.never || !metW i c x then [] else exW i k c x) = EO
  have HEO := hide hEO
  clear hEO
  go_enter Tryz.func174, Tryz.ntmps174
  go_upto_region 1 with fail
  go_cut [5, 6] from 7 (fun cv lv w' => ∃ cb lb : Nat, cv = .pointer (some ⟨cb, 0, none⟩) ∧ lv = .pointer (some ⟨lb, 0, none⟩) ∧ w'.heap[cb]? = some (clB c) ∧ w'.heap[lb]? = some (lnB x) ∧ Below w.heap.size w w')
  case first =>
    refine wp_region_held (S := Below w.heap.size w) mixed ?_
    have hb0 : Below w.heap.size w { w with drawn := w.drawn + 1 } := (Below.refl _ _).drew
    generalize ({ w with drawn := w.drawn + 1 } : World) = w0 at *
    have HE0 := hide hb0
    clear hb0
    refine held_take (i := 0) (some 8) rfl rfl (by kernel_rfl) (by kernel_rfl) (by kernel_rfl) (fun _ _ _ h => h) (.inl ⟨by kernel_rfl, fun w' h => by go_simp; rfl⟩) HE0.out ?_
    simp only [Act.put, List.setIfInBounds_toArray, List.set_cons_zero, List.set_cons_succ]
    refine held_take (i := 1) (some 9) rfl rfl (by kernel_rfl) (by kernel_rfl) (by kernel_rfl) (fun _ _ _ h => h) (.inl ⟨by kernel_rfl, fun w' h => by go_simp; rfl⟩) HE0.out ?_
    simp only [Act.put, List.setIfInBounds_toArray, List.set_cons_zero, List.set_cons_succ]
    refine held_take (i := 2) (some 10) rfl rfl (by kernel_rfl) (by kernel_rfl) (by kernel_rfl) (fun _ _ _ h => h) (.inl ⟨by kernel_rfl, fun w' h => by go_simp; rfl⟩) HE0.out ?_
    simp only [Act.put, List.setIfInBounds_toArray, List.set_cons_zero, List.set_cons_succ]
    refine held_take (i := 3) (some 11) rfl rfl (by kernel_rfl) (by kernel_rfl) (by kernel_rfl) (fun _ _ _ h => h) (.inl ⟨by kernel_rfl, fun w' h => by have hc := (h.cell (p := ⟨sb, 2, none⟩) hlts).trans HSA.out.c2; go_simp; rfl⟩) HE0.out ?_
    simp only [Act.put, List.setIfInBounds_toArray, List.set_cons_zero, List.set_cons_succ]
    refine held_take (i := 4) (some 12) rfl rfl (by kernel_rfl) (by kernel_rfl) (by kernel_rfl) (fun _ _ _ h => h) (.inl ⟨by kernel_rfl, fun w' h => by go_simp; rfl⟩) HE0.out ?_
    simp only [Act.put, List.setIfInBounds_toArray, List.set_cons_zero, List.set_cons_succ]
    refine held_take (i := 5) (some 13) rfl rfl (by kernel_rfl) (by kernel_rfl) (by kernel_rfl) (fun _ _ _ h => h) (.inl ⟨by kernel_rfl, fun w' h => by go_simp; rfl⟩) HE0.out ?_
    simp only [Act.put, List.setIfInBounds_toArray, List.set_cons_zero, List.set_cons_succ]
    refine held_take (i := 6) (some 14) rfl rfl (by kernel_rfl) (by kernel_rfl) (by kernel_rfl) (fun _ _ _ h => h) (yieldsIf_load_mid (by kernel_rfl) 135 (.tmp 13) rfl pb (k * 25) (by kernel_rfl) (clCells c).toList _ (fun w' h => fun j v hv => (h.cell (p := ⟨pb, k * 25 + j, none⟩) hltp).trans (HRC.out j v hv)) Tryz.underlying135 rfl (by kernel_rfl)) HE0.out ?_
    simp only [Act.put, List.setIfInBounds_toArray, List.set_cons_zero, List.set_cons_succ]
    refine held_take (i := 7) (some 15) rfl rfl (by kernel_rfl) (by kernel_rfl) (by kernel_rfl) (fun _ _ _ h => h) (.inl ⟨by kernel_rfl, fun w' h => by go_simp; rfl⟩) HE0.out ?_
    simp only [Act.put, List.setIfInBounds_toArray, List.set_cons_zero, List.set_cons_succ]
    refine held_take (i := 8) (some 16) rfl rfl (by kernel_rfl) (by kernel_rfl) (by kernel_rfl) (fun _ _ _ h => h) (.inl ⟨by kernel_rfl, fun w' h => by go_simp; rfl⟩) HE0.out ?_
    simp only [Act.put, List.setIfInBounds_toArray, List.set_cons_zero, List.set_cons_succ]
    refine held_take (i := 9) (some 17) rfl rfl (by kernel_rfl) (by kernel_rfl) (by kernel_rfl) (fun _ _ _ h => h) (.inl ⟨by kernel_rfl, fun w' h => by go_simp; rfl⟩) HE0.out ?_
    simp only [Act.put, List.setIfInBounds_toArray, List.set_cons_zero, List.set_cons_succ]
    refine held_take (i := 10) (some 18) rfl rfl (by kernel_rfl) (by kernel_rfl) (by kernel_rfl) (fun _ _ _ h => h) (.inl ⟨by kernel_rfl, fun w' h => by have hc := (h.cell (p := ⟨sb, 1, none⟩) hlts).trans HSA.out.c1; go_simp; rfl⟩) HE0.out ?_
    simp only [Act.put, List.setIfInBounds_toArray, List.set_cons_zero, List.set_cons_succ]
    refine held_take (i := 11) (some 19) rfl rfl (by kernel_rfl) (by kernel_rfl) (by kernel_rfl) (fun _ _ _ h => h) (.inl ⟨by kernel_rfl, fun w' h => by go_simp; rfl⟩) HE0.out ?_
    simp only [Act.put, List.setIfInBounds_toArray, List.set_cons_zero, List.set_cons_succ]
    refine held_take (i := 12) (some 20) rfl rfl (by kernel_rfl) (by kernel_rfl) (by kernel_rfl) (fun _ _ _ h => h) (.inl ⟨by kernel_rfl, fun w' h => by go_simp; rfl⟩) HE0.out ?_
    simp only [Act.put, List.setIfInBounds_toArray, List.set_cons_zero, List.set_cons_succ]
    refine held_take (i := 13) (some 21) rfl rfl (by kernel_rfl) (by kernel_rfl) (by kernel_rfl) (fun _ _ _ h => h) (yieldsIf_load_mid (by kernel_rfl) 122 (.tmp 20) rfl g (k * 4) (by kernel_rfl) (lnArr x).toList _ (fun w' h => fun j v hv => (h.cell (p := ⟨g, k * 4 + j, none⟩) hltg).trans (HRL.out j v hv)) Tryz.underlying122 rfl (by kernel_rfl)) HE0.out ?_
    simp only [Act.put, List.setIfInBounds_toArray, List.set_cons_zero, List.set_cons_succ]
    simp only [Array.toArray_toList]
    refine wpAnyH_all (rs := [14, 15]) (by kernel_rfl) (by simp) ?_
    intro i hi
    have hi2 : i = 14 ∨ i = 15 := by simpa using hi
    clear hi
    rcases hi2 with rfl | rfl
    · refine wpOp_new (some 5) rfl rfl (by kernel_rfl) (exec_allocCl rfl) ?_
      have hbx : Below w0.heap.size w0 (w0.alloc (clB clNone)) := (Below.refl _ _).alloc (Nat.le_refl _) _
      have hgx := blk_new w0 (clB clNone)
      have hsx : (w0.alloc (clB clNone)).heap.size = w0.heap.size + 1 := World.size_alloc _ _
      generalize w0.alloc (clB clNone) = w1 at *
      have HE1 := hide (HE0.out.trans (hbx.mono HE0.out.size))
      have HC1 := hide hgx
      have hs1 := hsx
      clear hbx hgx hsx
      refine ⟨HE1.out, ?_⟩
      simp only [Act.put, List.setIfInBounds_toArray, List.set_cons_zero, List.set_cons_succ]
      refine wpAnyH_all (rs := [15]) (by kernel_rfl) (by simp) ?_
      intro i hi
      obtain rfl : i = 15 := by simpa using hi
      clear hi
      refine wpOp_new (some 6) rfl rfl (by kernel_rfl) (exec_allocLn rfl) ?_
      have hbx : Below w1.heap.size w1 (w1.alloc (lnB ⟨0, 0, 0, 0⟩)) := (Below.refl _ _).alloc (Nat.le_refl _) _
      have hgx := blk_new w1 (lnB ⟨0, 0, 0, 0⟩)
      have hsx : (w1.alloc (lnB ⟨0, 0, 0, 0⟩)).heap.size = w1.heap.size + 1 := World.size_alloc _ _
      generalize w1.alloc (lnB ⟨0, 0, 0, 0⟩) = w2 at *
      have HE2 := hide (HE1.out.trans (hbx.mono HE1.out.size))
      have HC2 := hide ((hbx.block _ (blk_lt HC1.out)).trans HC1.out)
      have HL2 := hide hgx
      have hs2 := hsx
      clear hbx hgx hsx
      refine ⟨HE2.out, ?_⟩
      simp only [Act.put, List.setIfInBounds_toArray, List.set_cons_zero, List.set_cons_succ]
      have hs0 := HE0.out.size
      refine held_storeCl (i := 16) (.tmp 5) (.tmp 14) (w0.heap.size) (clCells c) _ (by kernel_rfl) rfl (by kernel_rfl) rfl (by kernel_rfl) (by kernel_rfl) HC2.out (cl_size _) (cl_size _) (cl_one _) (below_setG HE2.out (by omega) _) rfl ?_
      intro w3 hw3
      have HE3 : Hid (Below w.heap.size w w3) := hide (by rw [hw3.out]; exact below_setG HE2.out (by omega) _)
      have HC3 : Hid (w3.heap[w0.heap.size]? = some (clB c)) := hide (by rw [hw3.out]; exact setRow_heap _ _ _ _ _ _ HC2.out)
      have HL3 : Hid (w3.heap[w1.heap.size]? = some (lnB ⟨0, 0, 0, 0⟩)) := hide (by rw [hw3.out, setRow_other _ _ _ _ (by omega)]; exact HL2.out)
      clear hw3
      refine held_storeRow (i := 17) 122 (.tmp 6) (.tmp 21) (w1.heap.size) (lnArr x) _ (by kernel_rfl) rfl (by kernel_rfl) rfl (by kernel_rfl) (by kernel_rfl) HL3.out (by kernel_rfl) rfl (by simp [lnArr, Value.oneCell']) (below_setG HE3.out (by omega) _) rfl ?_
      intro w4 hw4
      have HE4 : Hid (Below w.heap.size w w4) := hide (by rw [hw4.out]; exact below_setG HE3.out (by omega) _)
      have HC4 : Hid (w4.heap[w0.heap.size]? = some (clB c)) := hide (by rw [hw4.out, setRow_other _ _ _ _ (by omega)]; exact HC3.out)
      have HL4 : Hid (w4.heap[w1.heap.size]? = some (lnB x)) := hide (by rw [hw4.out]; exact setRow_heap _ _ _ _ _ _ HL3.out)
      clear hw4
      refine wpAnyH_done (by kernel_rfl) ?_ _
      go_wp2_with fail
      go_meet
      case rel => exact ⟨w0.heap.size, w1.heap.size, rfl, rfl, HC4.out, HL4.out, HE4.out⟩
    · refine wpOp_new (some 6) rfl rfl (by kernel_rfl) (exec_allocLn rfl) ?_
      have hbx : Below w0.heap.size w0 (w0.alloc (lnB ⟨0, 0, 0, 0⟩)) := (Below.refl _ _).alloc (Nat.le_refl _) _
      have hgx := blk_new w0 (lnB ⟨0, 0, 0, 0⟩)
      have hsx : (w0.alloc (lnB ⟨0, 0, 0, 0⟩)).heap.size = w0.heap.size + 1 := World.size_alloc _ _
      generalize w0.alloc (lnB ⟨0, 0, 0, 0⟩) = w1 at *
      have HE1 := hide (HE0.out.trans (hbx.mono HE0.out.size))
      have HL1 := hide hgx
      have hs1 := hsx
      clear hbx hgx hsx
      refine ⟨HE1.out, ?_⟩
      simp only [Act.put, List.setIfInBounds_toArray, List.set_cons_zero, List.set_cons_succ]
      refine wpAnyH_all (rs := [14]) (by kernel_rfl) (by simp) ?_
      intro i hi
      obtain rfl : i = 14 := by simpa using hi
      clear hi
      refine wpOp_new (some 5) rfl rfl (by kernel_rfl) (exec_allocCl rfl) ?_
      have hbx : Below w1.heap.size w1 (w1.alloc (clB clNone)) := (Below.refl _ _).alloc (Nat.le_refl _) _
      have hgx := blk_new w1 (clB clNone)
      have hsx : (w1.alloc (clB clNone)).heap.size = w1.heap.size + 1 := World.size_alloc _ _
      generalize w1.alloc (clB clNone) = w2 at *
      have HE2 := hide (HE1.out.trans (hbx.mono HE1.out.size))
      have HL2 := hide ((hbx.block _ (blk_lt HL1.out)).trans HL1.out)
      have HC2 := hide hgx
      have hs2 := hsx
      clear hbx hgx hsx
      refine ⟨HE2.out, ?_⟩
      simp only [Act.put, List.setIfInBounds_toArray, List.set_cons_zero, List.set_cons_succ]
      have hs0 := HE0.out.size
      refine held_storeCl (i := 16) (.tmp 5) (.tmp 14) (w1.heap.size) (clCells c) _ (by kernel_rfl) rfl (by kernel_rfl) rfl (by kernel_rfl) (by kernel_rfl) HC2.out (cl_size _) (cl_size _) (cl_one _) (below_setG HE2.out (by omega) _) rfl ?_
      intro w3 hw3
      have HE3 : Hid (Below w.heap.size w w3) := hide (by rw [hw3.out]; exact below_setG HE2.out (by omega) _)
      have HC3 : Hid (w3.heap[w1.heap.size]? = some (clB c)) := hide (by rw [hw3.out]; exact setRow_heap _ _ _ _ _ _ HC2.out)
      have HL3 : Hid (w3.heap[w0.heap.size]? = some (lnB ⟨0, 0, 0, 0⟩)) := hide (by rw [hw3.out, setRow_other _ _ _ _ (by omega)]; exact HL2.out)
      clear hw3
      refine held_storeRow (i := 17) 122 (.tmp 6) (.tmp 21) (w0.heap.size) (lnArr x) _ (by kernel_rfl) rfl (by kernel_rfl) rfl (by kernel_rfl) (by kernel_rfl) HL3.out (by kernel_rfl) rfl (by simp [lnArr, Value.oneCell']) (below_setG HE3.out (by omega) _) rfl ?_
      intro w4 hw4
      have HE4 : Hid (Below w.heap.size w w4) := hide (by rw [hw4.out]; exact below_setG HE3.out (by omega) _)
      have HC4 : Hid (w4.heap[w1.heap.size]? = some (clB c)) := hide (by rw [hw4.out, setRow_other _ _ _ _ (by omega)]; exact HC3.out)
      have HL4 : Hid (w4.heap[w0.heap.size]? = some (lnB x)) := hide (by rw [hw4.out]; exact setRow_heap _ _ _ _ _ _ HL3.out)
      clear hw4
      refine wpAnyH_done (by kernel_rfl) ?_ _
      go_wp2_with fail
      go_meet
      case rel => exact ⟨w1.heap.size, w0.heap.size, rfl, rfl, HC4.out, HL4.out, HE4.out⟩
  case rest =>
    obtain ⟨cb, lb, rfl, rfl, hC, hL, hB⟩ := hcut
    obtain ⟨W1, hW1⟩ : ∃ W : World, W = wc := ⟨_, rfl⟩
    subst hW1
    have hRw := wordA_range (HSA.out.below hB).tab hrow
    have HSA1 := hide (HSA.out.below hB)
    have HC := hide hC
    have HL := hide hL
    have HB := hide hB
    have HRW := hide hRw
    have hcl := blk_lt hC
    have hll := blk_lt hL
    have hls := HSA1.out.lts
    have hl0 := HSA1.out.lt0
    have hrowI : (i : Int) < 17 := by omega
    have hwd : (lnArr x)[0]? = some (.int .i64 (i : Int)) := by rw [← HWORD.out]; rfl
    have HWD := hide hwd
    clear hC hL hB hRw hwd HSA HRC HRL
    go_upto_region 2 with fail
    go_cut [7] from 8 (fun wv w' => ∃ wb : Nat, wv = .pointer (some ⟨wb, 0, none⟩) ∧ w'.heap[wb]? = some (.cells (wordA s0 i) 140) ∧ Below W1.heap.size W1 w')
    case first =>
      refine wp_region_held (S := Below W1.heap.size W1) mixed ?_
      have hb0 : Below W1.heap.size W1 { W1 with drawn := W1.drawn + 1 } := (Below.refl _ _).drew
      generalize ({ W1 with drawn := W1.drawn + 1 } : World) = w0 at *
      have HE0 := hide hb0
      clear hb0
      refine held_take (i := 0) (some 22) rfl rfl (by kernel_rfl) (by kernel_rfl) (by kernel_rfl) (fun _ _ _ h => h) (.inl ⟨by kernel_rfl, fun w' h => by go_simp; rfl⟩) HE0.out ?_
      simp only [Act.put, List.setIfInBounds_toArray, List.set_cons_zero, List.set_cons_succ]
      refine held_take (i := 1) (some 23) rfl rfl (by kernel_rfl) (by kernel_rfl) (by kernel_rfl) (fun _ _ _ h => h) (.inl ⟨by kernel_rfl, fun w' h => by go_simp; rfl⟩) HE0.out ?_
      simp only [Act.put, List.setIfInBounds_toArray, List.set_cons_zero, List.set_cons_succ]
      refine held_take (i := 2) (some 24) rfl rfl (by kernel_rfl) (by kernel_rfl) (by kernel_rfl) (fun _ _ _ h => h) (.inl ⟨by kernel_rfl, fun w' h => by go_simp; rfl⟩) HE0.out ?_
      simp only [Act.put, List.setIfInBounds_toArray, List.set_cons_zero, List.set_cons_succ]
      refine held_take (i := 3) (some 25) rfl rfl (by kernel_rfl) (by kernel_rfl) (by kernel_rfl) (fun _ _ _ h => h) (.inl ⟨by kernel_rfl, fun w' h => by have hc := (h.cell (p := ⟨sb, 0, none⟩) hls).trans HSA1.out.c0; go_simp; rfl⟩) HE0.out ?_
      simp only [Act.put, List.setIfInBounds_toArray, List.set_cons_zero, List.set_cons_succ]
      refine held_take (i := 4) (some 26) rfl rfl (by kernel_rfl) (by kernel_rfl) (by kernel_rfl) (fun _ _ _ h => h) (.inl ⟨by kernel_rfl, fun w' h => by go_simp; rfl⟩) HE0.out ?_
      simp only [Act.put, List.setIfInBounds_toArray, List.set_cons_zero, List.set_cons_succ]
      refine held_take (i := 5) (some 27) rfl rfl (by kernel_rfl) (by kernel_rfl) (by kernel_rfl) (fun _ _ _ h => h) (.inl ⟨by kernel_rfl, fun w' h => by have hc : w'.cell? ⟨lb, 0, none⟩ = some (.int .i64 (i : Int)) := ((h.cell (p := ⟨lb, 0, none⟩) hll).trans (cell_of_blk HL.out 0)).trans HWD.out; go_simp; rfl⟩) HE0.out ?_
      simp only [Act.put, List.setIfInBounds_toArray, List.set_cons_zero, List.set_cons_succ]
      refine held_take (i := 6) (some 28) rfl rfl (by kernel_rfl) (by kernel_rfl) (by kernel_rfl) (fun _ _ _ h => h) (.inl ⟨by kernel_rfl, fun w' h => by go_simp; rfl⟩) HE0.out ?_
      simp only [Act.put, List.setIfInBounds_toArray, List.set_cons_zero, List.set_cons_succ]
      refine held_take (i := 7) (some 29) rfl rfl (by kernel_rfl) (by kernel_rfl) (by kernel_rfl) (fun _ _ _ h => h) (yieldsIf_load_mid (by kernel_rfl) 140 (.tmp 28) rfl (s0 + 55) (i * 8) (by kernel_rfl) (wordA s0 i).toList _ (fun w' h => fun j v hv => (h.cell (p := ⟨s0 + 55, i * 8 + j, none⟩) (by show s0 + 55 < _; omega)).trans (HRW.out j v hv)) Tryz.underlying140 rfl (by kernel_rfl)) HE0.out ?_
      simp only [Act.put, List.setIfInBounds_toArray, List.set_cons_zero, List.set_cons_succ]
      simp only [Array.toArray_toList]
      refine wpAnyH_all (rs := [8]) (by kernel_rfl) (by simp) ?_
      intro i hi
      obtain rfl : i = 8 := by simpa using hi
      clear hi
      refine wpOp_new (some 7) rfl rfl (by kernel_rfl) (exec_allocWd rfl) ?_
      have hbx : Below w0.heap.size w0 (w0.alloc (.cells #[.string ⟨#[]⟩, .string ⟨#[]⟩, .string ⟨#[]⟩, .bool false, .nilFunc, .nilFunc, .nilFunc, .nilFunc] 140)) := (Below.refl _ _).alloc (Nat.le_refl _) _
      have hgx := blk_new w0 (.cells #[.string ⟨#[]⟩, .string ⟨#[]⟩, .string ⟨#[]⟩, .bool false, .nilFunc, .nilFunc, .nilFunc, .nilFunc] 140)
      have hsx : (w0.alloc (.cells #[.string ⟨#[]⟩, .string ⟨#[]⟩, .string ⟨#[]⟩, .bool false, .nilFunc, .nilFunc, .nilFunc, .nilFunc] 140)).heap.size = w0.heap.size + 1 := World.size_alloc _ _
      generalize w0.alloc (.cells #[.string ⟨#[]⟩, .string ⟨#[]⟩, .string ⟨#[]⟩, .bool false, .nilFunc, .nilFunc, .nilFunc, .nilFunc] 140) = w1 at *
      have HE1 := hide (HE0.out.trans (hbx.mono HE0.out.size))
      have HC1 := hide hgx
      clear hbx hgx hsx
      refine ⟨HE1.out, ?_⟩
      have hs0 := HE0.out.size
      simp only [Act.put, List.setIfInBounds_toArray, List.set_cons_zero, List.set_cons_succ]
      refine held_storeRow (i := 9) 140 (.tmp 7) (.tmp 29) w0.heap.size (wordA s0 i) _ (by kernel_rfl) rfl (by kernel_rfl) rfl (by kernel_rfl) (by kernel_rfl) HC1.out (by kernel_rfl) rfl (wordA_one _ _ hrow) (below_setG HE1.out (by omega) _) rfl ?_
      intro w3 hw3
      have HE3 : Hid (Below W1.heap.size W1 w3) := hide (by rw [hw3.out]; exact below_setG HE1.out (by omega) _)
      have HC3 : Hid (w3.heap[w0.heap.size]? = some (.cells (wordA s0 i) 140)) := hide (by rw [hw3.out]; exact setRow_heap _ _ _ _ _ _ HC1.out)
      clear hw3
      refine wpAnyH_done (by kernel_rfl) ?_ _
      go_wp2_with fail
      go_meet
      case rel => exact ⟨w0.heap.size, rfl, HC3.out, HE3.out⟩
    case rest =>
      obtain ⟨wb, rfl, hD, hB2⟩ := hcut
      have hbw : Below w.heap.size w wc := HB.out.trans (hB2.mono HB.out.size)
      have hC2 := (hB2.block _ hcl).trans HC.out
      have hL2 := (hB2.block _ hll).trans HL.out
      have hT2 := (HSA1.out.below hB2).tab
      have HBW := hide hbw
      have HC2 := hide hC2
      have HL2 := hide hL2
      have HT2 := hide hT2
      have HD := hide hD
      clear hbw hC2 hL2 hT2 hD hB2 HSA1 HC HL HB HRW HWD
      cases hcn : c.never with
      | true =>
        have cn : wc.cell? ⟨cb, 0, none⟩ = some (.bool true) := by rw [cell_of_blk HC2.out 0, cl_never, hcn]
        have hE := HEO.out
        rw [hcn] at hE
        have hE2 : EO = [] := by rw [← hE]; rfl
        subst hE2
        clear hE HEO hcn
        go_wp2
        go_ret
        exact ⟨_, rfl, own_none _ _, HBW.out⟩
      | false =>
        have cn : wc.cell? ⟨cb, 0, none⟩ = some (.bool false) := by rw [cell_of_blk HC2.out 0, cl_never, hcn]
        have HCN := hide hcn
        clear hcn
        go_wp2_with (first | (refine wpList_wantRow 140 (.tmp 7) rfl wb rfl _ _ _ _ HD.out rfl Tryz.underlying140 (by kernel_rfl) (by rfl) ?_) | (refine wpList_wantRow 135 (.tmp 5) rfl cb rfl _ _ _ _ HC2.out rfl Tryz.underlying135 (by kernel_rfl) (by rfl) ?_) | (refine wpList_wantRow 122 (.tmp 6) rfl lb rfl _ _ _ _ HL2.out rfl Tryz.underlying122 (by kernel_rfl) (by rfl) ?_))
        refine (HMET.out c wc HT2.out).mono ?_
        rintro e w1 ⟨rfl, hb1⟩
        have HB1 := hide hb1
        have HC3 := hide ((hb1.block _ (blk_lt HC2.out)).trans HC2.out)
        have HL3 := hide ((hb1.block _ (blk_lt HL2.out)).trans HL2.out)
        have HD3 := hide ((hb1.block _ (blk_lt HD.out)).trans HD.out)
        have HT3 : Hid (Table s0 w1) := hide (HT2.out.mono fun j _ hj => hb1.block j (by have := blk_lt HT2.out.rows; omega))
        have HBW1 := hide (HBW.out.trans (hb1.mono HBW.out.size))
        clear hb1 cn
        cases hm : metW i c x with
        | false =>
          have hE := HEO.out
          rw [HCN.out, hm] at hE
          have hE2 : EO = [] := by rw [← hE]; rfl
          subst hE2
          clear hE HEO hm
          go_wp2
          go_ret
          exact ⟨_, rfl, own_none _ _, HBW1.out⟩
        | true =>
          have hE := HEO.out
          rw [HCN.out, hm] at hE
          have hE2 : EO = exW i k c x := by rw [← hE]; rfl
          subst hE2
          have HM := hide hm
          clear hE HEO hm
          go_wp2_with (first | (refine wpList_load_row rfl 140 (.tmp 7) rfl wb rfl _ _ _ _ HD3.out Tryz.underlying140 rfl (by kernel_rfl) ?_) | (refine wpList_load_row rfl 135 (.tmp 5) rfl cb rfl _ _ _ _ HC3.out Tryz.underlying135 rfl (by kernel_rfl) ?_) | (refine wpList_load_row rfl 122 (.tmp 6) rfl lb rfl _ _ _ _ HL3.out Tryz.underlying122 rfl (by kernel_rfl) ?_))
          refine (HWX.out c w1 k (by omega) HCN.out HM.out HT3.out).mono ?_
          rintro e w2 ⟨v, rfl, hown, hb2⟩
          have HO := hide (ownsRow_low hown (B' := w.heap.size) (by have := HBW1.out.size; omega))
          have HBW2 := hide (HBW1.out.trans (hb2.mono HBW1.out.size))
          clear hown hb2
          go_wp2
          go_ret
          exact ⟨_, rfl, HO.out, HBW2.out⟩

end Go.Proofs.YtngopilbpiplhaaGreatDoor
