/-
  The search in memory; the contract of search.exits.
  Claims held against one another: what the comparison of two claims yields.
  The contracts of slices.Contains over truth values, and of search.count.
  What the round of the search wants of memory and of the plain functions.
-/
import Derived.Test.YtngopilbpiplhaaGreatDoorZClS
import Derived.Test.YtngopilbpiplhaaGreatDoorZClX
import Derived.Test.YtngopilbpiplhaaGreatDoorZClT
import Derived.Test.YtngopilbpiplhaaGreatDoorZWRun
import Derived.Deep.Cut
import Derived.Laws.StructEq
import Derived.ChangeKeysEq
import Derived.Test.YtngopilbpiplhaaGreatDoorZState
namespace Go.Proofs.YtngopilbpiplhaaGreatDoor
open Go.RowKit
set_option linter.unusedVariables false
/-- A row of the table as it is handed over. -/
def wordA (s i : Nat) : Array Value := #[.string ⟨(wName i).toArray⟩, .string ⟨(wParts i).toArray⟩, .string ⟨(wTakes i).toArray⟩, .bool (wFalls i), wDo s i, wNeeds s i, wNext s i, wJump s i]
theorem wordA_one (s i : Nat) (h : i < 17) : (wordA s i).all (·.oneCell') = true := by
  obtain ⟨f4, b4, f5, b5, f6, b6, f7, b7, e4, e5, e6, e7⟩ := row_funcs s h
  unfold wordA
  rw [e4, e5, e6, e7]
  simp [Value.oneCell']
theorem wordA_range {s : Nat} {w : World} (h : Table s w) {i : Nat} (hi : i < 17) : w.rangeAt (s + 55) (i * 8) (wordA s i).toList := by
  obtain ⟨r0, r1, r2, r3, r4, r5, r6, r7⟩ := rowAt h.rows hi
  intro j v hv
  match j, hv with
  | 0, hv => exact (show w.cell? ⟨s + 55, i * 8 + 0, none⟩ = _ from r0).trans hv
  | 1, hv => rw [r1]; exact hv
  | 2, hv => rw [r2]; exact hv
  | 3, hv => rw [r3]; exact hv
  | 4, hv => rw [r4]; exact hv
  | 5, hv => rw [r5]; exact hv
  | 6, hv => rw [r6]; exact hv
  | 7, hv => rw [r7]; exact hv
  | n + 8, hv => simp [wordA] at hv
theorem LinesAt.range {w : World} {g : Nat} {xs : List Ln} (h : LinesAt w g xs) {i : Nat} (hi : i < xs.length) : w.rangeAt g (i * 4) (lnArr xs[i]).toList := by
  obtain ⟨r0, r1, r2, r3⟩ := h.get hi
  intro j v hv
  match j, hv with
  | 0, hv => exact (show w.cell? ⟨g, i * 4 + 0, none⟩ = _ from r0).trans hv
  | 1, hv => rw [r1]; exact hv
  | 2, hv => rw [r2]; exact hv
  | 3, hv => rw [r3]; exact hv
  | n + 4, hv => simp [lnArr] at hv
/-- Ways out, as cells. -/
def exL (l : List (Int × Cl)) : List Value := l.flatMap fun e => exC e.1 e.2
/-- What the search asks of a line: that its word's two closures answer as the plain functions say. -/
structure LineW (s0 : Nat) (x : Ln) : Prop where
  word : x.word = ((x.word.toNat : Nat) : Int)
  row : x.word.toNat < 17
  num : NOk x
  met : ∀ (c : Cl) (w : World), Table s0 w → Calls Tryz.prog 178 #[.agg (wordA s0 x.word.toNat), .agg (clCells c), .agg (lnArr x)] w fun e w' => e = .returned (.bool (metW x.word.toNat c x)) ∧ Below w.heap.size w w'
  ex : ∀ (c : Cl) (w : World) (at_ : Nat), at_ < 1000 → c.never = false → metW x.word.toNat c x = true → POk c → Table s0 w → Calls Tryz.prog 191 #[.agg (wordA s0 x.word.toNat), .int .i64 (at_ : Int), .agg (lnArr x), .agg (clCells c)] w
    fun e w' => ∃ v, e = .returned v ∧ w'.ownsRow (w.heap.size + 3) 243 26 v (exW x.word.toNat at_ c x).length (exL (exW x.word.toNat at_ c x)) ∧ Below w.heap.size w w'
theorem nok_of {s0 : Nat} {xs : List Ln} (hW : ∀ (k : Nat) (x : Ln), xs[k]? = some x → LineW s0 x) : ∀ x ∈ xs, NOk x := fun x hx => by
  obtain ⟨k, hk⟩ := List.getElem?_of_mem hx
  exact (hW k x hk).num
/-- Claims lie in a block. -/
def ClaimsAt (w : World) (pb : Nat) (p : List Cl) : Prop := w.there pb 0 (p.length * 25) ∧ ∀ k c, p[k]? = some c → w.rangeAt pb (k * 25) (clCells c).toList
theorem ClaimsAt.mono {w w' : World} {pb : Nat} {p : List Cl} (h : ClaimsAt w pb p) (hb : w'.heap[pb]? = w.heap[pb]?) : ClaimsAt w' pb p := by
  have hc : ∀ o, w'.cell? ⟨pb, o, none⟩ = w.cell? ⟨pb, o, none⟩ := fun o => World.cell?_of_block hb
  have hf : ∀ o, w'.frozen? ⟨pb, o, none⟩ = w.frozen? ⟨pb, o, none⟩ := fun o => by simp [World.frozen?, hb]
  exact ⟨fun j hj => by rw [hc, hf]; exact h.1 j hj, fun k c hk j v hv => by rw [hc]; exact h.2 k c hk j v hv⟩
/-- The number of changes of line j. -/
def chF (ch : List Int) : Nat → Int := fun j => ch.getD j 0
/-- A search: its four fields, and what they lead to. -/
structure SAt (w : World) (sb s0 g gcap pb hb : Nat) (xs : List Ln) (p : List Cl) (ch : List Int) : Prop where
  c0 : w.cell? ⟨sb, 0, none⟩ = some (.slice (some ⟨s0 + 55, 0, none⟩) 17 17)
  c1 : w.cell? ⟨sb, 1, none⟩ = some (.slice (some ⟨g, 0, none⟩) xs.length gcap)
  c2 : w.cell? ⟨sb, 2, none⟩ = some (.slice (some ⟨pb, 0, none⟩) xs.length xs.length)
  c3 : w.cell? ⟨sb, 3, none⟩ = some (.slice (some ⟨hb, 0, none⟩) xs.length xs.length)
  tab : Table s0 w
  lines : LinesAt w g xs
  claims : ClaimsAt w pb p
  plen : p.length = xs.length
  chg : w.heap[hb]? = some (.cells (arrC xs.length (chF ch)) 3)
  lt0 : s0 + 56 ≤ w.heap.size
  lts : sb < w.heap.size
  ltp : pb < w.heap.size
theorem SAt.ltg {w : World} {sb s0 g gcap pb hb : Nat} {xs : List Ln} {p : List Cl} {ch : List Int} (h : SAt w sb s0 g gcap pb hb xs p ch) : g < w.heap.size := h.lines.lt
theorem SAt.lth {w : World} {sb s0 g gcap pb hb : Nat} {xs : List Ln} {p : List Cl} {ch : List Int} (h : SAt w sb s0 g gcap pb hb xs p ch) : hb < w.heap.size := blk_lt h.chg
theorem SAt.below {w w' : World} {sb s0 g gcap pb hb : Nat} {xs : List Ln} {p : List Cl} {ch : List Int} (h : SAt w sb s0 g gcap pb hb xs p ch) (hb' : Below w.heap.size w w') : SAt w' sb s0 g gcap pb hb xs p ch :=
  ⟨(hb'.cell (p := ⟨sb, 0, none⟩) h.lts).trans h.c0, (hb'.cell (p := ⟨sb, 1, none⟩) h.lts).trans h.c1, (hb'.cell (p := ⟨sb, 2, none⟩) h.lts).trans h.c2, (hb'.cell (p := ⟨sb, 3, none⟩) h.lts).trans h.c3,
   h.tab.mono fun k _ hk => hb'.block k (by have := h.lt0; omega), h.lines.mono (hb'.block _ h.ltg), h.claims.mono (hb'.block _ h.ltp), h.plen, (hb'.block _ h.lth).trans h.chg,
   Nat.le_trans h.lt0 hb'.size, Nat.lt_of_lt_of_le h.lts hb'.size, Nat.lt_of_lt_of_le h.ltp hb'.size⟩
theorem ownsRow_low {w : World} {B B' : Nat} {e : TypeId} {sz n : Nat} {v : Value} {xs : List Value} (h : w.ownsRow B e sz v n xs) (hB : B' ≤ B) : w.ownsRow B' e sz v n xs := by
  obtain ⟨h1, h2 | ⟨g, cap, cur, e1, hg, r⟩⟩ := h
  · exact ⟨h1, .inl h2⟩
  · exact ⟨h1, .inr ⟨g, cap, cur, e1, Nat.le_trans hB hg, r⟩⟩
theorem exec_allocLn {o : Oper} {a : Act} {w : World} (ho : o.op = .alloc 122) : (execOp a.eval o).run Tryz.prog w = .ok (.value (.pointer (some ⟨w.heap.size, 0, none⟩))) (w.alloc (lnB ⟨0, 0, 0, 0⟩)) := by
  unfold execOp
  simp only [ho]
  kernel_rfl
theorem exec_allocWd {o : Oper} {a : Act} {w : World} (ho : o.op = .alloc 140) : (execOp a.eval o).run Tryz.prog w = .ok (.value (.pointer (some ⟨w.heap.size, 0, none⟩))) (w.alloc (.cells #[.string ⟨#[]⟩, .string ⟨#[]⟩, .string ⟨#[]⟩, .bool false, .nilFunc, .nilFunc, .nilFunc, .nilFunc] 140)) := by
  unfold execOp
  simp only [ho]
  kernel_rfl
/-- A store of a row of whatever type. -/
theorem exec_storeRow {o : Oper} {a : Act} {w : World} (ty : TypeId) (x y : Operand) (ho : o.op = .store ty x y) (g : Nat) (SC old : Array Value) (hx : a.eval x = .pointer (some ⟨g, 0, none⟩)) (hy : a.eval y = .agg SC) (hg : w.heap[g]? = some (.cells old ty)) (hi : (Tryz.prog.info? ty).map (·.size) = some SC.size) (hold : old.size = SC.size) (hone : SC.all (·.oneCell') = true) :
    (execOp a.eval o).run Tryz.prog w = .ok .skip (w.setRow g SC) := by
  unfold execOp
  simp only [ho, hx, hy, Instr.storeAt, Instr.sureAddr, Sem.run_bind, Sem.run_pure, Result.andThen_ok, run_storeVar_row (P := Tryz.prog) w g ty ty old SC hg hi hold hone]
theorem held_storeRow {ops : Array Oper} {Q : Exit → Act → World → Prop} {S : World → Prop} {i : Nat} {o : Oper} {a : Act} {w : World} {fuel : Nat} {listed : Array Bool} (ty : TypeId) (x y : Operand) (g : Nat) (SC old : Array Value)
    (hr : Region.ready .any ops listed = [i]) (hi : ops[i]? = some o) (hw : Region.wanted o (yielded ops a.tmps) = true) (ho : o.op = .store ty x y) (hx : a.eval x = .pointer (some ⟨g, 0, none⟩)) (hy : a.eval y = .agg SC)
    (hg : w.heap[g]? = some (.cells old ty)) (hin : (Tryz.prog.info? ty).map (·.size) = some SC.size) (hold : old.size = SC.size) (hone : SC.all (·.oneCell') = true) (hS : S (w.setRow g SC))
    (hd : o.dst = none) (h : ∀ w', Hid (w' = w.setRow g SC) → wpAnyH Tryz.prog .any ops Q S fuel (listed.setIfInBounds i true) a w') : wpAnyH Tryz.prog .any ops Q S (fuel + 1) listed a w :=
  held_skip hr hi hw (exec_storeRow ty x y ho g SC old hx hy hg hin hold hone) hS (by rw [hd]; exact h _ (hide rfl))
theorem below_setG {B g : Nat} {w W : World} (h : Below B w W) (hg : B ≤ g) (cs : Array Value) : Below B w (W.setRow g cs) := h.trans ((keep_setRow' B _ _ _).below hg)
/-- The ways out of a line, by its claim. -/
def exitsOf (x : Ln) (c : Cl) (at_ : Nat) : List (Int × Cl) := if c.never || !metW x.word.toNat c x then [] else exW x.word.toNat at_ c x
set_option maxRecDepth 100000 in
set_option maxHeartbeats 4000000 in
theorem exits_any (sb s0 g gcap pb hb : Nat) (xs : List Ln) (p : List Cl) (ch : List Int) (k : Nat) (w : World) (hn : xs.length ≤ 1000) (hS : SAt w sb s0 g gcap pb hb xs p ch) (x : Ln) (hx : xs[k]? = some x) (c : Cl) (hc : p[k]? = some c) (hok : POk c) (hW : LineW s0 x) :
    Calls Tryz.prog 174 #[.pointer (some ⟨sb, 0, none⟩), .int .i64 (k : Int)] w
      fun e w' => ∃ v, e = .returned v ∧ w'.ownsRow w.heap.size 243 26 v (exitsOf x c k).length (exL (exitsOf x c k)) ∧ Below w.heap.size w w' := by
  obtain ⟨hk, hxk⟩ := List.getElem?_eq_some_iff.1 hx
  have hRc := hS.claims.2 k c hc
  have hRl := hS.lines.range hk
  rw [hxk] at hRl
  have hlts := hS.lts
  have hltp := hS.ltp
  have hltg := hS.ltg
  have hkI : (k : Int) < (xs.length : Int) := by omega
  have hword := hW.word
  have hrow := hW.row
  have hmet := hW.met
  have hex := hW.ex
  unfold exitsOf
  clear hW
  generalize x.word.toNat = i at *
  have HSA := hide hS
  have HMET := hide hmet
  have HWX := hide hex
  have HOK := hide hok
  have HRC := hide hRc
  have HRL := hide hRl
  have HWORD := hide hword
  clear hS hRc hRl hx hc hxk hmet hex hword hok
  generalize hEO : (if c.never || !metW i c x then [] else exW i k c x) = EO
  have HEO := hide hEO
  clear hEO
  go_enter Tryz.func174, Tryz.ntmps174
  go_upto_region 1 with fail
  go_cut [5, 6] from 7 (fun cv lv w' => ∃ cb lb : Nat, cv = .pointer (some ⟨cb, 0, none⟩) ∧ lv = .pointer (some ⟨lb, 0, none⟩) ∧ w'.heap[cb]? = some (clB c) ∧ w'.heap[lb]? = some (lnB x) ∧ Below w.heap.size w w')
  case first =>
    refine wp_region_held (S := Below w.heap.size w) mixed ?_
    have hb0 : Below w.heap.size w { w with drawn := w.drawn + 1 } := (Below.refl _ _).drew
    generalize ({ w with drawn := w.drawn + 1 } : World) = w0 at *
    have HE0 := hide hb0
    clear hb0
    refine hT 0 8 rfl rfl (by kernel_rfl) (fun _ _ _ h => h) (.inl ⟨by kernel_rfl, fun w' h => by go_simp; rfl⟩) HE0.out ?_
    simp only [Act.put, zzA, zzB, zzC]
    refine hT 1 9 rfl rfl (by kernel_rfl) (fun _ _ _ h => h) (.inl ⟨by kernel_rfl, fun w' h => by go_simp; rfl⟩) HE0.out ?_
    simp only [Act.put, zzA, zzB, zzC]
    refine hT 2 10 rfl rfl (by kernel_rfl) (fun _ _ _ h => h) (.inl ⟨by kernel_rfl, fun w' h => by go_simp; rfl⟩) HE0.out ?_
    simp only [Act.put, zzA, zzB, zzC]
    refine hT 3 11 rfl rfl (by kernel_rfl) (fun _ _ _ h => h) (.inl ⟨by kernel_rfl, fun w' h => by have hc := (h.cell (p := ⟨sb, 2, none⟩) hlts).trans HSA.out.c2; go_simp; rfl⟩) HE0.out ?_
    simp only [Act.put, zzA, zzB, zzC]
    refine hT 4 12 rfl rfl (by kernel_rfl) (fun _ _ _ h => h) (.inl ⟨by kernel_rfl, fun w' h => by go_simp; rfl⟩) HE0.out ?_
    simp only [Act.put, zzA, zzB, zzC]
    refine hT 5 13 rfl rfl (by kernel_rfl) (fun _ _ _ h => h) (.inl ⟨by kernel_rfl, fun w' h => by go_simp; rfl⟩) HE0.out ?_
    simp only [Act.put, zzA, zzB, zzC]
    refine hT 6 14 rfl rfl (by kernel_rfl) (fun _ _ _ h => h) (yieldsIf_load_mid (by kernel_rfl) 135 (.tmp 13) rfl pb (k * 25) (by kernel_rfl) (clCells c).toList _ (fun w' h => fun j v hv => (h.cell (p := ⟨pb, k * 25 + j, none⟩) hltp).trans (HRC.out j v hv)) Tryz.underlying135 rfl (by kernel_rfl)) HE0.out ?_
    simp only [Act.put, zzA, zzB, zzC]
    refine hT 7 15 rfl rfl (by kernel_rfl) (fun _ _ _ h => h) (.inl ⟨by kernel_rfl, fun w' h => by go_simp; rfl⟩) HE0.out ?_
    simp only [Act.put, zzA, zzB, zzC]
    refine hT 8 16 rfl rfl (by kernel_rfl) (fun _ _ _ h => h) (.inl ⟨by kernel_rfl, fun w' h => by go_simp; rfl⟩) HE0.out ?_
    simp only [Act.put, zzA, zzB, zzC]
    refine hT 9 17 rfl rfl (by kernel_rfl) (fun _ _ _ h => h) (.inl ⟨by kernel_rfl, fun w' h => by go_simp; rfl⟩) HE0.out ?_
    simp only [Act.put, zzA, zzB, zzC]
    refine hT 10 18 rfl rfl (by kernel_rfl) (fun _ _ _ h => h) (.inl ⟨by kernel_rfl, fun w' h => by have hc := (h.cell (p := ⟨sb, 1, none⟩) hlts).trans HSA.out.c1; go_simp; rfl⟩) HE0.out ?_
    simp only [Act.put, zzA, zzB, zzC]
    refine hT 11 19 rfl rfl (by kernel_rfl) (fun _ _ _ h => h) (.inl ⟨by kernel_rfl, fun w' h => by go_simp; rfl⟩) HE0.out ?_
    simp only [Act.put, zzA, zzB, zzC]
    refine hT 12 20 rfl rfl (by kernel_rfl) (fun _ _ _ h => h) (.inl ⟨by kernel_rfl, fun w' h => by go_simp; rfl⟩) HE0.out ?_
    simp only [Act.put, zzA, zzB, zzC]
    refine hT 13 21 rfl rfl (by kernel_rfl) (fun _ _ _ h => h) (yieldsIf_load_mid (by kernel_rfl) 122 (.tmp 20) rfl g (k * 4) (by kernel_rfl) (lnArr x).toList _ (fun w' h => fun j v hv => (h.cell (p := ⟨g, k * 4 + j, none⟩) hltg).trans (HRL.out j v hv)) Tryz.underlying122 rfl (by kernel_rfl)) HE0.out ?_
    simp only [Act.put, zzA, zzB, zzC]
    simp only [Array.toArray_toList]
    refine wpAnyH_all (rs := [14, 15]) (by kernel_rfl) (by simp) ?_
    intro i hi
    have hi2 : i = 14 ∨ i = 15 := by simpa using hi
    clear hi
    rcases hi2 with rfl | rfl
    · refine wpOp_new (some 5) rfl rfl (by kernel_rfl) (exec_allocCl rfl) ?_
      have hbx : Below w0.heap.size w0 (w0.alloc (clB clNone)) := (Below.refl _ _).alloc (Nat.le_refl _) _
      have hgx := blk_new w0 (clB clNone)
      have hsx : (w0.alloc (clB clNone)).heap.size = w0.heap.size + 1 := World.size_alloc _ _
      generalize w0.alloc (clB clNone) = w1 at *
      have HE1 := hide (HE0.out.trans (hbx.mono HE0.out.size))
      have HC1 := hide hgx
      have hs1 := hsx
      clear hbx hgx hsx
      refine ⟨HE1.out, ?_⟩
      simp only [Act.put, zzA, zzB, zzC]
      refine wpAnyH_all (rs := [15]) (by kernel_rfl) (by simp) ?_
      intro i hi
      obtain rfl : i = 15 := by simpa using hi
      clear hi
      refine wpOp_new (some 6) rfl rfl (by kernel_rfl) (exec_allocLn rfl) ?_
      have hbx : Below w1.heap.size w1 (w1.alloc (lnB ⟨0, 0, 0, 0⟩)) := (Below.refl _ _).alloc (Nat.le_refl _) _
      have hgx := blk_new w1 (lnB ⟨0, 0, 0, 0⟩)
      have hsx : (w1.alloc (lnB ⟨0, 0, 0, 0⟩)).heap.size = w1.heap.size + 1 := World.size_alloc _ _
      generalize w1.alloc (lnB ⟨0, 0, 0, 0⟩) = w2 at *
      have HE2 := hide (HE1.out.trans (hbx.mono HE1.out.size))
      have HC2 := hide ((hbx.block _ (blk_lt HC1.out)).trans HC1.out)
      have HL2 := hide hgx
      have hs2 := hsx
      clear hbx hgx hsx
      refine ⟨HE2.out, ?_⟩
      simp only [Act.put, zzA, zzB, zzC]
      have hs0 := HE0.out.size
      refine held_storeCl (i := 16) (.tmp 5) (.tmp 14) (w0.heap.size) (clCells c) _ (by kernel_rfl) rfl (by kernel_rfl) rfl (by kernel_rfl) (by kernel_rfl) HC2.out (cl_size _) (cl_size _) (cl_one _) (below_setG HE2.out (by omega) _) rfl ?_
      intro w3 hw3
      have HE3 : Hid (Below w.heap.size w w3) := hide (by rw [hw3.out]; exact below_setG HE2.out (by omega) _)
      have HC3 : Hid (w3.heap[w0.heap.size]? = some (clB c)) := hide (by rw [hw3.out]; exact setRow_heap _ _ _ _ _ _ HC2.out)
      have HL3 : Hid (w3.heap[w1.heap.size]? = some (lnB ⟨0, 0, 0, 0⟩)) := hide (by rw [hw3.out, setRow_other _ _ _ _ (by omega)]; exact HL2.out)
      clear hw3
      refine held_storeRow (i := 17) 122 (.tmp 6) (.tmp 21) (w1.heap.size) (lnArr x) _ (by kernel_rfl) rfl (by kernel_rfl) rfl (by kernel_rfl) (by kernel_rfl) HL3.out (by kernel_rfl) rfl (by simp [lnArr, Value.oneCell']) (below_setG HE3.out (by omega) _) rfl ?_
      intro w4 hw4
      have HE4 : Hid (Below w.heap.size w w4) := hide (by rw [hw4.out]; exact below_setG HE3.out (by omega) _)
      have HC4 : Hid (w4.heap[w0.heap.size]? = some (clB c)) := hide (by rw [hw4.out, setRow_other _ _ _ _ (by omega)]; exact HC3.out)
      have HL4 : Hid (w4.heap[w1.heap.size]? = some (lnB x)) := hide (by rw [hw4.out]; exact setRow_heap _ _ _ _ _ _ HL3.out)
      clear hw4
      refine wpAnyH_done (by kernel_rfl) ?_ _
      go_wp2_with fail
      go_meet
      case rel => exact ⟨w0.heap.size, w1.heap.size, rfl, rfl, HC4.out, HL4.out, HE4.out⟩
    · refine wpOp_new (some 6) rfl rfl (by kernel_rfl) (exec_allocLn rfl) ?_
      have hbx : Below w0.heap.size w0 (w0.alloc (lnB ⟨0, 0, 0, 0⟩)) := (Below.refl _ _).alloc (Nat.le_refl _) _
      have hgx := blk_new w0 (lnB ⟨0, 0, 0, 0⟩)
      have hsx : (w0.alloc (lnB ⟨0, 0, 0, 0⟩)).heap.size = w0.heap.size + 1 := World.size_alloc _ _
      generalize w0.alloc (lnB ⟨0, 0, 0, 0⟩) = w1 at *
      have HE1 := hide (HE0.out.trans (hbx.mono HE0.out.size))
      have HL1 := hide hgx
      have hs1 := hsx
      clear hbx hgx hsx
      refine ⟨HE1.out, ?_⟩
      simp only [Act.put, zzA, zzB, zzC]
      refine wpAnyH_all (rs := [14]) (by kernel_rfl) (by simp) ?_
      intro i hi
      obtain rfl : i = 14 := by simpa using hi
      clear hi
      refine wpOp_new (some 5) rfl rfl (by kernel_rfl) (exec_allocCl rfl) ?_
      have hbx : Below w1.heap.size w1 (w1.alloc (clB clNone)) := (Below.refl _ _).alloc (Nat.le_refl _) _
      have hgx := blk_new w1 (clB clNone)
      have hsx : (w1.alloc (clB clNone)).heap.size = w1.heap.size + 1 := World.size_alloc _ _
      generalize w1.alloc (clB clNone) = w2 at *
      have HE2 := hide (HE1.out.trans (hbx.mono HE1.out.size))
      have HL2 := hide ((hbx.block _ (blk_lt HL1.out)).trans HL1.out)
      have HC2 := hide hgx
      have hs2 := hsx
      clear hbx hgx hsx
      refine ⟨HE2.out, ?_⟩
      simp only [Act.put, zzA, zzB, zzC]
      have hs0 := HE0.out.size
      refine held_storeCl (i := 16) (.tmp 5) (.tmp 14) (w1.heap.size) (clCells c) _ (by kernel_rfl) rfl (by kernel_rfl) rfl (by kernel_rfl) (by kernel_rfl) HC2.out (cl_size _) (cl_size _) (cl_one _) (below_setG HE2.out (by omega) _) rfl ?_
      intro w3 hw3
      have HE3 : Hid (Below w.heap.size w w3) := hide (by rw [hw3.out]; exact below_setG HE2.out (by omega) _)
      have HC3 : Hid (w3.heap[w1.heap.size]? = some (clB c)) := hide (by rw [hw3.out]; exact setRow_heap _ _ _ _ _ _ HC2.out)
      have HL3 : Hid (w3.heap[w0.heap.size]? = some (lnB ⟨0, 0, 0, 0⟩)) := hide (by rw [hw3.out, setRow_other _ _ _ _ (by omega)]; exact HL2.out)
      clear hw3
      refine held_storeRow (i := 17) 122 (.tmp 6) (.tmp 21) (w0.heap.size) (lnArr x) _ (by kernel_rfl) rfl (by kernel_rfl) rfl (by kernel_rfl) (by kernel_rfl) HL3.out (by kernel_rfl) rfl (by simp [lnArr, Value.oneCell']) (below_setG HE3.out (by omega) _) rfl ?_
      intro w4 hw4
      have HE4 : Hid (Below w.heap.size w w4) := hide (by rw [hw4.out]; exact below_setG HE3.out (by omega) _)
      have HC4 : Hid (w4.heap[w1.heap.size]? = some (clB c)) := hide (by rw [hw4.out, setRow_other _ _ _ _ (by omega)]; exact HC3.out)
      have HL4 : Hid (w4.heap[w0.heap.size]? = some (lnB x)) := hide (by rw [hw4.out]; exact setRow_heap _ _ _ _ _ _ HL3.out)
      clear hw4
      refine wpAnyH_done (by kernel_rfl) ?_ _
      go_wp2_with fail
      go_meet
      case rel => exact ⟨w1.heap.size, w0.heap.size, rfl, rfl, HC4.out, HL4.out, HE4.out⟩
  case rest =>
    obtain ⟨cb, lb, rfl, rfl, hC, hL, hB⟩ := hcut
    obtain ⟨W1, hW1⟩ : ∃ W : World, W = wc := ⟨_, rfl⟩
    subst hW1
    have hRw := wordA_range (HSA.out.below hB).tab hrow
    have HSA1 := hide (HSA.out.below hB)
    have HC := hide hC
    have HL := hide hL
    have HB := hide hB
    have HRW := hide hRw
    have hcl := blk_lt hC
    have hll := blk_lt hL
    have hls := HSA1.out.lts
    have hl0 := HSA1.out.lt0
    have hrowI : (i : Int) < 17 := by omega
    have hwd : (lnArr x)[0]? = some (.int .i64 (i : Int)) := by rw [← HWORD.out]; rfl
    have HWD := hide hwd
    clear hC hL hB hRw hwd HSA HRC HRL
    go_upto_region 2 with fail
    go_cut [7] from 8 (fun wv w' => ∃ wb : Nat, wv = .pointer (some ⟨wb, 0, none⟩) ∧ w'.heap[wb]? = some (.cells (wordA s0 i) 140) ∧ Below W1.heap.size W1 w')
    case first =>
      refine wp_region_held (S := Below W1.heap.size W1) mixed ?_
      have hb0 : Below W1.heap.size W1 { W1 with drawn := W1.drawn + 1 } := (Below.refl _ _).drew
      generalize ({ W1 with drawn := W1.drawn + 1 } : World) = w0 at *
      have HE0 := hide hb0
      clear hb0
      refine hT 0 22 rfl rfl (by kernel_rfl) (fun _ _ _ h => h) (.inl ⟨by kernel_rfl, fun w' h => by go_simp; rfl⟩) HE0.out ?_
      simp only [Act.put, zzA, zzB, zzC]
      refine hT 1 23 rfl rfl (by kernel_rfl) (fun _ _ _ h => h) (.inl ⟨by kernel_rfl, fun w' h => by go_simp; rfl⟩) HE0.out ?_
      simp only [Act.put, zzA, zzB, zzC]
      refine hT 2 24 rfl rfl (by kernel_rfl) (fun _ _ _ h => h) (.inl ⟨by kernel_rfl, fun w' h => by go_simp; rfl⟩) HE0.out ?_
      simp only [Act.put, zzA, zzB, zzC]
      refine hT 3 25 rfl rfl (by kernel_rfl) (fun _ _ _ h => h) (.inl ⟨by kernel_rfl, fun w' h => by have hc := (h.cell (p := ⟨sb, 0, none⟩) hls).trans HSA1.out.c0; go_simp; rfl⟩) HE0.out ?_
      simp only [Act.put, zzA, zzB, zzC]
      refine hT 4 26 rfl rfl (by kernel_rfl) (fun _ _ _ h => h) (.inl ⟨by kernel_rfl, fun w' h => by go_simp; rfl⟩) HE0.out ?_
      simp only [Act.put, zzA, zzB, zzC]
      refine hT 5 27 rfl rfl (by kernel_rfl) (fun _ _ _ h => h) (.inl ⟨by kernel_rfl, fun w' h => by have hc : w'.cell? ⟨lb, 0, none⟩ = some (.int .i64 (i : Int)) := ((h.cell (p := ⟨lb, 0, none⟩) hll).trans (cell_of_blk HL.out 0)).trans HWD.out; go_simp; rfl⟩) HE0.out ?_
      simp only [Act.put, zzA, zzB, zzC]
      refine hT 6 28 rfl rfl (by kernel_rfl) (fun _ _ _ h => h) (.inl ⟨by kernel_rfl, fun w' h => by go_simp; rfl⟩) HE0.out ?_
      simp only [Act.put, zzA, zzB, zzC]
      refine hT 7 29 rfl rfl (by kernel_rfl) (fun _ _ _ h => h) (yieldsIf_load_mid (by kernel_rfl) 140 (.tmp 28) rfl (s0 + 55) (i * 8) (by kernel_rfl) (wordA s0 i).toList _ (fun w' h => fun j v hv => (h.cell (p := ⟨s0 + 55, i * 8 + j, none⟩) (by show s0 + 55 < _; omega)).trans (HRW.out j v hv)) Tryz.underlying140 rfl (by kernel_rfl)) HE0.out ?_
      simp only [Act.put, zzA, zzB, zzC]
      simp only [Array.toArray_toList]
      refine wpAnyH_all (rs := [8]) (by kernel_rfl) (by simp) ?_
      intro i hi
      obtain rfl : i = 8 := by simpa using hi
      clear hi
      refine wpOp_new (some 7) rfl rfl (by kernel_rfl) (exec_allocWd rfl) ?_
      have hbx : Below w0.heap.size w0 (w0.alloc (.cells #[.string ⟨#[]⟩, .string ⟨#[]⟩, .string ⟨#[]⟩, .bool false, .nilFunc, .nilFunc, .nilFunc, .nilFunc] 140)) := (Below.refl _ _).alloc (Nat.le_refl _) _
      have hgx := blk_new w0 (.cells #[.string ⟨#[]⟩, .string ⟨#[]⟩, .string ⟨#[]⟩, .bool false, .nilFunc, .nilFunc, .nilFunc, .nilFunc] 140)
      have hsx : (w0.alloc (.cells #[.string ⟨#[]⟩, .string ⟨#[]⟩, .string ⟨#[]⟩, .bool false, .nilFunc, .nilFunc, .nilFunc, .nilFunc] 140)).heap.size = w0.heap.size + 1 := World.size_alloc _ _
      generalize w0.alloc (.cells #[.string ⟨#[]⟩, .string ⟨#[]⟩, .string ⟨#[]⟩, .bool false, .nilFunc, .nilFunc, .nilFunc, .nilFunc] 140) = w1 at *
      have HE1 := hide (HE0.out.trans (hbx.mono HE0.out.size))
      have HC1 := hide hgx
      clear hbx hgx hsx
      refine ⟨HE1.out, ?_⟩
      have hs0 := HE0.out.size
      simp only [Act.put, zzA, zzB, zzC]
      refine held_storeRow (i := 9) 140 (.tmp 7) (.tmp 29) w0.heap.size (wordA s0 i) _ (by kernel_rfl) rfl (by kernel_rfl) rfl (by kernel_rfl) (by kernel_rfl) HC1.out (by kernel_rfl) rfl (wordA_one _ _ hrow) (below_setG HE1.out (by omega) _) rfl ?_
      intro w3 hw3
      have HE3 : Hid (Below W1.heap.size W1 w3) := hide (by rw [hw3.out]; exact below_setG HE1.out (by omega) _)
      have HC3 : Hid (w3.heap[w0.heap.size]? = some (.cells (wordA s0 i) 140)) := hide (by rw [hw3.out]; exact setRow_heap _ _ _ _ _ _ HC1.out)
      clear hw3
      refine wpAnyH_done (by kernel_rfl) ?_ _
      go_wp2_with fail
      go_meet
      case rel => exact ⟨w0.heap.size, rfl, HC3.out, HE3.out⟩
    case rest =>
      obtain ⟨wb, rfl, hD, hB2⟩ := hcut
      have hbw : Below w.heap.size w wc := HB.out.trans (hB2.mono HB.out.size)
      have hC2 := (hB2.block _ hcl).trans HC.out
      have hL2 := (hB2.block _ hll).trans HL.out
      have hT2 := (HSA1.out.below hB2).tab
      have HBW := hide hbw
      have HC2 := hide hC2
      have HL2 := hide hL2
      have HT2 := hide hT2
      have HD := hide hD
      clear hbw hC2 hL2 hT2 hD hB2 HSA1 HC HL HB HRW HWD
      cases hcn : c.never with
      | true =>
        have cn : wc.cell? ⟨cb, 0, none⟩ = some (.bool true) := by rw [cell_of_blk HC2.out 0, cl_never, hcn]
        have hE := HEO.out
        rw [hcn] at hE
        have hE2 : EO = [] := by rw [← hE]; rfl
        subst hE2
        clear hE HEO hcn
        go_wp2
        go_ret
        exact ⟨_, rfl, own_none _ _, HBW.out⟩
      | false =>
        have cn : wc.cell? ⟨cb, 0, none⟩ = some (.bool false) := by rw [cell_of_blk HC2.out 0, cl_never, hcn]
        have HCN := hide hcn
        clear hcn
        go_wp2_with (first | (refine wpList_wantRow 140 (.tmp 7) rfl wb rfl _ _ _ _ HD.out rfl Tryz.underlying140 (by kernel_rfl) (by rfl) ?_) | (refine wpList_wantRow 135 (.tmp 5) rfl cb rfl _ _ _ _ HC2.out rfl Tryz.underlying135 (by kernel_rfl) (by rfl) ?_) | (refine wpList_wantRow 122 (.tmp 6) rfl lb rfl _ _ _ _ HL2.out rfl Tryz.underlying122 (by kernel_rfl) (by rfl) ?_))
        refine (HMET.out c wc HT2.out).mono ?_
        rintro e w1 ⟨rfl, hb1⟩
        have HB1 := hide hb1
        have HC3 := hide ((hb1.block _ (blk_lt HC2.out)).trans HC2.out)
        have HL3 := hide ((hb1.block _ (blk_lt HL2.out)).trans HL2.out)
        have HD3 := hide ((hb1.block _ (blk_lt HD.out)).trans HD.out)
        have HT3 : Hid (Table s0 w1) := hide (HT2.out.mono fun j _ hj => hb1.block j (by have := blk_lt HT2.out.rows; omega))
        have HBW1 := hide (HBW.out.trans (hb1.mono HBW.out.size))
        clear hb1 cn
        cases hm : metW i c x with
        | false =>
          have hE := HEO.out
          rw [HCN.out, hm] at hE
          have hE2 : EO = [] := by rw [← hE]; rfl
          subst hE2
          clear hE HEO hm
          go_wp2
          go_ret
          exact ⟨_, rfl, own_none _ _, HBW1.out⟩
        | true =>
          have hE := HEO.out
          rw [HCN.out, hm] at hE
          have hE2 : EO = exW i k c x := by rw [← hE]; rfl
          subst hE2
          have HM := hide hm
          clear hE HEO hm
          go_wp2_with (first | (refine wpList_load_row rfl 140 (.tmp 7) rfl wb rfl _ _ _ _ HD3.out Tryz.underlying140 rfl (by kernel_rfl) ?_) | (refine wpList_load_row rfl 135 (.tmp 5) rfl cb rfl _ _ _ _ HC3.out Tryz.underlying135 rfl (by kernel_rfl) ?_) | (refine wpList_load_row rfl 122 (.tmp 6) rfl lb rfl _ _ _ _ HL3.out Tryz.underlying122 rfl (by kernel_rfl) ?_))
          refine (HWX.out c w1 k (by omega) HCN.out HM.out HOK.out HT3.out).mono ?_
          rintro e w2 ⟨v, rfl, hown, hb2⟩
          have HO := hide (ownsRow_low hown (B' := w.heap.size) (by have := HBW1.out.size; omega))
          have HBW2 := hide (HBW1.out.trans (hb2.mono HBW1.out.size))
          clear hown hb2
          go_wp2
          go_ret
          exact ⟨_, rfl, HO.out, HBW2.out⟩
end Go.Proofs.YtngopilbpiplhaaGreatDoor

namespace Go.Proofs.YtngopilbpiplhaaGreatDoor
open Go.RowKit
theorem eqItems_all {P : Program} (w : World) (d : Nat) (e : TypeId) (c : Nat) (xs ys : Array Value) (r : Nat → Bool) : ∀ (is : List Nat),
    (∀ i ∈ is, ∃ a b, (part e xs (i * c)).run P w = .ok a w ∧ (part e ys (i * c)).run P w = .ok b w ∧ (Op.equalIn d e a b).run P w = .ok (r i) w) → (Op.eqItems d e c xs ys is).run P w = .ok (is.all r) w
  | [], _ => by simp [Op.eqItems]
  | i :: is, h => by
    obtain ⟨a, b, h1, h2, h3⟩ := h i (by simp)
    have ih := eqItems_all w d e c xs ys r is fun j hj => h j (by simp [hj])
    simp only [Op.eqItems, Sem.run_bind, h1, h2, h3, Result.andThen_ok, List.all_cons]
    cases hr : r i
    · simp
    · simpa using ih
theorem spFields : (Tryz.prog.fieldsOf 132).toList.map (fun f => (f.name, f.type, f.offset)) = [("Low", 2, 0), ("High", 2, 1)] := by kernel_rfl
theorem clFields : (Tryz.prog.fieldsOf 135).toList.map (fun f => (f.name, f.type, f.offset)) = [("Never", 4, 0), ("has", 130, 1), ("spans", 133, 9)] := by kernel_rfl
/-- Two lists, place by place. -/
def Each {α β : Type} (p : α → β → Prop) : List α → List β → Prop
  | [], [] => True
  | a :: l, b :: m => p a b ∧ Each p l m
  | _, _ => False
theorem eqFields_of {P : Program} (w : World) (d : Nat) (xs ys : Array Value) : ∀ (fs : List Field) (gs : List (String × TypeId × Nat)) (rs : List Bool), fs.map (fun f => (f.name, f.type, f.offset)) = gs → (∀ g ∈ gs, g.1 ≠ "_") →
    Each (fun (g : String × TypeId × Nat) (r : Bool) => ∃ a b, (part g.2.1 xs g.2.2).run P w = .ok a w ∧ (part g.2.1 ys g.2.2).run P w = .ok b w ∧ (Op.equalIn d g.2.1 a b).run P w = .ok r w) gs rs →
    (Op.eqFields d xs ys fs).run P w = .ok (rs.all id) w := by
  intro fs
  induction fs with
  | nil =>
    intro gs rs hg _ h
    subst hg
    match rs, h with
    | [], _ => simp [Op.eqFields]
    | _ :: _, h => exact absurd h id
  | cons f fs ih =>
    intro gs rs hg hn h
    subst hg
    match rs, h with
    | [], h => exact absurd h id
    | r :: rs, ⟨⟨a, b, p1, p2, p3⟩, h2⟩ =>
      have hf : f.name ≠ "_" := hn (f.name, f.type, f.offset) (by simp)
      replace p1 : (part f.type xs f.offset).run P w = .ok a w := p1
      replace p2 : (part f.type ys f.offset).run P w = .ok b w := p2
      replace p3 : (Op.equalIn d f.type a b).run P w = .ok r w := p3
      have ih2 := ih _ rs rfl (fun g hg => hn g (by simp at hg ⊢; exact .inr hg)) h2
      simp only [Op.eqFields, hf, ne_eq, not_false_eq_true, if_true, Sem.run_bind, p1, p2, p3, Result.andThen_ok, List.all_cons, id]
      cases r
      · simp
      · simpa using ih2
theorem eqSpan (w : World) (d : Nat) (a b c e : Int) : (Op.equalIn (d + 2) 132 (spC a b) (spC c e)).run Tryz.prog w = .ok (a == c && b == e) w := by
  rw [run_equalIn_struct w (d + 1) 132 _ _ (by kernel_rfl) (by kernel_rfl)]
  rw [eqFields_of w (d + 1) _ _ _ _ [a == c, b == e] spFields (by simp) ⟨⟨.int .i64 a, .int .i64 c, by kernel_rfl, by kernel_rfl, run_equalIn_int w d _ _ .i64 _ _ Tryz.underlying2⟩, ⟨.int .i64 b, .int .i64 e, by kernel_rfl, by kernel_rfl, run_equalIn_int w d _ _ .i64 _ _ Tryz.underlying2⟩, trivial⟩]
  simp
/-- A claim's truth values, its spans. -/
def hasA (c : Cl) : Array Value := #[.bool (c.has 0), .bool (c.has 1), .bool (c.has 2), .bool (c.has 3), .bool (c.has 4), .bool (c.has 5), .bool (c.has 6), .bool (c.has 7)]
def spansA (c : Cl) : Array Value := #[.int .i64 (c.lo 0), .int .i64 (c.hi 0), .int .i64 (c.lo 1), .int .i64 (c.hi 1), .int .i64 (c.lo 2), .int .i64 (c.hi 2), .int .i64 (c.lo 3), .int .i64 (c.hi 3),
  .int .i64 (c.lo 4), .int .i64 (c.hi 4), .int .i64 (c.lo 5), .int .i64 (c.hi 5), .int .i64 (c.lo 6), .int .i64 (c.hi 6), .int .i64 (c.lo 7), .int .i64 (c.hi 7)]
theorem part_has (c : Cl) (w : World) : (part 130 (clCells c) 1).run Tryz.prog w = .ok (.agg (hasA c)) w := by kernel_rfl
theorem part_spans (c : Cl) (w : World) : (part 133 (clCells c) 9).run Tryz.prog w = .ok (.agg (spansA c)) w := by kernel_rfl
theorem part_never (c : Cl) (w : World) : (part 4 (clCells c) 0).run Tryz.prog w = .ok (.bool c.never) w := by kernel_rfl
theorem part_has1 (c : Cl) (w : World) (i : Nat) (h : i < 8) : (part 4 (hasA c) (i * 1)).run Tryz.prog w = .ok (.bool (c.has i)) w :=
  lt8' (p := fun i => (part 4 (hasA c) (i * 1)).run Tryz.prog w = .ok (.bool (c.has i)) w) (by kernel_rfl) (by kernel_rfl) (by kernel_rfl) (by kernel_rfl) (by kernel_rfl) (by kernel_rfl) (by kernel_rfl) (by kernel_rfl) i h
theorem part_span1 (c : Cl) (w : World) (i : Nat) (h : i < 8) : (part 132 (spansA c) (i * 2)).run Tryz.prog w = .ok (spC (c.lo i) (c.hi i)) w :=
  lt8' (p := fun i => (part 132 (spansA c) (i * 2)).run Tryz.prog w = .ok (spC (c.lo i) (c.hi i)) w) (by kernel_rfl) (by kernel_rfl) (by kernel_rfl) (by kernel_rfl) (by kernel_rfl) (by kernel_rfl) (by kernel_rfl) (by kernel_rfl) i h
theorem cellsB : Tryz.prog.cellsOf 4 = 1 := by kernel_rfl
theorem cellsS : Tryz.prog.cellsOf 132 = 2 := by kernel_rfl
theorem infoB : ∃ i, Tryz.prog.info? 4 = some i := by
  have h : (Tryz.prog.info? 4).isSome = true := by kernel_rfl
  exact Option.isSome_iff_exists.1 h
theorem infoS : ∃ i, Tryz.prog.info? 132 = some i := by
  have h : (Tryz.prog.info? 132).isSome = true := by kernel_rfl
  exact Option.isSome_iff_exists.1 h
theorem clEq_split (a b : Cl) : ((a.never == b.never) && ((List.range 8).all (fun i => a.has i == b.has i) && ((List.range 8).all (fun i => a.lo i == b.lo i && a.hi i == b.hi i)))) = clEq a b := by
  unfold clEq
  rw [Bool.eq_iff_iff]
  simp only [Bool.and_eq_true, List.all_eq_true, beq_iff_eq]
  constructor
  · rintro ⟨h1, h2, h3⟩
    exact ⟨h1, fun x hx => ⟨⟨h2 x hx, (h3 x hx).1⟩, (h3 x hx).2⟩⟩
  · rintro ⟨h1, h2⟩
    exact ⟨h1, fun x hx => (h2 x hx).1.1, fun x hx => ⟨(h2 x hx).1.2, (h2 x hx).2⟩⟩
set_option maxRecDepth 100000 in
/-- Two claims compared with '!='. -/
theorem run_neqCl (a b : Cl) (w : World) : (binOp .neq 135 (.agg (clCells a)) (.agg (clCells b))).run Tryz.prog w = .ok (.bool (!clEq a b)) w := by
  obtain ⟨ib, hib⟩ := infoB
  obtain ⟨is, his⟩ := infoS
  have hH : (Op.equalIn 9999 130 (.agg (hasA a)) (.agg (hasA b))).run Tryz.prog w = .ok ((List.range 8).all fun i => a.has i == b.has i) w := by
    rw [run_equalIn_array w 9998 _ _ Tryz.underlying130 hib, cellsB]
    exact eqItems_all w 9998 _ 1 _ _ (fun i => a.has i == b.has i) _ fun i hi => ⟨_, _, part_has1 a w i (by simpa using hi), part_has1 b w i (by simpa using hi), run_equalIn_bool' w 9997 _ _ _ Tryz.underlying4⟩
  have hS : (Op.equalIn 9999 133 (.agg (spansA a)) (.agg (spansA b))).run Tryz.prog w = .ok ((List.range 8).all fun i => a.lo i == b.lo i && a.hi i == b.hi i) w := by
    rw [run_equalIn_array w 9998 _ _ Tryz.underlying133 his, cellsS]
    exact eqItems_all w 9998 _ 2 _ _ (fun i => a.lo i == b.lo i && a.hi i == b.hi i) _ fun i hi => ⟨_, _, part_span1 a w i (by simpa using hi), part_span1 b w i (by simpa using hi), eqSpan w 9996 _ _ _ _⟩
  rw [run_neq_struct, run_equalIn_struct w 9999 135 _ _ (by kernel_rfl) (by kernel_rfl)]
  rw [eqFields_of w 9999 _ _ _ _ [a.never == b.never, (List.range 8).all (fun i => a.has i == b.has i), (List.range 8).all (fun i => a.lo i == b.lo i && a.hi i == b.hi i)] clFields (by simp)
    ⟨⟨_, _, part_never a w, part_never b w, run_equalIn_bool' w 9998 _ _ _ Tryz.underlying4⟩, ⟨_, _, part_has a w, part_has b w, hH⟩, ⟨_, _, part_spans a w, part_spans b w, hS⟩, trivial⟩]
  simp only [Result.andThen_ok, List.all_cons, List.all_nil, id, Bool.and_true, clEq_split]
end Go.Proofs.YtngopilbpiplhaaGreatDoor

namespace Go.Proofs.YtngopilbpiplhaaGreatDoor
open Go.RowKit
theorem any_of {bs : List Bool} {k : Nat} (h : k < bs.length) (hb : bs.getD k false = true) : bs.any id = true := by
  rw [List.any_eq_true]
  refine ⟨bs[k], List.getElem_mem h, ?_⟩
  simpa [List.getD_eq_getElem?_getD, h] using hb
theorem any_none {bs : List Bool} (h : ∀ j, j < bs.length → bs.getD j false = false) : bs.any id = false := by
  rw [List.any_eq_false]
  intro x hx
  obtain ⟨j, hj, e⟩ := List.getElem_of_mem hx
  have := h j hj
  simp [List.getD_eq_getElem?_getD, hj, e] at this
  simp [this]
set_option maxRecDepth 100000 in
set_option maxHeartbeats 2000000 in
theorem Index_any (bs : List Bool) (g cap : Nat) (w : World) (hl : bs.length ≤ 1000) (hc : ∀ j, j < bs.length → w.cell? ⟨g, j, none⟩ = some (.bool (bs.getD j false))) :
    Calls Tryz.prog 190 #[.slice (some ⟨g, 0, none⟩) bs.length cap, .bool true] w fun e w' => ∃ i : Int, e = .returned (.int .i64 i) ∧ decide (0 ≤ i) = bs.any id ∧ w' = w := by
  have HC := hide hc
  clear hc
  go_enter Tryz.func190, Tryz.ntmps190
  go_wp2_with fail
  go_loopw [8] (fun iv w' => ∃ k : Nat, k ≤ bs.length ∧ iv = .int .i64 k ∧ (∀ j, j < k → bs.getD j false = false) ∧ w' = w) (fun iv _ => bs.length - (intOf iv).toNat)
  case atStart => exact ⟨0, by omega, rfl, fun j h => absurd h (by omega), rfl⟩
  case round =>
    obtain ⟨k, hk, rfl, hno, rfl⟩ := hrel
    have HN := hide hno
    clear hno
    by_cases hlt : k < bs.length
    · have hcell := HC.out k hlt
      have hltI : (k : Int) < (bs.length : Int) := by omega
      cases hb : bs.getD k false with
      | true =>
        rw [hb] at hcell
        have HA := hide (any_of hlt hb)
        clear hb
        go_wp2
        go_ret
        exact ⟨_, rfl, by rw [HA.out]; simp, rfl⟩
      | false =>
        rw [hb] at hcell
        have HB := hide hb
        clear hb
        go_wp2
        go_roundw
        case rel =>
          refine ⟨k + 1, by omega, by go_num, fun j hj => ?_, by trivial⟩
          rcases Nat.lt_succ_iff_lt_or_eq.1 hj with h | h
          · exact HN.out j h
          · rw [h]; exact HB.out
        case measure => simp [intOf]; omega
    · obtain rfl : k = bs.length := by omega
      have HA := hide (any_none HN.out)
      go_wp2
      go_ret
      exact ⟨_, rfl, by rw [HA.out]; simp, rfl⟩
set_option maxRecDepth 100000 in
set_option maxHeartbeats 2000000 in
theorem Contains_any (bs : List Bool) (g cap : Nat) (w : World) (hl : bs.length ≤ 1000) (hc : ∀ j, j < bs.length → w.cell? ⟨g, j, none⟩ = some (.bool (bs.getD j false))) :
    Calls Tryz.prog 177 #[.slice (some ⟨g, 0, none⟩) bs.length cap, .bool true] w fun e w' => e = .returned (.bool (bs.any id)) ∧ w' = w := by
  have HI := hide (Index_any bs g cap w hl hc)
  clear hc
  go_enter Tryz.func177, Tryz.ntmps177
  go_wp2_with fail
  refine HI.out.mono ?_
  rintro e w1 ⟨i, rfl, hi, rfl⟩
  have HD := hide hi
  clear hi
  go_wp2
  go_ret
  refine ⟨?_, rfl⟩
  rw [← HD.out]
  rfl
end Go.Proofs.YtngopilbpiplhaaGreatDoor

namespace Go.Proofs.YtngopilbpiplhaaGreatDoor
open Go.RowKit
set_option linter.unusedVariables false
/-- Below block number B all but the blocks b and c is as it was. -/
structure Keep2 (B b c : Nat) (w w' : World) : Prop where
  os : w'.os = w.os
  tape : w'.tape = w.tape
  output : w'.output = w.output
  size : w.heap.size ≤ w'.heap.size
  block : ∀ k, k < B → k ≠ b → k ≠ c → w'.heap[k]? = w.heap[k]?
theorem Keep2.refl (B b c : Nat) (w : World) : Keep2 B b c w w := ⟨rfl, rfl, rfl, Nat.le_refl _, fun _ _ _ _ => rfl⟩
theorem Keep2.trans {B b c : Nat} {u v w : World} (h : Keep2 B b c u v) (k : Keep2 B b c v w) : Keep2 B b c u w :=
  ⟨k.os.trans h.os, k.tape.trans h.tape, k.output.trans h.output, Nat.le_trans h.size k.size, fun i hi hb hc => (k.block i hi hb hc).trans (h.block i hi hb hc)⟩
theorem Keep2.of_below {B b c : Nat} {w w' : World} (h : Below B w w') : Keep2 B b c w w' := ⟨h.os, h.tape, h.output, h.size, fun k hk _ _ => h.block k hk⟩
theorem Keep2.mono {B B' b c : Nat} {w w' : World} (h : Keep2 B b c w w') (hB : B' ≤ B) : Keep2 B' b c w w' := ⟨h.os, h.tape, h.output, h.size, fun k hk hb hc => h.block k (by omega) hb hc⟩
theorem Keep2.cell {B b c : Nat} {w w' : World} (h : Keep2 B b c w w') {p : Addr} (hp : p.block < B) (hb : p.block ≠ b) (hc : p.block ≠ c) : w'.cell? p = w.cell? p := World.cell?_of_block (w := w) (h.block p.block hp hb hc)
/-- Where c lies beyond B, one block is enough. -/
theorem Keep2.keep {B b c : Nat} {w w' : World} (h : Keep2 B b c w w') (hc : B ≤ c) : Keep B b w w' := ⟨h.os, h.tape, h.output, h.size, fun k hk hb => h.block k hk hb (by omega)⟩
theorem Keep2.of_keep {B b c : Nat} {w w' : World} (h : Keep B b w w') : Keep2 B b c w w' := ⟨h.os, h.tape, h.output, h.size, fun k hk hb _ => h.block k hk hb⟩
theorem Keep2.of_keep' {B b c : Nat} {w w' : World} (h : Keep B c w w') : Keep2 B b c w w' := ⟨h.os, h.tape, h.output, h.size, fun k hk _ hc => h.block k hk hc⟩
theorem keep_setCells (B b : Nat) : ∀ (vs : List Value) (o : Nat) (w : World), Keep B b w (w.setCells b o vs)
  | [], _, w => Keep.refl _ _ _
  | v :: r, o, w => (((Keep.refl B b w).setCell (p := ⟨b, o, none⟩) (.inr rfl) v).trans (keep_setCells B b r (o + 1) _))
theorem setCells_size (b : Nat) : ∀ (vs : List Value) (o : Nat) (w : World), (w.setCells b o vs).heap.size = w.heap.size
  | [], _, w => rfl
  | v :: r, o, w => by rw [World.setCells, setCells_size b r, World.size_setCell]
theorem ClaimsAt.there {w : World} {pb : Nat} {p : List Cl} (h : ClaimsAt w pb p) {t : Nat} (ht : t < p.length) : w.there pb (t * 25) 25 := fun j hj => by
  have := h.1 (t * 25 + j) (by omega)
  rwa [Nat.zero_add] at this
theorem ClaimsAt.set {w : World} {pb : Nat} {p : List Cl} (h : ClaimsAt w pb p) {t : Nat} (ht : t < p.length) (c d : Cl) (he : clCells d = clCells c) : ClaimsAt (w.setCells pb (t * 25) (clCells c).toList) pb (p.set t d) := by
  refine ⟨by rw [List.length_set]; exact World.there_setCells h.1 _ _ _, fun k e hk => ?_⟩
  have hl : (clCells c).toList.length = 25 := rfl
  by_cases e1 : k = t
  · subst e1
    rw [List.getElem?_set_self ht] at hk
    cases hk
    rw [he]
    exact World.rangeAt_setCells_same w pb _ _ (by rw [hl]; exact h.there ht)
  · rw [List.getElem?_set_ne (by omega)] at hk
    refine World.rangeAt_setCells_apart (h.2 k e hk) pb _ _ (.inr ?_)
    have : (clCells e).toList.length = 25 := rfl
    rw [hl, this]
    rcases Nat.lt_or_gt_of_ne e1 with q | q
    · exact .inl (by omega)
    · exact .inr (by omega)
/-- Truth values as cells. -/
def boolsA (bs : List Bool) : Array Value := (bs.map Value.bool).toArray
theorem made_bools (n : Nat) : madeCells #[.bool false] n = boolsA (List.replicate n false) := by
  apply Array.ext_getElem?
  intro j
  simp only [madeCells, boolsA, Array.getElem?_map, List.getElem?_toArray, List.getElem?_map, List.getElem?_replicate]
  by_cases h : j < n
  · rw [Array.getElem?_range, if_pos h, if_pos h]
    simp [Nat.mod_one]
  · rw [Array.getElem?_range, if_neg h, if_neg h]
    rfl
theorem bools_get (bs : List Bool) {j : Nat} (h : j < bs.length) : (boolsA bs)[j]? = some (.bool (bs.getD j false)) := by
  simp [boolsA, h]
theorem bools_set (bs : List Bool) (j : Nat) (b : Bool) : (boolsA bs).setIfInBounds j (.bool b) = boolsA (bs.set j b) := by
  simp [boolsA]
theorem exitsF_of {xs : List Ln} {p : List Cl} {k : Nat} {x : Ln} {c : Cl} (hx : xs[k]? = some x) (hc : p[k]? = some c) : exitsF xs p k = exitsOf x c k := by
  unfold exitsF exitsOf
  rw [hx, hc]
theorem clEq_nrm (c d : Cl) : clEq (nrm c) d = clEq c d := by
  simp only [clEq, List.range, List.range.loop, List.all_cons, List.all_nil]
  rfl
theorem visit_same {ch : List Int} {k t : Nat} {p : List Cl} {bs : List Bool} {ec was : Cl} (hw : p[t]? = some was) (h : clEq (joinAt k t was ec (chF ch t)) was = true) : visit ch k (p, bs) ((t : Int), ec) = (p, bs) := by
  have e1 : (t : Int).toNat = t := by simp
  have e2 : p.getD t clNone = was := by rw [List.getD_eq_getElem?_getD, hw]; rfl
  unfold visit
  dsimp only
  rw [e1, e2, clEq_nrm, if_pos (by unfold chF at h; exact h)]
theorem visit_new {ch : List Int} {k t : Nat} {p : List Cl} {bs : List Bool} {ec was : Cl} (hw : p[t]? = some was) (h : clEq (joinAt k t was ec (chF ch t)) was = false) : visit ch k (p, bs) ((t : Int), ec) = (p.set t (nrm (joinAt k t was ec (chF ch t))), bs.set t true) := by
  have e1 : (t : Int).toNat = t := by simp
  have e2 : p.getD t clNone = was := by rw [List.getD_eq_getElem?_getD, hw]; rfl
  unfold visit
  dsimp only
  rw [e1, e2, clEq_nrm, if_neg (by unfold chF at h; rw [h]; simp)]
  rfl
theorem visit_len (ch : List Int) (k : Nat) (st : List Cl × List Bool) (e : Int × Cl) : (visit ch k st e).1.length = st.1.length ∧ (visit ch k st e).2.length = st.2.length := by
  unfold visit
  dsimp only
  split <;> simp
theorem fold_take {α β : Type} (f : β → α → β) (es : List α) (s : β) (j : Nat) (h : j < es.length) : (es.take (j + 1)).foldl f s = f ((es.take j).foldl f s) es[j] := by
  rw [List.take_succ_eq_append_getElem h, List.foldl_append]
  rfl
theorem fold_range {β : Type} (f : β → Nat → β) (s : β) (k : Nat) : (List.range (k + 1)).foldl f s = f ((List.range k).foldl f s) k := by
  rw [List.range_succ, List.foldl_append]
  rfl
theorem exL_get (es : List (Int × Cl)) : ∀ (j : Nat) (h : j < es.length) (i : Nat), i < 26 → (exL es)[j * 26 + i]? = (exC es[j].1 es[j].2)[i]? := by
  induction es with
  | nil => intro j h; cases h
  | cons e es ih =>
    intro j h i hi
    have e1 : exL (e :: es) = exC e.1 e.2 ++ exL es := rfl
    have l26 : (exC e.1 e.2).length = 26 := rfl
    rw [e1]
    cases j with
    | zero => rw [List.getElem?_append_left (by omega)]; simp
    | succ j =>
      rw [List.getElem?_append_right (by omega), l26, show (j + 1) * 26 + i - 26 = j * 26 + i by omega, ih j (by simpa using h) i hi]
      rfl
/-- Ways out that are owned: a slice; where there is one, it lies in a block of its own. -/
theorem exits_slice {w : World} {B : Nat} {v : Value} {es : List (Int × Cl)} (h : w.ownsRow B 243 26 v es.length (exL es)) :
    ∃ (a : Option Addr) (cap : Nat), v = .slice a es.length cap ∧ (0 < es.length → ∃ gb : Nat, a = some ⟨gb, 0, none⟩ ∧ B ≤ gb ∧ gb < w.heap.size ∧ ∀ j (hj : j < es.length), w.rangeAt gb (j * 26) (exC es[j].1 es[j].2)) := by
  obtain ⟨_, ⟨e, h2⟩ | ⟨g, cap, cur, e, hg, hb, hc, _, _, ht⟩⟩ := h
  · exact ⟨none, 0, by rw [h2]; exact e, fun h0 => by omega⟩
  · refine ⟨some ⟨g, 0, none⟩, cap, e, fun _ => ⟨g, rfl, hg, blk_lt hb, fun j hj i u hu => ?_⟩⟩
    have hi : i < 26 := by
      have := (List.getElem?_eq_some_iff.1 hu).1
      rwa [exC_len] at this
    rw [cell_of_blk hb, ← hu, ← exL_get es j hj i hi, ← ht, List.getElem?_take, if_pos (by omega)]
    simp
theorem SAt.keep2 {w w' : World} {sb s0 g gcap pb hb fb : Nat} {xs : List Ln} {p p' : List Cl} {ch : List Int} (h : SAt w sb s0 g gcap pb hb xs p ch) (hk : Keep2 w.heap.size pb fb w w') (h1 : sb ≠ pb) (h2 : g ≠ pb) (h3 : hb ≠ pb) (h4 : s0 + 56 ≤ pb) (h5 : s0 + 56 ≤ fb) (h6 : sb ≠ fb) (h7 : g ≠ fb) (h8 : hb ≠ fb) (hc : ClaimsAt w' pb p') (hl : p'.length = xs.length) : SAt w' sb s0 g gcap pb hb xs p' ch :=
  ⟨(hk.cell (p := ⟨sb, 0, none⟩) h.lts h1 h6).trans h.c0, (hk.cell (p := ⟨sb, 1, none⟩) h.lts h1 h6).trans h.c1, (hk.cell (p := ⟨sb, 2, none⟩) h.lts h1 h6).trans h.c2, (hk.cell (p := ⟨sb, 3, none⟩) h.lts h1 h6).trans h.c3,
   h.tab.mono fun k _ hk' => hk.block k (by have := h.lt0; omega) (by omega) (by omega), h.lines.mono (hk.block _ h.ltg h2 h7), hc, hl, (hk.block _ h.lth h3 h8).trans h.chg,
   Nat.le_trans h.lt0 hk.size, Nat.lt_of_lt_of_le h.lts hk.size, Nat.lt_of_lt_of_le h.ltp hk.size⟩
theorem wpList_storeRw {ops : Array Oper} {rest : List Oper} {o : Oper} {a : Act} {w : World} {Q : Exit → Act → World → Prop} (hgd : o.guard = none) (ty : TypeId) (x y : Operand) (ho : o.op = .store ty x y) (g : Nat) (SC old : Array Value)
    (hx : a.eval x = .pointer (some ⟨g, 0, none⟩)) (hy : a.eval y = .agg SC) (hg : w.heap[g]? = some (.cells old ty)) (hin : (Tryz.prog.info? ty).map (·.size) = some SC.size) (hold : old.size = SC.size) (hone : SC.all (·.oneCell') = true)
    (h : ∀ w', Hid (w' = w.setRow g SC) → wpList Tryz.prog ops Q rest (a.put o.dst undef) w') : wpList Tryz.prog ops Q (o :: rest) a w :=
  wpList_plain hgd fun _ hK => wp_store_row ty x y ho g SC hx hy ty old hg hin hold hone (hK _ _ (h _ (hide rfl)))
theorem exec_storeMid {o : Oper} {a : Act} {w : World} (ty : TypeId) (x y : Operand) (ho : o.op = .store ty x y) (b p : Nat) (SC : Array Value) (hx : a.eval x = .pointer (some ⟨b, p, none⟩)) (hy : a.eval y = .agg SC) (ht : w.there b p SC.size) (hin : (Tryz.prog.info? ty).map (·.size) = some SC.size) (hone : SC.all (·.oneCell') = true) :
    (execOp a.eval o).run Tryz.prog w = .ok .skip (w.setCells b p SC.toList) := by
  unfold execOp
  simp only [ho, hx, hy, Sem.run_bind, Sem.run_pure, Result.andThen_ok, run_storeAt_mid w b p ty SC ht hin hone]
theorem exec_neqCl {o : Oper} {a : Act} {w : World} (x y : Operand) (ho : o.op = .binOp .neq 135 x y 135) (c d : Cl) (hx : a.eval x = .agg (clCells c)) (hy : a.eval y = .agg (clCells d)) :
    (execOp a.eval o).run Tryz.prog w = .ok (.value (.bool (!clEq c d))) w := by
  unfold execOp
  simp only [ho, hx, hy, Sem.run_bind, Sem.run_pure, Result.andThen_ok, run_eqGuard_agg (P := Tryz.prog) w .neq 135 x y (clCells c) (clCells d) (by kernel_rfl), run_neqCl]
end Go.Proofs.YtngopilbpiplhaaGreatDoor
