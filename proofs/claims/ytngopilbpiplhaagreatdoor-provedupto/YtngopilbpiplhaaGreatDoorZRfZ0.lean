/-
  The document's own search: a join is a visit; the search as it begins.
  The document's own answer: what is claimed behind a line.
-/
import Derived.Test.YtngopilbpiplhaaGreatDoorZRfYe
import Derived.Test.YtngopilbpiplhaaGreatDoorZRfYn
import Derived.Maps.AppendAt
import Derived.Test.YtngopilbpiplhaaGreatDoorZRfX
namespace Go.Proofs.YtngopilbpiplhaaGreatDoor
open Go.RowKit
set_option linter.unusedVariables false
set_option linter.unusedSimpArgs false
/-- Four blocks apart. -/
structure Ap (sb pb hb lb : Nat) : Prop where
  n1 : sb ≠ pb
  n2 : sb ≠ hb
  n3 : sb ≠ lb
  n4 : pb ≠ hb
  n5 : pb ≠ lb
  n6 : hb ≠ lb
/-- A search in its round. -/
structure RV (w : World) (sb pb hb lb pc hc lc : Nat) (p : List Cl) (ch : List Int) (bs : List Bool) (R : Int) (la : List Int) : Prop where
  rs : RS w sb pb hb lb pc hc lc p (cntL ch bs) la R
  ll : la.length = bs.length
  lr : ∀ (j : Nat) (v : Int) (b : Bool), la[j]? = some v → bs[j]? = some b → (v = R ↔ b = true)
theorem RV.below {w w' : World} {sb pb hb lb pc hc lc : Nat} {p : List Cl} {ch : List Int} {bs : List Bool} {R : Int} {la : List Int} (h : RV w sb pb hb lb pc hc lc p ch bs R la) (hb' : Below w.heap.size w w') : RV w' sb pb hb lb pc hc lc p ch bs R la := ⟨h.rs.below hb', h.ll, h.lr⟩
theorem set_self {α : Type} {l : List α} {t : Nat} {a : α} (h : l[t]? = some a) : l.set t a = l := by
  apply List.ext_getElem?
  intro j
  by_cases e : j = t
  · subst e
    rw [List.getElem?_set_self (List.getElem?_eq_some_iff.1 h).1, h]
  · rw [List.getElem?_set_ne (by omega)]
theorem cntL_get {ch : List Int} {bs : List Bool} {t : Nat} {c : Int} {b : Bool} (h1 : ch[t]? = some c) (h2 : bs[t]? = some b) : (cntL ch bs)[t]? = some (if b then c + 1 else c) := by
  unfold cntL
  rw [List.getElem?_zipWith, h1, h2]
set_option maxHeartbeats 1000000 in
theorem rvisit_any (sb pb hb lb pc hc lc : Nat) (p : List Cl) (ch : List Int) (bs : List Bool) (la : List Int) (R : Int) (k t : Nat) (d : Cl) (w : World) (hV : RV w sb pb hb lb pc hc lc p ch bs R la) (hap : Ap sb pb hb lb) (hps : PS p) (hpn : p.length ≤ 100)
    (l1 : bs.length = p.length) (l2 : ch.length = p.length) (ht : t < p.length) (hk : k < 1000) (hd : WF d) (hn : d.never = false) (hcc : ∀ j, 0 ≤ chF ch j ∧ chF ch j ≤ 100000) :
    Calls Tryz.prog 115 #[.pointer (some ⟨sb, 0, none⟩), .int .i64 (k : Int), .int .i64 (t : Int), .agg (rcCells d)] w fun e w' => ∃ (b : Bool) (la' : List Int), e = .returned (.bool b) ∧
      (visit ch k (p, bs) ((t : Int), d)).2.any id = (bs.any id || b) ∧ RV w' sb pb hb lb pc hc lc (visit ch k (p, bs) ((t : Int), d)).1 ch (visit ch k (p, bs) ((t : Int), d)).2 R la' ∧ (∀ v ∈ la', v ∈ la ∨ v = R) ∧ Keep3 w.heap.size pb hb lb w w' := by
  obtain ⟨was, hwas⟩ : ∃ was, p[t]? = some was := ⟨_, List.getElem?_eq_getElem ht⟩
  obtain ⟨c0, hc0⟩ : ∃ c, ch[t]? = some c := ⟨_, List.getElem?_eq_getElem (by omega)⟩
  obtain ⟨b0, hb0⟩ : ∃ b, bs[t]? = some b := ⟨_, List.getElem?_eq_getElem (by omega)⟩
  obtain ⟨lv, hlv⟩ : ∃ v, la[t]? = some v := ⟨_, List.getElem?_eq_getElem (by rw [hV.ll]; omega)⟩
  have hcf : chF ch t = c0 := by unfold chF; rw [List.getD_eq_getElem?_getD, hc0]; rfl
  have hcb := hcc t
  rw [hcf] at hcb
  have hhv := cntL_get hc0 hb0
  have hlr := hV.lr t lv b0 hlv hb0
  have hmem := List.mem_of_getElem? hwas
  have hjn := jn_at k t c0 hn (hps.nn was hmem)
  have hjw : WF (joinAt k t was d c0) := joinAt_wf k t (hps.wf was hmem) hd c0
  have hsame := @visit_same ch k t p bs d was hwas
  have hnew := @visit_new ch k t p bs d was hwas
  rw [hcf] at hsame hnew
  rw [nrm_wf hjw] at hnew
  generalize joinAt k t was d c0 = now at *
  have key : ∀ (e : Ending) (w' : World) (ch2 la2 : List Int), cntL ch (bs.set t true) = ch2 → (la2.length = bs.length ∧ ∀ (j : Nat) (v : Int) (b : Bool), la2[j]? = some v → (bs.set t true)[j]? = some b → (v = R ↔ b = true)) → (∀ v ∈ la2, v ∈ la ∨ v = R) →
      (e = .returned (.bool (!clEq now was)) ∧ (clEq now was = true → RS w' sb pb hb lb pc hc lc p (cntL ch bs) la R) ∧ (clEq now was = false → RS w' sb pb hb lb pc hc lc (p.set t now) ch2 la2 R) ∧ Keep3 w.heap.size pb hb lb w w') →
      ∃ (b : Bool) (la' : List Int), e = .returned (.bool b) ∧ (visit ch k (p, bs) ((t : Int), d)).2.any id = (bs.any id || b) ∧ RV w' sb pb hb lb pc hc lc (visit ch k (p, bs) ((t : Int), d)).1 ch (visit ch k (p, bs) ((t : Int), d)).2 R la' ∧ (∀ v ∈ la', v ∈ la ∨ v = R) ∧ Keep3 w.heap.size pb hb lb w w' := by
    rintro e w' ch2 la2 hch2 hla2 hla3 ⟨rfl, h1, h2, h3⟩
    cases hq : clEq now was with
    | true =>
      rw [hsame hq]
      exact ⟨false, la, rfl, by simp, ⟨h1 hq, hV.ll, hV.lr⟩, fun v hv => .inl hv, h3⟩
    | false =>
      rw [hnew hq]
      refine ⟨true, la2, rfl, ?_, ⟨by rw [hch2]; exact h2 hq, by rw [List.length_set]; exact hla2.1, hla2.2⟩, hla3, h3⟩
      rw [any_set bs t (by omega)]
      simp
  cases b0 with
  | true =>
    have hl : lv = R := hlr.2 rfl
    refine (rjoin_eq sb pb hb lb pc hc lc p (cntL ch bs) la R k t was d (c0 + 1) lv w hV.rs hwas hhv hlv hn hap.n1 hap.n2 hap.n3 hap.n4 hap.n5 hap.n6 hk (by omega) (by omega) hl hpn).mono ?_
    intro e w' h
    rw [show c0 + 1 - 1 = c0 by omega, hjn] at h
    refine key e w' (cntL ch bs) la (by rw [set_self hb0]) ⟨hV.ll, fun j v b h1 h2 => ?_⟩ (fun v hv => .inl hv) h
    rw [set_self hb0] at h2
    exact hV.lr j v b h1 h2
  | false =>
    have hl : lv ≠ R := fun q => by have := hlr.1 q; cases this
    refine (rjoin_ne sb pb hb lb pc hc lc p (cntL ch bs) la R k t was d c0 lv w hV.rs hwas hhv hlv hn hap.n1 hap.n2 hap.n3 hap.n4 hap.n5 hap.n6 hk (by omega) (by omega) hl hpn).mono ?_
    intro e w' h
    rw [hjn] at h
    refine key e w' _ _ (cnt_set ch bs (by omega) t (by omega) c0 hc0) ⟨by rw [List.length_set]; exact hV.ll, fun j v b h1 h2 => ?_⟩ (fun v hv => List.mem_or_eq_of_mem_set hv) h
    by_cases e : j = t
    · subst e
      rw [List.getElem?_set_self (by rw [hV.ll]; omega)] at h1
      rw [List.getElem?_set_self (by omega)] at h2
      cases h1
      cases h2
      simp
    · rw [List.getElem?_set_ne (by omega)] at h1 h2
      exact hV.lr j v b h1 h2
/-- Claims as cells; numbers as cells. -/
def rcL (p : List Cl) : List Value := (p.map fun c => (rcCells c).toList).flatten
theorem rcL_snoc (p : List Cl) (c : Cl) : rcL (p ++ [c]) = rcL p ++ (rcCells c).toList := by simp [rcL]
theorem rcL_get (p : List Cl) : ∀ (j : Nat) (h : j < p.length) (i : Nat), i < 25 → (rcL p)[j * 25 + i]? = (rcCells p[j]).toList[i]? := by
  induction p with
  | nil => intro j h; cases h
  | cons e es ih =>
    intro j h i hi
    have e1 : rcL (e :: es) = (rcCells e).toList ++ rcL es := rfl
    have l26 : (rcCells e).toList.length = 25 := rfl
    rw [e1]
    cases j with
    | zero => rw [List.getElem?_append_left (by omega)]; simp
    | succ j =>
      rw [List.getElem?_append_right (by omega), l26, show (j + 1) * 25 + i - 25 = j * 25 + i by omega, ih j (by simpa using h) i hi]
      rfl
theorem rcL_len (p : List Cl) : (rcL p).length = p.length * 25 := by
  induction p with
  | nil => rfl
  | cons e es ih =>
    have e1 : rcL (e :: es) = (rcCells e).toList ++ rcL es := rfl
    have l26 : (rcCells e).toList.length = 25 := rfl
    rw [e1, List.length_append, ih, l26, List.length_cons]
    omega
theorem rclaims_of {w : World} {B : Nat} {v : Value} {p : List Cl} {n : Nat} (h : w.ownsRow B 181 25 v n (rcL p)) (hn : n = p.length) (h0 : 0 < n) :
    ∃ g cap, v = .slice (some ⟨g, 0, none⟩) n cap ∧ v.ownBlock = some g ∧ B ≤ g ∧ g < w.heap.size ∧ RClaimsAt w g p := by
  obtain ⟨_, ⟨_, h2⟩ | ⟨g, cap, cur, e, hg, hb, hc, _, hs, ht⟩⟩ := h
  · omega
  · refine ⟨g, cap, e, by rw [e]; rfl, hg, blk_lt hb, ⟨fun j hj => ?_, fun k x hx i u hu => ?_⟩⟩
    · rw [Nat.zero_add, cell_of_blk hb, frozen_of_blk hb]
      have hl : j < (cur.toList.take (n * 25)).length := by rw [ht, rcL_len]; omega
      have : j < cur.size := by rw [List.length_take] at hl; simp at hl; omega
      exact ⟨by rw [Array.getElem?_eq_getElem this]; rfl, rfl⟩
    · obtain ⟨hk, hxk⟩ := List.getElem?_eq_some_iff.1 hx
      have hi : i < 25 := (List.getElem?_eq_some_iff.1 hu).1
      rw [cell_of_blk hb, ← hu, ← hxk, ← rcL_get p k hk i hi, ← ht, List.getElem?_take, if_pos (by omega)]
      simp
def zC (n : Nat) : List Value := List.replicate n (.int .i64 0)
theorem zC_snoc (n : Nat) : zC (n + 1) = zC n ++ [.int .i64 0] := by simp [zC, List.replicate_succ']
theorem rints_of {w : World} {B : Nat} {v : Value} {n : Nat} (h : w.ownsRow B 3 1 v n (zC n)) (h0 : 0 < n) :
    ∃ g cap, v = .slice (some ⟨g, 0, none⟩) n cap ∧ v.ownBlock = some g ∧ B ≤ g ∧ RIntsAt w g (List.replicate n 0) := by
  obtain ⟨_, ⟨_, h2⟩ | ⟨g, cap, cur, e, hg, hb, hc, _, _, ht⟩⟩ := h
  · omega
  · refine ⟨g, cap, e, by rw [e]; rfl, hg, ⟨cur, hb, fun k u hk => ?_⟩⟩
    obtain ⟨hk1, hk2⟩ := List.getElem?_eq_some_iff.1 hk
    have hkn : k < n := by simpa using hk1
    rw [List.getElem_replicate] at hk2
    subst hk2
    have h3 : (cur.toList.take (n * 1))[k]? = some (.int .i64 0) := by rw [ht, zC, List.getElem?_replicate, if_pos hkn]
    rw [List.getElem?_take, if_pos (by omega)] at h3
    simpa using h3
/-- The claims at first. -/
def beg (k : Nat) : List Cl := (List.range k).map fun i => if i = 0 then clNone else clNever
theorem beg_snoc (k : Nat) : beg (k + 1) = beg k ++ [if k = 0 then clNone else clNever] := by simp [beg, List.range_succ]
theorem beg_len (k : Nat) : (beg k).length = k := by simp [beg]
theorem beg_start (n : Nat) (h : 0 < n) : (beg n).set 0 clStart = (start0 n).1 := by
  apply List.ext_getElem?
  intro j
  unfold start0 beg
  by_cases e : j = 0
  · subst e
    rw [List.getElem?_set_self (by simpa using h), List.getElem?_set_self (by simpa using h)]
  · rw [List.getElem?_set_ne (by omega), List.getElem?_set_ne (by omega), List.getElem?_map, List.getElem?_replicate]
    by_cases hj : j < n
    · rw [if_pos hj, List.getElem?_range hj]
      simp [e]
    · rw [if_neg hj, List.getElem?_eq_none (by simpa using hj)]
      rfl
def Apart (a b : Value) : Prop := ∀ g, a.ownBlock = some g → b.ownBlock ≠ some g
/-- The search as it is laid. -/
structure IN (w : World) (sb : Nat) (v0 v1 v2 : Value) (k0 k1 k2 : Nat) (W : World) : Prop where
  s : W.heap[sb]? = some (.cells #[v0, v1, v2, .int .i64 0] 179)
  o0 : W.ownsRow (sb + 1) 181 25 v0 k0 (rcL (beg k0))
  o1 : W.ownsRow (sb + 1) 3 1 v1 k1 (zC k1)
  o2 : W.ownsRow (sb + 1) 3 1 v2 k2 (zC k2)
  a01 : Apart v0 v1
  a02 : Apart v0 v2
  a12 : Apart v1 v2
  b : Below sb w W
  z : sb < W.heap.size
theorem owns_sb {W : World} {sb B : Nat} {t : TypeId} {sz n o : Nat} {v u : Value} {xs : List Value} (h : W.ownsRow B t sz v n xs) (hB : sb < B) : (W.setCell ⟨sb, o, none⟩ u).ownsRow B t sz v n xs := by
  obtain ⟨h1, h2 | ⟨g, cap, cur, e, hg, hb, r⟩⟩ := h
  · exact ⟨h1, .inl h2⟩
  · refine ⟨h1, .inr ⟨g, cap, cur, e, hg, ?_, r⟩⟩
    rw [((Keep.refl W.heap.size sb W).setb _ _ o u).block g (blk_lt hb) (by omega)]
    exact hb
theorem IN.alloc {w W : World} {sb : Nat} {v0 v1 v2 : Value} {k0 k1 k2 : Nat} (h : IN w sb v0 v1 v2 k0 k1 k2 W) (hw : w.heap.size ≤ sb) (o : Obj) : IN w sb v0 v1 v2 k0 k1 k2 (W.alloc o) :=
  ⟨blk_alloc h.s _, h.o0.alloc _, h.o1.alloc _, h.o2.alloc _, h.a01, h.a02, h.a12, h.b.alloc (Nat.le_of_lt h.z) _, by rw [World.size_alloc]; exact Nat.lt_succ_of_lt h.z⟩
theorem apart_new {W : World} {B : Nat} {t : TypeId} {sz n : Nat} {a a' b : Value} {xs : List Value} (h : Apart a b) (hat : a'.ownBlock = a.ownBlock ∨ a'.ownBlock = some W.heap.size) (hb : W.ownsRow B t sz b n xs) : Apart a' b := by
  intro g hg
  rcases hat with e | e
  · exact h g (by rw [← e]; exact hg)
  · intro q
    have := (World.ownsRow.lt hb g q).2
    rw [e] at hg
    cases hg
    omega
theorem Apart.symm {a b : Value} (h : Apart a b) : Apart b a := fun g h1 h2 => h g h2 h1
theorem kept_of {W W' : World} {B : Nat} {t : TypeId} {sz n : Nat} {a b : Value} {xs : List Value} (ha : Apart a b) (hg : W.grownBy W' a.ownBlock) (hb : W.ownsRow B t sz b n xs) : W'.ownsRow B t sz b n xs := by
  refine World.ownsRow.kept hb hg ?_
  cases q : b.ownBlock with
  | none => exact .inl rfl
  | some g => exact .inr fun e => ha g e.symm q
theorem grown_sb {W W' : World} {sb : Nat} {t : TypeId} {sz n : Nat} {a : Value} {xs : List Value} {o : Obj} (ho : W.ownsRow (sb + 1) t sz a n xs) (hg : W.grownBy W' a.ownBlock) (hs : W.heap[sb]? = some o) : W'.heap[sb]? = some o :=
  (hg.block sb (blk_lt hs) (fun q => by have := (World.ownsRow.lt ho sb q.symm).1; omega)).trans hs
theorem IN.app0 {w W W' : World} {sb : Nat} {v0 v1 v2 v' : Value} {k k1 k2 : Nat} (h : IN w sb v0 v1 v2 k k1 k2 W) (c : Cl) (hc : c = if k = 0 then clNone else clNever) (ho : W'.ownsRow (sb + 1) 181 25 v' (k + 1) (rcL (beg k) ++ (rcCells c).toList)) (hg : W.grownBy W' v0.ownBlock)
    (hat : v'.ownBlock = v0.ownBlock ∨ v'.ownBlock = some W.heap.size) : IN w sb v' v1 v2 (k + 1) k1 k2 (W'.setCell ⟨sb, 0, none⟩ v') :=
  ⟨blk_setCell (grown_sb h.o0 hg h.s) 0 _, owns_sb (by rw [beg_snoc, rcL_snoc, ← hc]; exact ho) (by omega), owns_sb (kept_of h.a01 hg h.o1) (by omega), owns_sb (kept_of h.a02 hg h.o2) (by omega), apart_new h.a01 hat h.o1, apart_new h.a02 hat h.o2, h.a12,
   (Below.grown h.b hg (Nat.le_of_lt h.z) fun g q => by have := (World.ownsRow.lt h.o0 g q).1; omega).setCell (p := ⟨sb, 0, none⟩) (Nat.le_refl _) _, by rw [World.size_setCell]; exact Nat.lt_of_lt_of_le h.z hg.size⟩
theorem IN.app1 {w W W' : World} {sb : Nat} {v0 v1 v2 v' : Value} {k k1 k2 : Nat} (h : IN w sb v0 v1 v2 k1 k k2 W) (ho : W'.ownsRow (sb + 1) 3 1 v' (k + 1) (zC k ++ [.int .i64 0])) (hg : W.grownBy W' v1.ownBlock)
    (hat : v'.ownBlock = v1.ownBlock ∨ v'.ownBlock = some W.heap.size) : IN w sb v0 v' v2 k1 (k + 1) k2 (W'.setCell ⟨sb, 1, none⟩ v') :=
  ⟨blk_setCell (grown_sb h.o1 hg h.s) 1 _, owns_sb (kept_of h.a01.symm hg h.o0) (by omega), owns_sb (by rw [zC_snoc]; exact ho) (by omega), owns_sb (kept_of h.a12 hg h.o2) (by omega), (apart_new h.a01.symm hat h.o0).symm, h.a02, apart_new h.a12 hat h.o2,
   (Below.grown h.b hg (Nat.le_of_lt h.z) fun g q => by have := (World.ownsRow.lt h.o1 g q).1; omega).setCell (p := ⟨sb, 1, none⟩) (Nat.le_refl _) _, by rw [World.size_setCell]; exact Nat.lt_of_lt_of_le h.z hg.size⟩
theorem IN.app2 {w W W' : World} {sb : Nat} {v0 v1 v2 v' : Value} {k k1 k2 : Nat} (h : IN w sb v0 v1 v2 k1 k2 k W) (ho : W'.ownsRow (sb + 1) 3 1 v' (k + 1) (zC k ++ [.int .i64 0])) (hg : W.grownBy W' v2.ownBlock)
    (hat : v'.ownBlock = v2.ownBlock ∨ v'.ownBlock = some W.heap.size) : IN w sb v0 v1 v' k1 k2 (k + 1) (W'.setCell ⟨sb, 2, none⟩ v') :=
  ⟨blk_setCell (grown_sb h.o2 hg h.s) 2 _, owns_sb (kept_of h.a02.symm hg h.o0) (by omega), owns_sb (kept_of h.a12.symm hg h.o1) (by omega), owns_sb (by rw [zC_snoc]; exact ho) (by omega), h.a01, (apart_new h.a02.symm hat h.o0).symm, (apart_new h.a12.symm hat h.o1).symm,
   (Below.grown h.b hg (Nat.le_of_lt h.z) fun g q => by have := (World.ownsRow.lt h.o2 g q).1; omega).setCell (p := ⟨sb, 2, none⟩) (Nat.le_refl _) _, by rw [World.size_setCell]; exact Nat.lt_of_lt_of_le h.z hg.size⟩
/-- One more behind a row that is owned, and where it lies. -/
theorem wpList_appA {ops : Array Oper} {rest : List Oper} {o : Oper} {a : Act} {w : World} {Q : Exit → Act → World → Prop} (hgd : o.guard = none) (s x : Operand) (t e : TypeId) (z : Value) (sz by' : Nat)
    (ho : o.op = .call { callee := .builtin .append, args := #[s, x], argTypes := #[t, t] })
    (hinfo : (Tryz.prog.info? e).map (fun i => (i.zero, i.size, i.bytes)) = some (some z, sz, by')) (ht : Tryz.prog.underlying t = some (.slice e)) (hzs : z.cells.size = sz) (hsz : 0 < sz)
    (B : Nat) (v : Value) (n : Nat) (xs : List Value) (hs : a.eval s = v) (hown : Hid (w.ownsRow B e sz v n xs)) (g : Nat) (SC : Array Value) (ty : TypeId) (hx : a.eval x = .slice (some ⟨g, 0, none⟩) 1 1) (hg : w.heap[g]? = some (.cells SC ty))
    (hl : SC.size = sz) (hone : SC.all (·.oneCell') = true) (h63 : n ≤ 100000000) (hby : by' ≤ 1000) (hB : B ≤ w.heap.size)
    (h : ∀ v' w', Hid (w'.ownsRow B e sz v' (n + 1) (xs ++ SC.toList)) → Hid (w.grownBy w' v.ownBlock) → Hid (v'.ownBlock = v.ownBlock ∨ v'.ownBlock = some w.heap.size) → wpList Tryz.prog ops Q rest (a.put o.dst v') w') : wpList Tryz.prog ops Q (o :: rest) a w := by
  obtain ⟨i0, hi0, hz0, hz1, hz2⟩ := info_parts hinfo
  refine wpList_append_own_at (P := Tryz.prog) (w := w) hgd s x t ho B e i0 z sz by' ht hi0 hz0 hz1 hz2 hzs hsz v n xs hs hown.out ⟨g, 0, none⟩ 1 1 SC.toList hx (by simp [hl]) ?_ ?_ (by unfold maxLen; omega) ?_ hB fun v' w' h2 h3 _ h5 => h v' w' (hide h2) (hide h3) (hide h5)
  · intro k u hk
    have e : (⟨g, 0, none⟩ : Addr).add k = ⟨g, k, none⟩ := by unfold Addr.add; split <;> simp_all
    rw [e, cell_of_blk hg]
    simpa using hk
  · intro u hu
    rw [Array.all_eq_true_iff_forall_mem] at hone
    exact hone u (by simpa using hu)
  · have : (n + 1) * by' ≤ 100000001 * 1000 := Nat.mul_le_mul (by omega) hby
    omega
theorem infoRc : (Tryz.prog.info? 181).map (fun i => (i.zero, i.size, i.bytes)) = some (some (.agg (rcCells clNone)), 25, 144) := by kernel_rfl
theorem infoInt : (Tryz.prog.info? 3).map (fun i => (i.zero, i.size, i.bytes)) = some (some (.int .i64 0), 1, 8) := by kernel_rfl
end Go.Proofs.YtngopilbpiplhaaGreatDoor

namespace Go.Proofs.YtngopilbpiplhaaGreatDoor
open Go.RowKit
set_option linter.unusedVariables false
set_option linter.unusedSimpArgs false
/-- A claim and a line handed in, room for an answer, a span. -/
structure RB (w : World) (c : Cl) (i r s : Nat) (n l lo hi : Int) (o sm : Bool) (W : World) : Prop where
  A : W.heap[w.heap.size]? = some (rcB c)
  B : W.heap[w.heap.size + 1]? = some (rlB i r s n l)
  C : W.heap[w.heap.size + 1 + 1]? = some (rcB clNone)
  D : W.heap[w.heap.size + 1 + 1 + 1]? = some (snB lo hi o sm)
  b : Below w.heap.size w W
  s : w.heap.size + 4 ≤ W.heap.size
structure RBx (w : World) (c : Cl) (i r s : Nat) (n l lo hi : Int) (o sm : Bool) (W : World) : Prop where
  A : W.heap[w.heap.size]? = some (rcB c)
  B : W.heap[w.heap.size + 1]? = some (rlB i r s n l)
  D : W.heap[w.heap.size + 1 + 1 + 1]? = some (snB lo hi o sm)
  b : Below w.heap.size w W
theorem RB.x {w W : World} {c : Cl} {i r s : Nat} {n l lo hi : Int} {o sm : Bool} (h : RB w c i r s n l lo hi o sm W) : RBx w c i r s n l lo hi o sm W := ⟨h.A, h.B, h.D, h.b⟩
theorem RBx.set {w W : World} {c : Cl} {i r s : Nat} {n l lo hi : Int} {o sm : Bool} (h : RBx w c i r s n l lo hi o sm W) (cs : Array Value) : RBx w c i r s n l lo hi o sm (W.setRow (w.heap.size + 1 + 1) cs) :=
  ⟨(setRow_other _ _ _ _ (by omega)).trans h.A, (setRow_other _ _ _ _ (by omega)).trans h.B, (setRow_other _ _ _ _ (by omega)).trans h.D, h.b.trans ((keep_setRow' w.heap.size _ _ _).below (by omega))⟩
theorem rb_mk (w : World) (c : Cl) (i r s : Nat) (n l : Int) : RB w c i r s n l 0 0 false false ((((w.alloc (rcB c)).alloc (rlB i r s n l)).alloc (rcB clNone)).alloc (snB 0 0 false false)) :=
  ⟨blk_alloc (blk_alloc (blk_alloc (blk_new w _) _) _) _, by have := blk_new (w.alloc (rcB c)) (rlB i r s n l); rw [World.size_alloc] at this; exact blk_alloc (blk_alloc this _) _,
   by have := blk_new ((w.alloc (rcB c)).alloc (rlB i r s n l)) (rcB clNone); rw [World.size_alloc, World.size_alloc] at this; exact blk_alloc this _,
   by have := blk_new (((w.alloc (rcB c)).alloc (rlB i r s n l)).alloc (rcB clNone)) (snB 0 0 false false); rw [World.size_alloc, World.size_alloc, World.size_alloc] at this; exact this,
   ((((Below.refl _ _).alloc (Nat.le_refl _) _).alloc (by simp) _).alloc (by simp; omega) _).alloc (by simp; omega) _, by simp⟩
theorem RB.below {w W W' : World} {c : Cl} {i r s : Nat} {n l lo hi : Int} {o sm : Bool} (h : RB w c i r s n l lo hi o sm W) (hb : Below W.heap.size W W') : RB w c i r s n l lo hi o sm W' :=
  ⟨(hb.block _ (blk_lt h.A)).trans h.A, (hb.block _ (blk_lt h.B)).trans h.B, (hb.block _ (blk_lt h.C)).trans h.C, (hb.block _ (blk_lt h.D)).trans h.D, h.b.trans (hb.mono (by have := h.s; omega)), Nat.le_trans h.s hb.size⟩
theorem RB.with {w W W' : World} {c : Cl} {i r s : Nat} {n l lo hi lo' hi' : Int} {o sm o' sm' : Bool} (h : RB w c i r s n l lo hi o sm W) (hD : W'.heap[w.heap.size + 1 + 1 + 1]? = some (snB lo' hi' o' sm')) (hk : Keep W.heap.size (w.heap.size + 1 + 1 + 1) W W') : RB w c i r s n l lo' hi' o' sm' W' :=
  ⟨(hk.block _ (blk_lt h.A) (by omega)).trans h.A, (hk.block _ (blk_lt h.B) (by omega)).trans h.B, (hk.block _ (blk_lt h.C) (by omega)).trans h.C, hD, h.b.trans ((hk.mono (by have := h.s; omega)).below (by omega)), Nat.le_trans h.s hk.size⟩
theorem RB.set {w W : World} {c : Cl} {i r s : Nat} {n l lo hi : Int} {o sm : Bool} (h : RB w c i r s n l lo hi o sm W) (cs : Array Value) : Below w.heap.size w (W.setRow (w.heap.size + 1 + 1) cs) := h.b.trans ((keep_setRow' w.heap.size _ _ _).below (by omega))
theorem rsp2_no {p q : Int × Bool} (h : (p.2 && q.2) = false) : rsp2 p q = (-9223372036854775808, 9223372036854775807) := by unfold rsp2; rw [h]; rfl
theorem rsp2_yes {p q : Int × Bool} (h : (p.2 && q.2) = true) : rsp2 p q = (min p.1 q.1, max p.1 q.1) := by unfold rsp2; rw [h]; rfl
theorem rsp4_no {p q r s : Int × Bool} (h : (p.2 && q.2 && r.2 && s.2) = false) : rsp4 p q r s = (-9223372036854775808, 9223372036854775807) := by unfold rsp4; rw [h]; rfl
theorem rsp4_yes {p q r s : Int × Bool} (h : (p.2 && q.2 && r.2 && s.2) = true) : rsp4 p q r s = (min (min (min p.1 q.1) r.1) s.1, max (max (max p.1 q.1) r.1) s.1) := by unfold rsp4; rw [h]; rfl
def nextR (i : Nat) (c : Cl) (r s : Nat) (n : Int) : Cl := nextW i c ⟨(i : Int), (r : Int), (s : Int), n⟩
theorem nextR_eq (i : Nat) (hi : i ≤ 12) (c : Cl) (x : Ln) (r s : Nat) (hr : x.r = (r : Int)) (hs : x.s = (s : Int)) : nextW i c x = nextR i c r s x.n := by
  have e1 : ((r : Int)).toNat = r := by simp
  have e2 : ((s : Int)).toNat = s := by simp
  unfold nextR nextW
  simp only [hr, hs]
end Go.Proofs.YtngopilbpiplhaaGreatDoor
