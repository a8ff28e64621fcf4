/-
  The document's own answer: two claims joined.
  The plain facts that the document's own search wants: two and four numbers make a span; what holds of all claims of a search; the ways out.
  The document's own answer: a text cut at a byte.
-/
import Derived.Test.YtngopilbpiplhaaGreatDoorZRfF
import Derived.Test.YtngopilbpiplhaaGreatDoorZClS
namespace Go.Proofs.YtngopilbpiplhaaGreatDoor
open Go.RowKit
set_option linter.unusedVariables false
set_option linter.unusedSimpArgs false
/-- Two claims handed in. -/
structure RC (w : World) (c d : Cl) (W : World) : Prop where
  A : W.heap[w.heap.size]? = some (rcB c)
  B : W.heap[w.heap.size + 1]? = some (rcB d)
  b : Below w.heap.size w W
  s : w.heap.size + 3 ≤ W.heap.size
theorem rcc_mk (w : World) (c d : Cl) (z : Obj) : RC w c d (((w.alloc (rcB c)).alloc (rcB d)).alloc z) :=
  ⟨blk_alloc (blk_alloc (blk_new w _) _) _, by have := blk_new (w.alloc (rcB c)) (rcB d); rw [World.size_alloc] at this; exact blk_alloc this _,
   (((Below.refl _ _).alloc (Nat.le_refl _) _).alloc (by simp) _).alloc (by simp; omega) _, by simp⟩
theorem RC.below {w W W' : World} {c d : Cl} (h : RC w c d W) (hb : Below W.heap.size W W') : RC w c d W' :=
  ⟨(hb.block _ (blk_lt h.A)).trans h.A, (hb.block _ (blk_lt h.B)).trans h.B, h.b.trans (hb.mono (by have := h.s; omega)), Nat.le_trans h.s hb.size⟩
theorem RC.setRow {w W : World} {c d : Cl} (h : RC w c d W) (g : Nat) (hg : w.heap.size + 1 < g) (cs : Array Value) : RC w c d (W.setRow g cs) :=
  ⟨(setRow_other _ _ _ _ (by omega)).trans h.A, (setRow_other _ _ _ _ (by omega)).trans h.B, h.b.trans ((keep_setRow' w.heap.size _ _ _).below (by omega)), by rw [setRow_size]; exact h.s⟩
theorem rc_never (c : Cl) : (rcCells c)[0]? = some (.bool c.never) := rfl
theorem jnK_yes (b : Bool) (c d : Cl) (k : Nat) (h1 : c.has k = true) (h2 : d.has k = true) : jnK b c d (k + 1) = (jnK b c d k).with_ k (jnLo b (c.lo k) (d.lo k)) (jnHi b (c.hi k) (d.hi k)) := by simp [jnK, h1, h2]
theorem jnK_no (b : Bool) (c d : Cl) (k : Nat) (h : c.has k = false ∨ d.has k = false) : jnK b c d (k + 1) = jnK b c d k := by rcases h with h | h <;> simp [jnK, h]
set_option maxRecDepth 100000 in
set_option maxHeartbeats 2000000 in
theorem rjoined_never (c d : Cl) (hn : c.never = true) (b : Bool) (w : World) : Calls Tryz.prog 171 #[.agg (rcCells c), .agg (rcCells d), .bool b] w fun e w' => e = .returned (.agg (rcCells (jnF b c d))) ∧ Below w.heap.size w w' := by
  have hcc0 := rcc_mk w c d (rcB clNone)
  have hz0 := blk2 w (rcB c) (rcB d) (rcB clNone)
  have HJ : Hid (jnF b c d = d) := hide (by simp [jnF, hn])
  have n1 : (rcCells c)[0]? = some (.bool true) := by rw [rc_never, hn]
  go_enter Tryz.func171, Tryz.ntmps171
  go_wp2_with (first | (refine wpList_load_row rfl 181 (.tmp 4) rfl (w.heap.size + 1) rfl _ _ _ _ hcc0.B Tryz.underlying181 rfl (by kernel_rfl) ?_) | (refine wpList_storeRw rfl 181 (.tmp 6) (.tmp 13) rfl (w.heap.size + 1 + 1) (rcCells d) _ rfl rfl hz0 (by kernel_rfl) rfl (rc_one _) ?_))
  intro w' hw
  have hg : w'.heap[w.heap.size + 1 + 1]? = some (rcB d) := by rw [hw.out]; exact setRow_heap _ _ _ _ _ _ hz0
  have hb : Below w.heap.size w w' := by rw [hw.out]; exact (hcc0.setRow _ (by omega) _).b
  clear hw
  go_wp2
  exact bodyPost_ret (results_cell_row rfl _ _ (w.heap.size + 1 + 1) 181 _ _ _ rfl hg Tryz.underlying181 rfl (by kernel_rfl)) rfl ⟨by rw [HJ.out], hb⟩
set_option maxRecDepth 100000 in
set_option maxHeartbeats 4000000 in
theorem rjoined_both (c d : Cl) (hn : c.never = false) (hm : d.never = false) (b : Bool) (w : World) : Calls Tryz.prog 171 #[.agg (rcCells c), .agg (rcCells d), .bool b] w fun e w' => e = .returned (.agg (rcCells (jnF b c d))) ∧ Below w.heap.size w w' := by
  have hcc0 := rcc_mk w c d (rcB clNone)
  have hz0 := blk2 w (rcB c) (rcB d) (rcB clNone)
  have HJ : Hid (jnF b c d = jnK b c d 8) := hide (by simp [jnF, hn, hm])
  have n1 : (rcCells c)[0]? = some (.bool false) := by rw [rc_never, hn]
  have n2 : (rcCells d)[0]? = some (.bool false) := by rw [rc_never, hm]
  have hz3 := blk3' w (rcB c) (rcB d) (rcB clNone) (rcB clNone)
  have hcc1 := hcc0.below ((Below.refl _ _).alloc (Nat.le_refl _) (rcB clNone))
  have hz1 : ((((w.alloc (rcB c)).alloc (rcB d)).alloc (rcB clNone)).alloc (rcB clNone)).heap[w.heap.size + 1 + 1]? = some (rcB clNone) := blk_alloc hz0 _
  go_enter Tryz.func171, Tryz.ntmps171
  go_wp2_with (refine wpList_storeRw rfl 181 (.tmp 7) (.tmp 17) rfl (w.heap.size + 1 + 1 + 1) (rcCells clNone) _ rfl rfl hz3 (by kernel_rfl) rfl (rc_one _) ?_)
  intro w1 hw
  have hcc2 : RC w c d w1 := by rw [hw.out]; exact hcc1.setRow _ (by omega) _
  have hz2 : w1.heap[w.heap.size + 1 + 1]? = some (rcB clNone) := by rw [hw.out]; exact (setRow_other _ _ _ _ (by omega)).trans hz1
  have hg2 : w1.heap[w.heap.size + 1 + 1 + 1]? = some (rcB clNone) := by rw [hw.out]; exact setRow_heap _ _ _ _ _ _ hz3
  clear hw hcc1 hcc0 hz0 hz1 hz3 n1 n2
  have HC2 := hide hcc2
  have HZ2 := hide hz2
  have HG2 := hide hg2
  clear hcc2 hz2 hg2
  go_wp2_with fail
  go_loopw [8] (fun iv w' => ∃ k : Nat, k ≤ 8 ∧ iv = .int .i64 k ∧ RC w c d w' ∧ w'.heap[w.heap.size + 1 + 1]? = some (rcB clNone) ∧ w'.heap[w.heap.size + 1 + 1 + 1]? = some (rcB (jnK b c d k))) (fun iv _ => 8 - (intOf iv).toNat)
  case atStart => exact ⟨0, by omega, rfl, HC2.out, HZ2.out, HG2.out⟩
  case round =>
    clear HC2 HZ2 HG2
    obtain ⟨k, hk8, rfl, hcc3, hz3, hg3⟩ := hrel
    have HC3 := hide hcc3
    have HZ3 := hide hz3
    have HG3 := hide hg3
    clear hcc3 hz3 hg3
    by_cases hk : k < 8
    · have hkI : (k : Int) < 8 := by omega
      have ck : wr.cell? ⟨w.heap.size, 1 + k, none⟩ = some (.bool (c.has k)) := (cell_of_blk HC3.out.A (1 + k)).trans (rc_has c k hk)
      have dk : wr.cell? ⟨w.heap.size + 1, 1 + k, none⟩ = some (.bool (d.has k)) := (cell_of_blk HC3.out.B (1 + k)).trans (rc_has d k hk)
      cases hck : c.has k with
      | false =>
        rw [hck] at ck
        have HN := hide (jnK_no b c d k (.inl hck))
        go_wp2
        go_roundw
        case rel => exact ⟨k + 1, by omega, by go_num, HC3.out, HZ3.out, by rw [HN.out]; exact HG3.out⟩
        case measure => simp [intOf]; omega
      | true =>
        rw [hck] at ck
        cases hdk : d.has k with
        | false =>
          rw [hdk] at dk
          have HN := hide (jnK_no b c d k (.inr hdk))
          go_wp2
          go_roundw
          case rel => exact ⟨k + 1, by omega, by go_num, HC3.out, HZ3.out, by rw [HN.out]; exact HG3.out⟩
          case measure => simp [intOf]; omega
        | true =>
          rw [hdk] at dk
          have HY := hide (jnK_yes b c d k hck hdk)
          have cl : wr.cell? ⟨w.heap.size, 9 + k, none⟩ = some (.int .i64 (c.lo k)) := (cell_of_blk HC3.out.A (9 + k)).trans (rc_lo c k hk)
          have dl : wr.cell? ⟨w.heap.size + 1, 9 + k, none⟩ = some (.int .i64 (d.lo k)) := (cell_of_blk HC3.out.B (9 + k)).trans (rc_lo d k hk)
          have cu : wr.cell? ⟨w.heap.size, 17 + k, none⟩ = some (.int .i64 (c.hi k)) := (cell_of_blk HC3.out.A (17 + k)).trans (rc_hi c k hk)
          have du : wr.cell? ⟨w.heap.size + 1, 17 + k, none⟩ = some (.int .i64 (d.hi k)) := (cell_of_blk HC3.out.B (17 + k)).trans (rc_hi d k hk)
          clear hck hdk
          by_cases h1 : d.lo k < c.lo k <;> by_cases h2 : c.hi k < d.hi k <;> cases b
          all_goals
            go_wp2_with (refine wpList_load_row rfl 181 (.tmp 7) rfl (w.heap.size + 1 + 1 + 1) rfl _ _ _ _ HG3.out Tryz.underlying181 rfl (by kernel_rfl) ?_)
          all_goals
            refine (rput_any _ k hk _ _ _).mono ?_
            rintro e w2 ⟨rfl, hb2⟩
            have HS2 := hide (HC3.out.below hb2)
            have HZ2 := hide ((hb2.block _ (blk_lt HZ3.out)).trans HZ3.out)
            have HG2 := hide ((hb2.block _ (blk_lt HG3.out)).trans HG3.out)
            clear hb2 ck dk cl dl cu du
            go_wp2_with (refine wpList_storeRw rfl 181 (.tmp 7) (.tmp 68) rfl (w.heap.size + 1 + 1 + 1) (rcCells _) (rcCells _) rfl rfl HG2.out (by kernel_rfl) rfl (rc_one _) ?_)
            intro wa hwa
            have HSA : Hid (RC w c d wa) := hide (by rw [hwa.out]; exact HS2.out.setRow _ (by omega) _)
            have HZA : Hid (wa.heap[w.heap.size + 1 + 1]? = some (rcB clNone)) := hide (by rw [hwa.out]; exact (setRow_other _ _ _ _ (by omega)).trans HZ2.out)
            go_wp2
            go_roundw
            case rel => exact ⟨k + 1, by omega, by go_num, HSA.out, HZA.out, by rw [HY.out]; simp only [jnLo, jnHi, if_true, if_false, Bool.false_eq_true]; (first | rw [if_pos (show d.lo k < c.lo k by omega)] | rw [if_neg (show ¬ d.lo k < c.lo k by omega)]); (first | rw [if_pos (show c.hi k < d.hi k by omega)] | rw [if_neg (show ¬ c.hi k < d.hi k by omega)]); rw [hwa.out]; exact setRow_heap _ _ _ _ _ _ HG2.out⟩
            case measure => simp [intOf]; omega
    · obtain rfl : k = 8 := by omega
      go_wp2_with (first | (refine wpList_load_row rfl 181 (.tmp 7) rfl (w.heap.size + 1 + 1 + 1) rfl _ _ _ _ HG3.out Tryz.underlying181 rfl (by kernel_rfl) ?_) | (refine wpList_storeRw rfl 181 (.tmp 6) (.tmp 69) rfl (w.heap.size + 1 + 1) (rcCells (jnK b c d 8)) _ rfl rfl HZ3.out (by kernel_rfl) rfl (rc_one _) ?_))
      intro w9 hw
      have hg : w9.heap[w.heap.size + 1 + 1]? = some (rcB (jnK b c d 8)) := by rw [hw.out]; exact setRow_heap _ _ _ _ _ _ HZ3.out
      have hb : Below w.heap.size w w9 := by rw [hw.out]; exact (HC3.out.setRow _ (by omega) _).b
      clear hw
      go_wp2
      exact bodyPost_ret (results_cell_row rfl _ _ (w.heap.size + 1 + 1) 181 _ _ _ rfl hg Tryz.underlying181 rfl (by kernel_rfl)) rfl ⟨by rw [HJ.out], hb⟩
end Go.Proofs.YtngopilbpiplhaaGreatDoor

namespace Go.Proofs.YtngopilbpiplhaaGreatDoor
open Go.RowKit
set_option linter.unusedVariables false
set_option linter.unusedSimpArgs false
/-- A span of two, of four reckonings. -/
def rsp2 (p q : Int × Bool) : Int × Int := if p.2 && q.2 then (min p.1 q.1, max p.1 q.1) else (-9223372036854775808, 9223372036854775807)
def rsp4 (p q r s : Int × Bool) : Int × Int := if p.2 && q.2 && r.2 && s.2 then (min (min (min p.1 q.1) r.1) s.1, max (max (max p.1 q.1) r.1) s.1) else (-9223372036854775808, 9223372036854775807)
theorem am2 (op : Int → Int → Int × Bool) (p q : Int × Int) (P Q : Int × Bool) (h1 : Alike (op p.1 p.2) P) (h2 : Alike (op q.1 q.2) Q) (b1 : In64 (op p.1 p.2).1) (b2 : In64 (op q.1 q.2).1) : amSp op [p, q] = rsp2 P Q := by
  have e0 : ([p, q].all fun p => (op p.1 p.2).2) = (P.2 && Q.2) := by
    simp only [List.all_cons, List.all_nil, Bool.and_true]
    rw [h1.1, h2.1]
  unfold amSp rsp2
  rw [e0]
  cases hk : (P.2 && Q.2) with
  | false => rfl
  | true =>
    rw [Bool.and_eq_true] at hk
    have e1 := h1.2 hk.1
    have e2 := h2.2 hk.2
    unfold In64 at b1 b2
    simp only [if_true, amL, List.foldl_cons, List.foldl_nil]
    rw [e1] at b1 ⊢
    rw [e2] at b2 ⊢
    exact Prod.ext (by show min (min _ _) _ = min _ _; omega) (by show max (max _ _) _ = max _ _; omega)
theorem am4 (op : Int → Int → Int × Bool) (p q r s : Int × Int) (P Q R S : Int × Bool) (h1 : Alike (op p.1 p.2) P) (h2 : Alike (op q.1 q.2) Q) (h3 : Alike (op r.1 r.2) R) (h4 : Alike (op s.1 s.2) S)
    (b1 : In64 (op p.1 p.2).1) (b2 : In64 (op q.1 q.2).1) (b3 : In64 (op r.1 r.2).1) (b4 : In64 (op s.1 s.2).1) : amSp op [p, q, r, s] = rsp4 P Q R S := by
  have e0 : ([p, q, r, s].all fun p => (op p.1 p.2).2) = (P.2 && Q.2 && R.2 && S.2) := by
    simp only [List.all_cons, List.all_nil, Bool.and_true]
    rw [h1.1, h2.1, h3.1, h4.1]
    simp only [Bool.and_assoc]
  unfold amSp rsp4
  rw [e0]
  cases hk : (P.2 && Q.2 && R.2 && S.2) with
  | false => rfl
  | true =>
    rw [Bool.and_eq_true, Bool.and_eq_true, Bool.and_eq_true] at hk
    have e1 := h1.2 hk.1.1.1
    have e2 := h2.2 hk.1.1.2
    have e3 := h3.2 hk.1.2
    have e4 := h4.2 hk.2
    unfold In64 at b1 b2 b3 b4
    simp only [if_true, amL, List.foldl_cons, List.foldl_nil]
    rw [e1] at b1 ⊢
    rw [e2] at b2 ⊢
    rw [e3] at b3 ⊢
    rw [e4] at b4 ⊢
    exact Prod.ext (by show min (min (min (min _ _) _) _) _ = min (min (min _ _) _) _; omega) (by show max (max (max (max _ _) _) _) _ = max (max (max _ _) _) _; omega)
theorem add_sp (a b c d : Int) : (addLo a b c d, addHi a b c d) = amSp plusF [(a, c), (b, d)] := by
  unfold addLo addHi amSp
  simp only [List.all_cons, List.all_nil, Bool.and_true]
  cases ((plusF a c).2 && (plusF b d).2) <;> rfl
theorem plus_ok (x y : Int) : In64 (plusF x y).1 := wrap_ok _
theorem times_in (x y : Int) : In64 (timesF x y).1 := by
  unfold timesF
  split
  · unfold In64; simp
  · exact wrap_ok _
theorem next_add (c : Cl) (x : Ln) (hp : POk c) : nextW 2 c x = c.with_ x.r.toNat (rsp2 (rangeF (c.lo x.r.toNat + c.lo x.s.toNat)) (rangeF (c.hi x.r.toNat + c.hi x.s.toNat))).1 (rsp2 (rangeF (c.lo x.r.toNat + c.lo x.s.toNat)) (rangeF (c.hi x.r.toNat + c.hi x.s.toNat))).2 := by
  have h1 := hp x.r.toNat
  have h2 := hp x.s.toNat
  unfold SpOk at h1 h2
  have e := add_sp (c.lo x.r.toNat) (c.hi x.r.toNat) (c.lo x.s.toNat) (c.hi x.s.toNat)
  rw [am2 plusF (c.lo x.r.toNat, c.lo x.s.toNat) (c.hi x.r.toNat, c.hi x.s.toNat) _ _ (plus_alike _ _ (by unfold In64; omega) (by unfold In64; omega)) (plus_alike _ _ (by unfold In64; omega) (by unfold In64; omega)) (plus_ok _ _) (plus_ok _ _)] at e
  rw [← e]
  rfl
theorem next_sub (c : Cl) (x : Ln) (hp : POk c) : nextW 3 c x = c.with_ x.r.toNat (rsp2 (rangeF (c.lo x.r.toNat - c.hi x.s.toNat)) (rangeF (c.hi x.r.toNat - c.lo x.s.toNat))).1 (rsp2 (rangeF (c.lo x.r.toNat - c.hi x.s.toNat)) (rangeF (c.hi x.r.toNat - c.lo x.s.toNat))).2 := by
  have h1 := hp x.r.toNat
  have h2 := hp x.s.toNat
  unfold SpOk at h1 h2
  have e : amSp lessF (subP (c.lo x.r.toNat) (c.hi x.r.toNat) (c.lo x.s.toNat) (c.hi x.s.toNat)) = _ := am2 lessF (c.lo x.r.toNat, c.hi x.s.toNat) (c.hi x.r.toNat, c.lo x.s.toNat) _ _ (less_alike _ _ (by unfold In64; omega) (by unfold In64; omega)) (less_alike _ _ (by unfold In64; omega) (by unfold In64; omega)) (less_ok _ _) (less_ok _ _)
  rw [← e]
  rfl
theorem next_mul (c : Cl) (x : Ln) (hp : POk c) : nextW 4 c x = c.with_ x.r.toNat (rsp4 (rmulF (c.lo x.r.toNat) (c.lo x.s.toNat)) (rmulF (c.lo x.r.toNat) (c.hi x.s.toNat)) (rmulF (c.hi x.r.toNat) (c.lo x.s.toNat)) (rmulF (c.hi x.r.toNat) (c.hi x.s.toNat))).1
    (rsp4 (rmulF (c.lo x.r.toNat) (c.lo x.s.toNat)) (rmulF (c.lo x.r.toNat) (c.hi x.s.toNat)) (rmulF (c.hi x.r.toNat) (c.lo x.s.toNat)) (rmulF (c.hi x.r.toNat) (c.hi x.s.toNat))).2 := by
  have h1 := hp x.r.toNat
  have h2 := hp x.s.toNat
  unfold SpOk at h1 h2
  have i1 : In64 (c.lo x.r.toNat) := by unfold In64; omega
  have i2 : In64 (c.hi x.r.toNat) := by unfold In64; omega
  have i3 : In64 (c.lo x.s.toNat) := by unfold In64; omega
  have i4 : In64 (c.hi x.s.toNat) := by unfold In64; omega
  have e : amSp timesF (cornP (c.lo x.r.toNat) (c.hi x.r.toNat) (c.lo x.s.toNat) (c.hi x.s.toNat)) = _ := am4 timesF (c.lo x.r.toNat, c.lo x.s.toNat) (c.lo x.r.toNat, c.hi x.s.toNat) (c.hi x.r.toNat, c.lo x.s.toNat) (c.hi x.r.toNat, c.hi x.s.toNat) _ _ _ _ (times_alike _ _ i1 i3) (times_alike _ _ i1 i4) (times_alike _ _ i2 i3) (times_alike _ _ i2 i4) (times_in _ _) (times_in _ _) (times_in _ _) (times_in _ _)
  rw [← e]
  rfl
theorem next_div (c : Cl) (x : Ln) : nextW 6 c x = c.with_ x.r.toNat (rsp4 (rdivF (c.lo x.r.toNat) (c.lo x.s.toNat)) (rdivF (c.lo x.r.toNat) (c.hi x.s.toNat)) (rdivF (c.hi x.r.toNat) (c.lo x.s.toNat)) (rdivF (c.hi x.r.toNat) (c.hi x.s.toNat))).1
    (rsp4 (rdivF (c.lo x.r.toNat) (c.lo x.s.toNat)) (rdivF (c.lo x.r.toNat) (c.hi x.s.toNat)) (rdivF (c.hi x.r.toNat) (c.lo x.s.toNat)) (rdivF (c.hi x.r.toNat) (c.hi x.s.toNat))).2 := by
  have e : amSp byF (cornP (c.lo x.r.toNat) (c.hi x.r.toNat) (c.lo x.s.toNat) (c.hi x.s.toNat)) = _ := am4 byF (c.lo x.r.toNat, c.lo x.s.toNat) (c.lo x.r.toNat, c.hi x.s.toNat) (c.hi x.r.toNat, c.lo x.s.toNat) (c.hi x.r.toNat, c.hi x.s.toNat) _ _ _ _ (by_alike _ _) (by_alike _ _) (by_alike _ _) (by_alike _ _) (by_ok _ _) (by_ok _ _) (by_ok _ _) (by_ok _ _)
  rw [← e]
  rfl
/-- What holds of all claims of a search: their form; and one that is never speaks of nothing. -/
structure PS (p : List Cl) : Prop where
  wf : AllWF p
  nn : ∀ c ∈ p, c.never = true → ∀ k, c.has k = false
theorem PS.ok {p : List Cl} (h : PS p) {k : Nat} {c : Cl} (hc : p[k]? = some c) : POk c := (h.wf c (List.mem_of_getElem? hc)).ok
theorem joinAt_never (from_ to_ : Nat) (was ec : Cl) (n : Int) (h : ec.never = false) : (joinAt from_ to_ was ec n).never = false := by
  have hj : (joinF was ec).never = false := by
    unfold joinF
    split
    · exact h
    · rw [if_neg (by rw [h]; simp)]
      exact (joinK_at was ec 8 0).1
  unfold joinAt
  split
  · exact (letK_at _ _ 8 0).1.trans hj
  · exact hj
theorem PS.visit {st : List Cl × List Bool} (h : PS st.1) (ch : List Int) (k : Nat) (e : Int × Cl) (he : WF e.2) (hn : e.2.never = false) : PS (visit ch k st e).1 := by
  rcases visit_eq ch k st e h.wf he with ⟨_, q⟩ | ⟨_, q⟩
  · rw [q]; exact h
  · rw [q]
    refine ⟨fun c hc => ?_, fun c hc hcn => ?_⟩
    · rcases List.mem_or_eq_of_mem_set hc with h1 | h1
      · exact h.wf c h1
      · rw [h1]; exact joinAt_wf _ _ (getD_wf h.wf _) he _
    · rcases List.mem_or_eq_of_mem_set hc with h1 | h1
      · exact h.nn c h1 hcn
      · rw [h1, joinAt_never _ _ _ _ _ hn] at hcn; cases hcn
theorem PS.visits {ch : List Int} {k : Nat} (es : List (Int × Cl)) : ∀ {st : List Cl × List Bool}, PS st.1 → (∀ e ∈ es, WF e.2 ∧ e.2.never = false) → PS (es.foldl (Go.Proofs.YtngopilbpiplhaaGreatDoor.visit ch k) st).1 := by
  induction es with
  | nil => intro st h _; exact h
  | cons e es ih => intro st h he; exact ih (h.visit ch k e (he e (List.mem_cons_self ..)).1 (he e (List.mem_cons_self ..)).2) fun e' h' => he e' (List.mem_cons_of_mem _ h')
theorem PS.lineV {xs : List Ln} {ch : List Int} {st : List Cl × List Bool} (h : PS st.1) (k : Nat) (hx : ∀ x ∈ xs, XOk x) : PS (lineV xs ch st k).1 := PS.visits _ h (exitsF_wf xs st.1 k h.wf hx)
theorem ps_start (n : Nat) : PS (start0 n).1 := by
  refine ⟨fun c hc => ?_, fun c hc hcn => ?_⟩
  · rcases List.mem_or_eq_of_mem_set hc with h1 | h1
    · rw [List.eq_of_mem_replicate h1]; exact wf_never
    · rw [h1]; exact wf_with wf_none 0 (by omega) 0 64 (by unfold SpOk; omega)
  · rcases List.mem_or_eq_of_mem_set hc with h1 | h1
    · rw [List.eq_of_mem_replicate h1]; intro k; rfl
    · rw [h1] at hcn; cases hcn
theorem any_set (bs : List Bool) (t : Nat) (h : t < bs.length) : (bs.set t true).any id = true := by
  rw [List.any_eq_true]
  exact ⟨true, List.mem_iff_getElem.2 ⟨t, by simpa using h, by simp⟩, rfl⟩
theorem cnt_false (ch : List Int) : cntL ch (List.replicate ch.length false) = ch := by
  unfold cntL
  apply List.ext_getElem?
  intro j
  rw [List.getElem?_zipWith, List.getElem?_replicate]
  by_cases h : j < ch.length
  · rw [List.getElem?_eq_getElem h, if_pos h]; rfl
  · rw [List.getElem?_eq_none (by omega), if_neg h]
theorem cnt_set (ch : List Int) (bs : List Bool) (hl : ch.length = bs.length) (t : Nat) (ht : t < bs.length) (c : Int) (hc : ch[t]? = some c) : cntL ch (bs.set t true) = (cntL ch bs).set t (c + 1) := by
  unfold cntL
  apply List.ext_getElem?
  intro j
  rw [List.getElem?_zipWith]
  by_cases e : j = t
  · subst e
    rw [List.getElem?_set_self (by simpa using ht), List.getElem?_set_self (by simp [hl, ht]), hc]
    rfl
  · rw [List.getElem?_set_ne (by omega), List.getElem?_set_ne (by omega), List.getElem?_zipWith]
end Go.Proofs.YtngopilbpiplhaaGreatDoor

namespace Go.Proofs.YtngopilbpiplhaaGreatDoor
open Go.RowKit
set_option linter.unusedVariables false
set_option linter.unusedSimpArgs false
theorem rown_ge {w : World} {B g : Nat} {e : TypeId} {sz n : Nat} {v : Value} {xs : List Value} (h : w.ownsRow B e sz v n xs) (hg : v.ownBlock = some g) : B ≤ g := (World.ownsRow.lt h g hg).1
theorem below_own {B : Nat} {u w w' : World} {e : TypeId} {sz n : Nat} {v : Value} {xs : List Value} (h : Below B u w) (ho : w.ownsRow B e sz v n xs) (hg : w.grownBy w' v.ownBlock) (hB : B ≤ w.heap.size) : Below B u w' :=
  Below.grown h hg hB fun g hg' => rown_ge ho hg'
/-- One more behind a row that is owned. -/
theorem wpList_appG {ops : Array Oper} {rest : List Oper} {o : Oper} {a : Act} {w : World} {Q : Exit → Act → World → Prop} (hgd : o.guard = none) (s x : Operand) (t e : TypeId) (z : Value) (sz by' : Nat)
    (ho : o.op = .call { callee := .builtin .append, args := #[s, x], argTypes := #[t, t] })
    (hinfo : (Tryz.prog.info? e).map (fun i => (i.zero, i.size, i.bytes)) = some (some z, sz, by')) (ht : Tryz.prog.underlying t = some (.slice e)) (hzs : z.cells.size = sz) (hsz : 0 < sz)
    (B : Nat) (v : Value) (n : Nat) (xs : List Value) (hs : a.eval s = v) (hown : Hid (w.ownsRow B e sz v n xs)) (g : Nat) (SC : Array Value) (ty : TypeId) (hx : a.eval x = .slice (some ⟨g, 0, none⟩) 1 1) (hg : w.heap[g]? = some (.cells SC ty))
    (hl : SC.size = sz) (hone : SC.all (·.oneCell') = true) (h63 : n ≤ 100000000) (hby : by' ≤ 1000) (hB : B ≤ w.heap.size)
    (h : ∀ v' w', Hid (w'.ownsRow B e sz v' (n + 1) (xs ++ SC.toList)) → Hid (w.grownBy w' v.ownBlock) → wpList Tryz.prog ops Q rest (a.put o.dst v') w') : wpList Tryz.prog ops Q (o :: rest) a w := by
  obtain ⟨i0, hi0, hz0, hz1, hz2⟩ := info_parts hinfo
  refine wpList_append_own (P := Tryz.prog) (w := w) hgd s x t ho B e i0 z sz by' ht hi0 hz0 hz1 hz2 hzs hsz v n xs hs hown.out ⟨g, 0, none⟩ 1 1 SC.toList hx (by simp [hl]) ?_ ?_ (by unfold maxLen; omega) ?_ hB fun v' w' h2 h3 _ => h v' w' (hide h2) (hide h3)
  · intro k u hk
    have e : (⟨g, 0, none⟩ : Addr).add k = ⟨g, k, none⟩ := by unfold Addr.add; split <;> simp_all
    rw [e, cell_of_blk hg]
    simpa using hk
  · intro u hu
    rw [Array.all_eq_true_iff_forall_mem] at hone
    exact hone u (by simpa using hu)
  · have : (n + 1) * by' ≤ 100000001 * 1000 := Nat.mul_le_mul (by omega) hby
    omega
theorem cut_split {l : List UInt8} {f k : Nat} (hf : f ≤ k) (hk : k < l.length) : l.drop f = (l.drop f).take (k - f) ++ l[k] :: l.drop (k + 1) := by
  have h1 : (l.drop f).drop (k - f) = l[k] :: l.drop (k + 1) := by
    rw [List.drop_drop, show f + (k - f) = k by omega]
    exact List.drop_eq_getElem_cons hk
  rw [← h1, List.take_append_drop]
theorem cut_hit {c : UInt8} {l : List UInt8} {f k : Nat} (hf : f ≤ k) (hk : k < l.length) (hc : l[k] = c) (hm : c ∉ (l.drop f).take (k - f)) :
    cutAt c (l.drop f) = (l.drop f).take (k - f) :: cutAt c (l.drop (k + 1)) := by
  conv => lhs; rw [cut_split hf hk, hc]
  exact cutAt_hit c _ _ hm
theorem cut_miss {c : UInt8} {l : List UInt8} {f k : Nat} (hf : f ≤ k) (hk : k < l.length) (hc : l[k] ≠ c) (hm : c ∉ (l.drop f).take (k - f)) : c ∉ (l.drop f).take (k + 1 - f) := by
  have h1 : k - f < (l.drop f).length := by rw [List.length_drop]; omega
  rw [show k + 1 - f = (k - f) + 1 by omega, List.take_succ_eq_append_getElem h1]
  intro h
  rcases List.mem_append.1 h with h | h
  · exact hm h
  · rw [List.mem_singleton, List.getElem_drop] at h
    simp only [show f + (k - f) = k by omega] at h
    exact hc h.symm
theorem cut_end {c : UInt8} {l : List UInt8} {f : Nat} (hm : c ∉ (l.drop f).take (l.length - f)) : cutAt c (l.drop f) = [(l.drop f).take (l.length - f)] := by
  have e : (l.drop f).take (l.length - f) = l.drop f := List.take_of_length_le (by rw [List.length_drop]; omega)
  rw [e] at hm ⊢
  exact cutAt_miss c _ hm
theorem ext_list (l : List UInt8) (f k : Nat) : (⟨l.toArray⟩ : ByteArray).extract f k = ⟨((l.drop f).take (k - f)).toArray⟩ := by
  refine ByteArray.ext ?_
  rw [ByteArray.data_extract]
  apply Array.toList_inj.1
  rw [Array.toList_extract, List.extract_eq_take_drop]
/-- Texts as cells. -/
def strC (ps : List (List UInt8)) : List Value := ps.map fun p => .string ⟨p.toArray⟩
theorem strC_snoc (ps : List (List UInt8)) (p : List UInt8) : strC (ps ++ [p]) = strC ps ++ [.string ⟨p.toArray⟩] := by simp [strC]
theorem rinfoStr : (Tryz.prog.info? 9).map (fun i => (i.zero, i.size, i.bytes)) = some (some (.string ⟨#[]⟩), 1, 16) := by kernel_rfl
theorem bget (l : List UInt8) (k : Nat) (h : k < (⟨l.toArray⟩ : ByteArray).size) (h2 : k < l.length) : (⟨l.toArray⟩ : ByteArray)[k] = l[k] := rfl
set_option maxRecDepth 100000 in
set_option maxHeartbeats 4000000 in
theorem rcut_any (l : List UInt8) (c : UInt8) (ci : Int) (hci : ci = (c.toNat : Int)) (w : World) (hl : l.length ≤ 10000000) :
    Calls Tryz.prog 163 #[.string ⟨l.toArray⟩, .int .u8 ci] w fun e w' => ∃ v, e = .returned v ∧ w'.ownsRow w.heap.size 9 1 v (cutAt c l).length (strC (cutAt c l)) ∧ Below w.heap.size w w' := by
  have hsl : (⟨l.toArray⟩ : ByteArray).size = l.length := by simp [Lib.size_eq]
  have HSL := hide hsl
  have HCI := hide hci
  clear hsl hci
  go_enter Tryz.func163, Tryz.ntmps163
  go_wp2_with fail
  go_loopw [5, 6, 7] (fun v fr iv w' => ∃ (ps : List (List UInt8)) (f k : Nat), iv = .int .i64 k ∧ fr = .int .i64 f ∧ w'.ownsRow w.heap.size 9 1 v ps.length (strC ps) ∧ Below w.heap.size w w' ∧
    ((k ≤ l.length ∧ f ≤ k ∧ cutAt c l = ps ++ cutAt c (l.drop f) ∧ c ∉ (l.drop f).take (k - f)) ∨ (k = l.length + 1 ∧ ps = cutAt c l))) (fun _ _ iv _ => l.length + 1 - (intOf iv).toNat)
  case atStart => exact ⟨[], 0, 0, rfl, rfl, ⟨rfl, .inl ⟨rfl, rfl⟩⟩, Below.refl _ _, .inl ⟨Nat.zero_le _, Nat.zero_le _, by simp, by simp⟩⟩
  case round =>
    obtain ⟨ps, f, k, rfl, rfl, hO, hB, hor⟩ := hrel
    have HO := hide hO
    have HB := hide hB
    clear hO hB
    obtain ⟨W9, hW9⟩ : ∃ W : World, W = wr := ⟨_, rfl⟩
    subst hW9
    rcases hor with ⟨hk, hf, hcut, hno⟩ | ⟨rfl, rfl⟩
    · have hplen : ps.length ≤ l.length + 1 := by
        have h1 := congrArg List.length hcut
        have h2 := cutAt_len c l
        rw [List.length_append] at h1
        omega
      have HCUT := hide hcut
      have HNO := hide hno
      clear hcut hno
      have hkI : (k : Int) ≤ (l.length : Int) := by omega
      by_cases hkl : k = l.length
      · subst hkl
        have hfI : (f : Int) ≤ (l.length : Int) := by omega
        have HE := hide (cut_end (c := c) (l := l) (f := f) HNO.out)
        have hsz := HB.out.size
        go_wp2_with (first | (at_builtin; refine wpList_appG rfl (.tmp 25) (.tmp 30) 46 9 (.string ⟨#[]⟩) 1 16 rfl rinfoStr Tryz.underlying46 rfl (by decide) w.heap.size _ ps.length (strC ps) rfl (hide (HO.out.alloc _)) W9.heap.size _ 9 rfl (blk_new _ _) rfl (by simp [Value.oneCell']) (by omega) (by omega) (by rw [World.size_alloc]; omega) ?_) | go_in)
        intro v2 w2 hO2 hG2
        have HB2 := hide (below_own (HB.out.alloc hsz _) (HO.out.alloc _) hG2.out (by rw [World.size_alloc]; omega))
        clear hG2 HO HB
        rw [ext_list] at hO2
        go_wp2
        go_roundw
        case rel =>
          refine ⟨ps ++ [(l.drop f).take (l.length - f)], l.length + 1, l.length + 1, by go_num, by go_num, ?_, HB2.out, .inr ⟨rfl, ?_⟩⟩
          · rw [strC_snoc, List.length_append]; exact hO2.out
          · rw [HCUT.out, HE.out]
        case measure => first | (simp [intOf]; omega) | simp [intOf]
      · have hkl' : ((k : Int) == (l.length : Int)) = false := by rw [beq_eq_false_iff_ne]; omega
        have hklt : k < l.length := by omega
        have hks : k < (⟨l.toArray⟩ : ByteArray).size := by rw [HSL.out]; exact hklt
        by_cases hc : l[k] = c
        · have hc' : (((⟨l.toArray⟩ : ByteArray)[k]'hks).toNat : Int) = ci := by rw [bget l k hks hklt, hc, HCI.out]
          have hfI : (f : Int) ≤ (k : Int) := by omega
          have HE := hide (cut_hit hf hklt hc HNO.out)
          have hsz := HB.out.size
          clear hc
          go_wp2_with (first | (at_builtin; refine wpList_appG rfl (.tmp 25) (.tmp 30) 46 9 (.string ⟨#[]⟩) 1 16 rfl rinfoStr Tryz.underlying46 rfl (by decide) w.heap.size _ ps.length (strC ps) rfl (hide (HO.out.alloc _)) W9.heap.size _ 9 rfl (blk_new _ _) rfl (by simp [Value.oneCell']) (by omega) (by omega) (by rw [World.size_alloc]; omega) ?_) | go_in)
          intro v2 w2 hO2 hG2
          have HB2 := hide (below_own (HB.out.alloc hsz _) (HO.out.alloc _) hG2.out (by rw [World.size_alloc]; omega))
          clear hG2 HO HB
          rw [ext_list] at hO2
          go_wp2
          go_roundw
          case rel =>
            refine ⟨ps ++ [(l.drop f).take (k - f)], k + 1, k + 1, by go_num, by go_num, ?_, HB2.out, .inl ⟨by omega, Nat.le_refl _, ?_, by simp⟩⟩
            · rw [strC_snoc, List.length_append]; exact hO2.out
            · rw [HCUT.out, HE.out]; simp
          case measure => first | (simp [intOf]; omega) | simp [intOf]
        · have hc' : ((((⟨l.toArray⟩ : ByteArray)[k]'hks).toNat : Int) == ci) = false := by
            rw [beq_eq_false_iff_ne, bget l k hks hklt, HCI.out]
            intro q
            exact hc (UInt8.toNat_inj.1 (by omega))
          have HE := hide (cut_miss hf hklt hc HNO.out)
          clear hc
          go_wp2
          go_roundw
          case rel => exact ⟨ps, f, k + 1, by go_num, rfl, HO.out, HB.out, .inl ⟨by omega, by omega, HCUT.out, HE.out⟩⟩
          case measure => first | (simp [intOf]; omega) | simp [intOf]
    · have hno : ¬ ((l.length : Int) + 1 ≤ (l.length : Int)) := by omega
      go_wp2
      go_ret
      exact ⟨_, rfl, HO.out, HB.out⟩
end Go.Proofs.YtngopilbpiplhaaGreatDoor
