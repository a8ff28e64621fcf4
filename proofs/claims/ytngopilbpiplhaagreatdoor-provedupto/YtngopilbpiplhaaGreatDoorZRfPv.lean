/-
  wardlaw.prove and wardlaw.Proved answer true.
-/
import Derived.Test.YtngopilbpiplhaaGreatDoorZRfZ
namespace Go.Proofs.YtngopilbpiplhaaGreatDoor
open Go.RowKit
set_option linter.unusedVariables false
set_option linter.unusedSimpArgs false
set_option maxRecDepth 100000 in
set_option maxHeartbeats 2000000 in
theorem rProve_bad (l : List UInt8) (w : World) (hl : l.length ≤ 10000000) (hn : ¬ Good l) :
    Calls Tryz.prog 38 #[.string ⟨l.toArray⟩] w fun e w' => (∃ c p : Int, e = .returned (.tuple #[.string ⟨#[]⟩, .int .i64 c, .int .i64 p]) ∧ Bad l c p) ∧ Below w.heap.size w w' := by
  go_enter Tryz.func38, Tryz.ntmps38
  go_wp2_with fail
  refine (rRead_any l _ hl).mono ?_
  rintro e w1 ⟨hres, hb1⟩
  rcases hres with ⟨gl, gcap, rfl, hgood, _⟩ | ⟨c, p, rfl, hbad⟩
  · exact absurd hgood hn
  · have HBAD := hide hbad
    have HB := hide hb1
    have hc0 : ¬ c = 0 := by rcases hbad with ⟨_, h, _⟩ | ⟨_, i, _, h, _⟩ | ⟨_, _, i, _, h, _⟩ | ⟨_, _, _, h, _⟩ <;> omega
    clear hbad hb1
    go_wp2
    go_ret3
    exact ⟨⟨c, p, rfl, HBAD.out⟩, HB.out⟩
set_option maxHeartbeats 400000 in
theorem num_any (n : Int) (w : World) : Calls Tryz.prog 37 #[.int .i64 n] w fun e w' => e = .returned (.int .i64 n) ∧ w' = w := by
  go_enter Tryz.func37, Tryz.ntmps37
  go_wp2
  go_ret
  exact ⟨rfl, rfl⟩
set_option maxRecDepth 100000 in
set_option maxHeartbeats 4000000 in
theorem rprove_any (l : List UInt8) (w : World) (hl : l.length ≤ 10000000) (hg : Glob w) (hp : PowT w) :
    Calls Tryz.prog 16 #[.string ⟨l.toArray⟩] w fun e w' => e = .returned (.bool true) ∧ Below w.heap.size w w' := by
  have key : ∀ (T : List UInt8) (c p : Int), (Calls Tryz.prog 17 #[.string ⟨l.toArray⟩] w fun e w' => e = .returned (.tuple #[.string ⟨T.toArray⟩, .int .i64 c, .int .i64 p]) ∧ Below w.heap.size w w') →
      (∀ w1 : World, Calls Tryz.prog 38 #[.string ⟨l.toArray⟩] w1 fun e w' => e = .returned (.tuple #[.string ⟨T.toArray⟩, .int .i64 c, .int .i64 p]) ∧ Below w1.heap.size w1 w') →
      Calls Tryz.prog 16 #[.string ⟨l.toArray⟩] w fun e w' => e = .returned (.bool true) ∧ Below w.heap.size w w' := by
    intro T c p h1 h2
    have H1 := hide h1
    have H2 := hide h2
    clear h1 h2
    go_enter Tryz.func16, Tryz.ntmps16
    go_wp2_with fail
    refine H1.out.mono ?_
    rintro e w1 ⟨rfl, hb1⟩
    have HB1 := hide hb1
    clear hb1
    go_wp2_with fail
    refine (H2.out w1).mono ?_
    rintro e w2 ⟨rfl, hb2⟩
    have HB2 := hide (HB1.out.trans (hb2.mono HB1.out.size))
    clear hb2
    go_wp2_with fail
    refine (num_any c w2).mono ?_
    rintro e w3 ⟨rfl, hw3⟩
    obtain rfl := hw3.symm
    clear hw3
    go_wp2
    go_ret
    exact ⟨rfl, HB2.out⟩
  by_cases h : Good l
  · obtain ⟨f, hf, END, hE, hao, hprog⟩ := wProve_good l w (by omega) h hg hp
    cases hu : unmetF (progF l) END.1 with
    | none =>
      refine key (proofT END.1) 0 0 (hprog.mono ?_) fun w1 => (rProve_good l w1 hl h f hf END hE hao).mono ?_
      all_goals
        rintro e w' ⟨⟨k, hk, rfl⟩ | ⟨hk, rfl⟩, hb⟩
        · rw [hu] at hk; cases hk
        · exact ⟨rfl, hb⟩
    | some j =>
      refine key [] 7 (j : Int) (hprog.mono ?_) fun w1 => (rProve_good l w1 hl h f hf END hE hao).mono ?_
      all_goals
        rintro e w' ⟨⟨k, hk, rfl⟩ | ⟨hk, rfl⟩, hb⟩
        · rw [hu] at hk; cases hk; exact ⟨rfl, hb⟩
        · rw [hu] at hk; cases hk
  · have H1 := hide (wProve_bad l w (by omega) h hg)
    have H2 := hide fun w1 : World => rProve_bad l w1 hl h
    clear hg hp key h
    go_enter Tryz.func16, Tryz.ntmps16
    go_wp2_with fail
    refine H1.out.mono ?_
    rintro e w1 ⟨⟨c, p, rfl, hbad⟩, hb1⟩
    have HB1 := hide hb1
    have HBAD := hide hbad
    clear hb1 hbad
    go_wp2_with fail
    refine (H2.out w1).mono ?_
    rintro e w2 ⟨⟨c', p', rfl, hbad⟩, hb2⟩
    obtain ⟨rfl, rfl⟩ := bad_one HBAD.out hbad
    have HB2 := hide (HB1.out.trans (hb2.mono HB1.out.size))
    clear hb2 hbad HBAD
    go_wp2_with fail
    refine (num_any c w2).mono ?_
    rintro e w3 ⟨rfl, hw3⟩
    obtain rfl := hw3.symm
    clear hw3
    go_wp2
    go_ret
    exact ⟨rfl, HB2.out⟩
set_option maxRecDepth 100000 in
set_option maxHeartbeats 4000000 in
theorem Proved_any (l m : List UInt8) (w : World) (hl : l.length ≤ 10000000) (hm : m.length ≤ 10000000) (hg : Glob w) (hp : PowT w) :
    Calls Tryz.prog 5 #[.string ⟨l.toArray⟩, .string ⟨m.toArray⟩] w fun e w' => e = .returned (.bool true) ∧ Below w.heap.size w w' := by
  have hg8 := hg.size
  have hR : ∀ (t : List UInt8) (W : World), t.length ≤ 10000000 → Below w.heap.size w W → Calls Tryz.prog 16 #[.string ⟨t.toArray⟩] W fun e w' => e = .returned (.bool true) ∧ Below w.heap.size w w' := by
    intro t W ht hb
    refine (rprove_any t W ht (hg.below hb hg8) (hp.mono (hb.block _ (by omega)))).mono ?_
    rintro e w' ⟨rfl, hb'⟩
    exact ⟨rfl, hb.trans (hb'.mono hb.size)⟩
  have HR := hide hR
  clear hR hg hp
  go_enter Tryz.func5, Tryz.ntmps5
  go_wp2_with fail
  refine (HR.out l w hl (Below.refl _ _)).mono ?_
  rintro e w1 ⟨rfl, hb1⟩
  have HB1 := hide hb1
  clear hb1
  go_wp2_with fail
  refine (HR.out m w1 hm HB1.out).mono ?_
  rintro e w2 ⟨rfl, hb2⟩
  have HB2 := hide hb2
  clear hb2
  go_wp2_with fail
  refine (HR.out l w2 hl HB2.out).mono ?_
  rintro e w3 ⟨rfl, hb3⟩
  have HB3 := hide hb3
  clear hb3
  go_wp2_with fail
  refine (HR.out _ w3 (by decide) HB3.out).mono ?_
  rintro e w4 ⟨rfl, hb4⟩
  have HB4 := hide hb4
  clear hb4
  go_wp2_with fail
  refine (HR.out _ w4 (by decide) HB4.out).mono ?_
  rintro e w5 ⟨rfl, hb5⟩
  have HB5 := hide hb5
  clear hb5
  go_wp2_with fail
  refine (HR.out _ w5 (by decide) HB5.out).mono ?_
  rintro e w6 ⟨rfl, hb6⟩
  have HB6 := hide hb6
  clear hb6
  go_wp2
  go_ret
  exact ⟨rfl, HB6.out⟩
end Go.Proofs.YtngopilbpiplhaaGreatDoor
