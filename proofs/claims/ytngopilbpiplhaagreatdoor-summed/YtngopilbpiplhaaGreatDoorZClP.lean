/-
  The search for a proof, as plain functions of the lines: rounds, joining, letting go; and the same reckoned strictly, for the kernel.
-/
import Derived.Test.YtngopilbpiplhaaGreatDoorZClF
import Derived.Test.YtngopilbpiplhaaGreatDoorZClL
import Derived.Test.YtngopilbpiplhaaGreatDoorZClM
import Derived.Test.YtngopilbpiplhaaGreatDoorZClS
namespace Go.Proofs.YtngopilbpiplhaaGreatDoor
open Go.RowKit

def t8 {α : Type} (z a0 a1 a2 a3 a4 a5 a6 a7 : α) : Nat → α
  | 0 => a0 | 1 => a1 | 2 => a2 | 3 => a3 | 4 => a4 | 5 => a5 | 6 => a6 | 7 => a7 | _ => z
def nrm (c : Cl) : Cl := ⟨c.never, t8 false (c.has 0) (c.has 1) (c.has 2) (c.has 3) (c.has 4) (c.has 5) (c.has 6) (c.has 7),
  t8 0 (c.lo 0) (c.lo 1) (c.lo 2) (c.lo 3) (c.lo 4) (c.lo 5) (c.lo 6) (c.lo 7), t8 0 (c.hi 0) (c.hi 1) (c.hi 2) (c.hi 3) (c.hi 4) (c.hi 5) (c.hi 6) (c.hi 7)⟩
def needW (i : Nat) (c : Cl) (x : Ln) : Bool := match i with
  | 7 => decide (0 ≤ c.lo x.s.toNat) && decide (c.hi x.s.toNat < 64)
  | _ => true
def metW (i : Nat) (c : Cl) (x : Ln) : Bool := metF (hasB (wTakes i) 82) (hasB (wTakes i) 83) (c.has x.r.toNat) (c.has x.s.toNat) (needW i c x)
def nextW (i : Nat) (c : Cl) (x : Ln) : Cl := match i with
  | 0 => c.with_ x.r.toNat x.n x.n
  | 2 => c.with_ x.r.toNat (addLo (c.lo x.r.toNat) (c.hi x.r.toNat) (c.lo x.s.toNat) (c.hi x.s.toNat)) (addHi (c.lo x.r.toNat) (c.hi x.r.toNat) (c.lo x.s.toNat) (c.hi x.s.toNat))
  | 7 => c.with_ x.r.toNat 0 255
  | 14 => if x.r.toNat = x.s.toNat then c else if c.hi x.r.toNat < c.lo x.s.toNat then clNever else
     (c.with_ x.r.toNat (max (c.lo x.r.toNat) (c.lo x.s.toNat)) (c.hi x.r.toNat)).with_ x.s.toNat (c.lo x.s.toNat) (min (c.hi x.s.toNat) (c.hi x.r.toNat))
  | _ => clNever
def jumpW (i : Nat) (c : Cl) (x : Ln) : Cl := match i with
  | 13 => c
  | 14 => if x.r.toNat = x.s.toNat then clNever else if c.hi x.s.toNat ≤ c.lo x.r.toNat then clNever else
     (c.with_ x.r.toNat (c.lo x.r.toNat) (min (c.hi x.r.toNat) (wrap64 (c.hi x.s.toNat - 1)))).with_ x.s.toNat (max (c.lo x.s.toNat) (wrap64 (c.lo x.r.toNat + 1))) (c.hi x.s.toNat)
  | _ => clNever
def exW (i : Nat) (at_ : Int) (c : Cl) (x : Ln) : List (Int × Cl) :=
  (if (nextW i c x).never then [] else [(at_ + 1, nextW i c x)]) ++ (if (jumpW i c x).never then [] else [(x.n, jumpW i c x)])
def joinAt (from_ to_ : Nat) (was ec : Cl) (chg : Int) : Cl := if to_ ≤ from_ ∧ 6 < chg then letK (joinF was ec) was 8 else joinF was ec
def clEq (c d : Cl) : Bool := c.never == d.never && (List.range 8).all fun k => c.has k == d.has k && c.lo k == d.lo k && c.hi k == d.hi k
def visit (ch : List Int) (from_ : Nat) (st : List Cl × List Bool) (e : Int × Cl) : List Cl × List Bool :=
  let to_ := e.1.toNat
  let was := st.1.getD to_ clNone
  let now := nrm (joinAt from_ to_ was e.2 (ch.getD to_ 0))
  if clEq now was then st else (st.1.set to_ now, st.2.set to_ true)
def exitsF (xs : List Ln) (p : List Cl) (at_ : Nat) : List (Int × Cl) :=
  match xs[at_]?, p[at_]? with
  | some x, some c => if c.never || !metW x.word.toNat c x then [] else exW x.word.toNat at_ c x
  | _, _ => []
def lineV (xs : List Ln) (ch : List Int) (st : List Cl × List Bool) (at_ : Nat) : List Cl × List Bool := (exitsF xs st.1 at_).foldl (visit ch at_) st
def roundF (xs : List Ln) (st : List Cl × List Int) : List Cl × List Bool := (List.range xs.length).foldl (lineV xs st.2) (st.1, List.replicate xs.length false)
def cntL (ch : List Int) (bs : List Bool) : List Int := List.zipWith (fun c b => if b then c + 1 else c) ch bs
def start0 (n : Nat) : List Cl × List Int := ((List.replicate n clNever).set 0 clStart, List.replicate n 0)
def after (xs : List Ln) (st : List Cl × List Int) : List Cl × List Int := ((roundF xs st).1, cntL st.2 (roundF xs st).2)
/-- Are a line's needs not met, though a run may come to it? -/
def unmetAt (xs : List Ln) (p : List Cl) (k : Nat) : Bool := match xs[k]?, p[k]? with
  | some x, some c => !c.never && !metW x.word.toNat c x
  | _, _ => false
def unmetF (xs : List Ln) (p : List Cl) : Option Nat := (List.range xs.length).find? (unmetAt xs p)
def searchF (xs : List Ln) : Nat → List Cl × List Int → Option (List Cl × List Int)
  | 0, _ => none
  | f + 1, st => if (roundF xs st).2.any id then searchF xs f (after xs st) else some (after xs st)

def fB {α : Type} (b : Bool) (k : Bool → α) : α := match b with | true => k true | false => k false
def fI {α : Type} (a : Int) (k : Int → α) : α := match a with
  | .ofNat n => (match n with | 0 => k 0 | m + 1 => k (.ofNat (m + 1)))
  | .negSucc n => (match n with | 0 => k (.negSucc 0) | m + 1 => k (.negSucc (m + 1)))
theorem fB_eq {α : Type} (b : Bool) (k : Bool → α) : fB b k = k b := by cases b <;> rfl
theorem fI_eq {α : Type} (a : Int) (k : Int → α) : fI a k = k a := by
  unfold fI; split
  · split <;> rfl
  · split <;> rfl
def fC {α : Type} (c : Cl) (k : Cl → α) : α :=
  fB c.never fun v => fB (c.has 0) fun h0 => fB (c.has 1) fun h1 => fB (c.has 2) fun h2 => fB (c.has 3) fun h3 => fB (c.has 4) fun h4 => fB (c.has 5) fun h5 => fB (c.has 6) fun h6 => fB (c.has 7) fun h7 =>
  fI (c.lo 0) fun l0 => fI (c.lo 1) fun l1 => fI (c.lo 2) fun l2 => fI (c.lo 3) fun l3 => fI (c.lo 4) fun l4 => fI (c.lo 5) fun l5 => fI (c.lo 6) fun l6 => fI (c.lo 7) fun l7 =>
  fI (c.hi 0) fun u0 => fI (c.hi 1) fun u1 => fI (c.hi 2) fun u2 => fI (c.hi 3) fun u3 => fI (c.hi 4) fun u4 => fI (c.hi 5) fun u5 => fI (c.hi 6) fun u6 => fI (c.hi 7) fun u7 =>
  k ⟨v, t8 false h0 h1 h2 h3 h4 h5 h6 h7, t8 0 l0 l1 l2 l3 l4 l5 l6 l7, t8 0 u0 u1 u2 u3 u4 u5 u6 u7⟩
theorem fC_eq {α : Type} (c : Cl) (k : Cl → α) : fC c k = k (nrm c) := by
  unfold fC nrm; simp only [fB_eq, fI_eq]
def fL {β α : Type} : List β → (List β → α) → α
  | [], k => k []
  | a :: t, k => fL t fun t' => k (a :: t')
theorem fL_eq {β α : Type} (l : List β) : ∀ (k : List β → α), fL l k = k l := by
  induction l with
  | nil => intro k; rfl
  | cons a t ih => intro k; exact ih _

def visitK {α : Type} (ch : List Int) (from_ : Nat) (p : List Cl) (bs : List Bool) (e : Int × Cl) (k : List Cl → List Bool → α) : α :=
  fC (joinAt from_ e.1.toNat (p.getD e.1.toNat clNone) e.2 (ch.getD e.1.toNat 0)) fun now =>
  if clEq now (p.getD e.1.toNat clNone) then k p bs else fL (p.set e.1.toNat now) fun p' => fL (bs.set e.1.toNat true) fun bs' => k p' bs'
theorem visitK_eq {α : Type} (ch : List Int) (from_ : Nat) (p : List Cl) (bs : List Bool) (e : Int × Cl) (k : List Cl → List Bool → α) :
    visitK ch from_ p bs e k = k (visit ch from_ (p, bs) e).1 (visit ch from_ (p, bs) e).2 := by
  unfold visitK visit
  simp only [fC_eq, fL_eq]
  split <;> simp_all
def foldK {α : Type} (ch : List Int) (from_ : Nat) : List (Int × Cl) → List Cl → List Bool → (List Cl → List Bool → α) → α
  | [], p, bs, k => k p bs
  | e :: es, p, bs, k => visitK ch from_ p bs e fun p' bs' => foldK ch from_ es p' bs' k
theorem foldK_eq {α : Type} (ch : List Int) (from_ : Nat) (es : List (Int × Cl)) : ∀ (p : List Cl) (bs : List Bool) (k : List Cl → List Bool → α),
    foldK ch from_ es p bs k = k (es.foldl (visit ch from_) (p, bs)).1 (es.foldl (visit ch from_) (p, bs)).2 := by
  induction es with
  | nil => intro p bs k; rfl
  | cons e es ih => intro p bs k; simp only [foldK, visitK_eq, ih, List.foldl_cons]
def linesK {α : Type} (xs : List Ln) (ch : List Int) : List Nat → List Cl → List Bool → (List Cl → List Bool → α) → α
  | [], p, bs, k => k p bs
  | a :: ks, p, bs, k => foldK ch a (exitsF xs p a) p bs fun p' bs' => linesK xs ch ks p' bs' k
theorem linesK_eq {α : Type} (xs : List Ln) (ch : List Int) (ks : List Nat) : ∀ (p : List Cl) (bs : List Bool) (k : List Cl → List Bool → α),
    linesK xs ch ks p bs k = k (ks.foldl (lineV xs ch) (p, bs)).1 (ks.foldl (lineV xs ch) (p, bs)).2 := by
  induction ks with
  | nil => intro p bs k; rfl
  | cons a ks ih => intro p bs k; simp only [linesK, foldK_eq, ih, List.foldl_cons, lineV]
def fIs {α : Type} : List Int → (List Int → α) → α
  | [], k => k []
  | a :: t, k => fI a fun a' => fIs t fun t' => k (a' :: t')
theorem fIs_eq {α : Type} (l : List Int) : ∀ (k : List Int → α), fIs l k = k l := by
  induction l with
  | nil => intro k; rfl
  | cons a t ih => intro k; simp only [fIs, fI_eq, ih]
def searchK (xs : List Ln) (good : List Cl → Bool) : Nat → List Cl → List Int → Bool
  | 0, _, _ => false
  | f + 1, p, ch => linesK xs ch (List.range xs.length) p (List.replicate xs.length false) fun p' bs' =>
      fIs (cntL ch bs') fun ch' => if bs'.any id then searchK xs good f p' ch' else good p'
theorem searchK_eq (xs : List Ln) (good : List Cl → Bool) : ∀ (f : Nat) (p : List Cl) (ch : List Int),
    searchK xs good f p ch = match searchF xs f (p, ch) with | none => false | some st => good st.1 := by
  intro f
  induction f with
  | zero => intro p ch; rfl
  | succ f ih =>
    intro p ch
    simp only [searchK, linesK_eq, fIs_eq, searchF, ih, after, roundF]
    by_cases h : (List.foldl (lineV xs ch) (p, List.replicate xs.length false) (List.range xs.length)).snd.any id = true
    · simp only [h, if_true]
    · simp only [h, if_false, Bool.false_eq_true]

end Go.Proofs.YtngopilbpiplhaaGreatDoor
