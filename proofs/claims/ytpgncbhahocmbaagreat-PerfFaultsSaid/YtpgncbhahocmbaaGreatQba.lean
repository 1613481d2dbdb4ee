/-
  What layer 10's laws say, of the goal as it is reckoned. No program here but its types.
  What a worker earned in a week, and how much that is. No program here.
  One fault more: what PerfFaults asks. No program here.
  The seconds of all weeks' tasks are those of direct work; what PerfWeeks asks. No program here.
  Without faults what was earned is the sum of the goals; what PerfGoals asks. No program here.
  The document's own answer of layer 18: a part's event, the week's faults.
  What package perf's own steps make: plain facts.
  Perf's own steps: a worker's events, how many seconds parts have, the week's faults.
  The document's own answer of layer 18: what was earned, and which tier that is.
-/
import Derived.Test.YtpgncbhahocmbaaGreatQaz
import Derived.Test.YtpgncbhahocmbaaGreatQay
import Derived.Test.YtpgncbhahocmbaaGreatQas
import Derived.Test.YtpgncbhahocmbaaGreatQau
import Derived.Test.YtpgncbhahocmbaaGreatQab
import Derived.Test.YtpgncbhahocmbaaGreatQaw
import Derived.Test.YtpgncbhahocmbaaGreatQad
import Derived.Test.YtpgncbhahocmbaaGreatQap
import Derived.Test.YtpgncbhahocmbaaGreatQah
import Derived.Test.YtpgncbhahocmbaaGreatQao
import Derived.Test.YtpgncbhahocmbaaGreatQaa
import Derived.Test.YtpgncbhahocmbaaGreatQai
import Derived.Test.YtpgncbhahocmbaaGreatQan
import Derived.Test.YtpgncbhahocmbaaGreatQak
import Derived.Deep.DeepCutAuto
import Derived.Test.YtpgncbhahocmbaaGreatProg
import Derived.OpenShut
import Derived.Laws.Cover1
import Derived.WalkKit
import Derived.WalkLawsBesides
import Derived.Lib.Hide
import Derived.IntWalk
import Derived.Lib.SliceRun
import Derived.WalkMore
import Derived.ScopeJumps
import Derived.Laws.BytesArg
import Derived.Laws.Slices
import Derived.RegionTactic
import Derived.Lib.SlBytesConst
import Derived.Test.YtpgncbhahocmbaaGreatQar
import Derived.Laws.Rows
import Derived.Test.YtpgncbhahocmbaaGreatQav
import Derived.Deep.RegionHeld3
import Derived.Test.YtpgncbhahocmbaaGreatQac
namespace Go.Proofs.YtpgncbhahocmbaaGreat
open Go.RowKit
set_option linter.unusedVariables false
set_option linter.unusedSimpArgs false
set_option maxRecDepth 20000

theorem task_shares {s : SetP} {e : EvP} (h : TaskP s e) : Shares (farV s e.fr e.to) s.pn s.pd (rowN s.gears e.ge.toNat 0) (rowN s.gears e.ge.toNat 1) (rowN s.elements e.el.toNat 0) (rowN s.elements e.el.toNat 1) (rowN s.elements e.el.toNat 2) (rowN s.elements e.el.toNat 3)
    (rowN s.classes e.cl.toNat 0) (rowN s.classes e.cl.toNat 1) s.allow := by
  have hM := check_iff.1 h.1
  have hT := task_in h.2.1 h.2.2.1
  have hD := far_bd hM e.fr e.to
  have hE := row_in hM.elements.2 (k := e.el.toNat) (by have := hT.el; omega)
  exact ⟨by have := h.2.2.2; omega, hM.pace, row_in hM.gears.2 (k := e.ge.toNat) (by have := hT.ge; omega), hE.1, hE.2, row_in hM.classes.2 (k := e.cl.toNat) (by have := hT.cl; omega), hM.allow⟩
theorem goal_bad {D pn pd gn gd U fn fd un ud cn cd al : Int} (h : (goalR D pn pd gn gd U fn fd un ud cn cd al).c ≠ 0) : (goalR D pn pd gn gd U fn fd un ud cn cd al).n = 0 ∧ (goalR D pn pd gn gd U fn fd un ud cn cd al).d = 0 := by
  have z : ∀ {r : Rat2} {f : Int → Int → Rat2}, (∀ a b, (f a b).c ≠ 0 → (f a b).n = 0 ∧ (f a b).d = 0) → (onR r f).c ≠ 0 → (onR r f).n = 0 ∧ (onR r f).d = 0 := by
    intro r f hf h
    unfold onR at h ⊢
    by_cases hr : r.c = 0
    · rw [if_pos hr] at h ⊢; exact hf _ _ h
    · rw [if_neg hr]; exact ⟨rfl, rfl⟩
  unfold goalR at h ⊢
  exact z (fun _ _ => z (fun _ _ => z (fun _ _ => z (fun _ _ => z (fun _ _ => z (fun a b => mulR_z _ _ _ _)))))) h
theorem goalE_three {s : SetP} {e : EvP} {X : Rat2} (hX : goalE s e = X) :
    X.c = 0 ∧ mayB X.n X.d = true ∧ 0 ≤ X.n ∧ TaskP s e ∨ X = ⟨0, 0, 10⟩ ∧ TaskP s e ∨ X = ⟨0, 0, 100⟩ ∧ ¬ TaskP s e := by
  subst hX
  by_cases h : TaskP s e
  · have hs := task_shares h
    have hM := check_iff.1 h.1
    have hT := task_in h.2.1 h.2.2.1
    have hD := far_bd hM e.fr e.to
    rw [goalE_yes h]
    unfold goalC
    rcases goal_ten (U := e.un) hs (by omega) (by have := hT.un; omega) with q | q
    · exact .inl ⟨q, (goal_may hs hT.un.1 q).1, (goal_may hs hT.un.1 q).2, h⟩
    · exact .inr (.inl ⟨rat2_ext (goal_bad (by rw [q]; decide)).1 (goal_bad (by rw [q]; decide)).2 q, h⟩)
  · exact .inr (.inr ⟨goalE_no h, h⟩)
end Go.Proofs.YtpgncbhahocmbaaGreat

namespace Go.Proofs.YtpgncbhahocmbaaGreat
set_option linter.unusedVariables false
set_option linter.unusedSimpArgs false

structure DoneP where
  en : Int
  ed : Int
  el : Int
  pn : Int
  pd : Int
  er : Int
def mayS (s : SetP) (e : EvP) : Bool := decide (EvIn s e)
def isTk (may : EvP → Bool) (wk id : Int) (e : EvP) : Bool := may e && decide (e.wk = wk) && decide (e.kd = 3) && decide (e.id = id)
/-- A part's event. -/
def taskP (may : EvP → Bool) (wk id : Int) (l : List EvP) : EvP := ((sortE l).find? (isTk may wk id)).getD EvP.none
def ofWk (k : Int) (x : SegP) : Bool := decide (x.kd = 1) && decide (weekP x.fr = k)
/-- A week's tasks. -/
def tasksP (s : SetP) (wk k : Int) (l : List EvP) : List SegP := (segsOf s wk l).filter (ofWk k)
noncomputable def goalX (s : SetP) (wk : Int) (l : List EvP) (x : SegP) : Rat2 := goalE s (taskP (mayS s) wk x.id l)
def secsP : List SegP → Int
  | [] => 0
  | x :: t => (x.to - x.fr) + secsP t
def wrongP : List Rat2 → Int
  | [] => 0
  | g :: t => if g.c ≠ 0 then g.c else wrongP t
def ratsP (l : List Rat2) : List (Int × Int) := l.map fun g => (g.n, g.d)
def isLost (may : EvP → Bool) (wk k : Int) (e : EvP) : Bool := may e && decide (e.wk = wk) && decide (e.kd = 7) && decide (weekP e.tm = k)
/-- How many faults the week has. -/
def lostP (may : EvP → Bool) (wk k : Int) (l : List EvP) : Nat := (l.filter (isLost may wk k)).length
def cutR (r : Rat2) : Rat2 := if r.c ≠ 0 then ⟨0, 0, r.c⟩ else if r.n < 0 then ⟨0, 1, 0⟩ else r
/-- What was earned: the sum, less what the faults take. -/
def earnP (F : Int) (gs : List Rat2) (lost : Nat) : Rat2 :=
  if (sumR (ratsP gs)).c ≠ 0 then ⟨0, 0, (sumR (ratsP gs)).c⟩
  else if (mkR (F * lost) 1).c ≠ 0 then ⟨0, 0, (mkR (F * lost) 1).c⟩
  else cutR (minusR (sumR (ratsP gs)).n (sumR (ratsP gs)).d (mkR (F * lost) 1).n (mkR (F * lost) 1).d)
def doneP (n : Int) (e : Int) (X : Rat2) : DoneP :=
  if e ≠ 0 then ⟨0, 0, n, 0, 0, e⟩
  else if X.c ≠ 0 then ⟨0, 0, n, 0, 0, X.c⟩
  else if n = 0 then ⟨X.n, X.d, 0, 0, 1, 0⟩
  else if (mkR n 1).c ≠ 0 then ⟨0, 0, n, 0, 0, (mkR n 1).c⟩
  else if (divR X.n X.d (mkR n 1).n (mkR n 1).d).c ≠ 0 then ⟨0, 0, n, 0, 0, (divR X.n X.d (mkR n 1).n (mkR n 1).d).c⟩
  else ⟨X.n, X.d, n, (divR X.n X.d (mkR n 1).n (mkR n 1).d).n, (divR X.n X.d (mkR n 1).n (mkR n 1).d).d, 0⟩
/-- The document's answer. -/
noncomputable def perfP (b : Bool) (s : SetP) (wk k : Int) (l : List EvP) : DoneP :=
  if b = true then doneP (secsP (tasksP s wk k l)) (wrongP ((tasksP s wk k l).map (goalX s wk l))) (earnP s.fault ((tasksP s wk k l).map (goalX s wk l)) (lostP (mayS s) wk k l)) else ⟨0, 1, 0, 0, 1, 0⟩
/-! ### Tiers -/
def leastT (ts : Rows2) (i : Nat) : Int := (ts.getD i []).getD 0 0
def topN (ts : Rows2) (n d : Int) : Nat → Int
  | 0 => -1
  | i + 1 => if leastT ts i * d ≤ 100 * n then i else topN ts n d i
/-- The last tier that a performance reaches. -/
def topT (b : Bool) (ts : Rows2) (n d : Int) : Int := if b = true ∧ mayB n d = true then topN ts n d ts.length else -1
theorem top_bd (ts : Rows2) (n d : Int) : ∀ i, -1 ≤ topN ts n d i ∧ topN ts n d i < i
  | 0 => by simp [topN]
  | i + 1 => by
    have := top_bd ts n d i
    unfold topN
    split <;> omega
theorem top_in (ts : Rows2) (n d : Int) : ∀ i (t : Nat), topN ts n d i = t → leastT ts t * d ≤ 100 * n
  | 0, t, h => by unfold topN at h; omega
  | i + 1, t, h => by
    unfold topN at h
    split at h
    · obtain rfl : i = t := by omega
      assumption
    · exact top_in ts n d i t h
theorem top_out (ts : Rows2) (n d : Int) : ∀ i (j : Nat), topN ts n d i < j → j < i → ¬ leastT ts j * d ≤ 100 * n
  | 0, j, _, h => by omega
  | i + 1, j, h, hj => by
    unfold topN at h
    split at h
    · omega
    · by_cases e : j = i
      · subst e; assumption
      · exact top_out ts n d i j h (by omega)
/-- A greater one's is no lesser. -/
theorem top_rises (ts : Rows2) {n d m e : Int} (hl : ∀ i, i < ts.length → 0 ≤ leastT ts i) (hd : 0 < d) (he : 0 < e) (h : n * e ≤ m * d) : topN ts n d ts.length ≤ topN ts m e ts.length := by
  have b1 := top_bd ts n d ts.length
  have b2 := top_bd ts m e ts.length
  by_cases q : topN ts n d ts.length ≤ topN ts m e ts.length
  · exact q
  · exfalso
    obtain ⟨t, ht⟩ : ∃ t : Nat, topN ts n d ts.length = t := ⟨(topN ts n d ts.length).toNat, by omega⟩
    have h1 := top_in ts n d _ t ht
    have h2 := top_out ts m e ts.length t (by omega) (by omega)
    apply h2
    generalize leastT ts t = L at *
    have : L * d * e ≤ 100 * n * e := Int.mul_le_mul_of_nonneg_right h1 (by omega)
    have h3 : 100 * n * e ≤ 100 * m * d := by rw [Int.mul_assoc, Int.mul_assoc]; omega
    have h4 : L * e * d ≤ 100 * m * d := by
      have : L * e * d = L * d * e := by rw [Int.mul_assoc, Int.mul_comm e d, ← Int.mul_assoc]
      omega
    exact Int.le_of_mul_le_mul_right h4 hd
/-! ### Loops -/
theorem secs_snoc : ∀ (l : List SegP) (x : SegP), secsP (l ++ [x]) = secsP l + (x.to - x.fr)
  | [], x => by simp [secsP]
  | y :: l, x => by rw [List.cons_append]; simp only [secsP]; rw [secs_snoc l x]; omega
theorem secs_bd {lo hi : Int} : ∀ {l : List SegP}, SegsUp lo l → (∀ x ∈ l, x.to ≤ hi) → lo ≤ hi → 0 ≤ secsP l ∧ secsP l ≤ hi - lo
  | [], _, _, h => by simp only [secsP]; omega
  | x :: t, hu, hb, h => by
    obtain ⟨h1, h2, h3⟩ := hu
    have := secs_bd h3 (fun y hy => hb y (by simp [hy])) (hb x (by simp))
    simp only [secsP]
    omega
theorem up_filter (p : SegP → Bool) : ∀ {l : List SegP} {lo : Int}, SegsUp lo l → SegsUp lo (l.filter p)
  | [], _, _ => trivial
  | x :: t, lo, h => by
    obtain ⟨h1, h2, h3⟩ := h
    rw [List.filter_cons]
    split
    · exact ⟨h1, h2, up_filter p h3⟩
    · exact up_filter p (segsUp_less h3 (by omega))
/-! ### PerfAlone -/
theorem find_filter {α : Type} {p q : α → Bool} : ∀ {l : List α}, (∀ x, q x = true → p x = true) → (l.filter p).find? q = l.find? q
  | [], _ => rfl
  | x :: l, h => by
    rw [List.filter_cons]
    by_cases hq : q x = true
    · rw [if_pos (h x hq), List.find?_cons_of_pos hq, List.find?_cons_of_pos hq]
    · split
      · rw [List.find?_cons_of_neg hq, List.find?_cons_of_neg hq, find_filter h]
      · rw [List.find?_cons_of_neg hq, find_filter h]
def isOwn (may : EvP → Bool) (wk : Int) (e : EvP) : Bool := decide (e.wk = wk) && may e
theorem task_own (may : EvP → Bool) (wk id : Int) (l : List EvP) : taskP may wk id (l.filter (isOwn may wk)) = taskP may wk id l := by
  unfold taskP
  rw [sort_filter, find_filter fun x hx => ?_]
  simp only [isTk, isOwn, Bool.and_eq_true] at hx ⊢
  exact ⟨hx.1.1.2, hx.1.1.1⟩
theorem lost_own (may : EvP → Bool) (wk k : Int) (l : List EvP) : lostP may wk k (l.filter (isOwn may wk)) = lostP may wk k l := by
  unfold lostP
  rw [List.filter_filter]
  congr 1
  refine List.filter_congr fun x _ => ?_
  unfold isLost isOwn
  cases may x <;> cases decide (x.wk = wk) <;> simp
theorem wevs_own (may : EvP → Bool) (wk : Int) (l : List EvP) : wevs may wk (l.filter (isOwn may wk)) = wevs may wk l := by
  unfold wevs
  rw [sort_filter, List.filter_filter]
  refine List.filter_congr fun x _ => ?_
  unfold ofW isOwn
  cases may x <;> cases decide (x.wk = wk) <;> simp
theorem segs_own (s : SetP) (wk : Int) (l : List EvP) : segsOf s wk (l.filter (isOwn (mayS s) wk)) = segsOf s wk l := by
  unfold segsOf itemsOf
  have e : wevs (mayE s.places s.elements.length s.classes.length s.gears.length s.rates.length) wk (l.filter (isOwn (mayS s) wk)) = wevs (mayE s.places s.elements.length s.classes.length s.gears.length s.rates.length) wk l := wevs_own _ wk l
  rw [e]
theorem perf_own (b : Bool) (s : SetP) (wk k : Int) (l : List EvP) : perfP b s wk k (l.filter (isOwn (mayS s) wk)) = perfP b s wk k l := by
  have e : goalX s wk (l.filter (isOwn (mayS s) wk)) = goalX s wk l := funext fun x => by unfold goalX; rw [task_own]
  unfold perfP tasksP
  rw [segs_own, e, lost_own]
end Go.Proofs.YtpgncbhahocmbaaGreat

namespace Go.Proofs.YtpgncbhahocmbaaGreat
set_option linter.unusedVariables false
set_option linter.unusedSimpArgs false

theorem may_one (m : Int) (h : -2147483647 ≤ m ∧ m ≤ 2147483647) : mayB m 1 = true := by
  unfold mayB
  simp
  omega
theorem mk_neg1 {m : Int} (h : -2147483647 ≤ m ∧ m ≤ 2147483647) : mkR m 1 = ⟨m, 1, 0⟩ := by
  obtain ⟨e1, e2, e3⟩ := mk_self (may_one m h)
  unfold mkR
  rw [e1, e2, e3]
theorem minus_one {a b F : Int} (hm : mayB a b = true) (hF : 0 ≤ F ∧ F ≤ 2147483647) : minusR a b F 1 = mkR (a - F * b) b := by
  unfold minusR
  rw [hm, may_one F (by omega), Bool.and_self, if_pos rfl, Int.mul_one, Int.mul_one]
/-- What is earned where nothing is wrong. -/
theorem earn_ok {F : Int} {gs : List Rat2} {lost : Nat} (hF : 0 ≤ F * (lost : Int) ∧ F * (lost : Int) ≤ 2147483647) (h : (earnP F gs lost).c = 0) :
    mayB (sumR (ratsP gs)).n (sumR (ratsP gs)).d = true ∧ mkC ((sumR (ratsP gs)).n - F * lost * (sumR (ratsP gs)).d) (sumR (ratsP gs)).d = 0 ∧
      earnP F gs lost = if mkN ((sumR (ratsP gs)).n - F * lost * (sumR (ratsP gs)).d) (sumR (ratsP gs)).d < 0 then ⟨0, 1, 0⟩ else mkR ((sumR (ratsP gs)).n - F * lost * (sumR (ratsP gs)).d) (sumR (ratsP gs)).d := by
  obtain ⟨S, hS⟩ : ∃ S, sumR (ratsP gs) = S := ⟨_, rfl⟩
  have mS : mayB S.n S.d = (S.c == 0) := by
    rw [← hS]
    unfold sumR
    split
    · exact sumRGo_may _ rfl
    · rfl
  have eM := mk_int (m := F * (lost : Int)) (by omega)
  have eE : earnP F gs lost = if S.c ≠ 0 then ⟨0, 0, S.c⟩ else cutR (minusR S.n S.d (F * (lost : Int)) 1) := by unfold earnP; rw [hS, eM]; rfl
  rw [eE] at h
  rw [hS, eE]
  by_cases c1 : S.c = 0
  · rw [if_neg (by simpa using c1)] at h ⊢
    have hm : mayB S.n S.d = true := mS.trans (by simp [c1])
    rw [minus_one hm hF] at h ⊢
    unfold cutR at h ⊢
    by_cases c2 : mkC (S.n - F * lost * S.d) S.d = 0
    · refine ⟨hm, c2, ?_⟩
      rw [if_neg (by simpa [mkR] using c2)]
      rfl
    · rw [if_pos (by simpa [mkR] using c2)] at h
      exact absurd h c2
  · rw [if_pos (by simpa using c1)] at h
    exact absurd h c1
theorem cancel_left {s x y : Int} (hs : 0 < s) (h : s * x = s * y) : x = y := Int.eq_of_mul_eq_mul_left (by omega) h
/-- One fault more: what is earned. -/
theorem earn_less {F : Int} {gs : List Rat2} {lost : Nat} (hF0 : 0 ≤ F) (hFm : F ≤ 2147483647) (hF : F * (lost : Int) + F ≤ 2147483647) (h : (earnP F gs lost).c = 0) (h' : (earnP F gs (lost + 1)).c = 0) :
    (((earnP F gs (lost + 1)).n = 0 ∧ (earnP F gs (lost + 1)).d = 1 ∧ ((minusR (earnP F gs lost).n (earnP F gs lost).d F 1).c ≠ 0 ∨ (minusR (earnP F gs lost).n (earnP F gs lost).d F 1).n ≤ 0)) ∨
      ((minusR (earnP F gs lost).n (earnP F gs lost).d F 1).c = 0 ∧ (earnP F gs (lost + 1)).n = (minusR (earnP F gs lost).n (earnP F gs lost).d F 1).n ∧ (earnP F gs (lost + 1)).d = (minusR (earnP F gs lost).n (earnP F gs lost).d F 1).d)) ∧
    0 ≤ (earnP F gs (lost + 1)).n ∧ (earnP F gs (lost + 1)).n * (earnP F gs lost).d ≤ (earnP F gs lost).n * (earnP F gs (lost + 1)).d := by
  have hL0 : 0 ≤ F * (lost : Int) := Int.mul_nonneg hF0 (by omega)
  have e1 : F * ((lost + 1 : Nat) : Int) = F * (lost : Int) + F := by rw [Int.natCast_add, Int.mul_add]; simp
  obtain ⟨hS, k, eX⟩ := earn_ok (gs := gs) (by omega) h
  obtain ⟨-, k', eX'⟩ := earn_ok (gs := gs) (lost := lost + 1) (by omega) h'
  rw [e1] at k' eX'
  generalize F * (lost : Int) = FL at *
  generalize sumR (ratsP gs) = S at *
  have sb := may_bd hS
  have c1 := mk_cross k
  have c2 := mk_cross k'
  have m1 := mk_may k
  have m2 := mk_may k'
  have g1 := mk_sign k
  have g2 := mk_sign k'
  have d1 := may_bd m1
  have d2 := may_bd m2
  have er : mkR (S.n - FL * S.d) S.d = ⟨mkN (S.n - FL * S.d) S.d, mkD (S.n - FL * S.d) S.d, 0⟩ := by unfold mkR; rw [k]
  have er' : mkR (S.n - (FL + F) * S.d) S.d = ⟨mkN (S.n - (FL + F) * S.d) S.d, mkD (S.n - (FL + F) * S.d) S.d, 0⟩ := by unfold mkR; rw [k']
  rw [er] at eX
  rw [er'] at eX'
  have hle : S.n - (FL + F) * S.d ≤ S.n - FL * S.d := by
    have : 0 ≤ F * S.d := Int.mul_nonneg hF0 (by omega)
    rw [Int.add_mul]; omega
  rw [Bool.eq_iff_iff, decide_eq_true_iff, decide_eq_true_iff] at g1 g2
  generalize mkN (S.n - FL * S.d) S.d = D at *
  generalize mkD (S.n - FL * S.d) S.d = E at *
  generalize mkN (S.n - (FL + F) * S.d) S.d = D1 at *
  generalize mkD (S.n - (FL + F) * S.d) S.d = E1 at *
  by_cases n1 : D < 0
  · rw [if_pos n1] at eX
    have n2 : D1 < 0 := g2.2 (by have := g1.1 n1; omega)
    rw [if_pos n2] at eX'
    rw [eX, eX', minus_one (by decide) ⟨hF0, hFm⟩, Int.mul_one, Int.zero_sub, mk_neg1 (by omega)]
    exact ⟨.inl ⟨rfl, rfl, .inr (by simp only []; omega)⟩, by simp, by simp⟩
  · rw [if_neg n1] at eX
    have hx : D1 * E = (D - F * E) * E1 := by
      refine cancel_left (s := S.d) (by omega) ?_
      have a1 : S.d * (D1 * E) = (D1 * S.d) * E := by grind
      have a2 : S.d * ((D - F * E) * E1) = (D * S.d) * E1 - F * E * E1 * S.d := by grind
      rw [a1, a2, c1, c2]
      grind
    obtain ⟨x1, x2, x3⟩ := mk_of m2 (show 0 < E by omega) hx
    have ex : minusR D E F 1 = ⟨D1, E1, 0⟩ := by rw [minus_one m1 ⟨hF0, hFm⟩]; unfold mkR; rw [x1, x2, x3]
    rw [eX]
    simp only []
    rw [ex]
    have hge : 0 ≤ F * E * E1 := Int.mul_nonneg (Int.mul_nonneg hF0 (by omega)) (by omega)
    by_cases n2 : D1 < 0
    · rw [if_pos n2] at eX'
      rw [eX']
      exact ⟨.inl ⟨rfl, rfl, .inr (by simp only []; omega)⟩, by simp, by simp only []; omega⟩
    · rw [if_neg n2] at eX'
      rw [eX']
      refine ⟨.inr ⟨rfl, rfl, rfl⟩, by simp only []; omega, ?_⟩
      simp only []
      rw [hx, Int.sub_mul]
      omega
theorem done_el (n e : Int) (X : Rat2) : (doneP n e X).el = n := by
  unfold doneP
  split
  · rfl
  · split
    · rfl
    · split
      · rename_i h; exact h.symm
      · split
        · rfl
        · split <;> rfl
/-- Nothing is wrong. -/
theorem done_ok {n e : Int} {X : Rat2} (hn : 0 ≤ n ∧ n ≤ 2147483647) (h : (doneP n e X).er = 0) :
    e = 0 ∧ X.c = 0 ∧ (doneP n e X).en = X.n ∧ (doneP n e X).ed = X.d ∧ (n = 0 ∧ (doneP n e X).pn = 0 ∧ (doneP n e X).pd = 1 ∨ 0 < n ∧ (divR X.n X.d n 1).c = 0 ∧ (doneP n e X).pn = (divR X.n X.d n 1).n ∧ (doneP n e X).pd = (divR X.n X.d n 1).d) := by
  have eM := mk_int hn
  unfold doneP at h ⊢
  rw [eM] at h ⊢
  by_cases c1 : e = 0
  · rw [if_neg (by simpa using c1)] at h ⊢
    by_cases c2 : X.c = 0
    · rw [if_neg (by simpa using c2)] at h ⊢
      by_cases c3 : n = 0
      · rw [if_pos c3] at h ⊢
        exact ⟨c1, c2, rfl, rfl, .inl ⟨c3, rfl, rfl⟩⟩
      · rw [if_neg c3, if_neg (by simp)] at h ⊢
        by_cases c4 : (divR X.n X.d n 1).c = 0
        · rw [if_neg (by simpa using c4)] at h ⊢
          exact ⟨c1, c2, rfl, rfl, .inr ⟨by omega, c4, rfl, rfl⟩⟩
        · rw [if_pos (by simpa using c4)] at h
          exact absurd h c4
    · rw [if_pos (by simpa using c2)] at h
      exact absurd h c2
  · rw [if_pos (by simpa using c1)] at h
    exact absurd h c1
theorem div_one {a b n : Int} (h : (divR a b n 1).c = 0) : mayB a b = true ∧ (divR a b n 1).n * (b * n) = a * (divR a b n 1).d ∧ 0 < b * n ∧ mayB (divR a b n 1).n (divR a b n 1).d = true := by
  have hm := divR_may a b n 1
  rw [h] at hm
  unfold divR at h hm ⊢
  by_cases hab : (mayB a b && mayB n 1) = true
  · rw [if_pos hab] at h hm ⊢
    simp only [Bool.and_eq_true] at hab
    rw [Int.mul_one] at h hm ⊢
    exact ⟨hab.1, mk_cross h, mkC_pos h, by simpa using hm⟩
  · rw [if_neg hab] at h
    cases h
/-- Of less earned, in as many seconds, the performance is no greater. -/
theorem perf_less {n : Int} {a b c d : Int} (hn : 0 < n) (h1 : (divR a b n 1).c = 0) (h2 : (divR c d n 1).c = 0) (hle : c * b ≤ a * d) : ¬ (divR a b n 1).n * (divR c d n 1).d < (divR c d n 1).n * (divR a b n 1).d := by
  obtain ⟨m1, e1, z1, k1⟩ := div_one h1
  obtain ⟨m2, e2, z2, k2⟩ := div_one h2
  have b1 := may_bd m1
  have b2 := may_bd m2
  have b3 := may_bd k1
  have b4 := may_bd k2
  generalize (divR a b n 1).n = p at *
  generalize (divR a b n 1).d = q at *
  generalize (divR c d n 1).n = r at *
  generalize (divR c d n 1).d = s at *
  intro hlt
  have hpos : 0 < b * n * (d * n) := Int.mul_pos z1 z2
  have k3 : p * s * (b * n * (d * n)) < r * q * (b * n * (d * n)) := Int.mul_lt_mul_of_pos_right hlt hpos
  have k4 : p * s * (b * n * (d * n)) = (a * d) * (q * s * n) := by
    have : p * s * (b * n * (d * n)) = (p * (b * n)) * (s * (d * n)) := by grind
    rw [this, e1]; grind
  have k5 : r * q * (b * n * (d * n)) = (c * b) * (q * s * n) := by
    have : r * q * (b * n * (d * n)) = (r * (d * n)) * (q * (b * n)) := by grind
    rw [this, e2]; grind
  have hq : 0 ≤ q * s * n := Int.mul_nonneg (Int.mul_nonneg (by omega) (by omega)) (by omega)
  have := Int.mul_le_mul_of_nonneg_right hle hq
  omega
/-! ### What a fault more changes -/
theorem fault_segs {may : EvP → Bool} {wk : Int} {l : List EvP} {f : EvP} (h7 : f.kd = 7) : wevs may wk (l ++ [f]) = wevs may wk l := by
  unfold wevs
  rw [← sort_filter, ← sort_filter, List.filter_append]
  have : [f].filter (ofW may wk) = [] := by simp [ofW, h7]
  rw [this, List.append_nil]
theorem fault_task {may : EvP → Bool} {wk id : Int} {l : List EvP} {f : EvP} (h7 : f.kd = 7) : taskP may wk id (l ++ [f]) = taskP may wk id l := by
  unfold taskP
  have e : ∀ m : List EvP, (sortE m).find? (isTk may wk id) = (sortE (m.filter fun e => decide (e.kd ≠ 7))).find? (isTk may wk id) := fun m => by
    rw [sort_filter, find_filter fun x hx => ?_]
    simp only [isTk, Bool.and_eq_true, decide_eq_true_eq] at hx ⊢
    omega
  rw [e, e l, List.filter_append]
  have : [f].filter (fun e => decide (e.kd ≠ 7)) = [] := by simp [h7]
  rw [this, List.append_nil]
theorem fault_lost {may : EvP → Bool} {k : Int} {l : List EvP} {f : EvP} (h7 : f.kd = 7) (hm : may f = true) : lostP may f.wk k (l ++ [f]) = lostP may f.wk k l + (if weekP f.tm = k then 1 else 0) := by
  unfold lostP
  rw [List.filter_append, List.length_append]
  by_cases h : weekP f.tm = k
  · rw [if_pos h]; simp [isLost, h7, hm, h]
  · rw [if_neg h]; simp [isLost, h7, hm, h]
theorem fault_perf {s : SetP} {k : Int} {l : List EvP} {f : EvP} (h7 : f.kd = 7) (hm : mayS s f = true) :
    perfP true s f.wk k (l ++ [f]) = doneP (secsP (tasksP s f.wk k l)) (wrongP ((tasksP s f.wk k l).map (goalX s f.wk l))) (earnP s.fault ((tasksP s f.wk k l).map (goalX s f.wk l)) (lostP (mayS s) f.wk k l + (if weekP f.tm = k then 1 else 0))) := by
  have e1 : goalX s f.wk (l ++ [f]) = goalX s f.wk l := funext fun x => by unfold goalX; rw [fault_task h7]
  have e2 : tasksP s f.wk k (l ++ [f]) = tasksP s f.wk k l := by
    unfold tasksP segsOf itemsOf
    rw [fault_segs h7]
  unfold perfP
  rw [if_pos rfl, e1, e2, fault_lost h7 hm]
end Go.Proofs.YtpgncbhahocmbaaGreat

namespace Go.Proofs.YtpgncbhahocmbaaGreat
set_option linter.unusedVariables false
set_option linter.unusedSimpArgs false

theorem sz_none {p : Int → Prop} (h : ∀ t, ¬ p t) : sz p = 0 := by
  rw [sz_congr (q := In []) fun t _ _ => ⟨fun x => absurd x (h t), fun x => absurd x (in_nil t)⟩, ← szL_canon, canon_self (l := []) trivial]
  rfl
theorem wk_sz_span {a b : Int} (h0 : 0 ≤ a) (h1 : a < b) (h2 : b ≤ 32054400) : sz (fun t => a ≤ t ∧ t < b) = b - a := by
  rw [sz_congr (q := In [(a, b)]) fun t _ _ => (in_one (a, b) t).symm, ← szL_canon, canon_self (l := [(a, b)]) (by simp [PlainFrom]; omega)]
  simp [szL]
theorem sz_segs {lo : Int} : ∀ {l : List SegP}, SegsUp lo l → 0 ≤ lo → (∀ x ∈ l, x.to ≤ 32054400) → sz (InS l) = secsP l
  | [], _, _, _ => sz_none fun t h => by obtain ⟨x, hx, _⟩ := h; simp at hx
  | x :: l, h, h0, hb => by
    obtain ⟨h1, h2, h3⟩ := h
    have e := sz_or (p := fun t => x.fr ≤ t ∧ t < x.to) (q := InS l) (r := InS (x :: l)) fun t _ _ => by
      have up : ∀ {l : List SegP} {a : Int}, SegsUp a l → InS l t → a ≤ t := by
        intro l
        induction l with
        | nil => rintro a _ ⟨y, hy, _⟩; simp at hy
        | cons y m ih =>
          rintro a ⟨g1, g2, g3⟩ ⟨z, hz, z1, z2⟩
          rcases List.mem_cons.1 hz with rfl | hz
          · omega
          · have := ih g3 ⟨z, hz, z1, z2⟩; omega
      refine ⟨⟨?_, ?_⟩, fun q => ?_⟩
      · rintro ⟨z, hz, z1, z2⟩
        rcases List.mem_cons.1 hz with rfl | hz
        · exact .inl ⟨z1, z2⟩
        · exact .inr ⟨z, hz, z1, z2⟩
      · rintro (q | ⟨z, hz, z1, z2⟩)
        · exact ⟨x, by simp, q.1, q.2⟩
        · exact ⟨z, by simp [hz], z1, z2⟩
      · have := up h3 q.2
        have := q.1.2
        omega
    rw [e, wk_sz_span (by omega) h2 (hb x (by simp)), sz_segs h3 (by omega) fun y hy => hb y (by simp [hy])]
    rfl
/-- All weeks together. -/
def weeksP (S : List SegP) : Nat → Int
  | 0 => 0
  | n + 1 => weeksP S n + secsP (S.filter (ofWk n))
theorem weeks_nil : ∀ n, weeksP [] n = 0
  | 0 => rfl
  | n + 1 => by unfold weeksP; rw [weeks_nil n]; rfl
theorem weeks_cons (x : SegP) (S : List SegP) : ∀ n : Nat, weeksP (x :: S) n = weeksP S n + (if x.kd = 1 ∧ 0 ≤ weekP x.fr ∧ weekP x.fr < n then x.to - x.fr else 0)
  | 0 => by
    unfold weeksP
    rw [if_neg (by omega)]
    rfl
  | n + 1 => by
    unfold weeksP
    rw [weeks_cons x S n, List.filter_cons]
    by_cases h : ofWk n x = true
    · rw [if_pos h]
      simp only [ofWk, Bool.and_eq_true, decide_eq_true_eq] at h
      rw [if_neg (by omega), if_pos (by omega)]
      simp only [secsP]
      omega
    · rw [if_neg h]
      have h' : ¬ (x.kd = 1 ∧ weekP x.fr = n) := fun q => h (by simp [ofWk, q.1, q.2])
      by_cases g : x.kd = 1 ∧ 0 ≤ weekP x.fr ∧ weekP x.fr < n
      · rw [if_pos g, if_pos (by omega)]; omega
      · rw [if_neg g, if_neg (by omega)]; omega
theorem weeks_all : ∀ {S : List SegP}, (∀ x ∈ S, 0 ≤ weekP x.fr ∧ weekP x.fr < 53) → weeksP S 53 = secsP (S.filter fun x => decide (x.kd = 1))
  | [], _ => weeks_nil 53
  | x :: S, h => by
    rw [weeks_cons, weeks_all (S := S) fun y hy => h y (by simp [hy]), List.filter_cons]
    have := h x (by simp)
    by_cases k : x.kd = 1
    · rw [if_pos ⟨k, by omega, by omega⟩, if_pos (by simpa using k)]
      simp only [secsP]
      omega
    · rw [if_neg (fun q => k q.1), if_neg (by simpa using k)]
      omega
theorem secs_pos : ∀ {S : List SegP}, (∀ x ∈ S, x.fr < x.to) → (0 < secsP S ↔ S ≠ [])
  | [], _ => by simp [secsP]
  | x :: S, h => by
    have h1 := h x (by simp)
    have : 0 ≤ secsP S := by
      have := secs_pos (S := S) fun y hy => h y (by simp [hy])
      by_cases e : S = []
      · subst e; simp [secsP]
      · have := this.2 e; omega
    simp only [secsP]
    constructor
    · intro _ e; cases e
    · intro _; omega
/-- A week without tasks. -/
theorem done_none {F : Int} {lost : Nat} (hF : 0 ≤ F * (lost : Int) ∧ F * (lost : Int) ≤ 2147483647) : (doneP 0 0 (earnP F [] lost)).er = 0 ∧ (doneP 0 0 (earnP F [] lost)).pn = 0 ∧ (doneP 0 0 (earnP F [] lost)).pd = 1 := by
  have eM := mk_int (m := F * (lost : Int)) (by omega)
  have hc : (earnP F [] lost).c = 0 := by
    unfold earnP
    rw [if_neg (by simp [ratsP, sumR, allMay, sumRGo]), eM, if_neg (by simp)]
    have e : minusR (sumR (ratsP [])).n (sumR (ratsP [])).d (F * (lost : Int)) 1 = mkR (-(F * (lost : Int))) 1 := by
      have hm : mayB (F * (lost : Int)) 1 = true := by unfold mayB; simp; omega
      unfold minusR
      rw [show (sumR (ratsP [])).n = 0 from rfl, show (sumR (ratsP [])).d = 1 from rfl, show mayB 0 1 = true by decide, hm, Bool.and_self, if_pos rfl]
      congr 1
      omega
    show (cutR (minusR (sumR (ratsP [])).n (sumR (ratsP [])).d (F * (lost : Int)) 1)).c = 0
    rw [e]
    obtain ⟨e1, e2, e3⟩ := mk_self (x := -(F * (lost : Int))) (y := 1) (by unfold mayB; simp; omega)
    unfold cutR mkR
    rw [e1, e2, e3, if_neg (by simp)]
    split <;> rfl
  unfold doneP
  rw [if_neg (by simp), if_neg (by simpa using hc), if_pos rfl]
  exact ⟨rfl, rfl, rfl⟩
end Go.Proofs.YtpgncbhahocmbaaGreat

namespace Go.Proofs.YtpgncbhahocmbaaGreat
set_option linter.unusedVariables false
set_option linter.unusedSimpArgs false

theorem plus_nonneg {a b c d : Int} (ha : 0 ≤ a) (hc : 0 ≤ c) : 0 ≤ (plusR a b c d).n := by
  unfold plusR
  split
  · rename_i h
    simp only [Bool.and_eq_true] at h
    have b1 := may_bd h.1
    have b2 := may_bd h.2
    have hn : 0 ≤ a * d + c * b := Int.add_nonneg (Int.mul_nonneg ha (by omega)) (Int.mul_nonneg hc (by omega))
    by_cases k : mkC (a * d + c * b) (b * d) = 0
    · have g := mk_sign k
      rw [Bool.eq_iff_iff, decide_eq_true_iff, decide_eq_true_iff] at g
      show 0 ≤ mkN _ _
      omega
    · show 0 ≤ mkN _ _
      rw [(mk_bad k).1]
      omega
  · show (0 : Int) ≤ 0
    omega
theorem sumgo_nonneg : ∀ (l : List (Int × Int)) (s : Rat2), 0 ≤ s.n → (∀ x ∈ l, 0 ≤ x.1) → 0 ≤ (sumRGo s l).n
  | [], s, h, _ => h
  | x :: l, s, h, hx => by
    unfold sumRGo
    split
    · exact sumgo_nonneg l _ (plus_nonneg h (hx x (by simp))) fun y hy => hx y (by simp [hy])
    · exact h
theorem sum_nonneg {l : List (Int × Int)} (h : ∀ x ∈ l, 0 ≤ x.1) : 0 ≤ (sumR l).n := by
  unfold sumR
  split
  · exact sumgo_nonneg l ⟨0, 1, 0⟩ (by simp) h
  · show (0 : Int) ≤ 0
    omega
/-- Without faults. -/
theorem earn_none {F : Int} {gs : List Rat2} (h : ∀ g ∈ gs, 0 ≤ g.n) (hc : (sumR (ratsP gs)).c = 0) : earnP F gs 0 = sumR (ratsP gs) := by
  have hn : 0 ≤ (sumR (ratsP gs)).n := sum_nonneg fun x hx => by
    obtain ⟨g, hg, rfl⟩ := List.mem_map.1 hx
    exact h g hg
  have hm : mayB (sumR (ratsP gs)).n (sumR (ratsP gs)).d = true := by
    have : mayB (sumR (ratsP gs)).n (sumR (ratsP gs)).d = ((sumR (ratsP gs)).c == 0) := by
      unfold sumR
      split
      · exact sumRGo_may _ rfl
      · rfl
    rw [this, hc]
    rfl
  have e0 : mkR (F * ((0 : Nat) : Int)) 1 = ⟨0, 1, 0⟩ := by rw [show F * ((0 : Nat) : Int) = 0 by simp]; exact mk_int (by omega)
  unfold earnP
  rw [if_neg (by simpa using hc), e0, if_neg (by simp)]
  obtain ⟨S, hS⟩ : ∃ S, sumR (ratsP gs) = S := ⟨_, rfl⟩
  rw [hS] at hn hm hc ⊢
  show cutR (minusR S.n S.d 0 1) = S
  rw [minus_one hm (by omega), Int.zero_mul, Int.sub_zero]
  obtain ⟨e1, e2, e3⟩ := mk_self hm
  unfold mkR cutR
  rw [e1, e2, e3, if_neg (by simp), if_neg (by simp only []; omega)]
  obtain ⟨x, y, z⟩ := S
  simp only at hc
  rw [hc]
theorem earn_bad {F : Int} {gs : List Rat2} {lost : Nat} (h : (earnP F gs lost).c = 0) : (sumR (ratsP gs)).c = 0 := by
  unfold earnP at h
  by_cases c : (sumR (ratsP gs)).c = 0
  · exact c
  · rw [if_pos (by simpa using c)] at h
    exact absurd h c
/-- As many seconds, times what was done in one, are what was earned. -/
theorem gl_mul_back {a b n : Int} (hn : 0 < n) (hn2 : n ≤ 2147483647) (h : (divR a b n 1).c = 0) : mulR (divR a b n 1).n (divR a b n 1).d n 1 = ⟨a, b, 0⟩ := by
  obtain ⟨m1, e1, z1, k1⟩ := div_one h
  have b1 := may_bd m1
  have b3 := may_bd k1
  generalize (divR a b n 1).n = p at *
  generalize (divR a b n 1).d = q at *
  unfold mulR
  rw [k1, may_one n (by omega), Bool.and_self, if_pos rfl, Int.mul_one]
  obtain ⟨e2, e3, e4⟩ := mk_of m1 (show 0 < q by omega) (show a * q = p * n * b by rw [← e1]; grind)
  unfold mkR
  rw [e2, e3, e4]
theorem wrong_none : ∀ {gs : List Rat2}, wrongP gs = 0 → ∀ g ∈ gs, g.c = 0
  | [], _, g, hg => by simp at hg
  | x :: t, h, g, hg => by
    simp only [wrongP] at h
    by_cases c : x.c = 0
    · rw [if_neg (by simpa using c)] at h
      rcases List.mem_cons.1 hg with rfl | hg
      · exact c
      · exact wrong_none h g hg
    · rw [if_pos (by simpa using c)] at h
      exact absurd h c
theorem goal_nonneg {s : SetP} {e : EvP} : 0 ≤ (goalE s e).n := by
  rcases goalE_three (s := s) (e := e) rfl with q | q | q
  · exact q.2.2.1
  · rw [q.1]; simp
  · rw [q.1]; simp
theorem lost_none {may : EvP → Bool} {wk k : Int} {l : List EvP} (h : ∀ e ∈ l, e.kd ≠ 7) : lostP may wk k l = 0 := by
  unfold lostP
  rw [List.length_eq_zero_iff, List.filter_eq_nil_iff]
  intro e he
  simp [isLost, h e he]
/-- The event of a part, where numbers are unlike. -/
theorem task_one {may : EvP → Bool} {wk id : Int} {l : List EvP} (hd : ∀ x ∈ l, ∀ y ∈ l, x.id = y.id → x = y) {e : EvP} (he : e ∈ l) (hi : e.id = id) (hw : e.wk = wk) (h3 : e.kd = 3) (hm : may e = true) : taskP may wk id l = e := by
  unfold taskP
  cases h : (sortE l).find? (isTk may wk id) with
  | none =>
    have := List.find?_eq_none.1 h e ((ev_sort_perm l).mem_iff.2 he)
    simp [isTk, hi, hw, h3, hm] at this
  | some x =>
    have hx := List.find?_some h
    have hxl := (ev_sort_perm l).mem_iff.1 (List.mem_of_find?_eq_some h)
    simp only [isTk, Bool.and_eq_true, decide_eq_true_eq] at hx
    exact hd x hxl e he (by omega)
theorem rise_may {s : SetP} {wk : Int} {l : List EvP} {x : SegP} (hx : x ∈ segsOf s wk l) : ∃ e ∈ l, e.id = x.id ∧ e.wk = wk ∧ x.kd = kindP e.kd ∧ mayS s e = true := by
  obtain ⟨e, he, h1, h2, h3, -⟩ := rise_of s wk (l.filter (isOwn (mayS s) wk)) x (by rw [segs_own]; exact hx)
  have := List.mem_filter.1 he
  simp only [isOwn, Bool.and_eq_true] at this
  exact ⟨e, this.1, h1, h2, h3, this.2.2⟩
theorem kind_task {k : Int} (h : kindP k = 1) : k = 3 := by
  unfold kindP at h
  split at h
  · assumption
  · split at h
    · omega
    · split at h <;> omega
theorem gl_filter_one : ∀ {l : List EvP} {e : EvP}, (l.Pairwise fun a b => a.id ≠ b.id) → e ∈ l → l.filter (fun y => decide (y.id = e.id)) = [e]
  | [], e, _, h => by simp at h
  | x :: l, e, hp, h => by
    have p := List.pairwise_cons.1 hp
    rcases List.mem_cons.1 h with rfl | h
    · rw [List.filter_cons, if_pos (by simp)]
      congr 1
      rw [List.filter_eq_nil_iff]
      intro y hy
      have := p.1 y hy
      simp only [decide_eq_true_eq]
      omega
    · rw [List.filter_cons, if_neg (by have := p.1 e h; simp only [decide_eq_true_eq]; omega)]
      exact gl_filter_one p.2 h
theorem unlike_of {l : List EvP} (hp : l.Pairwise fun a b => a.id ≠ b.id) : ∀ x ∈ l, ∀ y ∈ l, x.id = y.id → x = y := fun x hx y hy e => by
  have h1 := gl_filter_one hp hx
  have h2 := gl_filter_one hp hy
  rw [e, h2] at h1
  simpa using h1.symm
/-- The goals that the law goes for are those of the week's tasks. -/
theorem goals_law {s : SetP} {wk k : Int} {l : List EvP} (hp : l.Pairwise fun a b => a.id ≠ b.id) : ∀ x ∈ tasksP s wk k l, (l.filter fun e => decide (e.id = x.id)).map (goalE s) = [goalX s wk l x] := fun x hx => by
  unfold tasksP at hx
  obtain ⟨hx, hk⟩ := List.mem_filter.1 hx
  obtain ⟨e, he, h1, h2, h3, h4⟩ := rise_may hx
  simp only [ofWk, Bool.and_eq_true, decide_eq_true_eq] at hk
  have k3 := kind_task (h3.symm.trans hk.1)
  rw [← h1, gl_filter_one hp he]
  unfold goalX
  rw [task_one (unlike_of hp) he h1 h2 k3 h4]
  rfl
end Go.Proofs.YtpgncbhahocmbaaGreat

namespace Go.Proofs.YtpgncbhahocmbaaGreat
open Go.RowKit
set_option linter.unusedVariables false
set_option linter.unusedSimpArgs false
set_option maxRecDepth 20000

theorem evset_bel {B : Nat} {a w : World} (h : Below B a w) {g : Nat} (hg : B ≤ g) (cs : Array Value) : Below B a (w.setRow g cs) :=
  ⟨h.os, h.tape, h.output, by simp [World.setRow]; exact h.size, fun b hb => (setRow_other w g b cs (by omega)).trans (h.block b hb)⟩
end Go.Proofs.YtpgncbhahocmbaaGreat

namespace Go.Proofs.YtpgncbhahocmbaaGreat
set_option linter.unusedVariables false
set_option linter.unusedSimpArgs false

def isT (i : Int) (e : EvP) : Bool := decide (e.kd = 3) && decide (e.id = i)
def isF (k : Int) (e : EvP) : Bool := decide (e.kd = 7) && decide (weekP e.tm = k)
/-- The worker's own events, in order. -/
def ownP (may : EvP → Bool) (wk : Int) (l : List EvP) : List EvP := sortE (l.filter (isOwn may wk))
theorem own_filter (may : EvP → Bool) (wk : Int) (l : List EvP) : ownP may wk l = (sortE l).filter (isOwn may wk) := sort_filter _ _
theorem own_mem {may : EvP → Bool} {wk : Int} {l : List EvP} {e : EvP} (h : e ∈ ownP may wk l) : e ∈ l := (List.mem_filter.1 ((ev_sort_perm _).mem_iff.1 h)).1
theorem own_task (may : EvP → Bool) (wk id : Int) (l : List EvP) : ((ownP may wk l).find? (isT id)).getD EvP.none = taskP may wk id l := by
  unfold taskP
  rw [own_filter, List.find?_filter]
  congr 2
  funext e
  unfold isTk isT isOwn
  cases may e <;> cases decide (e.wk = wk) <;> simp
theorem own_lost (may : EvP → Bool) (wk k : Int) (l : List EvP) : ((ownP may wk l).filter (isF k)).length = lostP may wk k l := by
  rw [own_filter, List.filter_filter]
  unfold lostP
  rw [((ev_sort_perm l).filter _).length_eq]
  congr 1
  refine List.filter_congr fun e _ => ?_
  unfold isF isLost isOwn
  cases may e <;> cases decide (e.wk = wk) <;> simp
theorem segs_sort (s : SetP) (wk : Int) (l : List EvP) : segsOf s wk (sortE l) = segsOf s wk l := by
  unfold segsOf itemsOf
  have e : wevs (mayE s.places s.elements.length s.classes.length s.gears.length s.rates.length) wk (sortE l) = wevs (mayE s.places s.elements.length s.classes.length s.gears.length s.rates.length) wk l := by unfold wevs; rw [← ev_sort_of (ev_sort_risen l) (fun _ => rfl)]
  rw [e]
theorem own_tasks (s : SetP) (wk k : Int) (l : List EvP) : tasksP s wk k (ownP (mayS s) wk l) = tasksP s wk k l := by
  unfold tasksP ownP
  rw [segs_sort, segs_own]
/-! ### The first task of each number -/
def firstF (L : List EvP) (i : Int) : Option Value := (L.find? (isT i)).map fun e => .agg (evC e)
theorem find_take (p : EvP → Bool) (L : List EvP) (k : Nat) (h : k < L.length) : (L.take (k + 1)).find? p = ((L.take k).find? p).or (if p (L.getD k EvP.none) = true then some (L.getD k EvP.none) else none) := by
  rw [take_snoc_e h, List.find?_append]
  congr 1
  rw [List.find?_cons]
  cases p (L.getD k EvP.none) <;> simp
theorem first_no {L : List EvP} {k : Nat} (h : k < L.length) {x : EvP} (hx : L.getD k EvP.none = x) (h3 : x.kd ≠ 3) : firstF (L.take (k + 1)) = firstF (L.take k) := by
  funext i
  unfold firstF
  rw [find_take _ _ _ h, hx]
  have : isT i x = false := by simp [isT, h3]
  simp [this]
theorem first_there {L : List EvP} {k : Nat} (h : k < L.length) {x : EvP} (hx : L.getD k EvP.none = x) (ht : (firstF (L.take k) x.id).isSome = true) : firstF (L.take (k + 1)) = firstF (L.take k) := by
  funext i
  unfold firstF at ht ⊢
  rw [find_take _ _ _ h, hx]
  by_cases e : x.id = i
  · subst e
    rw [Option.isSome_map] at ht
    obtain ⟨y, hy⟩ := Option.isSome_iff_exists.1 ht
    rw [hy]
    rfl
  · have : isT i x = false := by simp [isT, e]
    simp [this]
theorem first_new {L : List EvP} {k : Nat} (h : k < L.length) {x : EvP} (hx : L.getD k EvP.none = x) (h3 : x.kd = 3) (ht : (firstF (L.take k) x.id).isSome = false) : firstF (L.take (k + 1)) = updF (firstF (L.take k)) x.id (.agg (evC x)) := by
  funext i
  unfold firstF updF at *
  rw [find_take _ _ _ h, hx]
  by_cases e : i = x.id
  · subst e
    rw [Option.isSome_map] at ht
    rw [if_pos rfl]
    have hn : (L.take k).find? (isT x.id) = none := by simpa using ht
    have : isT x.id x = true := by simp [isT, h3]
    simp [hn, this]
  · rw [if_neg e]
    have : isT i x = false := by simp [isT, show ¬ x.id = i from fun h => e h.symm]
    simp [this]
/-! ### The first error -/
theorem wrong_append (a b : List Rat2) (h : wrongP a = 0) : wrongP (a ++ b) = wrongP b := by
  induction a with
  | nil => rfl
  | cons g t ih =>
    simp only [List.cons_append, wrongP] at h ⊢
    split at h
    · rename_i q; exact absurd h q
    · rename_i q
      rw [if_neg q]
      exact ih h
theorem wrong_at {T : List SegP} {gx : SegP → Rat2} {k : Nat} (hk : k < T.length) (h0 : wrongP ((T.take k).map gx) = 0) (hc : (gx (T.getD k SegP.none)).c ≠ 0) : wrongP (T.map gx) = (gx (T.getD k SegP.none)).c := by
  have e : T.map gx = (T.take k).map gx ++ gx (T.getD k SegP.none) :: (T.drop (k + 1)).map gx := by
    rw [← List.map_cons, ← List.map_append]
    congr 1
    have h1 : T.getD k SegP.none = T[k] := by simp [List.getD, hk]
    rw [h1, ← List.drop_eq_getElem_cons hk, List.take_append_drop]
  rw [e, wrong_append _ _ h0]
  simp only [wrongP]
  rw [if_pos hc]
theorem wrong_take {T : List SegP} {gx : SegP → Rat2} {k : Nat} (hk : k < T.length) (h0 : wrongP ((T.take k).map gx) = 0) (hc : (gx (T.getD k SegP.none)).c = 0) : wrongP ((T.take (k + 1)).map gx) = 0 := by
  rw [List.take_succ_eq_append_getElem hk, List.map_append, List.map_cons, List.map_nil, wrong_append _ _ h0]
  have h1 : T.getD k SegP.none = T[k] := by simp [List.getD, hk]
  rw [h1] at hc
  simp [wrongP, hc]
end Go.Proofs.YtpgncbhahocmbaaGreat

namespace Go.Proofs.YtpgncbhahocmbaaGreat
open Go.RowKit
set_option linter.unusedVariables false
set_option linter.unusedSimpArgs false
set_option maxRecDepth 20000

set_option maxHeartbeats 4000000 in
theorem pfaults_c (A : Option Addr) (n c : Nat) (l : List EvP) (week : Int) (w : World) (h : Evs w A n c l) (hn : n ≤ 1000) :
    Calls Tryz.prog 36 #[.slice A n c, .int .i64 week] w fun e w' => ∃ q : Nat, e = .returned (.int .i64 q) ∧ (l.filter (isF week)).length = q ∧ Below w.heap.size w w' := by
  have HL0 := Lib.hid h
  have HLN := Lib.hid h.2
  clear h
  go_enter Tryz.func36, Tryz.ntmps36
  go_wp2
  go_loopw [5, 10] (fun s5 s10 wr => ∃ k q : Nat, k ≤ n ∧ q ≤ k ∧ s5 = .int .i64 q ∧ s10 = .int .i64 k ∧ Hid (((l.take k).filter (isF week)).length = q) ∧ Hid (Below w.heap.size w wr)) (fun _ i _ => n - (intOf i).toNat)
  case atStart => exact ⟨0, 0, Nat.zero_le _, Nat.le_refl _, rfl, rfl, Lib.hid (by simp), Lib.hid (Below.refl _ _)⟩
  case round =>
    obtain ⟨k, q, hk, hqk, rfl, rfl, HQ, HW⟩ := hrel
    by_cases hlt : k < n
    · have HNX := Lib.hid (in_filter (isF week) l k (by rw [HLN.out]; exact hlt))
      have HLr := Lib.hid (HL0.out.below HW.out)
      obtain ⟨ba, oa, rfl⟩ := HLr.out.form (by omega)
      obtain ⟨x, hx⟩ : ∃ x, l.getD k EvP.none = x := ⟨_, rfl⟩
      have HLD := Lib.hid (evs_load HLr.out (i := k) hlt)
      rw [hx] at HLD
      have HX := Lib.hid hx
      have i0 : (0 : Int) ≤ (k : Int) := by omega
      have i1 : (k : Int) < (n : Int) := by omega
      have HSZ := Lib.hid (evC_size x)
      have HSO := Lib.hid (evC_one x)
      have hba := bel_alloc (Below.refl wr.heap.size wr) (.cells (evC x) 43)
      have HXA : Hid (Has (wr.alloc (.cells (evC x) 43)) wr.heap.size (evC x)) := Has.new wr _ _ rfl
      have HBA := Lib.hid (bel_on HW.out hba)
      rw [hx] at HNX
      have q3 := HXA.out.cell 3 (show (evC x)[3]? = some (.int .i64 x.kd) from rfl)
      have q2 := HXA.out.cell 2 (show (evC x)[2]? = some (.int .i64 x.tm) from rfl)
      have z1 := cell_lt q3
      clear hx hba
      by_cases g1 : x.kd = 7
      · have g1' : (x.kd == 7) = true := by simpa using g1
        by_cases g2 : weekP x.tm = week
        · have g2' : (weekP x.tm == week) = true := by simpa using g2
          have HP : Hid (((l.take (k + 1)).filter (isF week)).length = q + 1) := by show _ = _; rw [HNX.out, if_pos (by unfold isF; simp [g1, g2]), List.length_append, HQ.out]; rfl
          clear g1 g2 HNX
          go_wp2_with (first | refine wpList_exec (o := ⟨some 13, _, _, _, _, _⟩) (by rfl) (exec_load_at _ rfl rfl HLD.out) ?_ | refine wpList_laid_e (evC x) 7 _ _ rfl rfl rfl rfl rfl rfl rfl rfl HSZ.out HSO.out ?_)
          refine (week_any _ _).mono ?_
          rintro e w' ⟨rfl, rfl⟩
          go_wp2
          go_roundw
          case rel => exact ⟨k + 1, q + 1, by omega, by omega, by go_num, by go_num, HP, HBA⟩
          case measure => simp [intOf]; omega
        · have g2' : (weekP x.tm == week) = false := beq_eq_false_iff_ne.2 g2
          have HP : Hid (((l.take (k + 1)).filter (isF week)).length = q) := by show _ = _; rw [HNX.out, if_neg (by unfold isF; simp [g2]), List.append_nil, HQ.out]
          clear g1 g2 HNX
          go_wp2_with (first | refine wpList_exec (o := ⟨some 13, _, _, _, _, _⟩) (by rfl) (exec_load_at _ rfl rfl HLD.out) ?_ | refine wpList_laid_e (evC x) 7 _ _ rfl rfl rfl rfl rfl rfl rfl rfl HSZ.out HSO.out ?_)
          refine (week_any _ _).mono ?_
          rintro e w' ⟨rfl, rfl⟩
          go_wp2
          go_roundw
          case rel => exact ⟨k + 1, q, by omega, by omega, rfl, by go_num, HP, HBA⟩
          case measure => simp [intOf]; omega
      · have g1' : (x.kd == 7) = false := beq_eq_false_iff_ne.2 g1
        have HP : Hid (((l.take (k + 1)).filter (isF week)).length = q) := by show _ = _; rw [HNX.out, if_neg (by unfold isF; simp [g1]), List.append_nil, HQ.out]
        clear g1 HNX
        go_wp2_with (first | refine wpList_exec (o := ⟨some 13, _, _, _, _, _⟩) (by rfl) (exec_load_at _ rfl rfl HLD.out) ?_ | refine wpList_laid_e (evC x) 7 _ _ rfl rfl rfl rfl rfl rfl rfl rfl HSZ.out HSO.out ?_)
        go_roundw
        case rel => exact ⟨k + 1, q, by omega, by omega, rfl, by go_num, HP, HBA⟩
        case measure => simp [intOf]; omega
    · obtain rfl : k = n := by omega
      have e : l.take k = l := List.take_of_length_le (by rw [HLN.out]; omega)
      have HE := Lib.hid HW.out
      have hq := HQ.out
      rw [e] at hq
      have HQQ := Lib.hid hq
      clear e hq HQ HW
      go_wp2
      go_ret
      exact ⟨q, rfl, HQQ.out, HE.out⟩
theorem secs_take0 {T : List SegP} (hu : SegsUp 0 T) (hb : ∀ x ∈ T, x.to ≤ 32054400) (i : Nat) : 0 ≤ secsP (T.take i) ∧ secsP (T.take i) ≤ 32054400 := by
  have h1 : SegsUp 0 (T.take i) := by
    have : ∀ {l : List SegP} {lo : Int} (i : Nat), SegsUp lo l → SegsUp lo (l.take i) := by
      intro l
      induction l with
      | nil => intro lo i h; cases i <;> exact h
      | cons x t ih =>
        intro lo i h
        cases i with
        | zero => trivial
        | succ i => exact ⟨h.1, h.2.1, ih i h.2.2⟩
    exact this i hu
  have := secs_bd (hi := 32054400) h1 (fun x hx => hb x (List.mem_of_mem_take hx)) (by omega)
  omega
theorem seg_take_snoc {l : List SegP} {i : Nat} (h : i < l.length) : l.take (i + 1) = l.take i ++ [l.getD i SegP.none] := by
  rw [List.take_succ_eq_append_getElem h]
  simp [List.getD, h]
set_option maxHeartbeats 4000000 in
theorem pseconds_c (A : Option Addr) (n c : Nat) (l : List SegP) (w : World) (h : Segs w A n c l) (hn : n ≤ 100000) (hu : SegsUp 0 l) (hb : ∀ x ∈ l, 0 ≤ x.fr ∧ x.fr < x.to ∧ x.to ≤ 32054400) :
    Calls Tryz.prog 32 #[.slice A n c] w fun e w' => e = .returned (.int .i64 (secsP l)) ∧ Below w.heap.size w w' := by
  have HL := Lib.hid h
  have HLN := Lib.hid h.2
  have HT := Lib.hid (fun i => secs_take0 hu (fun x hx => (hb x hx).2.2) i)
  have HB := Lib.hid hb
  clear h hu hb
  go_enter Tryz.func32, Tryz.ntmps32
  go_wp2
  go_loopw [3, 8] (fun s3 s8 wr => ∃ (k : Nat) (z : Int), k ≤ n ∧ s3 = .int .i64 z ∧ s8 = .int .i64 k ∧ Hid (secsP (l.take k) = z) ∧ Hid (Below w.heap.size w wr)) (fun _ i _ => n - (intOf i).toNat)
  case atStart => exact ⟨0, 0, Nat.zero_le _, rfl, rfl, Lib.hid (by simp [secsP]), Lib.hid (Below.refl _ _)⟩
  case round =>
    obtain ⟨k, z, hk, rfl, rfl, HQ, HW⟩ := hrel
    by_cases hlt : k < n
    · have HLr := Lib.hid (HL.out.below HW.out)
      obtain ⟨ba, oa, rfl⟩ := HLr.out.form (by omega)
      obtain ⟨x, hx⟩ : ∃ x, l.getD k SegP.none = x := ⟨_, rfl⟩
      obtain ⟨z0, z1, z2, z3, z4⟩ := segs_num HLr.out hlt x hx
      have zl := cell_lt z0
      have hkl : k < l.length := by rw [HLN.out]; exact hlt
      have hP : secsP (l.take (k + 1)) = z + (x.to - x.fr) := by rw [seg_take_snoc hkl, secs_snoc, hx, HQ.out]
      have hxb := HB.out x (by rw [← hx]; simp [List.getD, hkl])
      have t0 := HT.out k
      have t1 := HT.out (k + 1)
      rw [HQ.out] at t0
      rw [hP] at t1
      have HP := Lib.hid hP
      have w1 : IntKind.i64.wrap (x.to - x.fr) = x.to - x.fr := by rw [IntKind.wrap_i64]; omega
      have w2 : IntKind.i64.wrap (z + (x.to - x.fr)) = z + (x.to - x.fr) := by rw [IntKind.wrap_i64]; omega
      have i0 : (0 : Int) ≤ (k : Int) := by omega
      have i1 : (k : Int) < (n : Int) := by omega
      have HBA := Lib.hid (bel_on HW.out (bel_alloc (Below.refl wr.heap.size wr) (.cells #[.int .i64 x.fr, .int .i64 x.to, .int .i64 x.kd, .int .i64 x.id, .int .i64 x.cd] 54)))
      clear hx hkl hP hxb t0 t1
      go_wp2
      go_roundw
      case rel => exact ⟨k + 1, z + (x.to - x.fr), by omega, by first | rfl | go_num, by go_num, HP, HBA⟩
      case measure => simp [intOf]; omega
    · obtain rfl : k = n := by omega
      have hq := HQ.out
      rw [List.take_of_length_le (show l.length ≤ k by rw [HLN.out]; omega)] at hq
      subst hq
      have HE := Lib.hid HW.out
      clear HQ HW
      go_wp2
      go_ret
      exact ⟨rfl, HE.out⟩
set_option maxHeartbeats 8000000 in
theorem powner_c {w : World} {s : SetP} {cs : Array Value} (hW : SetW w s cs) (A : Option Addr) (n c : Nat) (l : List EvP) (wk : Int) (h : Evs w A n c l) (hn : n ≤ 1000) (hIn : ∀ e ∈ l, e.In) :
    Calls Tryz.prog 30 #[.agg cs, .slice A n c, .int .i64 wk] w fun e w' => ∃ B q d, e = .returned (.slice B q d) ∧ Below w.heap.size w w' ∧ Evs w' B q d (ownP (mayS s) wk l) ∧ q ≤ n := by
  have HZ := Lib.hid hW.size
  have HQS := Lib.hid hW.q
  have hb0 := bel_alloc (Below.refl w.heap.size w) (.cells cs 30)
  have HG0 := Lib.hid (Has.new w 30 cs rfl)
  have HL0' := Lib.hid (h.below hb0)
  have HBB := Lib.hid hb0
  have HLN := Lib.hid h.2
  have HIN := Lib.hid hIn
  have HCK : Hid (∀ (x : EvP), x.In → ∀ (b : Bool), mayS s x = b → ∀ W, Calls Tryz.prog 15 #[.agg cs, .agg (evC x)] W fun r w' => r = .returned (.bool b) ∧ Below W.heap.size W w') := fun x hi b hb W => echeck_any cs _ _ _ _ _ HQS.out x hi W b hb
  generalize mayS s = may at *
  clear hW h hIn hb0 HQS
  go_enter Tryz.func30, Tryz.ntmps30
  go_wp2
  generalize w.alloc (.cells cs 30) = w1 at *
  have HL0 := HL0'
  clear HL0'
  obtain ⟨gs, hgs⟩ : ∃ gs, Hid (w.heap.size = gs) := ⟨_, rfl⟩
  rw [hgs.out] at HG0
  rw [hgs.out]
  go_loopw [7, 12] (fun s7 s12 wr => ∃ (k q d : Nat) (B : Option Addr), k ≤ n ∧ q ≤ k ∧ s7 = .slice B q d ∧ s12 = .int .i64 k ∧ Hid (((l.take k).filter (isOwn may wk)).length = q) ∧ Hid (ERow wr w1.heap.size B q d ((l.take k).filter (isOwn may wk))) ∧ Hid (Below w1.heap.size w1 wr)) (fun _ i _ => n - (intOf i).toNat)
  case atStart => exact ⟨0, 0, 0, none, Nat.zero_le _, Nat.le_refl _, rfl, rfl, Lib.hid (by simp), Lib.hid (by rw [List.take_zero]; exact TRow.nil _ _), Lib.hid (Below.refl _ _)⟩
  case round =>
    obtain ⟨k, q, d, B, hk, hqk, rfl, rfl, HQ, HR, HW⟩ := hrel
    by_cases hlt : k < n
    · have HNX := Lib.hid (in_filter (isOwn may wk) l k (by rw [HLN.out]; exact hlt))
      have HLr := Lib.hid (HL0.out.below HW.out)
      obtain ⟨ba, oa, rfl⟩ := HLr.out.form (by omega)
      obtain ⟨x, hx⟩ : ∃ x, l.getD k EvP.none = x := ⟨_, rfl⟩
      have HLD := Lib.hid (evs_load HLr.out (i := k) hlt)
      rw [hx] at HLD
      have HX := Lib.hid hx
      have i0 : (0 : Int) ≤ (k : Int) := by omega
      have i1 : (k : Int) < (n : Int) := by omega
      have HSZ := Lib.hid (evC_size x)
      have HSO := Lib.hid (evC_one x)
      have hba := bel_alloc (Below.refl wr.heap.size wr) (.cells (evC x) 43)
      have HXA : Hid (Has (wr.alloc (.cells (evC x) 43)) wr.heap.size (evC x)) := Has.new wr _ _ rfl
      have HBA := Lib.hid (bel_on HW.out hba)
      rw [hx] at HNX
      have HXI := Lib.hid (HIN.out x (by rw [← hx, List.getD_eq_getElem?_getD, List.getElem?_eq_getElem (by rw [HLN.out]; exact hlt), Option.getD_some]; exact List.getElem_mem _))
      have HGS := Lib.hid (HG0.out.below HBA.out)
      have HLX := Lib.hid (has_load_e HXA.out)
      have q1 := HXA.out.cell 1 (show (evC x)[1]? = some (.int .i64 x.wk) from rfl)
      have z1 := cell_lt q1
      have HRA := Lib.hid (HR.out.alloc (.cells (evC x) 43))
      clear hx hba HR HW
      obtain ⟨b, hb⟩ : ∃ b, may x = b := ⟨_, rfl⟩
      have HCX := Lib.hid (HCK.out x HXI.out b hb)
      by_cases g1 : x.wk = wk
      · have g1' : (x.wk == wk) = true := by simpa using g1
        cases b with
        | false =>
          have e1 : (l.take (k + 1)).filter (isOwn may wk) = (l.take k).filter (isOwn may wk) := HNX.out.trans (by rw [if_neg (by unfold isOwn; simp [hb]), List.append_nil])
          have HP : Hid (((l.take (k + 1)).filter (isOwn may wk)).length = q) := by show _ = _; rw [e1]; exact HQ.out
          rw [← e1] at HRA
          clear e1 HNX HQ g1 hb
          go_wp2_with (first | refine wpList_exec (o := ⟨some 15, _, _, _, _, _⟩) (by rfl) (exec_load_at _ rfl rfl HLD.out) ?_ | refine wpList_laid_e (evC x) 9 _ _ rfl rfl rfl rfl rfl rfl rfl rfl HSZ.out HSO.out ?_ | refine wpList_exec (o := ⟨some 21, _, _, _, _, _⟩) (by rfl) (exec_load_st _ rfl rfl HGS.out HZ.out) ?_ | refine wpList_exec (o := ⟨some 22, _, _, _, _, _⟩) (by rfl) (exec_load_at _ rfl rfl HLX.out) ?_)
          refine (HCX.out _).mono ?_
          rintro e_r w5 ⟨rfl, hb5⟩
          have HB5 := Lib.hid (bel_on HBA.out hb5)
          have HR5 := Lib.hid (HRA.out.below hb5)
          clear hb5 HRA
          go_wp2
          go_roundw
          case rel => exact ⟨k + 1, q, d, B, by omega, by omega, rfl, by go_num, HP, HR5, HB5⟩
          case measure => simp [intOf]; omega
        | true =>
          have e1 : (l.take (k + 1)).filter (isOwn may wk) = (l.take k).filter (isOwn may wk) ++ [x] := HNX.out.trans (by rw [if_pos (by unfold isOwn; simp [hb, g1])])
          have HP : Hid (((l.take (k + 1)).filter (isOwn may wk)).length = q + 1) := by show _ = _; rw [e1, List.length_append, HQ.out]; rfl
          have HE1 := Lib.hid e1
          clear e1 HNX HQ g1 hb
          go_wp2_with (first | refine wpList_exec (o := ⟨some 15, _, _, _, _, _⟩) (by rfl) (exec_load_at _ rfl rfl HLD.out) ?_ | refine wpList_laid_e (evC x) 9 _ _ rfl rfl rfl rfl rfl rfl rfl rfl HSZ.out HSO.out ?_ | refine wpList_exec (o := ⟨some 21, _, _, _, _, _⟩) (by rfl) (exec_load_st _ rfl rfl HGS.out HZ.out) ?_ | refine wpList_exec (o := ⟨some 22, _, _, _, _, _⟩) (by rfl) (exec_load_at _ rfl rfl HLX.out) ?_)
          refine (HCX.out _).mono ?_
          rintro e_r w5 ⟨rfl, hb5⟩
          have HB5 := Lib.hid (bel_on HBA.out hb5)
          have HX5 := Lib.hid (HXA.out.below hb5)
          have HR5 := HRA.out.below hb5
          obtain ⟨A9, c9, w9, hr9, row9, bel9, keep9⟩ := erow_append (HR5.alloc (.cells (evC x) 43)) (evs_one w5 x) (show q + 1 ≤ 100000 by omega) (bel_alloc HB5.out _).size (k := q + 1) rfl
          rw [← HE1.out] at row9
          have HR9 := Lib.hid hr9
          have HW9 := Lib.hid (bel9 w1 (Nat.le_refl _) (bel_alloc HB5.out _))
          have HRW9 := Lib.hid row9
          have HLX5 := Lib.hid (has_load_e HX5.out)
          obtain ⟨bx, hbx⟩ : ∃ bx, Hid (wr.heap.size = bx) := ⟨_, rfl⟩
          rw [hbx.out] at HX5 HLX5
          rw [hbx.out]
          clear hr9 row9 bel9 keep9 HR5 hb5 q1 z1 hbx
          go_wp2_with (first | refine wpList_exec (o := ⟨some 26, _, _, _, _, _⟩) rfl (exec_load_at _ rfl rfl HLX5.out) ?_ | refine wpList_build_e (o := ⟨some 27, _, _, _, _, _⟩) rfl x rfl rfl ?_ | (at_builtin; refine wpList_append_run (o := ⟨some 28, _, _, _, _, _⟩) HR9.out rfl rfl rfl rfl ?_))
          go_roundw
          case rel => exact ⟨k + 1, q + 1, c9, A9, by omega, by omega, rfl, by go_num, HP, HRW9, HW9⟩
          case measure => simp [intOf]; omega
      · have g1' : (x.wk == wk) = false := beq_eq_false_iff_ne.2 g1
        have e1 : (l.take (k + 1)).filter (isOwn may wk) = (l.take k).filter (isOwn may wk) := HNX.out.trans (by rw [if_neg (by unfold isOwn; simp [g1]), List.append_nil])
        have HP : Hid (((l.take (k + 1)).filter (isOwn may wk)).length = q) := by show _ = _; rw [e1]; exact HQ.out
        rw [← e1] at HRA
        clear e1 HNX HQ g1 hb HCX
        go_wp2_with (first | refine wpList_exec (o := ⟨some 15, _, _, _, _, _⟩) (by rfl) (exec_load_at _ rfl rfl HLD.out) ?_ | refine wpList_laid_e (evC x) 9 _ _ rfl rfl rfl rfl rfl rfl rfl rfl HSZ.out HSO.out ?_ | refine wpList_exec (o := ⟨some 21, _, _, _, _, _⟩) (by rfl) (exec_load_st _ rfl rfl HGS.out HZ.out) ?_ | refine wpList_exec (o := ⟨some 22, _, _, _, _, _⟩) (by rfl) (exec_load_at _ rfl rfl HLX.out) ?_)
        go_roundw
        case rel => exact ⟨k + 1, q, d, B, by omega, by omega, rfl, by go_num, HP, HRA, HBA⟩
        case measure => simp [intOf]; omega
    · obtain rfl : k = n := by omega
      have eT : l.take k = l := List.take_of_length_le (by rw [HLN.out]; omega)
      rw [eT] at HQ HR
      have HEv := Lib.hid (HR.out.evs HQ.out)
      have HB1 := Lib.hid (bel_on HBB.out HW.out)
      clear eT HR HW HCK
      go_wp2_with fail
      refine (esort_caps B q d (l.filter (isOwn may wk)) _ HEv.out (by omega)).mono ?_
      rintro e_r w2 ⟨A2, c2, rfl, hb2, hE2, -, -⟩
      have HE2 := Lib.hid hE2
      have HB2 := Lib.hid (bel_on HB1.out hb2)
      clear hE2 hb2 HEv HB1
      go_wp2
      go_ret
      exact ⟨A2, q, c2, rfl, HB2.out, HE2.out, by omega⟩
end Go.Proofs.YtpgncbhahocmbaaGreat

namespace Go.Proofs.YtpgncbhahocmbaaGreat
open Go.RowKit
set_option linter.unusedVariables false
set_option linter.unusedSimpArgs false
set_option maxRecDepth 20000

theorem sumR_in (xs : List (Int × Int)) : mayB (sumR xs).n (sumR xs).d = ((sumR xs).c == 0) := by
  unfold sumR
  split
  · exact sumRGo_may xs rfl
  · rfl
theorem topN_zero (ts : Rows2) (n d : Int) : topN ts n d 0 = -1 := rfl
theorem topN_yes {ts : Rows2} {n d : Int} {i : Nat} (h : leastT ts i * d ≤ 100 * n) : topN ts n d (i + 1) = i := if_pos h
theorem topN_no {ts : Rows2} {n d : Int} {i : Nat} (h : ¬ leastT ts i * d ≤ 100 * n) : topN ts n d (i + 1) = topN ts n d i := if_neg h
end Go.Proofs.YtpgncbhahocmbaaGreat
