/-
  The contracts of package num's functions: what each call answers, at every input; the world is left as it was, but for draws.
  Events: which are fair, their numbers and bytes, and their order. No program here.
  Sessions: what a worker's events, gone through one by one, are made of: items, parts, flags. No program here.
  A session found from its first event on; its parts one by one; how many there are. No program here.
  Which of a week's seconds are regular, overtime, and double. No program here.
  Parts of seven categories, by rising beginnings. No program here.
  The seven categories of a week's seconds. No program here.
-/
import Derived.Test.YtdlimgpmmkcgmaaGreatProg
import Derived.RowKit
import Derived.IntWalk
import Derived.Test.YtdlimgpmmkcgmaaGreatZaa
import Derived.WalkKit
import Derived.WalkLawsBesides
import Derived.Below
import Derived.RegionTactic
import Derived.Deep.QuietTactic
import Derived.BigQuiet
import Derived.Lib.Hide
import Derived.Test.YtdlimgpmmkcgmaaGreatZac
import Derived.Test.YtdlimgpmmkcgmaaGreatZab
namespace Go.Proofs.YtdlimgpmmkcgmaaGreat
open Go.RowKit

def sideV (n : Int) : Int := if n = -9223372036854775808 then 4611686018427387904 else if n < 0 then -n else n
theorem sideV_bd (n : Int) (h : -9223372036854775808 ≤ n) (h' : n ≤ 9223372036854775807) : 0 ≤ sideV n ∧ sideV n ≤ 9223372036854775807 := by
  unfold sideV; split <;> (try split) <;> omega

theorem side_any (n : Int) (w : World) (h1 : -9223372036854775808 ≤ n) (h2 : n ≤ 9223372036854775807) :
    Calls Tryz.prog 170 #[.int .i64 n] w fun e w' => e = .returned (.int .i64 (sideV n)) ∧ w = w' := by
  by_cases h : n = -9223372036854775808
  · subst h
    clear h1 h2
    go_enter Tryz.func170, Tryz.ntmps170
    go_wp2
    go_ret
    exact ⟨rfl, rfl⟩
  · have g : (n == -9223372036854775808) = false := by simpa using h
    have H := Lib.hid (show sideV n = if n < 0 then -n else n from if_neg h)
    by_cases h0 : n < 0
    · go_enter Tryz.func170, Tryz.ntmps170
      go_wp2
      go_ret
      exact ⟨ret_one (by rw [H.out, if_pos h0]), rfl⟩
    · go_enter Tryz.func170, Tryz.ntmps170
      go_wp2
      go_ret
      exact ⟨ret_one (by rw [H.out, if_neg (by omega)]), rfl⟩

theorem gcd_step {c d : Nat} {g : Int} (h : (Nat.gcd c d : Int) = g) : Hid ((Nat.gcd d (c % d) : Int) = g) := by
  show _ = _
  rw [← h, Nat.gcd_comm d, ← Nat.gcd_rec, Nat.gcd_comm]

def gcdV (a b : Int) : Int := Nat.gcd (sideV a).toNat (sideV b).toNat

theorem gcd_any (a b : Int) (w : World) (ha : -9223372036854775808 ≤ a) (ha' : a ≤ 9223372036854775807) (hb : -9223372036854775808 ≤ b) (hb' : b ≤ 9223372036854775807) :
    Calls Tryz.prog 166 #[.int .i64 a, .int .i64 b] w fun e w' => e = .returned (.int .i64 (gcdV a b)) ∧ ∃ n, w' = w.drewN n := by
  obtain ⟨p0, p1⟩ := sideV_bd a ha ha'
  obtain ⟨q0, q1⟩ := sideV_bd b hb hb'
  go_enter Tryz.func166, Tryz.ntmps166
  go_wp2_with fail
  refine (side_any _ _ ha ha').mono ?_
  rintro e w' ⟨rfl, rfl⟩
  go_wp2_with fail
  refine (side_any _ _ hb hb').mono ?_
  rintro e w' ⟨rfl, rfl⟩
  go_wp2
  go_loopw [0, 1] (fun x y wr => ∃ (c d n : Nat), c ≤ 9223372036854775807 ∧ d ≤ 9223372036854775807 ∧ x = .int .i64 c ∧ y = .int .i64 d ∧ Hid ((Nat.gcd c d : Int) = gcdV a b) ∧ wr = w.drewN n) (fun _ y _ => (intOf y).toNat)
  case atStart => exact ⟨(sideV a).toNat, (sideV b).toNat, 0, by omega, by omega, by rw [Int.toNat_of_nonneg p0], by rw [Int.toNat_of_nonneg q0], rfl, rfl⟩
  case round =>
    obtain ⟨c, d, n, hc, hd, rfl, rfl, hg, rfl⟩ := hrel
    by_cases h : d = 0
    · subst h
      go_wp2
      go_ret
      exact ⟨ret_one (by rw [← hg.out, Nat.gcd_zero_right]), n, rfl⟩
    · have hne : ((d : Int) != 0) = true := by simp; omega
      have hdp : 0 < d := by omega
      go_wp2
      go_quiet (fail)
      go_wp2
      go_roundw
      case rel => exact ⟨d, c % d, _, by omega, by have := Nat.mod_lt c hdp; omega, rfl, rfl, gcd_step hg.out, World.drewN_drewN _ _ _⟩
      case measure => simp [intOf]; have := Nat.mod_lt c hdp; omega

def sumGo : Int → List Int → Option Int
  | s, [] => some s
  | s, x :: l => if -9223372036854775808 ≤ s + x ∧ s + x ≤ 9223372036854775807 then sumGo (s + x) l else none
def sumV (l : List Int) : Int := (sumGo 0 l).getD 0
end Go.Proofs.YtdlimgpmmkcgmaaGreat

namespace Go.Proofs.YtdlimgpmmkcgmaaGreat
set_option linter.unusedVariables false
set_option linter.unusedSimpArgs false

structure EvP where
  id : Int
  wk : Int
  tm : Int
  kd : Int
  fr : Int
  to : Int
  el : Int
  un : Int
  cl : Int
  ge : Int
  cd : Int
deriving DecidableEq
def EvP.none : EvP := ⟨0, 0, 0, 0, 0, 0, 0, 0, 0, 0, 0⟩
def EvP.nums (e : EvP) : List Int := [e.id, e.wk, e.tm, e.kd] ++ ((if e.kd = 3 then [e.fr, e.to, e.el, e.un, e.cl, e.ge] else []) ++ (if e.kd = 4 then [e.cd] else []))
structure EvP.Fair (e : EvP) : Prop where
  id : 0 ≤ e.id ∧ e.id ≤ 100000
  wk : 0 ≤ e.wk ∧ e.wk ≤ 9223372036854775807
  tm : 0 ≤ e.tm ∧ e.tm ≤ 31449599
  kd : 1 ≤ e.kd ∧ e.kd ≤ 7
  fr : 0 ≤ e.fr ∧ e.fr ≤ 9223372036854775807
  to : 0 ≤ e.to ∧ e.to ≤ 9223372036854775807
  el : 0 ≤ e.el ∧ e.el ≤ 9223372036854775807
  un : 0 ≤ e.un ∧ e.un ≤ 9223372036854775807
  cl : 0 ≤ e.cl ∧ e.cl ≤ 9223372036854775807
  ge : 0 ≤ e.ge ∧ e.ge ≤ 9223372036854775807
  cd : 0 ≤ e.cd ∧ e.cd ≤ 9223372036854775807
  task : e.kd = 3 ∨ (e.fr = 0 ∧ e.to = 0 ∧ e.el = 0 ∧ e.un = 0 ∧ e.cl = 0 ∧ e.ge = 0)
  code : e.kd = 4 ∨ e.cd = 0
def EvP.bytes (e : EvP) : List (BitVec 8) := bytesN e.nums
/-! ### The document's own Take -/
/-! ### The order -/
def lessE (a b : EvP) : Bool := decide (a.tm < b.tm ∨ (a.tm = b.tm ∧ a.id < b.id))
def alikeE (a b : EvP) : Bool := decide (a.tm = b.tm ∧ a.id = b.id)
/-- Put in behind all that do not stand behind it. -/
def insE (out : List EvP) (x : EvP) : List EvP := out.filter (fun y => !lessE x y) ++ x :: out.filter (fun y => lessE x y)
def sortE (l : List EvP) : List EvP := l.foldl insE []
end Go.Proofs.YtdlimgpmmkcgmaaGreat

namespace Go.Proofs.YtdlimgpmmkcgmaaGreat
set_option linter.unusedVariables false
set_option linter.unusedSimpArgs false

structure SegP where
  fr : Int
  to : Int
  kd : Int
  id : Int
  cd : Int
  deriving DecidableEq
structure FlagP where
  id : Int
  kd : Int
  deriving DecidableEq
/-! ### Sessions rise -/
/-! ### Parts -/
/-- The seconds of parts. -/
def InS (l : List SegP) (t : Int) : Prop := ∃ s, s ∈ l ∧ s.fr ≤ t ∧ t < s.to
end Go.Proofs.YtdlimgpmmkcgmaaGreat

namespace Go.Proofs.YtdlimgpmmkcgmaaGreat
set_option linter.unusedVariables false
set_option linter.unusedSimpArgs false

/-! ### Numbers -/
def segL (s : SegP) : List Int := [s.fr, s.to, s.kd, s.id, s.cd]
def flagL (f : FlagP) : List Int := [f.id, f.kd]
def spanOf (s : SegP) : Int × Int := (s.fr, s.to)
/-- The seconds of parts, and of those of one kind. -/
noncomputable def clockP (l : List SegP) : List (Int × Int) := canon (InS l)
theorem in_spans (l : List SegP) (t : Int) : In (l.map spanOf) t ↔ InS l t := by
  constructor
  · rintro ⟨s, hs, h1, h2⟩
    obtain ⟨x, hx, rfl⟩ := List.mem_map.1 hs
    exact ⟨x, hx, h1, h2⟩
  · rintro ⟨x, hx, h1, h2⟩
    exact ⟨spanOf x, List.mem_map.2 ⟨x, hx, rfl⟩, h1, h2⟩
theorem clock_spans (l : List SegP) : canon (In (l.map spanOf)) = clockP l := canon_congr fun t _ _ => in_spans l t
end Go.Proofs.YtdlimgpmmkcgmaaGreat

namespace Go.Proofs.YtdlimgpmmkcgmaaGreat
set_option linter.unusedVariables false
set_option linter.unusedSimpArgs false

/-- The short ones of all days of W: of each day the first n. -/
def shortS (W : Int → Prop) (n t : Int) : Prop := fstS (onDay W (t / 86400)) n t
/-- Regular: r the day's, v the week's; overtime; double: o the day's. -/
def regS (W : Int → Prop) (r v t : Int) : Prop := fstS (shortS W r) v t
def dblS (W : Int → Prop) (o t : Int) : Prop := W t ∧ ¬ shortS W o t
def ovrS (W : Int → Prop) (r o v t : Int) : Prop := (shortS W r t ∧ ¬ regS W r v t) ∨ (shortS W o t ∧ ¬ shortS W r t)
section
variable {W : Int → Prop} {r o v : Int}
theorem short_in {n t : Int} (h : shortS W n t) : W t := h.1.1
theorem short_le (h : r ≤ o) {t : Int} (k : shortS W r t) : shortS W o t := ⟨k.1, by have := k.2; omega⟩
theorem reg_in {t : Int} (h : regS W r v t) : shortS W r t := h.1
/-- OverMakes: they are the week's, and share none. -/
theorem over_or (h : r ≤ o) (t : Int) : W t ↔ regS W r v t ∨ ovrS W r o v t ∨ dblS W o t := by
  constructor
  · intro k
    by_cases q1 : shortS W o t
    · by_cases q2 : shortS W r t
      · by_cases q3 : regS W r v t
        · exact .inl q3
        · exact .inr (.inl (.inl ⟨q2, q3⟩))
      · exact .inr (.inl (.inr ⟨q1, q2⟩))
    · exact .inr (.inr ⟨k, q1⟩)
  · rintro (k | (k | k) | k)
    · exact short_in k.1
    · exact short_in k.1
    · exact short_in k.1
    · exact k.1
theorem reg_ovr {t : Int} : ¬ (regS W r v t ∧ ovrS W r o v t) := by
  rintro ⟨k, q | q⟩
  · exact q.2 k
  · exact q.2 k.1
theorem reg_dbl (h : r ≤ o) {t : Int} : ¬ (regS W r v t ∧ dblS W o t) := fun ⟨k, q⟩ => q.2 (short_le h k.1)
theorem ovr_dbl (h : r ≤ o) {t : Int} : ¬ (ovrS W r o v t ∧ dblS W o t) := by
  rintro ⟨k | k, q⟩
  · exact q.2 (short_le h k.1)
  · exact q.2 k.1
theorem over_sizes (h : r ≤ o) : sz W = sz (regS W r v) + sz (ovrS W r o v) + sz (dblS W o) := by
  have h1 := sz_or (p := fun t => regS W r v t ∨ ovrS W r o v t) (q := dblS W o) (r := W) (fun t _ _ => ⟨by rw [or_assoc]; exact over_or h t, fun ⟨k, q⟩ => k.elim (fun z => reg_dbl h ⟨z, q⟩) (fun z => ovr_dbl h ⟨z, q⟩)⟩)
  have h2 := sz_or (p := regS W r v) (q := ovrS W r o v) (r := fun t => regS W r v t ∨ ovrS W r o v t) (fun t _ _ => ⟨Iff.rfl, reg_ovr⟩)
  omega
end
/-! ### By days -/
/-- The sum of seven days. -/
def sevenI (f : Int → Int) (k : Int) : Int := f (7 * k) + f (7 * k + 1) + f (7 * k + 2) + f (7 * k + 3) + f (7 * k + 4) + f (7 * k + 5) + f (7 * k + 6)
theorem day_week {t k : Int} (h : t / 604800 = k) : 7 * k ≤ t / 86400 ∧ t / 86400 ≤ 7 * k + 5 + 1 := by omega
theorem seven_sum {a s0 s1 s2 s3 s4 s5 s6 t1 t2 t3 t4 t5 : Int} (h0 : t1 = s0 + s1) (h1 : t2 = t1 + s2) (h2 : t3 = t2 + s3) (h3 : t4 = t3 + s4) (h4 : t5 = t4 + s5) (h5 : a = t5 + s6) : a = s0 + s1 + s2 + s3 + s4 + s5 + s6 := by omega
theorem sz_seven {q : Int → Prop} {k : Int} (hk : 0 ≤ k) (h : ∀ t, 0 ≤ t → q t → t / 604800 = k) : sz q = sevenI (fun d => sz (onDay q d)) k := by
  have step : ∀ a b : Int, a ≤ b → sz (fun t => q t ∧ a ≤ t / 86400 ∧ t / 86400 ≤ b + 1) = sz (fun t => q t ∧ a ≤ t / 86400 ∧ t / 86400 ≤ b) + sz (onDay q (b + 1)) := fun a b hab => sz_or fun t _ _ => ⟨by
    unfold onDay
    constructor
    · rintro ⟨h1, h2, h3⟩
      by_cases e : t / 86400 ≤ b
      · exact .inl ⟨h1, h2, e⟩
      · exact .inr ⟨h1, by omega⟩
    · rintro (⟨h1, h2, h3⟩ | ⟨h1, h2⟩)
      · exact ⟨h1, h2, by omega⟩
      · exact ⟨h1, by omega, by omega⟩, fun ⟨h1, h2⟩ => by have := h1.2.2; have := h2.2; omega⟩
  have h0 : sz (fun t => q t ∧ 7 * k ≤ t / 86400 ∧ t / 86400 ≤ 7 * k) = sz (onDay q (7 * k)) := sz_congr fun t _ _ => ⟨fun z => ⟨z.1, by omega⟩, fun z => ⟨z.1, by have := z.2; omega, by have := z.2; omega⟩⟩
  have h1 := step (7 * k) (7 * k) (by omega)
  have h2 := step (7 * k) (7 * k + 1) (by omega)
  have h3 := step (7 * k) (7 * k + 2) (by omega)
  have h4 := step (7 * k) (7 * k + 3) (by omega)
  have h5 := step (7 * k) (7 * k + 4) (by omega)
  have h6 := step (7 * k) (7 * k + 5) (by omega)
  have h7 : sz q = sz (fun t => q t ∧ 7 * k ≤ t / 86400 ∧ t / 86400 ≤ 7 * k + 5 + 1) := sz_congr fun t a _ => ⟨fun z => ⟨z, day_week (h t a z)⟩, fun z => z.1⟩
  rw [show (7 * k + 1 + 1 : Int) = 7 * k + 2 by omega] at h2
  rw [show (7 * k + 2 + 1 : Int) = 7 * k + 3 by omega] at h3
  rw [show (7 * k + 3 + 1 : Int) = 7 * k + 4 by omega] at h4
  rw [show (7 * k + 4 + 1 : Int) = 7 * k + 5 by omega] at h5
  rw [show (7 * k + 5 + 1 : Int) = 7 * k + 6 by omega] at h6 h7
  rw [h0] at h1
  exact seven_sum h1 h2 h3 h4 h5 (h7.trans h6)
theorem seven_congr {f g : Int → Int} (h : ∀ d, f d = g d) (k : Int) : sevenI f k = sevenI g k := by unfold sevenI; rw [h, h, h, h, h, h, h]
theorem short_day {W : Int → Prop} {n d : Int} (hn : 0 ≤ n) : sz (onDay (shortS W n) d) = min n (sz (onDay W d)) := by
  rw [← sz_fst (p := onDay W d) hn]
  refine sz_congr fun t _ _ => ?_
  unfold onDay shortS
  constructor
  · rintro ⟨q1, q2⟩; rw [q2] at q1; exact q1
  · intro q
    have e : t / 86400 = d := q.1.2
    rw [e]; exact ⟨q, rfl⟩
theorem dbl_day {W : Int → Prop} {n d : Int} (hn : 0 ≤ n) : sz (onDay (dblS W n) d) = max 0 (sz (onDay W d) - n) := by
  have h1 := short_day (W := W) (n := n) (d := d) hn
  have h2 := sz_or (p := onDay (shortS W n) d) (q := onDay (dblS W n) d) (r := onDay W d) (fun t _ _ => ⟨by
    unfold onDay
    constructor
    · rintro ⟨q1, q2⟩
      by_cases e : shortS W n t
      · exact .inl ⟨e, q2⟩
      · exact .inr ⟨⟨q1, e⟩, q2⟩
    · rintro (q | q)
      · exact ⟨short_in q.1, q.2⟩
      · exact ⟨q.1.1, q.2⟩, fun ⟨q1, q2⟩ => q2.1.2 q1.1⟩)
  omega
theorem sz_short {W : Int → Prop} {n k : Int} (hn : 0 ≤ n) (hk : 0 ≤ k) (h : ∀ t, 0 ≤ t → W t → t / 604800 = k) : sz (shortS W n) = sevenI (fun d => min n (sz (onDay W d))) k :=
  (sz_seven hk fun t a q => h t a (short_in q)).trans (seven_congr (fun d => short_day hn) k)
theorem sz_dbl {W : Int → Prop} {n k : Int} (hn : 0 ≤ n) (hk : 0 ≤ k) (h : ∀ t, 0 ≤ t → W t → t / 604800 = k) : sz (dblS W n) = sevenI (fun d => max 0 (sz (onDay W d) - n)) k :=
  (sz_seven hk fun t a q => h t a q.1).trans (seven_congr (fun d => dbl_day hn) k)
theorem sz_reg {W : Int → Prop} {r v : Int} (hv : 0 ≤ v) : sz (regS W r v) = min v (sz (shortS W r)) := sz_fst hv
/-! ### The first seconds of a week -/
theorem fst_cut {p p' : Int → Prop} {n X : Int} (h : ∀ t, 0 ≤ t → t < 32054400 → (p' t ↔ p t ∧ t < X)) {t : Int} (h0 : 0 ≤ t) (h1 : t < 32054400) : fstS p' n t ↔ fstS p n t ∧ t < X := by
  unfold fstS
  rw [h t h0 h1]
  constructor
  · rintro ⟨⟨q1, q2⟩, q3⟩
    rw [cnt_congr (q := p) (fun u a b => by rw [h u a (by omega)]; exact ⟨fun z => z.1, fun z => ⟨z, by omega⟩⟩)] at q3
    exact ⟨⟨q1, q3⟩, q2⟩
  · rintro ⟨⟨q1, q3⟩, q2⟩
    refine ⟨⟨q1, q2⟩, ?_⟩
    rw [cnt_congr (q := p) (fun u a b => by rw [h u a (by omega)]; exact ⟨fun z => z.1, fun z => ⟨z, by omega⟩⟩)]
    exact q3
section
variable {W W' : Int → Prop} {r o v X : Int}
theorem short_cut (h : ∀ t, 0 ≤ t → t < 32054400 → (W' t ↔ W t ∧ t < X)) {n t : Int} (h0 : 0 ≤ t) (h1 : t < 32054400) : shortS W' n t ↔ shortS W n t ∧ t < X := by
  unfold shortS
  exact fst_cut (p := onDay W (t / 86400)) (p' := onDay W' (t / 86400)) (fun u a b => by
    unfold onDay
    rw [h u a b]
    exact ⟨fun q => ⟨⟨q.1.1, q.2⟩, q.1.2⟩, fun q => ⟨⟨q.1.1, q.2⟩, q.1.2⟩⟩) h0 h1
theorem reg_cut (h : ∀ t, 0 ≤ t → t < 32054400 → (W' t ↔ W t ∧ t < X)) {t : Int} (h0 : 0 ≤ t) (h1 : t < 32054400) : regS W' r v t ↔ regS W r v t ∧ t < X :=
  fst_cut (fun u a b => short_cut h a b) h0 h1
theorem ovr_cut (h : ∀ t, 0 ≤ t → t < 32054400 → (W' t ↔ W t ∧ t < X)) {t : Int} (h0 : 0 ≤ t) (h1 : t < 32054400) : ovrS W' r o v t ↔ ovrS W r o v t ∧ t < X := by
  unfold ovrS
  rw [short_cut h h0 h1, short_cut h h0 h1, reg_cut h h0 h1]
  constructor
  · rintro (⟨⟨a, b⟩, c⟩ | ⟨⟨a, b⟩, c⟩)
    · exact ⟨.inl ⟨a, fun z => c ⟨z, b⟩⟩, b⟩
    · exact ⟨.inr ⟨a, fun z => c ⟨z, b⟩⟩, b⟩
  · rintro ⟨⟨a, c⟩ | ⟨a, c⟩, b⟩
    · exact .inl ⟨⟨a, b⟩, fun z => c z.1⟩
    · exact .inr ⟨⟨a, b⟩, fun z => c z.1⟩
theorem dbl_cut (h : ∀ t, 0 ≤ t → t < 32054400 → (W' t ↔ W t ∧ t < X)) {t : Int} (h0 : 0 ≤ t) (h1 : t < 32054400) : dblS W' o t ↔ dblS W o t ∧ t < X := by
  unfold dblS
  rw [short_cut h h0 h1, h t h0 h1]
  constructor
  · rintro ⟨⟨a, b⟩, c⟩; exact ⟨⟨a, fun z => c ⟨z, b⟩⟩, b⟩
  · rintro ⟨⟨a, c⟩, b⟩; exact ⟨⟨a, b⟩, fun z => c z.1⟩
end
end Go.Proofs.YtdlimgpmmkcgmaaGreat

namespace Go.Proofs.YtdlimgpmmkcgmaaGreat
set_option linter.unusedVariables false
set_option linter.unusedSimpArgs false

/-- Rising by a key: two such lists with the same members are one. -/
def RiseBy {α : Type} (f : α → Int) (l : List α) : Prop := l.Pairwise fun x y => f x < f y
theorem riseby_one {α : Type} {f : α → Int} : ∀ {l m : List α}, RiseBy f l → RiseBy f m → (∀ e, e ∈ l ↔ e ∈ m) → l = m
  | [], [], _, _, _ => rfl
  | [], y :: m, _, _, h => by have := (h y).2 (by simp); simp at this
  | x :: l, [], _, _, h => by have := (h x).1 (by simp); simp at this
  | x :: l, y :: m, hl, hm, h => by
    have l1 := List.pairwise_cons.1 hl
    have m1 := List.pairwise_cons.1 hm
    have e : x = y := by
      rcases List.mem_cons.1 ((h x).1 (by simp)) with q | q
      · exact q
      · rcases List.mem_cons.1 ((h y).2 (by simp)) with p | p
        · exact p.symm
        · have := l1.1 y p; have := m1.1 x q; omega
    subst e
    rw [riseby_one l1.2 m1.2 fun e => ?_]
    constructor
    · intro he
      rcases List.mem_cons.1 ((h e).1 (List.mem_cons_of_mem _ he)) with q | q
      · have := l1.1 e he; rw [q] at this; omega
      · exact q
    · intro he
      rcases List.mem_cons.1 ((h e).2 (List.mem_cons_of_mem _ he)) with q | q
      · have := m1.1 e he; rw [q] at this; omega
      · exact q
theorem rise_plain : ∀ {l : List (Int × Int)} {a : Int}, PlainFrom a l → RiseBy (·.1) l := fun {l a} h => by
  have p := plain_pairs.1 h
  exact List.Pairwise.imp_of_mem (fun {x y} hx hy q => by have := (p.1 x hx).2.1; show x.1 < y.1; omega) p.2
/-- A part: its beginning, its end, its category. -/
abbrev PartP := Int × Int × Int
def insP (x : PartP) : List PartP → List PartP
  | [] => [x]
  | y :: l => if y.1 < x.1 then y :: insP x l else x :: y :: l
theorem mem_insP {x e : PartP} : ∀ {l : List PartP}, e ∈ insP x l ↔ e = x ∨ e ∈ l
  | [] => by simp [insP]
  | y :: l => by
    unfold insP
    split
    · rw [List.mem_cons, mem_insP, List.mem_cons, or_left_comm]
    · rw [List.mem_cons]
theorem insP_rise {x : PartP} : ∀ {l : List PartP}, RiseBy (·.1) l → (∀ e ∈ l, e.1 ≠ x.1) → RiseBy (·.1) (insP x l)
  | [], _, _ => by simp [insP, RiseBy]
  | y :: l, h, hx => by
    have h1 := List.pairwise_cons.1 h
    have hy := hx y (by simp)
    unfold insP
    split
    · rename_i hlt
      refine List.pairwise_cons.2 ⟨fun e he => ?_, insP_rise h1.2 fun e he => hx e (List.mem_cons_of_mem _ he)⟩
      rcases mem_insP.1 he with rfl | he
      · exact hlt
      · exact h1.1 e he
    · rename_i hlt
      refine List.pairwise_cons.2 ⟨fun e he => ?_, h⟩
      rcases List.mem_cons.1 he with rfl | he
      · show x.1 < e.1; omega
      · have q : y.1 < e.1 := h1.1 e he
        show x.1 < e.1
        omega
theorem insP_len {x : PartP} : ∀ {l : List PartP}, (insP x l).length = l.length + 1
  | [] => rfl
  | y :: l => by unfold insP; split <;> simp [insP_len]
/-- Where a part is put: behind all that begin before it. -/
theorem insP_at {x : PartP} {k : Nat} : ∀ {l : List PartP}, k ≤ l.length → (∀ j, j < k → (l.getD j (0, 0, 0)).1 < x.1) → (k < l.length → ¬ (l.getD k (0, 0, 0)).1 < x.1) → insP x l = l.take k ++ x :: l.drop k := by
  induction k with
  | zero =>
    intro l _ _ h
    cases l with
    | nil => rfl
    | cons y l =>
      have := h (by simp)
      simp at this
      unfold insP
      rw [if_neg (by omega)]
      simp
  | succ k ih =>
    intro l hk h1 h2
    cases l with
    | nil => simp at hk
    | cons y l =>
      have q := h1 0 (by omega)
      simp at q
      unfold insP
      rw [if_pos q, ih (by simp at hk; omega) (fun j hj => by have := h1 (j + 1) (by omega); simpa using this) (fun hl => by have := h2 (by simp; omega); simpa using this)]
      simp
/-- The spans of a category put in, one after the other. -/
def addP (out : List PartP) (l : List (Int × Int)) (c : Int) : List PartP := l.foldl (fun o s => insP (s.1, s.2, c) o) out
theorem addP_snoc (out : List PartP) (l : List (Int × Int)) (s : Int × Int) (c : Int) : addP out (l ++ [s]) c = insP (s.1, s.2, c) (addP out l c) := by simp [addP]
theorem mem_addP {c : Int} {e : PartP} : ∀ {l : List (Int × Int)} {out : List PartP}, e ∈ addP out l c ↔ e ∈ out ∨ (e.2.2 = c ∧ (e.1, e.2.1) ∈ l)
  | [], out => by simp [addP]
  | s :: l, out => by
    show e ∈ addP (insP (s.1, s.2, c) out) l c ↔ _
    rw [mem_addP, mem_insP]
    obtain ⟨a, b, d⟩ := e
    obtain ⟨s1, s2⟩ := s
    simp only [Prod.mk.injEq, List.mem_cons]
    constructor
    · rintro ((⟨h1, h2, h3⟩ | h) | ⟨h1, h2⟩)
      · exact .inr ⟨h3, .inl ⟨h1, h2⟩⟩
      · exact .inl h
      · exact .inr ⟨h1, .inr h2⟩
    · rintro (h | ⟨h1, ⟨h2, h3⟩ | h2⟩)
      · exact .inl (.inr h)
      · exact .inl (.inl ⟨h2, h3, h1⟩)
      · exact .inr ⟨h1, h2⟩
theorem addP_rise {c : Int} : ∀ {l : List (Int × Int)} {out : List PartP}, RiseBy (·.1) out → RiseBy (·.1) l → (∀ e ∈ out, ∀ s ∈ l, e.1 ≠ s.1) → RiseBy (·.1) (addP out l c)
  | [], out, h, _, _ => h
  | s :: l, out, h, hl, hd => by
    have l1 := List.pairwise_cons.1 hl
    show RiseBy _ (addP (insP (s.1, s.2, c) out) l c)
    refine addP_rise (insP_rise h fun e he => hd e he s (by simp)) l1.2 fun e he x hx => ?_
    rcases mem_insP.1 he with rfl | he
    · have q : s.1 < x.1 := l1.1 x hx
      show s.1 ≠ x.1
      omega
    · exact hd e he x (List.mem_cons_of_mem _ hx)
theorem addP_len {c : Int} : ∀ {l : List (Int × Int)} {out : List PartP}, (addP out l c).length = out.length + l.length
  | [], out => rfl
  | s :: l, out => by
    show (addP (insP (s.1, s.2, c) out) l c).length = _
    rw [addP_len, insP_len, List.length_cons]; omega
/-- The spans of the parts of a category. -/
def spansP (l : List PartP) (c : Int) : List (Int × Int) := (l.filter fun e => decide (e.2.2 = c)).map fun e => (e.1, e.2.1)
theorem mem_spansP {l : List PartP} {c : Int} {s : Int × Int} : s ∈ spansP l c ↔ (s.1, s.2, c) ∈ l := by
  unfold spansP
  rw [List.mem_map]
  constructor
  · rintro ⟨⟨a, b, d⟩, he, rfl⟩
    have := List.mem_filter.1 he
    have e : d = c := by simpa using this.2
    subst e
    exact this.1
  · intro h
    exact ⟨_, List.mem_filter.2 ⟨h, by simp⟩, rfl⟩
theorem spansP_rise {l : List PartP} (h : RiseBy (·.1) l) (c : Int) : RiseBy (·.1) (spansP l c) := by
  unfold spansP RiseBy
  rw [List.pairwise_map]
  exact h.sublist List.filter_sublist
theorem spansP_snoc (l : List PartP) (x : PartP) (c : Int) : spansP (l ++ [x]) c = spansP l c ++ if x.2.2 = c then [(x.1, x.2.1)] else [] := by
  unfold spansP
  rw [List.filter_append, List.map_append]
  by_cases h : x.2.2 = c <;> simp [h]
/-- The parts of the categories 0 to n - 1. -/
def catsP (L : Nat → List (Int × Int)) : Nat → List PartP
  | 0 => []
  | n + 1 => addP (catsP L n) (L n) n
theorem mem_catsP {L : Nat → List (Int × Int)} {e : PartP} : ∀ {n : Nat}, e ∈ catsP L n ↔ ∃ c : Nat, c < n ∧ e.2.2 = c ∧ (e.1, e.2.1) ∈ L c
  | 0 => by simp [catsP]
  | n + 1 => by
    unfold catsP
    rw [mem_addP, mem_catsP]
    constructor
    · rintro (⟨c, h1, h2⟩ | h)
      · exact ⟨c, by omega, h2⟩
      · exact ⟨n, by omega, h⟩
    · rintro ⟨c, h1, h2⟩
      by_cases e : c = n
      · subst e; exact .inr h2
      · exact .inl ⟨c, by omega, h2⟩
section
variable {L : Nat → List (Int × Int)} (hp : ∀ c, PlainFrom 0 (L c)) (hd : ∀ c d t, c ≠ d → In (L c) t → ¬ In (L d) t)
include hp hd
theorem from_apart {c d : Nat} (h : c ≠ d) {x y : Int × Int} (hx : x ∈ L c) (hy : y ∈ L d) : x.1 ≠ y.1 := fun e =>
  hd c d x.1 h ⟨x, hx, Int.le_refl _, ((plain_pairs.1 (hp c)).1 x hx).2.1⟩ ⟨y, hy, by omega, by have := ((plain_pairs.1 (hp d)).1 y hy).2.1; omega⟩
theorem catsP_rise : ∀ n, RiseBy (·.1) (catsP L n)
  | 0 => by simp [catsP, RiseBy]
  | n + 1 => addP_rise (catsP_rise n) (rise_plain (hp n)) fun e he s hs => by
    obtain ⟨c, hc, _, q⟩ := mem_catsP.1 he
    exact from_apart hp hd (show c ≠ n by omega) q hs
theorem spans_catsP {n c : Nat} (h : c < n) : spansP (catsP L n) c = L c :=
  riseby_one (spansP_rise (catsP_rise hp hd n) c) (rise_plain (hp c)) fun s => by
    rw [mem_spansP, mem_catsP]
    constructor
    · rintro ⟨d, _, q, z⟩
      have e : c = d := by simp only [] at q; omega
      subst e; exact z
    · intro z
      exact ⟨c, h, rfl, z⟩
/-- Any list that rises and has these parts is the one. -/
theorem catsP_one {n : Nat} {l : List PartP} (hl : RiseBy (·.1) l) (h : ∀ e, e ∈ l ↔ ∃ c : Nat, c < n ∧ e.2.2 = c ∧ (e.1, e.2.1) ∈ L c) : l = catsP L n :=
  riseby_one hl (catsP_rise hp hd n) fun e => by rw [h, mem_catsP]
end
end Go.Proofs.YtdlimgpmmkcgmaaGreat

namespace Go.Proofs.YtdlimgpmmkcgmaaGreat
set_option linter.unusedVariables false
set_option linter.unusedSimpArgs false

/-- U: unpaid; A, B, C: regular, overtime, double; N: by night. -/
noncomputable def catL (U A B C N : List (Int × Int)) : Nat → List (Int × Int)
  | 0 => U
  | 1 => canon fun t => In A t ∧ ¬ In N t
  | 2 => canon fun t => In B t ∧ ¬ In N t
  | 3 => canon fun t => In C t ∧ ¬ In N t
  | 4 => canon fun t => In A t ∧ In N t
  | 5 => canon fun t => In B t ∧ In N t
  | 6 => canon fun t => In C t ∧ In N t
  | _ => []
section
variable {U A B C N : List (Int × Int)}
theorem cat_plain (hU : PlainFrom 0 U) : ∀ c, PlainFrom 0 (catL U A B C N c)
  | 0 => hU
  | 1 => canon_plain _
  | 2 => canon_plain _
  | 3 => canon_plain _
  | 4 => canon_plain _
  | 5 => canon_plain _
  | 6 => canon_plain _
  | c + 7 => trivial
theorem cat_which {t : Int} : ∀ {c : Nat}, In (catL U A B C N c) t → (c = 0 ∧ In U t) ∨ ((c = 1 ∧ ¬ In N t ∨ c = 4 ∧ In N t) ∧ In A t) ∨ ((c = 2 ∧ ¬ In N t ∨ c = 5 ∧ In N t) ∧ In B t) ∨ ((c = 3 ∧ ¬ In N t ∨ c = 6 ∧ In N t) ∧ In C t)
  | 0, h => .inl ⟨rfl, h⟩
  | 1, h => by have := ((canon_in _ t).1 h).2.2; exact .inr (.inl ⟨.inl ⟨rfl, this.2⟩, this.1⟩)
  | 2, h => by have := ((canon_in _ t).1 h).2.2; exact .inr (.inr (.inl ⟨.inl ⟨rfl, this.2⟩, this.1⟩))
  | 3, h => by have := ((canon_in _ t).1 h).2.2; exact .inr (.inr (.inr ⟨.inl ⟨rfl, this.2⟩, this.1⟩))
  | 4, h => by have := ((canon_in _ t).1 h).2.2; exact .inr (.inl ⟨.inr ⟨rfl, this.2⟩, this.1⟩)
  | 5, h => by have := ((canon_in _ t).1 h).2.2; exact .inr (.inr (.inl ⟨.inr ⟨rfl, this.2⟩, this.1⟩))
  | 6, h => by have := ((canon_in _ t).1 h).2.2; exact .inr (.inr (.inr ⟨.inr ⟨rfl, this.2⟩, this.1⟩))
  | c + 7, h => absurd h (in_nil t)
/-- They share no second. -/
theorem cat_apart (h1 : ∀ t, In U t → ¬ (In A t ∨ In B t ∨ In C t)) (h2 : ∀ t, ¬ (In A t ∧ In B t)) (h3 : ∀ t, ¬ (In A t ∧ In C t)) (h4 : ∀ t, ¬ (In B t ∧ In C t)) : ∀ c d t, c ≠ d → In (catL U A B C N c) t → ¬ In (catL U A B C N d) t := fun c d t hcd h k => by
  have a := cat_which h
  have b := cat_which k
  have g1 := h1 t
  have g2 := h2 t
  have g3 := h3 t
  have g4 := h4 t
  clear h k h1 h2 h3 h4
  generalize In U t = u at *
  generalize In A t = x at *
  generalize In B t = y at *
  generalize In C t = z at *
  generalize In N t = n at *
  grind
/-- They are all. -/
theorem cat_all (hA : PlainFrom 0 A) (hB : PlainFrom 0 B) (hC : PlainFrom 0 C) {t : Int} : (∃ c, c < 7 ∧ In (catL U A B C N c) t) ↔ In U t ∨ In A t ∨ In B t ∨ In C t := by
  constructor
  · rintro ⟨c, _, h⟩
    rcases cat_which h with q | q | q | q
    · exact .inl q.2
    · exact .inr (.inl q.2)
    · exact .inr (.inr (.inl q.2))
    · exact .inr (.inr (.inr q.2))
  · rintro (h | h | h | h)
    · exact ⟨0, by omega, h⟩
    · have b := hA.bound h
      by_cases n : In N t
      · exact ⟨4, by omega, (canon_in _ t).2 ⟨b.1, b.2, h, n⟩⟩
      · exact ⟨1, by omega, (canon_in _ t).2 ⟨b.1, b.2, h, n⟩⟩
    · have b := hB.bound h
      by_cases n : In N t
      · exact ⟨5, by omega, (canon_in _ t).2 ⟨b.1, b.2, h, n⟩⟩
      · exact ⟨2, by omega, (canon_in _ t).2 ⟨b.1, b.2, h, n⟩⟩
    · have b := hC.bound h
      by_cases n : In N t
      · exact ⟨6, by omega, (canon_in _ t).2 ⟨b.1, b.2, h, n⟩⟩
      · exact ⟨3, by omega, (canon_in _ t).2 ⟨b.1, b.2, h, n⟩⟩
/-- By day and by night together: what it was. -/
theorem both_is {A N : List (Int × Int)} (hA : PlainFrom 0 A) : canon (In ((canon fun t => In A t ∧ ¬ In N t) ++ canon fun t => In A t ∧ In N t)) = A := by
  refine (canon_congr (q := In A) fun t h0 h1 => ?_).trans (canon_self hA)
  rw [in_append, canon_in, canon_in]
  constructor
  · rintro (q | q)
    · exact q.2.2.1
    · exact q.2.2.1
  · intro h
    by_cases n : In N t
    · exact .inr ⟨h0, h1, h, n⟩
    · exact .inl ⟨h0, h1, h, n⟩
theorem both_sz {A N : List (Int × Int)} : sz (In (canon fun t => In A t ∧ ¬ In N t)) + sz (In (canon fun t => In A t ∧ In N t)) = sz (In A) :=
  (sz_or fun t h0 h1 => ⟨by
    rw [canon_in, canon_in]
    constructor
    · intro h
      by_cases n : In N t
      · exact .inr ⟨h0, h1, h, n⟩
      · exact .inl ⟨h0, h1, h, n⟩
    · rintro (q | q)
      · exact q.2.2.1
      · exact q.2.2.1, by
    rw [canon_in, canon_in]
    rintro ⟨q, r⟩
    exact q.2.2.2 r.2.2.2⟩).symm
/-- The dark ones of all three: those of the three that are by night. -/
theorem dark_sz {W : List (Int × Int)} (h : ∀ t, 0 ≤ t → t < 32054400 → (In W t ↔ In A t ∨ In B t ∨ In C t)) (h2 : ∀ t, ¬ (In A t ∧ In B t)) (h3 : ∀ t, ¬ (In A t ∧ In C t)) (h4 : ∀ t, ¬ (In B t ∧ In C t)) :
    sz (In (canon fun t => In A t ∧ In N t)) + sz (In (canon fun t => In B t ∧ In N t)) + sz (In (canon fun t => In C t ∧ In N t)) = sz (fun t => In W t ∧ In N t) := by
  have e1 := sz_or (p := In (canon fun t => In A t ∧ In N t)) (q := In (canon fun t => In B t ∧ In N t)) (r := fun t => (In A t ∨ In B t) ∧ In N t) fun t h0 h1 => by
    have := h2 t
    rw [canon_in, canon_in]
    grind
  have e2 := sz_or (p := fun t => (In A t ∨ In B t) ∧ In N t) (q := In (canon fun t => In C t ∧ In N t)) (r := fun t => In W t ∧ In N t) fun t h0 h1 => by
    have := h3 t
    have := h4 t
    have := h t h0 h1
    rw [canon_in]
    grind
  omega
end
end Go.Proofs.YtdlimgpmmkcgmaaGreat
