/-
  The contracts of package span's functions, continued: Norm.
  Plain facts on numbers through others: lowest terms, which of them may be, what is as much. No program is named here.
  Setups: which may be, their numbers, and that they are read in one way. No program here.
  Setups read off a list of numbers, place by place. No program here.
  Slices of bytes of the call's own: append, store, cut.
  Bytes turned into texts, whatever their number; texts held against each other.
  Events: which are fair, their numbers and bytes, and their order. No program here.
  Sessions: what a worker's events, gone through one by one, are made of: items, parts, flags. No program here.
  A session found from its first event on; its parts one by one; how many there are. No program here.
-/
import Derived.Test.YtghfhoodbiiciaaGreatZac
import Derived.Deep.QuietTactic
import Derived.BigQuiet
import Derived.RowKit
import Derived.IntWalk
import Derived.Test.YtghfhoodbiiciaaGreatZaa
import Derived.Test.YtghfhoodbiiciaaGreatProg
import Derived.Test.YtghfhoodbiiciaaGreatZab
import Derived.Laws.BytesArg
namespace Go.Proofs.YtghfhoodbiiciaaGreat
open Go.RowKit
set_option linter.unusedVariables false

theorem in_take (ys : List (Int × Int)) (k : Nat) (h : k < ys.length) (t : Int) : In (ys.take (k + 1)) t ↔ In (ys.take k) t ∨ ((ys.getD k (0, 0)).1 ≤ t ∧ t < (ys.getD k (0, 0)).2) := by
  rw [List.take_succ_eq_append_getElem h, in_append, in_one]
  simp [List.getD, h]
theorem rises_at {xs ys : List (Int × Int)} (h : Rises xs ys) {k : Nat} (hk : k < ys.length) : 0 ≤ (ys.getD k (0, 0)).1 ∧ (ys.getD k (0, 0)).1 < (ys.getD k (0, 0)).2 ∧ (ys.getD k (0, 0)).2 ≤ 32054400 := h.2.1 _ (by simp [List.getD, hk])
theorem rises_le {xs ys : List (Int × Int)} (h : Rises xs ys) {k j : Nat} (hkj : k < j) (hj : j < ys.length) : (ys.getD k (0, 0)).1 ≤ (ys.getD j (0, 0)).1 := by
  have := (List.pairwise_iff_getElem.1 h.1) k j (by omega) hj hkj
  have hk : k < ys.length := by omega
  simpa [List.getD, hk, hj] using this

/-- How far Norm has come. -/
def NormAt (ys L : List (Int × Int)) (k : Nat) : Prop := ∃ a, Grown (In (ys.take k)) a L ∧ ∀ j, k ≤ j → j < ys.length → a ≤ (ys.getD j (0, 0)).1
theorem normAt_push {xs ys L : List (Int × Int)} {k : Nat} (hr : Rises xs ys) (hk : k < ys.length) (h : NormAt ys L k) (hl : ∀ x ∈ L, x.2 < (ys.getD k (0, 0)).1) : NormAt ys (L ++ [ys.getD k (0, 0)]) (k + 1) := by
  obtain ⟨a, hg, ha⟩ := h
  have hz := rises_at hr hk
  exact ⟨_, grown_snoc hg (ha k (Nat.le_refl _) hk) hz.1 hz.2.1 hz.2.2 hl (in_take ys k hk), fun j h1 h2 => rises_le hr (by omega) h2⟩
theorem normAt_last {xs ys L : List (Int × Int)} {r : Int × Int} {k : Nat} (hr : Rises xs ys) (hk : k < ys.length) (h : NormAt ys (L ++ [r]) k) (hl : (ys.getD k (0, 0)).1 ≤ r.2) : NormAt ys (L ++ [(r.1, max r.2 (ys.getD k (0, 0)).2)]) (k + 1) := by
  obtain ⟨a, hg, ha⟩ := h
  have hz := rises_at hr hk
  exact ⟨_, grown_last hg (ha k (Nat.le_refl _) hk) hz.2.1 hz.2.2 hl (in_take ys k hk), fun j h1 h2 => rises_le hr (by omega) h2⟩
theorem normAt_below {ys L : List (Int × Int)} {r : Int × Int} {k : Nat} (h : NormAt ys (L ++ [r]) k) {z : Int} (hz : r.2 < z) : ∀ x ∈ L ++ [r], x.2 < z := by
  obtain ⟨a, hg, ha⟩ := h
  obtain ⟨k1, k2, k3, k4, k5⟩ := plain_unsnoc hg.1
  intro x hx
  rcases List.mem_append.1 hx with hx | hx
  · have := k2 x hx; omega
  · rw [List.mem_singleton.1 hx]; exact hz
theorem normAt_end {xs ys L : List (Int × Int)} (hr : Rises xs ys) (h : NormAt ys L ys.length) : L = canon (In xs) := by
  obtain ⟨a, hg, ha⟩ := h
  refine canon_eq hg.1 (fun t => ?_)
  rw [hg.2.2, List.take_length, hr.2.2.2]
theorem set_snoc (i : List (Int × Int)) (r z : Int × Int) : (i ++ [r]).set i.length z = i ++ [z] := by simp
theorem getD_snoc (i : List (Int × Int)) (r : Int × Int) : (i ++ [r]).getD i.length (0, 0) = r := by simp [List.getD]

theorem norm_any (A : Option Addr) (cap : Nat) (xs : List (Int × Int)) (w : World) (hx : Spans w A xs) (hl : xs.length ≤ 100000000) :
    Calls Tryz.prog 18 #[.slice A xs.length cap] w (Gives w (canon (In xs))) := by
  go_enter Tryz.func18, Tryz.ntmps18
  go_wp2_with fail
  refine (rising_any A cap xs w hx hl).mono ?_
  rintro e w1 ⟨D, dc, ys, rfl, hri, hsp, hb1⟩
  have HS := Lib.hid hsp
  have HR := Lib.hid hri
  have hyl : ys.length ≤ 100000000 := Nat.le_trans hri.2.2.1 hl
  clear hx hsp hri
  go_wp2
  go_loopw [3, 10] (fun s i wr => ∃ (k : Nat) (B : Option Addr) (d : Nat) (L : List (Int × Int)), k ≤ ys.length ∧ i = .int .i64 k ∧ s = .slice B L.length d ∧ L.length ≤ k ∧ Hid (NormAt ys L k) ∧ Row wr w1.heap.size B d L ∧ Below w1.heap.size w1 wr) (fun _ i _ => ys.length - (intOf i).toNat)
  case atStart => exact ⟨0, none, 0, [], Nat.zero_le _, rfl, rfl, Nat.le_refl _, ⟨0, ⟨trivial, by simp, fun u => by simp [in_nil]⟩, fun j _ h => (rises_at HR.out h).1⟩, Row.nil _ _, Below.refl _ _⟩
  case round =>
    obtain ⟨k, B, d, L, hk, rfl, rfl, hnk, hn, hr, hbw⟩ := hrel
    by_cases hlt : k < ys.length
    · obtain ⟨b, off, rfl, hblt, c1, c2⟩ := (HS.out.below hbw).2 k hlt
      have HZ := rises_at HR.out hlt
      have hws := hbw.size
      have P1 := Lib.hid (fun h => normAt_push HR.out hlt hn.out h)
      have P2 := Lib.hid (fun (i : List (Int × Int)) r (e : L = i ++ [r]) h => normAt_last HR.out hlt (e ▸ hn.out) h)
      generalize ys.getD k (0, 0) = z at *
      obtain ⟨p, q⟩ := z
      simp only [] at HZ c1 c2 P2
      have R0 : Has (wr.alloc (.cells #[.int .i64 p, .int .i64 q] 43)) wr.heap.size #[.int .i64 p, .int .i64 q] := Has.new _ _ _ rfl
      have hr0 := hr.alloc (.cells #[.int .i64 p, .int .i64 q] 43)
      have hb0 := bel_alloc hbw (.cells #[.int .i64 p, .int .i64 q] 43)
      by_cases hL : L = []
      · subst hL
        simp only [List.length_nil] at *
        go_wp2
        go_quiet (fail)
        obtain ⟨B', d', w4, hrun, hr4, hb4, hz4, _, _⟩ := row_push (hr0.drewN nq) p q (by simp) (by simp; omega) (s := wr.heap.size + 1) (by simp)
        have HU := Lib.hid hrun
        have hb5 := hb4 w1 (Nat.le_refl _) (below_drewN hb0 nq)
        clear hrun hb4
        go_wp2_with (at_builtin; refine wpList_append_run HU.out rfl rfl rfl rfl ?_)
        go_roundw
        case rel => exact ⟨k + 1, B', d', _, by omega, by go_num, rfl, by simp, P1.out (by simp), hr4, hb5⟩
        case measure => simp [intOf]; omega
      · obtain ⟨i, ⟨ra, rb⟩, rfl⟩ : ∃ i r, L = i ++ [r] := ⟨L.dropLast, L.getLast hL, (List.dropLast_concat_getLast hL).symm⟩
        obtain ⟨g, rfl⟩ := hr.form (by simp)
        obtain ⟨f1, f2⟩ := hr.cellAt (k := i.length) (by simp)
        rw [getD_snoc] at f1 f2
        have f3 := hr.frozenAt (i.length * 2 + 1)
        have hglt : w1.heap.size ≤ g ∧ g < wr.heap.size := hr.lt _ rfl
        have P3 := Lib.hid (fun h => P1.out (normAt_below hn.out h))
        have P4 := Lib.hid (P2.out i (ra, rb) rfl)
        have hset := hr0.set (k := i.length) (by simp) (max rb q)
        rw [getD_snoc, set_snoc] at hset
        have HT := Lib.hid hset
        have hgne : g ≠ wr.heap.size := by omega
        clear P1 P2 hset
        simp only [List.length_append, List.length_cons, List.length_nil, Nat.zero_add] at *
        have hd : decide ((i.length : Int) < 0) = false := by simp
        have h0 : (0 : Int) ≤ (i.length : Int) := by omega
        by_cases hc : rb < p
        · go_wp2
          go_quiet (fail)
          obtain ⟨B', d', w4, hrun, hr4, hb4, hz4, _, _⟩ := row_push (hr0.drewN nq) p q (by simp; omega) (by simp; omega) (s := wr.heap.size + 1) (by simp)
          simp only [List.length_append, List.length_cons, List.length_nil, Nat.zero_add] at hrun
          have HU := Lib.hid hrun
          have hb5 := hb4 w1 (Nat.le_refl _) (below_drewN hb0 nq)
          clear hrun hb4
          go_wp2_with (at_builtin; refine wpList_append_run HU.out rfl rfl rfl rfl ?_)
          go_roundw
          case rel => exact ⟨k + 1, B', d', _, by omega, by go_num, by simp, by simp; omega, P3.out hc, hr4, hb5⟩
          case measure => simp [intOf]; omega
        · go_wp2
          go_quiet (fail)
          go_wp2
          go_region
          go_wp2
          go_roundw
          case rel => exact ⟨k + 1, _, d, i ++ [(ra, max rb q)], by omega, by go_num, by simp, by simp; omega, P4.out (by omega), HT.out, bel_set (below_drew (below_drewN hb0 nq)) (p := ⟨g, i.length * 2 + 1, none⟩) hglt.1 _⟩
          case measure => simp [intOf]; omega
    · obtain rfl : k = ys.length := by omega
      have HE := Lib.hid (normAt_end HR.out hn.out)
      go_wp2
      go_ret
      exact gives_of (hr.mono hb1.size) HE.out rfl (bel_on hb1 hbw)
end Go.Proofs.YtghfhoodbiiciaaGreat

namespace Go.Proofs.YtghfhoodbiiciaaGreat

/-- The ratio may be. -/
def mayB (n d : Int) : Bool := decide (-2147483647 ≤ n ∧ n ≤ 2147483647 ∧ 1 ≤ d ∧ d ≤ 2147483647 ∧ Int.gcd n d = 1)
/-- What Make tells: the error, and the two parts. -/
def mkC (n d : Int) : Int := if d ≤ 0 then 20 else if -2147483647 ≤ n / (Int.gcd n d : Int) ∧ n / (Int.gcd n d : Int) ≤ 2147483647 ∧ d / (Int.gcd n d : Int) ≤ 2147483647 then 0 else 10
def mkN (n d : Int) : Int := if mkC n d = 0 then n / (Int.gcd n d : Int) else 0
def mkD (n d : Int) : Int := if mkC n d = 0 then d / (Int.gcd n d : Int) else 0

theorem gcd_pos' {n d : Int} (h : 0 < d) : 0 < (Int.gcd n d : Int) := by
  have : 0 < Int.gcd n d := Int.gcd_pos_of_ne_zero_right n (by omega)
  omega
theorem gcd_n (n d : Int) : (Int.gcd n d : Int) * (n / (Int.gcd n d : Int)) = n := Int.mul_ediv_cancel' (Int.gcd_dvd_left n d)
theorem gcd_d (n d : Int) : (Int.gcd n d : Int) * (d / (Int.gcd n d : Int)) = d := Int.mul_ediv_cancel' (Int.gcd_dvd_right n d)
theorem low_d {n d : Int} (h : 0 < d) : 0 < d / (Int.gcd n d : Int) := by
  have h1 := gcd_d n d
  have h2 := gcd_pos' (n := n) h
  generalize hq : d / (Int.gcd n d : Int) = q at *
  generalize (Int.gcd n d : Int) = g at *
  rcases Int.lt_or_le 0 q with h3 | h3
  · exact h3
  · exfalso
    have : g * q ≤ g * 0 := Int.mul_le_mul_of_nonneg_left h3 (by omega)
    omega
theorem low_gcd {n d : Int} (h : 0 < d) : Int.gcd (n / (Int.gcd n d : Int)) (d / (Int.gcd n d : Int)) = 1 := by
  have h0 : 0 < Int.gcd n d := Int.gcd_pos_of_ne_zero_right n (by omega)
  rw [Int.gcd_ediv (Int.gcd_dvd_left n d) (Int.gcd_dvd_right n d)]
  simp
  exact Nat.div_self h0

theorem mkC_pos {n d : Int} (h : mkC n d = 0) : 0 < d := by
  unfold mkC at h
  split at h
  · omega
  · omega
theorem mk_may {n d : Int} (h : mkC n d = 0) : mayB (mkN n d) (mkD n d) = true := by
  have hd := mkC_pos h
  unfold mayB mkN mkD
  rw [if_pos h, if_pos h]
  have h' := h
  unfold mkC at h'
  rw [if_neg (by omega)] at h'
  split at h'
  · rename_i hb
    have := low_d (n := n) hd
    exact decide_eq_true ⟨hb.1, hb.2.1, by omega, hb.2.2, low_gcd hd⟩
  · omega
theorem mk_bad {n d : Int} (h : mkC n d ≠ 0) : mkN n d = 0 ∧ mkD n d = 0 := by
  unfold mkN mkD
  rw [if_neg h, if_neg h]
  exact ⟨rfl, rfl⟩
theorem may_bd {n d : Int} (h : mayB n d = true) : -2147483647 ≤ n ∧ n ≤ 2147483647 ∧ 1 ≤ d ∧ d ≤ 2147483647 ∧ Int.gcd n d = 1 := of_decide_eq_true h

theorem dvd_low {k n m : Int} (h : k ∣ n * m) (hg : Int.gcd k n = 1) : k ∣ m := by
  have h1 := Int.dvd_gcd_mul_iff_dvd_mul.2 h
  rw [hg] at h1
  simpa using h1
/-- What is as much, in lowest terms, is one. -/
theorem low_unique {x y p q : Int} (hy : 0 < y) (hq : 0 < q) (h1 : Int.gcd x y = 1) (h2 : Int.gcd p q = 1) (h : x * q = p * y) : x = p ∧ y = q := by
  have d1 : y ∣ q := by
    have : y ∣ x * q := ⟨p, by rw [h, Int.mul_comm]⟩
    exact dvd_low this (by rw [Int.gcd_comm]; exact h1)
  have d2 : q ∣ y := by
    have : q ∣ p * y := ⟨x, by rw [← h, Int.mul_comm]⟩
    exact dvd_low this (by rw [Int.gcd_comm]; exact h2)
  have e : y = q := Int.dvd_antisymm (by omega) (by omega) d1 d2
  subst e
  exact ⟨Int.eq_of_mul_eq_mul_right (by omega) h, rfl⟩

/-- A ratio that may be, and is as much as n through d, is what is told. -/
theorem mk_of {x y n d : Int} (hm : mayB x y = true) (hd : 0 < d) (h : x * d = n * y) : mkC n d = 0 ∧ mkN n d = x ∧ mkD n d = y := by
  obtain ⟨b1, b2, b3, b4, b5⟩ := may_bd hm
  have g1 := gcd_n n d
  have g2 := gcd_d n d
  have g3 := gcd_pos' (n := n) hd
  have g4 := low_gcd (n := n) hd
  have g5 := low_d (n := n) hd
  have hx : x * (d / (Int.gcd n d : Int)) = (n / (Int.gcd n d : Int)) * y := by
    generalize d / (Int.gcd n d : Int) = q at *
    generalize n / (Int.gcd n d : Int) = p at *
    generalize (Int.gcd n d : Int) = g at *
    rw [← g1, ← g2] at h
    have : g * (x * q) = g * (p * y) := by rw [Int.mul_left_comm, h, Int.mul_assoc]
    exact Int.eq_of_mul_eq_mul_left (by omega) this
  obtain ⟨e1, e2⟩ := low_unique (by omega) g5 b5 g4 hx
  have hc : mkC n d = 0 := by
    unfold mkC
    rw [if_neg (by omega), ← e1, ← e2, if_pos ⟨b1, b2, b4⟩]
  refine ⟨hc, ?_, ?_⟩
  · unfold mkN; rw [if_pos hc, ← e1]
  · unfold mkD; rw [if_pos hc, ← e2]
theorem mk_self {x y : Int} (hm : mayB x y = true) : mkC x y = 0 ∧ mkN x y = x ∧ mkD x y = y := mk_of hm (by have := may_bd hm; omega) rfl
end Go.Proofs.YtghfhoodbiiciaaGreat

namespace Go.Proofs.YtghfhoodbiiciaaGreat
set_option linter.unusedVariables false
set_option linter.unusedSimpArgs false

/-- A setup: its lists as rows of numbers. -/
structure SetP where
  places : Int
  ways : Rows2
  pn : Int
  pd : Int
  elements : Rows2
  classes : Rows2
  gears : Rows2
  allow : Int
  unit : Int
  cap : Int
  paid : Int
  aft : Int
  brk : Int
  reg : Int
  over : Int
  week : Int
  nfrom : Int
  nto : Int
  rates : List Int
  diff : Int
  least : Int
  fault : Int
  tiers : Rows2
def SetP.none : SetP := ⟨0, [], 0, 0, [], [], [], 0, 0, 0, 0, 0, 0, 0, 0, 0, 0, 0, [], 0, 0, 0, []⟩
/-- Its rows are as wide as they should. -/
structure SetP.Wide (s : SetP) : Prop where
  ways : ∀ r ∈ s.ways, r.length = 3
  elements : ∀ r ∈ s.elements, r.length = 4
  classes : ∀ r ∈ s.classes, r.length = 2
  gears : ∀ r ∈ s.gears, r.length = 2
  tiers : ∀ r ∈ s.tiers, r.length = 2
/-- A setup's numbers. -/
def SetP.nums (s : SetP) : List Int :=
  s.places :: (s.ways.length : Int) :: (s.ways.flatten ++ (s.pn :: s.pd :: (s.elements.length : Int) :: (s.elements.flatten ++ ((s.classes.length : Int) :: (s.classes.flatten ++ ((s.gears.length : Int) :: (s.gears.flatten ++
    (s.allow :: s.unit :: s.cap :: s.paid :: s.aft :: s.brk :: s.reg :: s.over :: s.week :: s.nfrom :: s.nto :: (s.rates.length : Int) :: (s.rates ++ (s.diff :: s.least :: s.fault :: (s.tiers.length : Int) :: s.tiers.flatten))))))))))
theorem flat_ones : ∀ l : List Int, (l.map fun n => [n]).flatten = l
  | [] => rfl
  | n :: l => by simp [flat_ones l]
/-! ### Which may be -/
def shareB (n d : Int) : Bool := mayB n d && decide (0 ≤ n)
def wayP (p : Int) (r : List Int) : Prop := 0 ≤ r.getD 0 0 ∧ 0 ≤ r.getD 1 0 ∧ r.getD 0 0 < p ∧ r.getD 1 0 < p ∧ r.getD 0 0 ≠ r.getD 1 0 ∧ 1 ≤ r.getD 2 0 ∧ r.getD 2 0 ≤ 10000
def eleP (r : List Int) : Prop := shareB (r.getD 0 0) (r.getD 1 0) = true ∧ shareB (r.getD 2 0) (r.getD 3 0) = true
def ratP (r : List Int) : Prop := shareB (r.getD 0 0) (r.getD 1 0) = true
def rateP (n : Int) : Prop := 0 ≤ n ∧ n ≤ 100000
def tierP (l : Rows2) (i : Nat) : Prop := 0 ≤ (l.getD i []).getD 0 0 ∧ (l.getD i []).getD 0 0 ≤ 1000 ∧ 0 ≤ (l.getD i []).getD 1 0 ∧ (l.getD i []).getD 1 0 ≤ 100000 ∧ (0 < i → (l.getD (i - 1) []).getD 0 0 < (l.getD i []).getD 0 0)
structure SetP.May (s : SetP) : Prop where
  places : 1 ≤ s.places ∧ s.places ≤ 16
  ways : s.ways.length ≤ 64 ∧ ∀ r ∈ s.ways, wayP s.places r
  pace : shareB s.pn s.pd = true
  elements : s.elements.length ≤ 8 ∧ ∀ r ∈ s.elements, eleP r
  classes : s.classes.length ≤ 8 ∧ ∀ r ∈ s.classes, ratP r
  gears : s.gears.length ≤ 8 ∧ ∀ r ∈ s.gears, ratP r
  allow : 0 ≤ s.allow ∧ s.allow ≤ 100
  unit : 1 ≤ s.unit ∧ s.unit ≤ 3600
  cap : 60 ≤ s.cap ∧ s.cap ≤ 57600
  paid : 0 ≤ s.paid ∧ s.paid ≤ 86400
  aft : 0 ≤ s.aft ∧ s.aft ≤ 86400
  brk : 0 ≤ s.brk ∧ s.brk ≤ 86400
  nfrom : 0 ≤ s.nfrom ∧ s.nfrom ≤ 86400
  nto : 0 ≤ s.nto ∧ s.nto ≤ 86400
  fault : 0 ≤ s.fault ∧ s.fault ≤ 86400
  reg : 0 ≤ s.reg ∧ s.reg ≤ s.over
  over : s.over ≤ 86400
  week : 0 ≤ s.week ∧ s.week ≤ 604800
  rates : 1 ≤ s.rates.length ∧ s.rates.length ≤ 16 ∧ ∀ n ∈ s.rates, rateP n
  diff : 0 ≤ s.diff ∧ s.diff ≤ 100000
  least : 0 ≤ s.least ∧ s.least ≤ 100000
  tiers : s.tiers.length ≤ 8 ∧ ∀ i, i < s.tiers.length → tierP s.tiers i
/-! ### As bytes -/
def SetP.bytes (s : SetP) : List (BitVec 8) := bytesN s.nums
/-! ### Read -/
end Go.Proofs.YtghfhoodbiiciaaGreat

namespace Go.Proofs.YtghfhoodbiiciaaGreat
set_option linter.unusedVariables false
set_option linter.unusedSimpArgs false

theorem rows_len {k : Nat} : ∀ (t : Rows2), (∀ r ∈ t, r.length = k) → t.flatten.length = k * t.length
  | [], _ => by simp
  | r :: t, h => by
    have h1 := rows_len t (fun q hq => h q (by simp [hq]))
    have h2 := h r (by simp)
    rw [List.flatten_cons, List.length_append, h1, h2, List.length_cons, Nat.mul_add]
    omega
theorem rows_get {k : Nat} : ∀ (t : Rows2), (∀ r ∈ t, r.length = k) → ∀ i j, i < t.length → j < k → ∀ v : List Int, (t.flatten ++ v).getD (k * i + j) 0 = (t.getD i []).getD j 0
  | [], _, i, j, hi, _, v => by simp at hi
  | r :: t, h, i, j, hi, hj, v => by
    have h2 := h r (by simp)
    rw [List.flatten_cons, List.append_assoc]
    rcases i with _ | i
    · rw [Nat.mul_zero, Nat.zero_add, List.getD_eq_getElem?_getD, List.getElem?_append_left (by omega)]
      simp [List.getD]
    · have h3 := rows_get t (fun q hq => h q (by simp [hq])) i j (by simpa using hi) hj v
      rw [List.getD_eq_getElem?_getD, List.getElem?_append_right (by rw [h2, Nat.mul_add]; omega), h2, show k * (i + 1) + j - k = k * i + j by rw [Nat.mul_add]; omega, ← List.getD_eq_getElem?_getD, h3]
      simp [List.getD]
end Go.Proofs.YtghfhoodbiiciaaGreat

namespace Go.Proofs.YtghfhoodbiiciaaGreat
open Go.RowKit
set_option linter.unusedVariables false

/-- A slice of the call's own, that lies at 'base' or behind, and holds the bytes xs. -/
def BRow (w : World) (base : Nat) (A : Option Addr) (c : Nat) (xs : List (BitVec 8)) : Prop :=
  w.ownsRow base 5 1 (.slice A xs.length c) xs.length (bytesV xs)
section
variable {w w' : World} {base c : Nat} {A : Option Addr} {xs : List (BitVec 8)}
theorem BRow.nil (w : World) (base : Nat) : BRow w base none 0 [] := World.ownsRow_nil w base _ _
theorem BRow.keep (h : BRow w base A c xs) (hk : ∀ g, A = some g → w'.heap[g.block]? = w.heap[g.block]?) : BRow w' base A c xs := by
  obtain ⟨hl, hn | ⟨g, cap, cur, hv, hg, hh, rest⟩⟩ := h
  · exact ⟨hl, .inl hn⟩
  · injection hv with e1 e2 e3
    subst e1
    exact ⟨hl, .inr ⟨g, cap, cur, by rw [e3], hg, (hk _ rfl).trans hh, rest⟩⟩
theorem BRow.lt (h : BRow w base A c xs) : ∀ g, A = some g → base ≤ g.block ∧ g.block < w.heap.size := by
  rintro g rfl
  exact World.ownsRow.lt h _ rfl
theorem BRow.below (h : BRow w base A c xs) (hb : Below w.heap.size w w') : BRow w' base A c xs :=
  h.keep fun g hg => hb.block _ (h.lt g hg).2
theorem BRow.alloc (h : BRow w base A c xs) (o : Obj) : BRow (w.alloc o) base A c xs := World.ownsRow.alloc h o
theorem BRow.drewN (h : BRow w base A c xs) (n : Nat) : BRow (w.drewN n) base A c xs := h
theorem BRow.drew (h : BRow w base A c xs) : BRow w.drew base A c xs := h
theorem BRow.mono (h : BRow w base A c xs) {b : Nat} (hb : b ≤ base) : BRow w b A c xs := by
  obtain ⟨hl, hn | ⟨g, cap, cur, hv, hg, rest⟩⟩ := h
  · exact ⟨hl, .inl hn⟩
  · exact ⟨hl, .inr ⟨g, cap, cur, hv, by omega, rest⟩⟩
theorem BRow.forms (h : BRow w base A c xs) : (A = none ∧ xs = [] ∧ c = 0) ∨ ∃ g, A = some ⟨g, 0, none⟩ ∧ base ≤ g ∧ g < w.heap.size ∧ xs.length ≤ c ∧ c ≤ maxLen := by
  have hlt := h.lt
  obtain ⟨hl, ⟨hv, hz⟩ | ⟨g, cap, cur, hv, hb, hh, hc, hm, _⟩⟩ := h
  · injection hv with e1 e2 e3
    exact .inl ⟨e1, List.eq_nil_of_length_eq_zero hz, e3⟩
  · injection hv with e1 e2 e3
    subst e1 e3
    exact .inr ⟨g, rfl, hb, (hlt _ rfl).2, hc, hm⟩
theorem BRow.form (h : BRow w base A c xs) (hn : xs ≠ []) : ∃ g, A = some ⟨g, 0, none⟩ := by
  rcases h.forms with ⟨_, e, _⟩ | ⟨g, e, _⟩
  · exact absurd e hn
  · exact ⟨g, e⟩
theorem BRow.sl (h : BRow w base A c xs) : Sl 1 w A xs.length c (bytesV xs) := Sl.of_own h
theorem BRow.set {g : Nat} (h : BRow w base (some ⟨g, 0, none⟩) c xs) {k : Nat} (hk : k < xs.length) (x : BitVec 8) : BRow (w.setCell ⟨g, k, none⟩ (v8 x)) base (some ⟨g, 0, none⟩) c (xs.set k x) := by
  have := (World.ownsRow.stored h k (v8 x)).1
  unfold BRow
  rw [List.length_set]
  have e : bytesV (xs.set k x) = (bytesV xs).set k (v8 x) := by simp [bytesV, List.map_set]
  rw [e]
  exact this
end

theorem BRow.cap_le {w : World} {base c : Nat} {A : Option Addr} {xs : List (BitVec 8)} (h : BRow w base A c xs) {n : Nat} (hn : xs.length = n) : n ≤ c := by
  subst hn
  rcases h.forms with ⟨_, rfl, _⟩ | ⟨g, _, _, _, h, _⟩
  · simp
  · exact h
theorem BRow.slAt {w : World} {base c : Nat} {A : Option Addr} {xs : List (BitVec 8)} (h : BRow w base A c xs) {n : Nat} (hn : xs.length = n) : Sl 1 w A n c (bytesV xs) := by
  subst hn
  exact h.sl
end Go.Proofs.YtghfhoodbiiciaaGreat

namespace Go.Proofs.YtghfhoodbiiciaaGreat
open Go.RowKit
set_option linter.unusedVariables false

/-- What a call that tells bytes answers: a slice of its own. -/
def TellsB (w : World) (xs : List (BitVec 8)) (v : Value) (w' : World) : Prop := ∃ A c, v = .slice A xs.length c ∧ BRow w' w.heap.size A c xs
theorem TellsB.below {w w' w'' : World} {xs : List (BitVec 8)} {v : Value} (h : TellsB w xs v w') (hb : Below w'.heap.size w' w'') : TellsB w xs v w'' := by
  obtain ⟨A, c, e, hr⟩ := h
  exact ⟨A, c, e, hr.below hb⟩
end Go.Proofs.YtghfhoodbiiciaaGreat

namespace Go.Proofs.YtghfhoodbiiciaaGreat
set_option linter.unusedVariables false
set_option linter.unusedSimpArgs false

structure EvP where
  id : Int
  wk : Int
  tm : Int
  kd : Int
  fr : Int
  to : Int
  el : Int
  un : Int
  cl : Int
  ge : Int
  cd : Int
deriving DecidableEq
def EvP.none : EvP := ⟨0, 0, 0, 0, 0, 0, 0, 0, 0, 0, 0⟩
def EvP.nums (e : EvP) : List Int := [e.id, e.wk, e.tm, e.kd] ++ ((if e.kd = 3 then [e.fr, e.to, e.el, e.un, e.cl, e.ge] else []) ++ (if e.kd = 4 then [e.cd] else []))
structure EvP.Fair (e : EvP) : Prop where
  id : 0 ≤ e.id ∧ e.id ≤ 100000
  wk : 0 ≤ e.wk ∧ e.wk ≤ 9223372036854775807
  tm : 0 ≤ e.tm ∧ e.tm ≤ 31449599
  kd : 1 ≤ e.kd ∧ e.kd ≤ 7
  fr : 0 ≤ e.fr ∧ e.fr ≤ 9223372036854775807
  to : 0 ≤ e.to ∧ e.to ≤ 9223372036854775807
  el : 0 ≤ e.el ∧ e.el ≤ 9223372036854775807
  un : 0 ≤ e.un ∧ e.un ≤ 9223372036854775807
  cl : 0 ≤ e.cl ∧ e.cl ≤ 9223372036854775807
  ge : 0 ≤ e.ge ∧ e.ge ≤ 9223372036854775807
  cd : 0 ≤ e.cd ∧ e.cd ≤ 9223372036854775807
  task : e.kd = 3 ∨ (e.fr = 0 ∧ e.to = 0 ∧ e.el = 0 ∧ e.un = 0 ∧ e.cl = 0 ∧ e.ge = 0)
  code : e.kd = 4 ∨ e.cd = 0
def EvP.bytes (e : EvP) : List (BitVec 8) := bytesN e.nums
/-! ### The document's own Take -/
/-! ### The order -/
def alikeE (a b : EvP) : Bool := decide (a.tm = b.tm ∧ a.id = b.id)
end Go.Proofs.YtghfhoodbiiciaaGreat

namespace Go.Proofs.YtghfhoodbiiciaaGreat
set_option linter.unusedVariables false
set_option linter.unusedSimpArgs false

structure SegP where
  fr : Int
  to : Int
  kd : Int
  id : Int
  cd : Int
  deriving DecidableEq
structure FlagP where
  id : Int
  kd : Int
  deriving DecidableEq
/-! ### Sessions rise -/
/-! ### Parts -/
/-- The seconds of parts. -/
def InS (l : List SegP) (t : Int) : Prop := ∃ s, s ∈ l ∧ s.fr ≤ t ∧ t < s.to
end Go.Proofs.YtghfhoodbiiciaaGreat

namespace Go.Proofs.YtghfhoodbiiciaaGreat
set_option linter.unusedVariables false
set_option linter.unusedSimpArgs false

/-! ### Numbers -/
def segL (s : SegP) : List Int := [s.fr, s.to, s.kd, s.id, s.cd]
def flagL (f : FlagP) : List Int := [f.id, f.kd]
def spanOf (s : SegP) : Int × Int := (s.fr, s.to)
/-- The seconds of parts, and of those of one kind. -/
noncomputable def clockP (l : List SegP) : List (Int × Int) := canon (InS l)
theorem in_spans (l : List SegP) (t : Int) : In (l.map spanOf) t ↔ InS l t := by
  constructor
  · rintro ⟨s, hs, h1, h2⟩
    obtain ⟨x, hx, rfl⟩ := List.mem_map.1 hs
    exact ⟨x, hx, h1, h2⟩
  · rintro ⟨x, hx, h1, h2⟩
    exact ⟨spanOf x, List.mem_map.2 ⟨x, hx, rfl⟩, h1, h2⟩
theorem clock_spans (l : List SegP) : canon (In (l.map spanOf)) = clockP l := canon_congr fun t _ _ => in_spans l t
end Go.Proofs.YtghfhoodbiiciaaGreat
