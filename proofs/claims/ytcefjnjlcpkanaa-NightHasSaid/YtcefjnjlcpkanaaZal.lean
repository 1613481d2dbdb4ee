/-
  The contracts of package span's functions, continued: Size, Has, First.
  The hours by night of a day, those of all days, and what they have in common with a set: no program here.
  The contracts of package lumperref03's functions: the document's answers, by definition.
-/
import Derived.Test.YtcefjnjlcpkanaaZak
import Derived.Deep.DeepCutAuto
import Derived.Test.YtcefjnjlcpkanaaZac
namespace Go.Proofs.Ytcefjnjlcpkanaa
open Go.RowKit
set_option linter.unusedVariables false

theorem plain_take : ∀ {l : List (Int × Int)} {a : Int} (k : Nat), PlainFrom a l → PlainFrom a (l.take k)
  | [], _, k, _ => by simp [PlainFrom]
  | s :: l, a, 0, _ => trivial
  | s :: l, a, k + 1, ⟨h1, h2, h3, h4⟩ => ⟨h1, h2, h3, plain_take k h4⟩
theorem szL_bd : ∀ {l : List (Int × Int)} {a : Int}, PlainFrom a l → a ≤ 32054401 → 0 ≤ szL l ∧ (l ≠ [] → szL l ≤ 32054400 - a)
  | [], a, _, h => by simp [szL]
  | s :: l, a, ⟨h1, h2, h3, h4⟩, h => by
    obtain ⟨i1, i2⟩ := szL_bd h4 (by omega)
    rw [szL_cons]
    by_cases hl : l = []
    · subst hl
      have : szL [] = 0 := rfl
      exact ⟨by omega, fun _ => by omega⟩
    · have := i2 hl
      exact ⟨by omega, fun _ => by omega⟩
theorem szL_take {l : List (Int × Int)} (k : Nat) (h : PlainFrom 0 l) : 0 ≤ szL (l.take k) ∧ szL (l.take k) ≤ 32054400 := by
  obtain ⟨h1, h2⟩ := szL_bd (plain_take k h) (by omega)
  refine ⟨h1, ?_⟩
  by_cases e : l.take k = []
  · rw [e]; simp [szL]
  · have := h2 e; omega
theorem szL_append (l m : List (Int × Int)) : szL (l ++ m) = szL l + szL m := by simp [szL]
theorem szL_snoc (l : List (Int × Int)) (k : Nat) (h : k < l.length) : szL (l.take (k + 1)) = szL (l.take k) + ((l.getD k (0, 0)).2 - (l.getD k (0, 0)).1) := by
  rw [List.take_succ_eq_append_getElem h, szL_append]
  simp [List.getD, h, szL]
theorem plain_at {l : List (Int × Int)} (h : PlainFrom 0 l) {k : Nat} (hk : k < l.length) : 0 ≤ (l.getD k (0, 0)).1 ∧ (l.getD k (0, 0)).1 < (l.getD k (0, 0)).2 ∧ (l.getD k (0, 0)).2 ≤ 32054400 := (plain_pairs.1 h).1 _ (by simp [List.getD, hk])

theorem size_any (A : Option Addr) (cap : Nat) (xs : List (Int × Int)) (w : World) (hx : Spans w A xs) (hl : xs.length ≤ 100000000) :
    Calls Try.prog 19 #[.slice A xs.length cap] w fun e w' => e = .returned (.int .i64 (sz (In xs))) ∧ Below w.heap.size w w' := by
  rw [← szL_canon]
  have HP := Lib.hid (canon_plain (In xs))
  have hlen := canon_len (In xs)
  have hcon := norm_any A cap xs w hx hl
  generalize canon (In xs) = L at *
  clear hx
  go_enter Try.func19, Try.ntmps19
  go_wp2_with fail
  refine hcon.mono ?_
  rintro e w1 ⟨D, dc, rfl, hrow, hb1⟩
  have HS := Lib.hid (hrow.spans (.of_plain HP.out))
  clear hrow hcon
  go_wp2
  go_loopw [3, 9] (fun s i wr => ∃ (k : Nat), k ≤ L.length ∧ i = .int .i64 k ∧ s = .int .i64 (szL (L.take k)) ∧ Below w1.heap.size w1 wr) (fun _ i _ => L.length - (intOf i).toNat)
  case atStart => exact ⟨0, Nat.zero_le _, rfl, rfl, Below.refl _ _⟩
  case round =>
    obtain ⟨k, hk, rfl, rfl, hbw⟩ := hrel
    by_cases hlt : k < L.length
    · obtain ⟨b, off, rfl, hblt, c1, c2⟩ := (HS.out.below hbw).2 k hlt
      have HZ := plain_at HP.out hlt
      have HN := Lib.hid (szL_snoc L k hlt)
      have hb1' := szL_take k HP.out
      have hb2' := szL_take (k + 1) HP.out
      have hs2 : szL (L.take (k + 1)) = szL (L.take k) + ((L.getD k (0, 0)).2 - (L.getD k (0, 0)).1) := HN.out
      generalize L.getD k (0, 0) = z at *
      obtain ⟨p, q⟩ := z
      simp only [] at *
      generalize szL (L.take k) = s1 at *
      have hs3 : 0 ≤ s1 + (q - p) ∧ s1 + (q - p) ≤ 32054400 := by omega
      clear hs2
      go_wp2
      go_roundw
      case rel => exact ⟨k + 1, by omega, by go_num, by rw [HN.out], bel_alloc hbw _⟩
      case measure => simp [intOf]; omega
    · obtain rfl : k = L.length := by omega
      go_wp2
      go_ret
      exact ⟨ret_one (by rw [List.take_length]), bel_on hb1 hbw⟩

/-- Whether a number is one of all time's, and of the spans'. -/
def hasB (xs : List (Int × Int)) (t : Int) : Bool := xs.any fun s => decide (max s.1 0 ≤ t ∧ t < min s.2 32054400)
theorem hasB_iff (xs : List (Int × Int)) (t : Int) : hasB xs t = true ↔ 0 ≤ t ∧ t < 32054400 ∧ In xs t := by
  unfold hasB In
  rw [List.any_eq_true]
  constructor
  · rintro ⟨s, h1, h2⟩
    simp only [decide_eq_true_eq] at h2
    exact ⟨by omega, by omega, s, h1, by omega, by omega⟩
  · rintro ⟨h1, h2, s, h3, h4, h5⟩
    exact ⟨s, h3, by simp only [decide_eq_true_eq]; omega⟩
theorem hasB_snoc (xs : List (Int × Int)) (k : Nat) (t : Int) (h : k < xs.length) : hasB (xs.take (k + 1)) t = (hasB (xs.take k) t || decide (max (xs.getD k (0, 0)).1 0 ≤ t ∧ t < min (xs.getD k (0, 0)).2 32054400)) := by
  unfold hasB
  rw [List.take_succ_eq_append_getElem h, List.any_append]
  simp [List.getD, h]
theorem hasB_hit (xs : List (Int × Int)) (k : Nat) (t : Int) (h : k < xs.length) (hd : decide (max (xs.getD k (0, 0)).1 0 ≤ t ∧ t < min (xs.getD k (0, 0)).2 32054400) = true) : hasB xs t = true := by
  unfold hasB
  rw [List.any_eq_true]
  exact ⟨xs.getD k (0, 0), by simp [List.getD, h], hd⟩

set_option maxHeartbeats 4000000 in
theorem has1_any (x y t : Int) (B : Nat) (w : World) (hB : B < w.heap.size) (hc : w.cell? ⟨B, 0, none⟩ = some (.int .i64 t)) :
    Calls Try.prog 27 #[.agg #[.int .i64 x, .int .i64 y], .pointer (some ⟨B, 0, none⟩)] w fun e w' => e = .returned (.bool (decide (max x 0 ≤ t ∧ t < min y 32054400))) ∧ Below w.heap.size w w' := by
  have HC := Lib.hid hc
  have hne : B ≠ w.heap.size := by omega
  clear hc
  go_enter Try.func27, Try.ntmps27
  go_upto_region 1 with fail
  go_cut [4] (fun s4 wx => ∃ g : Nat, s4 = .pointer (some ⟨g, 0, none⟩) ∧ Has wx g #[.int .i64 (max x 0), .int .i64 (min y 32054400)] ∧ Below w.heap.size w wx)
  case first =>
    go_region_with (first
      | (go_at_call 29; refine (allTime_at _).mono ?_; rintro e w1 ⟨rfl, rfl⟩)
      | (go_at_call 28; refine (common_at _ _ _ _ _).mono ?_; rintro e w2 ⟨rfl, rfl⟩))
    all_goals
      go_wp2_with fail
      go_meet
      refine ⟨_, rfl, ?_, ?_⟩
      · (repeat' (first | with_reducible assumption | ((with_reducible refine Has.new _ _ _ ?_); (first | (with_reducible rfl) | (simp; done))) | with_reducible refine Has.alloc ?_ _ | with_reducible refine Has.drewN ?_ _ | with_reducible refine Has.drew ?_))
      · (repeat' (first | with_reducible exact Below.refl _ _ | with_reducible assumption | with_reducible refine bel_alloc ?_ _ | with_reducible refine bel_set ?_ ?_ _ | with_reducible refine below_drewN ?_ _ | with_reducible refine below_drew ?_ | (simp; done) | (simp; omega) | omega))
  case rest =>
    obtain ⟨g, rfl, hg, hb⟩ := hcut
    have hc := (hb.cell (p := ⟨B, 0, none⟩) hB).trans HC.out
    obtain ⟨c0, c1, _, _⟩ := hg.two
    by_cases g1 : max x 0 ≤ t
    · go_wp2
      go_ret
      exact ⟨ret_bool (by simp [g1]), hb⟩
    · go_wp2
      go_ret
      exact ⟨ret_bool (by simp; omega), hb⟩

def Idx (w : World) (b : Bool) (e : Ending) (w' : World) : Prop := ∃ n : Int, e = .returned (.int .i64 n) ∧ decide (0 ≤ n) = b ∧ Below w.heap.size w w'
theorem index_any (A : Option Addr) (cap : Nat) (xs : List (Int × Int)) (t : Int) (B : Nat) (w : World) (hx : Spans w A xs) (hl : xs.length ≤ 100000000) (hB : B < w.heap.size) (hc : w.cell? ⟨B, 0, none⟩ = some (.int .i64 t)) :
    Calls Try.prog 46 #[.slice A xs.length cap, .func (.func 27) #[] #[.pointer (some ⟨B, 0, none⟩)]] w (Idx w (hasB xs t)) := by
  have HX := Lib.hid hx
  have HC := Lib.hid hc
  have eg : ∀ args w, (callFunc 27 args).run Try.prog w = .ok (.enter 27 args) w := enters_of Try.func27 (by kernel_rfl) rfl
  clear hx hc
  go_enter Try.func46, Try.ntmps46
  go_wp2
  go_loopw [8] (fun i wr => ∃ (k : Nat), k ≤ xs.length ∧ i = .int .i64 k ∧ Hid (hasB (xs.take k) t = false) ∧ Below w.heap.size w wr) (fun i _ => xs.length - (intOf i).toNat)
  case atStart => exact ⟨0, Nat.zero_le _, rfl, rfl, Below.refl _ _⟩
  case round =>
    obtain ⟨k, hk, rfl, hn, hbw⟩ := hrel
    by_cases hlt : k < xs.length
    · obtain ⟨b, off, rfl, hblt, c1, c2⟩ := (HX.out.below hbw).2 k hlt
      have S1 := Lib.hid (hasB_snoc xs k t hlt)
      have S2 := Lib.hid (hasB_hit xs k t hlt)
      generalize xs.getD k (0, 0) = z at *
      obtain ⟨p, q⟩ := z
      simp only [] at c1 c2 S1 S2
      go_wp2_with fail
      refine (has1_any p q t B _ (Nat.lt_of_lt_of_le hB hbw.size) ((hbw.cell (p := ⟨B, 0, none⟩) hB).trans HC.out)).mono ?_
      rintro e w2 ⟨rfl, hb2⟩
      replace hb2 := bel_on hbw hb2
      cases hm : decide (max p 0 ≤ t ∧ t < min q 32054400) with
      | true =>
        have hs' := Lib.hid (S2.out hm)
        clear hm
        go_wp2
        go_ret
        exact ⟨k, rfl, by rw [hs'.out]; simp, hb2⟩
      | false =>
        have hs' : Hid (hasB (xs.take (k + 1)) t = false) := by
          show _ = _
          rw [S1.out, hn.out, hm]; rfl
        clear hm
        go_wp2
        go_roundw
        case rel => exact ⟨k + 1, by omega, by go_num, hs', hb2⟩
        case measure => simp [intOf]; omega
    · obtain rfl : k = xs.length := by omega
      have hs' := hn.out
      rw [List.take_length] at hs'
      have HS := Lib.hid hs'
      clear hn hs'
      go_wp2
      go_ret
      exact ⟨-1, rfl, by rw [HS.out]; simp, hbw⟩
theorem contains_any (A : Option Addr) (cap : Nat) (xs : List (Int × Int)) (t : Int) (B : Nat) (w : World) (hx : Spans w A xs) (hl : xs.length ≤ 100000000) (hB : B < w.heap.size) (hc : w.cell? ⟨B, 0, none⟩ = some (.int .i64 t)) :
    Calls Try.prog 26 #[.slice A xs.length cap, .func (.func 27) #[] #[.pointer (some ⟨B, 0, none⟩)]] w fun e w' => e = .returned (.bool (hasB xs t)) ∧ Below w.heap.size w w' := by
  have hcon := index_any A cap xs t B w hx hl hB hc
  clear hx hc
  generalize hasB xs t = r at *
  go_enter Try.func26, Try.ntmps26
  go_wp2_with fail
  refine hcon.mono ?_
  rintro e w2 ⟨n, rfl, hn, hb⟩
  have HN := Lib.hid hn
  clear hn
  go_wp2
  go_ret
  exact ⟨ret_bool HN.out, hb⟩
theorem has_any (A : Option Addr) (cap : Nat) (xs : List (Int × Int)) (t : Int) (w : World) (hx : Spans w A xs) (hl : xs.length ≤ 100000000) :
    Calls Try.prog 15 #[.slice A xs.length cap, .int .i64 t] w fun e w' => e = .returned (.bool (hasB xs t)) ∧ Below w.heap.size w w' := by
  have HX := Lib.hid hx
  clear hx
  go_enter Try.func15, Try.ntmps15
  go_wp2_with fail
  refine (contains_any A cap xs t w.heap.size _ (HX.out.alloc _) hl (by simp) (by simp)).mono ?_
  rintro e w2 ⟨rfl, hb⟩
  replace hb := bel_on (bel_alloc (Below.refl _ _) _) hb
  go_wp2
  go_ret
  exact ⟨rfl, hb⟩
end Go.Proofs.Ytcefjnjlcpkanaa

namespace Go.Proofs.Ytcefjnjlcpkanaa
open Go.RowKit
set_option linter.unusedVariables false
set_option linter.unusedSimpArgs false

/-- By night, of a setup that may be. -/
def NB (b : Bool) (f g t : Int) : Prop := b = true ∧ nightP f g t
instance (b : Bool) (f g t : Int) : Decidable (NB b f g t) := by unfold NB; infer_instance
def isB (b : Bool) (f g t : Int) : Bool := decide (0 ≤ t ∧ t < 32054400 ∧ NB b f g t)
/-- A night within a day. -/
def NW (b : Bool) (f g : Int) : Prop := b = true → (0 ≤ f ∧ f ≤ 86400) ∧ (0 ≤ g ∧ g ≤ 86400)
def hoursL (b : Bool) (f g : Int) : List (Int × Int) := if b = true then (if g < f then [(0, g), (f, 86400)] else [(f, g)]) else []
theorem hours_in {b : Bool} {f g : Int} (h : NW b f g) (n : Int) : In (hoursL b f g) n ↔ (0 ≤ n ∧ n < 86400) ∧ b = true ∧ (if g < f then f ≤ n ∨ n < g else f ≤ n ∧ n < g) := by
  unfold hoursL
  cases b with
  | false => simp [in_nil]
  | true =>
    obtain ⟨h1, h2⟩ := h rfl
    rw [if_pos rfl]
    by_cases q : g < f
    · rw [if_pos q, if_pos q, in_cons, in_one]
      simp only [true_and]
      constructor
      · rintro (k | k) <;> omega
      · rintro ⟨k1, k2 | k2⟩
        · exact .inr (by omega)
        · exact .inl (by omega)
    · rw [if_neg q, if_neg q, in_one]
      simp only [true_and]
      constructor
      · intro k; omega
      · intro k; omega
theorem hours_len (b : Bool) (f g : Int) : (hoursL b f g).length ≤ 2 := by
  unfold hoursL
  split
  · split <;> simp
  · simp
theorem hours_bd {b : Bool} {f g : Int} (h : NW b f g) : ∀ x ∈ hoursL b f g, (0 ≤ x.1 ∧ x.1 ≤ 86400) ∧ (0 ≤ x.2 ∧ x.2 ≤ 86400) := fun x hx => by
  unfold hoursL at hx
  cases b with
  | false => simp at hx
  | true =>
    obtain ⟨h1, h2⟩ := h rfl
    rw [if_pos rfl] at hx
    split at hx
    · rcases List.mem_cons.1 hx with rfl | hx
      · simp; omega
      · rw [List.mem_singleton.1 hx]; simp; omega
    · rw [List.mem_singleton.1 hx]; simp; omega
theorem hours_fits {b : Bool} {f g : Int} (h : NW b f g) : Fits (hoursL b f g) := fun x hx => by
  have := hours_bd h x hx
  exact ⟨⟨by omega, by omega⟩, ⟨by omega, by omega⟩⟩
def shiftL (m : Int) (l : List (Int × Int)) : List (Int × Int) := l.map fun x => (m + x.1, m + x.2)
theorem shift_in (m : Int) (l : List (Int × Int)) (t : Int) : In (shiftL m l) t ↔ In l (t - m) := by
  unfold In shiftL
  constructor
  · rintro ⟨s, hs, h1, h2⟩
    obtain ⟨x, hx, rfl⟩ := List.mem_map.1 hs
    exact ⟨x, hx, by simp at h1; omega, by simp at h2; omega⟩
  · rintro ⟨x, hx, h1, h2⟩
    exact ⟨_, List.mem_map.2 ⟨x, hx, rfl⟩, by simp; omega, by simp; omega⟩
theorem shift_len (m : Int) (l : List (Int × Int)) : (shiftL m l).length = l.length := by simp [shiftL]
theorem shift_snoc (m : Int) (l : List (Int × Int)) (k : Nat) (h : k < l.length) : shiftL m (l.take (k + 1)) = shiftL m (l.take k) ++ [(m + (l.getD k (0, 0)).1, m + (l.getD k (0, 0)).2)] := by
  unfold shiftL
  rw [List.take_succ_eq_append_getElem h, List.map_append]
  simp [List.getD, h, -List.map_take]
/-- The hours by night of the first k days. -/
def daysL (b : Bool) (f g : Int) (k : Nat) : List (Int × Int) := (List.range k).flatMap fun d : Nat => shiftL ((d : Int) * 86400) (hoursL b f g)
theorem daysL_snoc (b : Bool) (f g : Int) (k : Nat) : daysL b f g (k + 1) = daysL b f g k ++ shiftL ((k : Int) * 86400) (hoursL b f g) := by
  unfold daysL
  rw [List.range_succ, List.flatMap_append]
  simp
theorem daysL_len (b : Bool) (f g : Int) : ∀ k, (daysL b f g k).length ≤ 2 * k
  | 0 => by simp [daysL]
  | k + 1 => by
    have := daysL_len b f g k
    have h2 := hours_len b f g
    rw [daysL_snoc, List.length_append, shift_len]
    omega
theorem daysL_fits {b : Bool} {f g : Int} (h : NW b f g) {k : Nat} (hk : k ≤ 371) : Fits (daysL b f g k) := fun x hx => by
  unfold daysL at hx
  obtain ⟨d, hd, hx⟩ := List.mem_flatMap.1 hx
  have hd' := List.mem_range.1 hd
  unfold shiftL at hx
  obtain ⟨y, hy, rfl⟩ := List.mem_map.1 hx
  have := hours_bd h y hy
  simp only []
  exact ⟨⟨by omega, by omega⟩, ⟨by omega, by omega⟩⟩
theorem daysL_in {b : Bool} {f g : Int} (h : NW b f g) {t : Int} (h0 : 0 ≤ t) (h1 : t < 32054400) : In (daysL b f g 371) t ↔ NB b f g t := by
  have key : ∀ d : Nat, In (shiftL ((d : Int) * 86400) (hoursL b f g)) t ↔ (d : Int) = t / 86400 ∧ NB b f g t := fun d => by
    rw [shift_in, hours_in h]
    unfold NB nightP
    constructor
    · rintro ⟨⟨k1, k2⟩, k3, k4⟩
      have e : t % 86400 = t - d * 86400 := by omega
      rw [e]
      exact ⟨by omega, k3, k4⟩
    · rintro ⟨k1, k3, k4⟩
      have e : t - d * 86400 = t % 86400 := by omega
      rw [e]
      exact ⟨by omega, k3, k4⟩
  constructor
  · rintro ⟨s, hs, q1, q2⟩
    unfold daysL at hs
    obtain ⟨d, hd, hx⟩ := List.mem_flatMap.1 hs
    exact ((key d).1 ⟨s, hx, q1, q2⟩).2
  · intro hn
    obtain ⟨d, hd⟩ : ∃ d : Nat, (d : Int) = t / 86400 := ⟨(t / 86400).toNat, by omega⟩
    obtain ⟨s, hs, q1, q2⟩ := (key d).2 ⟨hd, hn⟩
    exact ⟨s, List.mem_flatMap.2 ⟨d, List.mem_range.2 (by omega), hs⟩, q1, q2⟩
theorem night_and {b : Bool} {f g : Int} (h : NW b f g) (l : List (Int × Int)) : (canon fun t => In l t ∧ In (daysL b f g 371) t) = canon fun t => In l t ∧ NB b f g t :=
  canon_congr fun t h0 h1 => by rw [daysL_in h h0 h1]
theorem has_hours {b : Bool} {f g : Int} (h : NW b f g) (t : Int) : hasB (hoursL b f g) (t - dayP t * 86400) = isB b f g t := by
  rw [Bool.eq_iff_iff, hasB_iff, hours_in h]
  unfold isB
  rw [decide_eq_true_eq]
  unfold NB nightP
  have hd : dayP t = secP t / 86400 := rfl
  have hs : secP t = min (min (max t 0) 32054400) 32054399 := rfl
  constructor
  · rintro ⟨q1, q2, ⟨q3, q4⟩, q5, q6⟩
    have t0 : 0 ≤ t ∧ t < 32054400 := by omega
    have e : t % 86400 = t - dayP t * 86400 := by omega
    rw [e]
    exact ⟨t0.1, t0.2, q5, q6⟩
  · rintro ⟨q1, q2, q5, q6⟩
    have e : t - dayP t * 86400 = t % 86400 := by omega
    rw [e]
    exact ⟨by omega, by omega, ⟨by omega, by omega⟩, q5, q6⟩
theorem has_night (b : Bool) (f g : Int) (l : List (Int × Int)) (t : Int) : hasB (canon fun t => In l t ∧ NB b f g t) t = (hasB l t && isB b f g t) := by
  rw [Bool.eq_iff_iff, Bool.and_eq_true, hasB_iff, hasB_iff, canon_in]
  unfold isB
  rw [decide_eq_true_eq]
  constructor
  · rintro ⟨h1, h2, _, _, h3, h4⟩; exact ⟨⟨h1, h2, h3⟩, h1, h2, h4⟩
  · rintro ⟨⟨h1, h2, h3⟩, _, _, h4⟩; exact ⟨h1, h2, h1, h2, h3, h4⟩
theorem is_later {b : Bool} {f g : Int} (t d : Int) (h0 : 0 ≤ t) (hd : 0 ≤ d) (h1 : t + d * 86400 < 32054400) : isB b f g (t + d * 86400) = isB b f g t := by
  unfold isB
  apply decide_eq_decide.2
  unfold NB
  rw [night_later]
  constructor
  · rintro ⟨_, _, q⟩; exact ⟨h0, by omega, q⟩
  · rintro ⟨_, _, q⟩; exact ⟨by omega, h1, q⟩
/-! ### The document's own -/
/-- What is told of the first k plain spans, and of the next one's seconds below T. -/
def TellN (b : Bool) (f g : Int) (p : List (Int × Int)) (k : Nat) (T : Int) (o : List (Int × Int)) : Prop :=
  Fits o ∧ (o.length : Int) ≤ T ∧ ∀ t, In o t ↔ NB b f g t ∧ (In (p.take k) t ∨ ((p.getD k (0, 0)).1 ≤ t ∧ t < (p.getD k (0, 0)).2 ∧ t < T))
/-- The first k, and nothing of the next one. -/
def TellK (b : Bool) (f g : Int) (p : List (Int × Int)) (k : Nat) (T : Int) (o : List (Int × Int)) : Prop :=
  Fits o ∧ (o.length : Int) ≤ T ∧ ∀ t, In o t ↔ NB b f g t ∧ In (p.take k) t
/-- Up to where the plain spans have been told. -/
def ahead (p : List (Int × Int)) : Nat → Int
  | 0 => 0
  | k + 1 => (p.getD k (0, 0)).2
theorem ahead_le {p : List (Int × Int)} (h : PlainFrom 0 p) {k : Nat} (hk : k < p.length) : 0 ≤ ahead p k ∧ ahead p k ≤ (p.getD k (0, 0)).1 := by
  have hq := plain_pairs.1 h
  have e : ∀ i, (hi : i < p.length) → p.getD i (0, 0) = p[i] := fun i hi => by simp [List.getD, hi]
  cases k with
  | zero =>
    have := hq.1 p[0] (List.getElem_mem hk)
    show (0 : Int) ≤ 0 ∧ (0 : Int) ≤ _
    rw [e 0 hk]; omega
  | succ k =>
    have h1 := hq.1 p[k] (List.getElem_mem (by omega))
    have h2 := List.pairwise_iff_getElem.1 hq.2 k (k + 1) (by omega) hk (by omega)
    show 0 ≤ (p.getD k (0, 0)).2 ∧ (p.getD k (0, 0)).2 ≤ _
    rw [e k (by omega), e (k + 1) hk]; omega
theorem ahead_top {p : List (Int × Int)} (h : PlainFrom 0 p) {k : Nat} (hk : k ≤ p.length) : ahead p k ≤ 32054400 := by
  cases k with
  | zero => show (0 : Int) ≤ _; omega
  | succ k =>
    have h1 := (plain_pairs.1 h).1 p[k] (List.getElem_mem (by omega))
    have e : p.getD k (0, 0) = p[k] := by simp [List.getD, show k < p.length by omega]
    show (p.getD k (0, 0)).2 ≤ _
    rw [e]; omega
theorem tell_nil (b : Bool) (f g : Int) (p : List (Int × Int)) : TellK b f g p 0 0 [] :=
  ⟨Fits.nil, by simp, fun t => by simp [in_nil]⟩
theorem tell_first {b : Bool} {f g : Int} {p o : List (Int × Int)} {k : Nat} (h : PlainFrom 0 p) (hk : k < p.length) (ho : TellK b f g p k (ahead p k) o) : TellN b f g p k (p.getD k (0, 0)).1 o :=
  ⟨ho.1, by have := ho.2.1; have := ahead_le h hk; omega, fun t => by
    rw [ho.2.2]
    constructor
    · rintro ⟨q1, q2⟩; exact ⟨q1, .inl q2⟩
    · rintro ⟨q1, q2 | q2⟩
      · exact ⟨q1, q2⟩
      · omega⟩
theorem tell_last {b : Bool} {f g : Int} {p o : List (Int × Int)} {k : Nat} {T : Int} (hk : k < p.length) (hT : T = (p.getD k (0, 0)).2) (ho : TellN b f g p k T o) : TellK b f g p (k + 1) (ahead p (k + 1)) o :=
  ⟨ho.1, by have := ho.2.1; subst hT; exact this, fun t => by
    rw [ho.2.2, List.take_succ_eq_append_getElem hk, in_append, in_one]
    have e : p.getD k (0, 0) = p[k] := by simp [List.getD, hk]
    rw [e] at hT ⊢
    constructor
    · rintro ⟨q1, q2 | q2⟩
      · exact ⟨q1, .inl q2⟩
      · exact ⟨q1, .inr ⟨q2.1, q2.2.1⟩⟩
    · rintro ⟨q1, q2 | q2⟩
      · exact ⟨q1, .inl q2⟩
      · exact ⟨q1, .inr ⟨q2.1, q2.2, by omega⟩⟩⟩
/-- From T up to U nothing changes. -/
theorem tell_yes {b : Bool} {f g : Int} {p o : List (Int × Int)} {k : Nat} {T U : Int} (ho : TellN b f g p k T o) (h0 : 0 ≤ T) (hT : T < U) (hU : U ≤ (p.getD k (0, 0)).2) (hU2 : U ≤ 32054400) (hf : (p.getD k (0, 0)).1 ≤ T) (hs : ∀ u, T ≤ u → u < U → (NB b f g u ↔ NB b f g T)) (hn : NB b f g T) : TellN b f g p k U (o ++ [(T, U)]) :=
  ⟨ho.1.append (fun x hx => by rw [List.mem_singleton.1 hx]; exact ⟨⟨by simp only []; omega, by simp only []; omega⟩, ⟨by simp only []; omega, by simp only []; omega⟩⟩), by have := ho.2.1; simp; omega, fun t => by
    rw [in_append, ho.2.2, in_one]
    simp only []
    constructor
    · rintro (⟨q1, q2 | q2⟩ | q)
      · exact ⟨q1, .inl q2⟩
      · exact ⟨q1, .inr ⟨q2.1, q2.2.1, by omega⟩⟩
      · exact ⟨(hs t q.1 q.2).2 hn, .inr ⟨by omega, by omega, q.2⟩⟩
    · rintro ⟨q1, q2 | q2⟩
      · exact .inl ⟨q1, .inl q2⟩
      · by_cases q : t < T
        · exact .inl ⟨q1, .inr ⟨q2.1, q2.2.1, q⟩⟩
        · exact .inr ⟨by omega, q2.2.2⟩⟩
theorem tell_no {b : Bool} {f g : Int} {p o : List (Int × Int)} {k : Nat} {T U : Int} (ho : TellN b f g p k T o) (hT : T < U) (hs : ∀ u, T ≤ u → u < U → (NB b f g u ↔ NB b f g T)) (hn : ¬ NB b f g T) : TellN b f g p k U o :=
  ⟨ho.1, by have := ho.2.1; omega, fun t => by
    rw [ho.2.2]
    constructor
    · rintro ⟨q1, q2 | q2⟩
      · exact ⟨q1, .inl q2⟩
      · exact ⟨q1, .inr ⟨q2.1, q2.2.1, by omega⟩⟩
    · rintro ⟨q1, q2 | q2⟩
      · exact ⟨q1, .inl q2⟩
      · by_cases q : t < T
        · exact ⟨q1, .inr ⟨q2.1, q2.2.1, q⟩⟩
        · exact absurd q1 (fun z => hn ((hs t (by omega) q2.2.2).1 z))⟩
theorem tell_end {b : Bool} {f g : Int} {p l o : List (Int × Int)} {T : Int} (hp : canon (In l) = p) (ho : TellK b f g p p.length T o) : canon (In o) = canon fun t => In l t ∧ NB b f g t :=
  canon_congr fun t h0 h1 => by
    rw [ho.2.2, List.take_length, ← hp, canon_in]
    exact ⟨fun q => ⟨q.2.2.2, q.1⟩, fun q => ⟨q.2, h0, h1, q.1⟩⟩
/-- Up to the next place where a night begins, or ends, or a day. -/
theorem next_still {b : Bool} {f g T U : Int} (hU : U ≤ T - T % 86400 + 86400) (hf : b = true → T < T - T % 86400 + f → U ≤ T - T % 86400 + f) (hg : b = true → T < T - T % 86400 + g → U ≤ T - T % 86400 + g) : ∀ u, T ≤ u → u < U → (NB b f g u ↔ NB b f g T) := fun u h0 h1 => by
  unfold NB
  constructor
  · rintro ⟨q1, q2⟩
    exact ⟨q1, (night_still h0 (by omega) (fun z => by have := hf q1 z; omega) (fun z => by have := hg q1 z; omega)).1 q2⟩
  · rintro ⟨q1, q2⟩
    exact ⟨q1, (night_still h0 (by omega) (fun z => by have := hf q1 z; omega) (fun z => by have := hg q1 z; omega)).2 q2⟩
end Go.Proofs.Ytcefjnjlcpkanaa

namespace Go.Proofs.Ytcefjnjlcpkanaa
open Go.RowKit
set_option linter.unusedVariables false

theorem rin_any (a b t : Int) (w : World) : Calls Try.prog 82 #[.agg #[.int .i64 a, .int .i64 b], .int .i64 t] w fun e w' => e = .returned (.bool (decide (max a 0 ≤ t ∧ t < min b 32054400))) ∧ Below w.heap.size w w' := by
  by_cases h1 : 0 ≤ t
  · by_cases h2 : t < 32054400
    · by_cases h3 : a ≤ t
      · by_cases h4 : t < b
        · go_enter Try.func82, Try.ntmps82
          go_wp2
          go_ret
          exact ⟨ret_bool (by simp; omega), by (repeat' (first | with_reducible exact Below.refl _ _ | with_reducible assumption | with_reducible refine bel_alloc ?_ _ | with_reducible refine bel_set ?_ ?_ _ | with_reducible refine below_drewN ?_ _ | with_reducible refine below_drew ?_ | (simp; done) | (simp; omega) | omega))⟩
        · go_enter Try.func82, Try.ntmps82
          go_wp2
          go_ret
          exact ⟨ret_bool (by simp; omega), by (repeat' (first | with_reducible exact Below.refl _ _ | with_reducible assumption | with_reducible refine bel_alloc ?_ _ | with_reducible refine bel_set ?_ ?_ _ | with_reducible refine below_drewN ?_ _ | with_reducible refine below_drew ?_ | (simp; done) | (simp; omega) | omega))⟩
      · go_enter Try.func82, Try.ntmps82
        go_wp2
        go_ret
        exact ⟨ret_bool (by simp; omega), by (repeat' (first | with_reducible exact Below.refl _ _ | with_reducible assumption | with_reducible refine bel_alloc ?_ _ | with_reducible refine bel_set ?_ ?_ _ | with_reducible refine below_drewN ?_ _ | with_reducible refine below_drew ?_ | (simp; done) | (simp; omega) | omega))⟩
    · go_enter Try.func82, Try.ntmps82
      go_wp2
      go_ret
      exact ⟨ret_bool (by simp; omega), by (repeat' (first | with_reducible exact Below.refl _ _ | with_reducible assumption | with_reducible refine bel_alloc ?_ _ | with_reducible refine bel_set ?_ ?_ _ | with_reducible refine below_drewN ?_ _ | with_reducible refine below_drew ?_ | (simp; done) | (simp; omega) | omega))⟩
  · go_enter Try.func82, Try.ntmps82
    go_wp2
    go_ret
    exact ⟨ret_bool (by simp; omega), by (repeat' (first | with_reducible exact Below.refl _ _ | with_reducible assumption | with_reducible refine bel_alloc ?_ _ | with_reducible refine bel_set ?_ ?_ _ | with_reducible refine below_drewN ?_ _ | with_reducible refine below_drew ?_ | (simp; done) | (simp; omega) | omega))⟩

theorem rhas_any (A : Option Addr) (cap : Nat) (xs : List (Int × Int)) (t : Int) (w : World) (hx : Spans w A xs) (hl : xs.length ≤ 100000000) :
    Calls Try.prog 64 #[.slice A xs.length cap, .int .i64 t] w fun e w' => e = .returned (.bool (hasB xs t)) ∧ Below w.heap.size w w' := by
  have HX := Lib.hid hx
  clear hx
  go_enter Try.func64, Try.ntmps64
  go_wp2
  go_loopw [5] (fun i wr => ∃ (k : Nat), k ≤ xs.length ∧ i = .int .i64 k ∧ Hid (hasB (xs.take k) t = false) ∧ Below w.heap.size w wr) (fun i _ => xs.length - (intOf i).toNat)
  case atStart => exact ⟨0, Nat.zero_le _, rfl, rfl, Below.refl _ _⟩
  case round =>
    obtain ⟨k, hk, rfl, hn, hbw⟩ := hrel
    by_cases hlt : k < xs.length
    · obtain ⟨b, off, rfl, hblt, c1, c2⟩ := (HX.out.below hbw).2 k hlt
      have S1 := Lib.hid (hasB_snoc xs k t hlt)
      have S2 := Lib.hid (hasB_hit xs k t hlt)
      generalize xs.getD k (0, 0) = z at *
      obtain ⟨p, q⟩ := z
      simp only [] at c1 c2 S1 S2
      go_wp2_with fail
      refine (rin_any p q t _).mono ?_
      rintro e w2 ⟨rfl, hb2⟩
      replace hb2 := bel_on hbw hb2
      cases hm : decide (max p 0 ≤ t ∧ t < min q 32054400) with
      | true =>
        have hs' := Lib.hid (S2.out hm)
        clear hm
        go_wp2
        go_ret
        exact ⟨ret_bool hs'.out.symm, hb2⟩
      | false =>
        have hs' : Hid (hasB (xs.take (k + 1)) t = false) := by
          show _ = _
          rw [S1.out, hn.out, hm]; rfl
        clear hm
        go_wp2
        go_roundw
        case rel => exact ⟨k + 1, by omega, by go_num, hs', hb2⟩
        case measure => simp [intOf]; omega
    · obtain rfl : k = xs.length := by omega
      have hs' := hn.out
      rw [List.take_length] at hs'
      have HS := Lib.hid hs'
      clear hn hs'
      go_wp2
      go_ret
      exact ⟨ret_bool HS.out.symm, hbw⟩

/-- The least number above t where a span begins, or ends; 'top' if there is none below it. -/
def afterL (t : Int) : Int → List (Int × Int) → Int
  | top, [] => top
  | top, s :: l => afterL t (let o := if t < s.1 then min top s.1 else top; if t < s.2 then min o s.2 else o) l
def after1 (t top : Int) (s : Int × Int) : Int := let o := if t < s.1 then min top s.1 else top; if t < s.2 then min o s.2 else o
theorem afterL_cons (t top : Int) (s : Int × Int) (l : List (Int × Int)) : afterL t top (s :: l) = afterL t (after1 t top s) l := rfl
theorem afterL_append (t : Int) : ∀ (l : List (Int × Int)) (top : Int) (s : Int × Int), afterL t top (l ++ [s]) = after1 t (afterL t top l) s
  | [], top, s => rfl
  | x :: l, top, s => by rw [List.cons_append, afterL_cons, afterL_cons, afterL_append t l]
theorem afterL_snoc (t top : Int) (xs : List (Int × Int)) (k : Nat) (h : k < xs.length) : afterL t top (xs.take (k + 1)) = after1 t (afterL t top (xs.take k)) (xs.getD k (0, 0)) := by
  rw [List.take_succ_eq_append_getElem h, afterL_append]; simp [List.getD, h]
theorem after1_spec (t top : Int) (s : Int × Int) (h : t < top) : t < after1 t top s ∧ after1 t top s ≤ top ∧ (∀ u, t ≤ u → u < after1 t top s → ((s.1 ≤ u ∧ u < s.2) ↔ (s.1 ≤ t ∧ t < s.2))) := by
  unfold after1
  simp only []
  split <;> split <;> refine ⟨by omega, by omega, fun u h1 h2 => by omega⟩
theorem afterL_spec (t : Int) : ∀ (l : List (Int × Int)) (top : Int), t < top → t < afterL t top l ∧ afterL t top l ≤ top ∧ ∀ u, t ≤ u → u < afterL t top l → (In l u ↔ In l t)
  | [], top, h => ⟨h, Int.le_refl _, fun u _ _ => by simp [in_nil]⟩
  | s :: l, top, h => by
    obtain ⟨h1, h2, h3⟩ := after1_spec t top s h
    obtain ⟨i1, i2, i3⟩ := afterL_spec t l (after1 t top s) h1
    rw [afterL_cons]
    refine ⟨i1, by omega, fun u q1 q2 => ?_⟩
    rw [in_cons, in_cons, i3 u q1 q2, h3 u q1 (by omega)]

theorem rafter_any (A : Option Addr) (cap : Nat) (xs : List (Int × Int)) (t : Int) (w : World) (hx : Spans w A xs) (hl : xs.length ≤ 100000000) :
    Calls Try.prog 63 #[.slice A xs.length cap, .int .i64 t] w fun e w' => e = .returned (.int .i64 (afterL t 32054400 xs)) ∧ w = w' := by
  have HX := Lib.hid hx
  clear hx
  go_enter Try.func63, Try.ntmps63
  go_wp2
  go_loop [5, 6] (fun o i => ∃ (k : Nat) (v : Int), k ≤ xs.length ∧ i = .int .i64 k ∧ o = .int .i64 v ∧ Hid (v = afterL t 32054400 (xs.take k))) (fun _ i => xs.length - (intOf i).toNat)
  case atStart => exact ⟨0, _, Nat.zero_le _, rfl, rfl, rfl⟩
  case round =>
    obtain ⟨k, v, hk, rfl, rfl, hv⟩ := hrel
    by_cases hlt : k < xs.length
    · obtain ⟨b, off, rfl, hblt, c1, c2⟩ := HX.out.2 k hlt
      have S1 := Lib.hid (afterL_snoc t 32054400 xs k hlt)
      generalize xs.getD k (0, 0) = z at *
      obtain ⟨p, q⟩ := z
      simp only [] at c1 c2
      by_cases h1 : t < p
      · by_cases h2 : t < q
        · go_wp2
          go_round
          case rel => exact ⟨k + 1, _, by omega, by go_num, rfl, by show _ = _; rw [S1.out, ← hv.out]; simp [after1, h1, h2]⟩
          case measure => simp [intOf]; omega
        · go_wp2
          go_round
          case rel => exact ⟨k + 1, _, by omega, by go_num, rfl, by show _ = _; rw [S1.out, ← hv.out]; simp [after1, h1]; omega⟩
          case measure => simp [intOf]; omega
      · by_cases h2 : t < q
        · go_wp2
          go_round
          case rel => exact ⟨k + 1, _, by omega, by go_num, rfl, by show _ = _; rw [S1.out, ← hv.out]; simp [after1, h2]; omega⟩
          case measure => simp [intOf]; omega
        · go_wp2
          go_round
          case rel => exact ⟨k + 1, _, by omega, by go_num, rfl, by show _ = _; rw [S1.out, ← hv.out]; simp [after1]; omega⟩
          case measure => simp [intOf]; omega
    · obtain rfl : k = xs.length := by omega
      go_wp2
      go_ret
      exact ⟨ret_one (by rw [hv.out, List.take_length]), rfl⟩
end Go.Proofs.Ytcefjnjlcpkanaa
