/-
  The contracts of package span's functions, continued: Norm.
  Which of a week's seconds are regular, overtime, and double. No program here.
-/
import Derived.Test.YthdolmhnjinlhaaGreatZac
import Derived.Deep.QuietTactic
import Derived.BigQuiet
import Derived.Test.YthdolmhnjinlhaaGreatZaa
namespace Go.Proofs.YthdolmhnjinlhaaGreat
open Go.RowKit
set_option linter.unusedVariables false

theorem in_take (ys : List (Int × Int)) (k : Nat) (h : k < ys.length) (t : Int) : In (ys.take (k + 1)) t ↔ In (ys.take k) t ∨ ((ys.getD k (0, 0)).1 ≤ t ∧ t < (ys.getD k (0, 0)).2) := by
  rw [List.take_succ_eq_append_getElem h, in_append, in_one]
  simp [List.getD, h]
theorem rises_at {xs ys : List (Int × Int)} (h : Rises xs ys) {k : Nat} (hk : k < ys.length) : 0 ≤ (ys.getD k (0, 0)).1 ∧ (ys.getD k (0, 0)).1 < (ys.getD k (0, 0)).2 ∧ (ys.getD k (0, 0)).2 ≤ 32054400 := h.2.1 _ (by simp [List.getD, hk])
theorem rises_le {xs ys : List (Int × Int)} (h : Rises xs ys) {k j : Nat} (hkj : k < j) (hj : j < ys.length) : (ys.getD k (0, 0)).1 ≤ (ys.getD j (0, 0)).1 := by
  have := (List.pairwise_iff_getElem.1 h.1) k j (by omega) hj hkj
  have hk : k < ys.length := by omega
  simpa [List.getD, hk, hj] using this

/-- How far Norm has come. -/
def NormAt (ys L : List (Int × Int)) (k : Nat) : Prop := ∃ a, Grown (In (ys.take k)) a L ∧ ∀ j, k ≤ j → j < ys.length → a ≤ (ys.getD j (0, 0)).1
theorem normAt_push {xs ys L : List (Int × Int)} {k : Nat} (hr : Rises xs ys) (hk : k < ys.length) (h : NormAt ys L k) (hl : ∀ x ∈ L, x.2 < (ys.getD k (0, 0)).1) : NormAt ys (L ++ [ys.getD k (0, 0)]) (k + 1) := by
  obtain ⟨a, hg, ha⟩ := h
  have hz := rises_at hr hk
  exact ⟨_, grown_snoc hg (ha k (Nat.le_refl _) hk) hz.1 hz.2.1 hz.2.2 hl (in_take ys k hk), fun j h1 h2 => rises_le hr (by omega) h2⟩
theorem normAt_last {xs ys L : List (Int × Int)} {r : Int × Int} {k : Nat} (hr : Rises xs ys) (hk : k < ys.length) (h : NormAt ys (L ++ [r]) k) (hl : (ys.getD k (0, 0)).1 ≤ r.2) : NormAt ys (L ++ [(r.1, max r.2 (ys.getD k (0, 0)).2)]) (k + 1) := by
  obtain ⟨a, hg, ha⟩ := h
  have hz := rises_at hr hk
  exact ⟨_, grown_last hg (ha k (Nat.le_refl _) hk) hz.2.1 hz.2.2 hl (in_take ys k hk), fun j h1 h2 => rises_le hr (by omega) h2⟩
theorem normAt_below {ys L : List (Int × Int)} {r : Int × Int} {k : Nat} (h : NormAt ys (L ++ [r]) k) {z : Int} (hz : r.2 < z) : ∀ x ∈ L ++ [r], x.2 < z := by
  obtain ⟨a, hg, ha⟩ := h
  obtain ⟨k1, k2, k3, k4, k5⟩ := plain_unsnoc hg.1
  intro x hx
  rcases List.mem_append.1 hx with hx | hx
  · have := k2 x hx; omega
  · rw [List.mem_singleton.1 hx]; exact hz
theorem normAt_end {xs ys L : List (Int × Int)} (hr : Rises xs ys) (h : NormAt ys L ys.length) : L = canon (In xs) := by
  obtain ⟨a, hg, ha⟩ := h
  refine canon_eq hg.1 (fun t => ?_)
  rw [hg.2.2, List.take_length, hr.2.2.2]
theorem set_snoc (i : List (Int × Int)) (r z : Int × Int) : (i ++ [r]).set i.length z = i ++ [z] := by simp
theorem getD_snoc (i : List (Int × Int)) (r : Int × Int) : (i ++ [r]).getD i.length (0, 0) = r := by simp [List.getD]

theorem norm_any (A : Option Addr) (cap : Nat) (xs : List (Int × Int)) (w : World) (hx : Spans w A xs) (hl : xs.length ≤ 100000000) :
    Calls Tryz.prog 16 #[.slice A xs.length cap] w (Gives w (canon (In xs))) := by
  go_enter Tryz.func16, Tryz.ntmps16
  go_wp2_with fail
  refine (rising_any A cap xs w hx hl).mono ?_
  rintro e w1 ⟨D, dc, ys, rfl, hri, hsp, hb1⟩
  have HS := Lib.hid hsp
  have HR := Lib.hid hri
  have hyl : ys.length ≤ 100000000 := Nat.le_trans hri.2.2.1 hl
  clear hx hsp hri
  go_wp2
  go_loopw [3, 10] (fun s i wr => ∃ (k : Nat) (B : Option Addr) (d : Nat) (L : List (Int × Int)), k ≤ ys.length ∧ i = .int .i64 k ∧ s = .slice B L.length d ∧ L.length ≤ k ∧ Hid (NormAt ys L k) ∧ Row wr w1.heap.size B d L ∧ Below w1.heap.size w1 wr) (fun _ i _ => ys.length - (intOf i).toNat)
  case atStart => exact ⟨0, none, 0, [], Nat.zero_le _, rfl, rfl, Nat.le_refl _, ⟨0, ⟨trivial, by simp, fun u => by simp [in_nil]⟩, fun j _ h => (rises_at HR.out h).1⟩, Row.nil _ _, Below.refl _ _⟩
  case round =>
    obtain ⟨k, B, d, L, hk, rfl, rfl, hnk, hn, hr, hbw⟩ := hrel
    by_cases hlt : k < ys.length
    · obtain ⟨b, off, rfl, hblt, c1, c2⟩ := (HS.out.below hbw).2 k hlt
      have HZ := rises_at HR.out hlt
      have hws := hbw.size
      have P1 := Lib.hid (fun h => normAt_push HR.out hlt hn.out h)
      have P2 := Lib.hid (fun (i : List (Int × Int)) r (e : L = i ++ [r]) h => normAt_last HR.out hlt (e ▸ hn.out) h)
      generalize ys.getD k (0, 0) = z at *
      obtain ⟨p, q⟩ := z
      simp only [] at HZ c1 c2 P2
      have R0 : Has (wr.alloc (.cells #[.int .i64 p, .int .i64 q] 42)) wr.heap.size #[.int .i64 p, .int .i64 q] := Has.new _ _ _ rfl
      have hr0 := hr.alloc (.cells #[.int .i64 p, .int .i64 q] 42)
      have hb0 := bel_alloc hbw (.cells #[.int .i64 p, .int .i64 q] 42)
      by_cases hL : L = []
      · subst hL
        simp only [List.length_nil] at *
        go_wp2
        go_quiet (fail)
        obtain ⟨B', d', w4, hrun, hr4, hb4, hz4, _, _⟩ := row_push (hr0.drewN nq) p q (by simp) (by simp; omega) (s := wr.heap.size + 1) (by simp)
        have HU := Lib.hid hrun
        have hb5 := hb4 w1 (Nat.le_refl _) (below_drewN hb0 nq)
        clear hrun hb4
        go_wp2_with (at_builtin; refine wpList_append_run HU.out rfl rfl rfl rfl ?_)
        go_roundw
        case rel => exact ⟨k + 1, B', d', _, by omega, by go_num, rfl, by simp, P1.out (by simp), hr4, hb5⟩
        case measure => simp [intOf]; omega
      · obtain ⟨i, ⟨ra, rb⟩, rfl⟩ : ∃ i r, L = i ++ [r] := ⟨L.dropLast, L.getLast hL, (List.dropLast_concat_getLast hL).symm⟩
        obtain ⟨g, rfl⟩ := hr.form (by simp)
        obtain ⟨f1, f2⟩ := hr.cellAt (k := i.length) (by simp)
        rw [getD_snoc] at f1 f2
        have f3 := hr.frozenAt (i.length * 2 + 1)
        have hglt : w1.heap.size ≤ g ∧ g < wr.heap.size := hr.lt _ rfl
        have P3 := Lib.hid (fun h => P1.out (normAt_below hn.out h))
        have P4 := Lib.hid (P2.out i (ra, rb) rfl)
        have hset := hr0.set (k := i.length) (by simp) (max rb q)
        rw [getD_snoc, set_snoc] at hset
        have HT := Lib.hid hset
        have hgne : g ≠ wr.heap.size := by omega
        clear P1 P2 hset
        simp only [List.length_append, List.length_cons, List.length_nil, Nat.zero_add] at *
        have hd : decide ((i.length : Int) < 0) = false := by simp
        have h0 : (0 : Int) ≤ (i.length : Int) := by omega
        by_cases hc : rb < p
        · go_wp2
          go_quiet (fail)
          obtain ⟨B', d', w4, hrun, hr4, hb4, hz4, _, _⟩ := row_push (hr0.drewN nq) p q (by simp; omega) (by simp; omega) (s := wr.heap.size + 1) (by simp)
          simp only [List.length_append, List.length_cons, List.length_nil, Nat.zero_add] at hrun
          have HU := Lib.hid hrun
          have hb5 := hb4 w1 (Nat.le_refl _) (below_drewN hb0 nq)
          clear hrun hb4
          go_wp2_with (at_builtin; refine wpList_append_run HU.out rfl rfl rfl rfl ?_)
          go_roundw
          case rel => exact ⟨k + 1, B', d', _, by omega, by go_num, by simp, by simp; omega, P3.out hc, hr4, hb5⟩
          case measure => simp [intOf]; omega
        · go_wp2
          go_quiet (fail)
          go_wp2
          go_region
          go_wp2
          go_roundw
          case rel => exact ⟨k + 1, _, d, i ++ [(ra, max rb q)], by omega, by go_num, by simp, by simp; omega, P4.out (by omega), HT.out, bel_set (below_drew (below_drewN hb0 nq)) (p := ⟨g, i.length * 2 + 1, none⟩) hglt.1 _⟩
          case measure => simp [intOf]; omega
    · obtain rfl : k = ys.length := by omega
      have HE := Lib.hid (normAt_end HR.out hn.out)
      go_wp2
      go_ret
      exact gives_of (hr.mono hb1.size) HE.out rfl (bel_on hb1 hbw)
end Go.Proofs.YthdolmhnjinlhaaGreat

namespace Go.Proofs.YthdolmhnjinlhaaGreat
set_option linter.unusedVariables false
set_option linter.unusedSimpArgs false

/-- The short ones of all days of W: of each day the first n. -/
def shortS (W : Int → Prop) (n t : Int) : Prop := fstS (onDay W (t / 86400)) n t
/-- Regular: r the day's, v the week's; overtime; double: o the day's. -/
def regS (W : Int → Prop) (r v t : Int) : Prop := fstS (shortS W r) v t
def dblS (W : Int → Prop) (o t : Int) : Prop := W t ∧ ¬ shortS W o t
def ovrS (W : Int → Prop) (r o v t : Int) : Prop := (shortS W r t ∧ ¬ regS W r v t) ∨ (shortS W o t ∧ ¬ shortS W r t)
section
variable {W : Int → Prop} {r o v : Int}
theorem short_in {n t : Int} (h : shortS W n t) : W t := h.1.1
theorem short_le (h : r ≤ o) {t : Int} (k : shortS W r t) : shortS W o t := ⟨k.1, by have := k.2; omega⟩
theorem reg_in {t : Int} (h : regS W r v t) : shortS W r t := h.1
/-- OverMakes: they are the week's, and share none. -/
theorem over_or (h : r ≤ o) (t : Int) : W t ↔ regS W r v t ∨ ovrS W r o v t ∨ dblS W o t := by
  constructor
  · intro k
    by_cases q1 : shortS W o t
    · by_cases q2 : shortS W r t
      · by_cases q3 : regS W r v t
        · exact .inl q3
        · exact .inr (.inl (.inl ⟨q2, q3⟩))
      · exact .inr (.inl (.inr ⟨q1, q2⟩))
    · exact .inr (.inr ⟨k, q1⟩)
  · rintro (k | (k | k) | k)
    · exact short_in k.1
    · exact short_in k.1
    · exact short_in k.1
    · exact k.1
theorem reg_ovr {t : Int} : ¬ (regS W r v t ∧ ovrS W r o v t) := by
  rintro ⟨k, q | q⟩
  · exact q.2 k
  · exact q.2 k.1
theorem reg_dbl (h : r ≤ o) {t : Int} : ¬ (regS W r v t ∧ dblS W o t) := fun ⟨k, q⟩ => q.2 (short_le h k.1)
theorem ovr_dbl (h : r ≤ o) {t : Int} : ¬ (ovrS W r o v t ∧ dblS W o t) := by
  rintro ⟨k | k, q⟩
  · exact q.2 (short_le h k.1)
  · exact q.2 k.1
theorem over_sizes (h : r ≤ o) : sz W = sz (regS W r v) + sz (ovrS W r o v) + sz (dblS W o) := by
  have h1 := sz_or (p := fun t => regS W r v t ∨ ovrS W r o v t) (q := dblS W o) (r := W) (fun t _ _ => ⟨by rw [or_assoc]; exact over_or h t, fun ⟨k, q⟩ => k.elim (fun z => reg_dbl h ⟨z, q⟩) (fun z => ovr_dbl h ⟨z, q⟩)⟩)
  have h2 := sz_or (p := regS W r v) (q := ovrS W r o v) (r := fun t => regS W r v t ∨ ovrS W r o v t) (fun t _ _ => ⟨Iff.rfl, reg_ovr⟩)
  omega
end
/-! ### By days -/
/-- The sum of seven days. -/
def sevenI (f : Int → Int) (k : Int) : Int := f (7 * k) + f (7 * k + 1) + f (7 * k + 2) + f (7 * k + 3) + f (7 * k + 4) + f (7 * k + 5) + f (7 * k + 6)
theorem day_week {t k : Int} (h : t / 604800 = k) : 7 * k ≤ t / 86400 ∧ t / 86400 ≤ 7 * k + 5 + 1 := by omega
theorem seven_sum {a s0 s1 s2 s3 s4 s5 s6 t1 t2 t3 t4 t5 : Int} (h0 : t1 = s0 + s1) (h1 : t2 = t1 + s2) (h2 : t3 = t2 + s3) (h3 : t4 = t3 + s4) (h4 : t5 = t4 + s5) (h5 : a = t5 + s6) : a = s0 + s1 + s2 + s3 + s4 + s5 + s6 := by omega
theorem sz_seven {q : Int → Prop} {k : Int} (hk : 0 ≤ k) (h : ∀ t, 0 ≤ t → q t → t / 604800 = k) : sz q = sevenI (fun d => sz (onDay q d)) k := by
  have step : ∀ a b : Int, a ≤ b → sz (fun t => q t ∧ a ≤ t / 86400 ∧ t / 86400 ≤ b + 1) = sz (fun t => q t ∧ a ≤ t / 86400 ∧ t / 86400 ≤ b) + sz (onDay q (b + 1)) := fun a b hab => sz_or fun t _ _ => ⟨by
    unfold onDay
    constructor
    · rintro ⟨h1, h2, h3⟩
      by_cases e : t / 86400 ≤ b
      · exact .inl ⟨h1, h2, e⟩
      · exact .inr ⟨h1, by omega⟩
    · rintro (⟨h1, h2, h3⟩ | ⟨h1, h2⟩)
      · exact ⟨h1, h2, by omega⟩
      · exact ⟨h1, by omega, by omega⟩, fun ⟨h1, h2⟩ => by have := h1.2.2; have := h2.2; omega⟩
  have h0 : sz (fun t => q t ∧ 7 * k ≤ t / 86400 ∧ t / 86400 ≤ 7 * k) = sz (onDay q (7 * k)) := sz_congr fun t _ _ => ⟨fun z => ⟨z.1, by omega⟩, fun z => ⟨z.1, by have := z.2; omega, by have := z.2; omega⟩⟩
  have h1 := step (7 * k) (7 * k) (by omega)
  have h2 := step (7 * k) (7 * k + 1) (by omega)
  have h3 := step (7 * k) (7 * k + 2) (by omega)
  have h4 := step (7 * k) (7 * k + 3) (by omega)
  have h5 := step (7 * k) (7 * k + 4) (by omega)
  have h6 := step (7 * k) (7 * k + 5) (by omega)
  have h7 : sz q = sz (fun t => q t ∧ 7 * k ≤ t / 86400 ∧ t / 86400 ≤ 7 * k + 5 + 1) := sz_congr fun t a _ => ⟨fun z => ⟨z, day_week (h t a z)⟩, fun z => z.1⟩
  rw [show (7 * k + 1 + 1 : Int) = 7 * k + 2 by omega] at h2
  rw [show (7 * k + 2 + 1 : Int) = 7 * k + 3 by omega] at h3
  rw [show (7 * k + 3 + 1 : Int) = 7 * k + 4 by omega] at h4
  rw [show (7 * k + 4 + 1 : Int) = 7 * k + 5 by omega] at h5
  rw [show (7 * k + 5 + 1 : Int) = 7 * k + 6 by omega] at h6 h7
  rw [h0] at h1
  exact seven_sum h1 h2 h3 h4 h5 (h7.trans h6)
theorem seven_congr {f g : Int → Int} (h : ∀ d, f d = g d) (k : Int) : sevenI f k = sevenI g k := by unfold sevenI; rw [h, h, h, h, h, h, h]
theorem short_day {W : Int → Prop} {n d : Int} (hn : 0 ≤ n) : sz (onDay (shortS W n) d) = min n (sz (onDay W d)) := by
  rw [← sz_fst (p := onDay W d) hn]
  refine sz_congr fun t _ _ => ?_
  unfold onDay shortS
  constructor
  · rintro ⟨q1, q2⟩; rw [q2] at q1; exact q1
  · intro q
    have e : t / 86400 = d := q.1.2
    rw [e]; exact ⟨q, rfl⟩
theorem dbl_day {W : Int → Prop} {n d : Int} (hn : 0 ≤ n) : sz (onDay (dblS W n) d) = max 0 (sz (onDay W d) - n) := by
  have h1 := short_day (W := W) (n := n) (d := d) hn
  have h2 := sz_or (p := onDay (shortS W n) d) (q := onDay (dblS W n) d) (r := onDay W d) (fun t _ _ => ⟨by
    unfold onDay
    constructor
    · rintro ⟨q1, q2⟩
      by_cases e : shortS W n t
      · exact .inl ⟨e, q2⟩
      · exact .inr ⟨⟨q1, e⟩, q2⟩
    · rintro (q | q)
      · exact ⟨short_in q.1, q.2⟩
      · exact ⟨q.1.1, q.2⟩, fun ⟨q1, q2⟩ => q2.1.2 q1.1⟩)
  omega
theorem sz_short {W : Int → Prop} {n k : Int} (hn : 0 ≤ n) (hk : 0 ≤ k) (h : ∀ t, 0 ≤ t → W t → t / 604800 = k) : sz (shortS W n) = sevenI (fun d => min n (sz (onDay W d))) k :=
  (sz_seven hk fun t a q => h t a (short_in q)).trans (seven_congr (fun d => short_day hn) k)
theorem sz_dbl {W : Int → Prop} {n k : Int} (hn : 0 ≤ n) (hk : 0 ≤ k) (h : ∀ t, 0 ≤ t → W t → t / 604800 = k) : sz (dblS W n) = sevenI (fun d => max 0 (sz (onDay W d) - n)) k :=
  (sz_seven hk fun t a q => h t a q.1).trans (seven_congr (fun d => dbl_day hn) k)
theorem sz_reg {W : Int → Prop} {r v : Int} (hv : 0 ≤ v) : sz (regS W r v) = min v (sz (shortS W r)) := sz_fst hv
/-! ### The first seconds of a week -/
theorem fst_cut {p p' : Int → Prop} {n X : Int} (h : ∀ t, 0 ≤ t → t < 32054400 → (p' t ↔ p t ∧ t < X)) {t : Int} (h0 : 0 ≤ t) (h1 : t < 32054400) : fstS p' n t ↔ fstS p n t ∧ t < X := by
  unfold fstS
  rw [h t h0 h1]
  constructor
  · rintro ⟨⟨q1, q2⟩, q3⟩
    rw [cnt_congr (q := p) (fun u a b => by rw [h u a (by omega)]; exact ⟨fun z => z.1, fun z => ⟨z, by omega⟩⟩)] at q3
    exact ⟨⟨q1, q3⟩, q2⟩
  · rintro ⟨⟨q1, q3⟩, q2⟩
    refine ⟨⟨q1, q2⟩, ?_⟩
    rw [cnt_congr (q := p) (fun u a b => by rw [h u a (by omega)]; exact ⟨fun z => z.1, fun z => ⟨z, by omega⟩⟩)]
    exact q3
section
variable {W W' : Int → Prop} {r o v X : Int}
theorem short_cut (h : ∀ t, 0 ≤ t → t < 32054400 → (W' t ↔ W t ∧ t < X)) {n t : Int} (h0 : 0 ≤ t) (h1 : t < 32054400) : shortS W' n t ↔ shortS W n t ∧ t < X := by
  unfold shortS
  exact fst_cut (p := onDay W (t / 86400)) (p' := onDay W' (t / 86400)) (fun u a b => by
    unfold onDay
    rw [h u a b]
    exact ⟨fun q => ⟨⟨q.1.1, q.2⟩, q.1.2⟩, fun q => ⟨⟨q.1.1, q.2⟩, q.1.2⟩⟩) h0 h1
theorem reg_cut (h : ∀ t, 0 ≤ t → t < 32054400 → (W' t ↔ W t ∧ t < X)) {t : Int} (h0 : 0 ≤ t) (h1 : t < 32054400) : regS W' r v t ↔ regS W r v t ∧ t < X :=
  fst_cut (fun u a b => short_cut h a b) h0 h1
theorem ovr_cut (h : ∀ t, 0 ≤ t → t < 32054400 → (W' t ↔ W t ∧ t < X)) {t : Int} (h0 : 0 ≤ t) (h1 : t < 32054400) : ovrS W' r o v t ↔ ovrS W r o v t ∧ t < X := by
  unfold ovrS
  rw [short_cut h h0 h1, short_cut h h0 h1, reg_cut h h0 h1]
  constructor
  · rintro (⟨⟨a, b⟩, c⟩ | ⟨⟨a, b⟩, c⟩)
    · exact ⟨.inl ⟨a, fun z => c ⟨z, b⟩⟩, b⟩
    · exact ⟨.inr ⟨a, fun z => c ⟨z, b⟩⟩, b⟩
  · rintro ⟨⟨a, c⟩ | ⟨a, c⟩, b⟩
    · exact .inl ⟨⟨a, b⟩, fun z => c z.1⟩
    · exact .inr ⟨⟨a, b⟩, fun z => c z.1⟩
theorem dbl_cut (h : ∀ t, 0 ≤ t → t < 32054400 → (W' t ↔ W t ∧ t < X)) {t : Int} (h0 : 0 ≤ t) (h1 : t < 32054400) : dblS W' o t ↔ dblS W o t ∧ t < X := by
  unfold dblS
  rw [short_cut h h0 h1, h t h0 h1]
  constructor
  · rintro ⟨⟨a, b⟩, c⟩; exact ⟨⟨a, fun z => c ⟨z, b⟩⟩, b⟩
  · rintro ⟨⟨a, c⟩, b⟩; exact ⟨⟨a, b⟩, fun z => c z.1⟩
end
end Go.Proofs.YthdolmhnjinlhaaGreat
