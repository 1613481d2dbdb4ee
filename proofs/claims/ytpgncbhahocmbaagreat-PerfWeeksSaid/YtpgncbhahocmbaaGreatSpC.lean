/-
  The contracts of package span's functions, continued: Norm.
-/
import Derived.Test.YtpgncbhahocmbaaGreatSpB
import Derived.Deep.QuietTactic
import Derived.BigQuiet
namespace Go.Proofs.YtpgncbhahocmbaaGreat
open Go.RowKit
set_option linter.unusedVariables false

theorem in_take (ys : List (Int × Int)) (k : Nat) (h : k < ys.length) (t : Int) : In (ys.take (k + 1)) t ↔ In (ys.take k) t ∨ ((ys.getD k (0, 0)).1 ≤ t ∧ t < (ys.getD k (0, 0)).2) := by
  rw [List.take_succ_eq_append_getElem h, in_append, in_one]
  simp [List.getD, h]
theorem rises_at {xs ys : List (Int × Int)} (h : Rises xs ys) {k : Nat} (hk : k < ys.length) : 0 ≤ (ys.getD k (0, 0)).1 ∧ (ys.getD k (0, 0)).1 < (ys.getD k (0, 0)).2 ∧ (ys.getD k (0, 0)).2 ≤ 32054400 := h.2.1 _ (by simp [List.getD, hk])
theorem rises_le {xs ys : List (Int × Int)} (h : Rises xs ys) {k j : Nat} (hkj : k < j) (hj : j < ys.length) : (ys.getD k (0, 0)).1 ≤ (ys.getD j (0, 0)).1 := by
  have := (List.pairwise_iff_getElem.1 h.1) k j (by omega) hj hkj
  have hk : k < ys.length := by omega
  simpa [List.getD, hk, hj] using this

/-- How far Norm has come. -/
def NormAt (ys L : List (Int × Int)) (k : Nat) : Prop := ∃ a, Grown (In (ys.take k)) a L ∧ ∀ j, k ≤ j → j < ys.length → a ≤ (ys.getD j (0, 0)).1
theorem normAt_push {xs ys L : List (Int × Int)} {k : Nat} (hr : Rises xs ys) (hk : k < ys.length) (h : NormAt ys L k) (hl : ∀ x ∈ L, x.2 < (ys.getD k (0, 0)).1) : NormAt ys (L ++ [ys.getD k (0, 0)]) (k + 1) := by
  obtain ⟨a, hg, ha⟩ := h
  have hz := rises_at hr hk
  exact ⟨_, grown_snoc hg (ha k (Nat.le_refl _) hk) hz.1 hz.2.1 hz.2.2 hl (in_take ys k hk), fun j h1 h2 => rises_le hr (by omega) h2⟩
theorem normAt_last {xs ys L : List (Int × Int)} {r : Int × Int} {k : Nat} (hr : Rises xs ys) (hk : k < ys.length) (h : NormAt ys (L ++ [r]) k) (hl : (ys.getD k (0, 0)).1 ≤ r.2) : NormAt ys (L ++ [(r.1, max r.2 (ys.getD k (0, 0)).2)]) (k + 1) := by
  obtain ⟨a, hg, ha⟩ := h
  have hz := rises_at hr hk
  exact ⟨_, grown_last hg (ha k (Nat.le_refl _) hk) hz.2.1 hz.2.2 hl (in_take ys k hk), fun j h1 h2 => rises_le hr (by omega) h2⟩
theorem normAt_below {ys L : List (Int × Int)} {r : Int × Int} {k : Nat} (h : NormAt ys (L ++ [r]) k) {z : Int} (hz : r.2 < z) : ∀ x ∈ L ++ [r], x.2 < z := by
  obtain ⟨a, hg, ha⟩ := h
  obtain ⟨k1, k2, k3, k4, k5⟩ := plain_unsnoc hg.1
  intro x hx
  rcases List.mem_append.1 hx with hx | hx
  · have := k2 x hx; omega
  · rw [List.mem_singleton.1 hx]; exact hz
theorem normAt_end {xs ys L : List (Int × Int)} (hr : Rises xs ys) (h : NormAt ys L ys.length) : L = canon (In xs) := by
  obtain ⟨a, hg, ha⟩ := h
  refine canon_eq hg.1 (fun t => ?_)
  rw [hg.2.2, List.take_length, hr.2.2.2]
theorem set_snoc (i : List (Int × Int)) (r z : Int × Int) : (i ++ [r]).set i.length z = i ++ [z] := by simp
theorem getD_snoc (i : List (Int × Int)) (r : Int × Int) : (i ++ [r]).getD i.length (0, 0) = r := by simp [List.getD]

theorem norm_any (A : Option Addr) (cap : Nat) (xs : List (Int × Int)) (w : World) (hx : Spans w A xs) (hl : xs.length ≤ 100000000) :
    Calls Tryz.prog 56 #[.slice A xs.length cap] w (Gives w (canon (In xs))) := by
  go_enter Tryz.func56, Tryz.ntmps56
  go_wp2_with fail
  refine (rising_any A cap xs w hx hl).mono ?_
  rintro e w1 ⟨D, dc, ys, rfl, hri, hsp, hb1⟩
  have HS := Lib.hid hsp
  have HR := Lib.hid hri
  have hyl : ys.length ≤ 100000000 := Nat.le_trans hri.2.2.1 hl
  clear hx hsp hri
  go_wp2
  go_loopw [3, 10] (fun s i wr => ∃ (k : Nat) (B : Option Addr) (d : Nat) (L : List (Int × Int)), k ≤ ys.length ∧ i = .int .i64 k ∧ s = .slice B L.length d ∧ L.length ≤ k ∧ Hid (NormAt ys L k) ∧ Row wr w1.heap.size B d L ∧ Below w1.heap.size w1 wr) (fun _ i _ => ys.length - (intOf i).toNat)
  case atStart => exact ⟨0, none, 0, [], Nat.zero_le _, rfl, rfl, Nat.le_refl _, ⟨0, ⟨trivial, by simp, fun u => by simp [in_nil]⟩, fun j _ h => (rises_at HR.out h).1⟩, Row.nil _ _, Below.refl _ _⟩
  case round =>
    obtain ⟨k, B, d, L, hk, rfl, rfl, hnk, hn, hr, hbw⟩ := hrel
    by_cases hlt : k < ys.length
    · obtain ⟨b, off, rfl, hblt, c1, c2⟩ := (HS.out.below hbw).2 k hlt
      have HZ := rises_at HR.out hlt
      have hws := hbw.size
      have P1 := Lib.hid (fun h => normAt_push HR.out hlt hn.out h)
      have P2 := Lib.hid (fun (i : List (Int × Int)) r (e : L = i ++ [r]) h => normAt_last HR.out hlt (e ▸ hn.out) h)
      generalize ys.getD k (0, 0) = z at *
      obtain ⟨p, q⟩ := z
      simp only [] at HZ c1 c2 P2
      have R0 : Has (wr.alloc (.cells #[.int .i64 p, .int .i64 q] 95)) wr.heap.size #[.int .i64 p, .int .i64 q] := Has.new _ _ _ rfl
      have hr0 := hr.alloc (.cells #[.int .i64 p, .int .i64 q] 95)
      have hb0 := bel_alloc hbw (.cells #[.int .i64 p, .int .i64 q] 95)
      by_cases hL : L = []
      · subst hL
        simp only [List.length_nil] at *
        go_wp2
        go_quiet (fail)
        obtain ⟨B', d', w4, hrun, hr4, hb4, hz4, _, _⟩ := row_push (hr0.drewN nq) p q (by simp) (by simp; omega) (s := wr.heap.size + 1) (by simp)
        have HU := Lib.hid hrun
        have hb5 := hb4 w1 (Nat.le_refl _) (below_drewN hb0 nq)
        clear hrun hb4
        go_wp2_with (at_builtin; refine wpList_append_run HU.out rfl rfl rfl rfl ?_)
        go_roundw
        case rel => exact ⟨k + 1, B', d', _, by omega, by go_num, rfl, by simp, P1.out (by simp), hr4, hb5⟩
        case measure => simp [intOf]; omega
      · obtain ⟨i, ⟨ra, rb⟩, rfl⟩ : ∃ i r, L = i ++ [r] := ⟨L.dropLast, L.getLast hL, (List.dropLast_concat_getLast hL).symm⟩
        obtain ⟨g, rfl⟩ := hr.form (by simp)
        obtain ⟨f1, f2⟩ := hr.cellAt (k := i.length) (by simp)
        rw [getD_snoc] at f1 f2
        have f3 := hr.frozenAt (i.length * 2 + 1)
        have hglt : w1.heap.size ≤ g ∧ g < wr.heap.size := hr.lt _ rfl
        have P3 := Lib.hid (fun h => P1.out (normAt_below hn.out h))
        have P4 := Lib.hid (P2.out i (ra, rb) rfl)
        have hset := hr0.set (k := i.length) (by simp) (max rb q)
        rw [getD_snoc, set_snoc] at hset
        have HT := Lib.hid hset
        have hgne : g ≠ wr.heap.size := by omega
        clear P1 P2 hset
        simp only [List.length_append, List.length_cons, List.length_nil, Nat.zero_add] at *
        have hd : decide ((i.length : Int) < 0) = false := by simp
        have h0 : (0 : Int) ≤ (i.length : Int) := by omega
        by_cases hc : rb < p
        · go_wp2
          go_quiet (fail)
          obtain ⟨B', d', w4, hrun, hr4, hb4, hz4, _, _⟩ := row_push (hr0.drewN nq) p q (by simp; omega) (by simp; omega) (s := wr.heap.size + 1) (by simp)
          simp only [List.length_append, List.length_cons, List.length_nil, Nat.zero_add] at hrun
          have HU := Lib.hid hrun
          have hb5 := hb4 w1 (Nat.le_refl _) (below_drewN hb0 nq)
          clear hrun hb4
          go_wp2_with (at_builtin; refine wpList_append_run HU.out rfl rfl rfl rfl ?_)
          go_roundw
          case rel => exact ⟨k + 1, B', d', _, by omega, by go_num, by simp, by simp; omega, P3.out hc, hr4, hb5⟩
          case measure => simp [intOf]; omega
        · go_wp2
          go_quiet (fail)
          go_wp2
          go_region
          go_wp2
          go_roundw
          case rel => exact ⟨k + 1, _, d, i ++ [(ra, max rb q)], by omega, by go_num, by simp, by simp; omega, P4.out (by omega), HT.out, bel_set (below_drew (below_drewN hb0 nq)) (p := ⟨g, i.length * 2 + 1, none⟩) hglt.1 _⟩
          case measure => simp [intOf]; omega
    · obtain rfl : k = ys.length := by omega
      have HE := Lib.hid (normAt_end HR.out hn.out)
      go_wp2
      go_ret
      exact gives_of (hr.mono hb1.size) HE.out rfl (bel_on hb1 hbw)
end Go.Proofs.YtpgncbhahocmbaaGreat
