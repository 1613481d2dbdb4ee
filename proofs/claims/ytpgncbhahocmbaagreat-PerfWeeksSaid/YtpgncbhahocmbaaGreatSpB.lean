/-
  The contracts of package span's functions, continued: rising.
-/
import Derived.Test.YtpgncbhahocmbaaGreatSpSort
import Derived.Deep.RegionWith
namespace Go.Proofs.YtpgncbhahocmbaaGreat
open Go.RowKit
set_option linter.unusedVariables false

theorem ret_slice {A : Option Addr} {a b c : Nat} (h : a = b) : Ending.returned (.slice A a c) = .returned (.slice A b c) := by rw [h]
/-- What a span has of all time, if that is anything. -/
def clip (s : Int × Int) : List (Int × Int) := if max s.1 0 < min s.2 32054400 then [(max s.1 0, min s.2 32054400)] else []
def keptL (l : List (Int × Int)) : List (Int × Int) := l.flatMap clip
theorem keptL_snoc (xs : List (Int × Int)) (k : Nat) (h : k < xs.length) : keptL (xs.take (k + 1)) = keptL (xs.take k) ++ clip (xs.getD k (0, 0)) := by
  unfold keptL
  rw [List.take_succ_eq_append_getElem h, List.flatMap_append]
  simp [List.getD, h]
theorem clip_len (s : Int × Int) : (clip s).length ≤ 1 := by unfold clip; split <;> simp
theorem keptL_len : ∀ l : List (Int × Int), (keptL l).length ≤ l.length
  | [] => by simp [keptL]
  | s :: l => by
    have := keptL_len l
    have := clip_len s
    simp only [keptL, List.flatMap_cons, List.length_append, List.length_cons] at *
    omega
theorem clip_ok (s x : Int × Int) (h : x ∈ clip s) : 0 ≤ x.1 ∧ x.1 < x.2 ∧ x.2 ≤ 32054400 := by
  unfold clip at h
  split at h
  · rw [List.mem_singleton.1 h]; simp only []; omega
  · cases h
theorem keptL_ok (l : List (Int × Int)) (x : Int × Int) (h : x ∈ keptL l) : 0 ≤ x.1 ∧ x.1 < x.2 ∧ x.2 ≤ 32054400 := by
  unfold keptL at h
  obtain ⟨s, _, hs⟩ := List.mem_flatMap.1 h
  exact clip_ok s x hs
theorem clip_in (s : Int × Int) (t : Int) : In (clip s) t ↔ 0 ≤ t ∧ t < 32054400 ∧ s.1 ≤ t ∧ t < s.2 := by
  unfold clip
  split
  · rw [in_one]; simp only []; omega
  · simp only [in_nil, false_iff]; omega
theorem keptL_in : ∀ (l : List (Int × Int)) (t : Int), In (keptL l) t ↔ 0 ≤ t ∧ t < 32054400 ∧ In l t
  | [], t => by simp [keptL, in_nil]
  | s :: l, t => by
    have e : keptL (s :: l) = clip s ++ keptL l := rfl
    rw [e, in_append, clip_in, keptL_in l t, in_cons]
    constructor
    · rintro (⟨a, b, c⟩ | ⟨a, b, c⟩)
      · exact ⟨a, b, .inl c⟩
      · exact ⟨a, b, .inr c⟩
    · rintro ⟨a, b, c | c⟩
      · exact .inl ⟨a, b, c⟩
      · exact .inr ⟨a, b, c⟩
theorem keptL_fits (l : List (Int × Int)) : Fits (keptL l) := fun x hx => by
  have := keptL_ok l x hx
  exact ⟨⟨by omega, by omega⟩, ⟨by omega, by omega⟩⟩

/-- The spans ys rise, lie within all time, and have xs's seconds. -/
def Rises (xs ys : List (Int × Int)) : Prop := ys.Pairwise (fun x y => x.1 ≤ y.1) ∧ (∀ y ∈ ys, 0 ≤ y.1 ∧ y.1 < y.2 ∧ y.2 ≤ 32054400) ∧ ys.length ≤ xs.length ∧ ∀ t, In ys t ↔ 0 ≤ t ∧ t < 32054400 ∧ In xs t
theorem rises_kept {xs ys : List (Int × Int)} (hp : ys.Perm (keptL xs)) (hs : ys.Pairwise (fun x y => x.1 ≤ y.1)) : Rises xs ys :=
  ⟨hs, fun y hy => keptL_ok xs y (hp.mem_iff.1 hy), by rw [hp.length_eq]; exact keptL_len xs, fun t => by
    rw [← keptL_in]
    constructor
    · rintro ⟨s, h1, h2⟩; exact ⟨s, hp.mem_iff.1 h1, h2⟩
    · rintro ⟨s, h1, h2⟩; exact ⟨s, hp.mem_iff.2 h1, h2⟩⟩

def Told (w : World) (xs : List (Int × Int)) (e : Ending) (w' : World) : Prop := ∃ B d ys, e = .returned (.slice B ys.length d) ∧ Rises xs ys ∧ Spans w' B ys ∧ Below w.heap.size w w'

theorem rising_any (A : Option Addr) (cap : Nat) (xs : List (Int × Int)) (w : World) (hx : Spans w A xs) (hl : xs.length ≤ 100000000) :
    Calls Tryz.prog 103 #[.slice A xs.length cap] w (Told w xs) := by
  have HX := Lib.hid hx
  clear hx
  go_enter Tryz.func103, Tryz.ntmps103
  go_wp2
  go_loopw [3, 8] (fun s i wr => ∃ (k : Nat) (B : Option Addr) (d : Nat) (L : List (Int × Int)), k ≤ xs.length ∧ i = .int .i64 k ∧ s = .slice B L.length d ∧ L.length ≤ k ∧ Hid (L = keptL (xs.take k)) ∧ Row wr w.heap.size B d L ∧ Below w.heap.size w wr) (fun _ i _ => xs.length - (intOf i).toNat)
  case atStart => exact ⟨0, none, 0, [], Nat.zero_le _, rfl, rfl, Nat.le_refl _, rfl, Row.nil _ _, Below.refl _ _⟩
  case round =>
    obtain ⟨k, B, d, L, hk, rfl, rfl, hnk, hn, hr, hbw⟩ := hrel
    by_cases hlt : k < xs.length
    · obtain ⟨b, off, rfl, hblt, c1, c2⟩ := (HX.out.below hbw).2 k hlt
      have HF := HX.out.1.at hlt
      have HS := Lib.hid (keptL_snoc xs k hlt)
      have hne : ∀ g, B = some g → g.block ≠ wr.heap.size := fun g hg => by have := (hr.lt g hg).2; omega
      have HN := Lib.hid hne
      have hws := hbw.size
      clear hne
      generalize xs.getD k (0, 0) = z at *
      obtain ⟨p, q⟩ := z
      simp only [] at *
      go_wp2
      go_region_with (first
        | (go_at_call 133; refine (allTime_any _).mono ?_; rintro e w1 ⟨rfl, hb1⟩; have R1 : Has w1 wr.heap.size #[.int .i64 p, .int .i64 q] := Has.below (show Has _ _ _ by (repeat' (first | with_reducible assumption | ((with_reducible refine Has.new _ _ _ ?_); (first | (with_reducible rfl) | (simp; done))) | with_reducible refine Has.alloc ?_ _ | with_reducible refine Has.drewN ?_ _ | with_reducible refine Has.drew ?_))) hb1; have hr1 := Row.below (show Row _ w.heap.size B d L by (repeat' (first | with_reducible assumption | with_reducible refine Row.alloc ?_ _ | with_reducible refine Row.drewN ?_ _ | with_reducible refine Row.drew ?_))) hb1; obtain ⟨e0, e1, e2, e3⟩ := R1.two; have z1 := R1.size; replace hb1 := bel_on (show Below w.heap.size w _ by (repeat' (first | with_reducible exact Below.refl _ _ | with_reducible assumption | with_reducible refine bel_alloc ?_ _ | with_reducible refine bel_set ?_ ?_ _ | with_reducible refine below_drewN ?_ _ | with_reducible refine below_drew ?_ | (simp; done) | (simp; omega) | omega))) hb1)
        | (go_at_call 132; refine (common_any _ _ _ _ _).mono ?_; rintro e w2 ⟨rfl, hb2⟩; have R2 : Has w2 wr.heap.size #[.int .i64 p, .int .i64 q] := Has.below (show Has _ _ _ by (repeat' (first | with_reducible assumption | ((with_reducible refine Has.new _ _ _ ?_); (first | (with_reducible rfl) | (simp; done))) | with_reducible refine Has.alloc ?_ _ | with_reducible refine Has.drewN ?_ _ | with_reducible refine Has.drew ?_))) hb2; have hr2 := Row.below (show Row _ w.heap.size B d L by (repeat' (first | with_reducible assumption | with_reducible refine Row.alloc ?_ _ | with_reducible refine Row.drewN ?_ _ | with_reducible refine Row.drew ?_))) hb2; obtain ⟨e4, e5, e6, e7⟩ := R2.two; have z2 := R2.size; replace hb2 := bel_on (show Below w.heap.size w _ by (repeat' (first | with_reducible exact Below.refl _ _ | with_reducible assumption | with_reducible refine bel_alloc ?_ _ | with_reducible refine bel_set ?_ ?_ _ | with_reducible refine below_drewN ?_ _ | with_reducible refine below_drew ?_ | (simp; done) | (simp; omega) | omega))) hb2))
      all_goals
        have R3 := (R2.set 0 (.int .i64 (max p 0))).set 1 (.int .i64 (min q 32054400))
        have hr3 := (hr2.far (p := ⟨wr.heap.size, 0, none⟩) HN.out (.int .i64 (max p 0))).far (p := ⟨wr.heap.size, 1, none⟩) HN.out (.int .i64 (min q 32054400))
        have hb3 := bel_set (bel_set hb2 (p := ⟨wr.heap.size, 0, none⟩) hws (.int .i64 (max p 0))) (p := ⟨wr.heap.size, 1, none⟩) hws (.int .i64 (min q 32054400))
        clear R2 hr2 hb2 e4 e5 e6 e7 z2 R1 hr1 hb1 e0 e1 e2 e3 z1 c1 c2 hblt hr HN
        generalize (w2.setCell ⟨wr.heap.size, 0, none⟩ (.int .i64 (max p 0))).setCell ⟨wr.heap.size, 1, none⟩ (.int .i64 (min q 32054400)) = w3 at *
        replace R3 : Has w3 wr.heap.size #[.int .i64 (max p 0), .int .i64 (min q 32054400)] := R3
        obtain ⟨e0, e1, e2, e3⟩ := R3.two
        have z3 := R3.size
        have hws3 := hb3.size
        by_cases hc : max p 0 < min q 32054400
        · have HC := Lib.hid (show clip (p, q) = [(max p 0, min q 32054400)] by unfold clip; rw [if_pos hc])
          obtain ⟨B', d', w4, hrun, hr4, hb4, hz4, _, _⟩ := row_push hr3 (max p 0) (min q 32054400) (by omega) hws3 rfl
          have HR := Lib.hid hrun
          have hb5 := hb4 w (Nat.le_refl _) hb3
          clear hrun hb4
          go_wp2_with (at_builtin; refine wpList_append_run HR.out rfl rfl rfl rfl ?_)
          go_roundw
          case rel => exact ⟨k + 1, B', d', _, by omega, by go_num, by rw [List.length_append]; rfl, by simp; omega, by show _ = _; rw [HS.out, HC.out, hn.out], hr4, hb5⟩
          case measure => simp [intOf]; omega
        · have HC := Lib.hid (show clip (p, q) = [] by unfold clip; rw [if_neg hc])
          go_wp2
          go_roundw
          case rel => exact ⟨k + 1, B, d, L, by omega, by go_num, rfl, by omega, by show _ = _; rw [HS.out, HC.out, hn.out, List.append_nil], hr3, hb3⟩
          case measure => simp [intOf]; omega
    · obtain rfl : k = xs.length := by omega
      have hn' := hn.out
      rw [List.take_length] at hn'
      have HN := Lib.hid hn'
      have hfit : Fits L := by rw [hn']; exact keptL_fits xs
      clear hn hn'
      go_wp2_with fail
      refine (sort_any B d w.heap.size L wr hr hfit (by omega)).mono ?_
      rintro e w2 ⟨rfl, ys, hp, hs, hsp, hb⟩
      have HB := Lib.hid (hb w (Nat.le_refl _) hbw)
      have HP := Lib.hid hp
      have HQ := Lib.hid hs
      have hlen : L.length = ys.length := hp.length_eq.symm
      have HL := Lib.hid hlen
      clear hb hp hs hlen
      go_wp2
      go_ret
      exact ⟨B, d, ys, ret_slice HL.out, rises_kept (by rw [← HN.out]; exact HP.out) HQ.out, hsp, HB.out⟩
end Go.Proofs.YtpgncbhahocmbaaGreat
