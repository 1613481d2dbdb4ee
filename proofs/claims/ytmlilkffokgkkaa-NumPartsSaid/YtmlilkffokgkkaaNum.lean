/-
  The contracts of package num's functions: what each call answers, at every input; the world is left as it was, but for draws.
-/
import Derived.Test.YtmlilkffokgkkaaProg
import Derived.Test.YtmlilkffokgkkaaPlain
import Derived.Test.YtmlilkffokgkkaaBase
import Derived.WalkKit
import Derived.WalkLawsBesides
import Derived.Below
import Derived.RegionTactic
import Derived.Deep.QuietTactic
import Derived.BigQuiet
import Derived.Lib.Hide
import Derived.IntWalk
namespace Go.Proofs.Ytmlilkffokgkkaa
open Go.RowKit

theorem floor_pos (a b : Int) (w : World) (ha : -9223372036854775808 ≤ a) (ha' : a ≤ 9223372036854775807) (hb : 0 < b) (hb' : b ≤ 9223372036854775807) :
    Calls Try.prog 23 #[.int .i64 a, .int .i64 b] w fun e w' => e = .returned (.tuple #[.int .i64 (a / b), .int .i64 (a % b)]) ∧ ∃ n, w' = w.drewN n := by
  have l1 := Int.lt_tmod_of_pos a hb
  have l2 := Int.tmod_lt_of_pos a hb
  by_cases h : 0 ≤ a.tmod b
  · go_enter Try.func23, Try.ntmps23
    go_wp2
    go_quiet (fail)
    go_wp2
    go_ret2
    exact ⟨ret_two (tdiv_pos hb h).1 (tdiv_pos hb h).2, _, rfl⟩
  · have h' : a.tmod b < 0 := by omega
    have hd := tdiv_bd (a := a) (b := b) (by omega) ha ha'
    clear h
    go_enter Try.func23, Try.ntmps23
    go_wp2
    go_quiet (fail)
    go_wp2
    go_ret2
    exact ⟨ret_two (tdiv_neg hb h').1 (tdiv_neg hb h').2, _, rfl⟩

theorem div_zero (a b : Int) (w : World) (hb : b ≤ 0) :
    Calls Try.prog 14 #[.int .i64 a, .int .i64 b] w fun e w' => e = .returned (.tuple #[.int .i64 0, .int .i64 20]) ∧ ∃ n, w' = w.drewN n := by
  go_enter Try.func14, Try.ntmps14
  go_wp2
  go_ret2
  exact ⟨rfl, 0, rfl⟩

theorem div_pos (a b : Int) (w : World) (ha : -9223372036854775808 ≤ a) (ha' : a ≤ 9223372036854775807) (hb : 0 < b) (hb' : b ≤ 9223372036854775807) :
    Calls Try.prog 14 #[.int .i64 a, .int .i64 b] w fun e w' => e = .returned (.tuple #[.int .i64 (a / b), .int .i64 0]) ∧ ∃ n, w' = w.drewN n := by
  go_enter Try.func14, Try.ntmps14
  go_wp2_with (go_at_call 23; refine (floor_pos _ _ _ ha ha' hb hb').mono ?_; rintro e w' ⟨rfl, n, rfl⟩)
  go_ret2
  exact ⟨rfl, n, rfl⟩

theorem up_zero (a b : Int) (w : World) (hb : b ≤ 0) :
    Calls Try.prog 18 #[.int .i64 a, .int .i64 b] w fun e w' => e = .returned (.tuple #[.int .i64 0, .int .i64 20]) ∧ ∃ n, w' = w.drewN n := by
  go_enter Try.func18, Try.ntmps18
  go_wp2
  go_ret2
  exact ⟨rfl, 0, rfl⟩

def upV (a b : Int) : Int := if 0 < a % b then a / b + 1 else a / b
def halfV (a b : Int) : Int := if b - a % b ≤ a % b then a / b + 1 else a / b

theorem up_pos (a b : Int) (w : World) (ha : -9223372036854775808 ≤ a) (ha' : a ≤ 9223372036854775807) (hb : 0 < b) (hb' : b ≤ 9223372036854775807) :
    Calls Try.prog 18 #[.int .i64 a, .int .i64 b] w fun e w' => e = .returned (.tuple #[.int .i64 (upV a b), .int .i64 0]) ∧ ∃ n, w' = w.drewN n := by
  have l1 := Int.emod_nonneg a (show b ≠ 0 by omega)
  have l2 := Int.emod_lt_of_pos a hb
  by_cases h : 0 < a % b
  · have hd := ediv_top (a := a) (b := b) (by omega) ha ha'
    have H := Lib.hid (show upV a b = a / b + 1 from if_pos h)
    go_enter Try.func18, Try.ntmps18
    go_wp2_with (go_at_call 23; refine (floor_pos _ _ _ ha ha' hb hb').mono ?_; rintro e w' ⟨rfl, n, rfl⟩)
    go_ret2
    exact ⟨ret_two H.out.symm rfl, n, rfl⟩
  · have hd := ediv_bd (a := a) (b := b) (by omega) ha ha'
    have H := Lib.hid (show upV a b = a / b from if_neg h)
    go_enter Try.func18, Try.ntmps18
    go_wp2_with (go_at_call 23; refine (floor_pos _ _ _ ha ha' hb hb').mono ?_; rintro e w' ⟨rfl, n, rfl⟩)
    go_ret2
    exact ⟨ret_two H.out.symm rfl, n, rfl⟩

theorem half_zero (a b : Int) (w : World) (hb : b ≤ 0) :
    Calls Try.prog 16 #[.int .i64 a, .int .i64 b] w fun e w' => e = .returned (.tuple #[.int .i64 0, .int .i64 20]) ∧ ∃ n, w' = w.drewN n := by
  go_enter Try.func16, Try.ntmps16
  go_wp2
  go_ret2
  exact ⟨rfl, 0, rfl⟩

theorem half_pos (a b : Int) (w : World) (ha : -9223372036854775808 ≤ a) (ha' : a ≤ 9223372036854775807) (hb : 0 < b) (hb' : b ≤ 9223372036854775807) :
    Calls Try.prog 16 #[.int .i64 a, .int .i64 b] w fun e w' => e = .returned (.tuple #[.int .i64 (halfV a b), .int .i64 0]) ∧ ∃ n, w' = w.drewN n := by
  have l1 := Int.emod_nonneg a (show b ≠ 0 by omega)
  have l2 := Int.emod_lt_of_pos a hb
  by_cases h : b - a % b ≤ a % b
  · have hd := ediv_top (a := a) (b := b) (by omega) ha ha'
    have H := Lib.hid (show halfV a b = a / b + 1 from if_pos h)
    go_enter Try.func16, Try.ntmps16
    go_wp2_with (go_at_call 23; refine (floor_pos _ _ _ ha ha' hb hb').mono ?_; rintro e w' ⟨rfl, n, rfl⟩)
    go_ret2
    exact ⟨ret_two H.out.symm rfl, n, rfl⟩
  · have hd := ediv_bd (a := a) (b := b) (by omega) ha ha'
    have H := Lib.hid (show halfV a b = a / b from if_neg h)
    go_enter Try.func16, Try.ntmps16
    go_wp2_with (go_at_call 23; refine (floor_pos _ _ _ ha ha' hb hb').mono ?_; rintro e w' ⟨rfl, n, rfl⟩)
    go_ret2
    exact ⟨ret_two H.out.symm rfl, n, rfl⟩

theorem mul_nil (b : Int) (w : World) :
    Calls Try.prog 12 #[.int .i64 0, .int .i64 b] w fun e w' => e = .returned (.tuple #[.int .i64 0, .int .i64 0]) ∧ ∃ n, w' = w.drewN n := by
  go_enter Try.func12, Try.ntmps12
  go_wp2
  go_ret2
  exact ⟨rfl, 0, rfl⟩

theorem mul_in (a b : Int) (w : World) (h0 : a ≠ 0) (h1 : -9223372036854775808 ≤ a * b) (h2 : a * b ≤ 9223372036854775807) (hb : -9223372036854775808 ≤ b) (hb' : b ≤ 9223372036854775807) :
    Calls Try.prog 12 #[.int .i64 a, .int .i64 b] w fun e w' => e = .returned (.tuple #[.int .i64 (a * b), .int .i64 0]) ∧ ∃ n, w' = w.drewN n := by
  have hq : (a * b).tdiv a = b := Int.mul_tdiv_cancel_left b h0
  have g0 : (a == 0) = false := by simpa using h0
  by_cases hm : a = -1
  · subst hm
    have g1 : (b == -9223372036854775808) = false := by simp; omega
    go_enter Try.func12, Try.ntmps12
    go_wp2
    go_ret2
    exact ⟨ret_two (by omega) rfl, 0, rfl⟩
  · have g1 : (a == -1) = false := by simpa using hm
    clear hm
    go_enter Try.func12, Try.ntmps12
    go_wp2
    go_ret2
    exact ⟨rfl, 0, rfl⟩

theorem mul_over (a b : Int) (w : World) (ha : -9223372036854775808 ≤ a) (ha' : a ≤ 9223372036854775807) (hb : -9223372036854775808 ≤ b) (hb' : b ≤ 9223372036854775807) (h : a * b < -9223372036854775808 ∨ 9223372036854775807 < a * b) :
    Calls Try.prog 12 #[.int .i64 a, .int .i64 b] w fun e w' => e = .returned (.tuple #[.int .i64 0, .int .i64 10]) ∧ ∃ n, w' = w.drewN n := by
  have h0 : a ≠ 0 := by rintro rfl; simp at h
  have g0 : (a == 0) = false := by simpa using h0
  by_cases hm : a = -1
  · subst hm
    have hbl : b = -9223372036854775808 := by omega
    subst hbl
    clear h h0 g0 ha ha' hb hb'
    go_enter Try.func12, Try.ntmps12
    go_wp2
    go_ret2
    exact ⟨rfl, 0, rfl⟩
  · have g1 : (a == -1) = false := by simpa using hm
    obtain ⟨p, k, hk, hp, hl, hl', hw⟩ := wrap_over (a * b) h
    have hne := mul_back h0 ha ha' k hk hp
    have hbd := tdiv_in (a := a) (p := p) hm hl hl'
    have hbne : (p.tdiv a == b) = false := by simpa using hne
    have hbne' : (p.tdiv a != b) = true := by simpa using hne
    clear hp hk h hm hne
    go_enter Try.func12, Try.ntmps12
    go_wp2
    go_ret2
    exact ⟨rfl, 0, rfl⟩

def sideV (n : Int) : Int := if n = -9223372036854775808 then 4611686018427387904 else if n < 0 then -n else n
theorem sideV_bd (n : Int) (h : -9223372036854775808 ≤ n) (h' : n ≤ 9223372036854775807) : 0 ≤ sideV n ∧ sideV n ≤ 9223372036854775807 := by
  unfold sideV; split <;> (try split) <;> omega

theorem side_any (n : Int) (w : World) (h1 : -9223372036854775808 ≤ n) (h2 : n ≤ 9223372036854775807) :
    Calls Try.prog 24 #[.int .i64 n] w fun e w' => e = .returned (.int .i64 (sideV n)) ∧ w = w' := by
  by_cases h : n = -9223372036854775808
  · subst h
    clear h1 h2
    go_enter Try.func24, Try.ntmps24
    go_wp2
    go_ret
    exact ⟨rfl, rfl⟩
  · have g : (n == -9223372036854775808) = false := by simpa using h
    have H := Lib.hid (show sideV n = if n < 0 then -n else n from if_neg h)
    by_cases h0 : n < 0
    · go_enter Try.func24, Try.ntmps24
      go_wp2
      go_ret
      exact ⟨ret_one (by rw [H.out, if_pos h0]), rfl⟩
    · go_enter Try.func24, Try.ntmps24
      go_wp2
      go_ret
      exact ⟨ret_one (by rw [H.out, if_neg (by omega)]), rfl⟩

theorem gcd_step {c d : Nat} {g : Int} (h : (Nat.gcd c d : Int) = g) : Hid ((Nat.gcd d (c % d) : Int) = g) := by
  show _ = _
  rw [← h, Nat.gcd_comm d, ← Nat.gcd_rec, Nat.gcd_comm]

def gcdV (a b : Int) : Int := Nat.gcd (sideV a).toNat (sideV b).toNat

theorem gcd_any (a b : Int) (w : World) (ha : -9223372036854775808 ≤ a) (ha' : a ≤ 9223372036854775807) (hb : -9223372036854775808 ≤ b) (hb' : b ≤ 9223372036854775807) :
    Calls Try.prog 20 #[.int .i64 a, .int .i64 b] w fun e w' => e = .returned (.int .i64 (gcdV a b)) ∧ ∃ n, w' = w.drewN n := by
  obtain ⟨p0, p1⟩ := sideV_bd a ha ha'
  obtain ⟨q0, q1⟩ := sideV_bd b hb hb'
  go_enter Try.func20, Try.ntmps20
  go_wp2_with fail
  refine (side_any _ _ ha ha').mono ?_
  rintro e w' ⟨rfl, rfl⟩
  go_wp2_with fail
  refine (side_any _ _ hb hb').mono ?_
  rintro e w' ⟨rfl, rfl⟩
  go_wp2
  go_loopw [0, 1] (fun x y wr => ∃ (c d n : Nat), c ≤ 9223372036854775807 ∧ d ≤ 9223372036854775807 ∧ x = .int .i64 c ∧ y = .int .i64 d ∧ Hid ((Nat.gcd c d : Int) = gcdV a b) ∧ wr = w.drewN n) (fun _ y _ => (intOf y).toNat)
  case atStart => exact ⟨(sideV a).toNat, (sideV b).toNat, 0, by omega, by omega, by rw [Int.toNat_of_nonneg p0], by rw [Int.toNat_of_nonneg q0], rfl, rfl⟩
  case round =>
    obtain ⟨c, d, n, hc, hd, rfl, rfl, hg, rfl⟩ := hrel
    by_cases h : d = 0
    · subst h
      go_wp2
      go_ret
      exact ⟨ret_one (by rw [← hg.out, Nat.gcd_zero_right]), n, rfl⟩
    · have hne : ((d : Int) != 0) = true := by simp; omega
      have hdp : 0 < d := by omega
      go_wp2
      go_quiet (fail)
      go_wp2
      go_roundw
      case rel => exact ⟨d, c % d, _, by omega, by have := Nat.mod_lt c hdp; omega, rfl, rfl, gcd_step hg.out, World.drewN_drewN _ _ _⟩
      case measure => simp [intOf]; have := Nat.mod_lt c hdp; omega

/-- A slice value over A reads as the numbers xs. -/
def Ints (w : World) (A : Option Addr) (xs : List Int) : Prop :=
  ∀ k, k < xs.length → ∃ b off, A = some ⟨b, off, none⟩ ∧ w.cell? ⟨b, off + k, none⟩ = some (.int .i64 (xs.getD k 0)) ∧ -9223372036854775808 ≤ xs.getD k 0 ∧ xs.getD k 0 ≤ 9223372036854775807

def sumGo : Int → List Int → Option Int
  | s, [] => some s
  | s, x :: l => if -9223372036854775808 ≤ s + x ∧ s + x ≤ 9223372036854775807 then sumGo (s + x) l else none
def sumV (l : List Int) : Int := (sumGo 0 l).getD 0
def sumC (l : List Int) : Int := if (sumGo 0 l).isSome then 0 else 10

theorem sumGo_append (s : Int) (l m : List Int) : sumGo s (l ++ m) = (sumGo s l).bind fun t => sumGo t m := by
  induction l generalizing s with
  | nil => rfl
  | cons x l ih =>
    simp only [List.cons_append, sumGo]
    split
    · exact ih _
    · rfl
theorem sumGo_bd (s t : Int) (l : List Int) (h : sumGo s l = some t) (h1 : -9223372036854775808 ≤ s) (h2 : s ≤ 9223372036854775807) : -9223372036854775808 ≤ t ∧ t ≤ 9223372036854775807 := by
  induction l generalizing s with
  | nil => simp [sumGo] at h; omega
  | cons x l ih =>
    simp only [sumGo] at h
    split at h
    · exact ih _ h (by omega) (by omega)
    · cases h
theorem take_snoc (xs : List Int) (k : Nat) (h : k < xs.length) : xs.take (k + 1) = xs.take k ++ [xs.getD k 0] := by
  rw [List.take_succ_eq_append_getElem h]; simp [List.getD, h]
theorem sumGo_snoc (xs : List Int) (k : Nat) (h : k < xs.length) (s : Int) (hs : sumGo 0 (xs.take k) = some s) (h1 : -9223372036854775808 ≤ s + xs.getD k 0) (h2 : s + xs.getD k 0 ≤ 9223372036854775807) :
    sumGo 0 (xs.take (k + 1)) = some (s + xs.getD k 0) := by
  rw [take_snoc xs k h, sumGo_append, hs]; simp only [Option.bind_some, sumGo]; rw [if_pos ⟨h1, h2⟩]
theorem sumGo_over (xs : List Int) (k : Nat) (h : k < xs.length) (s : Int) (hs : sumGo 0 (xs.take k) = some s) (hov : s + xs.getD k 0 < -9223372036854775808 ∨ 9223372036854775807 < s + xs.getD k 0) :
    sumGo 0 xs = none := by
  rw [← List.take_append_drop (k + 1) xs, sumGo_append, take_snoc xs k h, sumGo_append, hs]
  simp only [Option.bind_some, sumGo]
  rw [if_neg (by omega)]; rfl

set_option maxHeartbeats 400000 in
theorem sum_any (A : Option Addr) (cap : Nat) (xs : List Int) (w : World) (hx : Ints w A xs) (hl : xs.length ≤ 9223372036854775807) :
    Calls Try.prog 10 #[.slice A xs.length cap] w fun e w' => e = .returned (.tuple #[.int .i64 (sumV xs), .int .i64 (sumC xs)]) ∧ w = w' := by
  have HX := Lib.hid hx
  clear hx
  go_enter Try.func10, Try.ntmps10
  go_wp2
  go_step3
  go_wp2
  go_step3
  go_wp2
  go_loop [4, 5, 11] (fun s e i => ∃ (k : Nat) (n : Int), k ≤ xs.length ∧ i = .int .i64 k ∧ e = .int .i64 0 ∧ s = .int .i64 n ∧ -9223372036854775808 ≤ n ∧ n ≤ 9223372036854775807 ∧ Hid (sumGo 0 (xs.take k) = some n)) (fun _ _ i => xs.length - (intOf i).toNat)
  case atStart => exact ⟨0, 0, Nat.zero_le _, rfl, rfl, rfl, by omega, by omega, rfl⟩
  case round =>
    obtain ⟨k, n, hk, rfl, rfl, rfl, hn1, hn2, hs⟩ := hrel
    by_cases hlt : k < xs.length
    · obtain ⟨b, off, rfl, hc, hb1, hb2⟩ := HX.out k hlt
      generalize hx : xs.getD k 0 = x at *
      have HX2 := Lib.hid hx
      clear hx
      have hc' : w.cell? ⟨b, off + k, none⟩ = some (.int .i64 x) := hc
      by_cases hov : -9223372036854775808 ≤ n + x ∧ n + x ≤ 9223372036854775807
      · obtain ⟨o1, o2⟩ := hov
        have hs' : Hid (sumGo 0 (xs.take (k + 1)) = some (n + x)) := by
          rw [← HX2.out] at o1 o2 ⊢
          exact sumGo_snoc xs k hlt n hs.out o1 o2
        go_wp2
        all_goals
          go_round
          case rel => exact ⟨k + 1, n + x, by omega, by go_num, rfl, rfl, o1, o2, hs'⟩
          case measure => simp [intOf]; omega
      · have hnone : Hid (sumGo 0 xs = none) := sumGo_over xs k hlt n hs.out (by rw [HX2.out]; omega)
        obtain ⟨p, j, hj, hp, hp1, hp2, hw⟩ := wrap_over (n + x) (by omega)
        have hpn : (0 < x ∧ p < n) ∨ (x < 0 ∧ n < p) := by omega
        clear hov hp hj
        rcases hpn with ⟨y1, y2⟩ | ⟨y1, y2⟩
        all_goals
          go_wp2
          try rw [Exit.noGoto_ret]
          go_ret2
          exact ⟨ret_two (by unfold sumV; rw [hnone.out]; rfl) (by unfold sumC; rw [hnone.out]; rfl), rfl⟩
    · have hk' : k = xs.length := by omega
      subst hk'
      have hs' := hs.out
      rw [List.take_length] at hs'
      have HS := Lib.hid hs'
      clear hs hs'
      go_wp2
      go_ret2
      exact ⟨ret_two (by unfold sumV; rw [HS.out]; rfl) (by unfold sumC; rw [HS.out]; rfl), rfl⟩

end Go.Proofs.Ytmlilkffokgkkaa
