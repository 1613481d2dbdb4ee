/-
  The contracts of package num's functions: what each call answers, at every input; the world is left as it was, but for draws.
  What follows of sessions: near an event, clocks, flags, rounding, the order of events. No program here.
-/
import Derived.Test.YtbijaaglmhoopaaProg
import Derived.Test.YtbijaaglmhoopaaZaa
import Derived.WalkKit
import Derived.WalkLawsBesides
import Derived.Below
import Derived.RegionTactic
import Derived.Deep.QuietTactic
import Derived.BigQuiet
import Derived.Lib.Hide
import Derived.IntWalk
import Derived.Test.YtbijaaglmhoopaaZae
namespace Go.Proofs.Ytbijaaglmhoopaa
open Go.RowKit

theorem floor_pos (a b : Int) (w : World) (ha : -9223372036854775808 ≤ a) (ha' : a ≤ 9223372036854775807) (hb : 0 < b) (hb' : b ≤ 9223372036854775807) :
    Calls Try.prog 55 #[.int .i64 a, .int .i64 b] w fun e w' => e = .returned (.tuple #[.int .i64 (a / b), .int .i64 (a % b)]) ∧ ∃ n, w' = w.drewN n := by
  have l1 := Int.lt_tmod_of_pos a hb
  have l2 := Int.tmod_lt_of_pos a hb
  by_cases h : 0 ≤ a.tmod b
  · go_enter Try.func55, Try.ntmps55
    go_wp2
    go_quiet (fail)
    go_wp2
    go_ret2
    exact ⟨ret_two (tdiv_pos hb h).1 (tdiv_pos hb h).2, _, rfl⟩
  · have h' : a.tmod b < 0 := by omega
    have hd := tdiv_bd (a := a) (b := b) (by omega) ha ha'
    clear h
    go_enter Try.func55, Try.ntmps55
    go_wp2
    go_quiet (fail)
    go_wp2
    go_ret2
    exact ⟨ret_two (tdiv_neg hb h').1 (tdiv_neg hb h').2, _, rfl⟩

def halfV (a b : Int) : Int := if b - a % b ≤ a % b then a / b + 1 else a / b

theorem half_zero (a b : Int) (w : World) (hb : b ≤ 0) :
    Calls Try.prog 36 #[.int .i64 a, .int .i64 b] w fun e w' => e = .returned (.tuple #[.int .i64 0, .int .i64 20]) ∧ ∃ n, w' = w.drewN n := by
  go_enter Try.func36, Try.ntmps36
  go_wp2
  go_ret2
  exact ⟨rfl, 0, rfl⟩

theorem half_pos (a b : Int) (w : World) (ha : -9223372036854775808 ≤ a) (ha' : a ≤ 9223372036854775807) (hb : 0 < b) (hb' : b ≤ 9223372036854775807) :
    Calls Try.prog 36 #[.int .i64 a, .int .i64 b] w fun e w' => e = .returned (.tuple #[.int .i64 (halfV a b), .int .i64 0]) ∧ ∃ n, w' = w.drewN n := by
  have l1 := Int.emod_nonneg a (show b ≠ 0 by omega)
  have l2 := Int.emod_lt_of_pos a hb
  by_cases h : b - a % b ≤ a % b
  · have hd := ediv_top (a := a) (b := b) (by omega) ha ha'
    have H := Lib.hid (show halfV a b = a / b + 1 from if_pos h)
    go_enter Try.func36, Try.ntmps36
    go_wp2_with (go_at_call 55; refine (floor_pos _ _ _ ha ha' hb hb').mono ?_; rintro e w' ⟨rfl, n, rfl⟩)
    go_ret2
    exact ⟨ret_two H.out.symm rfl, n, rfl⟩
  · have hd := ediv_bd (a := a) (b := b) (by omega) ha ha'
    have H := Lib.hid (show halfV a b = a / b from if_neg h)
    go_enter Try.func36, Try.ntmps36
    go_wp2_with (go_at_call 55; refine (floor_pos _ _ _ ha ha' hb hb').mono ?_; rintro e w' ⟨rfl, n, rfl⟩)
    go_ret2
    exact ⟨ret_two H.out.symm rfl, n, rfl⟩

def sideV (n : Int) : Int := if n = -9223372036854775808 then 4611686018427387904 else if n < 0 then -n else n
theorem sideV_bd (n : Int) (h : -9223372036854775808 ≤ n) (h' : n ≤ 9223372036854775807) : 0 ≤ sideV n ∧ sideV n ≤ 9223372036854775807 := by
  unfold sideV; split <;> (try split) <;> omega

theorem side_any (n : Int) (w : World) (h1 : -9223372036854775808 ≤ n) (h2 : n ≤ 9223372036854775807) :
    Calls Try.prog 107 #[.int .i64 n] w fun e w' => e = .returned (.int .i64 (sideV n)) ∧ w = w' := by
  by_cases h : n = -9223372036854775808
  · subst h
    clear h1 h2
    go_enter Try.func107, Try.ntmps107
    go_wp2
    go_ret
    exact ⟨rfl, rfl⟩
  · have g : (n == -9223372036854775808) = false := by simpa using h
    have H := Lib.hid (show sideV n = if n < 0 then -n else n from if_neg h)
    by_cases h0 : n < 0
    · go_enter Try.func107, Try.ntmps107
      go_wp2
      go_ret
      exact ⟨ret_one (by rw [H.out, if_pos h0]), rfl⟩
    · go_enter Try.func107, Try.ntmps107
      go_wp2
      go_ret
      exact ⟨ret_one (by rw [H.out, if_neg (by omega)]), rfl⟩

theorem gcd_step {c d : Nat} {g : Int} (h : (Nat.gcd c d : Int) = g) : Hid ((Nat.gcd d (c % d) : Int) = g) := by
  show _ = _
  rw [← h, Nat.gcd_comm d, ← Nat.gcd_rec, Nat.gcd_comm]

def gcdV (a b : Int) : Int := Nat.gcd (sideV a).toNat (sideV b).toNat

theorem gcd_any (a b : Int) (w : World) (ha : -9223372036854775808 ≤ a) (ha' : a ≤ 9223372036854775807) (hb : -9223372036854775808 ≤ b) (hb' : b ≤ 9223372036854775807) :
    Calls Try.prog 100 #[.int .i64 a, .int .i64 b] w fun e w' => e = .returned (.int .i64 (gcdV a b)) ∧ ∃ n, w' = w.drewN n := by
  obtain ⟨p0, p1⟩ := sideV_bd a ha ha'
  obtain ⟨q0, q1⟩ := sideV_bd b hb hb'
  go_enter Try.func100, Try.ntmps100
  go_wp2_with fail
  refine (side_any _ _ ha ha').mono ?_
  rintro e w' ⟨rfl, rfl⟩
  go_wp2_with fail
  refine (side_any _ _ hb hb').mono ?_
  rintro e w' ⟨rfl, rfl⟩
  go_wp2
  go_loopw [0, 1] (fun x y wr => ∃ (c d n : Nat), c ≤ 9223372036854775807 ∧ d ≤ 9223372036854775807 ∧ x = .int .i64 c ∧ y = .int .i64 d ∧ Hid ((Nat.gcd c d : Int) = gcdV a b) ∧ wr = w.drewN n) (fun _ y _ => (intOf y).toNat)
  case atStart => exact ⟨(sideV a).toNat, (sideV b).toNat, 0, by omega, by omega, by rw [Int.toNat_of_nonneg p0], by rw [Int.toNat_of_nonneg q0], rfl, rfl⟩
  case round =>
    obtain ⟨c, d, n, hc, hd, rfl, rfl, hg, rfl⟩ := hrel
    by_cases h : d = 0
    · subst h
      go_wp2
      go_ret
      exact ⟨ret_one (by rw [← hg.out, Nat.gcd_zero_right]), n, rfl⟩
    · have hne : ((d : Int) != 0) = true := by simp; omega
      have hdp : 0 < d := by omega
      go_wp2
      go_quiet (fail)
      go_wp2
      go_roundw
      case rel => exact ⟨d, c % d, _, by omega, by have := Nat.mod_lt c hdp; omega, rfl, rfl, gcd_step hg.out, World.drewN_drewN _ _ _⟩
      case measure => simp [intOf]; have := Nat.mod_lt c hdp; omega

end Go.Proofs.Ytbijaaglmhoopaa

namespace Go.Proofs.Ytbijaaglmhoopaa
set_option linter.unusedVariables false
set_option linter.unusedSimpArgs false

/-! ### Rounding, everywhere -/
theorem roundP_up {t u : Int} (hu : 1 ≤ u) (hu' : u ≤ 100000000) : roundP t u = min (u * (timeP t / u) + (if u - timeP t % u ≤ timeP t % u then u else 0)) 32054400 := by
  obtain ⟨e, e1, e2⟩ := round_div (n := timeP t) hu
  have hb := time_bd t
  unfold roundP
  rw [if_neg (show ¬ u < 1 by omega)]
  split
  · omega
  · omega
theorem roundP_mono {u : Int} (hu : 1 ≤ u) (hu' : u ≤ 100000000) : ∀ a b : Int, a ≤ b → roundP a u ≤ roundP b u := by
  intro a b hab
  obtain ⟨e, e1, e2⟩ := round_div (n := timeP a) hu
  obtain ⟨f, f1, f2⟩ := round_div (n := timeP b) hu
  have ht : timeP a ≤ timeP b := by unfold timeP; omega
  rw [roundP_up hu hu', roundP_up hu hu']
  generalize timeP a = x at *
  generalize timeP b = y at *
  have hq : x / u ≤ y / u := Int.ediv_le_ediv (by omega) ht
  rcases Int.lt_or_le (x / u) (y / u) with q | q
  · have : u * (x / u) + u ≤ u * (y / u) := by
      have := Int.mul_le_mul_of_nonneg_left (show x / u + 1 ≤ y / u by omega) (show 0 ≤ u by omega)
      rw [Int.mul_add, Int.mul_one] at this
      exact this
    split <;> split <;> omega
  · have : x / u = y / u := by omega
    rw [this] at e ⊢
    split <;> split <;> omega
theorem roundP_near {t u : Int} (h0 : 0 ≤ t) (h1 : t ≤ 32054400) (hu : 1 ≤ u) (hu' : u ≤ 100000000) : 2 * (roundP t u - t) ≤ u ∧ 2 * (t - roundP t u) < u ∧ 0 ≤ roundP t u ∧ roundP t u ≤ 32054400 := by
  obtain ⟨e, e1, e2⟩ := round_div (n := timeP t) hu
  have ht : timeP t = t := by unfold timeP; omega
  rw [roundP_up hu hu']
  rw [ht] at e e1 e2 ⊢
  have : 0 ≤ u * (t / u) := Int.mul_nonneg (by omega) (Int.ediv_nonneg h0 (by omega))
  split <;> omega
theorem roundP_one (t : Int) : roundP t 1 = timeP t := by
  have hb := time_bd t
  unfold roundP
  rw [if_neg (show ¬ (1 : Int) < 1 by omega)]
  split <;> omega
theorem time_id {t : Int} (h0 : 0 ≤ t) (h1 : t ≤ 32054400) : timeP t = t := by unfold timeP; omega

/-! ### Near -/
def nearP (lo hi : Int) (l : List SegP) : List SegP := l.flatMap fun s => (if s.fr < lo then [{ s with to := min s.to lo }] else []) ++ (if hi < s.to then [{ s with fr := max s.fr hi }] else [])
theorem nearP_append (lo hi : Int) (l m : List SegP) : nearP lo hi (l ++ m) = nearP lo hi l ++ nearP lo hi m := by simp [nearP]
theorem nearP_none {lo hi : Int} : ∀ {l : List SegP}, (∀ s ∈ l, lo ≤ s.fr ∧ s.to ≤ hi) → nearP lo hi l = []
  | [], _ => rfl
  | s :: l, h => by
    have h1 := h s (by simp)
    have ih := nearP_none (l := l) fun x hx => h x (by simp [hx])
    unfold nearP at ih ⊢
    rw [List.flatMap_cons, ih, if_neg (by omega), if_neg (by omega)]
    rfl
def LocS (R : Int → Int) (cap lo hi : Int) : StP → Prop
  | none => True
  | some (e, _) => lo ≤ R e.tm ∧ R (e.tm + cap) ≤ hi
theorem sess_win {R : Int → Int} (hR : ∀ a b, a ≤ b → R a ≤ R b) {cap lo hi : Int} {e : EvP} {ins : List EvP} {to fl : Int} (h1 : lo ≤ R e.tm) (h2 : R (e.tm + cap) ≤ hi) (h3 : to ≤ e.tm + cap) :
    ∀ s ∈ segsI R (.sess e ins to fl), lo ≤ s.fr ∧ s.to ≤ hi := fun s hs => by
  have h4 := parts_win ins _ e (Int.le_refl _) s hs
  have h5 := hR _ _ h3
  omega
theorem near_step {R : Int → Int} (hR : ∀ a b, a ≤ b → R a ≤ R b) {cap lo hi : Int} (st : StP) (b : EvP) (h : LocS R cap lo hi st) :
    (∀ s ∈ segsS R (stepS cap st b).1, lo ≤ s.fr ∧ s.to ≤ hi) ∧ (b.kd = 1 → (stepS cap st b).2 = some (b, [])) ∧ (b.kd ≠ 1 → LocS R cap lo hi (stepS cap st b).2) := by
  match st, h with
  | none, _ =>
    by_cases k : b.kd = 1
    · simp only [stepS, if_pos k]
      exact ⟨by simp [segsS], fun _ => trivial, fun q => absurd k q⟩
    · simp only [stepS, if_neg k]
      exact ⟨by simp [segsS, segsI], fun q => absurd q k, fun _ => trivial⟩
  | some (e, ins), ⟨h1, h2⟩ =>
    by_cases q : e.tm + cap < b.tm
    · by_cases k : b.kd = 1
      · simp only [stepS, if_pos q, if_pos k]
        refine ⟨fun s hs => ?_, fun _ => trivial, fun q => absurd k q⟩
        rw [segsS_cons] at hs
        simp only [segsS, List.flatMap_nil, List.append_nil] at hs
        exact sess_win hR h1 h2 (Int.le_refl _) s hs
      · simp only [stepS, if_pos q, if_neg k]
        refine ⟨fun s hs => ?_, fun q => absurd q k, fun _ => trivial⟩
        rw [segsS_cons] at hs
        simp only [segsS, List.flatMap_nil, List.flatMap_cons, List.append_nil] at hs
        rcases List.mem_append.1 hs with hs | hs
        · exact sess_win hR h1 h2 (Int.le_refl _) s hs
        · cases hs
    · by_cases k : b.kd = 1
      · simp only [stepS, if_neg q, if_pos k]
        refine ⟨fun s hs => ?_, fun _ => trivial, fun q => absurd k q⟩
        rw [segsS_cons] at hs
        simp only [segsS, List.flatMap_nil, List.append_nil] at hs
        exact sess_win hR h1 h2 (by omega) s hs
      · by_cases k2 : b.kd = 2
        · simp only [stepS, if_neg q, if_neg k, if_pos k2]
          refine ⟨fun s hs => ?_, fun q => absurd q k, fun _ => trivial⟩
          rw [segsS_cons] at hs
          simp only [segsS, List.flatMap_nil, List.append_nil] at hs
          exact sess_win hR h1 h2 (by omega) s hs
        · simp only [stepS, if_neg q, if_neg k, if_neg k2]
          exact ⟨by simp [segsS], fun q => absurd q k, fun _ => ⟨h1, h2⟩⟩
theorem near_same {R : Int → Int} (hR : ∀ a b, a ≤ b → R a ≤ R b) {cap lo hi : Int} : ∀ (B : List EvP) (s1 s2 : StP), LocS R cap lo hi s1 → LocS R cap lo hi s2 →
    nearP lo hi (segsS R (itemsS cap s1 B)) = nearP lo hi (segsS R (itemsS cap s2 B))
  | [], s1, s2, h1, h2 => by
    have hc : ∀ s : StP, LocS R cap lo hi s → nearP lo hi (segsS R (itemsS cap s [])) = [] := by
      intro s h
      match s, h with
      | none, _ => rfl
      | some (e, ins), ⟨a, b⟩ =>
        refine nearP_none fun x hx => ?_
        show lo ≤ x.fr ∧ x.to ≤ hi
        have hx' : x ∈ segsS R [.sess e ins (e.tm + cap) 1] := hx
        rw [segsS_cons] at hx'
        simp only [segsS, List.flatMap_nil, List.append_nil] at hx'
        exact sess_win hR a b (Int.le_refl _) x hx'
    rw [hc s1 h1, hc s2 h2]
  | b :: B, s1, s2, h1, h2 => by
    obtain ⟨a1, a2, a3⟩ := near_step hR s1 b h1
    obtain ⟨b1, b2, b3⟩ := near_step hR s2 b h2
    show nearP lo hi (segsS R ((stepS cap s1 b).1 ++ itemsS cap (stepS cap s1 b).2 B)) = nearP lo hi (segsS R ((stepS cap s2 b).1 ++ itemsS cap (stepS cap s2 b).2 B))
    rw [segsS_append, segsS_append, nearP_append, nearP_append, nearP_none a1, nearP_none b1]
    by_cases k : b.kd = 1
    · rw [a2 k, b2 k]
    · rw [near_same hR B _ _ (a3 k) (b3 k)]
/-- An open session began with one of the events. -/
theorem run_from (cap : Int) : ∀ (A : List EvP) (st : StP) (e : EvP) (ins : List EvP), runT cap st A = some (e, ins) → e ∈ A ∨ ∃ i0, st = some (e, i0)
  | [], st, e, ins, h => .inr ⟨ins, h⟩
  | b :: A, st, e, ins, h => by
    have h' : runT cap (stepS cap st b).2 A = some (e, ins) := h
    rcases run_from cap A _ e ins h' with q | ⟨i0, q⟩
    · exact .inl (by simp [q])
    · match st, q with
      | none, q =>
        by_cases k : b.kd = 1
        · simp only [stepS, if_pos k, Option.some.injEq, Prod.mk.injEq] at q
          exact .inl (by simp [q.1])
        · simp [stepS, if_neg k] at q
      | some (e', i'), q =>
        by_cases c : e'.tm + cap < b.tm
        · by_cases k : b.kd = 1
          · simp only [stepS, if_pos c, if_pos k, Option.some.injEq, Prod.mk.injEq] at q
            exact .inl (by simp [q.1])
          · simp [stepS, if_pos c, if_neg k] at q
        · by_cases k : b.kd = 1
          · simp only [stepS, if_neg c, if_pos k, Option.some.injEq, Prod.mk.injEq] at q
            exact .inl (by simp [q.1])
          · by_cases k2 : b.kd = 2
            · simp [stepS, if_neg c, if_neg k, if_pos k2] at q
            · simp only [stepS, if_neg c, if_neg k, if_neg k2, Option.some.injEq, Prod.mk.injEq] at q
              exact .inr ⟨i', by rw [q.1]⟩
/-- An event more changes nothing that is farther from it than a cap and a unit. -/
theorem stream_near {cap u : Int} (hc : 0 ≤ cap) (hc' : cap ≤ 100000) (hu : 1 ≤ u) (hu' : u ≤ 3600) (A B : List EvP) (e : EvP) (hA : ∀ a ∈ A, 0 ≤ a.tm ∧ a.tm ≤ e.tm) (hB : ∀ b ∈ B, e.tm ≤ b.tm) (he : 0 ≤ e.tm ∧ e.tm ≤ 31449599) :
    nearP (e.tm - (cap + u)) (e.tm + (cap + u)) (segsS (fun t => roundP t u) (itemsS cap none (A ++ B))) = nearP (e.tm - (cap + u)) (e.tm + (cap + u)) (segsS (fun t => roundP t u) (itemsS cap none (A ++ e :: B))) := by
  have hR : ∀ a b, a ≤ b → roundP a u ≤ roundP b u := roundP_mono hu (by omega)
  have hloc : ∀ x : EvP, 0 ≤ x.tm → x.tm ≤ e.tm → e.tm ≤ x.tm + cap → ∀ ins, LocS (fun t => roundP t u) cap (e.tm - (cap + u)) (e.tm + (cap + u)) (some (x, ins)) := by
    intro x h0 h1 h2 ins
    have n1 := roundP_near (t := x.tm) (u := u) h0 (by omega) hu (by omega)
    have n2 := roundP_near (t := x.tm + cap) (u := u) (by omega) (by omega) hu (by omega)
    exact ⟨by show _ ≤ roundP x.tm u; omega, by show roundP (x.tm + cap) u ≤ _; omega⟩
  rw [items_append, items_append, segsS_append, segsS_append, nearP_append, nearP_append]
  congr 1
  have hmain : ∀ st : StP, LocS (fun t => roundP t u) cap (e.tm - (cap + u)) (e.tm + (cap + u)) st →
      nearP (e.tm - (cap + u)) (e.tm + (cap + u)) (segsS (fun t => roundP t u) (itemsS cap st B)) = nearP (e.tm - (cap + u)) (e.tm + (cap + u)) (segsS (fun t => roundP t u) (itemsS cap st (e :: B))) := by
    intro st hst
    obtain ⟨a1, a2, a3⟩ := near_step hR st e hst
    show _ = nearP _ _ (segsS _ ((stepS cap st e).1 ++ itemsS cap (stepS cap st e).2 B))
    rw [segsS_append, nearP_append, nearP_none a1, List.nil_append]
    refine near_same hR B _ _ hst ?_
    by_cases k : e.kd = 1
    · rw [a2 k]
      exact hloc e he.1 (Int.le_refl _) (by omega) []
    · exact a3 k
  rcases hst : runT cap none A with _ | ⟨x, ins⟩
  · exact hmain none trivial
  · have hx : x ∈ A := by
      rcases run_from cap A none x ins hst with q | ⟨i0, q⟩
      · exact q
      · cases q
    obtain ⟨x0, x1⟩ := hA x hx
    by_cases q : x.tm + cap < e.tm
    · rw [items_stale cap x ins B (fun b hb => by have := hB b hb; omega), items_stale cap x ins (e :: B) (fun b hb => by
        rcases List.mem_cons.1 hb with rfl | hb
        · exact q
        · have := hB b hb; omega), segsS_cons, segsS_cons, nearP_append, nearP_append]
      congr 1
      exact hmain none trivial
    · exact hmain _ (hloc x x0 x1 (by omega) ins)

/-! ### Clocks: punches alone -/
def isPunch (e : EvP) : Bool := decide (e.kd = 1 ∨ e.kd = 2)
def stripI : ItemP → List ItemP
  | .out _ => []
  | .sess e _ to fl => [.sess e [] to fl]
def stripT : StP → StP
  | none => none
  | some (e, _) => some (e, [])
theorem strip_step (cap : Int) (st : StP) (b : EvP) (hb : isPunch b = true) :
    (stepS cap (stripT st) b).1.flatMap stripI = (stepS cap st b).1.flatMap stripI ∧ stripT (stepS cap (stripT st) b).2 = stripT (stepS cap st b).2 ∧ (stepS cap (stripT st) b).2 = stripT (stepS cap st b).2 := by
  simp only [isPunch, decide_eq_true_eq] at hb
  match st with
  | none =>
    by_cases k : b.kd = 1 <;> simp [stepS, stripT, stripI, k]
  | some (e, ins) =>
    by_cases q : e.tm + cap < b.tm
    · by_cases k : b.kd = 1 <;> simp [stepS, stripT, stripI, k, q]
    · by_cases k : b.kd = 1
      · simp [stepS, stripT, stripI, k, q]
      · have k2 : b.kd = 2 := by omega
        simp [stepS, stripT, stripI, k2, q]
theorem strip_items {cap : Int} : ∀ (L : List EvP) (st : StP), L.Pairwise (fun a b => a.tm ≤ b.tm) →
    (itemsS cap (stripT st) (L.filter isPunch)).flatMap stripI = (itemsS cap st L).flatMap stripI
  | [], st, _ => by
    match st with
    | none => rfl
    | some (e, ins) => rfl
  | b :: L, st, h => by
    rw [List.pairwise_cons] at h
    by_cases hb : isPunch b = true
    · rw [List.filter_cons_of_pos hb]
      obtain ⟨h1, h2, h3⟩ := strip_step cap st b hb
      show ((stepS cap (stripT st) b).1 ++ itemsS cap (stepS cap (stripT st) b).2 _).flatMap stripI = ((stepS cap st b).1 ++ itemsS cap (stepS cap st b).2 L).flatMap stripI
      rw [List.flatMap_append, List.flatMap_append, h1, h3, strip_items L _ h.2]
    · rw [List.filter_cons_of_neg hb]
      have hb2 : b.kd ≠ 1 ∧ b.kd ≠ 2 := by
        simp only [isPunch, decide_eq_true_eq] at hb
        omega
      show _ = ((stepS cap st b).1 ++ itemsS cap (stepS cap st b).2 L).flatMap stripI
      rw [List.flatMap_append]
      match st with
      | none =>
        rw [strip_items L none h.2]
        simp [stepS, hb2.1, stripI]
      | some (e, ins) =>
        by_cases q : e.tm + cap < b.tm
        · have e1 : itemsS cap (stripT (some (e, ins))) (L.filter isPunch) = .sess e [] (e.tm + cap) 1 :: itemsS cap none (L.filter isPunch) :=
            items_stale cap e [] _ fun c hc => by
              have := h.1 c (List.mem_filter.1 hc).1
              omega
          rw [e1, List.flatMap_cons]
          have ih := strip_items (cap := cap) L none h.2
          have ih' : (itemsS cap none (L.filter isPunch)).flatMap stripI = (itemsS cap none L).flatMap stripI := ih
          rw [ih']
          simp [stepS, q, hb2.1, stripI]
        · have ih := strip_items (cap := cap) L (some (e, ins ++ [b])) h.2
          have ih' : (itemsS cap (stripT (some (e, ins))) (L.filter isPunch)).flatMap stripI = (itemsS cap (some (e, ins ++ [b])) L).flatMap stripI := ih
          rw [ih']
          simp [stepS, q, hb2.1, hb2.2]
/-- The seconds of all parts are those between the told beginnings and ends. -/
theorem segs_in {cap : Int} {R : Int → Int} (hR : ∀ a b, a ≤ b → R a ≤ R b) (t : Int) : ∀ (l : List ItemP) (lo : Int), ItemsUp cap lo l →
    (InS (segsS R l) t ↔ ∃ e to fl, .sess e [] to fl ∈ l.flatMap stripI ∧ R e.tm ≤ t ∧ t < R to)
  | [], _, _ => by
    constructor
    · rintro ⟨s, hs, _⟩; cases hs
    · rintro ⟨e, to, fl, h, _⟩; cases h
  | .out e :: r, lo, h => by
    have ih := segs_in hR t r lo h.2
    have e1 : segsS R (.out e :: r) = segsS R r := by rw [segsS_cons]; rfl
    have e2 : (ItemP.out e :: r).flatMap stripI = r.flatMap stripI := by rw [List.flatMap_cons]; rfl
    rw [e1, e2]
    exact ih
  | .sess e ins to fl :: r, lo, h => by
    obtain ⟨_, _, u3⟩ := sess_up hR h
    have ih := segs_in hR t r to h.2.2.2.2.2
    rw [segsS_cons, inS_append, u3, ih, List.flatMap_cons]
    constructor
    · rintro (q | ⟨e', to', fl', h1, h2⟩)
      · exact ⟨e, to, fl, by simp [stripI], q⟩
      · exact ⟨e', to', fl', by simp [h1], h2⟩
    · rintro ⟨e', to', fl', h1, h2⟩
      rcases List.mem_append.1 h1 with h1 | h1
      · simp only [stripI, List.mem_singleton, ItemP.sess.injEq] at h1
        obtain ⟨rfl, _, rfl, _⟩ := h1
        exact .inl h2
      · exact .inr ⟨e', to', fl', h1, h2⟩
/-- Of punches alone sessions have no other events. -/
theorem punch_items {cap : Int} : ∀ (L : List EvP) (st : StP), (∀ b ∈ L, isPunch b = true) → (stripT st = st) → ∀ x ∈ itemsS cap st L, ∀ e ins to fl, x = .sess e ins to fl → ins = []
  | [], none, _, _, x, hx, e, ins, to, fl, h => by cases hx
  | [], some (e0, i0), _, hs, x, hx, e, ins, to, fl, h => by
    simp only [stripT, Option.some.injEq, Prod.mk.injEq, true_and] at hs
    have hx' : x ∈ [ItemP.sess e0 i0 (e0.tm + cap) 1] := hx
    rw [List.mem_singleton.1 hx'] at h
    simp only [ItemP.sess.injEq] at h
    rw [← h.2.1, ← hs]
  | b :: L, st, hL, hs, x, hx, e, ins, to, fl, h => by
    have hb := hL b (by simp)
    have ih := punch_items (cap := cap) L (stepS cap st b).2 (fun c hc => hL c (by simp [hc])) (by
      have := (strip_step cap st b hb).2.2
      rw [hs] at this
      exact this.symm)
    have hx' : x ∈ (stepS cap st b).1 ++ itemsS cap (stepS cap st b).2 L := hx
    rcases List.mem_append.1 hx' with q | q
    · subst h
      match st, hs with
      | none, _ =>
        by_cases k : b.kd = 1 <;> simp [stepS, k] at q
      | some (e0, i0), hs =>
        simp only [stripT, Option.some.injEq, Prod.mk.injEq, true_and] at hs
        subst hs
        by_cases c : e0.tm + cap < b.tm
        · by_cases k : b.kd = 1 <;> simp [stepS, k, c] at q <;> exact q.2.1
        · by_cases k : b.kd = 1
          · simp [stepS, k, c] at q; exact q.2.1
          · by_cases k2 : b.kd = 2
            · simp [stepS, k2, c] at q; exact q.2.1
            · simp [stepS, k, k2, c] at q
    · exact ih x q e ins to fl h

/-! ### Flags -/
/-- The events that items speak of. -/
def headI : ItemP → EvP
  | .out e => e
  | .sess e _ _ _ => e
def headsS (l : List ItemP) : List EvP := l.map headI
theorem heads_sub {cap : Int} : ∀ (L : List EvP), (headsS (itemsS cap none L)).Sublist L ∧ ∀ e ins, (headsS (itemsS cap (some (e, ins)) L)).Sublist (e :: L)
  | [] => ⟨List.Sublist.slnil, fun e ins => by simp [headsS, itemsS, closeS, headI]⟩
  | b :: L => by
    obtain ⟨h1, h2⟩ := heads_sub (cap := cap) L
    have hn : (headsS (itemsS cap none (b :: L))).Sublist (b :: L) := by
      by_cases k : b.kd = 1
      · have e1 : itemsS cap none (b :: L) = itemsS cap (some (b, [])) L := by simp [itemsS, stepS, k]
        rw [e1]
        exact h2 b []
      · have e1 : itemsS cap none (b :: L) = .out b :: itemsS cap none L := by simp [itemsS, stepS, k]
        rw [e1]
        exact h1.cons_cons b
    refine ⟨hn, fun e ins => ?_⟩
    by_cases q : e.tm + cap < b.tm
    · have e1 : itemsS cap (some (e, ins)) (b :: L) = .sess e ins (e.tm + cap) 1 :: itemsS cap none (b :: L) := by
        by_cases k : b.kd = 1 <;> simp [itemsS, stepS, k, q]
      rw [e1]
      exact hn.cons_cons e
    · by_cases k : b.kd = 1
      · have e1 : itemsS cap (some (e, ins)) (b :: L) = .sess e ins b.tm 2 :: itemsS cap (some (b, [])) L := by simp [itemsS, stepS, k, q]
        rw [e1]
        exact (h2 b []).cons_cons e
      · by_cases k2 : b.kd = 2
        · have e1 : itemsS cap (some (e, ins)) (b :: L) = .sess e ins b.tm 0 :: itemsS cap none L := by simp [itemsS, stepS, k2, q]
          rw [e1]
          exact (h1.cons b).cons_cons e
        · have e1 : itemsS cap (some (e, ins)) (b :: L) = itemsS cap (some (e, ins ++ [b])) L := by simp [itemsS, stepS, k, k2, q]
          rw [e1]
          exact (h2 e _).trans ((List.sublist_cons_self b L).cons_cons e)
/-- How many events there are of a kind; how many items of which sort. -/
def cntK (k : Int) (L : List EvP) : Nat := L.countP fun e => decide (e.kd = k)
def sessN : ItemP → Bool
  | .out _ => false
  | .sess _ _ _ _ => true
def doneN : ItemP → Bool
  | .out _ => false
  | .sess _ _ _ fl => decide (fl = 0)
def strayN : ItemP → Bool
  | .out e => decide (e.kd = 2)
  | .sess _ _ _ _ => false
def openN : StP → Nat
  | none => 0
  | some _ => 1
theorem flags_count {cap : Int} : ∀ (L : List EvP) (st : StP), cntK 1 L + openN st = (itemsS cap st L).countP sessN ∧ cntK 2 L = (itemsS cap st L).countP doneN + (itemsS cap st L).countP strayN
  | [], none => ⟨rfl, rfl⟩
  | [], some (e, ins) => by
    simp [itemsS, closeS, cntK, openN, sessN, doneN, strayN]
  | b :: L, st => by
    have c1 : cntK 1 (b :: L) = cntK 1 L + (if b.kd = 1 then 1 else 0) := by simp [cntK, List.countP_cons]
    have c2 : cntK 2 (b :: L) = cntK 2 L + (if b.kd = 2 then 1 else 0) := by simp [cntK, List.countP_cons]
    rw [c1, c2]
    have ih := flags_count (cap := cap) L (stepS cap st b).2
    have e0 : itemsS cap st (b :: L) = (stepS cap st b).1 ++ itemsS cap (stepS cap st b).2 L := rfl
    rw [e0, List.countP_append, List.countP_append, List.countP_append, ← ih.1]
    obtain ⟨_, ih2⟩ := ih
    generalize (itemsS cap (stepS cap st b).2 L).countP doneN = x at *
    generalize (itemsS cap (stepS cap st b).2 L).countP strayN = y at *
    match st with
    | none =>
      by_cases k : b.kd = 1
      · simp [stepS, k, openN]; omega
      · by_cases k2 : b.kd = 2
        · simp [stepS, k2, openN, sessN, doneN, strayN, List.countP_cons]; omega
        · simp [stepS, k, k2, openN, sessN, doneN, strayN, List.countP_cons]; omega
    | some (e, ins) =>
      by_cases q : e.tm + cap < b.tm
      · by_cases k : b.kd = 1
        · simp [stepS, k, q, openN, sessN, doneN, strayN, List.countP_cons]; omega
        · by_cases k2 : b.kd = 2
          · simp [stepS, k2, q, openN, sessN, doneN, strayN, List.countP_cons]; omega
          · simp [stepS, k, k2, q, openN, sessN, doneN, strayN, List.countP_cons]; omega
      · by_cases k : b.kd = 1
        · simp [stepS, k, q, openN, sessN, doneN, strayN, List.countP_cons]; omega
        · by_cases k2 : b.kd = 2
          · simp [stepS, k2, q, openN, sessN, doneN, strayN, List.countP_cons]; omega
          · simp [stepS, k, k2, q, openN, sessN, doneN, strayN, List.countP_cons]; omega

/-! ### Rounding -/
/-- What the law makes of a part told with a unit of 1. -/
def reR (R : Int → Int) (s : SegP) : List SegP := if R s.fr < R s.to then [{ s with fr := R s.fr, to := R s.to }] else []
theorem stream_rounds {cap u : Int} (hc' : cap ≤ 100000) (hu : 1 ≤ u) (hu' : u ≤ 3600) : ∀ (l : List ItemP) (lo : Int), 0 ≤ lo → ItemsUp cap lo l → (∀ x ∈ l, (headI x).tm ≤ 31449599) → (∀ x ∈ l, ∀ e ins to fl, x = .sess e ins to fl → ins = []) →
    segsS (fun t => roundP t u) l = (segsS (fun t => roundP t 1) l).flatMap (reR fun t => roundP t u)
  | [], _, _, _, _, _ => rfl
  | .out e :: r, lo, h0, h, ht, hi => by
    rw [segsS_cons, segsS_cons]
    exact stream_rounds hc' hu hu' r lo h0 h.2 (fun x hx => ht x (by simp [hx])) (fun x hx => hi x (by simp [hx]))
  | .sess e ins to fl :: r, lo, h0, h, ht, hi => by
    obtain rfl : ins = [] := hi _ (by simp) e ins to fl rfl
    have h7 := h.2.2.2.2.2
    obtain ⟨⟨h1, h2, h3⟩, _⟩ := h
    have he : e.tm ≤ 31449599 := ht (.sess e [] to fl) (by simp)
    rw [segsS_cons, segsS_cons, List.flatMap_append, ← stream_rounds hc' hu hu' r to (by omega) h7 (fun x hx => ht x (by simp [hx])) (fun x hx => hi x (by simp [hx]))]
    congr 1
    show segI (roundP e.tm u) (roundP to u) e = (segI (roundP e.tm 1) (roundP to 1) e).flatMap (reR fun t => roundP t u)
    rw [roundP_one, roundP_one, time_id (by omega) (by omega), time_id (by omega) (by omega)]
    have hm := roundP_mono hu (by omega) e.tm to h2
    unfold segI
    by_cases q : e.tm < to
    · rw [if_pos q]
      simp [reR]
    · have : e.tm = to := by omega
      rw [if_neg q, this, if_neg (by omega)]
      rfl

/-! ### The order of events -/
theorem all_same_perm {l m : List EvP} (h : l.Perm m) (hs : ∀ x ∈ l, ∀ y ∈ l, x = y) : l = m := by
  match l with
  | [] => exact (List.nil_perm.1 h).symm
  | a :: l =>
    have h1 : (a :: l) = List.replicate (l.length + 1) a := List.eq_replicate_iff.2 ⟨by simp, fun x hx => hs x hx a (by simp)⟩
    have h2 : m = List.replicate (l.length + 1) a := List.eq_replicate_iff.2 ⟨by rw [← h.length_eq]; simp, fun x hx => hs x (h.symm.subset hx) a (by simp)⟩
    rw [h1, h2]
theorem risen_perm {l m : List EvP} (hl : Risen l) (hm : Risen m) (h : l.Perm m) (hd : ∀ x ∈ l, ∀ y ∈ l, x.id = y.id → x = y) : l = m :=
  risen_unique l m hl hm fun k => all_same_perm (h.filter _) fun x hx y hy => by
    obtain ⟨x1, x2⟩ := List.mem_filter.1 hx
    obtain ⟨y1, y2⟩ := List.mem_filter.1 hy
    simp only [alikeE, decide_eq_true_eq] at x2 y2
    exact hd x x1 y y1 (by omega)
/-- A worker's events: those that may be, of that worker, and no faults. -/
def ofW (may : EvP → Bool) (wk : Int) (e : EvP) : Bool := may e && decide (e.wk = wk) && decide (e.kd ≠ 7)
def wevs (may : EvP → Bool) (wk : Int) (l : List EvP) : List EvP := (sortE l).filter (ofW may wk)
theorem wevs_risen (may : EvP → Bool) (wk : Int) (l : List EvP) : Risen (wevs may wk l) := risen_filter _ _ (ev_sort_risen l)
theorem wevs_mem (may : EvP → Bool) (wk : Int) (l : List EvP) (e : EvP) : e ∈ wevs may wk l ↔ e ∈ l ∧ ofW may wk e = true := by
  unfold wevs
  rw [List.mem_filter, (ev_sort_perm l).mem_iff]
theorem risen_times : ∀ {l : List EvP}, Risen l → l.Pairwise (fun a b => a.tm ≤ b.tm)
  | [], _ => List.Pairwise.nil
  | a :: l, ⟨h1, h2⟩ => List.pairwise_cons.2 ⟨fun b hb => by
    have := h1 b hb
    simp only [lessE, decide_eq_false_iff_not] at this
    omega, risen_times h2⟩
/-- What a worker does does not hang on the order, nor on what is not the worker's. -/
theorem wevs_alone (may : EvP → Bool) (wk : Int) {l m : List EvP} (h : m.Perm (l.filter fun e => decide (e.wk = wk) && decide (e.kd ≠ 7))) (hd : ∀ x ∈ l, ∀ y ∈ l, x.id = y.id → x = y) : wevs may wk l = wevs may wk m := by
  refine risen_perm (wevs_risen _ _ _) (wevs_risen _ _ _) ?_ (fun x hx y hy => hd x ((wevs_mem may wk l x).1 hx).1 y ((wevs_mem may wk l y).1 hy).1)
  have p1 : (wevs may wk l).Perm (l.filter (ofW may wk)) := (ev_sort_perm l).filter _
  have p2 : (wevs may wk m).Perm (m.filter (ofW may wk)) := (ev_sort_perm m).filter _
  have p3 : (m.filter (ofW may wk)).Perm ((l.filter fun e => decide (e.wk = wk) && decide (e.kd ≠ 7)).filter (ofW may wk)) := h.filter _
  have e3 : (l.filter fun e => decide (e.wk = wk) && decide (e.kd ≠ 7)).filter (ofW may wk) = l.filter (ofW may wk) := by
    rw [List.filter_filter]
    refine List.filter_congr fun x _ => ?_
    simp only [ofW]
    cases may x <;> cases decide (x.wk = wk) <;> cases decide (x.kd ≠ 7) <;> rfl
  rw [e3] at p3
  exact p1.trans (p2.trans p3).symm
/-- Punches alone. -/
theorem wevs_punch (may : EvP → Bool) (wk : Int) (l : List EvP) : wevs may wk (l.filter isPunch) = (wevs may wk l).filter isPunch := by
  have h1 : sortE (l.filter isPunch) = (sortE l).filter isPunch := by
    refine (ev_sort_of (risen_filter _ _ (ev_sort_risen l)) fun k => ?_).symm
    rw [List.filter_filter, List.filter_filter]
    have e1 : ∀ m : List EvP, m.filter (fun a => alikeE k a && isPunch a) = (m.filter (alikeE k)).filter isPunch := fun m => by
      rw [List.filter_filter]
      exact List.filter_congr fun x _ => Bool.and_comm _ _
    rw [e1, e1, ev_sort_alike]
  unfold wevs
  rw [h1, List.filter_filter, List.filter_filter]
  exact List.filter_congr fun x _ => Bool.and_comm _ _
theorem risen_split (e : EvP) : ∀ {l : List EvP}, Risen l → l = (l.filter fun y => !lessE e y) ++ l.filter fun y => lessE e y
  | [], _ => rfl
  | a :: l, ⟨h1, h2⟩ => by
    by_cases q : lessE e a = true
    · have hall : ∀ b ∈ l, lessE e b = true := fun b hb => by
        have := h1 b hb
        simp only [lessE, decide_eq_true_eq, decide_eq_false_iff_not] at *
        omega
      have e1 : (a :: l).filter (fun y => !lessE e y) = [] := by
        rw [List.filter_eq_nil_iff]
        intro x hx
        rcases List.mem_cons.1 hx with rfl | hx
        · simp [q]
        · simp [hall x hx]
      have e2 : (a :: l).filter (fun y => lessE e y) = a :: l := by
        rw [List.filter_eq_self]
        intro x hx
        rcases List.mem_cons.1 hx with rfl | hx
        · exact q
        · exact hall x hx
      rw [e1, e2, List.nil_append]
    · rw [List.filter_cons_of_pos (by simpa using q), List.filter_cons_of_neg q, List.cons_append, ← risen_split e h2]
/-- An event more stands at one place among a worker's. -/
theorem wevs_more (may : EvP → Bool) (wk : Int) (l : List EvP) (e : EvP) : wevs may wk (l ++ [e]) = wevs may wk l ∨
    ∃ A B, wevs may wk l = A ++ B ∧ wevs may wk (l ++ [e]) = A ++ e :: B ∧ (∀ a ∈ A, a.tm ≤ e.tm) ∧ ∀ b ∈ B, e.tm ≤ b.tm := by
  have h : sortE (l ++ [e]) = insE (sortE l) e := by unfold sortE; rw [List.foldl_append]; rfl
  by_cases q : ofW may wk e = true
  · refine .inr ⟨((sortE l).filter fun y => !lessE e y).filter (ofW may wk), ((sortE l).filter fun y => lessE e y).filter (ofW may wk), ?_, ?_, ?_, ?_⟩
    · unfold wevs
      rw [← List.filter_append]
      congr 1
      exact risen_split e (ev_sort_risen l)
    · unfold wevs
      rw [h]
      unfold insE
      rw [List.filter_append, List.filter_cons_of_pos q]
    · intro a ha
      have := (List.mem_filter.1 (List.mem_filter.1 ha).1).2
      simp only [lessE, Bool.not_eq_true', decide_eq_false_iff_not] at this
      omega
    · intro b hb
      have := (List.mem_filter.1 (List.mem_filter.1 hb).1).2
      simp only [lessE, decide_eq_true_eq] at this
      omega
  · refine .inl ?_
    unfold wevs
    rw [h]
    unfold insE
    rw [List.filter_append, List.filter_cons_of_neg q, ← List.filter_append]
    congr 1
    exact (risen_split e (ev_sort_risen l)).symm
end Go.Proofs.Ytbijaaglmhoopaa
