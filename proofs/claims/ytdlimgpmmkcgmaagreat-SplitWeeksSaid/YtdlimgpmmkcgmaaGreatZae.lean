/-
  Package punch and the document's own answers: times, rounded, days, weeks, the weeks about a time.
  The contracts of the document's own answers of layer 1 (package lumperref01): they are what package num's contracts say.
  Slices of numbers as lists; new slices of bytes made with room. Over any program.
  A map from numbers that the call has made: what it tells of a number, whatever order it was filled in.
-/
import Derived.Test.YtdlimgpmmkcgmaaGreatZab
import Derived.Test.YtdlimgpmmkcgmaaGreatZad
import Derived.BigQuiet
import Derived.Deep.QuietTactic
import Derived.Laws.Rows
import Derived.Laws.Cover1
import Derived.OpenShut
import Derived.Test.YtdlimgpmmkcgmaaGreatProg
import Derived.Maps.OwnSet
import Derived.WalkKit
import Derived.KernelRfl
namespace Go.Proofs.YtdlimgpmmkcgmaaGreat
open Go.RowKit
set_option linter.unusedVariables false
set_option linter.unusedSimpArgs false
set_option maxRecDepth 20000

theorem upTo_any (m n : Int) (w : World) : Calls Tryz.prog 164 #[.int .i64 m, .int .i64 n] w fun e w' => e = .returned (.int .i64 (max 0 (min n m))) ∧ w = w' := by
  go_enter Tryz.func164, Tryz.ntmps164
  go_wp2
  all_goals
    go_ret
    refine ⟨ret_one ?_, rfl⟩
    omega
theorem second_any (t : Int) (w : World) : Calls Tryz.prog 138 #[.int .i64 t] w fun e w' => e = .returned (.int .i64 (secP t)) ∧ w = w' := by
  have e : max 0 (min t 32054399) = secP t := by unfold secP timeP; omega
  have H := Lib.hid (fun W => e ▸ upTo_any 32054399 t W)
  generalize secP t = r at *
  go_enter Tryz.func138, Tryz.ntmps138
  go_wp2_with fail
  refine (H.out _).mono ?_
  rintro e w' ⟨rfl, rfl⟩
  go_wp2
  go_ret
  exact ⟨rfl, rfl⟩
theorem day_any (t : Int) (w : World) : Calls Tryz.prog 101 #[.int .i64 t] w fun e w' => e = .returned (.int .i64 (dayP t)) ∧ w = w' := by
  have hb := sec_bd t
  have H := Lib.hid (fun W => second_any t W)
  unfold dayP
  generalize secP t = r at *
  go_enter Tryz.func101, Tryz.ntmps101
  go_wp2_with fail
  refine (H.out _).mono ?_
  rintro e w' ⟨rfl, rfl⟩
  go_wp2
  go_ret
  exact ⟨by first | rfl | (congr 2; omega), rfl⟩
/-! ### The document's own -/
theorem rtime_any (t : Int) (w : World) : Calls Tryz.prog 147 #[.int .i64 t] w fun e w' => e = .returned (.int .i64 (timeP t)) ∧ w = w' := by
  unfold timeP
  go_enter Tryz.func147, Tryz.ntmps147
  go_wp2
  all_goals
    go_ret
    refine ⟨ret_one ?_, rfl⟩
    omega
theorem rday_any (t : Int) (w : World) : Calls Tryz.prog 119 #[.int .i64 t] w fun e w' => e = .returned (.int .i64 (dayP t)) ∧ w = w' := by
  have hb := time_bd t
  have H := Lib.hid (fun W => rtime_any t W)
  unfold dayP secP
  generalize timeP t = r at *
  go_enter Tryz.func119, Tryz.ntmps119
  go_wp2_with fail
  refine (H.out _).mono ?_
  rintro e w' ⟨rfl, rfl⟩
  go_wp2
  all_goals
    go_ret
    refine ⟨ret_one ?_, rfl⟩
    omega
theorem wpList_min2i {P : Program} {ops : Array Oper} {rest : List Oper} {o : Oper} {a : Act} {w : World} {Q : Exit → Act → World → Prop} {x y : Operand} {ts : Array TypeId} (p q n : Int) (hn : min p q = n) (hgd : o.guard = none)
    (ho : o.op = .call { callee := .builtin .min, args := #[x, y], argTypes := ts }) (h1 : a.eval x = .int .i64 p) (h2 : a.eval y = .int .i64 q)
    (h : wpList P ops Q rest (a.put o.dst (.int .i64 n)) w) : wpList P ops Q (o :: rest) a w := by
  refine wpList_plain hgd fun K hK => ?_
  have e : (if q < p then q else p) = n := by
    subst hn
    split <;> omega
  unfold Oper.wp execOp
  simp only [ho, resolve, invoke, builtin, Sem.run_bind, Sem.run_pure, Result.andThen_ok, List.map_toArray, List.map_cons, List.map_nil, h1, h2, run_min_int2, e]
  exact hK _ _ h
theorem wpList_max2i {P : Program} {ops : Array Oper} {rest : List Oper} {o : Oper} {a : Act} {w : World} {Q : Exit → Act → World → Prop} {x y : Operand} {ts : Array TypeId} (p q n : Int) (hn : max p q = n) (hgd : o.guard = none)
    (ho : o.op = .call { callee := .builtin .max, args := #[x, y], argTypes := ts }) (h1 : a.eval x = .int .i64 p) (h2 : a.eval y = .int .i64 q)
    (h : wpList P ops Q rest (a.put o.dst (.int .i64 n)) w) : wpList P ops Q (o :: rest) a w := by
  refine wpList_plain hgd fun K hK => ?_
  have e : (if q > p then q else p) = n := by
    subst hn
    split <;> omega
  unfold Oper.wp execOp
  simp only [ho, resolve, invoke, builtin, Sem.run_bind, Sem.run_pure, Result.andThen_ok, List.map_toArray, List.map_cons, List.map_nil, h1, h2, run_max_int2, e]
  exact hK _ _ h
end Go.Proofs.YtdlimgpmmkcgmaaGreat

namespace Go.Proofs.YtdlimgpmmkcgmaaGreat
open Go.RowKit
set_option linter.unusedVariables false

theorem sideV_pos {x : Int} (h : 0 ≤ x) : sideV x = x := by unfold sideV; rw [if_neg (by omega), if_neg (by omega)]
theorem sideV_neg {x : Int} (h : x < 0) (h' : x ≠ -9223372036854775808) : sideV x = -x := by unfold sideV; rw [if_neg h', if_pos h]
theorem gcd_fold {a b x y : Int} (hx : sideV a = x) (hy : sideV b = y) (h : 0 ≤ x) (h' : 0 < y) : gcdV y (x % y) = gcdV a b := by
  unfold gcdV
  rw [hx, hy, sideV_pos (Int.le_of_lt h'), sideV_pos (Int.emod_nonneg x (by omega))]
  obtain ⟨n, rfl⟩ := Int.eq_ofNat_of_zero_le h
  obtain ⟨m, rfl⟩ := Int.eq_ofNat_of_zero_le (Int.le_of_lt h')
  rw [show ((n : Int) % (m : Int)) = ((n % m : Nat) : Int) from rfl]
  simp only [Int.toNat_natCast]
  rw [Nat.gcd_comm m, ← Nat.gcd_rec, Nat.gcd_comm]
theorem gcd_end {a b x : Int} (hx : sideV a = x) (hb : b = 0) (h : 0 ≤ x) : x = gcdV a b := by
  unfold gcdV
  rw [hx, hb, sideV_pos (Int.le_refl 0)]
  simp
  omega

theorem rgcd_nat (k : Nat) : ∀ (a b : Int) (w : World), b.toNat ≤ k → 0 ≤ a → a ≤ 9223372036854775807 → 0 ≤ b → b ≤ 9223372036854775807 →
    Calls Tryz.prog 146 #[.int .i64 a, .int .i64 b] w fun e w' => e = .returned (.int .i64 (gcdV a b)) ∧ w = w' := by
  induction k with
  | zero =>
    intro a b w hk ha ha' hb hb'
    obtain rfl : b = 0 := by omega
    have g1 : (a == -9223372036854775808) = false := by simp; omega
    have g3 : ¬ a < -a := by omega
    go_enter Tryz.func146, Tryz.ntmps146
    go_wp2_with fail
    go_ret
    exact ⟨ret_one (gcd_end (sideV_pos ha) rfl ha), rfl⟩
  | succ k ih =>
    intro a b w hk ha ha' hb hb'
    have HI := Lib.hid ih
    clear ih
    have g1 : (a == -9223372036854775808) = false := by simp; omega
    have g2 : (b == -9223372036854775808) = false := by simp; omega
    have g3 : ¬ a < -a := by omega
    have g4 : ¬ b < -b := by omega
    by_cases h0 : b = 0
    · subst h0
      go_enter Tryz.func146, Tryz.ntmps146
      go_wp2_with fail
      go_ret
      exact ⟨ret_one (gcd_end (sideV_pos ha) rfl ha), rfl⟩
    · have g5 : (b == 0) = false := by simpa using h0
      have hm := Int.emod_nonneg a h0
      have hm' := Int.emod_lt_of_pos a (show 0 < b by omega)
      go_enter Tryz.func146, Tryz.ntmps146
      go_wp2_with fail
      refine (HI.out b (a % b) _ (by omega) hb hb' hm (by omega)).mono ?_
      rintro e w' ⟨rfl, rfl⟩
      go_wp2_with fail
      go_ret
      exact ⟨ret_one (gcd_fold (sideV_pos ha) (sideV_pos hb) ha (by omega)), rfl⟩

theorem rgcd_low_neg (c : Int) (hc : 0 < c) (hc' : c ≤ 9223372036854775807) (w : World) :
    Calls Tryz.prog 146 #[.int .i64 (-9223372036854775808), .int .i64 (-c)] w fun e w' => e = .returned (.int .i64 (gcdV (-9223372036854775808) (-c))) ∧ w = w' := by
  have g3 : (-c == -9223372036854775808) = false := by simp; omega
  have g4 : -c < c := by omega
  have g5 : (c == 0) = false := by simp; omega
  have hm := Int.emod_nonneg 4611686018427387904 (show c ≠ 0 by omega)
  have hm' := Int.emod_lt_of_pos 4611686018427387904 (show 0 < c by omega)
  go_enter Tryz.func146, Tryz.ntmps146
  go_wp2_with fail
  refine (rgcd_nat 9223372036854775807 c (4611686018427387904 % c) _ (by omega) (by omega) (by omega) (by omega) (by omega)).mono ?_
  rintro e w' ⟨rfl, rfl⟩
  go_wp2_with fail
  go_ret
  exact ⟨ret_one (gcd_fold rfl (by rw [sideV_neg (by omega) (by omega)]; omega) (by omega) (by omega)), rfl⟩
theorem rgcd_low_pos (b : Int) (hb : 0 < b) (hb' : b ≤ 9223372036854775807) (w : World) :
    Calls Tryz.prog 146 #[.int .i64 (-9223372036854775808), .int .i64 b] w fun e w' => e = .returned (.int .i64 (gcdV (-9223372036854775808) b)) ∧ w = w' := by
  have g3 : (b == -9223372036854775808) = false := by simp; omega
  have g4 : ¬ b < -b := by omega
  have g5 : (b == 0) = false := by simp; omega
  have hm := Int.emod_nonneg 4611686018427387904 (show b ≠ 0 by omega)
  have hm' := Int.emod_lt_of_pos 4611686018427387904 (show 0 < b by omega)
  go_enter Tryz.func146, Tryz.ntmps146
  go_wp2_with fail
  refine (rgcd_nat 9223372036854775807 b (4611686018427387904 % b) _ (by omega) (by omega) (by omega) (by omega) (by omega)).mono ?_
  rintro e w' ⟨rfl, rfl⟩
  go_wp2_with fail
  go_ret
  exact ⟨ret_one (gcd_fold rfl (sideV_pos (by omega)) (by omega) (by omega)), rfl⟩
theorem rgcd_neg_low (d : Int) (hd : 0 < d) (hd' : d ≤ 9223372036854775807) (w : World) :
    Calls Tryz.prog 146 #[.int .i64 (-d), .int .i64 (-9223372036854775808)] w fun e w' => e = .returned (.int .i64 (gcdV (-d) (-9223372036854775808))) ∧ w = w' := by
  have g1 : (-d == -9223372036854775808) = false := by simp; omega
  have g2 : -d < d := by omega
  have hm := Int.emod_nonneg d (show 4611686018427387904 ≠ 0 by omega)
  have hm' := Int.emod_lt_of_pos d (show 0 < 4611686018427387904 by omega)
  go_enter Tryz.func146, Tryz.ntmps146
  go_wp2_with fail
  refine (rgcd_nat 9223372036854775807 4611686018427387904 (d % 4611686018427387904) _ (by omega) (by omega) (by omega) (by omega) (by omega)).mono ?_
  rintro e w' ⟨rfl, rfl⟩
  go_wp2_with fail
  go_ret
  exact ⟨ret_one (gcd_fold (by rw [sideV_neg (by omega) (by omega)]; omega) rfl (by omega) (by omega)), rfl⟩
theorem rgcd_neg_neg (d : Int) (hd : 0 < d) (hd' : d ≤ 9223372036854775807) (c : Int) (hc : 0 < c) (hc' : c ≤ 9223372036854775807) (w : World) :
    Calls Tryz.prog 146 #[.int .i64 (-d), .int .i64 (-c)] w fun e w' => e = .returned (.int .i64 (gcdV (-d) (-c))) ∧ w = w' := by
  have g1 : (-d == -9223372036854775808) = false := by simp; omega
  have g2 : -d < d := by omega
  have g3 : (-c == -9223372036854775808) = false := by simp; omega
  have g4 : -c < c := by omega
  have g5 : (c == 0) = false := by simp; omega
  have hm := Int.emod_nonneg d (show c ≠ 0 by omega)
  have hm' := Int.emod_lt_of_pos d (show 0 < c by omega)
  go_enter Tryz.func146, Tryz.ntmps146
  go_wp2_with fail
  refine (rgcd_nat 9223372036854775807 c (d % c) _ (by omega) (by omega) (by omega) (by omega) (by omega)).mono ?_
  rintro e w' ⟨rfl, rfl⟩
  go_wp2_with fail
  go_ret
  exact ⟨ret_one (gcd_fold (by rw [sideV_neg (by omega) (by omega)]; omega) (by rw [sideV_neg (by omega) (by omega)]; omega) (by omega) (by omega)), rfl⟩
theorem rgcd_neg_pos (d : Int) (hd : 0 < d) (hd' : d ≤ 9223372036854775807) (b : Int) (hb : 0 < b) (hb' : b ≤ 9223372036854775807) (w : World) :
    Calls Tryz.prog 146 #[.int .i64 (-d), .int .i64 b] w fun e w' => e = .returned (.int .i64 (gcdV (-d) b)) ∧ w = w' := by
  have g1 : (-d == -9223372036854775808) = false := by simp; omega
  have g2 : -d < d := by omega
  have g3 : (b == -9223372036854775808) = false := by simp; omega
  have g4 : ¬ b < -b := by omega
  have g5 : (b == 0) = false := by simp; omega
  have hm := Int.emod_nonneg d (show b ≠ 0 by omega)
  have hm' := Int.emod_lt_of_pos d (show 0 < b by omega)
  go_enter Tryz.func146, Tryz.ntmps146
  go_wp2_with fail
  refine (rgcd_nat 9223372036854775807 b (d % b) _ (by omega) (by omega) (by omega) (by omega) (by omega)).mono ?_
  rintro e w' ⟨rfl, rfl⟩
  go_wp2_with fail
  go_ret
  exact ⟨ret_one (gcd_fold (by rw [sideV_neg (by omega) (by omega)]; omega) (sideV_pos (by omega)) (by omega) (by omega)), rfl⟩
theorem rgcd_pos_low (a : Int) (ha : 0 ≤ a) (ha' : a ≤ 9223372036854775807) (w : World) :
    Calls Tryz.prog 146 #[.int .i64 a, .int .i64 (-9223372036854775808)] w fun e w' => e = .returned (.int .i64 (gcdV a (-9223372036854775808))) ∧ w = w' := by
  have g1 : (a == -9223372036854775808) = false := by simp; omega
  have g2 : ¬ a < -a := by omega
  have hm := Int.emod_nonneg a (show 4611686018427387904 ≠ 0 by omega)
  have hm' := Int.emod_lt_of_pos a (show 0 < 4611686018427387904 by omega)
  go_enter Tryz.func146, Tryz.ntmps146
  go_wp2_with fail
  refine (rgcd_nat 9223372036854775807 4611686018427387904 (a % 4611686018427387904) _ (by omega) (by omega) (by omega) (by omega) (by omega)).mono ?_
  rintro e w' ⟨rfl, rfl⟩
  go_wp2_with fail
  go_ret
  exact ⟨ret_one (gcd_fold (sideV_pos ha) rfl (by omega) (by omega)), rfl⟩
theorem rgcd_pos_neg (a : Int) (ha : 0 ≤ a) (ha' : a ≤ 9223372036854775807) (c : Int) (hc : 0 < c) (hc' : c ≤ 9223372036854775807) (w : World) :
    Calls Tryz.prog 146 #[.int .i64 a, .int .i64 (-c)] w fun e w' => e = .returned (.int .i64 (gcdV a (-c))) ∧ w = w' := by
  have g1 : (a == -9223372036854775808) = false := by simp; omega
  have g2 : ¬ a < -a := by omega
  have g3 : (-c == -9223372036854775808) = false := by simp; omega
  have g4 : -c < c := by omega
  have g5 : (c == 0) = false := by simp; omega
  have hm := Int.emod_nonneg a (show c ≠ 0 by omega)
  have hm' := Int.emod_lt_of_pos a (show 0 < c by omega)
  go_enter Tryz.func146, Tryz.ntmps146
  go_wp2_with fail
  refine (rgcd_nat 9223372036854775807 c (a % c) _ (by omega) (by omega) (by omega) (by omega) (by omega)).mono ?_
  rintro e w' ⟨rfl, rfl⟩
  go_wp2_with fail
  go_ret
  exact ⟨ret_one (gcd_fold (sideV_pos ha) (by rw [sideV_neg (by omega) (by omega)]; omega) (by omega) (by omega)), rfl⟩

theorem rgcd_any (a b : Int) (w : World) (ha : -9223372036854775808 ≤ a) (ha' : a ≤ 9223372036854775807) (hb : -9223372036854775808 ≤ b) (hb' : b ≤ 9223372036854775807) :
    Calls Tryz.prog 146 #[.int .i64 a, .int .i64 b] w fun e w' => e = .returned (.int .i64 (gcdV a b)) ∧ w = w' := by
  by_cases c0 : b = 0
  · subst c0
    rcases (show a = -9223372036854775808 ∨ (a < 0 ∧ a ≠ -9223372036854775808) ∨ 0 ≤ a by omega) with h | ⟨h, hn⟩ | h
    · subst h
      clear ha ha' hb hb'
      go_enter Tryz.func146, Tryz.ntmps146
      go_wp2_with fail
      go_ret
      exact ⟨ret_one (gcd_end (x := 4611686018427387904) rfl rfl (by omega)), rfl⟩
    · have g1 : (a == -9223372036854775808) = false := by simpa using hn
      have g3 : a < -a := by omega
      go_enter Tryz.func146, Tryz.ntmps146
      go_wp2_with fail
      go_ret
      exact ⟨ret_one (gcd_end (sideV_neg h hn) rfl (by omega)), rfl⟩
    · exact rgcd_nat 0 a 0 w (by simp) h ha' (by omega) (by omega)
  · have ca : a = -9223372036854775808 ∨ (∃ d : Int, a = -d ∧ 0 < d ∧ d ≤ 9223372036854775807) ∨ 0 ≤ a := by
      by_cases h : 0 ≤ a
      · exact .inr (.inr h)
      · by_cases h' : a = -9223372036854775808
        · exact .inl h'
        · exact .inr (.inl ⟨-a, by omega, by omega, by omega⟩)
    have cb : b = -9223372036854775808 ∨ (∃ c : Int, b = -c ∧ 0 < c ∧ c ≤ 9223372036854775807) ∨ 0 < b := by
      by_cases h : 0 < b
      · exact .inr (.inr h)
      · by_cases h' : b = -9223372036854775808
        · exact .inl h'
        · exact .inr (.inl ⟨-b, by omega, by omega, by omega⟩)
    rcases ca with rfl | ⟨d, rfl, hd, hd'⟩ | h
    · rcases cb with rfl | ⟨c, rfl, hc, hc'⟩ | g
      · clear ha ha' hb hb' c0
        go_enter Tryz.func146, Tryz.ntmps146
        go_wp2_with fail
        refine (rgcd_nat 0 4611686018427387904 0 _ (by simp) (by omega) (by omega) (by omega) (by omega)).mono ?_
        rintro e w' ⟨rfl, rfl⟩
        go_wp2_with fail
        go_ret
        exact ⟨ret_one (by decide), rfl⟩
      · exact rgcd_low_neg c hc hc' w
      · exact rgcd_low_pos b g hb' w
    · rcases cb with rfl | ⟨c, rfl, hc, hc'⟩ | g
      · exact rgcd_neg_low d hd hd' w
      · exact rgcd_neg_neg d hd hd' c hc hc' w
      · exact rgcd_neg_pos d hd hd' b g hb' w
    · rcases cb with rfl | ⟨c, rfl, hc, hc'⟩ | g
      · exact rgcd_pos_low a h ha' w
      · exact rgcd_pos_neg a h ha' c hc hc' w
      · exact rgcd_nat b.toNat a b w (Nat.le_refl _) h ha' (by omega) hb'
end Go.Proofs.YtdlimgpmmkcgmaaGreat

namespace Go.Proofs.YtdlimgpmmkcgmaaGreat
open Go.RowKit
set_option linter.unusedVariables false

/-- A slice value over A reads as the numbers zs. -/
def Nums (w : World) (A : Option Addr) (zs : List Int) : Prop :=
  ∀ k, k < zs.length → ∃ b off, A = some ⟨b, off, none⟩ ∧ w.cell? ⟨b, off + k, none⟩ = some (.int .i64 (zs.getD k 0))
section
variable {w w' : World} {A : Option Addr} {zs : List Int}
theorem Nums.keep (h : Nums w A zs) (hk : ∀ p : Addr, p.block < w.heap.size → w'.cell? p = w.cell? p) : Nums w' A zs := by
  intro k hl
  obtain ⟨b, off, e, hc⟩ := h k hl
  exact ⟨b, off, e, (hk _ (cell_lt hc)).trans hc⟩
theorem Nums.below (h : Nums w A zs) (hb : Below w.heap.size w w') : Nums w' A zs := h.keep fun _ hp => hb.cell hp
theorem Nums.alloc (h : Nums w A zs) (o : Obj) : Nums (w.alloc o) A zs := h.keep fun p hp => World.cell?_alloc_lt w o p hp
theorem Nums.drew (h : Nums w A zs) : Nums w.drew A zs := h
theorem Nums.nil_ : Nums w A [] := fun k h => by simp at h
end
theorem nums_of_sl {w : World} {A : Option Addr} {n c : Nat} {zs : List Int} (h : Sl 1 w A n c (ints .i64 zs)) : Nums w A zs := by
  intro k hk
  obtain ⟨hl, ⟨_, rfl, _⟩ | ⟨ad, rfl, hc⟩⟩ := h
  · simp [ints] at hl
    subst hl
    simp at hk
  · have hk' := hc k (.int .i64 (zs.getD k 0)) (by simp [ints, List.getD, hk])
    obtain ⟨b, off, sp⟩ := ad
    have h0 := hc 0 (.int .i64 (zs.getD 0 0)) (by simp [ints, List.getD, show 0 < zs.length by omega])
    have hsp : sp = none := by simpa [Addr.add] using World.cell?_spot h0
    subst hsp
    refine ⟨b, off, rfl, ?_⟩
    have e : (⟨b, off, none⟩ : Addr).add k = ⟨b, off + k, none⟩ := by unfold Addr.add; split <;> simp_all
    rw [← e]
    exact hk'
/-- What came in as a slice of numbers. -/
theorem nums_of_row {w : World} {a : Option Addr} {len cap : Nat} {zs : List Int} (h : IsRow .i64 w a len cap zs) :
    ∃ l : List Int, l.length = len ∧ Nums w a l ∧ len ≤ 9223372036854775807 ∧ ∀ z ∈ l, -9223372036854775808 ≤ z ∧ z ≤ 9223372036854775807 := by
  obtain ⟨s, hl, hm, hw⟩ := sl_of_row h
  exact ⟨zs.take len, hl, nums_of_sl s, hm, fun z hz => bounds_i64 (hw z hz)⟩
end Go.Proofs.YtdlimgpmmkcgmaaGreat

namespace Go.Proofs.YtdlimgpmmkcgmaaGreat
open Go.RowKit
set_option linter.unusedVariables false

def RVal (v : Value) : Option (DataW Value × List MemPlace) := some (.held v, [])
def updF (f : Int → Option Value) (k : Int) (v : Value) : Int → Option Value := fun i => if i = k then some v else f i
theorem int_keyed3 : Maps.Keyed Tryz.prog 3 := Maps.int_keyed Tryz.underlying3
theorem int_key3 {i : Int} (h : -9223372036854775808 ≤ i ∧ i ≤ 9223372036854775807) : keyOf Tryz.prog 3 (.int .i64 i) = some (.int .i64 i) :=
  Maps.keyOf_int_mk Tryz.underlying3 (by simp [Lit.wf, IntKind.min, IntKind.max, IntKind.bits, IntKind.signed]; omega)
/-- Block b is a map from numbers to slices, of at most n entries; f tells what it has. -/
def MapI (w : World) (b n : Nat) (f : Int → Option Value) : Prop :=
  ∃ D : DataW Value, w.ownsMap Tryz.prog 3 RVal b n D ∧ Maps.IsMap D ∧ ∀ i : Int, (-9223372036854775808 ≤ i ∧ i ≤ 9223372036854775807) → Maps.has D (.int .i64 i) = (f i).isSome ∧ ∀ v, f i = some v → ∀ z, D.atKey (.int .i64 i) z = .held v

section
variable {w w' : World} {b n : Nat} {f : Int → Option Value}
theorem MapI.lt (h : MapI w b n f) : b < w.heap.size := by
  obtain ⟨D, h, _⟩ := h
  exact h.lt
theorem MapI.new (w : World) {s : Nat} (hs : w.heap.size = s) : MapI (w.alloc (.map #[] 0)) s 0 (fun _ => none) := by
  subst hs
  exact ⟨.map [], World.ownsMap_made w _ _ _, Maps.isMap_empty, fun i _ => ⟨rfl, fun v h => by cases h⟩⟩
theorem MapI.kept {row : Option Nat} (h : MapI w b n f) (hg : w.grownBy w' row) (hne : some b ≠ row) : MapI w' b n f := by
  obtain ⟨D, h, r⟩ := h
  exact ⟨D, h.kept hg hne, r⟩
theorem MapI.alloc (h : MapI w b n f) (o : Obj) : MapI (w.alloc o) b n f := by
  obtain ⟨D, h, r⟩ := h
  exact ⟨D, h.alloc o, r⟩
theorem MapI.below (h : MapI w b n f) (hb : Below w.heap.size w w') : MapI w' b n f := by
  have hl := h.lt
  obtain ⟨D, ⟨es, clock, hh, F, hs, hD⟩, r⟩ := h
  exact ⟨D, ⟨es, clock, (hb.block b hl).trans hh, F, hs, hD⟩, r⟩
theorem MapI.far (h : MapI w b n f) {p : Addr} (hp : b ≠ p.block) (u : Value) : MapI (w.setCell p u) b n f := by
  obtain ⟨D, h, r⟩ := h
  exact ⟨D, h.setCell hp u, r⟩
theorem lit_int_ne {i k : Int} (h : i ≠ k) : Lit.int .i64 i ≠ Lit.int .i64 k := fun e => h (by injection e)
/-- What 'm[k] = v' does. -/
theorem MapI.put (h : MapI w b n f) (hn : n < 1000) {t : TypeId} {e : TypeId} (ht : Tryz.prog.underlying t = some (.map 3 e)) {k : Int} (hk : -9223372036854775808 ≤ k ∧ k ≤ 9223372036854775807) (v : Value) :
    ∃ w', (Instr.mapUpdate t (.map (some b)) (.int .i64 k) v).run Tryz.prog w = .ok () w' ∧ MapI w' b (n + 1) (updF f k v) ∧ w.grownBy w' (some b) := by
  obtain ⟨D, h, hm, hf⟩ := h
  obtain ⟨w', hr, h2, hg⟩ := h.update int_keyed3 ht (by unfold maxLen; omega) (int_key3 hk) (d := .held v) (ps := []) rfl
  refine ⟨w', hr, ⟨D.put (.int .i64 k) (.held v), h2, hm.put _ _, fun i hi => ?_⟩, hg⟩
  obtain ⟨h3, h4⟩ := hf i hi
  unfold updF
  by_cases e : i = k
  · subst e
    rw [if_pos rfl]
    refine ⟨by rw [Maps.has_put_same hm (by trivial)]; rfl, fun u hu z => ?_⟩
    cases hu
    exact Maps.atKey_put_same hm (by trivial) _ _
  · rw [if_neg e]
    exact ⟨by rw [Maps.has_put_other (lit_int_ne e)]; exact h3, fun u hu z => by rw [Maps.atKey_put_other (lit_int_ne e)]; exact h4 u hu z⟩
end
end Go.Proofs.YtdlimgpmmkcgmaaGreat
