/-
  The contracts of the document's own answers of layer 1 (package lumperref01): they are what package num's contracts say.
  Slices of spans in memory: one that is read ('Spans'), one of the call's own ('Row'); what an append, and a store, make of it.
  Package punch and the document's own answers: times, rounded, days, weeks, the weeks about a time.
-/
import Derived.Test.YtcefjnjlcpkanaaZac
import Derived.Test.YtcefjnjlcpkanaaZaa
import Derived.Laws.Rows
import Derived.Test.YtcefjnjlcpkanaaProg
import Derived.Lib.Hide
import Derived.BigQuiet
import Derived.Deep.QuietTactic
namespace Go.Proofs.Ytcefjnjlcpkanaa
open Go.RowKit
set_option linter.unusedVariables false

theorem sideV_pos {x : Int} (h : 0 ≤ x) : sideV x = x := by unfold sideV; rw [if_neg (by omega), if_neg (by omega)]
theorem sideV_neg {x : Int} (h : x < 0) (h' : x ≠ -9223372036854775808) : sideV x = -x := by unfold sideV; rw [if_neg h', if_pos h]
theorem gcd_fold {a b x y : Int} (hx : sideV a = x) (hy : sideV b = y) (h : 0 ≤ x) (h' : 0 < y) : gcdV y (x % y) = gcdV a b := by
  unfold gcdV
  rw [hx, hy, sideV_pos (Int.le_of_lt h'), sideV_pos (Int.emod_nonneg x (by omega))]
  obtain ⟨n, rfl⟩ := Int.eq_ofNat_of_zero_le h
  obtain ⟨m, rfl⟩ := Int.eq_ofNat_of_zero_le (Int.le_of_lt h')
  rw [show ((n : Int) % (m : Int)) = ((n % m : Nat) : Int) from rfl]
  simp only [Int.toNat_natCast]
  rw [Nat.gcd_comm m, ← Nat.gcd_rec, Nat.gcd_comm]
theorem gcd_end {a b x : Int} (hx : sideV a = x) (hb : b = 0) (h : 0 ≤ x) : x = gcdV a b := by
  unfold gcdV
  rw [hx, hb, sideV_pos (Int.le_refl 0)]
  simp
  omega

theorem rgcd_nat (k : Nat) : ∀ (a b : Int) (w : World), b.toNat ≤ k → 0 ≤ a → a ≤ 9223372036854775807 → 0 ≤ b → b ≤ 9223372036854775807 →
    Calls Try.prog 83 #[.int .i64 a, .int .i64 b] w fun e w' => e = .returned (.int .i64 (gcdV a b)) ∧ w = w' := by
  induction k with
  | zero =>
    intro a b w hk ha ha' hb hb'
    obtain rfl : b = 0 := by omega
    have g1 : (a == -9223372036854775808) = false := by simp; omega
    have g3 : ¬ a < -a := by omega
    go_enter Try.func83, Try.ntmps83
    go_wp2_with fail
    go_ret
    exact ⟨ret_one (gcd_end (sideV_pos ha) rfl ha), rfl⟩
  | succ k ih =>
    intro a b w hk ha ha' hb hb'
    have HI := Lib.hid ih
    clear ih
    have g1 : (a == -9223372036854775808) = false := by simp; omega
    have g2 : (b == -9223372036854775808) = false := by simp; omega
    have g3 : ¬ a < -a := by omega
    have g4 : ¬ b < -b := by omega
    by_cases h0 : b = 0
    · subst h0
      go_enter Try.func83, Try.ntmps83
      go_wp2_with fail
      go_ret
      exact ⟨ret_one (gcd_end (sideV_pos ha) rfl ha), rfl⟩
    · have g5 : (b == 0) = false := by simpa using h0
      have hm := Int.emod_nonneg a h0
      have hm' := Int.emod_lt_of_pos a (show 0 < b by omega)
      go_enter Try.func83, Try.ntmps83
      go_wp2_with fail
      refine (HI.out b (a % b) _ (by omega) hb hb' hm (by omega)).mono ?_
      rintro e w' ⟨rfl, rfl⟩
      go_wp2_with fail
      go_ret
      exact ⟨ret_one (gcd_fold (sideV_pos ha) (sideV_pos hb) ha (by omega)), rfl⟩

theorem rgcd_low_neg (c : Int) (hc : 0 < c) (hc' : c ≤ 9223372036854775807) (w : World) :
    Calls Try.prog 83 #[.int .i64 (-9223372036854775808), .int .i64 (-c)] w fun e w' => e = .returned (.int .i64 (gcdV (-9223372036854775808) (-c))) ∧ w = w' := by
  have g3 : (-c == -9223372036854775808) = false := by simp; omega
  have g4 : -c < c := by omega
  have g5 : (c == 0) = false := by simp; omega
  have hm := Int.emod_nonneg 4611686018427387904 (show c ≠ 0 by omega)
  have hm' := Int.emod_lt_of_pos 4611686018427387904 (show 0 < c by omega)
  go_enter Try.func83, Try.ntmps83
  go_wp2_with fail
  refine (rgcd_nat 9223372036854775807 c (4611686018427387904 % c) _ (by omega) (by omega) (by omega) (by omega) (by omega)).mono ?_
  rintro e w' ⟨rfl, rfl⟩
  go_wp2_with fail
  go_ret
  exact ⟨ret_one (gcd_fold rfl (by rw [sideV_neg (by omega) (by omega)]; omega) (by omega) (by omega)), rfl⟩
theorem rgcd_low_pos (b : Int) (hb : 0 < b) (hb' : b ≤ 9223372036854775807) (w : World) :
    Calls Try.prog 83 #[.int .i64 (-9223372036854775808), .int .i64 b] w fun e w' => e = .returned (.int .i64 (gcdV (-9223372036854775808) b)) ∧ w = w' := by
  have g3 : (b == -9223372036854775808) = false := by simp; omega
  have g4 : ¬ b < -b := by omega
  have g5 : (b == 0) = false := by simp; omega
  have hm := Int.emod_nonneg 4611686018427387904 (show b ≠ 0 by omega)
  have hm' := Int.emod_lt_of_pos 4611686018427387904 (show 0 < b by omega)
  go_enter Try.func83, Try.ntmps83
  go_wp2_with fail
  refine (rgcd_nat 9223372036854775807 b (4611686018427387904 % b) _ (by omega) (by omega) (by omega) (by omega) (by omega)).mono ?_
  rintro e w' ⟨rfl, rfl⟩
  go_wp2_with fail
  go_ret
  exact ⟨ret_one (gcd_fold rfl (sideV_pos (by omega)) (by omega) (by omega)), rfl⟩
theorem rgcd_neg_low (d : Int) (hd : 0 < d) (hd' : d ≤ 9223372036854775807) (w : World) :
    Calls Try.prog 83 #[.int .i64 (-d), .int .i64 (-9223372036854775808)] w fun e w' => e = .returned (.int .i64 (gcdV (-d) (-9223372036854775808))) ∧ w = w' := by
  have g1 : (-d == -9223372036854775808) = false := by simp; omega
  have g2 : -d < d := by omega
  have hm := Int.emod_nonneg d (show 4611686018427387904 ≠ 0 by omega)
  have hm' := Int.emod_lt_of_pos d (show 0 < 4611686018427387904 by omega)
  go_enter Try.func83, Try.ntmps83
  go_wp2_with fail
  refine (rgcd_nat 9223372036854775807 4611686018427387904 (d % 4611686018427387904) _ (by omega) (by omega) (by omega) (by omega) (by omega)).mono ?_
  rintro e w' ⟨rfl, rfl⟩
  go_wp2_with fail
  go_ret
  exact ⟨ret_one (gcd_fold (by rw [sideV_neg (by omega) (by omega)]; omega) rfl (by omega) (by omega)), rfl⟩
theorem rgcd_neg_neg (d : Int) (hd : 0 < d) (hd' : d ≤ 9223372036854775807) (c : Int) (hc : 0 < c) (hc' : c ≤ 9223372036854775807) (w : World) :
    Calls Try.prog 83 #[.int .i64 (-d), .int .i64 (-c)] w fun e w' => e = .returned (.int .i64 (gcdV (-d) (-c))) ∧ w = w' := by
  have g1 : (-d == -9223372036854775808) = false := by simp; omega
  have g2 : -d < d := by omega
  have g3 : (-c == -9223372036854775808) = false := by simp; omega
  have g4 : -c < c := by omega
  have g5 : (c == 0) = false := by simp; omega
  have hm := Int.emod_nonneg d (show c ≠ 0 by omega)
  have hm' := Int.emod_lt_of_pos d (show 0 < c by omega)
  go_enter Try.func83, Try.ntmps83
  go_wp2_with fail
  refine (rgcd_nat 9223372036854775807 c (d % c) _ (by omega) (by omega) (by omega) (by omega) (by omega)).mono ?_
  rintro e w' ⟨rfl, rfl⟩
  go_wp2_with fail
  go_ret
  exact ⟨ret_one (gcd_fold (by rw [sideV_neg (by omega) (by omega)]; omega) (by rw [sideV_neg (by omega) (by omega)]; omega) (by omega) (by omega)), rfl⟩
theorem rgcd_neg_pos (d : Int) (hd : 0 < d) (hd' : d ≤ 9223372036854775807) (b : Int) (hb : 0 < b) (hb' : b ≤ 9223372036854775807) (w : World) :
    Calls Try.prog 83 #[.int .i64 (-d), .int .i64 b] w fun e w' => e = .returned (.int .i64 (gcdV (-d) b)) ∧ w = w' := by
  have g1 : (-d == -9223372036854775808) = false := by simp; omega
  have g2 : -d < d := by omega
  have g3 : (b == -9223372036854775808) = false := by simp; omega
  have g4 : ¬ b < -b := by omega
  have g5 : (b == 0) = false := by simp; omega
  have hm := Int.emod_nonneg d (show b ≠ 0 by omega)
  have hm' := Int.emod_lt_of_pos d (show 0 < b by omega)
  go_enter Try.func83, Try.ntmps83
  go_wp2_with fail
  refine (rgcd_nat 9223372036854775807 b (d % b) _ (by omega) (by omega) (by omega) (by omega) (by omega)).mono ?_
  rintro e w' ⟨rfl, rfl⟩
  go_wp2_with fail
  go_ret
  exact ⟨ret_one (gcd_fold (by rw [sideV_neg (by omega) (by omega)]; omega) (sideV_pos (by omega)) (by omega) (by omega)), rfl⟩
theorem rgcd_pos_low (a : Int) (ha : 0 ≤ a) (ha' : a ≤ 9223372036854775807) (w : World) :
    Calls Try.prog 83 #[.int .i64 a, .int .i64 (-9223372036854775808)] w fun e w' => e = .returned (.int .i64 (gcdV a (-9223372036854775808))) ∧ w = w' := by
  have g1 : (a == -9223372036854775808) = false := by simp; omega
  have g2 : ¬ a < -a := by omega
  have hm := Int.emod_nonneg a (show 4611686018427387904 ≠ 0 by omega)
  have hm' := Int.emod_lt_of_pos a (show 0 < 4611686018427387904 by omega)
  go_enter Try.func83, Try.ntmps83
  go_wp2_with fail
  refine (rgcd_nat 9223372036854775807 4611686018427387904 (a % 4611686018427387904) _ (by omega) (by omega) (by omega) (by omega) (by omega)).mono ?_
  rintro e w' ⟨rfl, rfl⟩
  go_wp2_with fail
  go_ret
  exact ⟨ret_one (gcd_fold (sideV_pos ha) rfl (by omega) (by omega)), rfl⟩
theorem rgcd_pos_neg (a : Int) (ha : 0 ≤ a) (ha' : a ≤ 9223372036854775807) (c : Int) (hc : 0 < c) (hc' : c ≤ 9223372036854775807) (w : World) :
    Calls Try.prog 83 #[.int .i64 a, .int .i64 (-c)] w fun e w' => e = .returned (.int .i64 (gcdV a (-c))) ∧ w = w' := by
  have g1 : (a == -9223372036854775808) = false := by simp; omega
  have g2 : ¬ a < -a := by omega
  have g3 : (-c == -9223372036854775808) = false := by simp; omega
  have g4 : -c < c := by omega
  have g5 : (c == 0) = false := by simp; omega
  have hm := Int.emod_nonneg a (show c ≠ 0 by omega)
  have hm' := Int.emod_lt_of_pos a (show 0 < c by omega)
  go_enter Try.func83, Try.ntmps83
  go_wp2_with fail
  refine (rgcd_nat 9223372036854775807 c (a % c) _ (by omega) (by omega) (by omega) (by omega) (by omega)).mono ?_
  rintro e w' ⟨rfl, rfl⟩
  go_wp2_with fail
  go_ret
  exact ⟨ret_one (gcd_fold (sideV_pos ha) (by rw [sideV_neg (by omega) (by omega)]; omega) (by omega) (by omega)), rfl⟩

theorem rgcd_any (a b : Int) (w : World) (ha : -9223372036854775808 ≤ a) (ha' : a ≤ 9223372036854775807) (hb : -9223372036854775808 ≤ b) (hb' : b ≤ 9223372036854775807) :
    Calls Try.prog 83 #[.int .i64 a, .int .i64 b] w fun e w' => e = .returned (.int .i64 (gcdV a b)) ∧ w = w' := by
  by_cases c0 : b = 0
  · subst c0
    rcases (show a = -9223372036854775808 ∨ (a < 0 ∧ a ≠ -9223372036854775808) ∨ 0 ≤ a by omega) with h | ⟨h, hn⟩ | h
    · subst h
      clear ha ha' hb hb'
      go_enter Try.func83, Try.ntmps83
      go_wp2_with fail
      go_ret
      exact ⟨ret_one (gcd_end (x := 4611686018427387904) rfl rfl (by omega)), rfl⟩
    · have g1 : (a == -9223372036854775808) = false := by simpa using hn
      have g3 : a < -a := by omega
      go_enter Try.func83, Try.ntmps83
      go_wp2_with fail
      go_ret
      exact ⟨ret_one (gcd_end (sideV_neg h hn) rfl (by omega)), rfl⟩
    · exact rgcd_nat 0 a 0 w (by simp) h ha' (by omega) (by omega)
  · have ca : a = -9223372036854775808 ∨ (∃ d : Int, a = -d ∧ 0 < d ∧ d ≤ 9223372036854775807) ∨ 0 ≤ a := by
      by_cases h : 0 ≤ a
      · exact .inr (.inr h)
      · by_cases h' : a = -9223372036854775808
        · exact .inl h'
        · exact .inr (.inl ⟨-a, by omega, by omega, by omega⟩)
    have cb : b = -9223372036854775808 ∨ (∃ c : Int, b = -c ∧ 0 < c ∧ c ≤ 9223372036854775807) ∨ 0 < b := by
      by_cases h : 0 < b
      · exact .inr (.inr h)
      · by_cases h' : b = -9223372036854775808
        · exact .inl h'
        · exact .inr (.inl ⟨-b, by omega, by omega, by omega⟩)
    rcases ca with rfl | ⟨d, rfl, hd, hd'⟩ | h
    · rcases cb with rfl | ⟨c, rfl, hc, hc'⟩ | g
      · clear ha ha' hb hb' c0
        go_enter Try.func83, Try.ntmps83
        go_wp2_with fail
        refine (rgcd_nat 0 4611686018427387904 0 _ (by simp) (by omega) (by omega) (by omega) (by omega)).mono ?_
        rintro e w' ⟨rfl, rfl⟩
        go_wp2_with fail
        go_ret
        exact ⟨ret_one (by decide), rfl⟩
      · exact rgcd_low_neg c hc hc' w
      · exact rgcd_low_pos b g hb' w
    · rcases cb with rfl | ⟨c, rfl, hc, hc'⟩ | g
      · exact rgcd_neg_low d hd hd' w
      · exact rgcd_neg_neg d hd hd' c hc hc' w
      · exact rgcd_neg_pos d hd hd' b g hb' w
    · rcases cb with rfl | ⟨c, rfl, hc, hc'⟩ | g
      · exact rgcd_pos_low a h ha' w
      · exact rgcd_pos_neg a h ha' c hc hc' w
      · exact rgcd_nat b.toNat a b w (Nat.le_refl _) h ha' (by omega) hb'
end Go.Proofs.Ytcefjnjlcpkanaa

namespace Go.Proofs.Ytcefjnjlcpkanaa
open Go.RowKit
set_option linter.unusedVariables false

def cells2 (xs : List (Int × Int)) : List Value := xs.flatMap fun x => [.int .i64 x.1, .int .i64 x.2]
theorem cells2_len : ∀ xs : List (Int × Int), (cells2 xs).length = xs.length * 2
  | [] => rfl
  | x :: xs => by
    have := cells2_len xs
    simp only [cells2, List.flatMap_cons, List.length_append, List.length_cons, List.length_nil] at this ⊢
    omega
theorem cells2_append (xs ys : List (Int × Int)) : cells2 (xs ++ ys) = cells2 xs ++ cells2 ys := by simp [cells2]
theorem cells2_cons (x : Int × Int) (xs : List (Int × Int)) : cells2 (x :: xs) = .int .i64 x.1 :: .int .i64 x.2 :: cells2 xs := rfl
theorem cells2_get : ∀ (xs : List (Int × Int)) (k : Nat), k < xs.length → (cells2 xs)[k * 2]? = some (.int .i64 (xs.getD k (0, 0)).1) ∧ (cells2 xs)[k * 2 + 1]? = some (.int .i64 (xs.getD k (0, 0)).2)
  | [], k, h => by simp at h
  | x :: xs, 0, h => ⟨rfl, rfl⟩
  | x :: xs, k + 1, h => by
    have := cells2_get xs k (by simpa using h)
    rw [show (k + 1) * 2 = k * 2 + 1 + 1 by omega, cells2_cons]
    simp only [List.getElem?_cons_succ, List.getD_cons_succ]
    exact this
theorem cells2_one (xs : List (Int × Int)) : ∀ u ∈ cells2 xs, u.oneCell' = true := by
  intro u hu
  simp only [cells2, List.mem_flatMap] at hu
  obtain ⟨x, _, hx⟩ := hu
  rcases List.mem_cons.1 hx with rfl | hx
  · rfl
  · rw [List.mem_singleton.1 hx]; rfl
theorem cells2_set : ∀ (xs : List (Int × Int)) (k : Nat) (v : Int), k < xs.length → (cells2 xs).set (k * 2 + 1) (.int .i64 v) = cells2 (xs.set k ((xs.getD k (0, 0)).1, v))
  | [], k, v, h => by simp at h
  | x :: xs, 0, v, h => rfl
  | x :: xs, k + 1, v, h => by
    have := cells2_set xs k v (by simpa using h)
    rw [show (k + 1) * 2 + 1 = (k * 2 + 1) + 1 + 1 by omega, cells2_cons, List.set_cons_succ, List.set_cons_succ, this]
    rfl

/-- A number of 64 bits. -/
def Fit (n : Int) : Prop := -9223372036854775808 ≤ n ∧ n ≤ 9223372036854775807
def Fits (xs : List (Int × Int)) : Prop := ∀ x ∈ xs, Fit x.1 ∧ Fit x.2
theorem Fits.of_plain {xs : List (Int × Int)} (h : PlainFrom 0 xs) : Fits xs := fun x hx => by
  have := (plain_pairs.1 h).1 x hx
  exact ⟨⟨by omega, by omega⟩, ⟨by omega, by omega⟩⟩
theorem Fits.canon (p : Int → Prop) : Fits (canon p) := .of_plain (canon_plain p)
theorem Fits.append {xs ys : List (Int × Int)} (h : Fits xs) (k : Fits ys) : Fits (xs ++ ys) := fun x hx => (List.mem_append.1 hx).elim (h x) (k x)
theorem Fits.at {xs : List (Int × Int)} (h : Fits xs) {k : Nat} (hk : k < xs.length) : Fit (xs.getD k (0, 0)).1 ∧ Fit (xs.getD k (0, 0)).2 := h _ (by simp [List.getD, hk])
theorem Fits.nil : Fits [] := fun x hx => by cases hx

/-- A slice value over A reads as the spans xs. -/
def Spans (w : World) (A : Option Addr) (xs : List (Int × Int)) : Prop :=
  Fits xs ∧ ∀ k, k < xs.length → ∃ b off, A = some ⟨b, off, none⟩ ∧ b < w.heap.size ∧ w.cell? ⟨b, off + k * 2, none⟩ = some (.int .i64 (xs.getD k (0, 0)).1) ∧ w.cell? ⟨b, off + k * 2 + 1, none⟩ = some (.int .i64 (xs.getD k (0, 0)).2)
theorem Spans.below {w w' : World} {A : Option Addr} {xs : List (Int × Int)} (h : Spans w A xs) (hb : Below w.heap.size w w') : Spans w' A xs := by
  refine ⟨h.1, fun k hk => ?_⟩
  obtain ⟨b, off, e, h0, h1, h2⟩ := h.2 k hk
  exact ⟨b, off, e, Nat.lt_of_lt_of_le h0 hb.size, (hb.cell h0).trans h1, (hb.cell h0).trans h2⟩
theorem Spans.alloc {w : World} {A : Option Addr} {xs : List (Int × Int)} (h : Spans w A xs) (o : Obj) : Spans (w.alloc o) A xs := h.below ((Below.refl _ _).alloc (Nat.le_refl _) o)
theorem Spans.drewN {w : World} {A : Option Addr} {xs : List (Int × Int)} (h : Spans w A xs) (n : Nat) : Spans (w.drewN n) A xs := h.below (below_drewN (Below.refl _ _) n)
theorem Spans.drew {w : World} {A : Option Addr} {xs : List (Int × Int)} (h : Spans w A xs) : Spans w.drew A xs := h.below (below_drew (Below.refl _ _))
theorem Spans.nil (w : World) (A : Option Addr) : Spans w A [] := ⟨Fits.nil, fun k hk => by simp at hk⟩
theorem add_none {b off n : Nat} : (⟨b, off, none⟩ : Addr).add n = ⟨b, off + n, none⟩ := by unfold Addr.add; split <;> simp_all
/-- A slice of the call's own, that lies at 'base' or behind, and holds the spans xs. -/
def Row (w : World) (base : Nat) (A : Option Addr) (c : Nat) (xs : List (Int × Int)) : Prop :=
  w.ownsRow base 41 2 (.slice A xs.length c) xs.length (cells2 xs)
section
variable {w w' : World} {base c : Nat} {A : Option Addr} {xs : List (Int × Int)}
theorem Row.nil (w : World) (base : Nat) : Row w base none 0 [] := World.ownsRow_nil w base _ _
theorem Row.keep (h : Row w base A c xs) (hk : ∀ g, A = some g → w'.heap[g.block]? = w.heap[g.block]?) : Row w' base A c xs := by
  obtain ⟨hl, hn | ⟨g, cap, cur, hv, hg, hh, rest⟩⟩ := h
  · exact ⟨hl, .inl hn⟩
  · injection hv with e1 e2 e3
    subst e1
    exact ⟨hl, .inr ⟨g, cap, cur, by rw [e3], hg, (hk _ rfl).trans hh, rest⟩⟩
theorem Row.lt (h : Row w base A c xs) : ∀ g, A = some g → base ≤ g.block ∧ g.block < w.heap.size := by
  rintro g rfl
  exact World.ownsRow.lt h _ rfl
theorem Row.below (h : Row w base A c xs) (hb : Below w.heap.size w w') : Row w' base A c xs :=
  h.keep fun g hg => hb.block _ (h.lt g hg).2
theorem Row.alloc (h : Row w base A c xs) (o : Obj) : Row (w.alloc o) base A c xs := World.ownsRow.alloc h o
theorem Row.drewN (h : Row w base A c xs) (n : Nat) : Row (w.drewN n) base A c xs := h
theorem Row.drew (h : Row w base A c xs) : Row w.drew base A c xs := h
theorem Row.mono (h : Row w base A c xs) {b : Nat} (hb : b ≤ base) : Row w b A c xs := by
  obtain ⟨hl, hn | ⟨g, cap, cur, hv, hg, rest⟩⟩ := h
  · exact ⟨hl, .inl hn⟩
  · exact ⟨hl, .inr ⟨g, cap, cur, hv, by omega, rest⟩⟩
theorem Row.far (h : Row w base A c xs) {p : Addr} (hp : ∀ g, A = some g → g.block ≠ p.block) (u : Value) : Row (w.setCell p u) base A c xs :=
  h.keep fun g hg => Below.heap_setCell w p u _ (hp g hg)
theorem Row.form (h : Row w base A c xs) (hn : xs ≠ []) : ∃ g, A = some ⟨g, 0, none⟩ := by
  obtain ⟨hl, ⟨hv, hz⟩ | ⟨g, cap, cur, hv, _⟩⟩ := h
  · exact absurd (List.eq_nil_of_length_eq_zero hz) hn
  · injection hv with e1; exact ⟨g, e1⟩
theorem Row.forms (h : Row w base A c xs) : (A = none ∧ xs = [] ∧ c = 0) ∨ ∃ g, A = some ⟨g, 0, none⟩ ∧ base ≤ g ∧ g < w.heap.size ∧ xs.length ≤ c ∧ c ≤ maxLen := by
  have hlt := h.lt
  obtain ⟨hl, ⟨hv, hz⟩ | ⟨g, cap, cur, hv, hb, hh, hc, hm, _⟩⟩ := h
  · injection hv with e1 e2 e3
    exact .inl ⟨e1, List.eq_nil_of_length_eq_zero hz, e3⟩
  · injection hv with e1 e2 e3
    subst e1 e3
    exact .inr ⟨g, rfl, hb, (hlt _ rfl).2, hc, hm⟩
theorem Row.cellAt {g : Nat} (h : Row w base (some ⟨g, 0, none⟩) c xs) {k : Nat} (hk : k < xs.length) : w.cell? ⟨g, k * 2, none⟩ = some (.int .i64 (xs.getD k (0, 0)).1) ∧ w.cell? ⟨g, k * 2 + 1, none⟩ = some (.int .i64 (xs.getD k (0, 0)).2) := by
  obtain ⟨g1, g2⟩ := cells2_get xs k hk
  exact ⟨(World.ownsRow.cellAt h (k * 2) (by omega)).trans g1, (World.ownsRow.cellAt h (k * 2 + 1) (by omega)).trans g2⟩
theorem Row.frozenAt {g : Nat} (h : Row w base (some ⟨g, 0, none⟩) c xs) (j : Nat) : w.frozen? ⟨g, j, none⟩ = false := World.ownsRow.frozenAt h j
theorem Row.spans (h : Row w base A c xs) (hf : Fits xs) : Spans w A xs := by
  refine ⟨hf, fun k hk => ?_⟩
  rcases h.forms with ⟨_, rfl, _⟩ | ⟨g, rfl, _, hlt, _⟩
  · simp at hk
  · obtain ⟨h1, h2⟩ := h.cellAt hk
    exact ⟨g, 0, rfl, hlt, by simpa using h1, by simpa using h2⟩
theorem Row.set {g : Nat} (h : Row w base (some ⟨g, 0, none⟩) c xs) {k : Nat} (hk : k < xs.length) (v : Int) : Row (w.setCell ⟨g, k * 2 + 1, none⟩ (.int .i64 v)) base (some ⟨g, 0, none⟩) c (xs.set k ((xs.getD k (0, 0)).1, v)) := by
  have := (World.ownsRow.stored h (k * 2 + 1) (.int .i64 v)).1
  rw [cells2_set xs k v hk] at this
  unfold Row
  rw [List.length_set]
  exact this
/-- The first m of them. -/
theorem Row.take {g : Nat} (h : Row w base (some ⟨g, 0, none⟩) c xs) {m : Nat} (hm : m ≤ xs.length) : Row w base (some ⟨g, 0, none⟩) c (xs.take m) := by
  obtain ⟨hl, ⟨hv, hz⟩ | ⟨g', cap, cur, hv, hb, hh, hc, hx, hs, ht⟩⟩ := h
  · cases hv
  · injection hv with e1 e2 e3
    simp only [Option.some.injEq, Addr.mk.injEq, and_true] at e1
    subst e1 e3
    have e : (xs.take m).length = m := by rw [List.length_take]; omega
    refine ⟨cells2_len _, .inr ⟨g, c, cur, rfl, hb, hh, by omega, hx, hs, ?_⟩⟩
    rw [e]
    have e2 : cells2 (xs.take m) = (cells2 xs).take (m * 2) := by
      have e4 : cells2 xs = cells2 (xs.take m) ++ cells2 (xs.drop m) := by rw [← cells2_append, List.take_append_drop]
      rw [e4, List.take_append_of_le_length (by rw [cells2_len, e]; omega)]
      exact (List.take_of_length_le (by rw [cells2_len, e]; omega)).symm
    rw [e2, ← ht, List.take_take]
    congr 1
    omega
end

theorem span_info : (Try.prog.info? 41).map (fun i => (i.zero, i.size, i.bytes)) = some (some (.agg #[.int .i64 0, .int .i64 0]), 2, 16) := by kernel_rfl

/-- An append of what a slice holds. -/
theorem row_append {w : World} {base c : Nat} {A : Option Addr} {xs : List (Int × Int)} (h : Row w base A c xs) {B : Option Addr} {d : Nat} {ys : List (Int × Int)} (hs : Sl 2 w B ys.length d (cells2 ys)) (hn : xs.length + ys.length ≤ 1000000000) (hbase : base ≤ w.heap.size) :
    ∃ A' c' w', (Builtin.append_ #[31, 31] 31 #[.slice A xs.length c, .slice B ys.length d]).run Try.prog w = .ok (.slice A' (xs.length + ys.length) c') w' ∧ Row w' base A' c' (xs ++ ys) ∧
      (∀ a : World, a.heap.size ≤ base → Below a.heap.size a w → Below a.heap.size a w') ∧ w.grownBy w' (Value.slice A xs.length c).ownBlock ∧ ((Value.slice A' (xs.length + ys.length) c').ownBlock = (Value.slice A xs.length c).ownBlock ∨ (Value.slice A' (xs.length + ys.length) c').ownBlock = some w.heap.size) := by
  obtain ⟨A', c', w', hr, ho, hg, hl⟩ := append_any (P := Try.prog) w base 31 31 41 _ 2 16 Try.underlying31 span_info rfl (by omega) h hs (cells2_one ys) (xs.length + ys.length) rfl (cells2 (xs ++ ys)) (cells2_append xs ys).symm (by omega) (by omega) hbase
  refine ⟨A', c', w', hr, ?_, fun a ha hb => bel_grown hb h ha hg, hg, hl⟩
  unfold Row
  rw [List.length_append]
  exact ho

/-- A new slice of one span, made for an append. -/
theorem sl_one (w : World) (t : TypeId) (x : Int × Int) {s : Nat} (hs : w.heap.size = s) : Sl 2 (w.alloc (.cells #[.int .i64 x.1, .int .i64 x.2] t)) (some ⟨s, 0, none⟩) [x].length 1 (cells2 [x]) := by
  subst hs
  refine ⟨rfl, .inr ⟨_, rfl, fun j u hu => ?_⟩⟩
  rw [add_none, Nat.zero_add, cell_of_row _ _ _ _ t (0, 0) (heap_alloc_new w _)]
  simpa [cells2] using hu
theorem row_push {w : World} {base c : Nat} {A : Option Addr} {xs : List (Int × Int)} (h : Row w base A c xs) (a b : Int) (hn : xs.length < 1000000000) (hbase : base ≤ w.heap.size) {s : Nat} (hs : w.heap.size = s) :
    ∃ A' c' w', (Builtin.append_ #[31, 31] 31 #[.slice A xs.length c, .slice (some ⟨s, 0, none⟩) 1 1]).run Try.prog (w.alloc (.cells #[.int .i64 a, .int .i64 b] 41)) = .ok (.slice A' (xs.length + 1) c') w' ∧ Row w' base A' c' (xs ++ [(a, b)]) ∧
      (∀ v : World, v.heap.size ≤ base → Below v.heap.size v w → Below v.heap.size v w') ∧ w.heap.size ≤ w'.heap.size ∧ (w.alloc (.cells #[.int .i64 a, .int .i64 b] 41)).grownBy w' (Value.slice A xs.length c).ownBlock ∧ ((Value.slice A' (xs.length + 1) c').ownBlock = (Value.slice A xs.length c).ownBlock ∨ (Value.slice A' (xs.length + 1) c').ownBlock = some (w.heap.size + 1)) := by
  obtain ⟨A', c', w', h1, h2, h3, h4, h5⟩ := row_append (h.alloc (.cells #[.int .i64 a, .int .i64 b] 41)) (ys := [(a, b)]) (sl_one w 41 (a, b) hs) (by simp; omega) (by simp; omega)
  exact ⟨A', c', w', h1, h2, fun v hv hb => h3 v hv (hb.alloc hb.size _), by have := h4.size; simp at this; omega, h4, by simpa using h5⟩

/-- What a call that tells spans answers: a slice of its own. -/
def Gives (w : World) (xs : List (Int × Int)) (e : Ending) (w' : World) : Prop := ∃ A c, e = .returned (.slice A xs.length c) ∧ Row w' w.heap.size A c xs ∧ Below w.heap.size w w'
theorem gives_of {w w' : World} {xs ys : List (Int × Int)} {A : Option Addr} {c n : Nat} (h : Row w' w.heap.size A c ys) (e : ys = xs) (hn : n = ys.length) (hb : Below w.heap.size w w') : Gives w xs (.returned (.slice A n c)) w' := by
  subst e; subst hn; exact ⟨A, c, rfl, h, hb⟩

/-- A literal slice of spans. -/
theorem spans_new (w : World) (xs : List (Int × Int)) (t : TypeId) (cs : Array Value) (hcs : cs = (cells2 xs).toArray) (hf : Fits xs) {s : Nat} (hs : w.heap.size = s) : Spans (w.alloc (.cells cs t)) (some ⟨s, 0, none⟩) xs := by
  subst hs
  refine ⟨hf, fun k hk => ?_⟩
  have e : ∀ j, (w.alloc (.cells cs t)).cell? ⟨w.heap.size, j, none⟩ = cs[j]? := fun j => cell_of_row _ _ _ _ t (0, 0) (heap_alloc_new w _)
  obtain ⟨g1, g2⟩ := cells2_get xs k hk
  refine ⟨_, _, rfl, by simp, ?_, ?_⟩
  · rw [Nat.zero_add, e, hcs]; simpa using g1
  · rw [Nat.zero_add, e, hcs]; simpa using g2
end Go.Proofs.Ytcefjnjlcpkanaa

namespace Go.Proofs.Ytcefjnjlcpkanaa
open Go.RowKit
set_option linter.unusedVariables false
set_option linter.unusedSimpArgs false
set_option maxRecDepth 20000

theorem upTo_any (m n : Int) (w : World) : Calls Try.prog 65 #[.int .i64 m, .int .i64 n] w fun e w' => e = .returned (.int .i64 (max 0 (min n m))) ∧ w = w' := by
  go_enter Try.func65, Try.ntmps65
  go_wp2
  all_goals
    go_ret
    refine ⟨ret_one ?_, rfl⟩
    omega
theorem second_any (t : Int) (w : World) : Calls Try.prog 39 #[.int .i64 t] w fun e w' => e = .returned (.int .i64 (secP t)) ∧ w = w' := by
  have e : max 0 (min t 32054399) = secP t := by unfold secP timeP; omega
  have H := Lib.hid (fun W => e ▸ upTo_any 32054399 t W)
  generalize secP t = r at *
  go_enter Try.func39, Try.ntmps39
  go_wp2_with fail
  refine (H.out _).mono ?_
  rintro e w' ⟨rfl, rfl⟩
  go_wp2
  go_ret
  exact ⟨rfl, rfl⟩
theorem day_any (t : Int) (w : World) : Calls Try.prog 24 #[.int .i64 t] w fun e w' => e = .returned (.int .i64 (dayP t)) ∧ w = w' := by
  have hb := sec_bd t
  have H := Lib.hid (fun W => second_any t W)
  unfold dayP
  generalize secP t = r at *
  go_enter Try.func24, Try.ntmps24
  go_wp2_with fail
  refine (H.out _).mono ?_
  rintro e w' ⟨rfl, rfl⟩
  go_wp2
  go_ret
  exact ⟨by first | rfl | (congr 2; omega), rfl⟩
/-! ### The document's own -/
theorem wpList_min2i {P : Program} {ops : Array Oper} {rest : List Oper} {o : Oper} {a : Act} {w : World} {Q : Exit → Act → World → Prop} {x y : Operand} {ts : Array TypeId} (p q n : Int) (hn : min p q = n) (hgd : o.guard = none)
    (ho : o.op = .call { callee := .builtin .min, args := #[x, y], argTypes := ts }) (h1 : a.eval x = .int .i64 p) (h2 : a.eval y = .int .i64 q)
    (h : wpList P ops Q rest (a.put o.dst (.int .i64 n)) w) : wpList P ops Q (o :: rest) a w := by
  refine wpList_plain hgd fun K hK => ?_
  have e : (if q < p then q else p) = n := by
    subst hn
    split <;> omega
  unfold Oper.wp execOp
  simp only [ho, resolve, invoke, builtin, Sem.run_bind, Sem.run_pure, Result.andThen_ok, List.map_toArray, List.map_cons, List.map_nil, h1, h2, run_min_int2, e]
  exact hK _ _ h
end Go.Proofs.Ytcefjnjlcpkanaa
