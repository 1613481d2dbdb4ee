/-
  Package pack, and the document's own answers, each in one form: whatever is answered.
-/
import Derived.Test.YtmmjkpdmjpoidaaPkRefB
import Derived.Test.YtmmjkpdmjpoidaaPackAwake
namespace Go.Proofs.Ytmmjkpdmjpoidaa
open Go.RowKit
set_option linter.unusedVariables false
open Classical in
noncomputable def putR (xs : List (BitVec 8)) (zs : List Int) : List (BitVec 8) × Int := if ∀ z ∈ zs, 0 ≤ z then (xs ++ putB (zs.map Int.toNat), 0) else ([], 50)
def takeR (l : List (BitVec 8)) : Int × List (BitVec 8) × Int := match takeB l with
  | none => (0, [], 50)
  | some (n, t) => (n, t, 0)
def textR (l : List (BitVec 8)) : List (BitVec 8) × List (BitVec 8) × Int := match takeTextB l with
  | none => ([], [], 50)
  | some (x, y) => (x, y, 0)
def sizeR (z : Int) : Nat := if z < 0 then 0 else (oneB z.toNat).length
/-- What a slot that holds a slice of bytes is. -/
def BytV (v : Value) (n : Nat) (l : List (BitVec 8)) (w : World) : Prop := ∃ A c, v = .slice A n c ∧ Sl 1 w A n c (bytesV l)
theorem BytV.below {v : Value} {n : Nat} {l : List (BitVec 8)} {w w' : World} (h : BytV v n l w) (hb : Below w.heap.size w w') : BytV v n l w' := by
  obtain ⟨A, c, e, hp⟩ := h
  exact ⟨A, c, e, hp.below hb⟩
theorem BytV.elim {v : Value} {n : Nat} {l : List (BitVec 8)} {w : World} (h : BytV v n l w) {G : Prop} (k : ∀ A c, v = .slice A n c → Sl 1 w A n c (bytesV l) → G) : G := by
  obtain ⟨A, c, e, hp⟩ := h
  exact k A c e hp

section
variable (A : Option Addr) (m c : Nat) (l : List (BitVec 8)) (B : Option Addr) (k d : Nat) (zs : List Int) (w : World)
theorem nats_back (zs : List Int) (h : ∀ z ∈ zs, 0 ≤ z) : (zs.map Int.toNat).map (fun n : Nat => (n : Int)) = zs := by
  rw [List.map_map]
  conv => rhs; rw [← List.map_id zs]
  apply List.map_congr_left
  intro z hz
  have := h z hz
  simp [Function.comp]
  omega
theorem put_un (X : List (BitVec 8)) (E : Int) (n : Nat) (hX : putR l zs = (X, E)) (hn : X.length = n) (hx : Sl 1 w A m c (bytesV l)) (hB : Nums w B zs) (hk : zs.length = k) (hzs : ∀ z ∈ zs, z ≤ 9223372036854775807) (hm : m ≤ 1000) (hkl : k ≤ 1000) :
    Calls Try.prog 9 #[.slice A m c, .slice B k d] w fun e w' => ∃ A' c', e = .returned (.tuple #[.slice A' n c', .int .i64 E]) ∧ Sl 1 w' A' n c' (bytesV X) ∧ Below w.heap.size w w' := by
  subst hn
  unfold putR at hX
  by_cases h : ∀ z ∈ zs, 0 ≤ z
  · rw [if_pos h] at hX
    injection hX with e1 e2
    subst e1 e2
    refine (put_ok A m c l B k d (zs.map Int.toNat) w hx (by rw [nats_back zs h]; exact hB) (by simpa using hk) (fun n hn => ?_) (by omega) (by omega)).mono ?_
    · obtain ⟨z, hz, rfl⟩ := List.mem_map.1 hn
      have := hzs z hz
      omega
    · rintro e w' ⟨A', c', rfl, r, b⟩
      exact ⟨A', c', by rw [List.length_append, hx.blen], r.sl, b⟩
  · rw [if_neg h] at hX
    injection hX with e1 e2
    subst e1 e2
    refine (put_bad A m c B k d zs w hB hk hzs h (by omega) (by omega)).mono ?_
    rintro e w' ⟨rfl, rfl⟩
    exact ⟨none, 0, rfl, Sl.nil_, Below.refl _ _⟩
theorem rput_un (X : List (BitVec 8)) (E : Int) (n : Nat) (hX : putR l zs = (X, E)) (hn : X.length = n) (hx : Sl 1 w A m c (bytesV l)) (hB : Nums w B zs) (hk : zs.length = k) (hzs : ∀ z ∈ zs, z ≤ 9223372036854775807) (hm : m ≤ 1000) (hkl : k ≤ 1000) :
    Calls Try.prog 10 #[.slice A m c, .slice B k d] w fun e w' => ∃ A' c', e = .returned (.tuple #[.slice A' n c', .int .i64 E]) ∧ Sl 1 w' A' n c' (bytesV X) ∧ Below w.heap.size w w' := by
  subst hn
  unfold putR at hX
  by_cases h : ∀ z ∈ zs, 0 ≤ z
  · rw [if_pos h] at hX
    injection hX with e1 e2
    subst e1 e2
    refine (rput_ok A m c l B k d (zs.map Int.toNat) w hx (by rw [nats_back zs h]; exact hB) (by simpa using hk) (fun n hn => ?_) (by omega) (by omega)).mono ?_
    · obtain ⟨z, hz, rfl⟩ := List.mem_map.1 hn
      have := hzs z hz
      omega
    · rintro e w' ⟨A', c', rfl, r, b⟩
      exact ⟨A', c', by rw [List.length_append, hx.blen], r.sl, b⟩
  · rw [if_neg h] at hX
    injection hX with e1 e2
    subst e1 e2
    refine (rput_bad A m c l B k d zs w hx hB hk hzs h (by omega) (by omega)).mono ?_
    rintro e w' ⟨rfl, b⟩
    exact ⟨none, 0, rfl, Sl.nil_, b⟩
theorem take_un (N : Int) (T : List (BitVec 8)) (E : Int) (n : Nat) (hX : takeR l = (N, T, E)) (hn : T.length = n) (hx : Sl 1 w A m c (bytesV l)) (hmc : m ≤ c) (hm : m ≤ 1000) :
    Calls Try.prog 11 #[.slice A m c] w fun e w' => ∃ A' c', e = .returned (.tuple #[.int .i64 N, .slice A' n c', .int .i64 E]) ∧ Sl 1 w' A' n c' (bytesV T) ∧ Below w.heap.size w w' := by
  subst hn
  unfold takeR at hX
  cases h : takeB l with
  | none =>
    rw [h] at hX
    simp only [Prod.mk.injEq] at hX
    obtain ⟨rfl, rfl, rfl⟩ := hX
    refine (take_bad A m c l w (byts_of_sl hx) hx.blen (by omega) h).mono ?_
    rintro e w' ⟨rfl, rfl⟩
    exact ⟨none, 0, rfl, Sl.nil_, Below.refl _ _⟩
  | some p =>
    obtain ⟨v, t⟩ := p
    rw [h] at hX
    simp only [Prod.mk.injEq] at hX
    obtain ⟨rfl, rfl, rfl⟩ := hX
    refine (take_ok A m c l t v w hx (by omega) hmc h).mono ?_
    rintro e w' ⟨A', c', rfl, r, b⟩
    exact ⟨A', c', rfl, r.sl, b⟩
theorem rtake_un (N : Int) (T : List (BitVec 8)) (E : Int) (n : Nat) (hX : takeR l = (N, T, E)) (hn : T.length = n) (hx : Sl 1 w A m c (bytesV l)) (hmc : m ≤ c) (hm : m ≤ 1000) :
    Calls Try.prog 12 #[.slice A m c] w fun e w' => ∃ A' c', e = .returned (.tuple #[.int .i64 N, .slice A' n c', .int .i64 E]) ∧ Sl 1 w' A' n c' (bytesV T) ∧ Below w.heap.size w w' := by
  subst hn
  unfold takeR at hX
  cases h : takeB l with
  | none =>
    rw [h] at hX
    simp only [Prod.mk.injEq] at hX
    obtain ⟨rfl, rfl, rfl⟩ := hX
    refine (rtake_bad A m c l w (byts_of_sl hx) hx.blen h).mono ?_
    rintro e w' ⟨rfl, rfl⟩
    exact ⟨none, 0, rfl, Sl.nil_, Below.refl _ _⟩
  | some p =>
    obtain ⟨v, t⟩ := p
    rw [h] at hX
    simp only [Prod.mk.injEq] at hX
    obtain ⟨rfl, rfl, rfl⟩ := hX
    refine (rtake_ok A m c l t v _ w hx (by omega) hmc h rfl).mono ?_
    rintro e w' ⟨A', c', rfl, s, _, b⟩
    exact ⟨A', c', rfl, s, b⟩
theorem taketext_un (X Y : List (BitVec 8)) (E : Int) (n o : Nat) (hX : textR l = (X, Y, E)) (hn : X.length = n) (ho : Y.length = o) (hx : Sl 1 w A m c (bytesV l)) (hmc : m ≤ c) (hm : m ≤ 1000) :
    Calls Try.prog 13 #[.slice A m c] w fun e w' => ∃ A1 c1 A2 c2, e = .returned (.tuple #[.slice A1 n c1, .slice A2 o c2, .int .i64 E]) ∧ Sl 1 w' A1 n c1 (bytesV X) ∧ Sl 1 w' A2 o c2 (bytesV Y) ∧ Below w.heap.size w w' := by
  subst hn ho
  unfold textR at hX
  cases h : takeTextB l with
  | none =>
    rw [h] at hX
    simp only [Prod.mk.injEq] at hX
    obtain ⟨rfl, rfl, rfl⟩ := hX
    refine (taketext_bad A m c l w hx (by omega) hmc h).mono ?_
    rintro e w' ⟨rfl, rfl⟩
    exact ⟨none, 0, none, 0, rfl, Sl.nil_, Sl.nil_, Below.refl _ _⟩
  | some p =>
    obtain ⟨v, t⟩ := p
    rw [h] at hX
    simp only [Prod.mk.injEq] at hX
    obtain ⟨rfl, rfl, rfl⟩ := hX
    refine (taketext_ok A m c l v t w hx (by omega) hmc h).mono ?_
    rintro e w' ⟨A', c', A2, c2, rfl, r, r2, b⟩
    exact ⟨A', c', A2, c2, rfl, r.sl, r2.sl, b⟩
theorem rtaketext_un (X Y : List (BitVec 8)) (E : Int) (n o : Nat) (hX : textR l = (X, Y, E)) (hn : X.length = n) (ho : Y.length = o) (hx : Sl 1 w A m c (bytesV l)) (hmc : m ≤ c) (hm : m ≤ 1000) :
    Calls Try.prog 14 #[.slice A m c] w fun e w' => ∃ A1 c1 A2 c2, e = .returned (.tuple #[.slice A1 n c1, .slice A2 o c2, .int .i64 E]) ∧ Sl 1 w' A1 n c1 (bytesV X) ∧ Sl 1 w' A2 o c2 (bytesV Y) ∧ Below w.heap.size w w' := by
  subst hn ho
  unfold textR at hX
  cases h : takeTextB l with
  | none =>
    rw [h] at hX
    simp only [Prod.mk.injEq] at hX
    obtain ⟨rfl, rfl, rfl⟩ := hX
    refine (rtaketext_bad A m c l w hx (by omega) hmc h).mono ?_
    rintro e w' ⟨rfl, b⟩
    exact ⟨none, 0, none, 0, rfl, Sl.nil_, Sl.nil_, b⟩
  | some p =>
    obtain ⟨v, t⟩ := p
    rw [h] at hX
    simp only [Prod.mk.injEq] at hX
    obtain ⟨rfl, rfl, rfl⟩ := hX
    refine (rtaketext_ok A m c l v t w hx (by omega) hmc h).mono ?_
    rintro e w' ⟨A', c', A2, c2, rfl, r, r2, b⟩
    exact ⟨A', c', A2, c2, rfl, r, r2, b⟩
theorem size_un (z : Int) (n : Nat) (hn : sizeR z = n) (hz : z ≤ 9223372036854775807) : Calls Try.prog 15 #[.int .i64 z] w fun e w' => e = .returned (.int .i64 n) ∧ Below w.heap.size w w' := by
  subst hn
  unfold sizeR
  by_cases h : z < 0
  · rw [if_pos h]
    exact sameB (size_neg z w h)
  · rw [if_neg h]
    obtain ⟨k, rfl⟩ : ∃ k : Nat, z = k := ⟨z.toNat, by omega⟩
    exact sameB (size_at k w (by omega))
theorem rsize_un (z : Int) (n : Nat) (hn : sizeR z = n) (hz : z ≤ 9223372036854775807) : Calls Try.prog 16 #[.int .i64 z] w fun e w' => e = .returned (.int .i64 n) ∧ Below w.heap.size w w' := by
  subst hn
  unfold sizeR
  by_cases h : z < 0
  · rw [if_pos h]
    exact rsize_neg z w h
  · rw [if_neg h]
    obtain ⟨k, rfl⟩ : ∃ k : Nat, z = k := ⟨z.toNat, by omega⟩
    exact rsize_nat k _ w (by omega) rfl
theorem text_un (xs : List (BitVec 8)) (Z : List (BitVec 8)) (n : Nat) (hZ : xs ++ textB l = Z) (hn : Z.length = n) (hx : Sl 1 w B k d (bytesV xs)) (hl : Sl 1 w A m c (bytesV l)) (hm : m ≤ 1000) (hk : k ≤ 1000) :
    Calls Try.prog 17 #[.slice B k d, .slice A m c] w fun e w' => ∃ A' c', e = .returned (.slice A' n c') ∧ Sl 1 w' A' n c' (bytesV Z) ∧ Below w.heap.size w w' := by
  subst hZ hn
  refine (text_any B k d xs A m c l w hx hl (by omega) (by omega)).mono ?_
  rintro e w' ⟨A', c', rfl, r, b⟩
  exact ⟨A', c', by rw [List.length_append, hx.blen], r.sl, b⟩
theorem rtext_un (xs : List (BitVec 8)) (Z : List (BitVec 8)) (n : Nat) (hZ : xs ++ textB l = Z) (hn : Z.length = n) (hx : Sl 1 w B k d (bytesV xs)) (hl : Sl 1 w A m c (bytesV l)) (hm : m ≤ 1000) (hk : k ≤ 1000) :
    Calls Try.prog 18 #[.slice B k d, .slice A m c] w fun e w' => ∃ A' c', e = .returned (.slice A' n c') ∧ Sl 1 w' A' n c' (bytesV Z) ∧ Below w.heap.size w w' := by
  subst hZ hn
  refine (rtext_any B k d xs A m c l w hx hl (by omega) (by omega)).mono ?_
  rintro e w' ⟨A', c', rfl, r, b⟩
  exact ⟨A', c', by rw [List.length_append, hx.blen], r.sl, b⟩
end
end Go.Proofs.Ytmmjkpdmjpoidaa
