/-
  Numbers and texts as bytes: no program here. A number's bytes: how many, and its digits to 256, the highest first.
  Bytes turned into texts, whatever their number; texts held against each other.
  Arguments of bytes opened; slices of bytes from a place on.
  Slices cut out of slices of bytes: 'b[n:]', 'b[:n]'; whatever the capacity.
  An append onto a row of the call's own: the elder slice reads as it did.
  A map from numbers that the call has made: what it tells of a number, whatever order it was filled in.
-/
import Derived.Test.YtgfomfioagblfaaProg
import Derived.Test.YtgfomfioagblfaaZaa
import Derived.Laws.BytesArg
import Derived.OpenShut
import Derived.Laws.Cover1
import Derived.Laws.Slices
import Derived.Maps.OwnSet
import Derived.WalkKit
import Derived.KernelRfl
namespace Go.Proofs.Ytgfomfioagblfaa
set_option linter.unusedVariables false
set_option linter.unusedSimpArgs false

/-- A number's digits to 256, the highest first. -/
def digs (n : Nat) : List Nat := if h : n = 0 then [] else digs (n / 256) ++ [n % 256]
termination_by n
decreasing_by omega
theorem digs_zero : digs 0 = [] := by rw [digs]; simp
theorem digs_pos {n : Nat} (h : 0 < n) : digs n = digs (n / 256) ++ [n % 256] := by
  rw [digs]
  simp [show n ≠ 0 by omega]
/-- The number of digits. -/
def valN (l : List Nat) : Nat := l.foldl (fun a x => a * 256 + x) 0
theorem valN_snoc (l : List Nat) (x : Nat) : valN (l ++ [x]) = valN l * 256 + x := by simp [valN]
theorem val_digs : ∀ n : Nat, valN (digs n) = n := by
  intro n
  induction n using Nat.strongRecOn with
  | _ n ih =>
    rcases Nat.eq_zero_or_pos n with rfl | h
    · rw [digs_zero]; rfl
    · rw [digs_pos h, valN_snoc, ih (n / 256) (by omega)]
      omega
theorem digs_small (n : Nat) : ∀ x ∈ digs n, x < 256 := by
  induction n using Nat.strongRecOn with
  | _ n ih =>
    rcases Nat.eq_zero_or_pos n with rfl | h
    · rw [digs_zero]; simp
    · rw [digs_pos h]
      intro x hx
      rcases List.mem_append.1 hx with hx | hx
      · exact ih (n / 256) (by omega) x hx
      · simp at hx; omega
theorem digs_len (n : Nat) : ∀ k, n < 256 ^ k → (digs n).length ≤ k := by
  induction n using Nat.strongRecOn with
  | _ n ih =>
    intro k hk
    rcases Nat.eq_zero_or_pos n with rfl | h
    · rw [digs_zero]; simp
    · rw [digs_pos h, List.length_append]
      rcases k with _ | k
      · simp at hk; omega
      · have := ih (n / 256) (by omega) k (by rw [Nat.pow_succ] at hk; omega)
        simp
        omega
/-- The highest digit is not 0. -/
theorem digs_head (n : Nat) : ∀ x, (digs n).head? = some x → x ≠ 0 := by
  induction n using Nat.strongRecOn with
  | _ n ih =>
    intro x hx
    rcases Nat.eq_zero_or_pos n with rfl | h
    · rw [digs_zero] at hx; simp at hx
    · rw [digs_pos h] at hx
      cases hd : digs (n / 256) with
      | nil =>
        rw [hd] at hx
        have : n / 256 = 0 := by
          have e := val_digs (n / 256)
          rw [hd] at e
          exact e.symm
        simp at hx
        omega
      | cons y r =>
        rw [hd] at hx
        exact ih (n / 256) (by omega) x (by rw [hd]; simpa using hx)
theorem valN_lt : ∀ (l : List Nat), (∀ x ∈ l, x < 256) → valN l < 256 ^ l.length := by
  intro l
  induction h : l.length generalizing l with
  | zero =>
    intro _
    obtain rfl := List.eq_nil_of_length_eq_zero h
    simp [valN]
  | succ k ih =>
    intro hl
    obtain ⟨i, x, rfl⟩ : ∃ i x, l = i ++ [x] := ⟨l.dropLast, l.getLast (by intro e; subst e; simp at h), (List.dropLast_concat_getLast _).symm⟩
    have := ih i (by simpa using h) (fun y hy => hl y (by simp [hy]))
    have hx := hl x (by simp)
    rw [valN_snoc, Nat.pow_succ]
    omega
/-- A number's highest digit first: a number is as great as its highest digit says. -/
theorem valN_cons (x : Nat) (l : List Nat) : valN (x :: l) = x * 256 ^ l.length + valN l := by
  induction h : l.length generalizing l with
  | zero =>
    obtain rfl := List.eq_nil_of_length_eq_zero h
    simp [valN]
  | succ k ih =>
    obtain ⟨i, y, rfl⟩ : ∃ i y, l = i ++ [y] := ⟨l.dropLast, l.getLast (by intro e; subst e; simp at h), (List.dropLast_concat_getLast _).symm⟩
    have hk : i.length = k := by simpa using h
    have := ih i hk
    rw [← List.cons_append, valN_snoc, valN_snoc, this, Nat.pow_succ, Nat.add_mul, Nat.mul_assoc, Nat.add_assoc]
theorem digs_val : ∀ (l : List Nat), (∀ x ∈ l, x < 256) → (∀ x, l.head? = some x → x ≠ 0) → digs (valN l) = l := by
  intro l
  induction h : l.length generalizing l with
  | zero =>
    intro _ _
    obtain rfl := List.eq_nil_of_length_eq_zero h
    exact digs_zero
  | succ k ih =>
    intro hl hh
    obtain ⟨i, x, rfl⟩ : ∃ i x, l = i ++ [x] := ⟨l.dropLast, l.getLast (by intro e; subst e; simp at h), (List.dropLast_concat_getLast _).symm⟩
    have hx := hl x (by simp)
    have hi : digs (valN i) = i := ih i (by simpa using h) (fun y hy => hl y (by simp [hy])) (fun y hy => by
      cases i with
      | nil => simp at hy
      | cons z r => exact hh y (by simpa using hy))
    have hp : 0 < valN (i ++ [x]) := by
      rw [valN_snoc]
      cases i with
      | nil =>
        have := hh x (by simp)
        simp [valN]
        omega
      | cons z r =>
        have hz := hh z (by simp)
        rw [valN_cons]
        have : 0 < 256 ^ r.length := Nat.pow_pos (by omega)
        have : 0 < z * 256 ^ r.length := Nat.mul_pos (by omega) this
        omega
    rw [digs_pos hp, valN_snoc, show (valN i * 256 + x) / 256 = valN i by omega, show (valN i * 256 + x) % 256 = x by omega, hi]

/-! ### Bytes -/
def natsB (l : List (BitVec 8)) : List Nat := l.map BitVec.toNat
def bytN (l : List Nat) : List (BitVec 8) := l.map (BitVec.ofNat 8)
theorem nats_bytN {l : List Nat} (h : ∀ x ∈ l, x < 256) : natsB (bytN l) = l := by
  unfold natsB bytN
  rw [List.map_map]
  conv => rhs; rw [← List.map_id l]
  apply List.map_congr_left
  intro x hx
  simp only [Function.comp, BitVec.toNat_ofNat, id]
  exact Nat.mod_eq_of_lt (h x hx)
theorem bytN_nats (l : List (BitVec 8)) : bytN (natsB l) = l := by
  unfold natsB bytN
  rw [List.map_map]
  conv => rhs; rw [← List.map_id l]
  apply List.map_congr_left
  intro x hx
  simp [Function.comp]
theorem nats_small (l : List (BitVec 8)) : ∀ x ∈ natsB l, x < 256 := by
  intro x hx
  simp only [natsB, List.mem_map] at hx
  obtain ⟨b, _, rfl⟩ := hx
  exact b.isLt
theorem nats_len (l : List (BitVec 8)) : (natsB l).length = l.length := by simp [natsB]
theorem bytN_len (l : List Nat) : (bytN l).length = l.length := by simp [bytN]

/-- A number's bytes. -/
def oneB (n : Nat) : List (BitVec 8) := BitVec.ofNat 8 (digs n).length :: bytN (digs n)
def putB (l : List Nat) : List (BitVec 8) := (l.map oneB).flatten
/-- The number that bytes begin with, and what is behind. -/
def takeB : List (BitVec 8) → Option (Nat × List (BitVec 8))
  | [] => none
  | x :: r => if 8 < x.toNat ∨ r.length < x.toNat then none
    else if (x.toNat = 8 ∧ 128 ≤ (r.getD 0 0#8).toNat) ∨ (0 < x.toNat ∧ (r.getD 0 0#8).toNat = 0) then none
    else some (valN (natsB (r.take x.toNat)), r.drop x.toNat)
theorem digs_eight {n : Nat} (h : n < 9223372036854775808) : (digs n).length ≤ 8 := digs_len n 8 (Nat.lt_trans h (by decide))
theorem one_len {n : Nat} : (oneB n).length = (digs n).length + 1 := by simp [oneB, bytN_len]
theorem take_one {n : Nat} (h : n < 9223372036854775808) (r : List (BitVec 8)) : takeB (oneB n ++ r) = some (n, r) := by
  have h8 := digs_eight h
  have ex : (BitVec.ofNat 8 (digs n).length).toNat = (digs n).length := by
    rw [BitVec.toNat_ofNat]
    exact Nat.mod_eq_of_lt (by omega)
  have e : oneB n ++ r = BitVec.ofNat 8 (digs n).length :: (bytN (digs n) ++ r) := rfl
  rw [e, takeB, ex]
  have hl : (bytN (digs n) ++ r).length = (digs n).length + r.length := by rw [List.length_append, bytN_len]
  rw [if_neg (by rw [hl]; omega), if_neg]
  · rw [List.take_append_of_le_length (by rw [bytN_len]; exact Nat.le_refl _), List.take_of_length_le (by rw [bytN_len]; exact Nat.le_refl _), nats_bytN (digs_small n), val_digs,
      List.drop_append_of_le_length (by rw [bytN_len]; exact Nat.le_refl _), List.drop_of_length_le (by rw [bytN_len]; exact Nat.le_refl _), List.nil_append]
  · cases hd : digs n with
    | nil => simp
    | cons x l =>
      have hx : x < 256 := digs_small n x (by rw [hd]; simp)
      have hx0 : x ≠ 0 := digs_head n x (by rw [hd]; rfl)
      have e0 : ((bytN (x :: l) ++ r).getD 0 0#8).toNat = x := by
        simp [bytN]
        omega
      rw [e0]
      rintro (⟨h1, h2⟩ | ⟨_, h2⟩)
      · have e1 := valN_cons x l
        have e2 := val_digs n
        rw [hd, e1] at e2
        have : l.length = 7 := by simpa using h1
        rw [this] at e2
        have : (256 : Nat) ^ 7 = 72057594037927936 := by decide
        rw [this] at e2
        have : 128 * 72057594037927936 ≤ x * 72057594037927936 := Nat.mul_le_mul_right _ h2
        omega
      · exact hx0 h2
theorem take_own {b r : List (BitVec 8)} {n : Nat} (h : takeB b = some (n, r)) : b = oneB n ++ r ∧ n < 9223372036854775808 := by
  cases b with
  | nil => simp [takeB] at h
  | cons x t =>
    rw [takeB] at h
    split at h
    · cases h
    · rename_i h1
      split at h
      · cases h
      · rename_i h2
        simp only [Option.some.injEq, Prod.mk.injEq] at h
        obtain ⟨hn, hr⟩ := h
        have hx8 : x.toNat ≤ 8 := by omega
        have hxl : x.toNat ≤ t.length := by omega
        have hlen : (natsB (t.take x.toNat)).length = x.toNat := by rw [nats_len, List.length_take]; omega
        have hhead : ∀ y, (natsB (t.take x.toNat)).head? = some y → y ≠ 0 ∧ (x.toNat = 8 → y < 128) := by
          intro y hy
          cases t with
          | nil => simp [natsB] at hy
          | cons z t =>
            cases hk : x.toNat with
            | zero => rw [hk] at hy; simp [natsB] at hy
            | succ k =>
              rw [hk] at hy
              simp only [natsB, List.take_succ_cons, List.map_cons, List.head?_cons, Option.some.injEq] at hy
              have eg : ((z :: t).getD 0 0#8) = z := rfl
              rw [eg, hy, hk] at h2
              constructor
              · intro e; exact h2 (.inr ⟨by omega, e⟩)
              · intro e
                rcases Nat.lt_or_ge y 128 with q | q
                · exact q
                · exact absurd (Or.inl ⟨e, q⟩) h2
        have hd : digs n = natsB (t.take x.toNat) := by
          rw [← hn]
          exact digs_val _ (nats_small _) (fun y hy => (hhead y hy).1)
        constructor
        · unfold oneB
          rw [hd, hlen, bytN_nats, ← hr, List.cons_append, List.take_append_drop]
          congr 1
          simp
        · rw [← hn]
          have hlt := valN_lt _ (nats_small (t.take x.toNat))
          rw [hlen] at hlt
          rcases Nat.lt_or_ge x.toNat 8 with q | q
          · have : 256 ^ x.toNat ≤ 256 ^ 7 := Nat.pow_le_pow_right (by omega) (by omega)
            have : (256 : Nat) ^ 7 = 72057594037927936 := by decide
            omega
          · have hx : x.toNat = 8 := by omega
            cases hq : natsB (t.take x.toNat) with
            | nil => rw [hq] at hlen; simp at hlen; omega
            | cons y m =>
              have hy := (hhead y (by rw [hq]; rfl)).2 hx
              have hm : m.length = 7 := by rw [hq] at hlen; simp at hlen; omega
              have hmlt := valN_lt m (fun z hz => nats_small (t.take x.toNat) z (by rw [hq]; simp [hz]))
              rw [valN_cons, hm]
              rw [hm] at hmlt
              have : (256 : Nat) ^ 7 = 72057594037927936 := by decide
              rw [this] at hmlt ⊢
              have : y * 72057594037927936 ≤ 127 * 72057594037927936 := Nat.mul_le_mul_right _ (by omega)
              omega
/-! ### The order of bytes -/
end Go.Proofs.Ytgfomfioagblfaa

namespace Go.Proofs.Ytgfomfioagblfaa
open Go.RowKit
set_option linter.unusedVariables false

def txtB (l : List (BitVec 8)) : ByteArray := strOfNums (l.map fun b => (b.toNat : Int))
theorem txt_list (l : List (BitVec 8)) : (txtB l).toList = l.map fun b => UInt8.ofNat b.toNat := by
  rw [ByteArray.toList_eq, txtB, strOfNums_data, List.map_map]
  rfl
theorem txt_nats (l : List (BitVec 8)) : (txtB l).toList.map UInt8.toNat = natsB l := by
  rw [txt_list, List.map_map]
  unfold natsB
  apply List.map_congr_left
  intro b _
  have := b.isLt
  simp only [Function.comp, UInt8.toNat_ofNat']
  omega
theorem nats_inj {x y : List (BitVec 8)} (h : natsB x = natsB y) : x = y := by rw [← bytN_nats x, ← bytN_nats y, h]
theorem txt_inj {x y : List (BitVec 8)} (h : (txtB x).toList = (txtB y).toList) : x = y :=
  nats_inj (by rw [← txt_nats, ← txt_nats, h])
theorem txt_eq (x y : List (BitVec 8)) : ((txtB x).toList == (txtB y).toList) = decide (x = y) := by
  rw [Bool.eq_iff_iff]
  simp only [beq_iff_eq, decide_eq_true_eq]
  exact ⟨txt_inj, fun h => by rw [h]⟩
/-- A slice of bytes turned into a text, nil and empty ones too. -/
theorem conv_sl {w : World} {A : Option Addr} {n c : Nat} {l : List (BitVec 8)} (h : Sl 1 w A n c (bytesV l)) : (convert 34 9 (.slice A n c)).run Try.prog w = .ok (.string (txtB l)) w := by
  have hln : l.length = n := by have := h.1; rw [bytesV_len] at this; omega
  have hby := byts_of_sl h
  rcases Nat.eq_zero_or_pos n with rfl | h0
  · obtain rfl := List.eq_nil_of_length_eq_zero hln
    cases A with
    | none => exact run_convert_bytes_nil w 34 5 Try.underlying34 Try.underlying5 0 c 9 Try.underlying9
    | some ad =>
      rw [run_convert_bytes_string w 34 9 5 _ 0 c Try.underlying34 Try.underlying5 Try.underlying9]
      rw [run_bytesToString w ad 0 c [] (run_loadCells_list (P := Try.prog) w ad [] (fun j v hv => by simp at hv))]
      rfl
  · obtain ⟨b, off, rfl, _⟩ := hby 0 (by omega)
    refine run_convert_bytes_arg w 34 5 Try.underlying34 Try.underlying5 b off n c _ (by simpa using hln) (fun i hi => ?_) 9 Try.underlying9
    obtain ⟨b', off', e, hc⟩ := hby i (by omega)
    injection e with e
    injection e with e1 e2 _
    subst e1 e2
    rw [hc]
    simp [List.getD, show i < l.length by omega]
/-- What a call that tells bytes answers: a slice of its own. -/
def TellsB (w : World) (xs : List (BitVec 8)) (v : Value) (w' : World) : Prop := ∃ A c, v = .slice A xs.length c ∧ BRow w' w.heap.size A c xs
theorem TellsB.below {w w' w'' : World} {xs : List (BitVec 8)} {v : Value} (h : TellsB w xs v w') (hb : Below w'.heap.size w' w'') : TellsB w xs v w'' := by
  obtain ⟨A, c, e, hr⟩ := h
  exact ⟨A, c, e, hr.below hb⟩
/-- What came in, or lies anywhere, as an argument: kept as what an append, a call and a text ask. -/
theorem sl_take {w : World} {A : Option Addr} {n c m : Nat} {l : List (BitVec 8)} (h : Sl 1 w A n c (bytesV l)) (hm : m ≤ n) (hn : A = none → c = 0) : Sl 1 w A m c (bytesV (l.take m)) := by
  obtain ⟨hl, ⟨rfl, rfl, rfl⟩ | ⟨ad, rfl, hc⟩⟩ := h
  · obtain rfl : m = 0 := by omega
    exact ⟨by simp [bytesV], .inl ⟨rfl, rfl, rfl⟩⟩
  · rw [bytesV_len] at hl
    refine ⟨by rw [bytesV_len, List.length_take]; omega, .inr ⟨ad, rfl, fun j u hu => hc j u ?_⟩⟩
    simp only [bytesV, List.map_take] at hu
    rw [List.getElem?_take] at hu
    split at hu
    · exact hu
    · cases hu
end Go.Proofs.Ytgfomfioagblfaa

namespace Go.Proofs.Ytgfomfioagblfaa
open Go.RowKit
set_option linter.unusedVariables false

/-- What came in as a slice of bytes. -/
theorem bytes_of_row {w : World} {a : Option Addr} {len cap : Nat} {zs : List Int} (h : IsRow .u8 w a len cap zs) : ∃ l : List (BitVec 8), l.length = len ∧ Sl 1 w a len cap (bytesV l) ∧ len ≤ 9223372036854775807 := by
  obtain ⟨s, hl, hm, hw⟩ := sl_of_row h
  refine ⟨(zs.take len).map fun z => BitVec.ofInt 8 z, by simpa using hl, ?_, hm⟩
  have e : bytesV ((zs.take len).map fun z => BitVec.ofInt 8 z) = ints .u8 (zs.take len) := by
    unfold bytesV ints
    rw [List.map_map]
    apply List.map_congr_left
    intro z hz
    have := bounds_u8 (hw z hz)
    simp only [Function.comp, v8, BitVec.toNat_ofInt]
    congr 1
    omega
  rw [e]
  exact s
theorem bytes_caps {w : World} {a : Option Addr} {len cap : Nat} {zs : List Int} (h : IsRow .u8 w a len cap zs) : len ≤ cap ∧ cap ≤ 9223372036854775807 := by
  rcases h with ⟨_, rfl, rfl, _⟩ | ⟨x, _, hl, hm, _⟩
  · omega
  · unfold maxLen at hm; omega
/-- The slice 'b[n:]'. -/
theorem sl_drop {w : World} {b off m c : Nat} {l : List (BitVec 8)} (h : Sl 1 w (some ⟨b, off, none⟩) m c (bytesV l)) {n d : Nat} (hn : n ≤ m) {k : Nat} (hk : m - n = k) : Sl 1 w (some ⟨b, off + n, none⟩) k d (bytesV (l.drop n)) := by
  obtain ⟨hl, ⟨h0, _⟩ | ⟨ad, e, hc⟩⟩ := h
  · cases h0
  · injection e with e
    subst e
    rw [bytesV_len] at hl
    refine ⟨by rw [bytesV_len, List.length_drop]; omega, .inr ⟨_, rfl, fun j u hu => ?_⟩⟩
    have e1 : ∀ j, (⟨b, off, none⟩ : Addr).add j = ⟨b, off + j, none⟩ := fun j => by unfold Addr.add; split <;> simp_all
    have e2 : (⟨b, off + n, none⟩ : Addr).add j = ⟨b, off + n + j, none⟩ := by unfold Addr.add; split <;> simp_all
    have := hc (n + j) u (by
      rw [bytesV, List.getElem?_map] at hu ⊢
      rw [List.getElem?_drop] at hu
      exact hu)
    rw [e1] at this
    rw [e2, Nat.add_assoc]
    exact this
/-- What is no empty slice has a place. -/
theorem sl_form {w : World} {A : Option Addr} {m c : Nat} {l : List (BitVec 8)} (h : Sl 1 w A m c (bytesV l)) (hm : 0 < m) : ∃ b off, A = some ⟨b, off, none⟩ := by
  have hl : l.length = m := by have := h.1; rw [bytesV_len] at this; omega
  obtain ⟨b, off, e, _⟩ := byts_of_sl h 0 (by omega)
  exact ⟨b, off, e⟩
theorem Sl.blen {w : World} {A : Option Addr} {m c : Nat} {l : List (BitVec 8)} (h : Sl 1 w A m c (bytesV l)) : l.length = m := by have := h.1; rw [bytesV_len] at this; omega
end Go.Proofs.Ytgfomfioagblfaa

namespace Go.Proofs.Ytgfomfioagblfaa
open Go.RowKit
set_option linter.unusedVariables false
set_option maxRecDepth 20000

theorem u8_size (w : World) : (sizeOf (Try.prog.elem 34)).run Try.prog w = .ok 1 w := by kernel_rfl
/-- 'b[n:]': where it lies is not asked. -/
theorem cut_from {w : World} {A : Option Addr} {m c : Nat} {l : List (BitVec 8)} (h : Sl 1 w A m c (bytesV l)) (hmc : m ≤ c) (n : Nat) (hn : n ≤ m) :
    ∃ A', (∀ w', (Instr.sliceAt 34 (.slice A m c) (some (.int .i64 (n : Int))) none none).run Try.prog w' = .ok (.slice A' (m - n) (c - n)) w') ∧ Sl 1 w A' (m - n) (c - n) (bytesV (l.drop n)) := by
  have hl := h.blen
  have hrun : ∀ w', (Instr.sliceAt 34 (.slice A m c) (some (.int .i64 (n : Int))) none none).run Try.prog w' = .ok (.slice (if c = n then A else A.map (·.add n)) (m - n) (c - n)) w' := by
    intro w'
    rw [run_sliceAt_slice _ _ _ _ _ _ Try.underlying34, run_slice_l _ _ _ _ _ Try.underlying34 .i64 (n : Int) (by omega) (by omega), u8_size]
    simp [sliced, Result.andThen]
  refine ⟨_, hrun, ?_⟩
  obtain ⟨hl', ⟨rfl, rfl, rfl⟩ | ⟨ad, rfl, hc⟩⟩ := h
  · obtain rfl : n = 0 := by omega
    exact ⟨by rw [bytesV_len, List.length_drop]; omega, .inl ⟨by simp, rfl, rfl⟩⟩
  · by_cases h0 : m - n = 0
    · rw [List.drop_of_length_le (by omega), h0]
      refine ⟨rfl, .inr ?_⟩
      by_cases hcn : c = n
      · rw [if_pos hcn]; exact ⟨ad, rfl, fun j u hu => by simp [bytesV] at hu⟩
      · rw [if_neg hcn]; exact ⟨_, rfl, fun j u hu => by simp [bytesV] at hu⟩
    · have hs : Sl 1 w (some ad) m c (bytesV l) := ⟨hl', .inr ⟨ad, rfl, hc⟩⟩
      obtain ⟨b, off, e⟩ := sl_form hs (show 0 < m by omega)
      injection e with e
      subst e
      rw [if_neg (by omega)]
      have := sl_drop hs (n := n) (d := c - n) hn rfl
      rwa [Option.map_some, by_add_none]
/-- 'b[:n]'. -/
theorem cut_to {w : World} {A : Option Addr} {m c : Nat} {l : List (BitVec 8)} (h : Sl 1 w A m c (bytesV l)) (hmc : m ≤ c) (n : Nat) (hn : n ≤ m) :
    ∃ A', (∀ w', (Instr.sliceAt 34 (.slice A m c) none (some (.int .i64 (n : Int))) none).run Try.prog w' = .ok (.slice A' n c) w') ∧ Sl 1 w A' n c (bytesV (l.take n)) := by
  have hrun : ∀ w', (Instr.sliceAt 34 (.slice A m c) none (some (.int .i64 (n : Int))) none).run Try.prog w' = .ok (.slice (if c = 0 then A else A.map (·.add 0)) n c) w' := by
    intro w'
    rw [run_sliceAt_slice _ _ _ _ _ _ Try.underlying34, run_slice_h _ _ _ _ _ Try.underlying34 .i64 (n : Int) (by omega) (by omega), u8_size]
    simp [sliced, Result.andThen]
  refine ⟨_, hrun, ?_⟩
  have e : (if c = 0 then A else A.map (·.add 0)) = A := by
    split
    · rfl
    · cases A with
      | none => rfl
      | some ad =>
        rw [Option.map_some]
        unfold Addr.add
        split <;> simp_all
  rw [e]
  exact sl_take h hn (fun hA => by
    obtain ⟨_, ⟨_, _, hz⟩ | ⟨ad, e, _⟩⟩ := h
    · exact hz
    · rw [hA] at e; cases e)
/-- The same, in whatever world the bytes are read. -/
theorem cut_from_all {w : World} {A : Option Addr} {m c : Nat} {l : List (BitVec 8)} (h : Sl 1 w A m c (bytesV l)) (hmc : m ≤ c) (n : Nat) (hn : n ≤ m) :
    ∃ A', (∀ w', (Instr.sliceAt 34 (.slice A m c) (some (.int .i64 (n : Int))) none none).run Try.prog w' = .ok (.slice A' (m - n) (c - n)) w') ∧ ∀ w0, Sl 1 w0 A m c (bytesV l) → Sl 1 w0 A' (m - n) (c - n) (bytesV (l.drop n)) := by
  obtain ⟨A1, hr, _⟩ := cut_from h hmc n hn
  refine ⟨A1, hr, fun w0 h0 => ?_⟩
  obtain ⟨A2, hr2, hs2⟩ := cut_from h0 hmc n hn
  have e := (hr w).symm.trans (hr2 w)
  injection e with e
  injection e with e1
  subst e1
  exact hs2
theorem cut_to_all {w : World} {A : Option Addr} {m c : Nat} {l : List (BitVec 8)} (h : Sl 1 w A m c (bytesV l)) (hmc : m ≤ c) (n : Nat) (hn : n ≤ m) :
    ∃ A', (∀ w', (Instr.sliceAt 34 (.slice A m c) none (some (.int .i64 (n : Int))) none).run Try.prog w' = .ok (.slice A' n c) w') ∧ ∀ w0, Sl 1 w0 A m c (bytesV l) → Sl 1 w0 A' n c (bytesV (l.take n)) := by
  obtain ⟨A1, hr, _⟩ := cut_to h hmc n hn
  refine ⟨A1, hr, fun w0 h0 => ?_⟩
  obtain ⟨A2, hr2, hs2⟩ := cut_to h0 hmc n hn
  have e := (hr w).symm.trans (hr2 w)
  injection e with e
  injection e with e1
  subst e1
  exact hs2
/-- In a walk: a slice whose run is known. -/
theorem wpList_slice_run {P : Program} {ops : Array Oper} {rest : List Oper} {o : Oper} {a : Act} {w : World} {Q : Exit → Act → World → Prop} {x : Operand} {l h m : Option Operand} {t : TypeId} {v v' : Value} {lo hi mx : Option Value}
    (hr : ∀ w', (Instr.sliceAt t v lo hi mx).run P w' = .ok v' w') (hgd : o.guard = none)
    (ho : o.op = .slice t x l h m) (hx : a.eval x = v) (h1 : l.map a.eval = lo) (h2 : h.map a.eval = hi) (h3 : m.map a.eval = mx)
    (hk : wpList P ops Q rest (a.put o.dst v') w) : wpList P ops Q (o :: rest) a w := by
  refine wpList_plain hgd fun K hK => ?_
  unfold Oper.wp
  simp [execOp, ho, hx, h1, h2, h3, hr, Result.andThen]
  exact hK _ _ hk
/-- In a drawn region: the same. -/
theorem exec_slice_run {P : Program} {o : Oper} {ρ : Operand → Value} {ww : World} {x : Operand} {l h m : Option Operand} {t : TypeId} {v v' : Value} {lo hi mx : Option Value}
    (hr : ∀ w', (Instr.sliceAt t v lo hi mx).run P w' = .ok v' w') (ho : o.op = .slice t x l h m) (hx : ρ x = v) (h1 : l.map ρ = lo) (h2 : h.map ρ = hi) (h3 : m.map ρ = mx) :
    (execOp ρ o).run P ww = .ok (.value v') ww := by
  simp [execOp, ho, hx, h1, h2, h3, hr, Result.andThen]
end Go.Proofs.Ytgfomfioagblfaa

namespace Go.Proofs.Ytgfomfioagblfaa
open Go.RowKit
set_option linter.unusedVariables false

theorem brow_append_old {w w' : World} {base c c' : Nat} {A A' : Option Addr} {xs : List (BitVec 8)} (h : BRow w base A c xs) {ad : Addr} {d : Nat} {ys : List (BitVec 8)} (hs : Sl 1 w (some ad) ys.length d (bytesV ys)) (hn : xs.length + ys.length ≤ 100000000000000) (hy : 0 < ys.length)
    (hr : (Builtin.append_ #[34, 34] 34 #[.slice A xs.length c, .slice (some ad) ys.length d]).run Try.prog w = .ok (.slice A' (xs.length + ys.length) c') w') (hrow : BRow w' base A' c' (xs ++ ys)) : Sl 1 w' A xs.length c (bytesV xs) := by
  obtain ⟨i, hi, hz, hsize, hby⟩ := info_parts u8_info
  have hnews : ∀ j u, (bytesV ys)[j]? = some u → w.cell? (ad.add j) = some u := by
    obtain ⟨_, ⟨e, _⟩ | ⟨a, e, hc⟩⟩ := hs
    · cases e
    · injection e with e
      subst e
      exact hc
  have hl : (bytesV ys).length = ys.length * i.size := by rw [hsize, bytesV_len]; omega
  rcases h.2 with ⟨hv, h0⟩ | ⟨g, cap, cur, hv, hbg, hg, hnc, hcm, hcs, htake⟩
  · injection hv with e1 e2 e3
    subst e1 e3
    obtain rfl := List.eq_nil_of_length_eq_zero h0
    exact Sl.nil_
  · injection hv with e1 e2 e3
    subst e1 e3
    by_cases hroom : xs.length + ys.length ≤ c
    · have hr2 := run_append_room (P := Try.prog) w 34 34 5 i Try.underlying34 hi g xs.length c cur hg ad ys.length d (bytesV ys) hl hnews (bytesV_one ys) hroom (by rw [hl, hcs, hsize]; omega)
      rw [hr2] at hr
      injection hr with e1 e2
      injection e1 with e3 e4 e5
      subst e3 e5
      have hsl := hrow.slAt (n := xs.length + ys.length) (by rw [List.length_append])
      have := sl_take hsl (m := xs.length) (by omega) (fun e => by cases e)
      rwa [List.take_append_of_le_length (Nat.le_refl _), List.take_of_length_le (Nat.le_refl _)] at this
    · have holds : ∀ j u, (bytesV xs)[j]? = some u → w.cell? ((⟨g, 0, none⟩ : Addr).add j) = some u := World.ownsRow.cells h (g := g) rfl
      have hr2 := run_append_grow (P := Try.prog) w 34 34 5 i _ Try.underlying34 hi hz ⟨g, 0, none⟩ xs.length c (bytesV xs) (by rw [hsize, bytesV_len]; omega) holds ad ys.length d (bytesV ys) hl hnews (by omega) (by omega) (growslice_fits (by omega) (by rw [hby]; omega))
      rw [hr2] at hr
      injection hr with e1 e2
      rw [← e2]
      exact h.sl.below (bel_alloc (below_drew (Below.refl _ _)) _)
end Go.Proofs.Ytgfomfioagblfaa

namespace Go.Proofs.Ytgfomfioagblfaa
open Go.RowKit
set_option linter.unusedVariables false

def RVal (v : Value) : Option (DataW Value × List MemPlace) := some (.held v, [])
def updF (f : Int → Option Value) (k : Int) (v : Value) : Int → Option Value := fun i => if i = k then some v else f i
theorem int_keyed3 : Maps.Keyed Try.prog 3 := Maps.int_keyed Try.underlying3
theorem int_key3 {i : Int} (h : -9223372036854775808 ≤ i ∧ i ≤ 9223372036854775807) : keyOf Try.prog 3 (.int .i64 i) = some (.int .i64 i) :=
  Maps.keyOf_int_mk Try.underlying3 (by simp [Lit.wf, IntKind.min, IntKind.max, IntKind.bits, IntKind.signed]; omega)
/-- Block b is a map from numbers to slices, of at most n entries; f tells what it has. -/
def MapI (w : World) (b n : Nat) (f : Int → Option Value) : Prop :=
  ∃ D : DataW Value, w.ownsMap Try.prog 3 RVal b n D ∧ Maps.IsMap D ∧ ∀ i : Int, (-9223372036854775808 ≤ i ∧ i ≤ 9223372036854775807) → Maps.has D (.int .i64 i) = (f i).isSome ∧ ∀ v, f i = some v → ∀ z, D.atKey (.int .i64 i) z = .held v

section
variable {w w' : World} {b n : Nat} {f : Int → Option Value}
theorem MapI.lt (h : MapI w b n f) : b < w.heap.size := by
  obtain ⟨D, h, _⟩ := h
  exact h.lt
theorem MapI.new (w : World) {s : Nat} (hs : w.heap.size = s) : MapI (w.alloc (.map #[] 0)) s 0 (fun _ => none) := by
  subst hs
  exact ⟨.map [], World.ownsMap_made w _ _ _, Maps.isMap_empty, fun i _ => ⟨rfl, fun v h => by cases h⟩⟩
theorem MapI.kept {row : Option Nat} (h : MapI w b n f) (hg : w.grownBy w' row) (hne : some b ≠ row) : MapI w' b n f := by
  obtain ⟨D, h, r⟩ := h
  exact ⟨D, h.kept hg hne, r⟩
theorem MapI.alloc (h : MapI w b n f) (o : Obj) : MapI (w.alloc o) b n f := by
  obtain ⟨D, h, r⟩ := h
  exact ⟨D, h.alloc o, r⟩
theorem MapI.below (h : MapI w b n f) (hb : Below w.heap.size w w') : MapI w' b n f := by
  have hl := h.lt
  obtain ⟨D, ⟨es, clock, hh, F, hs, hD⟩, r⟩ := h
  exact ⟨D, ⟨es, clock, (hb.block b hl).trans hh, F, hs, hD⟩, r⟩
theorem MapI.far (h : MapI w b n f) {p : Addr} (hp : b ≠ p.block) (u : Value) : MapI (w.setCell p u) b n f := by
  obtain ⟨D, h, r⟩ := h
  exact ⟨D, h.setCell hp u, r⟩
theorem MapI.eqv {g : Int → Option Value} (h : MapI w b n f) (e : f = g) : MapI w b n g := by subst e; exact h
theorem lit_int_ne {i k : Int} (h : i ≠ k) : Lit.int .i64 i ≠ Lit.int .i64 k := fun e => h (by injection e)
/-- What 'm[k] = v' does. -/
theorem MapI.put (h : MapI w b n f) (hn : n < 1000) {t : TypeId} {e : TypeId} (ht : Try.prog.underlying t = some (.map 3 e)) {k : Int} (hk : -9223372036854775808 ≤ k ∧ k ≤ 9223372036854775807) (v : Value) :
    ∃ w', (Instr.mapUpdate t (.map (some b)) (.int .i64 k) v).run Try.prog w = .ok () w' ∧ MapI w' b (n + 1) (updF f k v) ∧ w.grownBy w' (some b) := by
  obtain ⟨D, h, hm, hf⟩ := h
  obtain ⟨w', hr, h2, hg⟩ := h.update int_keyed3 ht (by unfold maxLen; omega) (int_key3 hk) (d := .held v) (ps := []) rfl
  refine ⟨w', hr, ⟨D.put (.int .i64 k) (.held v), h2, hm.put _ _, fun i hi => ?_⟩, hg⟩
  obtain ⟨h3, h4⟩ := hf i hi
  unfold updF
  by_cases e : i = k
  · subst e
    rw [if_pos rfl]
    refine ⟨by rw [Maps.has_put_same hm (by trivial)]; rfl, fun u hu z => ?_⟩
    cases hu
    exact Maps.atKey_put_same hm (by trivial) _ _
  · rw [if_neg e]
    exact ⟨by rw [Maps.has_put_other (lit_int_ne e)]; exact h3, fun u hu z => by rw [Maps.atKey_put_other (lit_int_ne e)]; exact h4 u hu z⟩
/-- What a number is told. -/
def toldV (o : Option Value) (z : Value) : Value := match o with | some v => v | none => z
theorem MapI.look (h : MapI w b n f) {t e : TypeId} (ht : Try.prog.underlying t = some (.map 3 e)) {z : Value} (hz : (zeroValue e).run Try.prog w = .ok z w) {k : Int} (hk : -9223372036854775808 ≤ k ∧ k ≤ 9223372036854775807) :
    (Instr.lookup t (.map (some b)) (.int .i64 k) true).run Try.prog w = .ok (.tuple #[toldV (f k) z, .bool (f k).isSome]) w ∧ (Instr.lookup t (.map (some b)) (.int .i64 k) false).run Try.prog w = .ok (toldV (f k) z) w := by
  obtain ⟨D, h, hm, hf⟩ := h
  obtain ⟨h3, h4⟩ := hf k hk
  obtain ⟨v, ps, hr, hv⟩ := h.look_ok int_keyed3 ht hz (zd := .held z) (zp := []) rfl (int_key3 hk)
  obtain ⟨v', ps', hr', hv'⟩ := h.lookup int_keyed3 ht hz (zd := .held z) (zp := []) rfl (int_key3 hk)
  rw [h3] at hr
  have key : ∀ u qs, RVal u = some (D.atKey (.int .i64 k) (.held z), qs) → u = toldV (f k) z := by
    intro u qs hu
    unfold RVal at hu
    simp only [Option.some.injEq, Prod.mk.injEq] at hu
    cases hfk : f k with
    | none =>
      rw [hfk] at h3
      rw [Maps.atKey_of_not_has h3] at hu
      injection hu.1
    | some y =>
      rw [h4 y hfk] at hu
      injection hu.1
  rw [key v ps hv] at hr
  rw [key v' ps' hv'] at hr'
  exact ⟨hr, hr'⟩
end
/-- In a drawn region: an insert into a map. -/
theorem wp_insert_map {o : Oper} {a : Act} {w : World} {K : Act → World → Prop} {Q : Exit → Act → World → Prop} {m x v : Operand} {t e : TypeId} {b n : Nat} {f : Int → Option Value} {k : Int} {val : Value}
    (h : MapI w b n f) (ho : o.op = .insert t m x v) (ht : Try.prog.underlying t = some (.map 3 e)) (hm : a.eval m = .map (some b)) (hx : a.eval x = .int .i64 k) (hv : a.eval v = val) (hn : n < 1000) (hk : -9223372036854775808 ≤ k ∧ k ≤ 9223372036854775807)
    (hK : ∀ w', MapI w' b (n + 1) (updF f k val) → w.grownBy w' (some b) → K (a.put o.dst undef) w') : o.wp Try.prog a w K Q := by
  obtain ⟨w', hr, h2, hg⟩ := h.put hn ht hk val
  unfold Oper.wp
  simp [execOp, ho, hm, hx, hv, hr, Result.andThen]
  exact hK w' h2 hg
theorem Has.grown {w w' : World} {g : Nat} {cs : Array Value} {row : Option Nat} (h : Has w g cs) (hg : w.grownBy w' row) (hne : some g ≠ row) : Has w' g cs := by
  have hl := h.size
  obtain ⟨t, h⟩ := h
  exact ⟨t, (hg.block g hl hne).trans h⟩
end Go.Proofs.Ytgfomfioagblfaa
