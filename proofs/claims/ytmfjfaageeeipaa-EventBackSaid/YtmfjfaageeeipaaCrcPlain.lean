/-
  Sums of bytes by turns of a number of 32 bits: no program here. A turn is linear and loses nothing; so bits that stand in a row, changed, are seen.
-/
namespace Go.Proofs.Ytmfjfaageeeipaa
set_option linter.unusedVariables false
set_option linter.unusedSimpArgs false

def turnB (n : BitVec 32) : BitVec 32 := (n >>> 1) ^^^ (if n.getLsbD 0 then 0x82f63b78#32 else 0#32)
def turnsB : Nat → BitVec 32 → BitVec 32
  | 0, n => n
  | k + 1, n => turnsB k (turnB n)
def eatB (n : BitVec 32) (b : BitVec 8) : BitVec 32 := turnsB 8 (n ^^^ b.setWidth 32)
def runB (n : BitVec 32) (l : List (BitVec 8)) : BitVec 32 := l.foldl eatB n
def sumB (l : List (BitVec 8)) : BitVec 32 := runB 0xffffffff#32 l ^^^ 0xffffffff#32
def bytesB (n : BitVec 32) : List (BitVec 8) := [n.setWidth 8, (n >>> 8).setWidth 8, (n >>> 16).setWidth 8, (n >>> 24).setWidth 8]

theorem xlc {w : Nat} (a b c : BitVec w) : a ^^^ (b ^^^ c) = b ^^^ (a ^^^ c) := by rw [← BitVec.xor_assoc, BitVec.xor_comm a b, BitVec.xor_assoc]
theorem xcan {w : Nat} (a b : BitVec w) : a ^^^ (a ^^^ b) = b := by rw [← BitVec.xor_assoc, BitVec.xor_self, BitVec.zero_xor]
theorem turn_xor (a b : BitVec 32) : turnB (a ^^^ b) = turnB a ^^^ turnB b := by
  unfold turnB
  rw [BitVec.ushiftRight_xor_distrib, BitVec.getLsbD_xor]
  cases a.getLsbD 0 <;> cases b.getLsbD 0 <;> simp [BitVec.xor_assoc, BitVec.xor_comm, xlc, xcan]
theorem turns_xor : ∀ (k : Nat) (a b : BitVec 32), turnsB k (a ^^^ b) = turnsB k a ^^^ turnsB k b
  | 0, _, _ => rfl
  | k + 1, a, b => by rw [turnsB, turnsB, turnsB, turn_xor, turns_xor k]
theorem turn_zero {a : BitVec 32} (h : turnB a = 0#32) : a = 0#32 := by
  have h0 : a.getLsbD 0 = false := by
    have := congrArg (fun x : BitVec 32 => x.getLsbD 31) h
    unfold turnB at this
    cases hb : a.getLsbD 0
    · rfl
    · rw [hb] at this
      simp [BitVec.getLsbD_xor, BitVec.getLsbD_ushiftRight] at this
  unfold turnB at h
  rw [h0] at h
  simp at h
  apply BitVec.eq_of_getLsbD_eq
  intro i hi
  rcases i with _ | i
  · simpa using h0
  · have := congrArg (fun x : BitVec 32 => x.getLsbD i) h
    simp only [BitVec.getLsbD_ushiftRight] at this
    rw [Nat.add_comm] at this
    simpa using this
theorem turns_zero : ∀ (k : Nat) {a : BitVec 32}, turnsB k a = 0#32 → a = 0#32
  | 0, _, h => h
  | k + 1, a, h => turn_zero (turns_zero k h)
theorem turns_nil : ∀ k : Nat, turnsB k 0#32 = 0#32
  | 0 => rfl
  | k + 1 => by rw [turnsB]; exact turns_nil k
theorem turns_inj (k : Nat) {a b : BitVec 32} (h : turnsB k a = turnsB k b) : a = b := by
  have : turnsB k (a ^^^ b) = 0#32 := by rw [turns_xor, h, BitVec.xor_self]
  have := turns_zero k this
  have e : a ^^^ b ^^^ b = 0#32 ^^^ b := by rw [this]
  simpa [BitVec.xor_assoc] using e
theorem turns_add : ∀ (j k : Nat) (a : BitVec 32), turnsB (j + k) a = turnsB k (turnsB j a)
  | 0, k, a => by rw [Nat.zero_add]; rfl
  | j + 1, k, a => by rw [Nat.add_right_comm, turnsB, turnsB, turns_add j k]

theorem run_append (n : BitVec 32) (l m : List (BitVec 8)) : runB n (l ++ m) = runB (runB n l) m := by unfold runB; rw [List.foldl_append]
theorem eat_xor (a b : BitVec 32) (x y : BitVec 8) : eatB (a ^^^ b) (x ^^^ y) = eatB a x ^^^ eatB b y := by
  unfold eatB
  rw [← turns_xor, BitVec.setWidth_xor]
  congr 1
  simp [BitVec.xor_assoc, BitVec.xor_comm, xlc, xcan]
theorem run_xor : ∀ (l m : List (BitVec 8)) (a b : BitVec 32), l.length = m.length → runB (a ^^^ b) (List.zipWith (· ^^^ ·) l m) = runB a l ^^^ runB b m
  | [], [], a, b, _ => rfl
  | x :: l, y :: m, a, b, h => by
    show runB (eatB (a ^^^ b) (x ^^^ y)) (List.zipWith (· ^^^ ·) l m) = runB (eatB a x) l ^^^ runB (eatB b y) m
    rw [eat_xor]
    exact run_xor l m _ _ (by simpa using h)
theorem run_zero (n : BitVec 32) : ∀ k : Nat, runB n (List.replicate k 0#8) = turnsB (8 * k) n
  | 0 => rfl
  | k + 1 => by
    rw [List.replicate_succ]
    show runB (eatB n 0#8) (List.replicate k 0#8) = _
    rw [run_zero _ k, show 8 * (k + 1) = 8 + 8 * k by omega, turns_add]
    congr 1
    unfold eatB
    simp

/-- A number whose highest bits are none, so many places up, is turned back by as many turns. -/
theorem turn_up {x : BitVec 32} (h : x.getLsbD 31 = false) : turnB (x <<< 1) = x := by
  unfold turnB
  have h0 : (x <<< 1).getLsbD 0 = false := by simp
  rw [h0]
  apply BitVec.eq_of_getLsbD_eq
  intro i hi
  simp only [Bool.false_eq_true, if_false, BitVec.xor_zero, BitVec.getLsbD_ushiftRight, BitVec.getLsbD_shiftLeft]
  by_cases h31 : i = 31
  · subst h31
    rw [h]
    simp
  · have : 1 + i < 32 := by omega
    simp [this]
theorem turns_up : ∀ (k : Nat) {x : BitVec 32}, (∀ i, 32 - k ≤ i → x.getLsbD i = false) → turnsB k (x <<< k) = x
  | 0, x, _ => by simp [turnsB]
  | k + 1, x, h => by
    rw [turnsB, show x <<< (k + 1) = (x <<< k) <<< 1 by rw [BitVec.shiftLeft_add]]
    rw [turn_up, turns_up k (fun i hi => h i (by omega))]
    rw [BitVec.getLsbD_shiftLeft]
    by_cases hk : 31 < k
    · simp [hk]
    · rw [h (31 - k) (by omega)]; simp
/-- Eight turns of a number are those of its lowest byte, and the rest, eight places down. -/
theorem turns_low (x : BitVec 32) : turnsB 8 x = turnsB 8 ((x.setWidth 8).setWidth 32) ^^^ (x >>> 8) := by
  have e : x = (x.setWidth 8).setWidth 32 ^^^ ((x >>> 8) <<< 8) := by
    apply BitVec.eq_of_getLsbD_eq
    intro i hi
    simp only [BitVec.getLsbD_xor, BitVec.getLsbD_setWidth, BitVec.getLsbD_shiftLeft, BitVec.getLsbD_ushiftRight]
    by_cases h8 : i < 8
    · simp [h8, hi]
    · have e1 : 8 + (i - 8) = i := by omega
      simp [h8, hi, e1]
  conv => lhs; rw [e]
  rw [turns_xor, turns_up 8 (x := x >>> 8) (fun i hi => by rw [BitVec.getLsbD_ushiftRight]; exact BitVec.getLsbD_of_ge _ _ (by omega))]
theorem eat_step (n m : BitVec 32) : turnsB 8 (n ^^^ m) = eatB n (m.setWidth 8) ^^^ (m >>> 8) := by
  rw [turns_xor, turns_low m, ← BitVec.xor_assoc, ← turns_xor]
  rfl
/-- The four bytes of a number, behind, are that number, and 32 turns. -/
theorem run_bytes (n m : BitVec 32) : runB n (bytesB m) = turnsB 32 (n ^^^ m) := by
  have s32 : turnsB 32 (n ^^^ m) = turnsB 8 (turnsB 8 (turnsB 8 (turnsB 8 (n ^^^ m)))) := by
    rw [← turns_add, ← turns_add, ← turns_add]
  rw [s32, eat_step, eat_step, eat_step, eat_step]
  have e : ∀ a b : Nat, m >>> a >>> b = m >>> (a + b) := fun a b => by rw [BitVec.shiftRight_add]
  rw [e, e, e]
  have z : m >>> (8 + 8 + 8 + 8) = 0#32 := by
    apply BitVec.eq_of_getLsbD_eq
    intro i hi
    rw [BitVec.getLsbD_ushiftRight]
    simp
  rw [z, BitVec.xor_zero]
  rfl
theorem sum_same (l : List (BitVec 8)) : runB 0xffffffff#32 (l ++ bytesB (sumB l)) = turnsB 32 0xffffffff#32 := by
  rw [run_append, run_bytes]
  congr 1
  unfold sumB
  rw [xcan]
/-- The bytes behind are those of the sum just if the run over all is the one that each sum has. -/
theorem sum_seen (l : List (BitVec 8)) (m : BitVec 32) : runB 0xffffffff#32 (l ++ bytesB m) = turnsB 32 0xffffffff#32 ↔ m = sumB l := by
  constructor
  · intro h
    rw [run_append, run_bytes] at h
    have h2 := turns_inj 32 h
    unfold sumB
    have h3 : runB 0xffffffff#32 l ^^^ (runB 0xffffffff#32 l ^^^ m) = runB 0xffffffff#32 l ^^^ 0xffffffff#32 := by rw [h2]
    rwa [xcan] at h3
  · rintro rfl; exact sum_same l

/-- One bit of one byte changed. -/
def flipB (l : List (BitVec 8)) (k : Nat) : List (BitVec 8) := l.set (k / 8) (l.getD (k / 8) 0#8 ^^^ (1#8 <<< (k % 8)))
theorem flip_len (l : List (BitVec 8)) (k : Nat) : (flipB l k).length = l.length := by simp [flipB]
theorem one_up (j : Nat) (hj : j < 8) : ((1#8 <<< j).setWidth 32 : BitVec 32) = 1#32 <<< j := by
  have : j = 0 ∨ j = 1 ∨ j = 2 ∨ j = 3 ∨ j = 4 ∨ j = 5 ∨ j = 6 ∨ j = 7 := by omega
  rcases this with rfl | rfl | rfl | rfl | rfl | rfl | rfl | rfl <;> decide
theorem turns_one {j : Nat} (hj : j < 32) : turnsB j (1#32 <<< j) = 1#32 :=
  turns_up j (fun i hi => by
    have : i ≠ 0 := by omega
    simp [BitVec.getLsbD_one, this])
theorem run_flip : ∀ (l : List (BitVec 8)) (k : Nat) (n : BitVec 32), k < 8 * l.length → runB n (flipB l k) = runB n l ^^^ turnsB (8 * l.length - k) 1#32
  | [], k, n, h => by simp at h
  | x :: l, k, n, h => by
    simp only [List.length_cons] at h
    by_cases hk : k < 8
    · have e0 : k / 8 = 0 := by omega
      have e1 : k % 8 = k := by omega
      unfold flipB
      rw [e0, e1]
      show runB (eatB n (x ^^^ 1#8 <<< k)) l = runB (eatB n x) l ^^^ _
      have e2 : eatB n (x ^^^ 1#8 <<< k) = eatB n x ^^^ turnsB (8 - k) 1#32 := by
        have h1 := eat_xor n 0#32 x (1#8 <<< k)
        rw [BitVec.xor_zero] at h1
        rw [h1]
        congr 1
        unfold eatB
        rw [BitVec.zero_xor, one_up k hk, show (8 : Nat) = k + (8 - k) by omega, turns_add, turns_one (by omega)]
        congr 1
        omega
      rw [e2]
      have h2 := run_xor l (List.replicate l.length 0#8) (eatB n x) (turnsB (8 - k) 1#32) (by simp)
      have e3 : List.zipWith (· ^^^ ·) l (List.replicate l.length 0#8) = l := by
        apply List.ext_getElem
        · simp
        · intro i h1 h2; simp
      rw [e3] at h2
      rw [h2, run_zero, ← turns_add]
      congr 2
      simp only [List.length_cons]
      omega
    · have e0 : k / 8 = (k - 8) / 8 + 1 := by omega
      have e1 : k % 8 = (k - 8) % 8 := by omega
      have e2 : flipB (x :: l) k = x :: flipB l (k - 8) := by
        unfold flipB
        rw [e0, e1]
        rfl
      rw [e2]
      show runB (eatB n x) (flipB l (k - 8)) = runB (eatB n x) l ^^^ _
      rw [run_flip l (k - 8) _ (by omega)]
      congr 2
      simp only [List.length_cons]
      omega

/-- The lowest i bits. -/
def lowB (b : BitVec 32) : Nat → BitVec 32
  | 0 => 0#32
  | i + 1 => lowB b i ^^^ (if b.getLsbD i then 1#32 <<< i else 0#32)
theorem low_get (b : BitVec 32) : ∀ (i j : Nat), i ≤ 32 → j < 32 → (lowB b i).getLsbD j = (decide (j < i) && b.getLsbD j)
  | 0, j, _, _ => by simp [lowB]
  | i + 1, j, hi, hj => by
    rw [lowB, BitVec.getLsbD_xor, low_get b i j (by omega) hj]
    by_cases e : j = i
    · subst e
      cases hb : b.getLsbD j
      · simp
      · simp [hj]
    · have e1 : decide (j < i + 1) = decide (j < i) := by
        rw [Bool.eq_iff_iff]; simp; omega
      rw [e1]
      cases hb : b.getLsbD i
      · simp
      · have e2 : (1#32 <<< i).getLsbD j = false := by
          rw [BitVec.getLsbD_shiftLeft]
          by_cases h : j < i
          · simp [h]
          · have : j - i ≠ 0 := by omega
            simp [BitVec.getLsbD_one, this]
        simp [e2]
theorem low_all (b : BitVec 32) : lowB b 32 = b := by
  apply BitVec.eq_of_getLsbD_eq
  intro i hi
  rw [low_get b 32 i (by omega) hi]
  simp [hi]
/-- The first i bits of a burst, laid from a bit on. -/
def burstB (l : List (BitVec 8)) (f : Nat) (b : BitVec 32) : Nat → List (BitVec 8)
  | 0 => l
  | i + 1 => if b.getLsbD i then flipB (burstB l f b i) (f + i) else burstB l f b i
theorem burst_len (l : List (BitVec 8)) (f : Nat) (b : BitVec 32) : ∀ i, (burstB l f b i).length = l.length
  | 0 => rfl
  | i + 1 => by
    rw [burstB]
    split
    · rw [flip_len, burst_len l f b i]
    · exact burst_len l f b i
theorem run_burst (l : List (BitVec 8)) (f : Nat) (b : BitVec 32) (n : BitVec 32) : ∀ i, i ≤ 32 → f + i ≤ 8 * l.length → runB n (burstB l f b i) = runB n l ^^^ turnsB (8 * l.length - f) (lowB b i)
  | 0, _, _ => by rw [burstB, lowB, turns_nil, BitVec.xor_zero]
  | i + 1, hi, hf => by
    have ih := run_burst l f b n i (by omega) (by omega)
    rw [burstB, lowB]
    split
    · rw [run_flip _ _ _ (by rw [burst_len]; omega), burst_len, ih, turns_xor, BitVec.xor_assoc]
      have e : turnsB (8 * l.length - f) (1#32 <<< i) = turnsB (8 * l.length - (f + i)) 1#32 := by
        conv => lhs; rw [show 8 * l.length - f = i + (8 * l.length - (f + i)) by omega, turns_add, turns_one (by omega)]
      rw [e]
    · rw [ih, BitVec.xor_zero]

theorem bytes_inj {a b : BitVec 32} (h : bytesB a = bytesB b) : a = b := by
  have h1 := run_bytes 0#32 a
  have h2 := run_bytes 0#32 b
  rw [h, h2, BitVec.zero_xor, BitVec.zero_xor] at h1
  exact (turns_inj 32 h1).symm
theorem bytes_any (x0 x1 x2 x3 : BitVec 8) : ∃ m, bytesB m = [x0, x1, x2, x3] := by
  refine ⟨x0.setWidth 32 ^^^ (x1.setWidth 32 <<< 8) ^^^ (x2.setWidth 32 <<< 16) ^^^ (x3.setWidth 32 <<< 24), ?_⟩
  unfold bytesB
  have z : ∀ (x : BitVec 8) (i : Nat), 8 ≤ i → x.getLsbD i = false := fun x i h => BitVec.getLsbD_of_ge _ _ h
  have e : ∀ (k : Nat) (i : Nat), k ≤ 24 → i < 8 → (x0.setWidth 32 ^^^ (x1.setWidth 32 <<< 8) ^^^ (x2.setWidth 32 <<< 16) ^^^ (x3.setWidth 32 <<< 24)).getLsbD (k + i) =
      (((x0.getLsbD (k + i) ^^ (decide (8 ≤ k + i) && x1.getLsbD (k + i - 8))) ^^ (decide (16 ≤ k + i) && x2.getLsbD (k + i - 16))) ^^ (decide (24 ≤ k + i) && x3.getLsbD (k + i - 24))) := by
    intro k i hk hi
    simp only [BitVec.getLsbD_xor, BitVec.getLsbD_setWidth, BitVec.getLsbD_shiftLeft]
    have h1 : k + i < 32 := by omega
    have h2 : k + i - 8 < 32 := by omega
    have h3 : k + i - 16 < 32 := by omega
    have h4 : k + i - 24 < 32 := by omega
    simp only [h1, h2, h3, h4, decide_true, Bool.true_and]
    have n1 : (!decide (k + i < 8)) = decide (8 ≤ k + i) := by rw [Bool.eq_iff_iff]; simp
    have n2 : (!decide (k + i < 16)) = decide (16 ≤ k + i) := by rw [Bool.eq_iff_iff]; simp
    have n3 : (!decide (k + i < 24)) = decide (24 ≤ k + i) := by rw [Bool.eq_iff_iff]; simp
    rw [n1, n2, n3]
  have l0 : ∀ i, i < 8 → (x0.setWidth 32 ^^^ (x1.setWidth 32 <<< 8) ^^^ (x2.setWidth 32 <<< 16) ^^^ (x3.setWidth 32 <<< 24)).getLsbD i = x0.getLsbD i := fun i hi => by
    have := e 0 i (by omega) hi
    rw [Nat.zero_add] at this
    rw [this, show decide (8 ≤ i) = false by simp; omega, show decide (16 ≤ i) = false by simp; omega, show decide (24 ≤ i) = false by simp; omega]
    simp
  congr 1
  · apply BitVec.eq_of_getLsbD_eq
    intro i hi
    rw [BitVec.getLsbD_setWidth, l0 i hi]; simp [hi]
  congr 1
  · apply BitVec.eq_of_getLsbD_eq
    intro i hi
    rw [BitVec.getLsbD_setWidth, BitVec.getLsbD_ushiftRight, e 8 i (by omega) hi, z x0 _ (by omega), show decide (8 ≤ 8 + i) = true by simp, show decide (16 ≤ 8 + i) = false by simp; omega, show decide (24 ≤ 8 + i) = false by simp; omega, show 8 + i - 8 = i by omega]
    simp [hi]
  congr 1
  · apply BitVec.eq_of_getLsbD_eq
    intro i hi
    rw [BitVec.getLsbD_setWidth, BitVec.getLsbD_ushiftRight, e 16 i (by omega) hi, z x0 _ (by omega), z x1 _ (by omega), show decide (16 ≤ 16 + i) = true by simp, show decide (24 ≤ 16 + i) = false by simp; omega, show 16 + i - 16 = i by omega]
    simp [hi]
  congr 1
  · apply BitVec.eq_of_getLsbD_eq
    intro i hi
    rw [BitVec.getLsbD_setWidth, BitVec.getLsbD_ushiftRight, e 24 i (by omega) hi, z x0 _ (by omega), z x1 _ (by omega), z x2 _ (by omega), show decide (24 ≤ 24 + i) = true by simp, show 24 + i - 24 = i by omega]
    simp [hi]

/-- Up to 32 bits in a row, of bytes and of the four bytes of their sum behind, changed, are seen. -/
theorem burst_seen (l : List (BitVec 8)) (f : Nat) (b : BitVec 32) (hf : f + 32 ≤ 8 * (l.length + 4)) :
    bytesB (sumB ((burstB (l ++ bytesB (sumB l)) f b 32).take l.length)) = (burstB (l ++ bytesB (sumB l)) f b 32).drop l.length ↔ b = 0#32 := by
  have hlen : (l ++ bytesB (sumB l)).length = l.length + 4 := by rw [List.length_append]; rfl
  have hr := run_burst (l ++ bytesB (sumB l)) f b 0xffffffff#32 32 (by omega) (by rw [hlen]; exact hf)
  rw [low_all, sum_same, hlen] at hr
  have hbl := burst_len (l ++ bytesB (sumB l)) f b 32
  generalize burstB (l ++ bytesB (sumB l)) f b 32 = c at *
  rw [hlen] at hbl
  obtain ⟨m, hm⟩ : ∃ m, bytesB m = c.drop l.length := by
    have h4 : (c.drop l.length).length = 4 := by rw [List.length_drop]; omega
    match hd : c.drop l.length, h4 with
    | [x0, x1, x2, x3], _ => exact bytes_any x0 x1 x2 x3
  have hc : c = c.take l.length ++ bytesB m := by rw [hm, List.take_append_drop]
  have hseen := sum_seen (c.take l.length) m
  rw [← hc, hr] at hseen
  rw [← hm]
  constructor
  · intro h
    have h1 := bytes_inj h
    have h2 := hseen.2 h1.symm
    have h3 : turnsB 32 0xffffffff#32 ^^^ (turnsB 32 0xffffffff#32 ^^^ turnsB (8 * (l.length + 4) - f) b) = turnsB 32 0xffffffff#32 ^^^ turnsB 32 0xffffffff#32 := by rw [h2]
    rw [xcan, BitVec.xor_self] at h3
    exact turns_zero _ h3
  · rintro rfl
    rw [turns_nil, BitVec.xor_zero] at hseen
    rw [← hseen.1 rfl]
/-- Of three lists of one length, the sum of what is in one, or in all, is that of the sums. -/
theorem sum_three (a b c : List (BitVec 8)) (h1 : a.length = b.length) (h2 : b.length = c.length) : sumB (List.zipWith (· ^^^ ·) (List.zipWith (· ^^^ ·) a b) c) = sumB a ^^^ sumB b ^^^ sumB c := by
  unfold sumB
  have e1 := run_xor a b 0xffffffff#32 0xffffffff#32 h1
  have e2 := run_xor (List.zipWith (· ^^^ ·) a b) c 0#32 0xffffffff#32 (by simp; omega)
  rw [BitVec.xor_self] at e1
  rw [BitVec.zero_xor, e1] at e2
  rw [e2]
  simp [BitVec.xor_assoc, BitVec.xor_comm, xlc, xcan]
end Go.Proofs.Ytmfjfaageeeipaa
