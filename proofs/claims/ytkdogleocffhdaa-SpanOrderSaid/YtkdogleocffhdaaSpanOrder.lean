/-
  The walk of the law SpanOrder: it answers true, and leaves what was there as it was.
-/
import Derived.Test.YtkdogleocffhdaaSpAwake
namespace Go.Proofs.Ytkdogleocffhdaa
open Go.RowKit
set_option linter.unusedVariables false
set_option linter.unusedSimpArgs false

def turnedL (xs : List (Int × Int)) (f k : Nat) : List (Int × Int) := (List.range k).map fun i => xs.getD ((i + f) % xs.length) (0, 0)
def halves (cut : Int) (s : Int × Int) : List (Int × Int) := [(s.1, min s.2 (max cut s.1)), (max s.1 (min cut s.2), s.2)]
def partsL (cut : Int) (l : List (Int × Int)) : List (Int × Int) := l.flatMap (halves cut)
theorem turned_snoc (xs : List (Int × Int)) (f k : Nat) : turnedL xs f (k + 1) = turnedL xs f k ++ [xs.getD ((k + f) % xs.length) (0, 0)] := by
  unfold turnedL
  rw [List.range_succ, List.map_append]; rfl
theorem parts_snoc (cut : Int) (xs : List (Int × Int)) (k : Nat) (h : k < xs.length) : partsL cut (xs.take (k + 1)) = partsL cut (xs.take k) ++ halves cut (xs.getD k (0, 0)) := by
  unfold partsL
  rw [List.take_succ_eq_append_getElem h, List.flatMap_append]
  simp [List.getD, h]
theorem turned_len (xs : List (Int × Int)) (f k : Nat) : (turnedL xs f k).length = k := by simp [turnedL]
theorem parts_len (cut : Int) : ∀ l : List (Int × Int), (partsL cut l).length = l.length * 2
  | [] => rfl
  | s :: l => by
    have := parts_len cut l
    simp only [partsL, List.flatMap_cons, List.length_append, List.length_cons, halves, List.length_nil] at this ⊢
    omega
theorem halves_in (cut : Int) (s : Int × Int) (t : Int) : In (halves cut s) t ↔ s.1 ≤ t ∧ t < s.2 := by
  unfold halves
  rw [in_cons, in_one]
  simp only []
  omega
theorem parts_in (cut : Int) : ∀ (l : List (Int × Int)) (t : Int), In (partsL cut l) t ↔ In l t
  | [], t => by simp [partsL]
  | s :: l, t => by
    have e : partsL cut (s :: l) = halves cut s ++ partsL cut l := rfl
    rw [e, in_append, halves_in, parts_in cut l t, in_cons]
theorem mod_back {n f j : Nat} (hj : j < n) : (((j + (n - f % n)) % n) + f) % n = j := by
  have h1 : f = f % n + n * (f / n) := (Nat.mod_add_div f n).symm
  have h2 : f % n < n := Nat.mod_lt _ (by omega)
  rw [Nat.mod_add_mod]
  have e : j + (n - f % n) + f = j + n * (f / n + 1) := by
    rw [Nat.mul_add, Nat.mul_one]
    generalize hq : n * (f / n) = q at *
    omega
  rw [e, Nat.add_mul_mod_self_left, Nat.mod_eq_of_lt hj]
theorem turned_mem (xs : List (Int × Int)) (f : Nat) (x : Int × Int) : x ∈ turnedL xs f xs.length ↔ x ∈ xs := by
  unfold turnedL
  simp only [List.mem_map, List.mem_range]
  constructor
  · rintro ⟨i, hi, rfl⟩
    have : (i + f) % xs.length < xs.length := Nat.mod_lt _ (by omega)
    simp [List.getD, this]
  · intro hx
    obtain ⟨j, hj, rfl⟩ := List.getElem_of_mem hx
    refine ⟨(j + (xs.length - f % xs.length)) % xs.length, Nat.mod_lt _ (by omega), ?_⟩
    rw [mod_back hj]
    simp [List.getD, hj]
theorem turned_in (xs : List (Int × Int)) (f : Nat) (t : Int) : In (turnedL xs f xs.length) t ↔ In xs t := by
  unfold In
  constructor
  · rintro ⟨s, h1, h2⟩; exact ⟨s, (turned_mem xs f s).1 h1, h2⟩
  · rintro ⟨s, h1, h2⟩; exact ⟨s, (turned_mem xs f s).2 h1, h2⟩
theorem turned_fits {xs : List (Int × Int)} (h : Fits xs) (f : Nat) : Fits (turnedL xs f xs.length) := fun x hx => h x ((turned_mem xs f x).1 hx)
theorem parts_fits {xs : List (Int × Int)} (h : Fits xs) {cut : Int} (hc : Fit cut) : Fits (partsL cut xs) := fun x hx => by
  unfold partsL at hx
  obtain ⟨s, hs, hx⟩ := List.mem_flatMap.1 hx
  obtain ⟨⟨a1, a2⟩, b1, b2⟩ := h s hs
  obtain ⟨c1, c2⟩ := hc
  unfold halves at hx
  rcases List.mem_cons.1 hx with rfl | hx
  · exact ⟨⟨a1, a2⟩, by simp only []; omega, by simp only []; omega⟩
  · rw [List.mem_singleton.1 hx]
    exact ⟨⟨by simp only []; omega, by simp only []; omega⟩, b1, b2⟩

theorem sl_two (w : World) (t : TypeId) (a b c d : Int) {s : Nat} (hs : w.heap.size = s) : Sl 2 (w.alloc (.cells #[.int .i64 a, .int .i64 b, .int .i64 c, .int .i64 d] t)) (some ⟨s, 0, none⟩) [(a, b), (c, d)].length 2 (cells2 [(a, b), (c, d)]) := by
  subst hs
  refine ⟨rfl, .inr ⟨_, rfl, fun j u hu => ?_⟩⟩
  rw [add_none, Nat.zero_add, cell_of_row _ _ _ _ t (0, 0) (heap_alloc_new w _)]
  simpa [cells2] using hu

/-- Two slices of the call's own, in blocks of their own. -/
def Apart (A B : Option Addr) : Prop := ∀ g h, A = some g → B = some h → g.block ≠ h.block
theorem row_other {w w' : World} {base c d n : Nat} {A B : Option Addr} {ys : List (Int × Int)} (hb : Row w base B d ys) (ha : Apart A B) (hg : w.grownBy w' (Value.slice A n c).ownBlock) : Row w' base B d ys :=
  hb.keep fun g hB => hg.block _ (hb.lt g hB).2 (fun e => by
    cases A with
    | none => simp [Value.ownBlock] at e
    | some a => simp only [Value.ownBlock, Option.some.injEq] at e; exact ha a g rfl hB e.symm)
theorem apart_on {w : World} {base c c' d n n' s : Nat} {A A' B : Option Addr} {ys : List (Int × Int)} (hb : Row w base B d ys) (ha : Apart A B) (hs : w.heap.size ≤ s) (ho : (Value.slice A' n' c').ownBlock = (Value.slice A n c).ownBlock ∨ (Value.slice A' n' c').ownBlock = some s) : Apart A' B := by
  rintro g h rfl rfl e
  have hl := (hb.lt h rfl).2
  rcases ho with ho | ho
  · cases A with
    | none => simp [Value.ownBlock] at ho
    | some a => simp only [Value.ownBlock, Option.some.injEq] at ho; exact ha a h rfl rfl (ho ▸ e)
  · simp only [Value.ownBlock, Option.some.injEq] at ho; omega
theorem Apart.symm {A B : Option Addr} (h : Apart A B) : Apart B A := fun g k hg hk e => h k g hk hg e.symm

theorem spanOrder_long (a0 : Option Addr) (len0 cap0 : Nat) (z0 : List (Int × Int)) (f cut : Int) (w : World) (l0' : len0 ≤ 9223372036854775807) (h : 100 < len0) :
    Calls Try.prog 8 #[.slice a0 len0 cap0, .int .u8 f, .int .i64 cut] w fun e w' => e = .returned (.bool true) ∧ Below w.heap.size w w' := by
  have hd : (100 : Int) < (len0 : Int) := by omega
  go_enter Try.func8, Try.ntmps8
  go_wp2_with fail
  refine (awake3 _).mono ?_
  rintro e w1 ⟨rfl, b1⟩
  go_wp2
  go_ret
  exact ⟨rfl, b1⟩

set_option maxHeartbeats 4000000 in
theorem spanOrder_short (a0 : Option Addr) (cap0 : Nat) (z0 : List (Int × Int)) (f : Nat) (cut : Int) (w : World) (s0 : Spans w a0 z0) (hf : f ≤ 255) (hc : Fit cut) (g : z0.length ≤ 100) :
    Calls Try.prog 8 #[.slice a0 z0.length cap0, .int .u8 (f : Int), .int .i64 cut] w fun e w' => e = .returned (.bool true) ∧ Below w.heap.size w w' := by
  have hd : (z0.length : Int) ≤ 100 := by omega
  have S0 := Lib.hid s0
  have FT := turned_fits s0.1 f
  have FP := parts_fits s0.1 hc
  have ET := Lib.hid (canon_congr (p := In (turnedL z0 f z0.length)) (q := In z0) (fun t _ _ => turned_in z0 f t))
  have EP := Lib.hid (canon_congr (p := In (partsL cut z0)) (q := In z0) (fun t _ _ => parts_in cut z0 t))
  have fN := Fits.canon (In z0)
  have lN := canon_len (In z0)
  clear s0
  go_enter Try.func8, Try.ntmps8
  go_wp2_with fail
  refine (awake3 _).mono ?_
  rintro e w1 ⟨rfl, b1⟩
  have S1 := Lib.hid (S0.out.below b1)
  clear S0
  go_wp2
  go_loopw [8, 9, 10] (fun s r i wr => ∃ (k : Nat) (A B : Option Addr) (c d : Nat) (T P : List (Int × Int)), k ≤ z0.length ∧ i = .int .i64 k ∧ s = .slice A T.length c ∧ r = .slice B P.length d ∧ Hid (T = turnedL z0 f k) ∧ Hid (P = partsL cut (z0.take k)) ∧ Row wr w1.heap.size A c T ∧ Row wr w1.heap.size B d P ∧ Hid (Apart A B) ∧ Below w1.heap.size w1 wr) (fun _ _ i _ => z0.length - (intOf i).toNat)
  case atStart => exact ⟨0, none, none, 0, 0, [], [], Nat.zero_le _, rfl, rfl, rfl, rfl, rfl, Row.nil _ _, Row.nil _ _, (fun _ _ h => by cases h), Below.refl _ _⟩
  case round =>
    obtain ⟨k, A, B, c, d, T, P, hk, rfl, rfl, rfl, hT, hP, hrT, hrP, hap, hbw⟩ := hrel
    by_cases hlt : k < z0.length
    · have TS := Lib.hid (turned_snoc z0 f k)
      have PS := Lib.hid (parts_snoc cut z0 k hlt)
      have lT : T.length ≤ 100 := by rw [hT.out, turned_len]; omega
      have lP : P.length ≤ 200 := by rw [hP.out, parts_len, List.length_take]; omega
      have hj : (k + f) % z0.length < z0.length := Nat.mod_lt _ (by omega)
      obtain ⟨b, off, rfl, hblt, c1, c2⟩ := (S1.out.below hbw).2 _ hj
      have hmod : ((k : Int) + (f : Int)) % (z0.length : Int) = (((k + f) % z0.length : Nat) : Int) := by simp
      have hws := hbw.size
      have HM := Lib.hid hmod
      clear hmod
      generalize (k + f) % z0.length = j at *
      have hmod := HM.out
      clear HM
      generalize z0.getD j (0, 0) = x at *
      obtain ⟨xa, xb⟩ := x
      simp only [] at c1 c2
      -- the first append
      obtain ⟨A', c', u1, hr1, R1, U1, z1, g1, o1⟩ := row_push hrT xa xb (by omega) hws (s := wr.heap.size) rfl
      have bu1 := U1 w1 (Nat.le_refl _) hbw
      have RP1 := row_other (hrP.alloc (.cells #[.int .i64 xa, .int .i64 xb] 35)) hap.out g1
      have ap1 := apart_on hrP hap.out (s := wr.heap.size + 1) (by omega) o1
      -- the span itself, and its two parts
      obtain ⟨b', off', he, hblt', c3, c4⟩ := (S1.out.below bu1).2 k hlt
      simp only [Option.some.injEq, Addr.mk.injEq, and_true] at he
      obtain ⟨rfl, rfl⟩ := he
      generalize z0.getD k (0, 0) = y at *
      obtain ⟨ya, yb⟩ := y
      simp only [halves] at c3 c4 PS
      have RP2 := (RP1.alloc (.cells #[.int .i64 ya, .int .i64 yb] 35)).alloc (.cells #[.int .i64 ya, .int .i64 (min yb (max cut ya)), .int .i64 (max ya (min cut yb)), .int .i64 yb] 35)
      have RT2 := (R1.alloc (.cells #[.int .i64 ya, .int .i64 yb] 35)).alloc (.cells #[.int .i64 ya, .int .i64 (min yb (max cut ya)), .int .i64 (max ya (min cut yb)), .int .i64 yb] 35)
      have bu2 := bel_alloc (bel_alloc bu1 (.cells #[.int .i64 ya, .int .i64 yb] 35)) (.cells #[.int .i64 ya, .int .i64 (min yb (max cut ya)), .int .i64 (max ya (min cut yb)), .int .i64 yb] 35)
      have hu1 := bu1.size
      obtain ⟨B', d', u2, hr2, R2, U2, g2, o2⟩ := row_append RP2 (ys := [(ya, min yb (max cut ya)), (max ya (min cut yb), yb)]) (sl_two (u1.alloc (.cells #[.int .i64 ya, .int .i64 yb] 35)) 35 ya (min yb (max cut ya)) (max ya (min cut yb)) yb (s := u1.heap.size + 1) (by simp)) (by simp; omega) (by simp; omega)
      have bu3 := U2 w1 (Nat.le_refl _) bu2
      have RT3 := row_other RT2 ap1.symm g2
      have ap2 := Lib.hid (apart_on RT2 ap1.symm (s := ((u1.alloc (.cells #[.int .i64 ya, .int .i64 yb] 35)).alloc (.cells #[.int .i64 ya, .int .i64 (min yb (max cut ya)), .int .i64 (max ya (min cut yb)), .int .i64 yb] 35)).heap.size) (Nat.le_refl _) o2).symm
      simp only [List.length_cons, List.length_nil, Nat.zero_add, Nat.reduceAdd] at hr2
      have HR1 := Lib.hid hr1
      have HR2 := Lib.hid hr2
      clear hr1 hr2 RP1 RP2 RT2 R1 bu1 bu2 U1 U2 g1 g2 o1 o2 ap1 hrT hrP
      go_wp2_with (first | (at_builtin; refine wpList_append_run (o := ⟨some 36, _, _, _, _, _⟩) HR1.out rfl rfl rfl rfl ?_) | (at_builtin; refine wpList_append_run (o := ⟨some 63, _, _, _, _, _⟩) HR2.out rfl rfl rfl rfl ?_))
      go_roundw
      case rel => exact ⟨k + 1, A', B', c', d', _, _, by omega, by go_num, by rw [List.length_append]; rfl, by rw [List.length_append]; rfl, by show _ = _; rw [TS.out, hT.out], by show _ = _; rw [PS.out, hP.out], RT3, R2, ap2, bu3⟩
      case measure => simp [intOf]; omega
    · obtain rfl : k = z0.length := by omega
      have hT' := hT.out
      have hP' := hP.out
      rw [List.take_length] at hP'
      have lT : T.length ≤ 100000000 := by rw [hT', turned_len]; omega
      have lP : P.length ≤ 100000000 := by rw [hP', parts_len]; omega
      have S2 := Lib.hid (S1.out.below hbw)
      have ST := Lib.hid (hrT.spans (by rw [hT']; exact FT))
      have SP := Lib.hid (hrP.spans (by rw [hP']; exact FP))
      rw [← hT'] at ET
      rw [← hP'] at EP
      have CN := Lib.hid (fun W (h : Spans W a0 z0) => norm_any a0 cap0 z0 W h (by omega))
      have CT := Lib.hid (fun W (h : Spans W A T) => norm_any A c T W h lT)
      have CP := Lib.hid (fun W (h : Spans W B P) => norm_any B d P W h lP)
      rw [ET.out] at CT
      rw [EP.out] at CP
      clear hT hP hT' hP' ET EP hrT hrP hap S1 FT FP
      generalize canon (In z0) = N at *
      go_wp2_with fail
      refine (CN.out _ S2.out).mono ?_
      rintro e w2 ⟨D2, d2, rfl, r2, b2⟩
      have SN := Lib.hid (r2.spans fN)
      have ST2 := Lib.hid (ST.out.below b2)
      have SP2 := Lib.hid (SP.out.below b2)
      replace b2 := bel_on hbw b2
      clear r2 ST SP S2 CN
      go_wp2_with fail
      refine (CT.out _ ST2.out).mono ?_
      rintro e w3 ⟨D3, d3, rfl, r3, b3⟩
      have SQ := Lib.hid (r3.spans fN)
      have SN2 := Lib.hid (SN.out.below b3)
      have SP3 := Lib.hid (SP2.out.below b3)
      replace b3 := bel_on b2 b3
      clear r3 ST2 SP2 SN CT b2
      go_wp2_with fail
      refine (same_any D3 D2 d3 d2 N _ SQ.out SN2.out (by omega)).mono ?_
      rintro e w4 ⟨rfl, b4⟩
      have SN3 := Lib.hid (SN2.out.below b4)
      have SP4 := Lib.hid (SP3.out.below b4)
      replace b4 := bel_on b3 b4
      clear SQ SN2 SP3 b3
      go_wp2_with fail
      refine (CP.out _ SP4.out).mono ?_
      rintro e w5 ⟨D5, d5, rfl, r5, b5⟩
      have SQ := Lib.hid (r5.spans fN)
      have SN4 := Lib.hid (SN3.out.below b5)
      replace b5 := bel_on b4 b5
      clear r5 SP4 SN3 CP b4
      go_wp2_with fail
      refine (same_any D5 D2 d5 d2 N _ SQ.out SN4.out (by omega)).mono ?_
      rintro e w6 ⟨rfl, b6⟩
      replace b6 := bel_on b1 (bel_on b5 b6)
      clear SQ SN4 b5
      go_wp2
      go_ret
      exact ⟨rfl, b6⟩

theorem spanOrder_walk (a0 : Option Addr) (len0 cap0 : Nat) (z0 : List (Int × Int)) (f cut : Int) (w : World) (l0 : z0.length = len0) (l0' : len0 ≤ 9223372036854775807) (s0 : Spans w a0 z0) (n0 : a0 = none → cap0 = 0) (hf1 : 0 ≤ f) (hf2 : f ≤ 255) (hc1 : -9223372036854775808 ≤ cut) (hc2 : cut ≤ 9223372036854775807) :
    Calls Try.prog 8 #[.slice a0 len0 cap0, .int .u8 f, .int .i64 cut] w fun e w' => e = .returned (.bool true) ∧ Below w.heap.size w w' := by
  by_cases g : len0 ≤ 100
  · subst l0
    obtain ⟨m, rfl⟩ : ∃ m : Nat, f = (m : Int) := ⟨f.toNat, by omega⟩
    exact spanOrder_short a0 cap0 z0 m cut w s0 (by omega) ⟨hc1, hc2⟩ g
  · exact spanOrder_long a0 len0 cap0 z0 f cut w l0' (by omega)
end Go.Proofs.Ytkdogleocffhdaa
