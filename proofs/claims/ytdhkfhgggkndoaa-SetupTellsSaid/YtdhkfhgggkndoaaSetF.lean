/-
  Package setup: which times and money may be; Check.
-/
import Derived.Test.YtdhkfhgggkndoaaSetE
import Derived.Test.YtdhkfhgggkndoaaNums
namespace Go.Proofs.Ytdhkfhgggkndoaa
open Go.RowKit
set_option linter.unusedVariables false
set_option linter.unusedSimpArgs false
set_option maxRecDepth 20000

theorem day_at (n : Int) (w : World) : Calls Try.prog 83 #[.int .i64 n] w fun e w' => e = .returned (.bool (withB n 0 86400)) ∧ Below w.heap.size w w' := by
  have HW := Lib.hid (within_at n 0 86400 w)
  generalize withB n 0 86400 = r at *
  go_enter Try.func83, Try.ntmps83
  go_wp2_with fail
  refine HW.out.mono ?_
  rintro e w1 ⟨rfl, rfl⟩
  go_wp2
  go_ret
  exact ⟨rfl, Below.refl _ _⟩
theorem rate_at (n : Int) (w : World) : Calls Try.prog 84 #[.int .i64 n] w fun e w' => e = .returned (.bool (withB n 0 100000)) ∧ w = w' := by
  have HW := Lib.hid (within_at n 0 100000 w)
  generalize withB n 0 100000 = r at *
  go_enter Try.func84, Try.ntmps84
  go_wp2_with fail
  refine HW.out.mono ?_
  rintro e w1 ⟨rfl, rfl⟩
  go_wp2
  go_ret
  exact ⟨rfl, rfl⟩
theorem tab_one {w : World} {A : Option Addr} {n c : Nat} {zs : List Int} (hs : Sl 1 w A n c (ints .i64 zs)) (hz : ∀ z ∈ zs, In64 z) (hc : n ≤ c) (hm : c ≤ 9223372036854775807) : Tab 1 w A n c (zs.map fun z => [z]) := by
  refine ⟨by rw [flat_ones]; exact hs, ?_, ?_, ?_, hc, hm⟩
  · have := hs.1
    simp [ints] at this
    simpa using this
  · intro r hr
    simp only [List.mem_map] at hr
    obtain ⟨z, _, rfl⟩ := hr
    rfl
  · intro r hr z h
    simp only [List.mem_map] at hr
    obtain ⟨y, hy, rfl⟩ := hr
    obtain rfl : z = y := by simpa using h
    exact hz z hy
theorem sl_row (w : World) (t : TypeId) (zs : List Int) {N n : Nat} (hN : w.heap.size = N) (hn : zs.length = n) : Sl 1 (w.alloc (.cells (ints .i64 zs).toArray t)) (some ⟨N, 0, none⟩) n n (ints .i64 zs) := by
  subst hn hN
  refine ⟨by simp [ints], .inr ⟨_, rfl, fun j u hu => ?_⟩⟩
  rw [tab_add, Nat.zero_add, cell_of_row _ _ _ _ _ _ (heap_alloc_new w _)]
  simpa using hu
def timesB (s : SetP) : Bool := (decide ((8 : Int) ≤ 8) && allP (fun i => withB ((([s.paid, s.aft, s.brk, s.reg, s.over, s.nfrom, s.nto, s.fault].map fun z => [z]).getD i []).getD 0 0) 0 86400) 8) && decide (s.reg ≤ s.over) && withB s.week 0 604800 && withB s.unit 1 3600 && withB s.cap 60 57600
set_option maxHeartbeats 2000000 in
theorem times_any (s : SetP) (A1 A2 A3 A4 A5 A6 : Option Addr) (c1 c2 c3 c4 c5 c6 : Nat) (w : World) (hf : s.Fit) :
    Calls Try.prog 39 #[setV s A1 A2 A3 A4 A5 A6 c1 c2 c3 c4 c5 c6] w fun e w' => e = .returned (.bool (timesB s)) ∧ Below w.heap.size w w' := by
  have HA := Lib.hid (fun (wx : World) (hT : Tab 1 wx (some ⟨w.heap.size + 1, 0, none⟩) 8 8 ([s.paid, s.aft, s.brk, s.reg, s.over, s.nfrom, s.nto, s.fault].map fun z => [z])) =>
    all_day (some ⟨w.heap.size + 1, 0, none⟩) 8 8 8 _ wx (fun _ w' => Below wx.heap.size wx w') (fun _ => False) _ (by omega) (by constructor <;> omega) (fun x => x) (fun i w' h => hT.below h) (Below.refl _ _) (fun i w' w'' h k => bel_on h k)
      (fun i w' hi h => (day_at _ w').mono fun e w'' ⟨q1, q2⟩ => ⟨q1, Chg.of_below q2, fun _ => bel_on h q2⟩))
  have HF : Hid (∀ z ∈ [s.paid, s.aft, s.brk, s.reg, s.over, s.nfrom, s.nto, s.fault], In64 z) := by
    intro z hz
    simp only [List.mem_cons, List.not_mem_nil, or_false] at hz
    rcases hz with rfl | rfl | rfl | rfl | rfl | rfl | rfl | rfl
    · exact hf.paid
    · exact hf.aft
    · exact hf.brk
    · exact hf.reg
    · exact hf.over
    · exact hf.nfrom
    · exact hf.nto
    · exact hf.fault
  have E : Hid (timesB s = ((decide ((8 : Int) ≤ 8) && allP (fun i => withB ((([s.paid, s.aft, s.brk, s.reg, s.over, s.nfrom, s.nto, s.fault].map fun z => [z]).getD i []).getD 0 0) 0 86400) 8) && decide (s.reg ≤ s.over) && withB s.week 0 604800 && withB s.unit 1 3600 && withB s.cap 60 57600)) := rfl
  have HT : Hid (∀ wx : World, wx.heap.size = w.heap.size + 1 → Tab 1 (wx.alloc (.cells #[.int .i64 s.paid, .int .i64 s.aft, .int .i64 s.brk, .int .i64 s.reg, .int .i64 s.over, .int .i64 s.nfrom, .int .i64 s.nto, .int .i64 s.fault] 3)) (some ⟨w.heap.size + 1, 0, none⟩) 8 8 ([s.paid, s.aft, s.brk, s.reg, s.over, s.nfrom, s.nto, s.fault].map fun z => [z])) :=
    fun wx hx => tab_one (sl_row wx 3 [s.paid, s.aft, s.brk, s.reg, s.over, s.nfrom, s.nto, s.fault] hx rfl) HF.out (by omega) (by omega)
  have H1 := Lib.hid (within_at s.week 0 604800)
  have H2 := Lib.hid (within_at s.unit 1 3600)
  have H3 := Lib.hid (within_at s.cap 60 57600)
  clear hf HF
  generalize timesB s = r at *
  generalize (decide ((8 : Int) ≤ 8) && allP (fun i => withB ((([s.paid, s.aft, s.brk, s.reg, s.over, s.nfrom, s.nto, s.fault].map fun z => [z]).getD i []).getD 0 0) 0 86400) 8) = r1 at *
  generalize withB s.week 0 604800 = r3 at *
  generalize withB s.unit 1 3600 = r4 at *
  generalize withB s.cap 60 57600 = r5 at *
  unfold setV
  go_enter Try.func39, Try.ntmps39
  go_wp2_with fail
  refine (HA.out _ (HT.out _ (by simp))).mono ?_
  rintro e w1 ⟨rfl, hb1⟩
  have hB : Has w1 w.heap.size #[.int .i64 s.places, .slice A1 s.ways.length c1, .int .i64 s.pn, .int .i64 s.pd, .slice A2 s.elements.length c2, .slice A3 s.classes.length c3, .slice A4 s.gears.length c4, .int .i64 s.allow, .int .i64 s.unit, .int .i64 s.cap, .int .i64 s.paid, .int .i64 s.aft, .int .i64 s.brk, .int .i64 s.reg, .int .i64 s.over, .int .i64 s.week, .int .i64 s.nfrom, .int .i64 s.nto, .slice A5 s.rates.length c5, .int .i64 s.diff, .int .i64 s.least, .int .i64 s.fault, .slice A6 s.tiers.length c6] := ((Has.new _ _ _ rfl).alloc _).below hb1.none
  replace hb1 := bel_on (bel_alloc (bel_alloc (Below.refl _ _) _) _) hb1.none
  have HB := Lib.hid hB
  clear hB HA HT
  generalize w.heap.size = B at HB ⊢
  have k13 := HB.out.cell 13 rfl
  have k14 := HB.out.cell 14 rfl
  have k15 := HB.out.cell 15 rfl
  have k8 := HB.out.cell 8 rfl
  have k9 := HB.out.cell 9 rfl
  have hz := HB.out.size
  cases r1
  · go_wp2
    go_ret
    exact ⟨ret_bool (by rw [E.out]; simp), hb1⟩
  by_cases hro : s.reg ≤ s.over
  · go_wp2_with fail
    refine (H1.out _).mono ?_
    rintro e w5 ⟨rfl, rfl⟩
    cases r3
    · go_wp2
      go_ret
      exact ⟨ret_bool (by rw [E.out]; simp), hb1⟩
    go_wp2_with fail
    refine (H2.out _).mono ?_
    rintro e w6 ⟨rfl, rfl⟩
    cases r4
    · go_wp2
      go_ret
      exact ⟨ret_bool (by rw [E.out]; simp), hb1⟩
    go_wp2_with fail
    refine (H3.out _).mono ?_
    rintro e w7 ⟨rfl, rfl⟩
    go_wp2
    go_ret
    exact ⟨ret_bool (by rw [E.out]; simp [hro]), hb1⟩
  · have hd := Lib.hid (decide_eq_false hro)
    go_wp2
    go_ret
    exact ⟨ret_bool (by rw [E.out, hd.out]; simp), hb1⟩
/-! ### Money -/
set_option maxHeartbeats 2000000 in
theorem tier_at (a b lo : Int) (L P : Nat) (w : World) (ha : In64 a) (h0 : 0 ≤ lo) (hL : Has w L #[.int .i64 lo]) (hP : Has w P #[.func (.func 84) #[] #[]]) (hLP : L ≠ P) :
    Calls Try.prog 86 #[.agg #[.int .i64 a, .int .i64 b], .pointer (some ⟨L, 0, none⟩), .pointer (some ⟨P, 0, none⟩)] w fun e w' => e = .returned (.bool (withB a lo 1000 && withB b 0 100000)) ∧ Chg (fun x => x = L) w w' ∧ ((withB a lo 1000 && withB b 0 100000) = true → Has w' L #[.int .i64 (a + 1)]) := by
  obtain ⟨ha1, ha2⟩ := ha
  have H1 := Lib.hid (within_at a lo 1000)
  have H2 := Lib.hid (rate_at b)
  have hl := hL.cell 0 rfl
  have hlf := hL.frozen 0
  have hls := hL.size
  have hp := hP.cell 0 rfl
  have hps := hP.size
  have hne1 : L ≠ w.heap.size := by omega
  have hne2 : P ≠ w.heap.size := by omega
  have HL := Lib.hid hL
  have hE : Hid (withB a lo 1000 = true → 0 ≤ a ∧ a ≤ 1000) := by
    intro h
    unfold withB at h
    simp only [Bool.and_eq_true, decide_eq_true_eq] at h
    omega
  clear hL hP
  generalize withB a lo 1000 = r1 at *
  generalize withB b 0 100000 = r2 at *
  cases r1 with
  | true =>
    have hb := hE.out rfl
    go_enter Try.func86, Try.ntmps86
    go_wp2_with fail
    refine (H1.out _).mono ?_
    rintro e w5 ⟨rfl, rfl⟩
    go_wp2_with fail
    refine (H2.out _).mono ?_
    rintro e w6 ⟨rfl, rfl⟩
    go_wp2
    go_ret
    refine ⟨ret_bool (by simp), ?_, fun _ => ?_⟩
    · exact Chg.alloc (Chg.set (M := fun x => x = L) (p := ⟨L, 0, none⟩) (Chg.refl _ w) (.inr rfl) _) _
    · exact (HL.out.set 0 (.int .i64 (a + 1))).alloc _
  | false =>
    go_enter Try.func86, Try.ntmps86
    go_wp2_with fail
    refine (H1.out _).mono ?_
    rintro e w5 ⟨rfl, rfl⟩
    go_wp2
    go_ret
    refine ⟨ret_bool (by simp), ?_, fun h => by simp at h⟩
    · exact Chg.alloc (Chg.set (M := fun x => x = L) (p := ⟨L, 0, none⟩) (Chg.refl _ w) (.inr rfl) _) _
end Go.Proofs.Ytdhkfhgggkndoaa
