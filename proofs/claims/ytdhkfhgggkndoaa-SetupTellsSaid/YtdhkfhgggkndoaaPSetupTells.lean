/-
  lumperlaw07.with: a setup with one of its numbers another one.
  The calls whose answers the document fixes, at the head of layer 7's laws.
  The walk of the law SetupTells.
  An argument of type api.Setup, opened: its cells, its lists.
  The statement 'Rows.SetupTellsSaid' is proved: for every input the call returns true, and each argument reads behind the call as it read before.
  Conditions: none.
-/
import Derived.Test.YtdhkfhgggkndoaaZA
import Derived.Test.YtdhkfhgggkndoaaRRead
import Derived.Test.YtdhkfhgggkndoaaZC
import Derived.Test.YtdhkfhgggkndoaaZD
import Derived.Test.YtdhkfhgggkndoaaByOpen
import Derived.Test.YtdhkfhgggkndoaaOrders
import Derived.Test.YtdhkfhgggkndoaaProg
import Derived.Test.YtdhkfhgggkndoaaTab
import Derived.Test.YtdhkfhgggkndoaaRows
import Derived.WalkKit
import Derived.ProofKit
import Derived.OpenShut
import Derived.ShutString
import Derived.ChangeOld
import Derived.Below
namespace Go.Proofs.Ytdhkfhgggkndoaa
open Go.RowKit
set_option linter.unusedVariables false
set_option linter.unusedSimpArgs false
set_option maxRecDepth 20000

def SetP.put (s : SetP) (k : Nat) (n : Int) : SetP :=
  match k with
  | 0 => { s with places := n }
  | 1 => { s with allow := n }
  | 2 => { s with unit := n }
  | 3 => { s with cap := n }
  | 4 => { s with paid := n }
  | 5 => { s with aft := n }
  | 6 => { s with brk := n }
  | 7 => { s with reg := n }
  | 8 => { s with over := n }
  | 9 => { s with week := n }
  | 10 => { s with nfrom := n }
  | 11 => { s with nto := n }
  | 12 => { s with diff := n }
  | 13 => { s with least := n }
  | _ => { s with fault := n }
theorem put_at {w : World} {s : SetP} {A1 A2 A3 A4 A5 A6 : Option Addr} {c1 c2 c3 c4 c5 c6 : Nat} (h : SetAt w s A1 A2 A3 A4 A5 A6 c1 c2 c3 c4 c5 c6) (k : Nat) (n : Int) : SetAt w (s.put k n) A1 A2 A3 A4 A5 A6 c1 c2 c3 c4 c5 c6 := by
  unfold SetP.put
  split <;> exact ⟨h.ways, h.elements, h.classes, h.gears, h.rates, h.tiers⟩
theorem put_fit {s : SetP} (h : s.Fit) (k : Nat) {n : Int} (hn : In64 n) : (s.put k n).Fit := by
  obtain ⟨h0, h1, h2, h3, h4, h5, h6, h7, h8, h9, h10, h11, h12, h13, h14, h15, h16⟩ := h
  unfold SetP.put
  split <;> (constructor <;> assumption)
end Go.Proofs.Ytdhkfhgggkndoaa

namespace Go.Proofs.Ytdhkfhgggkndoaa
open Go.RowKit
set_option linter.unusedVariables false
set_option linter.unusedSimpArgs false
set_option maxRecDepth 20000

theorem aw7_len : leastP.bytes.length = 41 := by decide +kernel
theorem aw7_head : leastP.bytes.take 9 = [1#8, 3#8, 1#8, 1#8, 0#8, 1#8, 2#8, 2#8, 1#8] := by decide +kernel
theorem aw7_check : checkB leastP = true := by decide +kernel
theorem aw7_bad : checkB (leastP.put 3 59) = false := by decide +kernel
theorem least_may : leastP.May := check_iff.1 aw7_check
theorem wrong_may : ¬ (leastP.put 3 59).May := fun h => by have := check_iff.2 h; rw [aw7_bad] at this; cases this
theorem least_fit : leastP.Fit := by constructor <;> simp [leastP, In64]
theorem least_wide : leastP.Wide := by constructor <;> simp [leastP]
theorem least_write : writeE leastP = (leastP.bytes, 0) := writeE_ok least_may
theorem wrong_write : writeE (leastP.put 3 59) = ([], 70) := writeE_bad wrong_may
theorem least_read : readE leastP.bytes = (leastP, 0) := by
  unfold readE
  rw [read_back ⟨least_wide, least_may⟩]
theorem nil_read : readE [] = (SetP.none, 70) := by
  unfold readE
  rw [read_none (fun s hs e => ?_)]
  unfold SetP.bytes SetP.nums at e
  rw [bytesN_cons] at e
  simp [oneB] at e
section
variable {w : World} {s : SetP} {cs : Array Value}
theorem SetC.cap (h : SetC w s cs) : cs[9]? = some (.int .i64 s.cap) := by
  obtain ⟨A1, A2, A3, A4, A5, A6, c1, c2, c3, c4, c5, c6, h1, h2⟩ := h
  unfold setV at h1
  injection h1 with h1
  subst h1
  rfl
theorem SetC.ways (h : SetC w s cs) : ∃ A c, cs[1]? = some (.slice A s.ways.length c) ∧ Tab 3 w A s.ways.length c s.ways := by
  obtain ⟨A1, A2, A3, A4, A5, A6, c1, c2, c3, c4, c5, c6, h1, h2⟩ := h
  unfold setV at h1
  injection h1 with h1
  subst h1
  exact ⟨A1, c1, rfl, h2.ways⟩
theorem SetC.putcap (h : SetC w s cs) (n : Int) : SetC w (s.put 3 n) (cs.setIfInBounds 9 (.int .i64 n)) := by
  obtain ⟨A1, A2, A3, A4, A5, A6, c1, c2, c3, c4, c5, c6, h1, h2⟩ := h
  unfold setV at h1
  injection h1 with h1
  subst h1
  exact ⟨A1, A2, A3, A4, A5, A6, c1, c2, c3, c4, c5, c6, rfl, put_at h2 3 n⟩
end
set_option maxHeartbeats 8000000 in
theorem awake7 (w : World) : Calls Try.prog 6 #[] w fun e w' => e = .returned (.bool true) ∧ Below w.heap.size w w' := by
  go_enter Try.func6, Try.ntmps6
  go_wp2_with fail
  refine (least_c _).mono ?_
  rintro e w1 ⟨cs1, rfl, hs1, b1⟩
  have HZ1 := Lib.hid hs1.size
  have HO1 := Lib.hid hs1.one
  have HS1 := Lib.hid hs1
  clear hs1
  go_wp2_with (first | refine wpList_laidS cs1 1 _ _ rfl rfl rfl rfl rfl rfl rfl rfl HZ1.out HO1.out ?_ | refine wpList_load_has (by rfl) _ rfl w1.heap.size rfl cs1 (Has.new _ _ _ rfl) HZ1.out ?_)
  refine (swrite_c (HS1.out.below (bel_alloc (Below.refl _ _) _)) least_fit _ _ 41 least_write aw7_len).mono ?_
  rintro e w2 ⟨A2, c2, rfl, r2, b2⟩
  have HB1 := Lib.hid ((Has.new w1 30 cs1 rfl).below b2)
  replace b2 := bel_on (bel_alloc (Below.refl _ _) _) b2
  replace HS1 := Lib.hid (HS1.out.below b2)
  replace b2 := bel_on b1 b2
  have HR2 := Lib.hid r2
  clear r2 b1
  go_wp2_with fail
  refine (sread_c A2 c2 41 leastP.bytes w2 (HR2.out.slAt aw7_len) (HR2.out.cap_le aw7_len) (by omega) _ _ least_read).mono ?_
  rintro e w3 ⟨cs3, rfl, hs3, b3⟩
  replace HB1 := Lib.hid (HB1.out.below b3)
  replace HS1 := Lib.hid (HS1.out.below b3)
  replace HR2 := Lib.hid (HR2.out.below b3)
  replace b3 := bel_on b2 b3
  have HZ3 := Lib.hid hs3.size
  have HO3 := Lib.hid hs3.one
  have HS3 := Lib.hid hs3
  clear hs3 b2
  go_wp2_with (refine wpList_laidS cs3 4 _ _ rfl rfl rfl rfl rfl rfl rfl rfl HZ3.out HO3.out ?_)
  refine (least_c _).mono ?_
  rintro e w4 ⟨cs4, rfl, hs4, b4⟩
  have HB3 := Lib.hid ((Has.new w3 30 cs3 rfl).below b4)
  replace b4 := bel_on (bel_alloc (Below.refl _ _) _) b4
  replace HB1 := Lib.hid (HB1.out.below b4)
  replace HS1 := Lib.hid (HS1.out.below b4)
  replace HS3 := Lib.hid (HS3.out.below b4)
  replace HR2 := Lib.hid (HR2.out.below b4)
  replace b4 := bel_on b3 b4
  have HZ4 := Lib.hid hs4.size
  have HO4 := Lib.hid hs4.one
  have HS4 := Lib.hid hs4
  have hc4 := (Has.new w4 30 cs4 rfl).cell 9 hs4.cap
  have hf4 := (Has.new w4 30 cs4 rfl).frozen 9
  clear hs4 b3
  have HZ4' : Hid ((cs4.setIfInBounds 9 (.int .i64 59)).size = 23) := by
    show _ = _
    rw [Array.size_setIfInBounds]
    exact HZ4.out
  go_wp2_with (first | refine wpList_laidS cs4 6 _ _ rfl rfl rfl rfl rfl rfl rfl rfl HZ4.out HO4.out ?_ | refine wpList_load_has (by rfl) _ rfl w4.heap.size rfl (cs4.setIfInBounds 9 (.int .i64 59)) (Has.new _ _ _ rfl) HZ4'.out ?_)
  have HS4' := Lib.hid (HS4.out.putcap 59)
  clear HS4 hc4 hf4
  refine (swrite_c (HS4'.out.below (bel_alloc (Below.refl _ _) _)) (put_fit least_fit 3 (by simp [In64])) _ _ 0 wrong_write rfl).mono ?_
  rintro e w5 ⟨A5, c5, rfl, r5, b5⟩
  have HB4 := Lib.hid ((Has.new w4 30 _ rfl).below b5)
  replace b5 := bel_on (bel_alloc (Below.refl _ _) _) b5
  replace HB1 := Lib.hid (HB1.out.below b5)
  replace HB3 := Lib.hid (HB3.out.below b5)
  replace HS1 := Lib.hid (HS1.out.below b5)
  replace HS3 := Lib.hid (HS3.out.below b5)
  replace HS4' := Lib.hid (HS4'.out.below b5)
  replace HR2 := Lib.hid (HR2.out.below b5)
  replace b5 := bel_on b4 b5
  clear b4 r5 HZ4 HO4
  go_wp2_with fail
  refine (sread_c none 0 0 [] w5 Sl.nil_ (by omega) (by omega) _ _ nil_read).mono ?_
  rintro e w6 ⟨cs6, rfl, hs6, b6⟩
  have HZ6 := Lib.hid hs6.size
  have HO6 := Lib.hid hs6.one
  replace b6 := bel_alloc b6 (.cells cs6 30)
  replace HB1 := Lib.hid (HB1.out.below b6)
  replace HB3 := Lib.hid (HB3.out.below b6)
  replace HB4 := Lib.hid (HB4.out.below b6)
  replace HS1 := Lib.hid (HS1.out.below b6)
  replace HS3 := Lib.hid (HS3.out.below b6)
  replace HS4' := Lib.hid (HS4'.out.below b6)
  replace HR2 := Lib.hid (HR2.out.below b6)
  replace b6 := bel_on b5 b6
  clear b5 hs6
  obtain ⟨Aw, cw, hw1, hw2⟩ := HS3.out.ways
  obtain ⟨bw, ow, rfl⟩ := hw2.form (by decide) (by decide)
  have hw3 := HB3.out.cell 1 hw1
  have hw4 : (w6.alloc (.cells cs6 30)).cell? ⟨bw, ow + 0 * 3 + 2, none⟩ = some (.int .i64 300) := hw2.cell (i := 0) (j := 2) (by decide) (by decide)
  rw [show leastP.ways.length = 1 from rfl] at hw3
  simp only [Nat.zero_mul, Nat.add_zero] at hw4
  obtain ⟨g2, rfl⟩ := HR2.out.form (by intro h; have := congrArg List.length h; rw [aw7_len] at this; cases this)
  have k2 : (convert 31 9 (.slice (some ⟨g2, 0, none⟩) 9 c2)).run Try.prog (w6.alloc (.cells cs6 30)) = .ok (.string ⟨#[1, 3, 1, 1, 0, 1, 2, 2, 1]⟩) (w6.alloc (.cells cs6 30)) := by
    have := conv_sl (sl_take (HR2.out.slAt aw7_len) (m := 9) (by omega) (fun h => by cases h))
    rw [aw7_head] at this
    exact this
  have hcap := HR2.out.cap_le aw7_len
  have hl1 := cell_lt hw3
  have hl2 := cell_lt hw4
  clear hw1 hw2 HR2 HS3
  go_wp2_with (first | refine wpList_laidS cs6 9 _ _ rfl rfl rfl rfl rfl rfl rfl rfl HZ6.out HO6.out ?_ | refine wpList_load_has (by rfl) _ rfl w1.heap.size rfl cs1 HB1.out HZ1.out ?_)
  refine (scheck_c HS1.out least_fit true aw7_check).mono ?_
  rintro e w7 ⟨rfl, b7⟩
  replace HB4 := Lib.hid (HB4.out.below b7)
  replace HS4' := Lib.hid (HS4'.out.below b7)
  replace b7 := bel_on b6 b7
  clear b6 HB1 HS1 HB3 k2 hw3 hw4 hl1 hl2
  go_wp2_with (refine wpList_load_has (by rfl) _ rfl w4.heap.size rfl _ HB4.out HZ4'.out ?_)
  refine (scheck_c HS4'.out (put_fit least_fit 3 (by simp [In64])) false aw7_bad).mono ?_
  rintro e w8 ⟨rfl, b8⟩
  replace b8 := bel_on b7 b8
  go_wp2
  go_ret
  exact ⟨rfl, b8⟩
end Go.Proofs.Ytdhkfhgggkndoaa

namespace Go.Proofs.Ytdhkfhgggkndoaa
open Go.RowKit
set_option linter.unusedVariables false
set_option linter.unusedSimpArgs false
set_option maxRecDepth 20000

theorem exec_load_has {o : Oper} {ρ : Operand → Value} {ww : World} (x : Operand) (ho : o.op = .load 30 x) (g : Nat) (hx : ρ x = .pointer (some ⟨g, 0, none⟩)) (cs : Array Value) (hg : Has ww g cs) (hs : cs.size = 23) :
    (execOp ρ o).run Try.prog ww = .ok (.value (.agg cs)) ww := by
  obtain ⟨t, hg⟩ := hg
  unfold execOp
  simp only [ho, hx, Instr.loadAt, Instr.sureAddr, Sem.run_bind, Sem.run_pure, Result.andThen_ok, run_loadVar_row (P := Try.prog) ww g t 30 cs (0, 0) _ hg Try.underlying30 rfl (by rw [hs]; kernel_rfl)]
theorem readE_few (b : List (BitVec 8)) : (readE b).1.Few := by
  unfold readE
  cases h : readS b with
  | none => exact ⟨by decide, by decide, by decide, by decide, by decide, by decide⟩
  | some y => exact may_few7 (read_own h).1.2
set_option maxHeartbeats 8000000 in
theorem setupTells_in (s : SetP) (cs : Array Value) (B : Option Addr) (m d : Nat) (b : List (BitVec 8)) (W : World) (hs : SetC W s cs) (hf : s.Fit) (hfew : s.Few) (hb : Sl 1 W B m d (bytesV b)) (hmd : m ≤ d) (hm : m ≤ 2000) :
    Calls Try.prog 3 #[.agg cs, .slice B m d] W fun e w' => e = .returned (.bool true) ∧ Below W.heap.size W w' := by
  have HZ := Lib.hid hs.size
  have HS := Lib.hid hs
  have HBY := Lib.hid hb
  have HL := Lib.hid (fun wx (h : SetC wx s cs) => few_c h true (by simp [hfew]))
  obtain ⟨X, E, hX⟩ : ∃ X E, writeE s = (X, E) := ⟨_, _, rfl⟩
  obtain ⟨Y, G, hY⟩ : ∃ Y G, readE b = (Y, G) := ⟨_, _, rfl⟩
  obtain ⟨n, hn⟩ : ∃ n, X.length = n := ⟨_, rfl⟩
  obtain ⟨q, hq⟩ : ∃ q, checkB s = q := ⟨_, rfl⟩
  have hYf : Y.Few := by have := readE_few b; rw [hY] at this; exact this
  have HW := Lib.hid (fun wx (h : SetC wx s cs) => swrite_c h hf X E n hX hn)
  have HW2 := Lib.hid (fun wx (h : SetC wx s cs) => rswrite_c h hf X E n hX hn)
  have HR1 := Lib.hid (fun wx (h : Below W.heap.size W wx) => sread_c B d m b wx (hb.below h) hmd (by omega) Y G hY)
  have HR2 := Lib.hid (fun wx (h : Below W.heap.size W wx) => rsread_c B m d b wx (hb.below h) hmd hm Y G hY)
  have HSM0 := Lib.hid (fun wx cx cy (h : SetC wx Y cx) (h' : SetC wx Y cy) => same_c h h' hYf hYf true (by simp))
  have HC10 := Lib.hid (fun wx (h : SetC wx s cs) => scheck_c h hf q hq)
  have HC20 := Lib.hid (fun wx (h : SetC wx s cs) => rsetcheck_c h hf q hq)
  have HN := Lib.hid hn
  clear hs hf hb hfew hX hY hn hq hYf
  go_enter Try.func3, Try.ntmps3
  go_wp2_with fail
  refine (awake7 _).mono ?_
  rintro e w1 ⟨rfl, b1⟩
  have HB := Lib.hid ((Has.new W 30 cs rfl).below b1)
  replace b1 := bel_on (bel_alloc (Below.refl _ _) _) b1
  replace HS := Lib.hid (HS.out.below b1)
  go_wp2_with (refine wpList_load_has (by rfl) _ rfl W.heap.size rfl cs HB.out HZ.out ?_)
  refine (HL.out _ HS.out).mono ?_
  rintro e w2 ⟨rfl, b2⟩
  replace HB := Lib.hid (HB.out.below b2)
  replace HS := Lib.hid (HS.out.below b2)
  replace b2 := bel_on b1 b2
  clear b1 HL
  have hgt : decide ((2000 : Int) < (m : Int)) = false := by simp; omega
  go_wp2_with (refine wpList_load_has (by rfl) _ rfl W.heap.size rfl cs HB.out HZ.out ?_)
  refine (HW.out _ HS.out).mono ?_
  rintro e w3 ⟨A3, c3, rfl, r3, b3⟩
  replace HB := Lib.hid (HB.out.below b3)
  replace HS := Lib.hid (HS.out.below b3)
  replace b3 := bel_on b2 b3
  have HSL3 := Lib.hid (r3.slAt HN.out)
  clear b2 HW r3
  go_wp2_with (refine wpList_load_has (by rfl) _ rfl W.heap.size rfl cs HB.out HZ.out ?_)
  refine (HW2.out _ HS.out).mono ?_
  rintro e w4 ⟨A4, c4, rfl, r4, b4⟩
  replace HB := Lib.hid (HB.out.below b4)
  replace HS := Lib.hid (HS.out.below b4)
  replace HSL3 := Lib.hid (HSL3.out.below b4)
  replace b4 := bel_on b3 b4
  have HSL4 := Lib.hid (r4.slAt HN.out)
  clear b3 HW2 r4
  go_wp2_with fail
  refine (HR1.out _ b4).mono ?_
  rintro e w5 ⟨cx, rfl, hs5, b5⟩
  have HZ5 := Lib.hid hs5.size
  have HO5 := Lib.hid hs5.one
  have HB5 := Lib.hid (Has.new w5 30 cx rfl)
  have HS5 := Lib.hid (hs5.below (bel_alloc (Below.refl _ _) (.cells cx 30)))
  replace b5 := bel_alloc b5 (.cells cx 30)
  replace HB := Lib.hid (HB.out.below b5)
  replace HS := Lib.hid (HS.out.below b5)
  replace HSL3 := Lib.hid (HSL3.out.below b5)
  replace HSL4 := Lib.hid (HSL4.out.below b5)
  replace b5 := bel_on b4 b5
  clear b4 hs5 HR1
  go_wp2_with (refine wpList_laidS cx 10 _ _ rfl rfl rfl rfl rfl rfl rfl rfl HZ5.out HO5.out ?_)
  refine (HR2.out _ b5).mono ?_
  rintro e w6 ⟨cy, rfl, hs6, b6⟩
  have HZ6 := Lib.hid hs6.size
  have HO6 := Lib.hid hs6.one
  have HB6 := Lib.hid (Has.new w6 30 cy rfl)
  have HS6 := Lib.hid (hs6.below (bel_alloc (Below.refl _ _) (.cells cy 30)))
  replace b6 := bel_alloc b6 (.cells cy 30)
  replace HB := Lib.hid (HB.out.below b6)
  replace HS := Lib.hid (HS.out.below b6)
  replace HSL3 := Lib.hid (HSL3.out.below b6)
  replace HSL4 := Lib.hid (HSL4.out.below b6)
  replace HB5 := Lib.hid (HB5.out.below b6)
  replace HS5 := Lib.hid (HS5.out.below b6)
  replace b6 := bel_on b5 b6
  clear b5 hs6 HR2
  go_upto_region 8 with (refine wpList_laidS cy 12 _ _ rfl rfl rfl rfl rfl rfl rfl rfl HZ6.out HO6.out ?_)
  obtain ⟨w7, hw7⟩ : ∃ w7, w6.alloc (.cells cy 30) = w7 := ⟨_, rfl⟩
  rw [hw7] at HB HS HSL3 HSL4 HB5 HS5 HB6 HS6 b6
  rw [hw7]
  clear hw7
  have HV3 := Lib.hid (fun ww (h : Below w7.heap.size w7 ww) => conv_sl (HSL3.out.below h))
  have HV4 := Lib.hid (fun ww (h : Below w7.heap.size w7 ww) => conv_sl (HSL4.out.below h))
  have HSM := Lib.hid (fun ww (h : Below w7.heap.size w7 ww) => HSM0.out ww cx cy (HS5.out.below h) (HS6.out.below h))
  have HC1 := Lib.hid (fun ww (h : Below w7.heap.size w7 ww) => HC10.out ww (HS.out.below h))
  have HC2 := Lib.hid (fun ww (h : Below w7.heap.size w7 ww) => HC20.out ww (HS.out.below h))
  have k3 : ((txtB X).toList == (txtB X).toList) = true := by rw [txt_eq]; simp
  have k4 : (q == q) = true := by simp
  generalize txtB X = ta at *
  clear HSM0 HC10 HC20 HS HS5 HS6 HSL3 HSL4 HBY
  refine wp_region_noPanic ?_
  refine wp_region_held_drew (S := fun w' => Below w7.heap.size w7 w') (by kernel_rfl) (below_drew (Below.refl _ _)) (fun hHeld => ?_)
  refine wpAnyH_take (i := 0) (oi := ⟨some 44, _, _, _, _, _⟩) (v := ?_) rfl (by kernel_rfl) (by kernel_rfl) (by kernel_rfl) (fun _ _ _ h => h) (Or.inl ⟨by rfl, ?_⟩) hHeld ?_
  rotate_left
  · intro ww hSw
    (try dsimp only at hSw)
    go_simp
    (try with_reducible rfl)
  simp only [Act.put, List.setIfInBounds_toArray, List.set_cons_zero, List.set_cons_succ]
  refine wpAnyH_take (i := 1) (oi := ⟨some 45, _, _, _, _, _⟩) (v := ?_) rfl (by kernel_rfl) (by kernel_rfl) (by kernel_rfl) (fun _ _ _ h => h) (Or.inl ⟨by rfl, ?_⟩) hHeld ?_
  rotate_left
  · intro ww hSw
    (try dsimp only at hSw)
    go_simp
    (try with_reducible rfl)
  simp only [Act.put, List.setIfInBounds_toArray, List.set_cons_zero, List.set_cons_succ]
  refine wpAnyH_take (i := 2) (oi := ⟨some 46, _, _, _, _, _⟩) (v := ?_) rfl (by kernel_rfl) (by kernel_rfl) (by kernel_rfl) (fun _ _ _ h => h) (Or.inl ⟨by rfl, ?_⟩) hHeld ?_
  rotate_left
  · intro ww hSw
    (try dsimp only at hSw)
    go_simp
    (try with_reducible rfl)
  simp only [Act.put, List.setIfInBounds_toArray, List.set_cons_zero, List.set_cons_succ]
  refine wpAnyH_take (i := 3) (oi := ⟨some 47, _, _, _, _, _⟩) (v := .string ta) rfl (by kernel_rfl) (by kernel_rfl) (by kernel_rfl) (fun _ _ _ h => h) (Or.inl ⟨by rfl, ?_⟩) hHeld ?_
  · intro ww hSw
    (try dsimp only at hSw)
    have hcv := HV3.out ww hSw
    go_simp
  simp only [Act.put, List.setIfInBounds_toArray, List.set_cons_zero, List.set_cons_succ]
  refine wpAnyH_take (i := 4) (oi := ⟨some 48, _, _, _, _, _⟩) (v := ?_) rfl (by kernel_rfl) (by kernel_rfl) (by kernel_rfl) (fun _ _ _ h => h) (Or.inl ⟨by rfl, ?_⟩) hHeld ?_
  rotate_left
  · intro ww hSw
    (try dsimp only at hSw)
    go_simp
    (try with_reducible rfl)
  simp only [Act.put, List.setIfInBounds_toArray, List.set_cons_zero, List.set_cons_succ]
  refine wpAnyH_take (i := 5) (oi := ⟨some 49, _, _, _, _, _⟩) (v := .string ta) rfl (by kernel_rfl) (by kernel_rfl) (by kernel_rfl) (fun _ _ _ h => h) (Or.inl ⟨by rfl, ?_⟩) hHeld ?_
  · intro ww hSw
    (try dsimp only at hSw)
    have hcv := HV4.out ww hSw
    go_simp
  simp only [Act.put, List.setIfInBounds_toArray, List.set_cons_zero, List.set_cons_succ]
  refine wpAnyH_take (i := 6) (oi := ⟨some 50, _, _, _, _, _⟩) (v := .bool true) rfl (by kernel_rfl) (by kernel_rfl) (by kernel_rfl) (fun _ _ _ h => h) (Or.inl ⟨by rfl, ?_⟩) hHeld ?_
  · intro ww hSw
    (try dsimp only at hSw)
    go_simp
  simp only [Act.put, List.setIfInBounds_toArray, List.set_cons_zero, List.set_cons_succ]
  refine wpAnyH_take (i := 7) (oi := ⟨some 51, _, _, _, _, _⟩) (v := ?_) rfl (by kernel_rfl) (by kernel_rfl) (by kernel_rfl) (fun _ _ _ h => h) (Or.inl ⟨by rfl, ?_⟩) hHeld ?_
  rotate_left
  · intro ww hSw
    (try dsimp only at hSw)
    go_simp
    (try with_reducible rfl)
  simp only [Act.put, List.setIfInBounds_toArray, List.set_cons_zero, List.set_cons_succ]
  refine wpAnyH_take (i := 8) (oi := ⟨some 52, _, _, _, _, _⟩) (v := ?_) rfl (by kernel_rfl) (by kernel_rfl) (by kernel_rfl) (fun _ _ _ h => h) (Or.inl ⟨by rfl, ?_⟩) hHeld ?_
  rotate_left
  · intro ww hSw
    (try dsimp only at hSw)
    go_simp
    (try with_reducible rfl)
  simp only [Act.put, List.setIfInBounds_toArray, List.set_cons_zero, List.set_cons_succ]
  refine wpAnyH_take (i := 9) (oi := ⟨some 53, _, _, _, _, _⟩) (v := ?_) rfl (by kernel_rfl) (by kernel_rfl) (by kernel_rfl) (fun _ _ _ h => h) (Or.inl ⟨by rfl, ?_⟩) hHeld ?_
  rotate_left
  · intro ww hSw
    (try dsimp only at hSw)
    go_simp
    (try with_reducible rfl)
  simp only [Act.put, List.setIfInBounds_toArray, List.set_cons_zero, List.set_cons_succ]
  refine wpAnyH_take (i := 10) (oi := ⟨some 54, _, _, _, _, _⟩) (v := ?_) rfl (by kernel_rfl) (by kernel_rfl) (by kernel_rfl) (fun _ _ _ h => h) (Or.inl ⟨by rfl, ?_⟩) hHeld ?_
  rotate_left
  · intro ww hSw
    (try dsimp only at hSw)
    go_simp
    (try with_reducible rfl)
  simp only [Act.put, List.setIfInBounds_toArray, List.set_cons_zero, List.set_cons_succ]
  refine wpAnyH_take (i := 11) (oi := ⟨some 55, _, _, _, _, _⟩) (v := ?_) rfl (by kernel_rfl) (by kernel_rfl) (by kernel_rfl) (fun _ _ _ h => h) (Or.inl ⟨by rfl, ?_⟩) hHeld ?_
  rotate_left
  · intro ww hSw
    (try dsimp only at hSw)
    go_simp
    (try with_reducible rfl)
  simp only [Act.put, List.setIfInBounds_toArray, List.set_cons_zero, List.set_cons_succ]
  refine wpAnyH_take (i := 12) (oi := ⟨some 56, _, _, _, _, _⟩) (v := ?_) rfl (by kernel_rfl) (by kernel_rfl) (by kernel_rfl) (fun _ _ _ h => h) (Or.inl ⟨by rfl, ?_⟩) hHeld ?_
  rotate_left
  · intro ww hSw
    (try dsimp only at hSw)
    go_simp
    (try with_reducible rfl)
  simp only [Act.put, List.setIfInBounds_toArray, List.set_cons_zero, List.set_cons_succ]
  refine wpAnyH_take (i := 13) (oi := ⟨some 57, _, _, _, _, _⟩) (v := ?_) rfl (by kernel_rfl) (by kernel_rfl) (by kernel_rfl) (fun _ _ _ h => h) (Or.inl ⟨by rfl, ?_⟩) hHeld ?_
  rotate_left
  · intro ww hSw
    (try dsimp only at hSw)
    go_simp
    (try with_reducible rfl)
  simp only [Act.put, List.setIfInBounds_toArray, List.set_cons_zero, List.set_cons_succ]
  refine wpAnyH_take (i := 14) (oi := ⟨some 58, _, _, _, _, _⟩) (v := .agg cx) rfl (by kernel_rfl) (by kernel_rfl) (by kernel_rfl) (fun _ _ _ h => h) (Or.inl ⟨by rfl, ?_⟩) hHeld ?_
  · intro ww hSw
    (try dsimp only at hSw)
    exact exec_load_has _ rfl w5.heap.size rfl _ (HB5.out.below hSw) HZ5.out
  simp only [Act.put, List.setIfInBounds_toArray, List.set_cons_zero, List.set_cons_succ]
  refine wpAnyH_take (i := 15) (oi := ⟨some 59, _, _, _, _, _⟩) (v := .agg cy) rfl (by kernel_rfl) (by kernel_rfl) (by kernel_rfl) (fun _ _ _ h => h) (Or.inl ⟨by rfl, ?_⟩) hHeld ?_
  · intro ww hSw
    (try dsimp only at hSw)
    exact exec_load_has _ rfl w6.heap.size rfl _ (HB6.out.below hSw) HZ6.out
  simp only [Act.put, List.setIfInBounds_toArray, List.set_cons_zero, List.set_cons_succ]
  refine wpAnyH_ready (rs := [16]) (by kernel_rfl) (by simp) ?_
  refine AllReadyH.cons (o := ⟨some 60, _, _, _, _, _⟩) rfl (fun K hK => ?_) AllReadyH.nil
  go_simp
  go_at_call 12
  refine (HSM.out _ (show Below w7.heap.size w7 _ by (repeat' (first | with_reducible exact Below.refl _ _ | with_reducible assumption | with_reducible refine bel_alloc ?_ _ | with_reducible refine bel_set ?_ ?_ _ | with_reducible refine below_drewN ?_ _ | with_reducible refine below_drew ?_ | (simp; done) | (simp; omega) | omega)))).mono ?_
  rintro e_r w8 ⟨rfl, hbn⟩
  have hbw8 : Below w7.heap.size w7 w8 := bel_on (show Below w7.heap.size w7 _ by (repeat' (first | with_reducible exact Below.refl _ _ | with_reducible assumption | with_reducible refine bel_alloc ?_ _ | with_reducible refine bel_set ?_ ?_ _ | with_reducible refine below_drewN ?_ _ | with_reducible refine below_drew ?_ | (simp; done) | (simp; omega) | omega))) hbn
  clear hbn
  go_wp2_with fail
  refine hK.out _ _ ?_ (fun hHeld => ?_)
  · (try dsimp only)
    exact hbw8
  clear hK K
  (try simp only [Act.put, List.setIfInBounds_toArray, List.set_cons_zero, List.set_cons_succ])
  refine wpAnyH_take (i := 17) (oi := ⟨some 61, _, _, _, _, _⟩) (v := ?_) rfl (by kernel_rfl) (by kernel_rfl) (by kernel_rfl) (fun _ _ _ h => h) (Or.inl ⟨by rfl, ?_⟩) hHeld ?_
  rotate_left
  · intro ww hSw
    (try dsimp only at hSw)
    go_simp
    (try with_reducible rfl)
  simp only [Act.put, List.setIfInBounds_toArray, List.set_cons_zero, List.set_cons_succ]
  refine wpAnyH_take (i := 18) (oi := ⟨some 62, _, _, _, _, _⟩) (v := ?_) rfl (by kernel_rfl) (by kernel_rfl) (by kernel_rfl) (fun _ _ _ h => h) (Or.inl ⟨by rfl, ?_⟩) hHeld ?_
  rotate_left
  · intro ww hSw
    (try dsimp only at hSw)
    go_simp
    (try with_reducible rfl)
  simp only [Act.put, List.setIfInBounds_toArray, List.set_cons_zero, List.set_cons_succ]
  refine wpAnyH_take (i := 19) (oi := ⟨some 63, _, _, _, _, _⟩) (v := ?_) rfl (by kernel_rfl) (by kernel_rfl) (by kernel_rfl) (fun _ _ _ h => h) (Or.inl ⟨by rfl, ?_⟩) hHeld ?_
  rotate_left
  · intro ww hSw
    (try dsimp only at hSw)
    go_simp
    (try with_reducible rfl)
  simp only [Act.put, List.setIfInBounds_toArray, List.set_cons_zero, List.set_cons_succ]
  refine wpAnyH_take (i := 20) (oi := ⟨some 64, _, _, _, _, _⟩) (v := ?_) rfl (by kernel_rfl) (by kernel_rfl) (by kernel_rfl) (fun _ _ _ h => h) (Or.inl ⟨by rfl, ?_⟩) hHeld ?_
  rotate_left
  · intro ww hSw
    (try dsimp only at hSw)
    go_simp
    (try with_reducible rfl)
  simp only [Act.put, List.setIfInBounds_toArray, List.set_cons_zero, List.set_cons_succ]
  refine wpAnyH_take (i := 21) (oi := ⟨some 65, _, _, _, _, _⟩) (v := ?_) rfl (by kernel_rfl) (by kernel_rfl) (by kernel_rfl) (fun _ _ _ h => h) (Or.inl ⟨by rfl, ?_⟩) hHeld ?_
  rotate_left
  · intro ww hSw
    (try dsimp only at hSw)
    go_simp
    (try with_reducible rfl)
  simp only [Act.put, List.setIfInBounds_toArray, List.set_cons_zero, List.set_cons_succ]
  refine wpAnyH_take (i := 22) (oi := ⟨some 66, _, _, _, _, _⟩) (v := ?_) rfl (by kernel_rfl) (by kernel_rfl) (by kernel_rfl) (fun _ _ _ h => h) (Or.inl ⟨by rfl, ?_⟩) hHeld ?_
  rotate_left
  · intro ww hSw
    (try dsimp only at hSw)
    go_simp
    (try with_reducible rfl)
  simp only [Act.put, List.setIfInBounds_toArray, List.set_cons_zero, List.set_cons_succ]
  refine wpAnyH_take (i := 23) (oi := ⟨some 67, _, _, _, _, _⟩) (v := ?_) rfl (by kernel_rfl) (by kernel_rfl) (by kernel_rfl) (fun _ _ _ h => h) (Or.inl ⟨by rfl, ?_⟩) hHeld ?_
  rotate_left
  · intro ww hSw
    (try dsimp only at hSw)
    go_simp
    (try with_reducible rfl)
  simp only [Act.put, List.setIfInBounds_toArray, List.set_cons_zero, List.set_cons_succ]
  refine wpAnyH_take (i := 24) (oi := ⟨some 68, _, _, _, _, _⟩) (v := .agg cs) rfl (by kernel_rfl) (by kernel_rfl) (by kernel_rfl) (fun _ _ _ h => h) (Or.inl ⟨by rfl, ?_⟩) hHeld ?_
  · intro ww hSw
    (try dsimp only at hSw)
    exact exec_load_has _ rfl W.heap.size rfl _ (HB.out.below hSw) HZ.out
  simp only [Act.put, List.setIfInBounds_toArray, List.set_cons_zero, List.set_cons_succ]
  refine wpAnyH_take (i := 26) (oi := ⟨some 70, _, _, _, _, _⟩) (v := .agg cs) rfl (by kernel_rfl) (by kernel_rfl) (by kernel_rfl) (fun _ _ _ h => h) (Or.inl ⟨by rfl, ?_⟩) hHeld ?_
  · intro ww hSw
    (try dsimp only at hSw)
    exact exec_load_has _ rfl W.heap.size rfl _ (HB.out.below hSw) HZ.out
  simp only [Act.put, List.setIfInBounds_toArray, List.set_cons_zero, List.set_cons_succ]
  refine wpAnyH_ready (rs := [25]) (by kernel_rfl) (by simp) ?_
  refine AllReadyH.cons (o := ⟨some 69, _, _, _, _, _⟩) rfl (fun K hK => ?_) AllReadyH.nil
  go_simp
  go_at_call 13
  refine (HC1.out _ (show Below w7.heap.size w7 _ by (repeat' (first | with_reducible exact Below.refl _ _ | with_reducible assumption | with_reducible refine bel_alloc ?_ _ | with_reducible refine bel_set ?_ ?_ _ | with_reducible refine below_drewN ?_ _ | with_reducible refine below_drew ?_ | (simp; done) | (simp; omega) | omega)))).mono ?_
  rintro e_r w9 ⟨rfl, hbn⟩
  have hbw9 : Below w7.heap.size w7 w9 := bel_on (show Below w7.heap.size w7 _ by (repeat' (first | with_reducible exact Below.refl _ _ | with_reducible assumption | with_reducible refine bel_alloc ?_ _ | with_reducible refine bel_set ?_ ?_ _ | with_reducible refine below_drewN ?_ _ | with_reducible refine below_drew ?_ | (simp; done) | (simp; omega) | omega))) hbn
  clear hbn
  go_wp2_with fail
  refine hK.out _ _ ?_ (fun hHeld => ?_)
  · (try dsimp only)
    exact hbw9
  clear hK K
  (try simp only [Act.put, List.setIfInBounds_toArray, List.set_cons_zero, List.set_cons_succ])
  refine wpAnyH_ready (rs := [27]) (by kernel_rfl) (by simp) ?_
  refine AllReadyH.cons (o := ⟨some 71, _, _, _, _, _⟩) rfl (fun K hK => ?_) AllReadyH.nil
  go_simp
  go_at_call 14
  refine (HC2.out _ (show Below w7.heap.size w7 _ by (repeat' (first | with_reducible exact Below.refl _ _ | with_reducible assumption | with_reducible refine bel_alloc ?_ _ | with_reducible refine bel_set ?_ ?_ _ | with_reducible refine below_drewN ?_ _ | with_reducible refine below_drew ?_ | (simp; done) | (simp; omega) | omega)))).mono ?_
  rintro e_r wa ⟨rfl, hbn⟩
  have hbwa : Below w7.heap.size w7 wa := bel_on (show Below w7.heap.size w7 _ by (repeat' (first | with_reducible exact Below.refl _ _ | with_reducible assumption | with_reducible refine bel_alloc ?_ _ | with_reducible refine bel_set ?_ ?_ _ | with_reducible refine below_drewN ?_ _ | with_reducible refine below_drew ?_ | (simp; done) | (simp; omega) | omega))) hbn
  clear hbn
  go_wp2_with fail
  refine hK.out _ _ ?_ (fun hHeld => ?_)
  · (try dsimp only)
    exact hbwa
  clear hK K
  (try simp only [Act.put, List.setIfInBounds_toArray, List.set_cons_zero, List.set_cons_succ])
  refine wpAnyH_take (i := 28) (oi := ⟨some 72, _, _, _, _, _⟩) (v := .bool true) rfl (by kernel_rfl) (by kernel_rfl) (by kernel_rfl) (fun _ _ _ h => h) (Or.inl ⟨by rfl, ?_⟩) hHeld ?_
  · intro ww hSw
    (try dsimp only at hSw)
    go_simp
  simp only [Act.put, List.setIfInBounds_toArray, List.set_cons_zero, List.set_cons_succ]
  refine wpAnyH_take (i := 29) (oi := ⟨some 73, _, _, _, _, _⟩) (v := ?_) rfl (by kernel_rfl) (by kernel_rfl) (by kernel_rfl) (fun _ _ _ h => h) (Or.inl ⟨by rfl, ?_⟩) hHeld ?_
  rotate_left
  · intro ww hSw
    (try dsimp only at hSw)
    go_simp
    (try with_reducible rfl)
  simp only [Act.put, List.setIfInBounds_toArray, List.set_cons_zero, List.set_cons_succ]
  refine wpAnyH_take (i := 30) (oi := ⟨some 4, _, _, _, _, _⟩) (v := ?_) rfl (by kernel_rfl) (by kernel_rfl) (by kernel_rfl) (fun _ _ _ h => h) (Or.inl ⟨by rfl, ?_⟩) hHeld ?_
  rotate_left
  · intro ww hSw
    (try dsimp only at hSw)
    go_simp
    (try with_reducible rfl)
  simp only [Act.put, List.setIfInBounds_toArray, List.set_cons_zero, List.set_cons_succ]
  refine wpAnyH_done (by kernel_rfl) ?_ _
  refine NoPanic.normal ?_
  go_wp2
  go_ret
  exact ⟨rfl, bel_on b6 hbwa⟩
set_option maxHeartbeats 4000000 in
theorem setupTells_out (s : SetP) (cs : Array Value) (B : Option Addr) (m d : Nat) (W : World) (hs : SetC W s cs) (h : ¬ (s.Few ∧ m ≤ 2000)) :
    Calls Try.prog 3 #[.agg cs, .slice B m d] W fun e w' => e = .returned (.bool true) ∧ Below W.heap.size W w' := by
  have HZ := Lib.hid hs.size
  have HS := Lib.hid hs
  obtain ⟨fb, hfb⟩ : ∃ fb, decide s.Few = fb := ⟨_, rfl⟩
  have HL := Lib.hid (fun wx (h : SetC wx s cs) => few_c h fb hfb)
  have HH : Hid (fb = true → decide ((2000 : Int) < (m : Int)) = true) := by
    intro e
    rw [e] at hfb
    have := of_decide_eq_true hfb
    simp
    rcases Nat.lt_or_ge 2000 m with h1 | h1
    · omega
    · exact absurd ⟨this, h1⟩ h
  clear hs h hfb
  go_enter Try.func3, Try.ntmps3
  go_wp2_with fail
  refine (awake7 _).mono ?_
  rintro e w1 ⟨rfl, b1⟩
  have HB := Lib.hid ((Has.new W 30 cs rfl).below b1)
  replace b1 := bel_on (bel_alloc (Below.refl _ _) _) b1
  replace HS := Lib.hid (HS.out.below b1)
  go_wp2_with (refine wpList_load_has (by rfl) _ rfl W.heap.size rfl cs HB.out HZ.out ?_)
  refine (HL.out _ HS.out).mono ?_
  rintro e w2 ⟨rfl, b2⟩
  replace b2 := bel_on b1 b2
  clear b1 HL
  cases fb
  · go_wp2
    go_ret
    exact ⟨rfl, b2⟩
  · have hgt := HH.out rfl
    clear HH
    go_wp2
    go_ret
    exact ⟨rfl, b2⟩
theorem setupTells_walk (s : SetP) (A1 A2 A3 A4 A5 A6 : Option Addr) (c1 c2 c3 c4 c5 c6 : Nat) (B : Option Addr) (m d : Nat) (zs : List Int) (W : World) (hs : SetAt W s A1 A2 A3 A4 A5 A6 c1 c2 c3 c4 c5 c6) (hf : s.Fit) (hB : IsRow .u8 W B m d zs) :
    Calls Try.prog 3 #[setV s A1 A2 A3 A4 A5 A6 c1 c2 c3 c4 c5 c6, .slice B m d] W fun e w' => e = .returned (.bool true) ∧ Below W.heap.size W w' := by
  obtain ⟨cs, hcs⟩ : ∃ cs, setV s A1 A2 A3 A4 A5 A6 c1 c2 c3 c4 c5 c6 = .agg cs := ⟨_, rfl⟩
  obtain ⟨b, hbl, hb, hm⟩ := bytes_of_row hB
  have hmd := (bytes_caps hB).1
  rw [hcs]
  have hC : SetC W s cs := ⟨A1, A2, A3, A4, A5, A6, c1, c2, c3, c4, c5, c6, hcs, hs⟩
  by_cases h : s.Few ∧ m ≤ 2000
  · exact setupTells_in s cs B m d b W hC hf h.1 hb hmd h.2
  · exact setupTells_out s cs B m d W hC h
end Go.Proofs.Ytdhkfhgggkndoaa

namespace Go.Proofs.Ytdhkfhgggkndoaa
open Go.RowKit Go.Deep Go.WideShapes
set_option linter.unusedVariables false
set_option maxRecDepth 20000

theorem nums_at {P : Program} {t : TypeId} {k : Nat} (h : NumsT P t k) (hk : P.cellsOf t = k) : NumsT P t (P.cellsOf t) := by rw [hk]; exact h
theorem numsT_int : NumsT Try.prog 3 1 := alli_int Try.underlying3
theorem numsT_ratio : NumsT Try.prog 24 2 := alli_struct Try.underlying24 (by kernel_rfl)
  ⟨rfl, nums_at numsT_int (by kernel_rfl), by kernel_rfl, nums_at numsT_int (by kernel_rfl), by change _ = _; kernel_rfl⟩
theorem numsT_way : NumsT Try.prog 55 3 := alli_struct Try.underlying55 (by kernel_rfl)
  ⟨rfl, nums_at numsT_int (by kernel_rfl), by kernel_rfl, nums_at numsT_int (by kernel_rfl), by kernel_rfl, nums_at numsT_int (by kernel_rfl), by change _ = _; kernel_rfl⟩
theorem numsT_tier : NumsT Try.prog 74 2 := alli_struct Try.underlying74 (by kernel_rfl)
  ⟨rfl, nums_at numsT_int (by kernel_rfl), by kernel_rfl, nums_at numsT_int (by kernel_rfl), by change _ = _; kernel_rfl⟩
theorem numsT_element : NumsT Try.prog 72 4 := alli_struct Try.underlying72 (by kernel_rfl)
  ⟨rfl, nums_at numsT_ratio (by kernel_rfl), by kernel_rfl, nums_at numsT_ratio (by kernel_rfl), by change _ = _; kernel_rfl⟩
theorem setup_open {H : Type} {enc : TypeId × Value → H} {w : World} {r : Reach} {b0 base : Nat} {held : Bool} {v : Value} {d : DataW H} {p : List MemPlace}
    (hv : Value.okWide Try.prog w r b0 30 v) (h : DataW.Trod enc Try.prog w base (fun _ => true) held 30 v d p) :
    ∃ (s : SetP) (A1 A2 A3 A4 A5 A6 : Option Addr) (c1 c2 c3 c4 c5 c6 : Nat), v = setV s A1 A2 A3 A4 A5 A6 c1 c2 c3 c4 c5 c6 ∧ SetAt w s A1 A2 A3 A4 A5 A6 c1 c2 c3 c4 c5 c6 ∧ s.Fit :=
  open_setup Try.underlying30 (by kernel_rfl) (by kernel_rfl) Try.underlying3 (by kernel_rfl) Try.underlying22 numsT_way (by kernel_rfl) numsT_ratio
    Try.underlying25 numsT_element (by kernel_rfl) Try.underlying26 numsT_ratio (by kernel_rfl) Try.underlying27 Try.underlying28 numsT_tier (by kernel_rfl) hv h
end Go.Proofs.Ytdhkfhgggkndoaa

namespace Go.Proofs.Ytdhkfhgggkndoaa.setupTells
open Go.ChangeShapes Go.WideShapes Go.ChangeAt Go.RowKit
open Go.ChangeMaps (open_string shut_string)
set_option linter.unusedVariables false

theorem own : ownKnob Try.prog.godebug = none := by kernel_rfl
theorem laidOut : laidOutB Try.prog = true := by kernel_rfl

set_option maxRecDepth 100000 in
theorem lifted (os : Os) (started : os.Started) (H : Type) (enc : TypeId × Value → H) :
    ReturnsInHanded {} Try.checked os 3 .any (Rows.setupTellsSpec.pre6 enc Try.prog Try.f3 Rows.setupTellsRow.domain false) (Rows.setupTellsSpec.post enc Try.prog Try.f3 false true false false) := by
  refine returnsInHanded_of_change (C := Try.checked) own started (by kernel_rfl) Try.func3
    (ChangeSpec.witness6 (enc := enc) (C := Try.checked) false ⟨#[], #[.agg #[.int .i64 0, .slice none 0 0, .int .i64 0, .int .i64 0, .slice none 0 0, .slice none 0 0, .slice none 0 0, .int .i64 0, .int .i64 0, .int .i64 0, .int .i64 0, .int .i64 0, .int .i64 0, .int .i64 0, .int .i64 0, .int .i64 0, .int .i64 0, .int .i64 0, .slice none 0 0, .int .i64 0, .int .i64 0, .int .i64 0, .slice none 0 0], .slice none 0 0], []⟩ 8 (by kernel_rfl) (by kernel_rfl) (by kernel_rfl) (by kernel_rfl)) ?_
  intro W base args ds gs before hval0 hW hcnd _
  have hval : ∀ (j : Nat) t v, Try.f3.params[j]? = some t → args[j]? = some v → Value.okWide Try.prog W .any base t v := hval0
  have hW' := hW
  obtain ⟨p, q, hA0, hV, rfl, hfz, hnd⟩ := hW
  have hA : DataW.TrodAll enc Try.prog W 0 (fun _ => true) true Try.f3.params.toList args.toList ds p := hA0
  rw [Try.params3] at hA hval
  obtain ⟨v0, vs0, d0, ds0, p0, q0, hargs, rfl, rfl, h0, r0⟩ := trodAll_cons hA
  obtain ⟨v1, vs1, d1, ds1, p1, q1, rfl, rfl, rfl, h1, r1⟩ := trodAll_cons r0
  obtain ⟨rfl, rfl, rfl⟩ := trodAll_nil r1
  obtain rfl : args = #[v0, v1] := by cases args; simp_all
  obtain ⟨rfl, rfl⟩ := trodVars_none hV
  have k0 := h0
  have lt0 : ∀ x ∈ p0, x.block < W.heap.size := by obtain ⟨m, hm⟩ := k0; exact DataW.trod_lt m _ _ _ hm
  obtain ⟨s0, A0_1, A0_2, A0_3, A0_4, A0_5, A0_6, c0_1, c0_2, c0_3, c0_4, c0_5, c0_6, rfl, u0, f0⟩ := setup_open (hval 0 30 v0 rfl rfl) h0
  have k1 := h1
  have lt1 : ∀ x ∈ p1, x.block < W.heap.size := by obtain ⟨m, hm⟩ := k1; exact DataW.trod_lt m _ _ _ hm
  obtain ⟨a1, len1, cap1, rfl⟩ := okWide_slice Try.underlying31 (hval 1 31 v1 rfl rfl)
  obtain ⟨z1, w1⟩ : ∃ zs, IsRow .u8 W a1 len1 cap1 zs := by
    obtain ⟨fuel, hf⟩ := h1
    rcases open_ints Try.underlying31 Try.underlying5 (by kernel_rfl) hf with ⟨hcs, _⟩ | ⟨x, l, c, zs, hcs, _, hl, hm, hz, _, hcell, hwz⟩
    · simp [Value.cells] at hcs
      obtain ⟨rfl, rfl, rfl⟩ := hcs
      exact ⟨[], .inl ⟨rfl, rfl, rfl, rfl⟩⟩
    · simp [Value.cells] at hcs
      obtain ⟨rfl, rfl, rfl⟩ := hcs
      exact ⟨zs, .inr ⟨_, rfl, hl, hm, by simpa using hz, hcell, hwz⟩⟩
  clear hA0 hval0
  refine (setupTells_walk s0 A0_1 A0_2 A0_3 A0_4 A0_5 A0_6 c0_1 c0_2 c0_3 c0_4 c0_5 c0_6 a1 len1 cap1 z1 W u0 f0 w1).mono fun e W' ⟨he, bel⟩ => ?_
  subst he
  exact ⟨_, rfl, _, _, _, [], _, [], hW', trodAll_mk1 (shut_bool Try.underlying4 _), (trodAll_cons_mk (Below.trod laidOut (by kernel_rfl) (of_decide_eq_true (by kernel_rfl)) k0 bel lt0) (trodAll_cons_mk (Below.trod laidOut (by kernel_rfl) (of_decide_eq_true (by kernel_rfl)) k1 bel lt1) trodAll_mk0)), rfl, bel.frame _, fun h => by cases h⟩

theorem over : Rows.setupTellsRow.holds Try.pinned (OpenSpec.ofChange Rows.setupTellsSpec) :=
  OpenClaim.holds_of_wide 3 Try.f3 rfl rfl rfl rfl rfl rfl rfl ⟨rfl, rfl, rfl, rfl, rfl⟩ rfl rfl rfl rfl rfl (by kernel_rfl) Try.func3 (by kernel_rfl)
    (of_decide_eq_true (by kernel_rfl)) (by unfold Func.isWrapper; first | (rw [if_pos (by decide +kernel)]; kernel_rfl) | (rw [if_neg (by decide +kernel)]; exact ⟨rfl, rfl⟩))
    (fun os started H enc _ => lifted os started H enc)

theorem proved : Rows.SetupTellsSaid := over
#print axioms proved
end Go.Proofs.Ytdhkfhgggkndoaa.setupTells
