/-
  Package setup: all of a setup, where it is written.
-/
import Derived.Test.YtdhkfhgggkndoaaSetL
namespace Go.Proofs.Ytdhkfhgggkndoaa
open Go.RowKit
set_option linter.unusedVariables false
set_option linter.unusedSimpArgs false
set_option maxRecDepth 20000

def SetP.parts (s : SetP) : List (List (BitVec 8)) := [putB [s.places.toNat], bytesN ((s.ways.length : Int) :: s.ways.flatten), putB [s.pn.toNat, s.pd.toNat], bytesN ((s.elements.length : Int) :: s.elements.flatten), bytesN ((s.classes.length : Int) :: s.classes.flatten), bytesN ((s.gears.length : Int) :: s.gears.flatten), putB [s.allow.toNat, s.unit.toNat, s.cap.toNat, s.paid.toNat, s.aft.toNat, s.brk.toNat, s.reg.toNat, s.over.toNat, s.week.toNat, s.nfrom.toNat, s.nto.toNat], bytesN ((s.rates.length : Int) :: s.rates), putB [s.diff.toNat, s.least.toNat, s.fault.toNat], bytesN ((s.tiers.length : Int) :: s.tiers.flatten)]
theorem parts_bytes (s : SetP) : s.parts.flatten = s.bytes := by
  simp [SetP.parts, SetP.bytes, SetP.nums, bytesN, putB]
theorem parts_step {α : Type} (L : List (List α)) (i : Nat) (h : i < L.length) : (L.take i).flatten ++ L[i] = (L.take (i + 1)).flatten := by
  rw [List.take_succ_eq_append_getElem h, List.flatten_append]
  simp
theorem parts_len {α : Type} (L : List (List α)) (i : Nat) : (L.take i).flatten.length ≤ L.flatten.length := by
  conv => rhs; rw [← List.take_append_drop i L, List.flatten_append, List.length_append]
  omega
theorem nat_cell {w : World} {p : Addr} {z : Int} (h : w.cell? p = some (.int .i64 z)) (hz : 0 ≤ z) : w.cell? p = some (.int .i64 (z.toNat : Int)) := by rw [h, Int.toNat_of_nonneg hz]
theorem sbytes_len {s : SetP} (hg : s.Good) : s.bytes.length ≤ 100000 := by
  have h1 := put_len_le (s.nums.map Int.toNat) (fun n hn => by
    simp only [List.mem_map] at hn
    obtain ⟨z, hz, rfl⟩ := hn
    have := nums_ok hg.1 hg.2 z hz
    omega)
  have e1 := rows_len s.ways hg.1.ways
  have e2 := rows_len s.elements hg.1.elements
  have e3 := rows_len s.classes hg.1.classes
  have e4 := rows_len s.gears hg.1.gears
  have e5 := rows_len s.tiers hg.1.tiers
  have q1 := hg.2.ways.1
  have q2 := hg.2.elements.1
  have q3 := hg.2.classes.1
  have q4 := hg.2.gears.1
  have q5 := hg.2.tiers.1
  have q6 := hg.2.rates.2.1
  have hl : s.nums.length ≤ 1000 := by
    simp only [SetP.nums, List.length_cons, List.length_append, e1, e2, e3, e4, e5]
    omega
  rw [List.length_map] at h1
  show (putB _).length ≤ _
  omega
theorem set_blocks {w : World} {s : SetP} {A1 A2 A3 A4 A5 A6 : Option Addr} {c1 c2 c3 c4 c5 c6 : Nat} (hs : SetAt w s A1 A2 A3 A4 A5 A6 c1 c2 c3 c4 c5 c6) : ∀ A n, (A = A1 ∧ n = s.ways.length) ∨ (A = A2 ∧ n = s.elements.length) ∨ (A = A3 ∧ n = s.classes.length) ∨ (A = A4 ∧ n = s.gears.length) ∨ (A = A5 ∧ n = s.rates.length) ∨ (A = A6 ∧ n = s.tiers.length) → 0 < n → ∀ a, A = some a → a.block < w.heap.size := by
  rintro A n (⟨rfl, rfl⟩ | ⟨rfl, rfl⟩ | ⟨rfl, rfl⟩ | ⟨rfl, rfl⟩ | ⟨rfl, rfl⟩ | ⟨rfl, rfl⟩)
  · exact hs.ways.blk (by decide)
  · exact hs.elements.blk (by decide)
  · exact hs.classes.blk (by decide)
  · exact hs.gears.blk (by decide)
  · exact hs.rates.blk (by decide)
  · exact hs.tiers.blk (by decide)
theorem sub_ok {s : SetP} (h : okN s.nums) : okN s.ways.flatten ∧ okN s.elements.flatten ∧ okN s.classes.flatten ∧ okN s.gears.flatten ∧ okN s.rates ∧ okN s.tiers.flatten := by
  refine ⟨fun n hn => h n ?_, fun n hn => h n ?_, fun n hn => h n ?_, fun n hn => h n ?_, fun n hn => h n ?_, fun n hn => h n ?_⟩ <;>
    (unfold SetP.nums; simp only [List.mem_cons, List.mem_append, hn, true_or, or_true])
set_option maxHeartbeats 4000000 in
theorem wthrough_any (F0 : Nat → Prop) (g B : Nat) (s : SetP) (A1 A2 A3 A4 A5 A6 : Option Addr) (c1 c2 c3 c4 c5 c6 : Nat) (w : World) (hg : s.Good) (hB0 : F0 B) (hBS : Has w B #[.int .i64 s.places, .slice A1 s.ways.length c1, .int .i64 s.pn, .int .i64 s.pd, .slice A2 s.elements.length c2, .slice A3 s.classes.length c3, .slice A4 s.gears.length c4, .int .i64 s.allow, .int .i64 s.unit, .int .i64 s.cap, .int .i64 s.paid, .int .i64 s.aft, .int .i64 s.brk, .int .i64 s.reg, .int .i64 s.over, .int .i64 s.week, .int .i64 s.nfrom, .int .i64 s.nto, .slice A5 s.rates.length c5, .int .i64 s.diff, .int .i64 s.least, .int .i64 s.fault, .slice A6 s.tiers.length c6]) (hs : SetAt w s A1 A2 A3 A4 A5 A6 c1 c2 c3 c4 c5 c6)
    (hA : ∀ A n, (A = A1 ∧ n = s.ways.length) ∨ (A = A2 ∧ n = s.elements.length) ∨ (A = A3 ∧ n = s.classes.length) ∨ (A = A4 ∧ n = s.gears.length) ∨ (A = A5 ∧ n = s.rates.length) ∨ (A = A6 ∧ n = s.tiers.length) → 0 < n → ∀ a, A = some a → F0 a.block) (h : WPen F0 g [] w) :
    Calls Try.prog 29 #[.iface 61 (.pointer (some ⟨g, 0, none⟩)), .pointer (some ⟨B, 0, none⟩)] w fun e w' => e = .returned (.tuple #[]) ∧ Kept F0 w w' ∧ WPen F0 g s.bytes w' := by
  have hok := nums_ok hg.1 hg.2
  obtain ⟨ok1, ok2, ok3, ok4, ok5, ok6⟩ := sub_ok hok
  have hlen := sbytes_len hg
  have hpl := fun i => parts_len s.parts i
  rw [parts_bytes] at hpl
  have hm := hg.2
  have eg1 : ∀ args w, (callFunc 61 args).run Try.prog w = .ok (.enter 61 args) w := enters_of Try.func61 (by kernel_rfl) rfl
  have eg2 : ∀ args w, (callFunc 62 args).run Try.prog w = .ok (.enter 62 args) w := enters_of Try.func62 (by kernel_rfl) rfl
  have hlow := h.low
  have hBs := hBS.size
  have H := Lib.hid (And.intro h (And.intro hBS hs))
  have HO := Lib.hid (And.intro hm (And.intro ok1 (And.intro ok2 (And.intro ok3 (And.intro ok4 (And.intro ok5 ok6))))))
  have HA := Lib.hid hA
  have HLO := Lib.hid hlow
  have HPL : Hid (∀ i, (s.parts.take i).flatten.length ≤ 100000) := fun i => Nat.le_trans (hpl i) hlen
  clear h hBS hs hm ok1 ok2 ok3 ok4 ok5 ok6 hA hlow hok hg hpl
  go_enter Try.func29, Try.ntmps29
  go_upto_region 2 with fail
  go_cut [2, 4, 5, 6, 7] (fun v2 v4 v5 v6 v7 wx => ∃ p2 p4 p5 : Nat, v2 = .pointer (some ⟨p2, 0, none⟩) ∧ v4 = .pointer (some ⟨p4, 0, none⟩) ∧ v5 = .pointer (some ⟨p5, 0, none⟩) ∧ v6 = .func (.func 61) #[] #[.pointer (some ⟨p2, 0, none⟩)] ∧ v7 = .func (.func 62) #[] #[.pointer (some ⟨p4, 0, none⟩)] ∧
    Hid (∃ F : Nat → Prop, (∀ b, F0 b → F b) ∧ F p2 ∧ F p4 ∧ F p5 ∧ Has wx p2 #[.iface 61 (.pointer (some ⟨g, 0, none⟩))] ∧ Has wx p4 #[.func (.func 61) #[] #[.pointer (some ⟨p2, 0, none⟩)]] ∧ Has wx p5 #[.func (.func 62) #[] #[.pointer (some ⟨p4, 0, none⟩)]] ∧ WPen F g [] wx ∧ Below w.heap.size w wx))
  case first =>
    go_wp2_with fail
    go_meet
    refine ⟨w.heap.size, w.heap.size + 1, w.heap.size + 2, rfl, by simp, by simp, rfl, by simp, ?_⟩
    refine Lib.hid ⟨fun b => ((F0 b ∨ b = w.heap.size) ∨ b = w.heap.size + 1) ∨ b = w.heap.size + 2, fun b hb => .inl (.inl (.inl hb)), .inl (.inl (.inr rfl)), .inl (.inr rfl), .inr rfl, ?_, ?_, ?_, ?_, ?_⟩
    · (repeat' (first | with_reducible assumption | ((with_reducible refine Has.new _ _ _ ?_); (first | (with_reducible rfl) | (simp; done))) | with_reducible refine Has.alloc ?_ _ | with_reducible refine Has.drewN ?_ _ | with_reducible refine Has.drew ?_))
    · (repeat' (first | with_reducible assumption | ((with_reducible refine Has.new _ _ _ ?_); (first | (with_reducible rfl) | (simp; done))) | with_reducible refine Has.alloc ?_ _ | with_reducible refine Has.drewN ?_ _ | with_reducible refine Has.drew ?_))
    · (repeat' (first | with_reducible assumption | ((with_reducible refine Has.new _ _ _ ?_); (first | (with_reducible rfl) | (simp; done))) | with_reducible refine Has.alloc ?_ _ | with_reducible refine Has.drewN ?_ _ | with_reducible refine Has.drew ?_))
    · have q := ((H.out.1.grow (.cells #[.iface 61 (.pointer (some ⟨g, 0, none⟩))] 94)).grow (.cells #[.func (.func 61) #[] #[.pointer (some ⟨w.heap.size, 0, none⟩)]] 96)).grow (.cells #[.func (.func 62) #[] #[.pointer (some ⟨w.heap.size + 1, 0, none⟩)]] 98)
      exact q.less (fun b hb => by simpa using hb)
    · (repeat' (first | with_reducible exact Below.refl _ _ | with_reducible assumption | with_reducible refine bel_alloc ?_ _ | with_reducible refine bel_set ?_ ?_ _ | with_reducible refine below_drewN ?_ _ | with_reducible refine below_drew ?_ | (simp; done) | (simp; omega) | omega))
  case rest =>
    obtain ⟨p2, p4, p5, rfl, rfl, rfl, rfl, rfl, hx⟩ := hcut
    obtain ⟨F, hF, hF2, hF4, hF5, q2, q4, q5, hw0, hbw⟩ := hx.out
    have hB := hF B hB0
    have HBS := Lib.hid (H.out.2.1.below hbw)
    have HS := Lib.hid (H.out.2.2.below hbw)
    have hm := HO.out.1
    have Q2 := Lib.hid q2
    have Q4 := Lib.hid q4
    have Q5 := Lib.hid q5
    have HW0 := Lib.hid hw0
    have hk0 : Kept F wc wc := Kept.refl _ _
    have hFA : ∀ A n, (A = A1 ∧ n = s.ways.length) ∨ (A = A2 ∧ n = s.elements.length) ∨ (A = A3 ∧ n = s.classes.length) ∨ (A = A4 ∧ n = s.gears.length) ∨ (A = A5 ∧ n = s.rates.length) ∨ (A = A6 ∧ n = s.tiers.length) → 0 < n → ∀ a, A = some a → F a.block := fun A n h hn a ha => hF _ (HA.out A n h hn a ha)
    have HC0 := Lib.hid (fun (wx : World) (hx : Kept F wc wx) (hw : WPen F g (s.parts.take 0).flatten wx) (cells : Array Value) (t : TypeId) (hcl : ∀ j, j < 1 → cells[j]? = some (.pointer (some ⟨B, 0 + j, none⟩))) => wnums_new F g B 0 1 p2 [s.places.toNat] (s.parts.take 0).flatten wx cells t hcl rfl (by omega) (fun n hn => by
        simp only [List.mem_cons, List.not_mem_nil, or_false] at hn
        rcases hn with rfl
        · have h1 := hm.places.1; have h2 := hm.places.2; omega) (fun j hj => by
        rw [cell_kept hx (p := ⟨B, 0 + j, none⟩) hB]
        rcases (show j = 0 by omega) with rfl
        · exact nat_cell (HBS.out.cell 0 rfl) (by have h1 := hm.places.1; omega)) hB hF2 ((cell_kept hx hF2).trans (Q2.out.cell 0 rfl)) hw (by have := HPL.out 0; omega))
    have HC1 := Lib.hid (fun (wx : World) (hx : Kept F wc wx) (hw : WPen F g (s.parts.take 1).flatten wx) => wlist_way F g B 1 p2 p4 A1 c1 s.ways.length s.ways (s.parts.take 1).flatten wx hB ((cell_kept hx (p := ⟨B, 1, none⟩) hB).trans (HBS.out.cell 1 rfl)) (HS.out.ways.blocks2 (fun hn0 ad had => hx.block _ (hFA A1 _ (by simp) hn0 ad had))) (hFA A1 _ (by simp)) (by have := hm.ways.1; omega) HO.out.2.1 hF2 ((cell_kept hx hF2).trans (Q2.out.cell 0 rfl)) hF4 ((cell_kept hx hF4).trans (Q4.out.cell 0 rfl)) hw (by have := HPL.out 1; omega))
    have HC2 := Lib.hid (fun (wx : World) (hx : Kept F wc wx) (hw : WPen F g (s.parts.take 2).flatten wx) => wshow_part F g B 2 p2 p4 s.pn.toNat s.pd.toNat (s.parts.take 2).flatten wx (fun n hn => by
        simp only [List.mem_cons, List.not_mem_nil, or_false] at hn
        rcases hn with rfl | rfl
        · have h1 := (share_bd hm.pace).1; have h2 := (share_bd hm.pace).2.1; omega
        · have h1 := (share_bd hm.pace).2.2.1; have h2 := (share_bd hm.pace).2.2.2; omega) (fun j hj => by
        rw [cell_kept hx (p := ⟨B, 2 + j, none⟩) hB]
        rcases (show j = 0 ∨ j = 1 by omega) with rfl | rfl
        · exact nat_cell (HBS.out.cell 2 rfl) (by have h1 := (share_bd hm.pace).1; omega)
        · exact nat_cell (HBS.out.cell 3 rfl) (by have h1 := (share_bd hm.pace).2.2.1; omega)) hB hF2 ((cell_kept hx hF2).trans (Q2.out.cell 0 rfl)) hF4 ((cell_kept hx hF4).trans (Q4.out.cell 0 rfl)) hw (by have := HPL.out 2; omega))
    have HC3 := Lib.hid (fun (wx : World) (hx : Kept F wc wx) (hw : WPen F g (s.parts.take 3).flatten wx) => wlist_ele F g B 4 p2 p4 p5 A2 c2 s.elements.length s.elements (s.parts.take 3).flatten wx hB ((cell_kept hx (p := ⟨B, 4, none⟩) hB).trans (HBS.out.cell 4 rfl)) (HS.out.elements.blocks2 (fun hn0 ad had => hx.block _ (hFA A2 _ (by simp) hn0 ad had))) (hFA A2 _ (by simp)) (by have := hm.elements.1; omega) HO.out.2.2.1 hF2 ((cell_kept hx hF2).trans (Q2.out.cell 0 rfl)) hF4 ((cell_kept hx hF4).trans (Q4.out.cell 0 rfl)) hF5 ((cell_kept hx hF5).trans (Q5.out.cell 0 rfl)) hw (by have := HPL.out 3; omega))
    have HC4 := Lib.hid (fun (wx : World) (hx : Kept F wc wx) (hw : WPen F g (s.parts.take 4).flatten wx) => wlist_part F g B 5 p2 p4 A3 c3 s.classes.length s.classes (s.parts.take 4).flatten wx hB ((cell_kept hx (p := ⟨B, 5, none⟩) hB).trans (HBS.out.cell 5 rfl)) (HS.out.classes.blocks2 (fun hn0 ad had => hx.block _ (hFA A3 _ (by simp) hn0 ad had))) (hFA A3 _ (by simp)) (by have := hm.classes.1; omega) HO.out.2.2.2.1 hF2 ((cell_kept hx hF2).trans (Q2.out.cell 0 rfl)) hF4 ((cell_kept hx hF4).trans (Q4.out.cell 0 rfl)) hw (by have := HPL.out 4; omega))
    have HC5 := Lib.hid (fun (wx : World) (hx : Kept F wc wx) (hw : WPen F g (s.parts.take 5).flatten wx) => wlist_part F g B 6 p2 p4 A4 c4 s.gears.length s.gears (s.parts.take 5).flatten wx hB ((cell_kept hx (p := ⟨B, 6, none⟩) hB).trans (HBS.out.cell 6 rfl)) (HS.out.gears.blocks2 (fun hn0 ad had => hx.block _ (hFA A4 _ (by simp) hn0 ad had))) (hFA A4 _ (by simp)) (by have := hm.gears.1; omega) HO.out.2.2.2.2.1 hF2 ((cell_kept hx hF2).trans (Q2.out.cell 0 rfl)) hF4 ((cell_kept hx hF4).trans (Q4.out.cell 0 rfl)) hw (by have := HPL.out 5; omega))
    have HC6 := Lib.hid (fun (wx : World) (hx : Kept F wc wx) (hw : WPen F g (s.parts.take 6).flatten wx) (cells : Array Value) (t : TypeId) (hcl : ∀ j, j < 11 → cells[j]? = some (.pointer (some ⟨B, 7 + j, none⟩))) => wnums_new F g B 7 11 p2 [s.allow.toNat, s.unit.toNat, s.cap.toNat, s.paid.toNat, s.aft.toNat, s.brk.toNat, s.reg.toNat, s.over.toNat, s.week.toNat, s.nfrom.toNat, s.nto.toNat] (s.parts.take 6).flatten wx cells t hcl rfl (by omega) (fun n hn => by
        simp only [List.mem_cons, List.not_mem_nil, or_false] at hn
        rcases hn with rfl | rfl | rfl | rfl | rfl | rfl | rfl | rfl | rfl | rfl | rfl
        · have h1 := hm.allow.1; have h2 := hm.allow.2; omega
        · have h1 := hm.unit.1; have h2 := hm.unit.2; omega
        · have h1 := hm.cap.1; have h2 := hm.cap.2; omega
        · have h1 := hm.paid.1; have h2 := hm.paid.2; omega
        · have h1 := hm.aft.1; have h2 := hm.aft.2; omega
        · have h1 := hm.brk.1; have h2 := hm.brk.2; omega
        · have h1 := hm.reg.1; have h2 := (Int.le_trans hm.reg.2 hm.over); omega
        · have h1 := (Int.le_trans hm.reg.1 hm.reg.2); have h2 := hm.over; omega
        · have h1 := hm.week.1; have h2 := hm.week.2; omega
        · have h1 := hm.nfrom.1; have h2 := hm.nfrom.2; omega
        · have h1 := hm.nto.1; have h2 := hm.nto.2; omega) (fun j hj => by
        rw [cell_kept hx (p := ⟨B, 7 + j, none⟩) hB]
        rcases (show j = 0 ∨ j = 1 ∨ j = 2 ∨ j = 3 ∨ j = 4 ∨ j = 5 ∨ j = 6 ∨ j = 7 ∨ j = 8 ∨ j = 9 ∨ j = 10 by omega) with rfl | rfl | rfl | rfl | rfl | rfl | rfl | rfl | rfl | rfl | rfl
        · exact nat_cell (HBS.out.cell 7 rfl) (by have h1 := hm.allow.1; omega)
        · exact nat_cell (HBS.out.cell 8 rfl) (by have h1 := hm.unit.1; omega)
        · exact nat_cell (HBS.out.cell 9 rfl) (by have h1 := hm.cap.1; omega)
        · exact nat_cell (HBS.out.cell 10 rfl) (by have h1 := hm.paid.1; omega)
        · exact nat_cell (HBS.out.cell 11 rfl) (by have h1 := hm.aft.1; omega)
        · exact nat_cell (HBS.out.cell 12 rfl) (by have h1 := hm.brk.1; omega)
        · exact nat_cell (HBS.out.cell 13 rfl) (by have h1 := hm.reg.1; omega)
        · exact nat_cell (HBS.out.cell 14 rfl) (by have h1 := (Int.le_trans hm.reg.1 hm.reg.2); omega)
        · exact nat_cell (HBS.out.cell 15 rfl) (by have h1 := hm.week.1; omega)
        · exact nat_cell (HBS.out.cell 16 rfl) (by have h1 := hm.nfrom.1; omega)
        · exact nat_cell (HBS.out.cell 17 rfl) (by have h1 := hm.nto.1; omega)) hB hF2 ((cell_kept hx hF2).trans (Q2.out.cell 0 rfl)) hw (by have := HPL.out 6; omega))
    have HC7 := Lib.hid (fun (wx : World) (hx : Kept F wc wx) (hw : WPen F g (s.parts.take 7).flatten wx) => wlist_one F g B 18 p2 p4 A5 c5 s.rates.length (s.rates.map fun n => [n]) (s.parts.take 7).flatten wx hB ((cell_kept hx (p := ⟨B, 18, none⟩) hB).trans (HBS.out.cell 18 rfl)) (HS.out.rates.blocks2 (fun hn0 ad had => hx.block _ (hFA A5 _ (by simp) hn0 ad had))) (hFA A5 _ (by simp)) (by have := hm.rates.2.1; omega) (by rw [flat_ones]; exact HO.out.2.2.2.2.2.1) hF2 ((cell_kept hx hF2).trans (Q2.out.cell 0 rfl)) hF4 ((cell_kept hx hF4).trans (Q4.out.cell 0 rfl)) hw (by have := HPL.out 7; omega))
    have HC8 := Lib.hid (fun (wx : World) (hx : Kept F wc wx) (hw : WPen F g (s.parts.take 8).flatten wx) (cells : Array Value) (t : TypeId) (hcl : ∀ j, j < 3 → cells[j]? = some (.pointer (some ⟨B, 19 + j, none⟩))) => wnums_new F g B 19 3 p2 [s.diff.toNat, s.least.toNat, s.fault.toNat] (s.parts.take 8).flatten wx cells t hcl rfl (by omega) (fun n hn => by
        simp only [List.mem_cons, List.not_mem_nil, or_false] at hn
        rcases hn with rfl | rfl | rfl
        · have h1 := hm.diff.1; have h2 := hm.diff.2; omega
        · have h1 := hm.least.1; have h2 := hm.least.2; omega
        · have h1 := hm.fault.1; have h2 := hm.fault.2; omega) (fun j hj => by
        rw [cell_kept hx (p := ⟨B, 19 + j, none⟩) hB]
        rcases (show j = 0 ∨ j = 1 ∨ j = 2 by omega) with rfl | rfl | rfl
        · exact nat_cell (HBS.out.cell 19 rfl) (by have h1 := hm.diff.1; omega)
        · exact nat_cell (HBS.out.cell 20 rfl) (by have h1 := hm.least.1; omega)
        · exact nat_cell (HBS.out.cell 21 rfl) (by have h1 := hm.fault.1; omega)) hB hF2 ((cell_kept hx hF2).trans (Q2.out.cell 0 rfl)) hw (by have := HPL.out 8; omega))
    have HC9 := Lib.hid (fun (wx : World) (hx : Kept F wc wx) (hw : WPen F g (s.parts.take 9).flatten wx) => wlist_tier F g B 22 p2 p4 A6 c6 s.tiers.length s.tiers (s.parts.take 9).flatten wx hB ((cell_kept hx (p := ⟨B, 22, none⟩) hB).trans (HBS.out.cell 22 rfl)) (HS.out.tiers.blocks2 (fun hn0 ad had => hx.block _ (hFA A6 _ (by simp) hn0 ad had))) (hFA A6 _ (by simp)) (by have := hm.tiers.1; omega) HO.out.2.2.2.2.2.2 hF2 ((cell_kept hx hF2).trans (Q2.out.cell 0 rfl)) hF4 ((cell_kept hx hF4).trans (Q4.out.cell 0 rfl)) hw (by have := HPL.out 9; omega))
    have HFI := Lib.hid hF
    have HBW := Lib.hid hbw
    clear hx q2 q4 q5 hw0 hm hFA hF hbw H HO HA
    go_wp2_with fail
    refine wp_region_noPanic ?_
    refine wp_region_held_drew (S := fun w' => Kept F wc w') (by kernel_rfl) (hk0.on (Kept.of_below (below_drew (Below.refl _ _)) HW0.out.low)) (fun hHeld => ?_)
    refine wpAnyH_take (i := 0) (oi := ⟨some 8, _, _, _, _, _⟩) (v := .func (.func 61) #[] #[.pointer (some ⟨p2, 0, none⟩)]) rfl (by kernel_rfl) (by kernel_rfl) (by kernel_rfl) (fun _ _ _ h => h) (Or.inl ⟨by rfl, ?_⟩) hHeld ?_
    · intro ww hSw
      (try dsimp only at hSw)
      have hcl := (cell_kept hSw (p := ⟨p4, 0, none⟩) hF4).trans (Q4.out.cell 0 rfl)
      have hcs := cell_lt hcl
      go_simp
    simp only [Act.put, List.setIfInBounds_toArray, List.set_cons_zero, List.set_cons_succ]
    refine wpAnyH_take (i := 1) (oi := ⟨some 9, _, _, _, _, _⟩) (v := ?_) rfl (by kernel_rfl) (by kernel_rfl) (by kernel_rfl) (fun _ _ _ h => h) (Or.inl ⟨by rfl, ?_⟩) hHeld ?_
    rotate_left
    · intro ww hSw
      (try dsimp only at hSw)
      go_simp
      (try with_reducible rfl)
    simp only [Act.put, List.setIfInBounds_toArray, List.set_cons_zero, List.set_cons_succ]
    refine wpAnyH_take (i := 2) (oi := ⟨some 10, _, _, _, _, _⟩) (v := ?_) rfl (by kernel_rfl) (by kernel_rfl) (by kernel_rfl) (fun _ _ _ h => h) (Or.inl ⟨by rfl, ?_⟩) hHeld ?_
    rotate_left
    · intro ww hSw
      (try dsimp only at hSw)
      go_simp
      (try with_reducible rfl)
    simp only [Act.put, List.setIfInBounds_toArray, List.set_cons_zero, List.set_cons_succ]
    refine wpAnyH_take (i := 3) (oi := ⟨some 11, _, _, _, _, _⟩) (v := ?_) rfl (by kernel_rfl) (by kernel_rfl) (by kernel_rfl) (fun _ _ _ h => h) (Or.inl ⟨by rfl, ?_⟩) hHeld ?_
    rotate_left
    · intro ww hSw
      (try dsimp only at hSw)
      go_simp
      (try with_reducible rfl)
    simp only [Act.put, List.setIfInBounds_toArray, List.set_cons_zero, List.set_cons_succ]
    refine wpAnyH_ready (rs := [4]) (by kernel_rfl) (by simp) ?_
    refine AllReadyH.cons (o := ⟨some 12, _, _, _, _, _⟩) rfl (fun K hK => ?_) AllReadyH.nil
    go_simp
    refine hK.out _ _ ?_ (fun hHeld => ?_)
    · (try dsimp only)
      exact hHeld.alloc (fun b hb => HW0.out.low b hb) _
    clear hK K
    (try simp only [Act.put, List.setIfInBounds_toArray, List.set_cons_zero, List.set_cons_succ])
    refine wpAnyH_ready (rs := [5]) (by kernel_rfl) (by simp) ?_
    refine AllReadyH.cons (o := ⟨some 13, _, _, _, _, _⟩) rfl (fun K hK => ?_) AllReadyH.nil
    go_simp
    go_at_call 61
    refine (HC0.out _ (hk0.on (Kept.of_below (below_drew (Below.refl _ _)) HW0.out.low)) (HW0.out.keep (below_drew (Below.refl _ _))) _ _ (by intro j hj; rcases (show j = 0 by omega) with rfl <;> rfl)).mono ?_
    rintro e_r w1 ⟨rfl, hk1, hw1⟩
    go_wp2_with fail
    refine hK.out _ _ ?_ (fun hHeld => ?_)
    · (try dsimp only)
      exact (hk0.on (Kept.of_below (below_drew (Below.refl _ _)) HW0.out.low)).on hk1
    clear hK K
    (try simp only [Act.put, List.setIfInBounds_toArray, List.set_cons_zero, List.set_cons_succ])
    refine wpAnyH_done (by kernel_rfl) ?_ _
    refine NoPanic.normal ?_
    replace hk1 := (hk0.on (Kept.of_below (below_drew (Below.refl _ _)) HW0.out.low)).on hk1
    have e1 := parts_step s.parts 0 (by simp [SetP.parts])
    have HW1 : Hid (WPen F g (s.parts.take 1).flatten w1) := by
      rw [← e1]
      exact hw1
    clear hw1 e1 HC0
    go_wp2_with fail
    refine wp_region_noPanic ?_
    refine wp_region_held_drew (S := fun w' => Kept F wc w') (by kernel_rfl) (hk1.on (Kept.of_below (below_drew (Below.refl _ _)) HW1.out.low)) (fun hHeld => ?_)
    refine wpAnyH_take (i := 0) (oi := ⟨some 14, _, _, _, _, _⟩) (v := .iface 61 (.pointer (some ⟨g, 0, none⟩))) rfl (by kernel_rfl) (by kernel_rfl) (by kernel_rfl) (fun _ _ _ h => h) (Or.inl ⟨by rfl, ?_⟩) hHeld ?_
    · intro ww hSw
      (try dsimp only at hSw)
      have hcl := (cell_kept hSw (p := ⟨p2, 0, none⟩) hF2).trans (Q2.out.cell 0 rfl)
      have hcs := cell_lt hcl
      go_simp
    simp only [Act.put, List.setIfInBounds_toArray, List.set_cons_zero, List.set_cons_succ]
    refine wpAnyH_take (i := 1) (oi := ⟨some 15, _, _, _, _, _⟩) (v := ?_) rfl (by kernel_rfl) (by kernel_rfl) (by kernel_rfl) (fun _ _ _ h => h) (Or.inl ⟨by rfl, ?_⟩) hHeld ?_
    rotate_left
    · intro ww hSw
      (try dsimp only at hSw)
      go_simp
      (try with_reducible rfl)
    simp only [Act.put, List.setIfInBounds_toArray, List.set_cons_zero, List.set_cons_succ]
    refine wpAnyH_take (i := 2) (oi := ⟨some 16, _, _, _, _, _⟩) (v := ?_) rfl (by kernel_rfl) (by kernel_rfl) (by kernel_rfl) (fun _ _ _ h => h) (Or.inl ⟨by rfl, ?_⟩) hHeld ?_
    rotate_left
    · intro ww hSw
      (try dsimp only at hSw)
      go_simp
      (try with_reducible rfl)
    simp only [Act.put, List.setIfInBounds_toArray, List.set_cons_zero, List.set_cons_succ]
    refine wpAnyH_take (i := 3) (oi := ⟨some 17, _, _, _, _, _⟩) (v := ?_) rfl (by kernel_rfl) (by kernel_rfl) (by kernel_rfl) (fun _ _ _ h => h) (Or.inl ⟨by rfl, ?_⟩) hHeld ?_
    rotate_left
    · intro ww hSw
      (try dsimp only at hSw)
      go_simp
      (try with_reducible rfl)
    simp only [Act.put, List.setIfInBounds_toArray, List.set_cons_zero, List.set_cons_succ]
    refine wpAnyH_take (i := 4) (oi := ⟨some 18, _, _, _, _, _⟩) (v := ?_) rfl (by kernel_rfl) (by kernel_rfl) (by kernel_rfl) (fun _ _ _ h => h) (Or.inl ⟨by rfl, ?_⟩) hHeld ?_
    rotate_left
    · intro ww hSw
      (try dsimp only at hSw)
      go_simp
      (try with_reducible rfl)
    simp only [Act.put, List.setIfInBounds_toArray, List.set_cons_zero, List.set_cons_succ]
    refine wpAnyH_ready (rs := [5]) (by kernel_rfl) (by simp) ?_
    refine AllReadyH.cons (o := ⟨some 19, _, _, _, _, _⟩) rfl (fun K hK => ?_) AllReadyH.nil
    go_simp
    go_at_call 63
    refine (HC1.out _ (hk1.on (Kept.of_below (below_drew (Below.refl _ _)) HW1.out.low)) (HW1.out.keep (below_drew (Below.refl _ _)))).mono ?_
    rintro e_r w2 ⟨rfl, hk2, hw2⟩
    go_wp2_with fail
    refine hK.out _ _ ?_ (fun hHeld => ?_)
    · (try dsimp only)
      exact (hk1.on (Kept.of_below (below_drew (Below.refl _ _)) HW1.out.low)).on hk2
    clear hK K
    (try simp only [Act.put, List.setIfInBounds_toArray, List.set_cons_zero, List.set_cons_succ])
    refine wpAnyH_done (by kernel_rfl) ?_ _
    refine NoPanic.normal ?_
    replace hk2 := (hk1.on (Kept.of_below (below_drew (Below.refl _ _)) HW1.out.low)).on hk2
    have e2 := parts_step s.parts 1 (by simp [SetP.parts])
    have HW2 : Hid (WPen F g (s.parts.take 2).flatten w2) := by
      rw [← e2]
      exact hw2
    clear hw2 e2 HC1
    go_wp2_with fail
    refine wp_region_noPanic ?_
    refine wp_region_held_drew (S := fun w' => Kept F wc w') (by kernel_rfl) (hk2.on (Kept.of_below (below_drew (Below.refl _ _)) HW2.out.low)) (fun hHeld => ?_)
    refine wpAnyH_take (i := 0) (oi := ⟨some 20, _, _, _, _, _⟩) (v := .func (.func 62) #[] #[.pointer (some ⟨p4, 0, none⟩)]) rfl (by kernel_rfl) (by kernel_rfl) (by kernel_rfl) (fun _ _ _ h => h) (Or.inl ⟨by rfl, ?_⟩) hHeld ?_
    · intro ww hSw
      (try dsimp only at hSw)
      have hcl := (cell_kept hSw (p := ⟨p5, 0, none⟩) hF5).trans (Q5.out.cell 0 rfl)
      have hcs := cell_lt hcl
      go_simp
    simp only [Act.put, List.setIfInBounds_toArray, List.set_cons_zero, List.set_cons_succ]
    refine wpAnyH_take (i := 1) (oi := ⟨some 21, _, _, _, _, _⟩) (v := ?_) rfl (by kernel_rfl) (by kernel_rfl) (by kernel_rfl) (fun _ _ _ h => h) (Or.inl ⟨by rfl, ?_⟩) hHeld ?_
    rotate_left
    · intro ww hSw
      (try dsimp only at hSw)
      go_simp
      (try with_reducible rfl)
    simp only [Act.put, List.setIfInBounds_toArray, List.set_cons_zero, List.set_cons_succ]
    refine wpAnyH_take (i := 2) (oi := ⟨some 22, _, _, _, _, _⟩) (v := ?_) rfl (by kernel_rfl) (by kernel_rfl) (by kernel_rfl) (fun _ _ _ h => h) (Or.inl ⟨by rfl, ?_⟩) hHeld ?_
    rotate_left
    · intro ww hSw
      (try dsimp only at hSw)
      go_simp
      (try with_reducible rfl)
    simp only [Act.put, List.setIfInBounds_toArray, List.set_cons_zero, List.set_cons_succ]
    refine wpAnyH_take (i := 3) (oi := ⟨some 23, _, _, _, _, _⟩) (v := ?_) rfl (by kernel_rfl) (by kernel_rfl) (by kernel_rfl) (fun _ _ _ h => h) (Or.inl ⟨by rfl, ?_⟩) hHeld ?_
    rotate_left
    · intro ww hSw
      (try dsimp only at hSw)
      go_simp
      (try with_reducible rfl)
    simp only [Act.put, List.setIfInBounds_toArray, List.set_cons_zero, List.set_cons_succ]
    refine wpAnyH_ready (rs := [4]) (by kernel_rfl) (by simp) ?_
    refine AllReadyH.cons (o := ⟨some 24, _, _, _, _, _⟩) rfl (fun K hK => ?_) AllReadyH.nil
    go_simp
    go_at_call 62
    refine (HC2.out _ (hk2.on (Kept.of_below (below_drew (Below.refl _ _)) HW2.out.low)) (HW2.out.keep (below_drew (Below.refl _ _)))).mono ?_
    rintro e_r w3 ⟨rfl, hk3, hw3⟩
    go_wp2_with fail
    refine hK.out _ _ ?_ (fun hHeld => ?_)
    · (try dsimp only)
      exact (hk2.on (Kept.of_below (below_drew (Below.refl _ _)) HW2.out.low)).on hk3
    clear hK K
    (try simp only [Act.put, List.setIfInBounds_toArray, List.set_cons_zero, List.set_cons_succ])
    refine wpAnyH_done (by kernel_rfl) ?_ _
    refine NoPanic.normal ?_
    replace hk3 := (hk2.on (Kept.of_below (below_drew (Below.refl _ _)) HW2.out.low)).on hk3
    have e3 := parts_step s.parts 2 (by simp [SetP.parts])
    have HW3 : Hid (WPen F g (s.parts.take 3).flatten w3) := by
      rw [← e3]
      exact hw3
    clear hw3 e3 HC2
    go_wp2_with fail
    refine wp_region_noPanic ?_
    refine wp_region_held_drew (S := fun w' => Kept F wc w') (by kernel_rfl) (hk3.on (Kept.of_below (below_drew (Below.refl _ _)) HW3.out.low)) (fun hHeld => ?_)
    refine wpAnyH_take (i := 0) (oi := ⟨some 25, _, _, _, _, _⟩) (v := .iface 61 (.pointer (some ⟨g, 0, none⟩))) rfl (by kernel_rfl) (by kernel_rfl) (by kernel_rfl) (fun _ _ _ h => h) (Or.inl ⟨by rfl, ?_⟩) hHeld ?_
    · intro ww hSw
      (try dsimp only at hSw)
      have hcl := (cell_kept hSw (p := ⟨p2, 0, none⟩) hF2).trans (Q2.out.cell 0 rfl)
      have hcs := cell_lt hcl
      go_simp
    simp only [Act.put, List.setIfInBounds_toArray, List.set_cons_zero, List.set_cons_succ]
    refine wpAnyH_take (i := 1) (oi := ⟨some 26, _, _, _, _, _⟩) (v := ?_) rfl (by kernel_rfl) (by kernel_rfl) (by kernel_rfl) (fun _ _ _ h => h) (Or.inl ⟨by rfl, ?_⟩) hHeld ?_
    rotate_left
    · intro ww hSw
      (try dsimp only at hSw)
      go_simp
      (try with_reducible rfl)
    simp only [Act.put, List.setIfInBounds_toArray, List.set_cons_zero, List.set_cons_succ]
    refine wpAnyH_take (i := 2) (oi := ⟨some 27, _, _, _, _, _⟩) (v := ?_) rfl (by kernel_rfl) (by kernel_rfl) (by kernel_rfl) (fun _ _ _ h => h) (Or.inl ⟨by rfl, ?_⟩) hHeld ?_
    rotate_left
    · intro ww hSw
      (try dsimp only at hSw)
      go_simp
      (try with_reducible rfl)
    simp only [Act.put, List.setIfInBounds_toArray, List.set_cons_zero, List.set_cons_succ]
    refine wpAnyH_take (i := 3) (oi := ⟨some 28, _, _, _, _, _⟩) (v := ?_) rfl (by kernel_rfl) (by kernel_rfl) (by kernel_rfl) (fun _ _ _ h => h) (Or.inl ⟨by rfl, ?_⟩) hHeld ?_
    rotate_left
    · intro ww hSw
      (try dsimp only at hSw)
      go_simp
      (try with_reducible rfl)
    simp only [Act.put, List.setIfInBounds_toArray, List.set_cons_zero, List.set_cons_succ]
    refine wpAnyH_take (i := 4) (oi := ⟨some 29, _, _, _, _, _⟩) (v := ?_) rfl (by kernel_rfl) (by kernel_rfl) (by kernel_rfl) (fun _ _ _ h => h) (Or.inl ⟨by rfl, ?_⟩) hHeld ?_
    rotate_left
    · intro ww hSw
      (try dsimp only at hSw)
      go_simp
      (try with_reducible rfl)
    simp only [Act.put, List.setIfInBounds_toArray, List.set_cons_zero, List.set_cons_succ]
    refine wpAnyH_ready (rs := [5]) (by kernel_rfl) (by simp) ?_
    refine AllReadyH.cons (o := ⟨some 30, _, _, _, _, _⟩) rfl (fun K hK => ?_) AllReadyH.nil
    go_simp
    go_at_call 65
    refine (HC3.out _ (hk3.on (Kept.of_below (below_drew (Below.refl _ _)) HW3.out.low)) (HW3.out.keep (below_drew (Below.refl _ _)))).mono ?_
    rintro e_r w4 ⟨rfl, hk4, hw4⟩
    go_wp2_with fail
    refine hK.out _ _ ?_ (fun hHeld => ?_)
    · (try dsimp only)
      exact (hk3.on (Kept.of_below (below_drew (Below.refl _ _)) HW3.out.low)).on hk4
    clear hK K
    (try simp only [Act.put, List.setIfInBounds_toArray, List.set_cons_zero, List.set_cons_succ])
    refine wpAnyH_done (by kernel_rfl) ?_ _
    refine NoPanic.normal ?_
    replace hk4 := (hk3.on (Kept.of_below (below_drew (Below.refl _ _)) HW3.out.low)).on hk4
    have e4 := parts_step s.parts 3 (by simp [SetP.parts])
    have HW4 : Hid (WPen F g (s.parts.take 4).flatten w4) := by
      rw [← e4]
      exact hw4
    clear hw4 e4 HC3
    go_wp2_with fail
    refine wp_region_noPanic ?_
    refine wp_region_held_drew (S := fun w' => Kept F wc w') (by kernel_rfl) (hk4.on (Kept.of_below (below_drew (Below.refl _ _)) HW4.out.low)) (fun hHeld => ?_)
    refine wpAnyH_take (i := 0) (oi := ⟨some 31, _, _, _, _, _⟩) (v := .iface 61 (.pointer (some ⟨g, 0, none⟩))) rfl (by kernel_rfl) (by kernel_rfl) (by kernel_rfl) (fun _ _ _ h => h) (Or.inl ⟨by rfl, ?_⟩) hHeld ?_
    · intro ww hSw
      (try dsimp only at hSw)
      have hcl := (cell_kept hSw (p := ⟨p2, 0, none⟩) hF2).trans (Q2.out.cell 0 rfl)
      have hcs := cell_lt hcl
      go_simp
    simp only [Act.put, List.setIfInBounds_toArray, List.set_cons_zero, List.set_cons_succ]
    refine wpAnyH_take (i := 1) (oi := ⟨some 32, _, _, _, _, _⟩) (v := ?_) rfl (by kernel_rfl) (by kernel_rfl) (by kernel_rfl) (fun _ _ _ h => h) (Or.inl ⟨by rfl, ?_⟩) hHeld ?_
    rotate_left
    · intro ww hSw
      (try dsimp only at hSw)
      go_simp
      (try with_reducible rfl)
    simp only [Act.put, List.setIfInBounds_toArray, List.set_cons_zero, List.set_cons_succ]
    refine wpAnyH_take (i := 2) (oi := ⟨some 33, _, _, _, _, _⟩) (v := ?_) rfl (by kernel_rfl) (by kernel_rfl) (by kernel_rfl) (fun _ _ _ h => h) (Or.inl ⟨by rfl, ?_⟩) hHeld ?_
    rotate_left
    · intro ww hSw
      (try dsimp only at hSw)
      go_simp
      (try with_reducible rfl)
    simp only [Act.put, List.setIfInBounds_toArray, List.set_cons_zero, List.set_cons_succ]
    refine wpAnyH_take (i := 3) (oi := ⟨some 34, _, _, _, _, _⟩) (v := ?_) rfl (by kernel_rfl) (by kernel_rfl) (by kernel_rfl) (fun _ _ _ h => h) (Or.inl ⟨by rfl, ?_⟩) hHeld ?_
    rotate_left
    · intro ww hSw
      (try dsimp only at hSw)
      go_simp
      (try with_reducible rfl)
    simp only [Act.put, List.setIfInBounds_toArray, List.set_cons_zero, List.set_cons_succ]
    refine wpAnyH_take (i := 4) (oi := ⟨some 35, _, _, _, _, _⟩) (v := .func (.func 62) #[] #[.pointer (some ⟨p4, 0, none⟩)]) rfl (by kernel_rfl) (by kernel_rfl) (by kernel_rfl) (fun _ _ _ h => h) (Or.inl ⟨by rfl, ?_⟩) hHeld ?_
    · intro ww hSw
      (try dsimp only at hSw)
      have hcl := (cell_kept hSw (p := ⟨p5, 0, none⟩) hF5).trans (Q5.out.cell 0 rfl)
      have hcs := cell_lt hcl
      go_simp
    simp only [Act.put, List.setIfInBounds_toArray, List.set_cons_zero, List.set_cons_succ]
    refine wpAnyH_ready (rs := [5]) (by kernel_rfl) (by simp) ?_
    refine AllReadyH.cons (o := ⟨some 36, _, _, _, _, _⟩) rfl (fun K hK => ?_) AllReadyH.nil
    go_simp
    go_at_call 67
    refine (HC4.out _ (hk4.on (Kept.of_below (below_drew (Below.refl _ _)) HW4.out.low)) (HW4.out.keep (below_drew (Below.refl _ _)))).mono ?_
    rintro e_r w5 ⟨rfl, hk5, hw5⟩
    go_wp2_with fail
    refine hK.out _ _ ?_ (fun hHeld => ?_)
    · (try dsimp only)
      exact (hk4.on (Kept.of_below (below_drew (Below.refl _ _)) HW4.out.low)).on hk5
    clear hK K
    (try simp only [Act.put, List.setIfInBounds_toArray, List.set_cons_zero, List.set_cons_succ])
    refine wpAnyH_done (by kernel_rfl) ?_ _
    refine NoPanic.normal ?_
    replace hk5 := (hk4.on (Kept.of_below (below_drew (Below.refl _ _)) HW4.out.low)).on hk5
    have e5 := parts_step s.parts 4 (by simp [SetP.parts])
    have HW5 : Hid (WPen F g (s.parts.take 5).flatten w5) := by
      rw [← e5]
      exact hw5
    clear hw5 e5 HC4
    go_wp2_with fail
    refine wp_region_noPanic ?_
    refine wp_region_held_drew (S := fun w' => Kept F wc w') (by kernel_rfl) (hk5.on (Kept.of_below (below_drew (Below.refl _ _)) HW5.out.low)) (fun hHeld => ?_)
    refine wpAnyH_take (i := 0) (oi := ⟨some 37, _, _, _, _, _⟩) (v := .iface 61 (.pointer (some ⟨g, 0, none⟩))) rfl (by kernel_rfl) (by kernel_rfl) (by kernel_rfl) (fun _ _ _ h => h) (Or.inl ⟨by rfl, ?_⟩) hHeld ?_
    · intro ww hSw
      (try dsimp only at hSw)
      have hcl := (cell_kept hSw (p := ⟨p2, 0, none⟩) hF2).trans (Q2.out.cell 0 rfl)
      have hcs := cell_lt hcl
      go_simp
    simp only [Act.put, List.setIfInBounds_toArray, List.set_cons_zero, List.set_cons_succ]
    refine wpAnyH_take (i := 1) (oi := ⟨some 38, _, _, _, _, _⟩) (v := ?_) rfl (by kernel_rfl) (by kernel_rfl) (by kernel_rfl) (fun _ _ _ h => h) (Or.inl ⟨by rfl, ?_⟩) hHeld ?_
    rotate_left
    · intro ww hSw
      (try dsimp only at hSw)
      go_simp
      (try with_reducible rfl)
    simp only [Act.put, List.setIfInBounds_toArray, List.set_cons_zero, List.set_cons_succ]
    refine wpAnyH_take (i := 2) (oi := ⟨some 39, _, _, _, _, _⟩) (v := ?_) rfl (by kernel_rfl) (by kernel_rfl) (by kernel_rfl) (fun _ _ _ h => h) (Or.inl ⟨by rfl, ?_⟩) hHeld ?_
    rotate_left
    · intro ww hSw
      (try dsimp only at hSw)
      go_simp
      (try with_reducible rfl)
    simp only [Act.put, List.setIfInBounds_toArray, List.set_cons_zero, List.set_cons_succ]
    refine wpAnyH_take (i := 3) (oi := ⟨some 40, _, _, _, _, _⟩) (v := ?_) rfl (by kernel_rfl) (by kernel_rfl) (by kernel_rfl) (fun _ _ _ h => h) (Or.inl ⟨by rfl, ?_⟩) hHeld ?_
    rotate_left
    · intro ww hSw
      (try dsimp only at hSw)
      go_simp
      (try with_reducible rfl)
    simp only [Act.put, List.setIfInBounds_toArray, List.set_cons_zero, List.set_cons_succ]
    refine wpAnyH_take (i := 4) (oi := ⟨some 41, _, _, _, _, _⟩) (v := .func (.func 62) #[] #[.pointer (some ⟨p4, 0, none⟩)]) rfl (by kernel_rfl) (by kernel_rfl) (by kernel_rfl) (fun _ _ _ h => h) (Or.inl ⟨by rfl, ?_⟩) hHeld ?_
    · intro ww hSw
      (try dsimp only at hSw)
      have hcl := (cell_kept hSw (p := ⟨p5, 0, none⟩) hF5).trans (Q5.out.cell 0 rfl)
      have hcs := cell_lt hcl
      go_simp
    simp only [Act.put, List.setIfInBounds_toArray, List.set_cons_zero, List.set_cons_succ]
    refine wpAnyH_ready (rs := [5]) (by kernel_rfl) (by simp) ?_
    refine AllReadyH.cons (o := ⟨some 42, _, _, _, _, _⟩) rfl (fun K hK => ?_) AllReadyH.nil
    go_simp
    go_at_call 67
    refine (HC5.out _ (hk5.on (Kept.of_below (below_drew (Below.refl _ _)) HW5.out.low)) (HW5.out.keep (below_drew (Below.refl _ _)))).mono ?_
    rintro e_r w6 ⟨rfl, hk6, hw6⟩
    go_wp2_with fail
    refine hK.out _ _ ?_ (fun hHeld => ?_)
    · (try dsimp only)
      exact (hk5.on (Kept.of_below (below_drew (Below.refl _ _)) HW5.out.low)).on hk6
    clear hK K
    (try simp only [Act.put, List.setIfInBounds_toArray, List.set_cons_zero, List.set_cons_succ])
    refine wpAnyH_done (by kernel_rfl) ?_ _
    refine NoPanic.normal ?_
    replace hk6 := (hk5.on (Kept.of_below (below_drew (Below.refl _ _)) HW5.out.low)).on hk6
    have e6 := parts_step s.parts 5 (by simp [SetP.parts])
    have HW6 : Hid (WPen F g (s.parts.take 6).flatten w6) := by
      rw [← e6]
      exact hw6
    clear hw6 e6 HC5
    go_wp2_with fail
    refine wp_region_noPanic ?_
    refine wp_region_held_drew (S := fun w' => Kept F wc w') (by kernel_rfl) (hk6.on (Kept.of_below (below_drew (Below.refl _ _)) HW6.out.low)) (fun hHeld => ?_)
    refine wpAnyH_take (i := 0) (oi := ⟨some 43, _, _, _, _, _⟩) (v := .func (.func 61) #[] #[.pointer (some ⟨p2, 0, none⟩)]) rfl (by kernel_rfl) (by kernel_rfl) (by kernel_rfl) (fun _ _ _ h => h) (Or.inl ⟨by rfl, ?_⟩) hHeld ?_
    · intro ww hSw
      (try dsimp only at hSw)
      have hcl := (cell_kept hSw (p := ⟨p4, 0, none⟩) hF4).trans (Q4.out.cell 0 rfl)
      have hcs := cell_lt hcl
      go_simp
    simp only [Act.put, List.setIfInBounds_toArray, List.set_cons_zero, List.set_cons_succ]
    refine wpAnyH_take (i := 1) (oi := ⟨some 44, _, _, _, _, _⟩) (v := ?_) rfl (by kernel_rfl) (by kernel_rfl) (by kernel_rfl) (fun _ _ _ h => h) (Or.inl ⟨by rfl, ?_⟩) hHeld ?_
    rotate_left
    · intro ww hSw
      (try dsimp only at hSw)
      go_simp
      (try with_reducible rfl)
    simp only [Act.put, List.setIfInBounds_toArray, List.set_cons_zero, List.set_cons_succ]
    refine wpAnyH_take (i := 2) (oi := ⟨some 45, _, _, _, _, _⟩) (v := ?_) rfl (by kernel_rfl) (by kernel_rfl) (by kernel_rfl) (fun _ _ _ h => h) (Or.inl ⟨by rfl, ?_⟩) hHeld ?_
    rotate_left
    · intro ww hSw
      (try dsimp only at hSw)
      go_simp
      (try with_reducible rfl)
    simp only [Act.put, List.setIfInBounds_toArray, List.set_cons_zero, List.set_cons_succ]
    refine wpAnyH_take (i := 3) (oi := ⟨some 46, _, _, _, _, _⟩) (v := ?_) rfl (by kernel_rfl) (by kernel_rfl) (by kernel_rfl) (fun _ _ _ h => h) (Or.inl ⟨by rfl, ?_⟩) hHeld ?_
    rotate_left
    · intro ww hSw
      (try dsimp only at hSw)
      go_simp
      (try with_reducible rfl)
    simp only [Act.put, List.setIfInBounds_toArray, List.set_cons_zero, List.set_cons_succ]
    refine wpAnyH_take (i := 4) (oi := ⟨some 47, _, _, _, _, _⟩) (v := ?_) rfl (by kernel_rfl) (by kernel_rfl) (by kernel_rfl) (fun _ _ _ h => h) (Or.inl ⟨by rfl, ?_⟩) hHeld ?_
    rotate_left
    · intro ww hSw
      (try dsimp only at hSw)
      go_simp
      (try with_reducible rfl)
    simp only [Act.put, List.setIfInBounds_toArray, List.set_cons_zero, List.set_cons_succ]
    refine wpAnyH_take (i := 5) (oi := ⟨some 48, _, _, _, _, _⟩) (v := ?_) rfl (by kernel_rfl) (by kernel_rfl) (by kernel_rfl) (fun _ _ _ h => h) (Or.inl ⟨by rfl, ?_⟩) hHeld ?_
    rotate_left
    · intro ww hSw
      (try dsimp only at hSw)
      go_simp
      (try with_reducible rfl)
    simp only [Act.put, List.setIfInBounds_toArray, List.set_cons_zero, List.set_cons_succ]
    refine wpAnyH_take (i := 6) (oi := ⟨some 49, _, _, _, _, _⟩) (v := ?_) rfl (by kernel_rfl) (by kernel_rfl) (by kernel_rfl) (fun _ _ _ h => h) (Or.inl ⟨by rfl, ?_⟩) hHeld ?_
    rotate_left
    · intro ww hSw
      (try dsimp only at hSw)
      go_simp
      (try with_reducible rfl)
    simp only [Act.put, List.setIfInBounds_toArray, List.set_cons_zero, List.set_cons_succ]
    refine wpAnyH_take (i := 7) (oi := ⟨some 50, _, _, _, _, _⟩) (v := ?_) rfl (by kernel_rfl) (by kernel_rfl) (by kernel_rfl) (fun _ _ _ h => h) (Or.inl ⟨by rfl, ?_⟩) hHeld ?_
    rotate_left
    · intro ww hSw
      (try dsimp only at hSw)
      go_simp
      (try with_reducible rfl)
    simp only [Act.put, List.setIfInBounds_toArray, List.set_cons_zero, List.set_cons_succ]
    refine wpAnyH_take (i := 8) (oi := ⟨some 51, _, _, _, _, _⟩) (v := ?_) rfl (by kernel_rfl) (by kernel_rfl) (by kernel_rfl) (fun _ _ _ h => h) (Or.inl ⟨by rfl, ?_⟩) hHeld ?_
    rotate_left
    · intro ww hSw
      (try dsimp only at hSw)
      go_simp
      (try with_reducible rfl)
    simp only [Act.put, List.setIfInBounds_toArray, List.set_cons_zero, List.set_cons_succ]
    refine wpAnyH_take (i := 9) (oi := ⟨some 52, _, _, _, _, _⟩) (v := ?_) rfl (by kernel_rfl) (by kernel_rfl) (by kernel_rfl) (fun _ _ _ h => h) (Or.inl ⟨by rfl, ?_⟩) hHeld ?_
    rotate_left
    · intro ww hSw
      (try dsimp only at hSw)
      go_simp
      (try with_reducible rfl)
    simp only [Act.put, List.setIfInBounds_toArray, List.set_cons_zero, List.set_cons_succ]
    refine wpAnyH_take (i := 10) (oi := ⟨some 53, _, _, _, _, _⟩) (v := ?_) rfl (by kernel_rfl) (by kernel_rfl) (by kernel_rfl) (fun _ _ _ h => h) (Or.inl ⟨by rfl, ?_⟩) hHeld ?_
    rotate_left
    · intro ww hSw
      (try dsimp only at hSw)
      go_simp
      (try with_reducible rfl)
    simp only [Act.put, List.setIfInBounds_toArray, List.set_cons_zero, List.set_cons_succ]
    refine wpAnyH_take (i := 11) (oi := ⟨some 54, _, _, _, _, _⟩) (v := ?_) rfl (by kernel_rfl) (by kernel_rfl) (by kernel_rfl) (fun _ _ _ h => h) (Or.inl ⟨by rfl, ?_⟩) hHeld ?_
    rotate_left
    · intro ww hSw
      (try dsimp only at hSw)
      go_simp
      (try with_reducible rfl)
    simp only [Act.put, List.setIfInBounds_toArray, List.set_cons_zero, List.set_cons_succ]
    refine wpAnyH_take (i := 12) (oi := ⟨some 55, _, _, _, _, _⟩) (v := ?_) rfl (by kernel_rfl) (by kernel_rfl) (by kernel_rfl) (fun _ _ _ h => h) (Or.inl ⟨by rfl, ?_⟩) hHeld ?_
    rotate_left
    · intro ww hSw
      (try dsimp only at hSw)
      go_simp
      (try with_reducible rfl)
    simp only [Act.put, List.setIfInBounds_toArray, List.set_cons_zero, List.set_cons_succ]
    refine wpAnyH_take (i := 13) (oi := ⟨some 56, _, _, _, _, _⟩) (v := ?_) rfl (by kernel_rfl) (by kernel_rfl) (by kernel_rfl) (fun _ _ _ h => h) (Or.inl ⟨by rfl, ?_⟩) hHeld ?_
    rotate_left
    · intro ww hSw
      (try dsimp only at hSw)
      go_simp
      (try with_reducible rfl)
    simp only [Act.put, List.setIfInBounds_toArray, List.set_cons_zero, List.set_cons_succ]
    refine wpAnyH_take (i := 14) (oi := ⟨some 57, _, _, _, _, _⟩) (v := ?_) rfl (by kernel_rfl) (by kernel_rfl) (by kernel_rfl) (fun _ _ _ h => h) (Or.inl ⟨by rfl, ?_⟩) hHeld ?_
    rotate_left
    · intro ww hSw
      (try dsimp only at hSw)
      go_simp
      (try with_reducible rfl)
    simp only [Act.put, List.setIfInBounds_toArray, List.set_cons_zero, List.set_cons_succ]
    refine wpAnyH_take (i := 15) (oi := ⟨some 58, _, _, _, _, _⟩) (v := ?_) rfl (by kernel_rfl) (by kernel_rfl) (by kernel_rfl) (fun _ _ _ h => h) (Or.inl ⟨by rfl, ?_⟩) hHeld ?_
    rotate_left
    · intro ww hSw
      (try dsimp only at hSw)
      go_simp
      (try with_reducible rfl)
    simp only [Act.put, List.setIfInBounds_toArray, List.set_cons_zero, List.set_cons_succ]
    refine wpAnyH_take (i := 16) (oi := ⟨some 59, _, _, _, _, _⟩) (v := ?_) rfl (by kernel_rfl) (by kernel_rfl) (by kernel_rfl) (fun _ _ _ h => h) (Or.inl ⟨by rfl, ?_⟩) hHeld ?_
    rotate_left
    · intro ww hSw
      (try dsimp only at hSw)
      go_simp
      (try with_reducible rfl)
    simp only [Act.put, List.setIfInBounds_toArray, List.set_cons_zero, List.set_cons_succ]
    refine wpAnyH_take (i := 17) (oi := ⟨some 60, _, _, _, _, _⟩) (v := ?_) rfl (by kernel_rfl) (by kernel_rfl) (by kernel_rfl) (fun _ _ _ h => h) (Or.inl ⟨by rfl, ?_⟩) hHeld ?_
    rotate_left
    · intro ww hSw
      (try dsimp only at hSw)
      go_simp
      (try with_reducible rfl)
    simp only [Act.put, List.setIfInBounds_toArray, List.set_cons_zero, List.set_cons_succ]
    refine wpAnyH_take (i := 18) (oi := ⟨some 61, _, _, _, _, _⟩) (v := ?_) rfl (by kernel_rfl) (by kernel_rfl) (by kernel_rfl) (fun _ _ _ h => h) (Or.inl ⟨by rfl, ?_⟩) hHeld ?_
    rotate_left
    · intro ww hSw
      (try dsimp only at hSw)
      go_simp
      (try with_reducible rfl)
    simp only [Act.put, List.setIfInBounds_toArray, List.set_cons_zero, List.set_cons_succ]
    refine wpAnyH_take (i := 19) (oi := ⟨some 62, _, _, _, _, _⟩) (v := ?_) rfl (by kernel_rfl) (by kernel_rfl) (by kernel_rfl) (fun _ _ _ h => h) (Or.inl ⟨by rfl, ?_⟩) hHeld ?_
    rotate_left
    · intro ww hSw
      (try dsimp only at hSw)
      go_simp
      (try with_reducible rfl)
    simp only [Act.put, List.setIfInBounds_toArray, List.set_cons_zero, List.set_cons_succ]
    refine wpAnyH_take (i := 20) (oi := ⟨some 63, _, _, _, _, _⟩) (v := ?_) rfl (by kernel_rfl) (by kernel_rfl) (by kernel_rfl) (fun _ _ _ h => h) (Or.inl ⟨by rfl, ?_⟩) hHeld ?_
    rotate_left
    · intro ww hSw
      (try dsimp only at hSw)
      go_simp
      (try with_reducible rfl)
    simp only [Act.put, List.setIfInBounds_toArray, List.set_cons_zero, List.set_cons_succ]
    refine wpAnyH_take (i := 21) (oi := ⟨some 64, _, _, _, _, _⟩) (v := ?_) rfl (by kernel_rfl) (by kernel_rfl) (by kernel_rfl) (fun _ _ _ h => h) (Or.inl ⟨by rfl, ?_⟩) hHeld ?_
    rotate_left
    · intro ww hSw
      (try dsimp only at hSw)
      go_simp
      (try with_reducible rfl)
    simp only [Act.put, List.setIfInBounds_toArray, List.set_cons_zero, List.set_cons_succ]
    refine wpAnyH_take (i := 22) (oi := ⟨some 65, _, _, _, _, _⟩) (v := ?_) rfl (by kernel_rfl) (by kernel_rfl) (by kernel_rfl) (fun _ _ _ h => h) (Or.inl ⟨by rfl, ?_⟩) hHeld ?_
    rotate_left
    · intro ww hSw
      (try dsimp only at hSw)
      go_simp
      (try with_reducible rfl)
    simp only [Act.put, List.setIfInBounds_toArray, List.set_cons_zero, List.set_cons_succ]
    refine wpAnyH_take (i := 23) (oi := ⟨some 66, _, _, _, _, _⟩) (v := ?_) rfl (by kernel_rfl) (by kernel_rfl) (by kernel_rfl) (fun _ _ _ h => h) (Or.inl ⟨by rfl, ?_⟩) hHeld ?_
    rotate_left
    · intro ww hSw
      (try dsimp only at hSw)
      go_simp
      (try with_reducible rfl)
    simp only [Act.put, List.setIfInBounds_toArray, List.set_cons_zero, List.set_cons_succ]
    refine wpAnyH_take (i := 24) (oi := ⟨some 67, _, _, _, _, _⟩) (v := ?_) rfl (by kernel_rfl) (by kernel_rfl) (by kernel_rfl) (fun _ _ _ h => h) (Or.inl ⟨by rfl, ?_⟩) hHeld ?_
    rotate_left
    · intro ww hSw
      (try dsimp only at hSw)
      go_simp
      (try with_reducible rfl)
    simp only [Act.put, List.setIfInBounds_toArray, List.set_cons_zero, List.set_cons_succ]
    refine wpAnyH_take (i := 25) (oi := ⟨some 68, _, _, _, _, _⟩) (v := ?_) rfl (by kernel_rfl) (by kernel_rfl) (by kernel_rfl) (fun _ _ _ h => h) (Or.inl ⟨by rfl, ?_⟩) hHeld ?_
    rotate_left
    · intro ww hSw
      (try dsimp only at hSw)
      go_simp
      (try with_reducible rfl)
    simp only [Act.put, List.setIfInBounds_toArray, List.set_cons_zero, List.set_cons_succ]
    refine wpAnyH_take (i := 26) (oi := ⟨some 69, _, _, _, _, _⟩) (v := ?_) rfl (by kernel_rfl) (by kernel_rfl) (by kernel_rfl) (fun _ _ _ h => h) (Or.inl ⟨by rfl, ?_⟩) hHeld ?_
    rotate_left
    · intro ww hSw
      (try dsimp only at hSw)
      go_simp
      (try with_reducible rfl)
    simp only [Act.put, List.setIfInBounds_toArray, List.set_cons_zero, List.set_cons_succ]
    refine wpAnyH_take (i := 27) (oi := ⟨some 70, _, _, _, _, _⟩) (v := ?_) rfl (by kernel_rfl) (by kernel_rfl) (by kernel_rfl) (fun _ _ _ h => h) (Or.inl ⟨by rfl, ?_⟩) hHeld ?_
    rotate_left
    · intro ww hSw
      (try dsimp only at hSw)
      go_simp
      (try with_reducible rfl)
    simp only [Act.put, List.setIfInBounds_toArray, List.set_cons_zero, List.set_cons_succ]
    refine wpAnyH_take (i := 28) (oi := ⟨some 71, _, _, _, _, _⟩) (v := ?_) rfl (by kernel_rfl) (by kernel_rfl) (by kernel_rfl) (fun _ _ _ h => h) (Or.inl ⟨by rfl, ?_⟩) hHeld ?_
    rotate_left
    · intro ww hSw
      (try dsimp only at hSw)
      go_simp
      (try with_reducible rfl)
    simp only [Act.put, List.setIfInBounds_toArray, List.set_cons_zero, List.set_cons_succ]
    refine wpAnyH_take (i := 29) (oi := ⟨some 72, _, _, _, _, _⟩) (v := ?_) rfl (by kernel_rfl) (by kernel_rfl) (by kernel_rfl) (fun _ _ _ h => h) (Or.inl ⟨by rfl, ?_⟩) hHeld ?_
    rotate_left
    · intro ww hSw
      (try dsimp only at hSw)
      go_simp
      (try with_reducible rfl)
    simp only [Act.put, List.setIfInBounds_toArray, List.set_cons_zero, List.set_cons_succ]
    refine wpAnyH_take (i := 30) (oi := ⟨some 73, _, _, _, _, _⟩) (v := ?_) rfl (by kernel_rfl) (by kernel_rfl) (by kernel_rfl) (fun _ _ _ h => h) (Or.inl ⟨by rfl, ?_⟩) hHeld ?_
    rotate_left
    · intro ww hSw
      (try dsimp only at hSw)
      go_simp
      (try with_reducible rfl)
    simp only [Act.put, List.setIfInBounds_toArray, List.set_cons_zero, List.set_cons_succ]
    refine wpAnyH_take (i := 31) (oi := ⟨some 74, _, _, _, _, _⟩) (v := ?_) rfl (by kernel_rfl) (by kernel_rfl) (by kernel_rfl) (fun _ _ _ h => h) (Or.inl ⟨by rfl, ?_⟩) hHeld ?_
    rotate_left
    · intro ww hSw
      (try dsimp only at hSw)
      go_simp
      (try with_reducible rfl)
    simp only [Act.put, List.setIfInBounds_toArray, List.set_cons_zero, List.set_cons_succ]
    refine wpAnyH_take (i := 32) (oi := ⟨some 75, _, _, _, _, _⟩) (v := ?_) rfl (by kernel_rfl) (by kernel_rfl) (by kernel_rfl) (fun _ _ _ h => h) (Or.inl ⟨by rfl, ?_⟩) hHeld ?_
    rotate_left
    · intro ww hSw
      (try dsimp only at hSw)
      go_simp
      (try with_reducible rfl)
    simp only [Act.put, List.setIfInBounds_toArray, List.set_cons_zero, List.set_cons_succ]
    refine wpAnyH_take (i := 33) (oi := ⟨some 76, _, _, _, _, _⟩) (v := ?_) rfl (by kernel_rfl) (by kernel_rfl) (by kernel_rfl) (fun _ _ _ h => h) (Or.inl ⟨by rfl, ?_⟩) hHeld ?_
    rotate_left
    · intro ww hSw
      (try dsimp only at hSw)
      go_simp
      (try with_reducible rfl)
    simp only [Act.put, List.setIfInBounds_toArray, List.set_cons_zero, List.set_cons_succ]
    refine wpAnyH_ready (rs := [34]) (by kernel_rfl) (by simp) ?_
    refine AllReadyH.cons (o := ⟨some 77, _, _, _, _, _⟩) rfl (fun K hK => ?_) AllReadyH.nil
    go_simp
    refine hK.out _ _ ?_ (fun hHeld => ?_)
    · (try dsimp only)
      exact hHeld.alloc (fun b hb => HW6.out.low b hb) _
    clear hK K
    (try simp only [Act.put, List.setIfInBounds_toArray, List.set_cons_zero, List.set_cons_succ])
    refine wpAnyH_ready (rs := [35]) (by kernel_rfl) (by simp) ?_
    refine AllReadyH.cons (o := ⟨some 78, _, _, _, _, _⟩) rfl (fun K hK => ?_) AllReadyH.nil
    go_simp
    go_at_call 61
    refine (HC6.out _ (hk6.on (Kept.of_below (below_drew (Below.refl _ _)) HW6.out.low)) (HW6.out.keep (below_drew (Below.refl _ _))) _ _ (by intro j hj; rcases (show j = 0 ∨ j = 1 ∨ j = 2 ∨ j = 3 ∨ j = 4 ∨ j = 5 ∨ j = 6 ∨ j = 7 ∨ j = 8 ∨ j = 9 ∨ j = 10 by omega) with rfl | rfl | rfl | rfl | rfl | rfl | rfl | rfl | rfl | rfl | rfl <;> rfl)).mono ?_
    rintro e_r w7 ⟨rfl, hk7, hw7⟩
    go_wp2_with fail
    refine hK.out _ _ ?_ (fun hHeld => ?_)
    · (try dsimp only)
      exact (hk6.on (Kept.of_below (below_drew (Below.refl _ _)) HW6.out.low)).on hk7
    clear hK K
    (try simp only [Act.put, List.setIfInBounds_toArray, List.set_cons_zero, List.set_cons_succ])
    refine wpAnyH_done (by kernel_rfl) ?_ _
    refine NoPanic.normal ?_
    replace hk7 := (hk6.on (Kept.of_below (below_drew (Below.refl _ _)) HW6.out.low)).on hk7
    have e7 := parts_step s.parts 6 (by simp [SetP.parts])
    have HW7 : Hid (WPen F g (s.parts.take 7).flatten w7) := by
      rw [← e7]
      exact hw7
    clear hw7 e7 HC6
    go_wp2_with fail
    refine wp_region_noPanic ?_
    refine wp_region_held_drew (S := fun w' => Kept F wc w') (by kernel_rfl) (hk7.on (Kept.of_below (below_drew (Below.refl _ _)) HW7.out.low)) (fun hHeld => ?_)
    refine wpAnyH_take (i := 0) (oi := ⟨some 79, _, _, _, _, _⟩) (v := .iface 61 (.pointer (some ⟨g, 0, none⟩))) rfl (by kernel_rfl) (by kernel_rfl) (by kernel_rfl) (fun _ _ _ h => h) (Or.inl ⟨by rfl, ?_⟩) hHeld ?_
    · intro ww hSw
      (try dsimp only at hSw)
      have hcl := (cell_kept hSw (p := ⟨p2, 0, none⟩) hF2).trans (Q2.out.cell 0 rfl)
      have hcs := cell_lt hcl
      go_simp
    simp only [Act.put, List.setIfInBounds_toArray, List.set_cons_zero, List.set_cons_succ]
    refine wpAnyH_take (i := 1) (oi := ⟨some 80, _, _, _, _, _⟩) (v := ?_) rfl (by kernel_rfl) (by kernel_rfl) (by kernel_rfl) (fun _ _ _ h => h) (Or.inl ⟨by rfl, ?_⟩) hHeld ?_
    rotate_left
    · intro ww hSw
      (try dsimp only at hSw)
      go_simp
      (try with_reducible rfl)
    simp only [Act.put, List.setIfInBounds_toArray, List.set_cons_zero, List.set_cons_succ]
    refine wpAnyH_take (i := 2) (oi := ⟨some 81, _, _, _, _, _⟩) (v := ?_) rfl (by kernel_rfl) (by kernel_rfl) (by kernel_rfl) (fun _ _ _ h => h) (Or.inl ⟨by rfl, ?_⟩) hHeld ?_
    rotate_left
    · intro ww hSw
      (try dsimp only at hSw)
      go_simp
      (try with_reducible rfl)
    simp only [Act.put, List.setIfInBounds_toArray, List.set_cons_zero, List.set_cons_succ]
    refine wpAnyH_take (i := 3) (oi := ⟨some 82, _, _, _, _, _⟩) (v := ?_) rfl (by kernel_rfl) (by kernel_rfl) (by kernel_rfl) (fun _ _ _ h => h) (Or.inl ⟨by rfl, ?_⟩) hHeld ?_
    rotate_left
    · intro ww hSw
      (try dsimp only at hSw)
      go_simp
      (try with_reducible rfl)
    simp only [Act.put, List.setIfInBounds_toArray, List.set_cons_zero, List.set_cons_succ]
    refine wpAnyH_take (i := 4) (oi := ⟨some 83, _, _, _, _, _⟩) (v := ?_) rfl (by kernel_rfl) (by kernel_rfl) (by kernel_rfl) (fun _ _ _ h => h) (Or.inl ⟨by rfl, ?_⟩) hHeld ?_
    rotate_left
    · intro ww hSw
      (try dsimp only at hSw)
      go_simp
      (try with_reducible rfl)
    simp only [Act.put, List.setIfInBounds_toArray, List.set_cons_zero, List.set_cons_succ]
    refine wpAnyH_ready (rs := [5]) (by kernel_rfl) (by simp) ?_
    refine AllReadyH.cons (o := ⟨some 84, _, _, _, _, _⟩) rfl (fun K hK => ?_) AllReadyH.nil
    go_simp
    go_at_call 68
    refine (HC7.out _ (hk7.on (Kept.of_below (below_drew (Below.refl _ _)) HW7.out.low)) (HW7.out.keep (below_drew (Below.refl _ _)))).mono ?_
    rintro e_r w8 ⟨rfl, hk8, hw8⟩
    go_wp2_with fail
    refine hK.out _ _ ?_ (fun hHeld => ?_)
    · (try dsimp only)
      exact (hk7.on (Kept.of_below (below_drew (Below.refl _ _)) HW7.out.low)).on hk8
    clear hK K
    (try simp only [Act.put, List.setIfInBounds_toArray, List.set_cons_zero, List.set_cons_succ])
    refine wpAnyH_done (by kernel_rfl) ?_ _
    refine NoPanic.normal ?_
    replace hk8 := (hk7.on (Kept.of_below (below_drew (Below.refl _ _)) HW7.out.low)).on hk8
    have e8 := parts_step s.parts 7 (by simp [SetP.parts])
    rw [flat_ones] at hw8
    have HW8 : Hid (WPen F g (s.parts.take 8).flatten w8) := by
      rw [← e8]
      exact hw8
    clear hw8 e8 HC7
    go_wp2_with fail
    refine wp_region_noPanic ?_
    refine wp_region_held_drew (S := fun w' => Kept F wc w') (by kernel_rfl) (hk8.on (Kept.of_below (below_drew (Below.refl _ _)) HW8.out.low)) (fun hHeld => ?_)
    refine wpAnyH_take (i := 0) (oi := ⟨some 85, _, _, _, _, _⟩) (v := .func (.func 61) #[] #[.pointer (some ⟨p2, 0, none⟩)]) rfl (by kernel_rfl) (by kernel_rfl) (by kernel_rfl) (fun _ _ _ h => h) (Or.inl ⟨by rfl, ?_⟩) hHeld ?_
    · intro ww hSw
      (try dsimp only at hSw)
      have hcl := (cell_kept hSw (p := ⟨p4, 0, none⟩) hF4).trans (Q4.out.cell 0 rfl)
      have hcs := cell_lt hcl
      go_simp
    simp only [Act.put, List.setIfInBounds_toArray, List.set_cons_zero, List.set_cons_succ]
    refine wpAnyH_take (i := 1) (oi := ⟨some 86, _, _, _, _, _⟩) (v := ?_) rfl (by kernel_rfl) (by kernel_rfl) (by kernel_rfl) (fun _ _ _ h => h) (Or.inl ⟨by rfl, ?_⟩) hHeld ?_
    rotate_left
    · intro ww hSw
      (try dsimp only at hSw)
      go_simp
      (try with_reducible rfl)
    simp only [Act.put, List.setIfInBounds_toArray, List.set_cons_zero, List.set_cons_succ]
    refine wpAnyH_take (i := 2) (oi := ⟨some 87, _, _, _, _, _⟩) (v := ?_) rfl (by kernel_rfl) (by kernel_rfl) (by kernel_rfl) (fun _ _ _ h => h) (Or.inl ⟨by rfl, ?_⟩) hHeld ?_
    rotate_left
    · intro ww hSw
      (try dsimp only at hSw)
      go_simp
      (try with_reducible rfl)
    simp only [Act.put, List.setIfInBounds_toArray, List.set_cons_zero, List.set_cons_succ]
    refine wpAnyH_take (i := 3) (oi := ⟨some 88, _, _, _, _, _⟩) (v := ?_) rfl (by kernel_rfl) (by kernel_rfl) (by kernel_rfl) (fun _ _ _ h => h) (Or.inl ⟨by rfl, ?_⟩) hHeld ?_
    rotate_left
    · intro ww hSw
      (try dsimp only at hSw)
      go_simp
      (try with_reducible rfl)
    simp only [Act.put, List.setIfInBounds_toArray, List.set_cons_zero, List.set_cons_succ]
    refine wpAnyH_take (i := 4) (oi := ⟨some 89, _, _, _, _, _⟩) (v := ?_) rfl (by kernel_rfl) (by kernel_rfl) (by kernel_rfl) (fun _ _ _ h => h) (Or.inl ⟨by rfl, ?_⟩) hHeld ?_
    rotate_left
    · intro ww hSw
      (try dsimp only at hSw)
      go_simp
      (try with_reducible rfl)
    simp only [Act.put, List.setIfInBounds_toArray, List.set_cons_zero, List.set_cons_succ]
    refine wpAnyH_take (i := 5) (oi := ⟨some 90, _, _, _, _, _⟩) (v := ?_) rfl (by kernel_rfl) (by kernel_rfl) (by kernel_rfl) (fun _ _ _ h => h) (Or.inl ⟨by rfl, ?_⟩) hHeld ?_
    rotate_left
    · intro ww hSw
      (try dsimp only at hSw)
      go_simp
      (try with_reducible rfl)
    simp only [Act.put, List.setIfInBounds_toArray, List.set_cons_zero, List.set_cons_succ]
    refine wpAnyH_take (i := 6) (oi := ⟨some 91, _, _, _, _, _⟩) (v := ?_) rfl (by kernel_rfl) (by kernel_rfl) (by kernel_rfl) (fun _ _ _ h => h) (Or.inl ⟨by rfl, ?_⟩) hHeld ?_
    rotate_left
    · intro ww hSw
      (try dsimp only at hSw)
      go_simp
      (try with_reducible rfl)
    simp only [Act.put, List.setIfInBounds_toArray, List.set_cons_zero, List.set_cons_succ]
    refine wpAnyH_take (i := 7) (oi := ⟨some 92, _, _, _, _, _⟩) (v := ?_) rfl (by kernel_rfl) (by kernel_rfl) (by kernel_rfl) (fun _ _ _ h => h) (Or.inl ⟨by rfl, ?_⟩) hHeld ?_
    rotate_left
    · intro ww hSw
      (try dsimp only at hSw)
      go_simp
      (try with_reducible rfl)
    simp only [Act.put, List.setIfInBounds_toArray, List.set_cons_zero, List.set_cons_succ]
    refine wpAnyH_take (i := 8) (oi := ⟨some 93, _, _, _, _, _⟩) (v := ?_) rfl (by kernel_rfl) (by kernel_rfl) (by kernel_rfl) (fun _ _ _ h => h) (Or.inl ⟨by rfl, ?_⟩) hHeld ?_
    rotate_left
    · intro ww hSw
      (try dsimp only at hSw)
      go_simp
      (try with_reducible rfl)
    simp only [Act.put, List.setIfInBounds_toArray, List.set_cons_zero, List.set_cons_succ]
    refine wpAnyH_take (i := 9) (oi := ⟨some 94, _, _, _, _, _⟩) (v := ?_) rfl (by kernel_rfl) (by kernel_rfl) (by kernel_rfl) (fun _ _ _ h => h) (Or.inl ⟨by rfl, ?_⟩) hHeld ?_
    rotate_left
    · intro ww hSw
      (try dsimp only at hSw)
      go_simp
      (try with_reducible rfl)
    simp only [Act.put, List.setIfInBounds_toArray, List.set_cons_zero, List.set_cons_succ]
    refine wpAnyH_ready (rs := [10]) (by kernel_rfl) (by simp) ?_
    refine AllReadyH.cons (o := ⟨some 95, _, _, _, _, _⟩) rfl (fun K hK => ?_) AllReadyH.nil
    go_simp
    refine hK.out _ _ ?_ (fun hHeld => ?_)
    · (try dsimp only)
      exact hHeld.alloc (fun b hb => HW8.out.low b hb) _
    clear hK K
    (try simp only [Act.put, List.setIfInBounds_toArray, List.set_cons_zero, List.set_cons_succ])
    refine wpAnyH_ready (rs := [11]) (by kernel_rfl) (by simp) ?_
    refine AllReadyH.cons (o := ⟨some 96, _, _, _, _, _⟩) rfl (fun K hK => ?_) AllReadyH.nil
    go_simp
    go_at_call 61
    refine (HC8.out _ (hk8.on (Kept.of_below (below_drew (Below.refl _ _)) HW8.out.low)) (HW8.out.keep (below_drew (Below.refl _ _))) _ _ (by intro j hj; rcases (show j = 0 ∨ j = 1 ∨ j = 2 by omega) with rfl | rfl | rfl <;> rfl)).mono ?_
    rintro e_r w9 ⟨rfl, hk9, hw9⟩
    go_wp2_with fail
    refine hK.out _ _ ?_ (fun hHeld => ?_)
    · (try dsimp only)
      exact (hk8.on (Kept.of_below (below_drew (Below.refl _ _)) HW8.out.low)).on hk9
    clear hK K
    (try simp only [Act.put, List.setIfInBounds_toArray, List.set_cons_zero, List.set_cons_succ])
    refine wpAnyH_done (by kernel_rfl) ?_ _
    refine NoPanic.normal ?_
    replace hk9 := (hk8.on (Kept.of_below (below_drew (Below.refl _ _)) HW8.out.low)).on hk9
    have e9 := parts_step s.parts 8 (by simp [SetP.parts])
    have HW9 : Hid (WPen F g (s.parts.take 9).flatten w9) := by
      rw [← e9]
      exact hw9
    clear hw9 e9 HC8
    go_wp2_with fail
    refine wp_region_noPanic ?_
    refine wp_region_held_drew (S := fun w' => Kept F wc w') (by kernel_rfl) (hk9.on (Kept.of_below (below_drew (Below.refl _ _)) HW9.out.low)) (fun hHeld => ?_)
    refine wpAnyH_take (i := 0) (oi := ⟨some 97, _, _, _, _, _⟩) (v := .iface 61 (.pointer (some ⟨g, 0, none⟩))) rfl (by kernel_rfl) (by kernel_rfl) (by kernel_rfl) (fun _ _ _ h => h) (Or.inl ⟨by rfl, ?_⟩) hHeld ?_
    · intro ww hSw
      (try dsimp only at hSw)
      have hcl := (cell_kept hSw (p := ⟨p2, 0, none⟩) hF2).trans (Q2.out.cell 0 rfl)
      have hcs := cell_lt hcl
      go_simp
    simp only [Act.put, List.setIfInBounds_toArray, List.set_cons_zero, List.set_cons_succ]
    refine wpAnyH_take (i := 1) (oi := ⟨some 98, _, _, _, _, _⟩) (v := ?_) rfl (by kernel_rfl) (by kernel_rfl) (by kernel_rfl) (fun _ _ _ h => h) (Or.inl ⟨by rfl, ?_⟩) hHeld ?_
    rotate_left
    · intro ww hSw
      (try dsimp only at hSw)
      go_simp
      (try with_reducible rfl)
    simp only [Act.put, List.setIfInBounds_toArray, List.set_cons_zero, List.set_cons_succ]
    refine wpAnyH_take (i := 2) (oi := ⟨some 99, _, _, _, _, _⟩) (v := ?_) rfl (by kernel_rfl) (by kernel_rfl) (by kernel_rfl) (fun _ _ _ h => h) (Or.inl ⟨by rfl, ?_⟩) hHeld ?_
    rotate_left
    · intro ww hSw
      (try dsimp only at hSw)
      go_simp
      (try with_reducible rfl)
    simp only [Act.put, List.setIfInBounds_toArray, List.set_cons_zero, List.set_cons_succ]
    refine wpAnyH_take (i := 3) (oi := ⟨some 100, _, _, _, _, _⟩) (v := ?_) rfl (by kernel_rfl) (by kernel_rfl) (by kernel_rfl) (fun _ _ _ h => h) (Or.inl ⟨by rfl, ?_⟩) hHeld ?_
    rotate_left
    · intro ww hSw
      (try dsimp only at hSw)
      go_simp
      (try with_reducible rfl)
    simp only [Act.put, List.setIfInBounds_toArray, List.set_cons_zero, List.set_cons_succ]
    refine wpAnyH_take (i := 4) (oi := ⟨some 101, _, _, _, _, _⟩) (v := ?_) rfl (by kernel_rfl) (by kernel_rfl) (by kernel_rfl) (fun _ _ _ h => h) (Or.inl ⟨by rfl, ?_⟩) hHeld ?_
    rotate_left
    · intro ww hSw
      (try dsimp only at hSw)
      go_simp
      (try with_reducible rfl)
    simp only [Act.put, List.setIfInBounds_toArray, List.set_cons_zero, List.set_cons_succ]
    refine wpAnyH_ready (rs := [5]) (by kernel_rfl) (by simp) ?_
    refine AllReadyH.cons (o := ⟨some 102, _, _, _, _, _⟩) rfl (fun K hK => ?_) AllReadyH.nil
    go_simp
    go_at_call 70
    refine (HC9.out _ (hk9.on (Kept.of_below (below_drew (Below.refl _ _)) HW9.out.low)) (HW9.out.keep (below_drew (Below.refl _ _)))).mono ?_
    rintro e_r w10 ⟨rfl, hk10, hw10⟩
    go_wp2_with fail
    refine hK.out _ _ ?_ (fun hHeld => ?_)
    · (try dsimp only)
      exact (hk9.on (Kept.of_below (below_drew (Below.refl _ _)) HW9.out.low)).on hk10
    clear hK K
    (try simp only [Act.put, List.setIfInBounds_toArray, List.set_cons_zero, List.set_cons_succ])
    refine wpAnyH_done (by kernel_rfl) ?_ _
    refine NoPanic.normal ?_
    replace hk10 := (hk9.on (Kept.of_below (below_drew (Below.refl _ _)) HW9.out.low)).on hk10
    have e10 := parts_step s.parts 9 (by simp [SetP.parts])
    have HW10 : Hid (WPen F g (s.parts.take 10).flatten w10) := by
      rw [← e10]
      exact hw10
    clear hw10 e10 HC9
    refine bodyPost_end (v := .tuple #[]) (by simp [results, Try.results29]) rfl ⟨rfl, (Kept.of_below HBW.out HLO.out).on (hk10.less HFI.out), ?_⟩
    have hfin := HW10.out
    rw [show s.parts.take 10 = s.parts from rfl, parts_bytes] at hfin
    exact hfin.less HFI.out
end Go.Proofs.Ytdhkfhgggkndoaa
