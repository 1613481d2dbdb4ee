/-
  The document's own answers of layer 5 (lumperref05): bytes of numbers.
  The document's own answers of layer 5 (lumperref05): numbers, and texts, taken; numbers put.
  lumperref07: what the document says of money; its Check, and Write.
  lumperref07: Check, and Write.
-/
import Derived.Test.YtdhkfhgggkndoaaPkE
import Derived.Test.YtdhkfhgggkndoaaOrders
import Derived.RegionTactic
import Derived.Test.YtdhkfhgggkndoaaZB
import Derived.Test.YtdhkfhgggkndoaaZC
namespace Go.Proofs.Ytdhkfhgggkndoaa
open Go.RowKit
set_option linter.unusedVariables false
set_option maxRecDepth 20000

theorem rdigits_any (n : Nat) : ∀ (w : World), n < 9223372036854775808 →
    Calls Try.prog 94 #[.int .i64 n] w fun e w' => ∃ A c, e = .returned (.slice A (digs n).length c) ∧ BRow w' w.heap.size A c (bytN (digs n)) ∧ Below w.heap.size w w' := by
  induction n using Nat.strongRecOn with
  | _ n ih =>
    intro w hn
    rcases Nat.eq_zero_or_pos n with rfl | h0
    · rw [digs_zero]
      go_enter Try.func94, Try.ntmps94
      go_wp2
      go_ret
      exact ⟨none, 0, rfl, BRow.nil _ _, Below.refl _ _⟩
    · have hk := digs_step h0
      have h8 := digs_eight hn
      have hsn : bytN (digs n) = bytN (digs (n / 256)) ++ [BitVec.ofNat 8 (n % 256)] := by rw [digs_pos h0]; simp [bytN]
      have HI := Lib.hid (ih (n / 256) (by omega) · (by omega))
      rw [show ((n / 256 : Nat) : Int) = (n : Int) / 256 by omega] at HI
      have hl : (bytN (digs (n / 256))).length = (digs (n / 256)).length := bytN_len _
      rw [hk, hsn]
      have e8 : ((BitVec.ofNat 8 (n % 256)).toNat : Int) = (n : Int) % 256 := by rw [BitVec.toNat_ofNat]; omega
      generalize hD : (digs (n / 256)).length = d at *
      generalize bytN (digs (n / 256)) = D at *
      have hn0 : ((n : Int) == 0) = false := by simp; omega
      have hd9 : d ≤ 9 := by omega
      clear hD hk hsn h8 ih
      go_enter Try.func94, Try.ntmps94
      go_wp2_with fail
      refine (HI.out w).mono ?_
      rintro e w1 ⟨A1, c1, rfl, r1, b1⟩
      obtain ⟨A2, c2, w2, hr2, r2, hbel2, hz2⟩ := brow_push r1 (BitVec.ofNat 8 (n % 256)) (by omega) b1.size (s := w1.heap.size) rfl
      rw [v8, e8, hl] at hr2
      have HR2 := Lib.hid hr2
      clear hr2
      go_wp2_with (at_builtin; refine wpList_append_run HR2.out rfl rfl rfl rfl ?_)
      go_ret
      exact ⟨A2, c2, rfl, r2, hbel2 w (Nat.le_refl _) b1⟩
theorem rone_any (n : Nat) (o : Nat) (w : World) (hn : n < 9223372036854775808) (ho : (oneB n).length = o) :
    Calls Try.prog 72 #[.int .i64 n] w fun e w' => ∃ A c, e = .returned (.slice A o c) ∧ BRow w' w.heap.size A c (oneB n) ∧ Below w.heap.size w w' := by
  have h8 := digs_eight hn
  have HI := Lib.hid (rdigits_any n w hn)
  have hl : (bytN (digs n)).length = (digs n).length := bytN_len _
  have hone : oneB n = [BitVec.ofNat 8 (digs n).length] ++ bytN (digs n) := rfl
  rw [one_len] at ho
  rw [hone]
  generalize (digs n).length = d at *
  generalize bytN (digs n) = D at *
  have e8 : ((BitVec.ofNat 8 d).toNat : Int) = (d : Int) := by rw [BitVec.toNat_ofNat]; omega
  subst ho
  clear hone
  go_enter Try.func72, Try.ntmps72
  go_wp2_with fail
  refine HI.out.mono ?_
  rintro e w1 ⟨A1, c1, rfl, r1, b1⟩
  have r2 : BRow (w1.alloc (.cells #[v8 (BitVec.ofNat 8 d)] 5)) w1.heap.size (some ⟨w1.heap.size, 0, none⟩) 1 [BitVec.ofNat 8 d] := own_new w1 5 1 1 #[v8 (BitVec.ofNat 8 d)] rfl (by decide)
  obtain ⟨A3, c3, w3, hr3, r3, hbel3, _⟩ := brow_append r2 (r1.sl.alloc _) (by rw [hl]; simp; omega) (by simp)
  rw [hl] at hr3
  simp only [List.length_cons, List.length_nil, Nat.zero_add] at hr3
  rw [v8, e8, Nat.add_comm 1 d] at hr3
  have HR3 := Lib.hid hr3
  have b3 := hbel3 w1 (Nat.le_refl _) (bel_alloc (Below.refl _ _) _)
  clear hr3
  go_wp2_with (at_builtin; refine wpList_append_run HR3.out rfl rfl rfl rfl ?_)
  go_ret
  exact ⟨A3, c3, rfl, r3.mono b1.size, bel_on b1 b3⟩
/-- A copy: what '[]byte{}' and an append make. -/
theorem brow_copy (w : World) {B : Option Addr} {m d : Nat} {ys : List (BitVec 8)} (hs : Sl 1 w B m d (bytesV ys)) (hm : m ≤ 10000000000000) :
    ∃ A' c' w', (Builtin.append_ #[31, 31] 31 #[.slice (some ⟨w.heap.size, 0, none⟩) 0 0, .slice B m d]).run Try.prog (w.alloc (.cells #[] 5)) = .ok (.slice A' m c') w' ∧ BRow w' w.heap.size A' c' ys ∧ Below w.heap.size w w' ∧ w.heap.size ≤ w'.heap.size := by
  have ho : BRow (w.alloc (.cells #[] 5)) w.heap.size (some ⟨w.heap.size, 0, none⟩) 0 [] := own_new w 5 1 0 #[] rfl (by decide)
  have hl := hs.blen
  subst hl
  obtain ⟨A', c', w', hr, hrow, hb, hg, _⟩ := brow_append ho (hs.alloc _) (by simp; omega) (by simp)
  rw [List.nil_append] at hrow
  simp only [List.length_nil, Nat.zero_add] at hr
  exact ⟨A', c', w', hr, hrow, hb w (Nat.le_refl _) (bel_alloc (Below.refl _ _) _), by have := hg.size; simp at this; omega⟩
end Go.Proofs.Ytdhkfhgggkndoaa

namespace Go.Proofs.Ytdhkfhgggkndoaa
open Go.RowKit
set_option linter.unusedVariables false
set_option maxRecDepth 20000

theorem wrapi_id {a : Int} (h0 : -9223372036854775808 ≤ a) (h1 : a < 9223372036854775808) : IntKind.i64.wrap a = a := by
  simp [IntKind.wrap, IntKind.bits, IntKind.signed]
  split <;> omega
theorem rtake_nil (A : Option Addr) (c : Nat) (w : World) :
    Calls Try.prog 73 #[.slice A 0 c] w fun e w' => e = .returned (.tuple #[.int .i64 0, .slice none 0 0, .int .i64 50]) ∧ w = w' := by
  go_enter Try.func73, Try.ntmps73
  go_wp2
  go_ret3
  exact ⟨rfl, rfl⟩
theorem rtake_out (b off m c x : Nat) (w : World) (hm : 0 < m) (c0 : w.cell? ⟨b, off, none⟩ = some (.int .u8 x)) (hx : x < 256) (h : 8 < x ∨ (x ≤ 8 ∧ m ≤ x)) :
    Calls Try.prog 73 #[.slice (some ⟨b, off, none⟩) m c] w fun e w' => e = .returned (.tuple #[.int .i64 0, .slice none 0 0, .int .i64 50]) ∧ w = w' := by
  have m0 : ((m : Int) == 0) = false := by simp; omega
  have h' : (8 : Int) < (x : Int) ∨ (¬ (8 : Int) < (x : Int) ∧ (m : Int) ≤ (x : Int)) := by omega
  clear h
  rcases h' with h | ⟨h, h'⟩
  all_goals
    go_enter Try.func73, Try.ntmps73
    go_wp2
    go_ret3
    exact ⟨rfl, rfl⟩
theorem rtake_few (b off m c x y : Nat) (w : World) (c0 : w.cell? ⟨b, off, none⟩ = some (.int .u8 x)) (c1 : w.cell? ⟨b, off + 1, none⟩ = some (.int .u8 y)) (hx : x ≤ 8) (hy : y < 256) (hm : x < m) (h : (x = 8 ∧ 128 ≤ y) ∨ (0 < x ∧ y = 0)) :
    Calls Try.prog 73 #[.slice (some ⟨b, off, none⟩) m c] w fun e w' => e = .returned (.tuple #[.int .i64 0, .slice none 0 0, .int .i64 50]) ∧ w = w' := by
  have m0 : ((m : Int) == 0) = false := by simp; omega
  have g1 : ¬ (8 : Int) < (x : Int) := by omega
  have g2 : ¬ (m : Int) ≤ (x : Int) := by omega
  have g3 : (1 : Int) < (m : Int) := by omega
  rcases Nat.lt_or_ge x 8 with q | q
  · have h' : 0 < x ∧ y = 0 := by omega
    obtain ⟨h1, rfl⟩ := h'
    have e1 : ((x : Int) == 8) = false := by simp; omega
    have e2 : (0 : Int) < (x : Int) := by omega
    clear h
    go_enter Try.func73, Try.ntmps73
    go_wp2
    go_ret3
    exact ⟨rfl, rfl⟩
  · obtain rfl : x = 8 := by omega
    have h' : (128 : Int) ≤ (y : Int) ∨ (¬ (128 : Int) ≤ (y : Int) ∧ (y : Int) = 0) := by omega
    clear h
    rcases h' with h | ⟨h, h'⟩
    · go_enter Try.func73, Try.ntmps73
      go_wp2
      go_ret3
      exact ⟨rfl, rfl⟩
    · obtain rfl : y = 0 := by omega
      clear h h'
      go_enter Try.func73, Try.ntmps73
      go_wp2
      go_ret3
      exact ⟨rfl, rfl⟩
theorem rtake_bad (A : Option Addr) (m c : Nat) (l : List (BitVec 8)) (w : World) (hx : Byts w A l) (hm : l.length = m) (ht : takeB l = none) :
    Calls Try.prog 73 #[.slice A m c] w fun e w' => e = .returned (.tuple #[.int .i64 0, .slice none 0 0, .int .i64 50]) ∧ w = w' := by
  subst hm
  cases l with
  | nil => exact rtake_nil A c w
  | cons x r =>
    obtain ⟨b, off, rfl, c0⟩ := hx 0 (by simp)
    have c0' : w.cell? ⟨b, off, none⟩ = some (.int .u8 x.toNat) := c0
    have hx8 := x.isLt
    rw [takeB] at ht
    by_cases h1 : 8 < x.toNat ∨ r.length < x.toNat
    · exact rtake_out b off _ c x.toNat w (by simp) c0' (by omega) (by rw [List.length_cons]; omega)
    · rw [if_neg h1] at ht
      by_cases h2 : (x.toNat = 8 ∧ 128 ≤ (r.getD 0 0#8).toNat) ∨ (0 < x.toNat ∧ (r.getD 0 0#8).toNat = 0)
      · obtain ⟨b', off', e, c1⟩ := hx 1 (by rw [List.length_cons]; omega)
        injection e with e
        injection e with e1 e2 _
        subst e1 e2
        have c1' : w.cell? ⟨b, off + 1, none⟩ = some (.int .u8 (r.getD 0 0#8).toNat) := c1
        have hy8 := (r.getD 0 0#8).isLt
        exact rtake_few b off _ c x.toNat _ w c0' c1' (by omega) (by omega) (by rw [List.length_cons]; omega) h2
      · rw [if_neg h2] at ht
        cases ht
theorem val_take_le (l : List Nat) : ∀ k j, j ≤ k → valN (l.take j) ≤ valN (l.take k) := by
  intro k
  induction k with
  | zero =>
    intro j hj
    obtain rfl : j = 0 := by omega
    exact Nat.le_refl _
  | succ k ih =>
    intro j hj
    rcases Nat.lt_or_ge j (k + 1) with q | q
    · refine Nat.le_trans (ih j (by omega)) ?_
      rcases Nat.lt_or_ge k l.length with p | p
      · rw [List.take_succ_eq_append_getElem p, valN_snoc]
        omega
      · rw [List.take_of_length_le p, List.take_of_length_le (by omega)]
        exact Nat.le_refl _
    · obtain rfl : j = k + 1 := by omega
      exact Nat.le_refl _
theorem val_take_snoc (r : List (BitVec 8)) (j : Nat) (h : j < r.length) : valN (natsB (r.take (j + 1))) = valN (natsB (r.take j)) * 256 + (r.getD j 0#8).toNat := by
  rw [List.take_succ_eq_append_getElem h, natsB, List.map_append]
  simp only [List.map_cons, List.map_nil]
  rw [valN_snoc]
  simp [natsB, List.getD, h]
set_option maxHeartbeats 1000000 in
theorem rtake_all (A : Option Addr) (m c : Nat) (l t : List (BitVec 8)) (n q : Nat) (w : World) (hx : Sl 1 w A m c (bytesV l)) (hml : m ≤ 1000000000000) (hmc : m ≤ c) (ht : takeB l = some (n, t)) (hq : t.length = q) :
    Calls Try.prog 73 #[.slice A m c] w fun e w' => ∃ A' c', e = .returned (.tuple #[.int .i64 n, .slice A' q c', .int .i64 0]) ∧ (∀ w0, Sl 1 w0 A m c (bytesV l) → Sl 1 w0 A' q c' (bytesV t)) ∧ q ≤ c' ∧ Below w.heap.size w w' := by
  have hm := hx.blen
  cases l with
  | nil => simp [takeB] at ht
  | cons x r =>
    have hby := byts_of_sl hx
    obtain ⟨b, off, rfl, c0⟩ := hby 0 (by simp)
    obtain ⟨hx8, hxr, hv, hn, hd⟩ := take_fits ht
    obtain ⟨hl, _, hdr⟩ := take_lens ht
    rw [one_len, hd] at hl hdr
    have hml2 : m = r.length + 1 := by rw [← hm]; simp
    obtain ⟨A2, hcut, hs2⟩ := cut_from_all hx hmc (x.toNat + 1) (by omega)
    have hq1 : m - (x.toNat + 1) = q := by omega
    have hq2 : q ≤ c - (x.toNat + 1) := by omega
    rw [hdr, hq1] at hs2
    rw [hq1] at hcut
    generalize c - (x.toNat + 1) = c2 at *
    -- the two tests
    have hmy : ∃ (y : Nat), y < 256 ∧ (0 < x.toNat → w.cell? ⟨b, off + 1, none⟩ = some (.int .u8 y)) ∧ (0 < x.toNat → y ≠ 0) ∧ (x.toNat = 8 → y < 128) := by
      refine ⟨(r.getD 0 0#8).toNat, (r.getD 0 0#8).isLt, fun h => ?_, ?_, ?_⟩
      · obtain ⟨b', off', e, c1⟩ := hby 1 (by rw [List.length_cons]; omega)
        injection e with e
        injection e with e1 e2 _
        subst e1 e2
        exact c1
      all_goals
        intro h
        rw [takeB, if_neg (by omega)] at ht
        by_cases h2 : (x.toNat = 8 ∧ 128 ≤ (r.getD 0 0#8).toNat) ∨ (0 < x.toNat ∧ (r.getD 0 0#8).toNat = 0)
        · rw [if_pos h2] at ht; cases ht
        · omega
    obtain ⟨y, hy, c1, hy0, hy8⟩ := hmy
    have HCL : Hid (∀ j, j < x.toNat → w.cell? ⟨b, off + (j + 1), none⟩ = some (v8 (r.getD j 0#8))) := Lib.hid (fun j hj => by
      obtain ⟨b', off', e, cj⟩ := hby (j + 1) (by rw [List.length_cons]; omega)
      injection e with e
      injection e with e1 e2 _
      subst e1 e2
      exact cj)
    have HV := Lib.hid (val_take_snoc r)
    have HLE : Hid (∀ j, j ≤ x.toNat → valN (natsB (r.take j)) ≤ n) := Lib.hid (fun j hj => by
      rw [← hv, natsB, natsB, List.map_take, List.map_take]
      exact val_take_le _ _ _ hj)
    have HF := Lib.hid hv
    have c0' : w.cell? ⟨b, off, none⟩ = some (.int .u8 x.toNat) := c0
    have HXR := Lib.hid hxr
    have g0 : ((m : Int) == 0) = false := by simp; omega
    have hkm : x.toNat < m := by omega
    generalize x.toNat = k at *
    have HC : Hid (∀ w', (Instr.sliceAt 31 (.slice (some ⟨b, off, none⟩) m c) (some (.int .i64 ((k : Int) + 1))) none none).run Try.prog w' = .ok (.slice A2 q c2) w') := Lib.hid hcut
    have HS2 := Lib.hid hs2
    have g1 : ¬ (8 : Int) < (k : Int) := by omega
    have g2 : ¬ (m : Int) ≤ (k : Int) := by omega
    clear hby hx hm hxr hv hd hl hdr hml2 hcut hs2 hq1 ht hq c0 hml
    -- behind the tests
    have main : (P : Prop) → True := fun _ => trivial
    clear main
    rcases Nat.eq_zero_or_pos k with hk0 | hk0
    · have e1 : ((k : Int) == 8) = false := by simp; omega
      have e2 : ¬ (0 : Int) < (k : Int) := by omega
      clear hk0 c1 hy0 hy8
      go_enter Try.func73, Try.ntmps73
      go_wp2
      go_loop [6, 7] (fun a i => ∃ j u : Nat, j ≤ k ∧ i = .int .i64 ((j : Int) + 1) ∧ a = .int .i64 u ∧ u ≤ n ∧ Hid (u = valN (natsB (r.take j)))) (fun _ i => k + 1 - (intOf i).toNat)
      case atStart => exact ⟨0, 0, by omega, rfl, rfl, by omega, Lib.hid rfl⟩
      case round =>
        obtain ⟨j, u, hj, rfl, rfl, hun, hu⟩ := hrel
        by_cases hlt : j < k
        · have hcj := HCL.out j hlt
          have hle := HLE.out (j + 1) hlt
          have hsn := HV.out j (Nat.lt_of_lt_of_le hlt HXR.out)
          rw [← hu.out] at hsn
          rw [hsn] at hle
          have HSN := Lib.hid hsn
          have hz8 := (r.getD j 0#8).isLt
          generalize r.getD j 0#8 = z at *
          have hcj' : w.cell? ⟨b, off + (j + 1), none⟩ = some (.int .u8 z.toNat) := hcj
          clear hcj hsn
          have f1 : (j : Int) + 1 ≤ (k : Int) := by omega
          have f2 : (j : Int) + 1 < (m : Int) := by omega
          have f3 : ((j : Int) + 1).toNat = j + 1 := by omega
          go_wp2
          go_round
          case rel => exact ⟨j + 1, u * 256 + z.toNat, by omega, by go_num, by go_num, by omega, Lib.hid HSN.out.symm⟩
          case measure => simp [intOf]; omega
        · obtain rfl : k = j := by omega
          obtain rfl : u = n := by rw [hu.out]; exact HF.out
          have f1 : ¬ (k : Int) + 1 ≤ (k : Int) := by omega
          go_wp2
          refine wp_region_noPanic ?_
          refine wp_region_held_drew (S := fun w' => Below w.heap.size w w') (by kernel_rfl) (below_drew (Below.refl _ _)) (fun hHeld => ?_)
          refine wpAnyH_take (i := 0) (oi := ⟨some 61, _, _, _, _, _⟩) (v := ?_) rfl (by kernel_rfl) (by kernel_rfl) (by kernel_rfl) (fun _ _ _ h => h) (Or.inl ⟨by rfl, ?_⟩) hHeld ?_
          rotate_left
          · intro ww hSw
            (try dsimp only at hSw)
            go_simp
            (try with_reducible rfl)
          simp only [Act.put, List.setIfInBounds_toArray, List.set_cons_zero, List.set_cons_succ]
          refine wpAnyH_take (i := 1) (oi := ⟨some 62, _, _, _, _, _⟩) (v := ?_) rfl (by kernel_rfl) (by kernel_rfl) (by kernel_rfl) (fun _ _ _ h => h) (Or.inl ⟨by rfl, ?_⟩) hHeld ?_
          rotate_left
          · intro ww hSw
            (try dsimp only at hSw)
            go_simp
            (try with_reducible rfl)
          simp only [Act.put, List.setIfInBounds_toArray, List.set_cons_zero, List.set_cons_succ]
          refine wpAnyH_take (i := 2) (oi := ⟨some 63, _, _, _, _, _⟩) (v := ?_) rfl (by kernel_rfl) (by kernel_rfl) (by kernel_rfl) (fun _ _ _ h => h) (Or.inl ⟨by rfl, ?_⟩) hHeld ?_
          rotate_left
          · intro ww hSw
            (try dsimp only at hSw)
            go_simp
            (try with_reducible rfl)
          simp only [Act.put, List.setIfInBounds_toArray, List.set_cons_zero, List.set_cons_succ]
          refine wpAnyH_take (i := 3) (oi := ⟨some 64, _, _, _, _, _⟩) (v := .int .i64 ((k : Int) + 1)) rfl (by kernel_rfl) (by kernel_rfl) (by kernel_rfl) (fun _ _ _ h => h) (Or.inl ⟨by rfl, ?_⟩) hHeld ?_
          · intro ww hSw
            (try dsimp only at hSw)
            go_simp
            exact wrapi_id (by omega) (by omega)
          simp only [Act.put, List.setIfInBounds_toArray, List.set_cons_zero, List.set_cons_succ]
          refine wpAnyH_take (i := 4) (oi := ⟨some 65, _, _, _, _, _⟩) (v := .slice A2 q c2) rfl (by kernel_rfl) (by kernel_rfl) (by kernel_rfl) (fun _ _ _ h => h) (Or.inl ⟨by rfl, ?_⟩) hHeld ?_
          · intro ww hSw
            (try dsimp only at hSw)
            exact exec_slice_run HC.out rfl rfl rfl rfl rfl
          simp only [Act.put, List.setIfInBounds_toArray, List.set_cons_zero, List.set_cons_succ]
          refine wpAnyH_take (i := 5) (oi := ⟨some 2, _, _, _, _, _⟩) (v := ?_) rfl (by kernel_rfl) (by kernel_rfl) (by kernel_rfl) (fun _ _ _ h => h) (Or.inl ⟨by rfl, ?_⟩) hHeld ?_
          rotate_left
          · intro ww hSw
            (try dsimp only at hSw)
            go_simp
            (try with_reducible rfl)
          simp only [Act.put, List.setIfInBounds_toArray, List.set_cons_zero, List.set_cons_succ]
          refine wpAnyH_take (i := 6) (oi := ⟨some 3, _, _, _, _, _⟩) (v := ?_) rfl (by kernel_rfl) (by kernel_rfl) (by kernel_rfl) (fun _ _ _ h => h) (Or.inl ⟨by rfl, ?_⟩) hHeld ?_
          rotate_left
          · intro ww hSw
            (try dsimp only at hSw)
            go_simp
            (try with_reducible rfl)
          simp only [Act.put, List.setIfInBounds_toArray, List.set_cons_zero, List.set_cons_succ]
          refine wpAnyH_take (i := 7) (oi := ⟨some 4, _, _, _, _, _⟩) (v := ?_) rfl (by kernel_rfl) (by kernel_rfl) (by kernel_rfl) (fun _ _ _ h => h) (Or.inl ⟨by rfl, ?_⟩) hHeld ?_
          rotate_left
          · intro ww hSw
            (try dsimp only at hSw)
            go_simp
            (try with_reducible rfl)
          simp only [Act.put, List.setIfInBounds_toArray, List.set_cons_zero, List.set_cons_succ]
          refine wpAnyH_done (by kernel_rfl) ?_ _
          refine NoPanic.normal ?_
          go_wp2
          go_ret3
          exact ⟨A2, c2, rfl, HS2.out, hq2, below_drew (Below.refl _ _)⟩
    · have c1' := c1 hk0
      have hy0' : ((y : Int) == 0) = false := by have := hy0 hk0; simp; omega
      have e2 : (0 : Int) < (k : Int) := by omega
      have e3 : (1 : Int) < (m : Int) := by omega
      by_cases hk8 : k = 8
      · have hy8' : ¬ (128 : Int) ≤ (y : Int) := by have := hy8 hk8; omega
        have e1 : ((k : Int) == 8) = true := by simp; omega
        clear hk8 hk0 c1 hy0 hy8
        go_enter Try.func73, Try.ntmps73
        go_wp2
        go_loop [6, 7] (fun a i => ∃ j u : Nat, j ≤ k ∧ i = .int .i64 ((j : Int) + 1) ∧ a = .int .i64 u ∧ u ≤ n ∧ Hid (u = valN (natsB (r.take j)))) (fun _ i => k + 1 - (intOf i).toNat)
        case atStart => exact ⟨0, 0, by omega, rfl, rfl, by omega, Lib.hid rfl⟩
        case round =>
          obtain ⟨j, u, hj, rfl, rfl, hun, hu⟩ := hrel
          by_cases hlt : j < k
          · have hcj := HCL.out j hlt
            have hle := HLE.out (j + 1) hlt
            have hsn := HV.out j (Nat.lt_of_lt_of_le hlt HXR.out)
            rw [← hu.out] at hsn
            rw [hsn] at hle
            have HSN := Lib.hid hsn
            have hz8 := (r.getD j 0#8).isLt
            generalize r.getD j 0#8 = z at *
            have hcj' : w.cell? ⟨b, off + (j + 1), none⟩ = some (.int .u8 z.toNat) := hcj
            clear hcj hsn
            have f1 : (j : Int) + 1 ≤ (k : Int) := by omega
            have f2 : (j : Int) + 1 < (m : Int) := by omega
            have f3 : ((j : Int) + 1).toNat = j + 1 := by omega
            go_wp2
            go_round
            case rel => exact ⟨j + 1, u * 256 + z.toNat, by omega, by go_num, by go_num, by omega, Lib.hid HSN.out.symm⟩
            case measure => simp [intOf]; omega
          · obtain rfl : k = j := by omega
            obtain rfl : u = n := by rw [hu.out]; exact HF.out
            have f1 : ¬ (k : Int) + 1 ≤ (k : Int) := by omega
            go_wp2
            refine wp_region_noPanic ?_
            refine wp_region_held_drew (S := fun w' => Below w.heap.size w w') (by kernel_rfl) (below_drew (Below.refl _ _)) (fun hHeld => ?_)
            refine wpAnyH_take (i := 0) (oi := ⟨some 61, _, _, _, _, _⟩) (v := ?_) rfl (by kernel_rfl) (by kernel_rfl) (by kernel_rfl) (fun _ _ _ h => h) (Or.inl ⟨by rfl, ?_⟩) hHeld ?_
            rotate_left
            · intro ww hSw
              (try dsimp only at hSw)
              go_simp
              (try with_reducible rfl)
            simp only [Act.put, List.setIfInBounds_toArray, List.set_cons_zero, List.set_cons_succ]
            refine wpAnyH_take (i := 1) (oi := ⟨some 62, _, _, _, _, _⟩) (v := ?_) rfl (by kernel_rfl) (by kernel_rfl) (by kernel_rfl) (fun _ _ _ h => h) (Or.inl ⟨by rfl, ?_⟩) hHeld ?_
            rotate_left
            · intro ww hSw
              (try dsimp only at hSw)
              go_simp
              (try with_reducible rfl)
            simp only [Act.put, List.setIfInBounds_toArray, List.set_cons_zero, List.set_cons_succ]
            refine wpAnyH_take (i := 2) (oi := ⟨some 63, _, _, _, _, _⟩) (v := ?_) rfl (by kernel_rfl) (by kernel_rfl) (by kernel_rfl) (fun _ _ _ h => h) (Or.inl ⟨by rfl, ?_⟩) hHeld ?_
            rotate_left
            · intro ww hSw
              (try dsimp only at hSw)
              go_simp
              (try with_reducible rfl)
            simp only [Act.put, List.setIfInBounds_toArray, List.set_cons_zero, List.set_cons_succ]
            refine wpAnyH_take (i := 3) (oi := ⟨some 64, _, _, _, _, _⟩) (v := .int .i64 ((k : Int) + 1)) rfl (by kernel_rfl) (by kernel_rfl) (by kernel_rfl) (fun _ _ _ h => h) (Or.inl ⟨by rfl, ?_⟩) hHeld ?_
            · intro ww hSw
              (try dsimp only at hSw)
              go_simp
              exact wrapi_id (by omega) (by omega)
            simp only [Act.put, List.setIfInBounds_toArray, List.set_cons_zero, List.set_cons_succ]
            refine wpAnyH_take (i := 4) (oi := ⟨some 65, _, _, _, _, _⟩) (v := .slice A2 q c2) rfl (by kernel_rfl) (by kernel_rfl) (by kernel_rfl) (fun _ _ _ h => h) (Or.inl ⟨by rfl, ?_⟩) hHeld ?_
            · intro ww hSw
              (try dsimp only at hSw)
              exact exec_slice_run HC.out rfl rfl rfl rfl rfl
            simp only [Act.put, List.setIfInBounds_toArray, List.set_cons_zero, List.set_cons_succ]
            refine wpAnyH_take (i := 5) (oi := ⟨some 2, _, _, _, _, _⟩) (v := ?_) rfl (by kernel_rfl) (by kernel_rfl) (by kernel_rfl) (fun _ _ _ h => h) (Or.inl ⟨by rfl, ?_⟩) hHeld ?_
            rotate_left
            · intro ww hSw
              (try dsimp only at hSw)
              go_simp
              (try with_reducible rfl)
            simp only [Act.put, List.setIfInBounds_toArray, List.set_cons_zero, List.set_cons_succ]
            refine wpAnyH_take (i := 6) (oi := ⟨some 3, _, _, _, _, _⟩) (v := ?_) rfl (by kernel_rfl) (by kernel_rfl) (by kernel_rfl) (fun _ _ _ h => h) (Or.inl ⟨by rfl, ?_⟩) hHeld ?_
            rotate_left
            · intro ww hSw
              (try dsimp only at hSw)
              go_simp
              (try with_reducible rfl)
            simp only [Act.put, List.setIfInBounds_toArray, List.set_cons_zero, List.set_cons_succ]
            refine wpAnyH_take (i := 7) (oi := ⟨some 4, _, _, _, _, _⟩) (v := ?_) rfl (by kernel_rfl) (by kernel_rfl) (by kernel_rfl) (fun _ _ _ h => h) (Or.inl ⟨by rfl, ?_⟩) hHeld ?_
            rotate_left
            · intro ww hSw
              (try dsimp only at hSw)
              go_simp
              (try with_reducible rfl)
            simp only [Act.put, List.setIfInBounds_toArray, List.set_cons_zero, List.set_cons_succ]
            refine wpAnyH_done (by kernel_rfl) ?_ _
            refine NoPanic.normal ?_
            go_wp2
            go_ret3
            exact ⟨A2, c2, rfl, HS2.out, hq2, below_drew (Below.refl _ _)⟩
      · have e1 : ((k : Int) == 8) = false := by simp; omega
        clear hk8 hk0 c1 hy0 hy8
        go_enter Try.func73, Try.ntmps73
        go_wp2
        go_loop [6, 7] (fun a i => ∃ j u : Nat, j ≤ k ∧ i = .int .i64 ((j : Int) + 1) ∧ a = .int .i64 u ∧ u ≤ n ∧ Hid (u = valN (natsB (r.take j)))) (fun _ i => k + 1 - (intOf i).toNat)
        case atStart => exact ⟨0, 0, by omega, rfl, rfl, by omega, Lib.hid rfl⟩
        case round =>
          obtain ⟨j, u, hj, rfl, rfl, hun, hu⟩ := hrel
          by_cases hlt : j < k
          · have hcj := HCL.out j hlt
            have hle := HLE.out (j + 1) hlt
            have hsn := HV.out j (Nat.lt_of_lt_of_le hlt HXR.out)
            rw [← hu.out] at hsn
            rw [hsn] at hle
            have HSN := Lib.hid hsn
            have hz8 := (r.getD j 0#8).isLt
            generalize r.getD j 0#8 = z at *
            have hcj' : w.cell? ⟨b, off + (j + 1), none⟩ = some (.int .u8 z.toNat) := hcj
            clear hcj hsn
            have f1 : (j : Int) + 1 ≤ (k : Int) := by omega
            have f2 : (j : Int) + 1 < (m : Int) := by omega
            have f3 : ((j : Int) + 1).toNat = j + 1 := by omega
            go_wp2
            go_round
            case rel => exact ⟨j + 1, u * 256 + z.toNat, by omega, by go_num, by go_num, by omega, Lib.hid HSN.out.symm⟩
            case measure => simp [intOf]; omega
          · obtain rfl : k = j := by omega
            obtain rfl : u = n := by rw [hu.out]; exact HF.out
            have f1 : ¬ (k : Int) + 1 ≤ (k : Int) := by omega
            go_wp2
            refine wp_region_noPanic ?_
            refine wp_region_held_drew (S := fun w' => Below w.heap.size w w') (by kernel_rfl) (below_drew (Below.refl _ _)) (fun hHeld => ?_)
            refine wpAnyH_take (i := 0) (oi := ⟨some 61, _, _, _, _, _⟩) (v := ?_) rfl (by kernel_rfl) (by kernel_rfl) (by kernel_rfl) (fun _ _ _ h => h) (Or.inl ⟨by rfl, ?_⟩) hHeld ?_
            rotate_left
            · intro ww hSw
              (try dsimp only at hSw)
              go_simp
              (try with_reducible rfl)
            simp only [Act.put, List.setIfInBounds_toArray, List.set_cons_zero, List.set_cons_succ]
            refine wpAnyH_take (i := 1) (oi := ⟨some 62, _, _, _, _, _⟩) (v := ?_) rfl (by kernel_rfl) (by kernel_rfl) (by kernel_rfl) (fun _ _ _ h => h) (Or.inl ⟨by rfl, ?_⟩) hHeld ?_
            rotate_left
            · intro ww hSw
              (try dsimp only at hSw)
              go_simp
              (try with_reducible rfl)
            simp only [Act.put, List.setIfInBounds_toArray, List.set_cons_zero, List.set_cons_succ]
            refine wpAnyH_take (i := 2) (oi := ⟨some 63, _, _, _, _, _⟩) (v := ?_) rfl (by kernel_rfl) (by kernel_rfl) (by kernel_rfl) (fun _ _ _ h => h) (Or.inl ⟨by rfl, ?_⟩) hHeld ?_
            rotate_left
            · intro ww hSw
              (try dsimp only at hSw)
              go_simp
              (try with_reducible rfl)
            simp only [Act.put, List.setIfInBounds_toArray, List.set_cons_zero, List.set_cons_succ]
            refine wpAnyH_take (i := 3) (oi := ⟨some 64, _, _, _, _, _⟩) (v := .int .i64 ((k : Int) + 1)) rfl (by kernel_rfl) (by kernel_rfl) (by kernel_rfl) (fun _ _ _ h => h) (Or.inl ⟨by rfl, ?_⟩) hHeld ?_
            · intro ww hSw
              (try dsimp only at hSw)
              go_simp
              exact wrapi_id (by omega) (by omega)
            simp only [Act.put, List.setIfInBounds_toArray, List.set_cons_zero, List.set_cons_succ]
            refine wpAnyH_take (i := 4) (oi := ⟨some 65, _, _, _, _, _⟩) (v := .slice A2 q c2) rfl (by kernel_rfl) (by kernel_rfl) (by kernel_rfl) (fun _ _ _ h => h) (Or.inl ⟨by rfl, ?_⟩) hHeld ?_
            · intro ww hSw
              (try dsimp only at hSw)
              exact exec_slice_run HC.out rfl rfl rfl rfl rfl
            simp only [Act.put, List.setIfInBounds_toArray, List.set_cons_zero, List.set_cons_succ]
            refine wpAnyH_take (i := 5) (oi := ⟨some 2, _, _, _, _, _⟩) (v := ?_) rfl (by kernel_rfl) (by kernel_rfl) (by kernel_rfl) (fun _ _ _ h => h) (Or.inl ⟨by rfl, ?_⟩) hHeld ?_
            rotate_left
            · intro ww hSw
              (try dsimp only at hSw)
              go_simp
              (try with_reducible rfl)
            simp only [Act.put, List.setIfInBounds_toArray, List.set_cons_zero, List.set_cons_succ]
            refine wpAnyH_take (i := 6) (oi := ⟨some 3, _, _, _, _, _⟩) (v := ?_) rfl (by kernel_rfl) (by kernel_rfl) (by kernel_rfl) (fun _ _ _ h => h) (Or.inl ⟨by rfl, ?_⟩) hHeld ?_
            rotate_left
            · intro ww hSw
              (try dsimp only at hSw)
              go_simp
              (try with_reducible rfl)
            simp only [Act.put, List.setIfInBounds_toArray, List.set_cons_zero, List.set_cons_succ]
            refine wpAnyH_take (i := 7) (oi := ⟨some 4, _, _, _, _, _⟩) (v := ?_) rfl (by kernel_rfl) (by kernel_rfl) (by kernel_rfl) (fun _ _ _ h => h) (Or.inl ⟨by rfl, ?_⟩) hHeld ?_
            rotate_left
            · intro ww hSw
              (try dsimp only at hSw)
              go_simp
              (try with_reducible rfl)
            simp only [Act.put, List.setIfInBounds_toArray, List.set_cons_zero, List.set_cons_succ]
            refine wpAnyH_done (by kernel_rfl) ?_ _
            refine NoPanic.normal ?_
            go_wp2
            go_ret3
            exact ⟨A2, c2, rfl, HS2.out, hq2, below_drew (Below.refl _ _)⟩
theorem rtake_ok (A : Option Addr) (m c : Nat) (l t : List (BitVec 8)) (n q : Nat) (w : World) (hx : Sl 1 w A m c (bytesV l)) (hml : m ≤ 1000000000000) (hmc : m ≤ c) (ht : takeB l = some (n, t)) (hq : t.length = q) :
    Calls Try.prog 73 #[.slice A m c] w fun e w' => ∃ A' c', e = .returned (.tuple #[.int .i64 n, .slice A' q c', .int .i64 0]) ∧ Sl 1 w' A' q c' (bytesV t) ∧ q ≤ c' ∧ Below w.heap.size w w' := by
  refine (rtake_all A m c l t n q w hx hml hmc ht hq).mono ?_
  rintro e w' ⟨A', c', rfl, h, hc, hb⟩
  exact ⟨A', c', rfl, h w' (hx.below hb), hc, hb⟩
set_option maxHeartbeats 400000 in
theorem rput_ok (A : Option Addr) (m c : Nat) (xs : List (BitVec 8)) (B : Option Addr) (k d : Nat) (ns : List Nat) (w : World) (hx : Sl 1 w A m c (bytesV xs)) (hB : Nums w B (ns.map fun n : Nat => (n : Int))) (hk : ns.length = k)
    (hns : ∀ n ∈ ns, n < 9223372036854775808) (hm : m ≤ 1000000000000) (hkl : k ≤ 1000000000000) :
    Calls Try.prog 30 #[.slice A m c, .slice B k d] w fun e w' => ∃ A' c', e = .returned (.tuple #[.slice A' (m + (putB ns).length) c', .int .i64 0]) ∧ BRow w' w.heap.size A' c' (xs ++ putB ns) ∧ Below w.heap.size w w' := by
  subst hk
  have hxl := hx.blen
  have HB := Lib.hid hB
  have HN := Lib.hid hns
  have HM := Lib.hid hxl
  have HPL : Hid (∀ j, (putB (ns.take j)).length ≤ 9 * ns.length) := Lib.hid (fun j => by
    have := put_len_le (ns.take j) (fun n hn => hns n (List.mem_of_mem_take hn))
    rw [List.length_take] at this
    omega)
  have HSN := Lib.hid (put_snoc ns)
  obtain ⟨A1, c1, w1, hr1, r1, b1, hz1⟩ := brow_copy w hx (by omega)
  have HR1 := Lib.hid hr1
  have HW := Lib.hid r1
  clear hB hx hns hxl hr1 r1
  go_enter Try.func30, Try.ntmps30
  go_wp2_with (at_builtin; refine wpList_append_run (o := ⟨some 10, _, _, _, _, _⟩) HR1.out rfl rfl rfl rfl ?_)
  clear HR1
  go_loopw [6, 7] (fun b i wr => ∃ (j : Nat) (A : Option Addr) (c : Nat) (D : List (BitVec 8)) (L : Nat), j ≤ ns.length ∧ i = .int .i64 j ∧ b = .slice A L c ∧ D.length = L ∧ L ≤ m + 9 * ns.length ∧ Hid (D = xs ++ putB (ns.take j)) ∧ BRow wr w.heap.size A c D ∧ Below w.heap.size w wr) (fun _ i _ => ns.length - (intOf i).toNat)
  case atStart => exact ⟨0, A1, c1, xs, m, by omega, rfl, rfl, HM.out, by omega, by simp [putB]; trivial, HW.out, b1⟩
  case round =>
    clear HW b1
    obtain ⟨j, A3, c3, D, L, hj, rfl, rfl, hDl, hL, hD, hrow, hb⟩ := hrel
    by_cases hlt : j < ns.length
    · obtain ⟨b, off, rfl, hc⟩ := (HB.out.below hb) j (by simpa using hlt)
      rw [getD_ints] at hc
      have hs := HSN.out j hlt
      have hl' := HPL.out (j + 1)
      have hn : ns.getD j 0 < 9223372036854775808 := HN.out _ (by simp [List.getD, hlt])
      have hD' : D ++ oneB (ns.getD j 0) = xs ++ putB (ns.take (j + 1)) := by rw [hs, hD.out, List.append_assoc]
      have hDl' : (D ++ oneB (ns.getD j 0)).length = L + (oneB (ns.getD j 0)).length := by rw [List.length_append, hDl]
      have hL' : L + (oneB (ns.getD j 0)).length ≤ m + 9 * ns.length := by rw [← hDl', hD', List.length_append, HM.out]; omega
      have HD' := Lib.hid hD'
      have HL' := Lib.hid hDl'
      clear hs hl' hD' hDl'
      generalize ns.getD j 0 = n at *
      have HI := Lib.hid (rone_any n _ wr hn rfl)
      generalize ho : (oneB n).length = o at *
      have HO := Lib.hid ho
      clear ho
      go_wp2_with fail
      refine HI.out.mono ?_
      rintro e w4 ⟨A4, c4, rfl, r4, b4⟩
      obtain ⟨A5, c5, w5, hr5, r5, hbel5, _⟩ := brow_append (hrow.below b4) (r4.slAt rfl) (by rw [hDl, HO.out]; omega) (Nat.le_trans hb.size b4.size)
      rw [hDl, HO.out] at hr5
      have HR5 := Lib.hid hr5
      clear hr5
      have b5 := hbel5 w (Nat.le_refl _) (bel_on hb b4)
      go_wp2_with (at_builtin; refine wpList_append_run (o := ⟨some 28, _, _, _, _, _⟩) HR5.out rfl rfl rfl rfl ?_)
      go_roundw
      case rel => exact ⟨j + 1, A5, c5, D ++ oneB n, L + o, by omega, by go_num, rfl, HL'.out, hL', HD', r5, b5⟩
      case measure => simp [intOf]; omega
    · obtain rfl : j = ns.length := by omega
      have hDe := hD.out
      rw [List.take_length] at hDe
      subst hDe
      rw [List.length_append, HM.out] at hDl
      subst hDl
      go_wp2
      go_ret2
      exact ⟨A3, c3, rfl, hrow, hb⟩
set_option maxHeartbeats 400000 in
theorem rput_bad (A : Option Addr) (m c : Nat) (xs : List (BitVec 8)) (B : Option Addr) (k d : Nat) (zs : List Int) (w : World) (hx : Sl 1 w A m c (bytesV xs)) (hB : Nums w B zs) (hk : zs.length = k)
    (hzs : ∀ z ∈ zs, z ≤ 9223372036854775807) (hneg : ¬ ∀ z ∈ zs, 0 ≤ z) (hm : m ≤ 1000000000000) (hkl : k ≤ 1000000000000) :
    Calls Try.prog 30 #[.slice A m c, .slice B k d] w fun e w' => e = .returned (.tuple #[.slice none 0 0, .int .i64 50]) ∧ Below w.heap.size w w' := by
  subst hk
  have hxl := hx.blen
  have HB := Lib.hid hB
  have HN := Lib.hid hzs
  have HG := Lib.hid hneg
  have HM := Lib.hid hxl
  obtain ⟨A1, c1, w1, hr1, r1, b1, hz1⟩ := brow_copy w hx (by omega)
  have HR1 := Lib.hid hr1
  have HW := Lib.hid r1
  clear hB hzs hneg hx hxl hr1 r1
  go_enter Try.func30, Try.ntmps30
  go_wp2_with (at_builtin; refine wpList_append_run (o := ⟨some 10, _, _, _, _, _⟩) HR1.out rfl rfl rfl rfl ?_)
  clear HR1
  go_loopw [6, 7] (fun b i wr => ∃ (j : Nat) (A : Option Addr) (c : Nat) (D : List (BitVec 8)) (L : Nat), j ≤ zs.length ∧ i = .int .i64 j ∧ b = .slice A L c ∧ D.length = L ∧ L ≤ m + 9 * j ∧ Hid (∀ z ∈ zs.take j, 0 ≤ z) ∧ BRow wr w.heap.size A c D ∧ Below w.heap.size w wr) (fun _ i _ => zs.length - (intOf i).toNat)
  case atStart => exact ⟨0, A1, c1, xs, m, by omega, rfl, rfl, HM.out, by omega, Lib.hid (fun z hz => by simp at hz), HW.out, b1⟩
  case round =>
    clear HW b1
    obtain ⟨j, A3, c3, D, L, hj, rfl, rfl, hDl, hL, hpos, hrow, hb⟩ := hrel
    by_cases hlt : j < zs.length
    · obtain ⟨b, off, rfl, hc⟩ := (HB.out.below hb) j hlt
      have hn : zs.getD j 0 ≤ 9223372036854775807 := HN.out _ (by simp [List.getD, hlt])
      by_cases h0 : zs.getD j 0 < 0
      · generalize zs.getD j 0 = z at *
        go_wp2
        go_ret2
        exact ⟨rfl, hb⟩
      · have hp : ∀ z ∈ zs.take (j + 1), 0 ≤ z := by
          intro z hz
          rw [List.take_succ_eq_append_getElem hlt, List.mem_append] at hz
          rcases hz with hz | hz
          · exact hpos.out z hz
          · simp at hz
            simp [List.getD, hlt] at h0
            omega
        have HP := Lib.hid hp
        clear hp
        obtain ⟨n, hne⟩ : ∃ n : Nat, zs.getD j 0 = (n : Int) := ⟨(zs.getD j 0).toNat, by omega⟩
        rw [hne] at hc hn h0
        clear hne
        have hn' : n < 9223372036854775808 := by omega
        have h9 : (oneB n).length ≤ 9 := by rw [one_len]; have := digs_eight hn'; omega
        have hDl' : (D ++ oneB n).length = L + (oneB n).length := by rw [List.length_append, hDl]
        have HL' := Lib.hid hDl'
        have HI := Lib.hid (rone_any n _ wr hn' rfl)
        generalize ho : (oneB n).length = o at *
        have HO := Lib.hid ho
        clear ho hDl'
        go_wp2_with fail
        refine HI.out.mono ?_
        rintro e w4 ⟨A4, c4, rfl, r4, b4⟩
        obtain ⟨A5, c5, w5, hr5, r5, hbel5, _⟩ := brow_append (hrow.below b4) (r4.slAt rfl) (by rw [hDl, HO.out]; omega) (Nat.le_trans hb.size b4.size)
        rw [hDl, HO.out] at hr5
        have HR5 := Lib.hid hr5
        clear hr5
        have b5 := hbel5 w (Nat.le_refl _) (bel_on hb b4)
        go_wp2_with (at_builtin; refine wpList_append_run (o := ⟨some 28, _, _, _, _, _⟩) HR5.out rfl rfl rfl rfl ?_)
        go_roundw
        case rel => exact ⟨j + 1, A5, c5, D ++ oneB n, L + o, by omega, by go_num, rfl, HL'.out, by omega, HP, r5, b5⟩
        case measure => simp [intOf]; omega
    · obtain rfl : j = zs.length := by omega
      have := hpos.out
      rw [List.take_length] at this
      exact absurd this HG.out
end Go.Proofs.Ytdhkfhgggkndoaa

namespace Go.Proofs.Ytdhkfhgggkndoaa
open Go.RowKit
set_option linter.unusedVariables false
set_option linter.unusedSimpArgs false
set_option maxRecDepth 20000

def rmoneyP (s : SetP) : Prop := (∀ i, i < s.rates.length → rateP (s.rates.getD i 0)) ∧ (∀ i, i < s.tiers.length → tierP s.tiers i) ∧ (1 ≤ s.rates.length ∧ s.rates.length ≤ 16) ∧ s.tiers.length ≤ 8 ∧ (0 ≤ s.diff ∧ s.diff ≤ 100000) ∧ (0 ≤ s.least ∧ s.least ≤ 100000)
theorem with_no {n a b : Int} (h : withB n a b = false) : ¬ (a ≤ n ∧ n ≤ b) := fun k => by rw [with_iff.2 k] at h; cases h
set_option maxHeartbeats 16000000 in
theorem rmoney_c {w : World} {s : SetP} {cs : Array Value} (h : SetC w s cs) (q : Bool) (hq : q = true ↔ rmoneyP s) :
    Calls Try.prog 46 #[.agg cs] w fun e w' => e = .returned (.bool q) ∧ Below w.heap.size w w' := by
  obtain ⟨A1, A2, A3, A4, A5, A6, c1, c2, c3, c4, c5, c6, h1, h2⟩ := h
  unfold setV at h1
  injection h1 with h1
  subst h1
  have HQ := Lib.hid hq
  have HNO : Hid (¬ rmoneyP s → q = false) := by
    intro h
    cases q with
    | true => exact absurd (hq.1 rfl) h
    | false => rfl
  have HR0 := Lib.hid (nums_of_sl (tab_ints h2.rates))
  have HS := Lib.hid h2.tiers
  have hcap := h2.tiers.cap
  have hmax := h2.tiers.max
  have hcap5 := h2.rates.cap
  have hmax5 := h2.rates.max
  clear h2 hq
  go_enter Try.func46, Try.ntmps46
  go_upto_region 0 with fail
  go_cut [1] (fun v1 wx => ∃ g : Nat, v1 = .pointer (some ⟨g, 0, none⟩) ∧ Hid (Has wx g #[.int .i64 s.places, .slice A1 s.ways.length c1, .int .i64 s.pn, .int .i64 s.pd, .slice A2 s.elements.length c2, .slice A3 s.classes.length c3, .slice A4 s.gears.length c4, .int .i64 s.allow, .int .i64 s.unit, .int .i64 s.cap, .int .i64 s.paid, .int .i64 s.aft, .int .i64 s.brk, .int .i64 s.reg, .int .i64 s.over, .int .i64 s.week, .int .i64 s.nfrom, .int .i64 s.nto, .slice A5 s.rates.length c5, .int .i64 s.diff, .int .i64 s.least, .int .i64 s.fault, .slice A6 s.tiers.length c6] ∧ Below w.heap.size w wx ∧ Tab 2 wx A6 s.tiers.length c6 s.tiers ∧ Nums wx A5 s.rates))
  case first =>
    go_wp2_with fail
    go_meet
    refine ⟨w.heap.size, rfl, Lib.hid ⟨Has.new _ _ _ rfl, bel_alloc (Below.refl _ _) _, HS.out.below (bel_alloc (Below.refl _ _) _), HR0.out.below (bel_alloc (Below.refl _ _) _)⟩⟩
  case rest =>
    obtain ⟨g, rfl, hx⟩ := hcut
    obtain ⟨hB, hbw, hS, hR⟩ := hx.out
    have HB := Lib.hid hB
    have HBW := Lib.hid hbw
    have HT := Lib.hid hS
    have HR := Lib.hid hR
    have hgs := hB.size
    clear hx hB hbw hS HS HR0 hR
    go_wp2
    go_loopw [3] (fun i wr => ∃ (j : Nat), j ≤ s.rates.length ∧ i = .int .i64 j ∧ Hid (∀ k, k < j → rateP (s.rates.getD k 0)) ∧ Below wc.heap.size wc wr) (fun i _ => s.rates.length - (intOf i).toNat)
    case atStart => exact ⟨0, by omega, rfl, Lib.hid (fun k hk => by omega), Below.refl _ _⟩
    case round =>
      obtain ⟨j, hj, rfl, ha, hb⟩ := hrel
      have q18 := (Below.cell hb (p := ⟨g, 18, none⟩) hgs).trans (HB.out.cell 18 rfl)
      have hgs2 := cell_lt q18
      by_cases hlt : j < s.rates.length
      · obtain ⟨bb, oo, rfl, z0⟩ := (HR.out.below hb) j hlt
        have HNX := Lib.hid (fun h => below_next (p := fun k => rateP (s.rates.getD k 0)) ha.out h)
        have HBD : Hid (¬ rateP (s.rates.getD j 0) → ¬ rmoneyP s) := fun h k => h (k.1 j hlt)
        generalize s.rates.getD j 0 = x0 at *
        have e0 : (j : Int) < (s.rates.length : Int) := by omega
        have hs := cell_lt z0
        obtain ⟨q1, hq1⟩ : ∃ q, withB x0 0 100000 = q := ⟨_, rfl⟩
        have HC := Lib.hid (fun wx => rwithin_at x0 0 100000 q1 hq1 wx)
        have HQ1 := Lib.hid hq1
        clear hq1
        go_wp2_with fail
        refine (HC.out _).mono ?_
        rintro e w_ ⟨rfl, rfl⟩
        clear HC
        cases q1
        · have HE := Lib.hid (HNO.out (HBD.out (with_no HQ1.out)))
          go_wp2
          go_ret
          exact ⟨ret_bool HE.out.symm, bel_on HBW.out hb⟩
        · have HA := Lib.hid (HNX.out (with_iff.1 HQ1.out))
          clear HQ1 HNX HBD
          go_wp2
          go_roundw
          case rel => exact ⟨j + 1, by omega, by go_num, HA, hb⟩
          case measure => simp [intOf]; omega
      · obtain rfl : j = s.rates.length := by omega
        have HRA := Lib.hid ha.out
        clear ha hlt hj
        go_wp2
        go_loopw [4] (fun i wx => ∃ (j : Nat), j ≤ s.tiers.length ∧ i = .int .i64 j ∧ Hid (∀ k, k < j → tierP s.tiers k) ∧ Below wc.heap.size wc wx) (fun i _ => s.tiers.length - (intOf i).toNat)
        case atStart => exact ⟨0, by omega, rfl, Lib.hid (fun k hk => by omega), hb⟩
        case round =>
          clear q18 hgs2 hb
          obtain ⟨j, hj, rfl, ha, hb⟩ := hrel
          have p22 := (Below.cell hb (p := ⟨g, 22, none⟩) hgs).trans (HB.out.cell 22 rfl)
          have hgs2 := cell_lt p22
          by_cases hlt : j < s.tiers.length
          · obtain ⟨bb, oo, rfl⟩ := HT.out.form (by decide) (by omega)
            have z0 := ((HT.out.below hb).cell (i := j) (j := 0) hlt (by decide))
            have z1 := ((HT.out.below hb).cell (i := j) (j := 1) hlt (by decide))
            have YK := Lib.hid (fun wx (h : Below wc.heap.size wc wx) k (hk : k < s.tiers.length) => (HT.out.below h).cell (i := k) (j := 0) hk (by decide))
            have HNX := Lib.hid (fun h => below_next (p := fun k => tierP s.tiers k) ha.out h)
            have HBD : Hid (¬ tierP s.tiers j → ¬ rmoneyP s) := fun h k => h (k.2.1 j hlt)
            have HTP : Hid (tierP s.tiers j ↔ (0 ≤ (s.tiers.getD j []).getD 0 0 ∧ (s.tiers.getD j []).getD 0 0 ≤ 1000 ∧ 0 ≤ (s.tiers.getD j []).getD 1 0 ∧ (s.tiers.getD j []).getD 1 0 ≤ 100000 ∧ (0 < j → (s.tiers.getD (j - 1) []).getD 0 0 < (s.tiers.getD j []).getD 0 0))) := Iff.rfl
            simp only [Nat.add_zero] at z0
            generalize (s.tiers.getD j []).getD 0 0 = x0 at *
            generalize (s.tiers.getD j []).getD 1 0 = x1 at *
            have e0 : (j : Int) < (s.tiers.length : Int) := by omega
            have hs := cell_lt z0
            have t0 := (Has.new wr 74 #[.int .i64 x0, .int .i64 x1] rfl).cell 0 rfl
            have t1 := (Has.new wr 74 #[.int .i64 x0, .int .i64 x1] rfl).cell 1 rfl
            have b9 := bel_alloc hb (.cells #[.int .i64 x0, .int .i64 x1] 74)
            have q22 := (Below.cell b9 (p := ⟨g, 22, none⟩) hgs).trans (HB.out.cell 22 rfl)
            go_wp2
            generalize wr.heap.size = n9 at *
            generalize wr.alloc (.cells #[.int .i64 x0, .int .i64 x1] 74) = w9 at *
            clear z0 z1 hs p22 hgs2
            by_cases hA : 0 ≤ x0 ∧ x0 ≤ 1000
            · have hw1 := with_iff.2 hA
              by_cases hB2 : 0 ≤ x1 ∧ x1 ≤ 100000
              · have hw2 := with_iff.2 hB2
                rcases Nat.eq_zero_or_pos j with hj0 | hj0
                · subst hj0
                  have HA := Lib.hid (HNX.out (HTP.out.2 ⟨hA.1, hA.2, hB2.1, hB2.2, fun h => by omega⟩))
                  clear HNX HBD HTP YK hA hB2
                  refine wp_region_noPanic ?_
                  refine wp_region_held_drew (S := fun w' => Below w9.heap.size w9 w') (by kernel_rfl) (below_drew (Below.refl _ _)) (fun hHeld => ?_)
                  refine wpAnyH_take (i := 0) (oi := ⟨some 32, _, _, _, _, _⟩) (v := ?_) rfl (by kernel_rfl) (by kernel_rfl) (by kernel_rfl) (fun _ _ _ h => h) (Or.inl ⟨by rfl, ?_⟩) hHeld ?_
                  rotate_left
                  · intro ww hSw
                    (try dsimp only at hSw)
                    go_simp
                    (try with_reducible rfl)
                  simp only [Act.put, List.setIfInBounds_toArray, List.set_cons_zero, List.set_cons_succ]
                  refine wpAnyH_take (i := 1) (oi := ⟨some 33, _, _, _, _, _⟩) (v := .int .i64 x0) rfl (by kernel_rfl) (by kernel_rfl) (by kernel_rfl) (fun _ _ _ h => h) (Or.inl ⟨by rfl, ?_⟩) hHeld ?_
                  · intro ww hSw
                    (try dsimp only at hSw)
                    have hcl := (Below.cell hSw (p := ⟨n9, 0, none⟩) (cell_lt t0)).trans t0
                    go_simp
                  simp only [Act.put, List.setIfInBounds_toArray, List.set_cons_zero, List.set_cons_succ]
                  refine wpAnyH_ready (rs := [2]) (by kernel_rfl) (by simp) ?_
                  refine AllReadyH.cons (o := ⟨some 34, _, _, _, _, _⟩) rfl (fun K hK => ?_) AllReadyH.nil
                  go_simp
                  go_at_call 87
                  refine (sameB (rwithin_at x0 0 1000 true hw1 _)).mono ?_
                  rintro e_r u2 ⟨rfl, hbn⟩
                  have hbu2 : Below w9.heap.size w9 u2 := bel_on (show Below w9.heap.size w9 _ by (repeat' (first | with_reducible exact Below.refl _ _ | with_reducible assumption | with_reducible refine bel_alloc ?_ _ | with_reducible refine bel_set ?_ ?_ _ | with_reducible refine below_drewN ?_ _ | with_reducible refine below_drew ?_ | (simp; done) | (simp; omega) | omega))) hbn
                  clear hbn
                  go_wp2_with fail
                  refine hK.out _ _ ?_ (fun hHeld => ?_)
                  · (try dsimp only)
                    exact hbu2
                  clear hK K
                  (try simp only [Act.put, List.setIfInBounds_toArray, List.set_cons_zero, List.set_cons_succ])
                  refine wpAnyH_take (i := 3) (oi := ⟨some 35, _, _, _, _, _⟩) (v := ?_) rfl (by kernel_rfl) (by kernel_rfl) (by kernel_rfl) (fun _ _ _ h => h) (Or.inl ⟨by rfl, ?_⟩) hHeld ?_
                  rotate_left
                  · intro ww hSw
                    (try dsimp only at hSw)
                    go_simp
                    (try with_reducible rfl)
                  simp only [Act.put, List.setIfInBounds_toArray, List.set_cons_zero, List.set_cons_succ]
                  refine wpAnyH_take (i := 4) (oi := ⟨some 36, _, _, _, _, _⟩) (v := ?_) rfl (by kernel_rfl) (by kernel_rfl) (by kernel_rfl) (fun _ _ _ h => h) (Or.inl ⟨by rfl, ?_⟩) hHeld ?_
                  rotate_left
                  · intro ww hSw
                    (try dsimp only at hSw)
                    go_simp
                    (try with_reducible rfl)
                  simp only [Act.put, List.setIfInBounds_toArray, List.set_cons_zero, List.set_cons_succ]
                  refine wpAnyH_take (i := 5) (oi := ⟨some 37, _, _, _, _, _⟩) (v := ?_) rfl (by kernel_rfl) (by kernel_rfl) (by kernel_rfl) (fun _ _ _ h => h) (Or.inl ⟨by rfl, ?_⟩) hHeld ?_
                  rotate_left
                  · intro ww hSw
                    (try dsimp only at hSw)
                    go_simp
                    (try with_reducible rfl)
                  simp only [Act.put, List.setIfInBounds_toArray, List.set_cons_zero, List.set_cons_succ]
                  refine wpAnyH_take (i := 6) (oi := ⟨some 38, _, _, _, _, _⟩) (v := .int .i64 x1) rfl (by kernel_rfl) (by kernel_rfl) (by kernel_rfl) (fun _ _ _ h => h) (Or.inl ⟨by rfl, ?_⟩) hHeld ?_
                  · intro ww hSw
                    (try dsimp only at hSw)
                    have hcl := (Below.cell hSw (p := ⟨n9, 1, none⟩) (cell_lt t1)).trans t1
                    go_simp
                  simp only [Act.put, List.setIfInBounds_toArray, List.set_cons_zero, List.set_cons_succ]
                  refine wpAnyH_ready (rs := [7]) (by kernel_rfl) (by simp) ?_
                  refine AllReadyH.cons (o := ⟨some 39, _, _, _, _, _⟩) rfl (fun K hK => ?_) AllReadyH.nil
                  go_simp
                  go_at_call 87
                  refine (sameB (rwithin_at x1 0 100000 true hw2 _)).mono ?_
                  rintro e_r u3 ⟨rfl, hbn⟩
                  have hbu3 : Below w9.heap.size w9 u3 := bel_on (show Below w9.heap.size w9 _ by (repeat' (first | with_reducible exact Below.refl _ _ | with_reducible assumption | with_reducible refine bel_alloc ?_ _ | with_reducible refine bel_set ?_ ?_ _ | with_reducible refine below_drewN ?_ _ | with_reducible refine below_drew ?_ | (simp; done) | (simp; omega) | omega))) hbn
                  clear hbn
                  go_wp2_with fail
                  refine hK.out _ _ ?_ (fun hHeld => ?_)
                  · (try dsimp only)
                    exact hbu3
                  clear hK K
                  (try simp only [Act.put, List.setIfInBounds_toArray, List.set_cons_zero, List.set_cons_succ])
                  refine wpAnyH_take (i := 8) (oi := ⟨some 40, _, _, _, _, _⟩) (v := ?_) rfl (by kernel_rfl) (by kernel_rfl) (by kernel_rfl) (fun _ _ _ h => h) (Or.inl ⟨by rfl, ?_⟩) hHeld ?_
                  rotate_left
                  · intro ww hSw
                    (try dsimp only at hSw)
                    go_simp
                    (try with_reducible rfl)
                  simp only [Act.put, List.setIfInBounds_toArray, List.set_cons_zero, List.set_cons_succ]
                  refine wpAnyH_take (i := 9) (oi := ⟨some 41, _, _, _, _, _⟩) (v := ?_) rfl (by kernel_rfl) (by kernel_rfl) (by kernel_rfl) (fun _ _ _ h => h) (Or.inl ⟨by rfl, ?_⟩) hHeld ?_
                  rotate_left
                  · intro ww hSw
                    (try dsimp only at hSw)
                    go_simp
                    (try with_reducible rfl)
                  simp only [Act.put, List.setIfInBounds_toArray, List.set_cons_zero, List.set_cons_succ]
                  refine wpAnyH_take (i := 10) (oi := ⟨some 42, _, _, _, _, _⟩) (v := ?_) rfl (by kernel_rfl) (by kernel_rfl) (by kernel_rfl) (fun _ _ _ h => h) (Or.inl ⟨by rfl, ?_⟩) hHeld ?_
                  rotate_left
                  · intro ww hSw
                    (try dsimp only at hSw)
                    go_simp
                    (try with_reducible rfl)
                  simp only [Act.put, List.setIfInBounds_toArray, List.set_cons_zero, List.set_cons_succ]
                  refine wpAnyH_take (i := 11) (oi := ⟨some 43, _, _, _, _, _⟩) (v := ?_) rfl (by kernel_rfl) (by kernel_rfl) (by kernel_rfl) (fun _ _ _ h => h) (Or.inl ⟨by rfl, ?_⟩) hHeld ?_
                  rotate_left
                  · intro ww hSw
                    (try dsimp only at hSw)
                    go_simp
                    (try with_reducible rfl)
                  simp only [Act.put, List.setIfInBounds_toArray, List.set_cons_zero, List.set_cons_succ]
                  refine wpAnyH_take (i := 12) (oi := ⟨some 44, _, _, _, _, _⟩) (v := .bool false) rfl (by kernel_rfl) (by kernel_rfl) (by kernel_rfl) (fun _ _ _ h => h) (Or.inl ⟨by rfl, ?_⟩) hHeld ?_
                  · intro ww hSw
                    (try dsimp only at hSw)
                    go_simp
                  simp only [Act.put, List.setIfInBounds_toArray, List.set_cons_zero, List.set_cons_succ]
                  refine wpAnyH_take (i := 13) (oi := ⟨some 45, _, _, _, _, _⟩) (v := ?_) rfl (by kernel_rfl) (by kernel_rfl) (by kernel_rfl) (fun _ _ _ h => h) (Or.inl ⟨by rfl, ?_⟩) hHeld ?_
                  rotate_left
                  · intro ww hSw
                    (try dsimp only at hSw)
                    go_simp
                    (try with_reducible rfl)
                  simp only [Act.put, List.setIfInBounds_toArray, List.set_cons_zero, List.set_cons_succ]
                  refine wpAnyH_take (i := 14) (oi := ⟨some 46, _, _, _, _, _⟩) (v := undef) rfl (by kernel_rfl) (by kernel_rfl) (by kernel_rfl) (fun _ _ _ h => h) (Or.inr ⟨by rfl, rfl⟩) hHeld ?_
                  simp only [Act.put, List.setIfInBounds_toArray, List.set_cons_zero, List.set_cons_succ]
                  refine wpAnyH_take (i := 15) (oi := ⟨some 47, _, _, _, _, _⟩) (v := undef) rfl (by kernel_rfl) (by kernel_rfl) (by kernel_rfl) (fun _ _ _ h => h) (Or.inr ⟨by rfl, rfl⟩) hHeld ?_
                  simp only [Act.put, List.setIfInBounds_toArray, List.set_cons_zero, List.set_cons_succ]
                  refine wpAnyH_take (i := 16) (oi := ⟨some 48, _, _, _, _, _⟩) (v := undef) rfl (by kernel_rfl) (by kernel_rfl) (by kernel_rfl) (fun _ _ _ h => h) (Or.inr ⟨by rfl, rfl⟩) hHeld ?_
                  simp only [Act.put, List.setIfInBounds_toArray, List.set_cons_zero, List.set_cons_succ]
                  refine wpAnyH_take (i := 17) (oi := ⟨some 49, _, _, _, _, _⟩) (v := undef) rfl (by kernel_rfl) (by kernel_rfl) (by kernel_rfl) (fun _ _ _ h => h) (Or.inr ⟨by rfl, rfl⟩) hHeld ?_
                  simp only [Act.put, List.setIfInBounds_toArray, List.set_cons_zero, List.set_cons_succ]
                  refine wpAnyH_take (i := 18) (oi := ⟨some 50, _, _, _, _, _⟩) (v := undef) rfl (by kernel_rfl) (by kernel_rfl) (by kernel_rfl) (fun _ _ _ h => h) (Or.inr ⟨by rfl, rfl⟩) hHeld ?_
                  simp only [Act.put, List.setIfInBounds_toArray, List.set_cons_zero, List.set_cons_succ]
                  refine wpAnyH_take (i := 19) (oi := ⟨some 51, _, _, _, _, _⟩) (v := undef) rfl (by kernel_rfl) (by kernel_rfl) (by kernel_rfl) (fun _ _ _ h => h) (Or.inr ⟨by rfl, rfl⟩) hHeld ?_
                  simp only [Act.put, List.setIfInBounds_toArray, List.set_cons_zero, List.set_cons_succ]
                  refine wpAnyH_take (i := 20) (oi := ⟨some 52, _, _, _, _, _⟩) (v := undef) rfl (by kernel_rfl) (by kernel_rfl) (by kernel_rfl) (fun _ _ _ h => h) (Or.inr ⟨by rfl, rfl⟩) hHeld ?_
                  simp only [Act.put, List.setIfInBounds_toArray, List.set_cons_zero, List.set_cons_succ]
                  refine wpAnyH_take (i := 21) (oi := ⟨some 53, _, _, _, _, _⟩) (v := undef) rfl (by kernel_rfl) (by kernel_rfl) (by kernel_rfl) (fun _ _ _ h => h) (Or.inr ⟨by rfl, rfl⟩) hHeld ?_
                  simp only [Act.put, List.setIfInBounds_toArray, List.set_cons_zero, List.set_cons_succ]
                  refine wpAnyH_take (i := 22) (oi := ⟨some 54, _, _, _, _, _⟩) (v := undef) rfl (by kernel_rfl) (by kernel_rfl) (by kernel_rfl) (fun _ _ _ h => h) (Or.inr ⟨by rfl, rfl⟩) hHeld ?_
                  simp only [Act.put, List.setIfInBounds_toArray, List.set_cons_zero, List.set_cons_succ]
                  refine wpAnyH_take (i := 23) (oi := ⟨some 55, _, _, _, _, _⟩) (v := undef) rfl (by kernel_rfl) (by kernel_rfl) (by kernel_rfl) (fun _ _ _ h => h) (Or.inr ⟨by rfl, rfl⟩) hHeld ?_
                  simp only [Act.put, List.setIfInBounds_toArray, List.set_cons_zero, List.set_cons_succ]
                  refine wpAnyH_take (i := 24) (oi := ⟨some 56, _, _, _, _, _⟩) (v := ?_) rfl (by kernel_rfl) (by kernel_rfl) (by kernel_rfl) (fun _ _ _ h => h) (Or.inl ⟨by rfl, ?_⟩) hHeld ?_
                  rotate_left
                  · intro ww hSw
                    (try dsimp only at hSw)
                    go_simp
                    (try with_reducible rfl)
                  simp only [Act.put, List.setIfInBounds_toArray, List.set_cons_zero, List.set_cons_succ]
                  refine wpAnyH_take (i := 25) (oi := ⟨some 57, _, _, _, _, _⟩) (v := ?_) rfl (by kernel_rfl) (by kernel_rfl) (by kernel_rfl) (fun _ _ _ h => h) (Or.inl ⟨by rfl, ?_⟩) hHeld ?_
                  rotate_left
                  · intro ww hSw
                    (try dsimp only at hSw)
                    go_simp
                    (try with_reducible rfl)
                  simp only [Act.put, List.setIfInBounds_toArray, List.set_cons_zero, List.set_cons_succ]
                  refine wpAnyH_done (by kernel_rfl) ?_ _
                  refine NoPanic.normal ?_
                  have bU := bel_on b9 hbu3
                  go_wp2
                  go_roundw
                  case rel => exact ⟨1, by omega, by go_num, HA, bU⟩
                  case measure => simp [intOf]; omega
                · obtain ⟨k, rfl⟩ : ∃ k, j = k + 1 := ⟨j - 1, by omega⟩
                  have zk := YK.out w9 b9 k (by omega)
                  have htp := HTP.out
                  rw [Nat.add_sub_cancel] at htp
                  simp only [Nat.add_zero] at zk
                  generalize (s.tiers.getD k []).getD 0 0 = y0 at *
                  have hkj : ((k + 1 : Nat) : Int) - 1 = (k : Int) := by omega
                  have e1 : (k : Int) < (s.tiers.length : Int) := by omega
                  have hpos : (0 : Int) < ((k + 1 : Nat) : Int) := by omega
                  by_cases hle : x0 ≤ y0
                  · have HE := Lib.hid (HNO.out (HBD.out (fun h => by have := (htp.1 h).2.2.2.2 (by omega); omega)))
                    clear HNX HBD HTP YK hA hB2 htp
                    refine wp_region_noPanic ?_
                    refine wp_region_held_drew (S := fun w' => Below w9.heap.size w9 w') (by kernel_rfl) (below_drew (Below.refl _ _)) (fun hHeld => ?_)
                    refine wpAnyH_take (i := 0) (oi := ⟨some 32, _, _, _, _, _⟩) (v := ?_) rfl (by kernel_rfl) (by kernel_rfl) (by kernel_rfl) (fun _ _ _ h => h) (Or.inl ⟨by rfl, ?_⟩) hHeld ?_
                    rotate_left
                    · intro ww hSw
                      (try dsimp only at hSw)
                      go_simp
                      (try with_reducible rfl)
                    simp only [Act.put, List.setIfInBounds_toArray, List.set_cons_zero, List.set_cons_succ]
                    refine wpAnyH_take (i := 1) (oi := ⟨some 33, _, _, _, _, _⟩) (v := .int .i64 x0) rfl (by kernel_rfl) (by kernel_rfl) (by kernel_rfl) (fun _ _ _ h => h) (Or.inl ⟨by rfl, ?_⟩) hHeld ?_
                    · intro ww hSw
                      (try dsimp only at hSw)
                      have hcl := (Below.cell hSw (p := ⟨n9, 0, none⟩) (cell_lt t0)).trans t0
                      go_simp
                    simp only [Act.put, List.setIfInBounds_toArray, List.set_cons_zero, List.set_cons_succ]
                    refine wpAnyH_ready (rs := [2]) (by kernel_rfl) (by simp) ?_
                    refine AllReadyH.cons (o := ⟨some 34, _, _, _, _, _⟩) rfl (fun K hK => ?_) AllReadyH.nil
                    go_simp
                    go_at_call 87
                    refine (sameB (rwithin_at x0 0 1000 true hw1 _)).mono ?_
                    rintro e_r u2 ⟨rfl, hbn⟩
                    have hbu2 : Below w9.heap.size w9 u2 := bel_on (show Below w9.heap.size w9 _ by (repeat' (first | with_reducible exact Below.refl _ _ | with_reducible assumption | with_reducible refine bel_alloc ?_ _ | with_reducible refine bel_set ?_ ?_ _ | with_reducible refine below_drewN ?_ _ | with_reducible refine below_drew ?_ | (simp; done) | (simp; omega) | omega))) hbn
                    clear hbn
                    go_wp2_with fail
                    refine hK.out _ _ ?_ (fun hHeld => ?_)
                    · (try dsimp only)
                      exact hbu2
                    clear hK K
                    (try simp only [Act.put, List.setIfInBounds_toArray, List.set_cons_zero, List.set_cons_succ])
                    refine wpAnyH_take (i := 3) (oi := ⟨some 35, _, _, _, _, _⟩) (v := ?_) rfl (by kernel_rfl) (by kernel_rfl) (by kernel_rfl) (fun _ _ _ h => h) (Or.inl ⟨by rfl, ?_⟩) hHeld ?_
                    rotate_left
                    · intro ww hSw
                      (try dsimp only at hSw)
                      go_simp
                      (try with_reducible rfl)
                    simp only [Act.put, List.setIfInBounds_toArray, List.set_cons_zero, List.set_cons_succ]
                    refine wpAnyH_take (i := 4) (oi := ⟨some 36, _, _, _, _, _⟩) (v := ?_) rfl (by kernel_rfl) (by kernel_rfl) (by kernel_rfl) (fun _ _ _ h => h) (Or.inl ⟨by rfl, ?_⟩) hHeld ?_
                    rotate_left
                    · intro ww hSw
                      (try dsimp only at hSw)
                      go_simp
                      (try with_reducible rfl)
                    simp only [Act.put, List.setIfInBounds_toArray, List.set_cons_zero, List.set_cons_succ]
                    refine wpAnyH_take (i := 5) (oi := ⟨some 37, _, _, _, _, _⟩) (v := ?_) rfl (by kernel_rfl) (by kernel_rfl) (by kernel_rfl) (fun _ _ _ h => h) (Or.inl ⟨by rfl, ?_⟩) hHeld ?_
                    rotate_left
                    · intro ww hSw
                      (try dsimp only at hSw)
                      go_simp
                      (try with_reducible rfl)
                    simp only [Act.put, List.setIfInBounds_toArray, List.set_cons_zero, List.set_cons_succ]
                    refine wpAnyH_take (i := 6) (oi := ⟨some 38, _, _, _, _, _⟩) (v := .int .i64 x1) rfl (by kernel_rfl) (by kernel_rfl) (by kernel_rfl) (fun _ _ _ h => h) (Or.inl ⟨by rfl, ?_⟩) hHeld ?_
                    · intro ww hSw
                      (try dsimp only at hSw)
                      have hcl := (Below.cell hSw (p := ⟨n9, 1, none⟩) (cell_lt t1)).trans t1
                      go_simp
                    simp only [Act.put, List.setIfInBounds_toArray, List.set_cons_zero, List.set_cons_succ]
                    refine wpAnyH_ready (rs := [7]) (by kernel_rfl) (by simp) ?_
                    refine AllReadyH.cons (o := ⟨some 39, _, _, _, _, _⟩) rfl (fun K hK => ?_) AllReadyH.nil
                    go_simp
                    go_at_call 87
                    refine (sameB (rwithin_at x1 0 100000 true hw2 _)).mono ?_
                    rintro e_r u3 ⟨rfl, hbn⟩
                    have hbu3 : Below w9.heap.size w9 u3 := bel_on (show Below w9.heap.size w9 _ by (repeat' (first | with_reducible exact Below.refl _ _ | with_reducible assumption | with_reducible refine bel_alloc ?_ _ | with_reducible refine bel_set ?_ ?_ _ | with_reducible refine below_drewN ?_ _ | with_reducible refine below_drew ?_ | (simp; done) | (simp; omega) | omega))) hbn
                    clear hbn
                    go_wp2_with fail
                    refine hK.out _ _ ?_ (fun hHeld => ?_)
                    · (try dsimp only)
                      exact hbu3
                    clear hK K
                    (try simp only [Act.put, List.setIfInBounds_toArray, List.set_cons_zero, List.set_cons_succ])
                    refine wpAnyH_take (i := 8) (oi := ⟨some 40, _, _, _, _, _⟩) (v := ?_) rfl (by kernel_rfl) (by kernel_rfl) (by kernel_rfl) (fun _ _ _ h => h) (Or.inl ⟨by rfl, ?_⟩) hHeld ?_
                    rotate_left
                    · intro ww hSw
                      (try dsimp only at hSw)
                      go_simp
                      (try with_reducible rfl)
                    simp only [Act.put, List.setIfInBounds_toArray, List.set_cons_zero, List.set_cons_succ]
                    refine wpAnyH_take (i := 9) (oi := ⟨some 41, _, _, _, _, _⟩) (v := ?_) rfl (by kernel_rfl) (by kernel_rfl) (by kernel_rfl) (fun _ _ _ h => h) (Or.inl ⟨by rfl, ?_⟩) hHeld ?_
                    rotate_left
                    · intro ww hSw
                      (try dsimp only at hSw)
                      go_simp
                      (try with_reducible rfl)
                    simp only [Act.put, List.setIfInBounds_toArray, List.set_cons_zero, List.set_cons_succ]
                    refine wpAnyH_take (i := 10) (oi := ⟨some 42, _, _, _, _, _⟩) (v := ?_) rfl (by kernel_rfl) (by kernel_rfl) (by kernel_rfl) (fun _ _ _ h => h) (Or.inl ⟨by rfl, ?_⟩) hHeld ?_
                    rotate_left
                    · intro ww hSw
                      (try dsimp only at hSw)
                      go_simp
                      (try with_reducible rfl)
                    simp only [Act.put, List.setIfInBounds_toArray, List.set_cons_zero, List.set_cons_succ]
                    refine wpAnyH_take (i := 11) (oi := ⟨some 43, _, _, _, _, _⟩) (v := ?_) rfl (by kernel_rfl) (by kernel_rfl) (by kernel_rfl) (fun _ _ _ h => h) (Or.inl ⟨by rfl, ?_⟩) hHeld ?_
                    rotate_left
                    · intro ww hSw
                      (try dsimp only at hSw)
                      go_simp
                      (try with_reducible rfl)
                    simp only [Act.put, List.setIfInBounds_toArray, List.set_cons_zero, List.set_cons_succ]
                    refine wpAnyH_take (i := 12) (oi := ⟨some 44, _, _, _, _, _⟩) (v := .bool true) rfl (by kernel_rfl) (by kernel_rfl) (by kernel_rfl) (fun _ _ _ h => h) (Or.inl ⟨by rfl, ?_⟩) hHeld ?_
                    · intro ww hSw
                      (try dsimp only at hSw)
                      go_simp
                    simp only [Act.put, List.setIfInBounds_toArray, List.set_cons_zero, List.set_cons_succ]
                    refine wpAnyH_take (i := 13) (oi := ⟨some 45, _, _, _, _, _⟩) (v := ?_) rfl (by kernel_rfl) (by kernel_rfl) (by kernel_rfl) (fun _ _ _ h => h) (Or.inl ⟨by rfl, ?_⟩) hHeld ?_
                    rotate_left
                    · intro ww hSw
                      (try dsimp only at hSw)
                      go_simp
                      (try with_reducible rfl)
                    simp only [Act.put, List.setIfInBounds_toArray, List.set_cons_zero, List.set_cons_succ]
                    refine wpAnyH_take (i := 14) (oi := ⟨some 46, _, _, _, _, _⟩) (v := ?_) rfl (by kernel_rfl) (by kernel_rfl) (by kernel_rfl) (fun _ _ _ h => h) (Or.inl ⟨by rfl, ?_⟩) hHeld ?_
                    rotate_left
                    · intro ww hSw
                      (try dsimp only at hSw)
                      go_simp
                      (try with_reducible rfl)
                    simp only [Act.put, List.setIfInBounds_toArray, List.set_cons_zero, List.set_cons_succ]
                    refine wpAnyH_take (i := 15) (oi := ⟨some 47, _, _, _, _, _⟩) (v := .int .i64 x0) rfl (by kernel_rfl) (by kernel_rfl) (by kernel_rfl) (fun _ _ _ h => h) (Or.inl ⟨by rfl, ?_⟩) hHeld ?_
                    · intro ww hSw
                      (try dsimp only at hSw)
                      have hcl := (Below.cell hSw (p := ⟨n9, 0, none⟩) (cell_lt t0)).trans t0
                      go_simp
                    simp only [Act.put, List.setIfInBounds_toArray, List.set_cons_zero, List.set_cons_succ]
                    refine wpAnyH_take (i := 16) (oi := ⟨some 48, _, _, _, _, _⟩) (v := ?_) rfl (by kernel_rfl) (by kernel_rfl) (by kernel_rfl) (fun _ _ _ h => h) (Or.inl ⟨by rfl, ?_⟩) hHeld ?_
                    rotate_left
                    · intro ww hSw
                      (try dsimp only at hSw)
                      go_simp
                      (try with_reducible rfl)
                    simp only [Act.put, List.setIfInBounds_toArray, List.set_cons_zero, List.set_cons_succ]
                    refine wpAnyH_take (i := 17) (oi := ⟨some 49, _, _, _, _, _⟩) (v := .slice (some ⟨bb, oo, none⟩) s.tiers.length c6) rfl (by kernel_rfl) (by kernel_rfl) (by kernel_rfl) (fun _ _ _ h => h) (Or.inl ⟨by rfl, ?_⟩) hHeld ?_
                    · intro ww hSw
                      (try dsimp only at hSw)
                      have hcl := (Below.cell hSw (p := ⟨g, 22, none⟩) (cell_lt q22)).trans q22
                      go_simp
                    simp only [Act.put, List.setIfInBounds_toArray, List.set_cons_zero, List.set_cons_succ]
                    refine wpAnyH_take (i := 18) (oi := ⟨some 50, _, _, _, _, _⟩) (v := ?_) rfl (by kernel_rfl) (by kernel_rfl) (by kernel_rfl) (fun _ _ _ h => h) (Or.inl ⟨by rfl, ?_⟩) hHeld ?_
                    rotate_left
                    · intro ww hSw
                      (try dsimp only at hSw)
                      go_simp
                      (try with_reducible rfl)
                    simp only [Act.put, List.setIfInBounds_toArray, List.set_cons_zero, List.set_cons_succ]
                    refine wpAnyH_take (i := 19) (oi := ⟨some 51, _, _, _, _, _⟩) (v := .int .i64 ((k : Nat) : Int)) rfl (by kernel_rfl) (by kernel_rfl) (by kernel_rfl) (fun _ _ _ h => h) (Or.inl ⟨by rfl, ?_⟩) hHeld ?_
                    · intro ww hSw
                      (try dsimp only at hSw)
                      go_simp
                      exact wrapi_id (by omega) (by omega)
                    simp only [Act.put, List.setIfInBounds_toArray, List.set_cons_zero, List.set_cons_succ]
                    refine wpAnyH_take (i := 20) (oi := ⟨some 52, _, _, _, _, _⟩) (v := ?_) rfl (by kernel_rfl) (by kernel_rfl) (by kernel_rfl) (fun _ _ _ h => h) (Or.inl ⟨by rfl, ?_⟩) hHeld ?_
                    rotate_left
                    · intro ww hSw
                      (try dsimp only at hSw)
                      go_simp
                      (try with_reducible rfl)
                    simp only [Act.put, List.setIfInBounds_toArray, List.set_cons_zero, List.set_cons_succ]
                    refine wpAnyH_take (i := 21) (oi := ⟨some 53, _, _, _, _, _⟩) (v := ?_) rfl (by kernel_rfl) (by kernel_rfl) (by kernel_rfl) (fun _ _ _ h => h) (Or.inl ⟨by rfl, ?_⟩) hHeld ?_
                    rotate_left
                    · intro ww hSw
                      (try dsimp only at hSw)
                      go_simp
                      (try with_reducible rfl)
                    simp only [Act.put, List.setIfInBounds_toArray, List.set_cons_zero, List.set_cons_succ]
                    refine wpAnyH_take (i := 22) (oi := ⟨some 54, _, _, _, _, _⟩) (v := .int .i64 y0) rfl (by kernel_rfl) (by kernel_rfl) (by kernel_rfl) (fun _ _ _ h => h) (Or.inl ⟨by rfl, ?_⟩) hHeld ?_
                    · intro ww hSw
                      (try dsimp only at hSw)
                      have hcl := (Below.cell hSw (p := ⟨bb, oo + k * 2, none⟩) (cell_lt zk)).trans zk
                      go_simp
                    simp only [Act.put, List.setIfInBounds_toArray, List.set_cons_zero, List.set_cons_succ]
                    refine wpAnyH_take (i := 23) (oi := ⟨some 55, _, _, _, _, _⟩) (v := .bool true) rfl (by kernel_rfl) (by kernel_rfl) (by kernel_rfl) (fun _ _ _ h => h) (Or.inl ⟨by rfl, ?_⟩) hHeld ?_
                    · intro ww hSw
                      (try dsimp only at hSw)
                      go_simp
                    simp only [Act.put, List.setIfInBounds_toArray, List.set_cons_zero, List.set_cons_succ]
                    refine wpAnyH_take (i := 24) (oi := ⟨some 56, _, _, _, _, _⟩) (v := ?_) rfl (by kernel_rfl) (by kernel_rfl) (by kernel_rfl) (fun _ _ _ h => h) (Or.inl ⟨by rfl, ?_⟩) hHeld ?_
                    rotate_left
                    · intro ww hSw
                      (try dsimp only at hSw)
                      go_simp
                      (try with_reducible rfl)
                    simp only [Act.put, List.setIfInBounds_toArray, List.set_cons_zero, List.set_cons_succ]
                    refine wpAnyH_take (i := 25) (oi := ⟨some 57, _, _, _, _, _⟩) (v := ?_) rfl (by kernel_rfl) (by kernel_rfl) (by kernel_rfl) (fun _ _ _ h => h) (Or.inl ⟨by rfl, ?_⟩) hHeld ?_
                    rotate_left
                    · intro ww hSw
                      (try dsimp only at hSw)
                      go_simp
                      (try with_reducible rfl)
                    simp only [Act.put, List.setIfInBounds_toArray, List.set_cons_zero, List.set_cons_succ]
                    refine wpAnyH_done (by kernel_rfl) ?_ _
                    refine NoPanic.normal ?_
                    have bU := bel_on b9 hbu3
                    go_wp2
                    go_ret
                    exact ⟨ret_bool HE.out.symm, bel_on HBW.out bU⟩
                  · have HA := Lib.hid (HNX.out (htp.2 ⟨hA.1, hA.2, hB2.1, hB2.2, fun h => by omega⟩))
                    clear HNX HBD HTP YK hA hB2 htp
                    refine wp_region_noPanic ?_
                    refine wp_region_held_drew (S := fun w' => Below w9.heap.size w9 w') (by kernel_rfl) (below_drew (Below.refl _ _)) (fun hHeld => ?_)
                    refine wpAnyH_take (i := 0) (oi := ⟨some 32, _, _, _, _, _⟩) (v := ?_) rfl (by kernel_rfl) (by kernel_rfl) (by kernel_rfl) (fun _ _ _ h => h) (Or.inl ⟨by rfl, ?_⟩) hHeld ?_
                    rotate_left
                    · intro ww hSw
                      (try dsimp only at hSw)
                      go_simp
                      (try with_reducible rfl)
                    simp only [Act.put, List.setIfInBounds_toArray, List.set_cons_zero, List.set_cons_succ]
                    refine wpAnyH_take (i := 1) (oi := ⟨some 33, _, _, _, _, _⟩) (v := .int .i64 x0) rfl (by kernel_rfl) (by kernel_rfl) (by kernel_rfl) (fun _ _ _ h => h) (Or.inl ⟨by rfl, ?_⟩) hHeld ?_
                    · intro ww hSw
                      (try dsimp only at hSw)
                      have hcl := (Below.cell hSw (p := ⟨n9, 0, none⟩) (cell_lt t0)).trans t0
                      go_simp
                    simp only [Act.put, List.setIfInBounds_toArray, List.set_cons_zero, List.set_cons_succ]
                    refine wpAnyH_ready (rs := [2]) (by kernel_rfl) (by simp) ?_
                    refine AllReadyH.cons (o := ⟨some 34, _, _, _, _, _⟩) rfl (fun K hK => ?_) AllReadyH.nil
                    go_simp
                    go_at_call 87
                    refine (sameB (rwithin_at x0 0 1000 true hw1 _)).mono ?_
                    rintro e_r u2 ⟨rfl, hbn⟩
                    have hbu2 : Below w9.heap.size w9 u2 := bel_on (show Below w9.heap.size w9 _ by (repeat' (first | with_reducible exact Below.refl _ _ | with_reducible assumption | with_reducible refine bel_alloc ?_ _ | with_reducible refine bel_set ?_ ?_ _ | with_reducible refine below_drewN ?_ _ | with_reducible refine below_drew ?_ | (simp; done) | (simp; omega) | omega))) hbn
                    clear hbn
                    go_wp2_with fail
                    refine hK.out _ _ ?_ (fun hHeld => ?_)
                    · (try dsimp only)
                      exact hbu2
                    clear hK K
                    (try simp only [Act.put, List.setIfInBounds_toArray, List.set_cons_zero, List.set_cons_succ])
                    refine wpAnyH_take (i := 3) (oi := ⟨some 35, _, _, _, _, _⟩) (v := ?_) rfl (by kernel_rfl) (by kernel_rfl) (by kernel_rfl) (fun _ _ _ h => h) (Or.inl ⟨by rfl, ?_⟩) hHeld ?_
                    rotate_left
                    · intro ww hSw
                      (try dsimp only at hSw)
                      go_simp
                      (try with_reducible rfl)
                    simp only [Act.put, List.setIfInBounds_toArray, List.set_cons_zero, List.set_cons_succ]
                    refine wpAnyH_take (i := 4) (oi := ⟨some 36, _, _, _, _, _⟩) (v := ?_) rfl (by kernel_rfl) (by kernel_rfl) (by kernel_rfl) (fun _ _ _ h => h) (Or.inl ⟨by rfl, ?_⟩) hHeld ?_
                    rotate_left
                    · intro ww hSw
                      (try dsimp only at hSw)
                      go_simp
                      (try with_reducible rfl)
                    simp only [Act.put, List.setIfInBounds_toArray, List.set_cons_zero, List.set_cons_succ]
                    refine wpAnyH_take (i := 5) (oi := ⟨some 37, _, _, _, _, _⟩) (v := ?_) rfl (by kernel_rfl) (by kernel_rfl) (by kernel_rfl) (fun _ _ _ h => h) (Or.inl ⟨by rfl, ?_⟩) hHeld ?_
                    rotate_left
                    · intro ww hSw
                      (try dsimp only at hSw)
                      go_simp
                      (try with_reducible rfl)
                    simp only [Act.put, List.setIfInBounds_toArray, List.set_cons_zero, List.set_cons_succ]
                    refine wpAnyH_take (i := 6) (oi := ⟨some 38, _, _, _, _, _⟩) (v := .int .i64 x1) rfl (by kernel_rfl) (by kernel_rfl) (by kernel_rfl) (fun _ _ _ h => h) (Or.inl ⟨by rfl, ?_⟩) hHeld ?_
                    · intro ww hSw
                      (try dsimp only at hSw)
                      have hcl := (Below.cell hSw (p := ⟨n9, 1, none⟩) (cell_lt t1)).trans t1
                      go_simp
                    simp only [Act.put, List.setIfInBounds_toArray, List.set_cons_zero, List.set_cons_succ]
                    refine wpAnyH_ready (rs := [7]) (by kernel_rfl) (by simp) ?_
                    refine AllReadyH.cons (o := ⟨some 39, _, _, _, _, _⟩) rfl (fun K hK => ?_) AllReadyH.nil
                    go_simp
                    go_at_call 87
                    refine (sameB (rwithin_at x1 0 100000 true hw2 _)).mono ?_
                    rintro e_r u3 ⟨rfl, hbn⟩
                    have hbu3 : Below w9.heap.size w9 u3 := bel_on (show Below w9.heap.size w9 _ by (repeat' (first | with_reducible exact Below.refl _ _ | with_reducible assumption | with_reducible refine bel_alloc ?_ _ | with_reducible refine bel_set ?_ ?_ _ | with_reducible refine below_drewN ?_ _ | with_reducible refine below_drew ?_ | (simp; done) | (simp; omega) | omega))) hbn
                    clear hbn
                    go_wp2_with fail
                    refine hK.out _ _ ?_ (fun hHeld => ?_)
                    · (try dsimp only)
                      exact hbu3
                    clear hK K
                    (try simp only [Act.put, List.setIfInBounds_toArray, List.set_cons_zero, List.set_cons_succ])
                    refine wpAnyH_take (i := 8) (oi := ⟨some 40, _, _, _, _, _⟩) (v := ?_) rfl (by kernel_rfl) (by kernel_rfl) (by kernel_rfl) (fun _ _ _ h => h) (Or.inl ⟨by rfl, ?_⟩) hHeld ?_
                    rotate_left
                    · intro ww hSw
                      (try dsimp only at hSw)
                      go_simp
                      (try with_reducible rfl)
                    simp only [Act.put, List.setIfInBounds_toArray, List.set_cons_zero, List.set_cons_succ]
                    refine wpAnyH_take (i := 9) (oi := ⟨some 41, _, _, _, _, _⟩) (v := ?_) rfl (by kernel_rfl) (by kernel_rfl) (by kernel_rfl) (fun _ _ _ h => h) (Or.inl ⟨by rfl, ?_⟩) hHeld ?_
                    rotate_left
                    · intro ww hSw
                      (try dsimp only at hSw)
                      go_simp
                      (try with_reducible rfl)
                    simp only [Act.put, List.setIfInBounds_toArray, List.set_cons_zero, List.set_cons_succ]
                    refine wpAnyH_take (i := 10) (oi := ⟨some 42, _, _, _, _, _⟩) (v := ?_) rfl (by kernel_rfl) (by kernel_rfl) (by kernel_rfl) (fun _ _ _ h => h) (Or.inl ⟨by rfl, ?_⟩) hHeld ?_
                    rotate_left
                    · intro ww hSw
                      (try dsimp only at hSw)
                      go_simp
                      (try with_reducible rfl)
                    simp only [Act.put, List.setIfInBounds_toArray, List.set_cons_zero, List.set_cons_succ]
                    refine wpAnyH_take (i := 11) (oi := ⟨some 43, _, _, _, _, _⟩) (v := ?_) rfl (by kernel_rfl) (by kernel_rfl) (by kernel_rfl) (fun _ _ _ h => h) (Or.inl ⟨by rfl, ?_⟩) hHeld ?_
                    rotate_left
                    · intro ww hSw
                      (try dsimp only at hSw)
                      go_simp
                      (try with_reducible rfl)
                    simp only [Act.put, List.setIfInBounds_toArray, List.set_cons_zero, List.set_cons_succ]
                    refine wpAnyH_take (i := 12) (oi := ⟨some 44, _, _, _, _, _⟩) (v := .bool true) rfl (by kernel_rfl) (by kernel_rfl) (by kernel_rfl) (fun _ _ _ h => h) (Or.inl ⟨by rfl, ?_⟩) hHeld ?_
                    · intro ww hSw
                      (try dsimp only at hSw)
                      go_simp
                    simp only [Act.put, List.setIfInBounds_toArray, List.set_cons_zero, List.set_cons_succ]
                    refine wpAnyH_take (i := 13) (oi := ⟨some 45, _, _, _, _, _⟩) (v := ?_) rfl (by kernel_rfl) (by kernel_rfl) (by kernel_rfl) (fun _ _ _ h => h) (Or.inl ⟨by rfl, ?_⟩) hHeld ?_
                    rotate_left
                    · intro ww hSw
                      (try dsimp only at hSw)
                      go_simp
                      (try with_reducible rfl)
                    simp only [Act.put, List.setIfInBounds_toArray, List.set_cons_zero, List.set_cons_succ]
                    refine wpAnyH_take (i := 14) (oi := ⟨some 46, _, _, _, _, _⟩) (v := ?_) rfl (by kernel_rfl) (by kernel_rfl) (by kernel_rfl) (fun _ _ _ h => h) (Or.inl ⟨by rfl, ?_⟩) hHeld ?_
                    rotate_left
                    · intro ww hSw
                      (try dsimp only at hSw)
                      go_simp
                      (try with_reducible rfl)
                    simp only [Act.put, List.setIfInBounds_toArray, List.set_cons_zero, List.set_cons_succ]
                    refine wpAnyH_take (i := 15) (oi := ⟨some 47, _, _, _, _, _⟩) (v := .int .i64 x0) rfl (by kernel_rfl) (by kernel_rfl) (by kernel_rfl) (fun _ _ _ h => h) (Or.inl ⟨by rfl, ?_⟩) hHeld ?_
                    · intro ww hSw
                      (try dsimp only at hSw)
                      have hcl := (Below.cell hSw (p := ⟨n9, 0, none⟩) (cell_lt t0)).trans t0
                      go_simp
                    simp only [Act.put, List.setIfInBounds_toArray, List.set_cons_zero, List.set_cons_succ]
                    refine wpAnyH_take (i := 16) (oi := ⟨some 48, _, _, _, _, _⟩) (v := ?_) rfl (by kernel_rfl) (by kernel_rfl) (by kernel_rfl) (fun _ _ _ h => h) (Or.inl ⟨by rfl, ?_⟩) hHeld ?_
                    rotate_left
                    · intro ww hSw
                      (try dsimp only at hSw)
                      go_simp
                      (try with_reducible rfl)
                    simp only [Act.put, List.setIfInBounds_toArray, List.set_cons_zero, List.set_cons_succ]
                    refine wpAnyH_take (i := 17) (oi := ⟨some 49, _, _, _, _, _⟩) (v := .slice (some ⟨bb, oo, none⟩) s.tiers.length c6) rfl (by kernel_rfl) (by kernel_rfl) (by kernel_rfl) (fun _ _ _ h => h) (Or.inl ⟨by rfl, ?_⟩) hHeld ?_
                    · intro ww hSw
                      (try dsimp only at hSw)
                      have hcl := (Below.cell hSw (p := ⟨g, 22, none⟩) (cell_lt q22)).trans q22
                      go_simp
                    simp only [Act.put, List.setIfInBounds_toArray, List.set_cons_zero, List.set_cons_succ]
                    refine wpAnyH_take (i := 18) (oi := ⟨some 50, _, _, _, _, _⟩) (v := ?_) rfl (by kernel_rfl) (by kernel_rfl) (by kernel_rfl) (fun _ _ _ h => h) (Or.inl ⟨by rfl, ?_⟩) hHeld ?_
                    rotate_left
                    · intro ww hSw
                      (try dsimp only at hSw)
                      go_simp
                      (try with_reducible rfl)
                    simp only [Act.put, List.setIfInBounds_toArray, List.set_cons_zero, List.set_cons_succ]
                    refine wpAnyH_take (i := 19) (oi := ⟨some 51, _, _, _, _, _⟩) (v := .int .i64 ((k : Nat) : Int)) rfl (by kernel_rfl) (by kernel_rfl) (by kernel_rfl) (fun _ _ _ h => h) (Or.inl ⟨by rfl, ?_⟩) hHeld ?_
                    · intro ww hSw
                      (try dsimp only at hSw)
                      go_simp
                      exact wrapi_id (by omega) (by omega)
                    simp only [Act.put, List.setIfInBounds_toArray, List.set_cons_zero, List.set_cons_succ]
                    refine wpAnyH_take (i := 20) (oi := ⟨some 52, _, _, _, _, _⟩) (v := ?_) rfl (by kernel_rfl) (by kernel_rfl) (by kernel_rfl) (fun _ _ _ h => h) (Or.inl ⟨by rfl, ?_⟩) hHeld ?_
                    rotate_left
                    · intro ww hSw
                      (try dsimp only at hSw)
                      go_simp
                      (try with_reducible rfl)
                    simp only [Act.put, List.setIfInBounds_toArray, List.set_cons_zero, List.set_cons_succ]
                    refine wpAnyH_take (i := 21) (oi := ⟨some 53, _, _, _, _, _⟩) (v := ?_) rfl (by kernel_rfl) (by kernel_rfl) (by kernel_rfl) (fun _ _ _ h => h) (Or.inl ⟨by rfl, ?_⟩) hHeld ?_
                    rotate_left
                    · intro ww hSw
                      (try dsimp only at hSw)
                      go_simp
                      (try with_reducible rfl)
                    simp only [Act.put, List.setIfInBounds_toArray, List.set_cons_zero, List.set_cons_succ]
                    refine wpAnyH_take (i := 22) (oi := ⟨some 54, _, _, _, _, _⟩) (v := .int .i64 y0) rfl (by kernel_rfl) (by kernel_rfl) (by kernel_rfl) (fun _ _ _ h => h) (Or.inl ⟨by rfl, ?_⟩) hHeld ?_
                    · intro ww hSw
                      (try dsimp only at hSw)
                      have hcl := (Below.cell hSw (p := ⟨bb, oo + k * 2, none⟩) (cell_lt zk)).trans zk
                      go_simp
                    simp only [Act.put, List.setIfInBounds_toArray, List.set_cons_zero, List.set_cons_succ]
                    refine wpAnyH_take (i := 23) (oi := ⟨some 55, _, _, _, _, _⟩) (v := .bool false) rfl (by kernel_rfl) (by kernel_rfl) (by kernel_rfl) (fun _ _ _ h => h) (Or.inl ⟨by rfl, ?_⟩) hHeld ?_
                    · intro ww hSw
                      (try dsimp only at hSw)
                      go_simp
                    simp only [Act.put, List.setIfInBounds_toArray, List.set_cons_zero, List.set_cons_succ]
                    refine wpAnyH_take (i := 24) (oi := ⟨some 56, _, _, _, _, _⟩) (v := ?_) rfl (by kernel_rfl) (by kernel_rfl) (by kernel_rfl) (fun _ _ _ h => h) (Or.inl ⟨by rfl, ?_⟩) hHeld ?_
                    rotate_left
                    · intro ww hSw
                      (try dsimp only at hSw)
                      go_simp
                      (try with_reducible rfl)
                    simp only [Act.put, List.setIfInBounds_toArray, List.set_cons_zero, List.set_cons_succ]
                    refine wpAnyH_take (i := 25) (oi := ⟨some 57, _, _, _, _, _⟩) (v := ?_) rfl (by kernel_rfl) (by kernel_rfl) (by kernel_rfl) (fun _ _ _ h => h) (Or.inl ⟨by rfl, ?_⟩) hHeld ?_
                    rotate_left
                    · intro ww hSw
                      (try dsimp only at hSw)
                      go_simp
                      (try with_reducible rfl)
                    simp only [Act.put, List.setIfInBounds_toArray, List.set_cons_zero, List.set_cons_succ]
                    refine wpAnyH_done (by kernel_rfl) ?_ _
                    refine NoPanic.normal ?_
                    have bU := bel_on b9 hbu3
                    go_wp2
                    go_roundw
                    case rel => exact ⟨k + 1 + 1, by omega, by go_num, HA, bU⟩
                    case measure => simp [intOf]; omega
              · have hw2 : withB x1 0 100000 = false := by
                  cases hq : withB x1 0 100000 with
                  | true => exact absurd (with_iff.1 hq) hB2
                  | false => rfl
                have HE := Lib.hid (HNO.out (HBD.out (fun h => hB2 ⟨(HTP.out.1 h).2.2.1, (HTP.out.1 h).2.2.2.1⟩)))
                clear HNX HBD HTP YK hA hB2
                refine wp_region_noPanic ?_
                refine wp_region_held_drew (S := fun w' => Below w9.heap.size w9 w') (by kernel_rfl) (below_drew (Below.refl _ _)) (fun hHeld => ?_)
                refine wpAnyH_take (i := 0) (oi := ⟨some 32, _, _, _, _, _⟩) (v := ?_) rfl (by kernel_rfl) (by kernel_rfl) (by kernel_rfl) (fun _ _ _ h => h) (Or.inl ⟨by rfl, ?_⟩) hHeld ?_
                rotate_left
                · intro ww hSw
                  (try dsimp only at hSw)
                  go_simp
                  (try with_reducible rfl)
                simp only [Act.put, List.setIfInBounds_toArray, List.set_cons_zero, List.set_cons_succ]
                refine wpAnyH_take (i := 1) (oi := ⟨some 33, _, _, _, _, _⟩) (v := .int .i64 x0) rfl (by kernel_rfl) (by kernel_rfl) (by kernel_rfl) (fun _ _ _ h => h) (Or.inl ⟨by rfl, ?_⟩) hHeld ?_
                · intro ww hSw
                  (try dsimp only at hSw)
                  have hcl := (Below.cell hSw (p := ⟨n9, 0, none⟩) (cell_lt t0)).trans t0
                  go_simp
                simp only [Act.put, List.setIfInBounds_toArray, List.set_cons_zero, List.set_cons_succ]
                refine wpAnyH_ready (rs := [2]) (by kernel_rfl) (by simp) ?_
                refine AllReadyH.cons (o := ⟨some 34, _, _, _, _, _⟩) rfl (fun K hK => ?_) AllReadyH.nil
                go_simp
                go_at_call 87
                refine (sameB (rwithin_at x0 0 1000 true hw1 _)).mono ?_
                rintro e_r u2 ⟨rfl, hbn⟩
                have hbu2 : Below w9.heap.size w9 u2 := bel_on (show Below w9.heap.size w9 _ by (repeat' (first | with_reducible exact Below.refl _ _ | with_reducible assumption | with_reducible refine bel_alloc ?_ _ | with_reducible refine bel_set ?_ ?_ _ | with_reducible refine below_drewN ?_ _ | with_reducible refine below_drew ?_ | (simp; done) | (simp; omega) | omega))) hbn
                clear hbn
                go_wp2_with fail
                refine hK.out _ _ ?_ (fun hHeld => ?_)
                · (try dsimp only)
                  exact hbu2
                clear hK K
                (try simp only [Act.put, List.setIfInBounds_toArray, List.set_cons_zero, List.set_cons_succ])
                refine wpAnyH_take (i := 3) (oi := ⟨some 35, _, _, _, _, _⟩) (v := ?_) rfl (by kernel_rfl) (by kernel_rfl) (by kernel_rfl) (fun _ _ _ h => h) (Or.inl ⟨by rfl, ?_⟩) hHeld ?_
                rotate_left
                · intro ww hSw
                  (try dsimp only at hSw)
                  go_simp
                  (try with_reducible rfl)
                simp only [Act.put, List.setIfInBounds_toArray, List.set_cons_zero, List.set_cons_succ]
                refine wpAnyH_take (i := 4) (oi := ⟨some 36, _, _, _, _, _⟩) (v := ?_) rfl (by kernel_rfl) (by kernel_rfl) (by kernel_rfl) (fun _ _ _ h => h) (Or.inl ⟨by rfl, ?_⟩) hHeld ?_
                rotate_left
                · intro ww hSw
                  (try dsimp only at hSw)
                  go_simp
                  (try with_reducible rfl)
                simp only [Act.put, List.setIfInBounds_toArray, List.set_cons_zero, List.set_cons_succ]
                refine wpAnyH_take (i := 5) (oi := ⟨some 37, _, _, _, _, _⟩) (v := ?_) rfl (by kernel_rfl) (by kernel_rfl) (by kernel_rfl) (fun _ _ _ h => h) (Or.inl ⟨by rfl, ?_⟩) hHeld ?_
                rotate_left
                · intro ww hSw
                  (try dsimp only at hSw)
                  go_simp
                  (try with_reducible rfl)
                simp only [Act.put, List.setIfInBounds_toArray, List.set_cons_zero, List.set_cons_succ]
                refine wpAnyH_take (i := 6) (oi := ⟨some 38, _, _, _, _, _⟩) (v := .int .i64 x1) rfl (by kernel_rfl) (by kernel_rfl) (by kernel_rfl) (fun _ _ _ h => h) (Or.inl ⟨by rfl, ?_⟩) hHeld ?_
                · intro ww hSw
                  (try dsimp only at hSw)
                  have hcl := (Below.cell hSw (p := ⟨n9, 1, none⟩) (cell_lt t1)).trans t1
                  go_simp
                simp only [Act.put, List.setIfInBounds_toArray, List.set_cons_zero, List.set_cons_succ]
                refine wpAnyH_ready (rs := [7]) (by kernel_rfl) (by simp) ?_
                refine AllReadyH.cons (o := ⟨some 39, _, _, _, _, _⟩) rfl (fun K hK => ?_) AllReadyH.nil
                go_simp
                go_at_call 87
                refine (sameB (rwithin_at x1 0 100000 false hw2 _)).mono ?_
                rintro e_r u3 ⟨rfl, hbn⟩
                have hbu3 : Below w9.heap.size w9 u3 := bel_on (show Below w9.heap.size w9 _ by (repeat' (first | with_reducible exact Below.refl _ _ | with_reducible assumption | with_reducible refine bel_alloc ?_ _ | with_reducible refine bel_set ?_ ?_ _ | with_reducible refine below_drewN ?_ _ | with_reducible refine below_drew ?_ | (simp; done) | (simp; omega) | omega))) hbn
                clear hbn
                go_wp2_with fail
                refine hK.out _ _ ?_ (fun hHeld => ?_)
                · (try dsimp only)
                  exact hbu3
                clear hK K
                (try simp only [Act.put, List.setIfInBounds_toArray, List.set_cons_zero, List.set_cons_succ])
                refine wpAnyH_take (i := 8) (oi := ⟨some 40, _, _, _, _, _⟩) (v := ?_) rfl (by kernel_rfl) (by kernel_rfl) (by kernel_rfl) (fun _ _ _ h => h) (Or.inl ⟨by rfl, ?_⟩) hHeld ?_
                rotate_left
                · intro ww hSw
                  (try dsimp only at hSw)
                  go_simp
                  (try with_reducible rfl)
                simp only [Act.put, List.setIfInBounds_toArray, List.set_cons_zero, List.set_cons_succ]
                refine wpAnyH_take (i := 9) (oi := ⟨some 41, _, _, _, _, _⟩) (v := ?_) rfl (by kernel_rfl) (by kernel_rfl) (by kernel_rfl) (fun _ _ _ h => h) (Or.inl ⟨by rfl, ?_⟩) hHeld ?_
                rotate_left
                · intro ww hSw
                  (try dsimp only at hSw)
                  go_simp
                  (try with_reducible rfl)
                simp only [Act.put, List.setIfInBounds_toArray, List.set_cons_zero, List.set_cons_succ]
                refine wpAnyH_take (i := 10) (oi := ⟨some 42, _, _, _, _, _⟩) (v := ?_) rfl (by kernel_rfl) (by kernel_rfl) (by kernel_rfl) (fun _ _ _ h => h) (Or.inl ⟨by rfl, ?_⟩) hHeld ?_
                rotate_left
                · intro ww hSw
                  (try dsimp only at hSw)
                  go_simp
                  (try with_reducible rfl)
                simp only [Act.put, List.setIfInBounds_toArray, List.set_cons_zero, List.set_cons_succ]
                refine wpAnyH_take (i := 11) (oi := ⟨some 43, _, _, _, _, _⟩) (v := undef) rfl (by kernel_rfl) (by kernel_rfl) (by kernel_rfl) (fun _ _ _ h => h) (Or.inr ⟨by rfl, rfl⟩) hHeld ?_
                simp only [Act.put, List.setIfInBounds_toArray, List.set_cons_zero, List.set_cons_succ]
                refine wpAnyH_take (i := 12) (oi := ⟨some 44, _, _, _, _, _⟩) (v := undef) rfl (by kernel_rfl) (by kernel_rfl) (by kernel_rfl) (fun _ _ _ h => h) (Or.inr ⟨by rfl, rfl⟩) hHeld ?_
                simp only [Act.put, List.setIfInBounds_toArray, List.set_cons_zero, List.set_cons_succ]
                refine wpAnyH_take (i := 13) (oi := ⟨some 45, _, _, _, _, _⟩) (v := undef) rfl (by kernel_rfl) (by kernel_rfl) (by kernel_rfl) (fun _ _ _ h => h) (Or.inr ⟨by rfl, rfl⟩) hHeld ?_
                simp only [Act.put, List.setIfInBounds_toArray, List.set_cons_zero, List.set_cons_succ]
                refine wpAnyH_take (i := 14) (oi := ⟨some 46, _, _, _, _, _⟩) (v := undef) rfl (by kernel_rfl) (by kernel_rfl) (by kernel_rfl) (fun _ _ _ h => h) (Or.inr ⟨by rfl, rfl⟩) hHeld ?_
                simp only [Act.put, List.setIfInBounds_toArray, List.set_cons_zero, List.set_cons_succ]
                refine wpAnyH_take (i := 15) (oi := ⟨some 47, _, _, _, _, _⟩) (v := undef) rfl (by kernel_rfl) (by kernel_rfl) (by kernel_rfl) (fun _ _ _ h => h) (Or.inr ⟨by rfl, rfl⟩) hHeld ?_
                simp only [Act.put, List.setIfInBounds_toArray, List.set_cons_zero, List.set_cons_succ]
                refine wpAnyH_take (i := 16) (oi := ⟨some 48, _, _, _, _, _⟩) (v := undef) rfl (by kernel_rfl) (by kernel_rfl) (by kernel_rfl) (fun _ _ _ h => h) (Or.inr ⟨by rfl, rfl⟩) hHeld ?_
                simp only [Act.put, List.setIfInBounds_toArray, List.set_cons_zero, List.set_cons_succ]
                refine wpAnyH_take (i := 17) (oi := ⟨some 49, _, _, _, _, _⟩) (v := undef) rfl (by kernel_rfl) (by kernel_rfl) (by kernel_rfl) (fun _ _ _ h => h) (Or.inr ⟨by rfl, rfl⟩) hHeld ?_
                simp only [Act.put, List.setIfInBounds_toArray, List.set_cons_zero, List.set_cons_succ]
                refine wpAnyH_take (i := 18) (oi := ⟨some 50, _, _, _, _, _⟩) (v := undef) rfl (by kernel_rfl) (by kernel_rfl) (by kernel_rfl) (fun _ _ _ h => h) (Or.inr ⟨by rfl, rfl⟩) hHeld ?_
                simp only [Act.put, List.setIfInBounds_toArray, List.set_cons_zero, List.set_cons_succ]
                refine wpAnyH_take (i := 19) (oi := ⟨some 51, _, _, _, _, _⟩) (v := undef) rfl (by kernel_rfl) (by kernel_rfl) (by kernel_rfl) (fun _ _ _ h => h) (Or.inr ⟨by rfl, rfl⟩) hHeld ?_
                simp only [Act.put, List.setIfInBounds_toArray, List.set_cons_zero, List.set_cons_succ]
                refine wpAnyH_take (i := 20) (oi := ⟨some 52, _, _, _, _, _⟩) (v := undef) rfl (by kernel_rfl) (by kernel_rfl) (by kernel_rfl) (fun _ _ _ h => h) (Or.inr ⟨by rfl, rfl⟩) hHeld ?_
                simp only [Act.put, List.setIfInBounds_toArray, List.set_cons_zero, List.set_cons_succ]
                refine wpAnyH_take (i := 21) (oi := ⟨some 53, _, _, _, _, _⟩) (v := undef) rfl (by kernel_rfl) (by kernel_rfl) (by kernel_rfl) (fun _ _ _ h => h) (Or.inr ⟨by rfl, rfl⟩) hHeld ?_
                simp only [Act.put, List.setIfInBounds_toArray, List.set_cons_zero, List.set_cons_succ]
                refine wpAnyH_take (i := 22) (oi := ⟨some 54, _, _, _, _, _⟩) (v := undef) rfl (by kernel_rfl) (by kernel_rfl) (by kernel_rfl) (fun _ _ _ h => h) (Or.inr ⟨by rfl, rfl⟩) hHeld ?_
                simp only [Act.put, List.setIfInBounds_toArray, List.set_cons_zero, List.set_cons_succ]
                refine wpAnyH_take (i := 23) (oi := ⟨some 55, _, _, _, _, _⟩) (v := undef) rfl (by kernel_rfl) (by kernel_rfl) (by kernel_rfl) (fun _ _ _ h => h) (Or.inr ⟨by rfl, rfl⟩) hHeld ?_
                simp only [Act.put, List.setIfInBounds_toArray, List.set_cons_zero, List.set_cons_succ]
                refine wpAnyH_take (i := 24) (oi := ⟨some 56, _, _, _, _, _⟩) (v := undef) rfl (by kernel_rfl) (by kernel_rfl) (by kernel_rfl) (fun _ _ _ h => h) (Or.inr ⟨by rfl, rfl⟩) hHeld ?_
                simp only [Act.put, List.setIfInBounds_toArray, List.set_cons_zero, List.set_cons_succ]
                refine wpAnyH_take (i := 25) (oi := ⟨some 57, _, _, _, _, _⟩) (v := ?_) rfl (by kernel_rfl) (by kernel_rfl) (by kernel_rfl) (fun _ _ _ h => h) (Or.inl ⟨by rfl, ?_⟩) hHeld ?_
                rotate_left
                · intro ww hSw
                  (try dsimp only at hSw)
                  go_simp
                  (try with_reducible rfl)
                simp only [Act.put, List.setIfInBounds_toArray, List.set_cons_zero, List.set_cons_succ]
                refine wpAnyH_done (by kernel_rfl) ?_ _
                refine NoPanic.normal ?_
                have bU := bel_on b9 hbu3
                go_wp2
                go_ret
                exact ⟨ret_bool HE.out.symm, bel_on HBW.out bU⟩
            · have hw1 : withB x0 0 1000 = false := by
                cases hq : withB x0 0 1000 with
                | true => exact absurd (with_iff.1 hq) hA
                | false => rfl
              have HE := Lib.hid (HNO.out (HBD.out (fun h => hA ⟨(HTP.out.1 h).1, (HTP.out.1 h).2.1⟩)))
              clear HNX HBD HTP YK hA
              refine wp_region_noPanic ?_
              refine wp_region_held_drew (S := fun w' => Below w9.heap.size w9 w') (by kernel_rfl) (below_drew (Below.refl _ _)) (fun hHeld => ?_)
              refine wpAnyH_take (i := 0) (oi := ⟨some 32, _, _, _, _, _⟩) (v := ?_) rfl (by kernel_rfl) (by kernel_rfl) (by kernel_rfl) (fun _ _ _ h => h) (Or.inl ⟨by rfl, ?_⟩) hHeld ?_
              rotate_left
              · intro ww hSw
                (try dsimp only at hSw)
                go_simp
                (try with_reducible rfl)
              simp only [Act.put, List.setIfInBounds_toArray, List.set_cons_zero, List.set_cons_succ]
              refine wpAnyH_take (i := 1) (oi := ⟨some 33, _, _, _, _, _⟩) (v := .int .i64 x0) rfl (by kernel_rfl) (by kernel_rfl) (by kernel_rfl) (fun _ _ _ h => h) (Or.inl ⟨by rfl, ?_⟩) hHeld ?_
              · intro ww hSw
                (try dsimp only at hSw)
                have hcl := (Below.cell hSw (p := ⟨n9, 0, none⟩) (cell_lt t0)).trans t0
                go_simp
              simp only [Act.put, List.setIfInBounds_toArray, List.set_cons_zero, List.set_cons_succ]
              refine wpAnyH_ready (rs := [2]) (by kernel_rfl) (by simp) ?_
              refine AllReadyH.cons (o := ⟨some 34, _, _, _, _, _⟩) rfl (fun K hK => ?_) AllReadyH.nil
              go_simp
              go_at_call 87
              refine (sameB (rwithin_at x0 0 1000 false hw1 _)).mono ?_
              rintro e_r u2 ⟨rfl, hbn⟩
              have hbu2 : Below w9.heap.size w9 u2 := bel_on (show Below w9.heap.size w9 _ by (repeat' (first | with_reducible exact Below.refl _ _ | with_reducible assumption | with_reducible refine bel_alloc ?_ _ | with_reducible refine bel_set ?_ ?_ _ | with_reducible refine below_drewN ?_ _ | with_reducible refine below_drew ?_ | (simp; done) | (simp; omega) | omega))) hbn
              clear hbn
              go_wp2_with fail
              refine hK.out _ _ ?_ (fun hHeld => ?_)
              · (try dsimp only)
                exact hbu2
              clear hK K
              (try simp only [Act.put, List.setIfInBounds_toArray, List.set_cons_zero, List.set_cons_succ])
              refine wpAnyH_take (i := 3) (oi := ⟨some 35, _, _, _, _, _⟩) (v := ?_) rfl (by kernel_rfl) (by kernel_rfl) (by kernel_rfl) (fun _ _ _ h => h) (Or.inl ⟨by rfl, ?_⟩) hHeld ?_
              rotate_left
              · intro ww hSw
                (try dsimp only at hSw)
                go_simp
                (try with_reducible rfl)
              simp only [Act.put, List.setIfInBounds_toArray, List.set_cons_zero, List.set_cons_succ]
              refine wpAnyH_take (i := 4) (oi := ⟨some 36, _, _, _, _, _⟩) (v := ?_) rfl (by kernel_rfl) (by kernel_rfl) (by kernel_rfl) (fun _ _ _ h => h) (Or.inl ⟨by rfl, ?_⟩) hHeld ?_
              rotate_left
              · intro ww hSw
                (try dsimp only at hSw)
                go_simp
                (try with_reducible rfl)
              simp only [Act.put, List.setIfInBounds_toArray, List.set_cons_zero, List.set_cons_succ]
              refine wpAnyH_take (i := 5) (oi := ⟨some 37, _, _, _, _, _⟩) (v := undef) rfl (by kernel_rfl) (by kernel_rfl) (by kernel_rfl) (fun _ _ _ h => h) (Or.inr ⟨by rfl, rfl⟩) hHeld ?_
              simp only [Act.put, List.setIfInBounds_toArray, List.set_cons_zero, List.set_cons_succ]
              refine wpAnyH_take (i := 6) (oi := ⟨some 38, _, _, _, _, _⟩) (v := undef) rfl (by kernel_rfl) (by kernel_rfl) (by kernel_rfl) (fun _ _ _ h => h) (Or.inr ⟨by rfl, rfl⟩) hHeld ?_
              simp only [Act.put, List.setIfInBounds_toArray, List.set_cons_zero, List.set_cons_succ]
              refine wpAnyH_take (i := 7) (oi := ⟨some 39, _, _, _, _, _⟩) (v := undef) rfl (by kernel_rfl) (by kernel_rfl) (by kernel_rfl) (fun _ _ _ h => h) (Or.inr ⟨by rfl, rfl⟩) hHeld ?_
              simp only [Act.put, List.setIfInBounds_toArray, List.set_cons_zero, List.set_cons_succ]
              refine wpAnyH_take (i := 8) (oi := ⟨some 40, _, _, _, _, _⟩) (v := undef) rfl (by kernel_rfl) (by kernel_rfl) (by kernel_rfl) (fun _ _ _ h => h) (Or.inr ⟨by rfl, rfl⟩) hHeld ?_
              simp only [Act.put, List.setIfInBounds_toArray, List.set_cons_zero, List.set_cons_succ]
              refine wpAnyH_take (i := 9) (oi := ⟨some 41, _, _, _, _, _⟩) (v := ?_) rfl (by kernel_rfl) (by kernel_rfl) (by kernel_rfl) (fun _ _ _ h => h) (Or.inl ⟨by rfl, ?_⟩) hHeld ?_
              rotate_left
              · intro ww hSw
                (try dsimp only at hSw)
                go_simp
                (try with_reducible rfl)
              simp only [Act.put, List.setIfInBounds_toArray, List.set_cons_zero, List.set_cons_succ]
              refine wpAnyH_take (i := 10) (oi := ⟨some 42, _, _, _, _, _⟩) (v := ?_) rfl (by kernel_rfl) (by kernel_rfl) (by kernel_rfl) (fun _ _ _ h => h) (Or.inl ⟨by rfl, ?_⟩) hHeld ?_
              rotate_left
              · intro ww hSw
                (try dsimp only at hSw)
                go_simp
                (try with_reducible rfl)
              simp only [Act.put, List.setIfInBounds_toArray, List.set_cons_zero, List.set_cons_succ]
              refine wpAnyH_take (i := 11) (oi := ⟨some 43, _, _, _, _, _⟩) (v := undef) rfl (by kernel_rfl) (by kernel_rfl) (by kernel_rfl) (fun _ _ _ h => h) (Or.inr ⟨by rfl, rfl⟩) hHeld ?_
              simp only [Act.put, List.setIfInBounds_toArray, List.set_cons_zero, List.set_cons_succ]
              refine wpAnyH_take (i := 12) (oi := ⟨some 44, _, _, _, _, _⟩) (v := undef) rfl (by kernel_rfl) (by kernel_rfl) (by kernel_rfl) (fun _ _ _ h => h) (Or.inr ⟨by rfl, rfl⟩) hHeld ?_
              simp only [Act.put, List.setIfInBounds_toArray, List.set_cons_zero, List.set_cons_succ]
              refine wpAnyH_take (i := 13) (oi := ⟨some 45, _, _, _, _, _⟩) (v := undef) rfl (by kernel_rfl) (by kernel_rfl) (by kernel_rfl) (fun _ _ _ h => h) (Or.inr ⟨by rfl, rfl⟩) hHeld ?_
              simp only [Act.put, List.setIfInBounds_toArray, List.set_cons_zero, List.set_cons_succ]
              refine wpAnyH_take (i := 14) (oi := ⟨some 46, _, _, _, _, _⟩) (v := undef) rfl (by kernel_rfl) (by kernel_rfl) (by kernel_rfl) (fun _ _ _ h => h) (Or.inr ⟨by rfl, rfl⟩) hHeld ?_
              simp only [Act.put, List.setIfInBounds_toArray, List.set_cons_zero, List.set_cons_succ]
              refine wpAnyH_take (i := 15) (oi := ⟨some 47, _, _, _, _, _⟩) (v := undef) rfl (by kernel_rfl) (by kernel_rfl) (by kernel_rfl) (fun _ _ _ h => h) (Or.inr ⟨by rfl, rfl⟩) hHeld ?_
              simp only [Act.put, List.setIfInBounds_toArray, List.set_cons_zero, List.set_cons_succ]
              refine wpAnyH_take (i := 16) (oi := ⟨some 48, _, _, _, _, _⟩) (v := undef) rfl (by kernel_rfl) (by kernel_rfl) (by kernel_rfl) (fun _ _ _ h => h) (Or.inr ⟨by rfl, rfl⟩) hHeld ?_
              simp only [Act.put, List.setIfInBounds_toArray, List.set_cons_zero, List.set_cons_succ]
              refine wpAnyH_take (i := 17) (oi := ⟨some 49, _, _, _, _, _⟩) (v := undef) rfl (by kernel_rfl) (by kernel_rfl) (by kernel_rfl) (fun _ _ _ h => h) (Or.inr ⟨by rfl, rfl⟩) hHeld ?_
              simp only [Act.put, List.setIfInBounds_toArray, List.set_cons_zero, List.set_cons_succ]
              refine wpAnyH_take (i := 18) (oi := ⟨some 50, _, _, _, _, _⟩) (v := undef) rfl (by kernel_rfl) (by kernel_rfl) (by kernel_rfl) (fun _ _ _ h => h) (Or.inr ⟨by rfl, rfl⟩) hHeld ?_
              simp only [Act.put, List.setIfInBounds_toArray, List.set_cons_zero, List.set_cons_succ]
              refine wpAnyH_take (i := 19) (oi := ⟨some 51, _, _, _, _, _⟩) (v := undef) rfl (by kernel_rfl) (by kernel_rfl) (by kernel_rfl) (fun _ _ _ h => h) (Or.inr ⟨by rfl, rfl⟩) hHeld ?_
              simp only [Act.put, List.setIfInBounds_toArray, List.set_cons_zero, List.set_cons_succ]
              refine wpAnyH_take (i := 20) (oi := ⟨some 52, _, _, _, _, _⟩) (v := undef) rfl (by kernel_rfl) (by kernel_rfl) (by kernel_rfl) (fun _ _ _ h => h) (Or.inr ⟨by rfl, rfl⟩) hHeld ?_
              simp only [Act.put, List.setIfInBounds_toArray, List.set_cons_zero, List.set_cons_succ]
              refine wpAnyH_take (i := 21) (oi := ⟨some 53, _, _, _, _, _⟩) (v := undef) rfl (by kernel_rfl) (by kernel_rfl) (by kernel_rfl) (fun _ _ _ h => h) (Or.inr ⟨by rfl, rfl⟩) hHeld ?_
              simp only [Act.put, List.setIfInBounds_toArray, List.set_cons_zero, List.set_cons_succ]
              refine wpAnyH_take (i := 22) (oi := ⟨some 54, _, _, _, _, _⟩) (v := undef) rfl (by kernel_rfl) (by kernel_rfl) (by kernel_rfl) (fun _ _ _ h => h) (Or.inr ⟨by rfl, rfl⟩) hHeld ?_
              simp only [Act.put, List.setIfInBounds_toArray, List.set_cons_zero, List.set_cons_succ]
              refine wpAnyH_take (i := 23) (oi := ⟨some 55, _, _, _, _, _⟩) (v := undef) rfl (by kernel_rfl) (by kernel_rfl) (by kernel_rfl) (fun _ _ _ h => h) (Or.inr ⟨by rfl, rfl⟩) hHeld ?_
              simp only [Act.put, List.setIfInBounds_toArray, List.set_cons_zero, List.set_cons_succ]
              refine wpAnyH_take (i := 24) (oi := ⟨some 56, _, _, _, _, _⟩) (v := undef) rfl (by kernel_rfl) (by kernel_rfl) (by kernel_rfl) (fun _ _ _ h => h) (Or.inr ⟨by rfl, rfl⟩) hHeld ?_
              simp only [Act.put, List.setIfInBounds_toArray, List.set_cons_zero, List.set_cons_succ]
              refine wpAnyH_take (i := 25) (oi := ⟨some 57, _, _, _, _, _⟩) (v := ?_) rfl (by kernel_rfl) (by kernel_rfl) (by kernel_rfl) (fun _ _ _ h => h) (Or.inl ⟨by rfl, ?_⟩) hHeld ?_
              rotate_left
              · intro ww hSw
                (try dsimp only at hSw)
                go_simp
                (try with_reducible rfl)
              simp only [Act.put, List.setIfInBounds_toArray, List.set_cons_zero, List.set_cons_succ]
              refine wpAnyH_done (by kernel_rfl) ?_ _
              refine NoPanic.normal ?_
              have bU := bel_on b9 hbu2
              go_wp2
              go_ret
              exact ⟨ret_bool HE.out.symm, bel_on HBW.out bU⟩
          · obtain rfl : j = s.tiers.length := by omega
            have q18 := (Below.cell hb (p := ⟨g, 18, none⟩) hgs).trans (HB.out.cell 18 rfl)
            have q19 := (Below.cell hb (p := ⟨g, 19, none⟩) hgs).trans (HB.out.cell 19 rfl)
            have q20 := (Below.cell hb (p := ⟨g, 20, none⟩) hgs).trans (HB.out.cell 20 rfl)
            have H1 := Lib.hid (fun wx => rwithin_at (s.rates.length : Int) 1 16 _ rfl wx)
            have H2 := Lib.hid (fun wx => rwithin_at s.diff 0 100000 _ rfl wx)
            have H3 := Lib.hid (fun wx => rwithin_at s.least 0 100000 _ rfl wx)
            have HE : Hid (q = (withB (s.rates.length : Int) 1 16 && (decide ((s.tiers.length : Int) ≤ 8) && (withB s.diff 0 100000 && withB s.least 0 100000)))) := by
              show _ = _
              apply Bool.eq_iff_iff.2
              rw [HQ.out]
              simp only [Bool.and_eq_true, with_iff, decide_eq_true_eq]
              constructor
              · rintro ⟨_, _, h3, h4, h5, h6⟩
                exact ⟨by omega, by omega, h5, h6⟩
              · rintro ⟨h3, h4, h5, h6⟩
                exact ⟨HRA.out, ha.out, by omega, by omega, h5, h6⟩
            generalize withB (s.rates.length : Int) 1 16 = q1 at *
            generalize withB s.diff 0 100000 = q2 at *
            generalize withB s.least 0 100000 = q3 at *
            have bF := bel_on HBW.out hb
            clear ha HQ HNO HRA
            go_wp2_with fail
            refine (H1.out _).mono ?_
            rintro e w_ ⟨rfl, rfl⟩
            cases q1
            · go_wp2
              go_ret
              exact ⟨ret_bool (by rw [HE.out]; simp), bF⟩
            by_cases h8 : (s.tiers.length : Int) ≤ 8
            · have h8' := Lib.hid (decide_eq_true h8)
              go_wp2_with fail
              refine (H2.out _).mono ?_
              rintro e w_ ⟨rfl, rfl⟩
              cases q2
              · go_wp2
                go_ret
                exact ⟨ret_bool (by rw [HE.out]; simp), bF⟩
              go_wp2_with fail
              refine (H3.out _).mono ?_
              rintro e w_ ⟨rfl, rfl⟩
              go_wp2
              go_ret
              exact ⟨ret_bool (by rw [HE.out, h8'.out]; simp), bF⟩
            · have h8' := Lib.hid (decide_eq_false h8)
              go_wp2
              go_ret
              exact ⟨ret_bool (by rw [HE.out, h8'.out]; simp), bF⟩
end Go.Proofs.Ytdhkfhgggkndoaa

namespace Go.Proofs.Ytdhkfhgggkndoaa
open Go.RowKit
set_option linter.unusedVariables false
set_option linter.unusedSimpArgs false
set_option maxRecDepth 20000

theorem rates_get {l : List Int} : (∀ i, i < l.length → rateP (l.getD i 0)) ↔ ∀ n ∈ l, rateP n := by
  constructor
  · intro h n hn
    obtain ⟨i, hi, rfl⟩ := List.getElem_of_mem hn
    have := h i hi
    simpa [List.getD, hi] using this
  · intro h i hi
    exact h _ (by simp [List.getD, hi])
open Classical in
theorem rcheck_eq (s : SetP) : (groundB s && (shareB s.pn s.pd && (eleB s.elements && (ratB s.classes && (ratB s.gears && (rtimesB s && decide (rmoneyP s))))))) = checkB s := by
  apply Bool.eq_iff_iff.2
  rw [check_iff]
  unfold rtimesB rmoneyP
  simp only [Bool.and_eq_true, ground_iff, ele_iff, rat_iff, with_iff, decide_eq_true_eq, rates_get]
  constructor
  · rintro ⟨⟨g1, g2⟩, w1, w2, w3, w4, ⟨a1, a2, a3, ⟨⟨⟨⟨⟨t1, t2, t3⟩, t4, t5, t6⟩, t7⟩, t8⟩, t9⟩⟩, m1, m2, m3, m4, m5, m6⟩
    exact ⟨g1, g2, w1, w2, w3, w4, a1, a2, a3, t1, t2, t3, t4, t5, t6, t7, t8, t9, ⟨m3.1, m3.2, m1⟩, m5, m6, m4, m2⟩
  · intro h
    exact ⟨⟨h.places, h.ways⟩, h.pace, h.elements, h.classes, h.gears, ⟨h.allow, h.unit, h.cap, ⟨⟨⟨⟨⟨h.paid, h.aft, h.brk⟩, h.nfrom, h.nto, h.fault⟩, h.reg⟩, h.over⟩, h.week⟩⟩, h.rates.2.2, h.tiers.2, ⟨h.rates.1, h.rates.2.1⟩, h.tiers.1, h.diff, h.least⟩
open Classical in
set_option maxHeartbeats 8000000 in
theorem rsetcheck_c {w : World} {s : SetP} {cs : Array Value} (h : SetC w s cs) (hf : s.Fit) (q : Bool) (hq : checkB s = q) :
    Calls Try.prog 14 #[.agg cs] w fun e w' => e = .returned (.bool q) ∧ Below w.heap.size w w' := by
  have HZ := Lib.hid h.size
  have HE := Lib.hid (rcheck_eq s)
  rw [hq] at HE
  have K1 := Lib.hid (fun wx (h : SetC wx s cs) => rways_c h _ rfl)
  have K2 := Lib.hid (fun wx => rshare_any s.pn s.pd wx hf.pn hf.pd _ rfl)
  have K6 := Lib.hid (fun wx (h : SetC wx s cs) => rtimes_c h _ rfl)
  have K7 := Lib.hid (fun wx (h : SetC wx s cs) => rmoney_c h (decide (rmoneyP s)) (by simp))
  have HS := Lib.hid h
  obtain ⟨A1, A2, A3, A4, A5, A6, c1, c2, c3, c4, c5, c6, h1, h2⟩ := h
  have K3 := Lib.hid (fun wx (hb : Below w.heap.size w wx) => relements_any A2 c2 s.elements.length s.elements wx (h2.elements.below hb) _ rfl)
  have K4 := Lib.hid (fun wx (hb : Below w.heap.size w wx) => rshares_any A3 c3 s.classes.length s.classes wx (h2.classes.below hb) _ rfl)
  have K5 := Lib.hid (fun wx (hb : Below w.heap.size w wx) => rshares_any A4 c4 s.gears.length s.gears wx (h2.gears.below hb) _ rfl)
  have g2 : Hid (cs[2]? = some (.int .i64 s.pn) ∧ cs[3]? = some (.int .i64 s.pd) ∧ cs[4]? = some (.slice A2 s.elements.length c2) ∧ cs[5]? = some (.slice A3 s.classes.length c3) ∧ cs[6]? = some (.slice A4 s.gears.length c4)) := by
    unfold setV at h1
    injection h1 with h1
    subst h1
    exact ⟨rfl, rfl, rfl, rfl, rfl⟩
  generalize groundB s = q1 at *
  generalize shareB s.pn s.pd = q2 at *
  generalize eleB s.elements = q3 at *
  generalize ratB s.classes = q4 at *
  generalize ratB s.gears = q5 at *
  generalize rtimesB s = q6 at *
  generalize decide (rmoneyP s) = q7 at *
  clear h1 h2 hf hq
  go_enter Try.func14, Try.ntmps14
  go_wp2_with (refine wpList_load_has (by rfl) _ rfl w.heap.size rfl cs (Has.new _ _ _ rfl) HZ.out ?_)
  refine (K1.out _ (HS.out.below (bel_alloc (Below.refl _ _) _))).mono ?_
  rintro e w1 ⟨rfl, b1⟩
  have HB := Lib.hid ((Has.new w 30 cs rfl).below b1)
  replace b1 := bel_on (bel_alloc (Below.refl _ _) _) b1
  have r2 := HB.out.cell 2 g2.out.1
  have r3 := HB.out.cell 3 g2.out.2.1
  have hs1 := cell_lt r2
  go_wp2_with fail
  refine (K2.out _).mono ?_
  rintro e w2 ⟨rfl, b2⟩
  replace HB := Lib.hid (HB.out.below b2)
  replace b2 := bel_on b1 b2
  clear b1 r2 r3 hs1
  have r4 := HB.out.cell 4 g2.out.2.2.1
  have hs2 := cell_lt r4
  go_wp2_with fail
  refine (K3.out _ b2).mono ?_
  rintro e w3 ⟨rfl, b3⟩
  replace HB := Lib.hid (HB.out.below b3)
  replace b3 := bel_on b2 b3
  clear b2 r4 hs2
  have r5 := HB.out.cell 5 g2.out.2.2.2.1
  have hs3 := cell_lt r5
  go_wp2_with fail
  refine (K4.out _ b3).mono ?_
  rintro e w4 ⟨rfl, b4⟩
  replace HB := Lib.hid (HB.out.below b4)
  replace b4 := bel_on b3 b4
  clear b3 r5 hs3
  have r6 := HB.out.cell 6 g2.out.2.2.2.2
  have hs4 := cell_lt r6
  go_wp2_with fail
  refine (K5.out _ b4).mono ?_
  rintro e w5 ⟨rfl, b5⟩
  replace HB := Lib.hid (HB.out.below b5)
  replace b5 := bel_on b4 b5
  clear b4 r6 hs4
  go_wp2_with (refine wpList_load_has (by rfl) _ rfl w.heap.size rfl cs HB.out HZ.out ?_)
  refine (K6.out _ (HS.out.below b5)).mono ?_
  rintro e w6 ⟨rfl, b6⟩
  replace HB := Lib.hid (HB.out.below b6)
  replace b6 := bel_on b5 b6
  clear b5
  go_wp2_with (refine wpList_load_has (by rfl) _ rfl w.heap.size rfl cs HB.out HZ.out ?_)
  refine (K7.out _ (HS.out.below b6)).mono ?_
  rintro e w7 ⟨rfl, b7⟩
  replace b7 := bel_on b6 b7
  clear b6 K1 K2 K3 K4 K5 K6 K7 HB HS
  cases q1
  · go_wp2
    go_ret
    exact ⟨ret_bool (by rw [← HE.out]; simp), b7⟩
  cases q2
  · go_wp2
    go_ret
    exact ⟨ret_bool (by rw [← HE.out]; simp), b7⟩
  cases q3
  · go_wp2
    go_ret
    exact ⟨ret_bool (by rw [← HE.out]; simp), b7⟩
  cases q4
  · go_wp2
    go_ret
    exact ⟨ret_bool (by rw [← HE.out]; simp), b7⟩
  cases q5
  · go_wp2
    go_ret
    exact ⟨ret_bool (by rw [← HE.out]; simp), b7⟩
  cases q6
  · go_wp2
    go_ret
    exact ⟨ret_bool (by rw [← HE.out]; simp), b7⟩
  · go_wp2
    go_ret
    exact ⟨ret_bool (by rw [← HE.out]; simp), b7⟩
theorem okN_nats {l : List Int} (h : okN l) : (l.map Int.toNat).map (fun n : Nat => (n : Int)) = l := natsI_toNat h
theorem check_not {s : SetP} (h : ¬ s.May) : checkB s = false := by
  cases hc : checkB s with
  | true => exact absurd (check_iff.1 hc) h
  | false => rfl
theorem may_few7 {s : SetP} (h : s.May) : s.Few := ⟨by have := h.ways.1; omega, by have := h.elements.1; omega, by have := h.classes.1; omega, by have := h.gears.1; omega, by have := h.rates.2.1; omega, by have := h.tiers.1; omega⟩
set_option maxHeartbeats 4000000 in
theorem rswrite_c {w : World} {s : SetP} {cs : Array Value} (h : SetC w s cs) (hf : s.Fit) (X : List (BitVec 8)) (E : Int) (n : Nat) (hX : writeE s = (X, E)) (hn : X.length = n) :
    Calls Try.prog 9 #[.agg cs] w fun e w' => ∃ A c, e = .returned (.tuple #[.slice A n c, .int .i64 E]) ∧ BRow w' w.heap.size A c X ∧ Below w.heap.size w w' := by
  have HZ := Lib.hid h.size
  have HS := Lib.hid h
  by_cases hm : s.May
  · rw [writeE_ok hm] at hX
    obtain ⟨rfl, rfl⟩ := Prod.mk.inj hX
    have hok := nums_ok h.wide hm
    have hnl := nums_len h.wide (may_few7 hm)
    have HK := Lib.hid (fun wx (h : SetC wx s cs) => rsetcheck_c h hf true (check_iff.2 hm))
    have HN := Lib.hid (fun wx (h : SetC wx s cs) => numbers_c h (may_few7 hm) s.nums s.nums.length rfl rfl)
    have HP := Lib.hid (fun wx B d (hB : Nums wx B s.nums) => rput_ok none 0 0 [] B s.nums.length d (s.nums.map Int.toNat) wx Sl.nil_ (by rw [okN_nats hok]; exact hB) (by rw [List.length_map]) (fun z hz => by
      simp only [List.mem_map] at hz
      obtain ⟨y, hy, rfl⟩ := hz
      have := hok y hy
      omega) (by omega) (by omega))
    have EB : Hid (putB (s.nums.map Int.toNat) = s.bytes) := rfl
    rw [EB.out] at HP
    generalize s.nums = zs at *
    generalize s.bytes = bs at *
    generalize hk : zs.length = k at *
    rw [hn] at HP
    clear h hm hok hX hf EB hk
    go_enter Try.func9, Try.ntmps9
    go_wp2_with (refine wpList_load_has (by rfl) _ rfl w.heap.size rfl cs (Has.new _ _ _ rfl) HZ.out ?_)
    refine (HK.out _ (HS.out.below (bel_alloc (Below.refl _ _) _))).mono ?_
    rintro e w1 ⟨rfl, b1⟩
    have HB := Lib.hid ((Has.new w 30 cs rfl).below b1)
    replace b1 := bel_on (bel_alloc (Below.refl _ _) _) b1
    go_wp2_with (refine wpList_load_has (by rfl) _ rfl w.heap.size rfl cs HB.out HZ.out ?_)
    refine (HN.out _ (HS.out.below b1)).mono ?_
    rintro e w2 ⟨A2, c2, rfl, r2, b2⟩
    have HR := Lib.hid r2.nums
    replace b2 := bel_on b1 b2
    clear b1 r2
    go_wp2_with fail
    refine (HP.out _ _ _ HR.out).mono ?_
    rintro e w3 ⟨A3, c3, rfl, r3, b3⟩
    rw [Nat.zero_add]
    rw [List.nil_append] at r3
    have HR3 := Lib.hid (r3.mono b2.size)
    replace b3 := bel_on b2 b3
    clear r3 b2
    go_wp2
    go_ret2
    exact ⟨A3, c3, rfl, HR3.out, b3⟩
  · rw [writeE_bad hm] at hX
    obtain ⟨rfl, rfl⟩ := Prod.mk.inj hX
    subst hn
    have HK := Lib.hid (fun wx (h : SetC wx s cs) => rsetcheck_c h hf false (check_not hm))
    clear h hm hX hf
    go_enter Try.func9, Try.ntmps9
    go_wp2_with (refine wpList_load_has (by rfl) _ rfl w.heap.size rfl cs (Has.new _ _ _ rfl) HZ.out ?_)
    refine (HK.out _ (HS.out.below (bel_alloc (Below.refl _ _) _))).mono ?_
    rintro e w1 ⟨rfl, b1⟩
    replace b1 := bel_on (bel_alloc (Below.refl _ _) _) b1
    go_wp2
    go_ret2
    exact ⟨none, 0, rfl, BRow.nil _ _, b1⟩
end Go.Proofs.Ytdhkfhgggkndoaa
