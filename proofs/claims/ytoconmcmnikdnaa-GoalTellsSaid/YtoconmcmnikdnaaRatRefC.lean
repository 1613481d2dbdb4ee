/-
  The contract of lumperref02.Sum.
-/
import Derived.Test.YtoconmcmnikdnaaRatRef
import Derived.Deep.RegionHeld3
namespace Go.Proofs.Ytoconmcmnikdnaa
open Go.RowKit
set_option linter.unusedVariables false

theorem minus_neg {n d p q : Int} : minusR n d (-p) q = plusR n d p q := by
  unfold minusR plusR
  rw [may_neg, Int.neg_mul, Int.sub_neg]

theorem rsum_no (A : Option Addr) (cap : Nat) (xs : List (Int × Int)) (w : World) (hx : Rats w A xs) (hl : xs.length ≤ 9223372036854775807) (hm : allMay xs = false) :
    Calls Try.prog 29 #[.slice A xs.length cap] w fun e w' => e = .returned (.tuple #[.agg #[.int .i64 (sumR xs).n, .int .i64 (sumR xs).d], .int .i64 (sumR xs).c]) ∧ Below w.heap.size w w' := by
  have E := Lib.hid (show sumR xs = badR from if_neg (by rw [hm]; simp))
  have HX := Lib.hid hx
  have HM := Lib.hid hm
  clear hx hm
  go_enter Try.func29, Try.ntmps29
  go_wp2
  go_loopw [4] (fun i wr => ∃ k : Nat, k ≤ xs.length ∧ i = .int .i64 k ∧ Hid (allMay (xs.take k) = true) ∧ Has wr w.heap.size #[.int .i64 0, .int .i64 0] ∧ Below w.heap.size w wr) (fun i _ => xs.length - (intOf i).toNat)
  case atStart => exact ⟨0, Nat.zero_le _, rfl, rfl, Has.new _ _ _ rfl, bel_alloc (Below.refl _ _) _⟩
  case round =>
    obtain ⟨k, hk, rfl, hs, R0, hbw⟩ := hrel
    by_cases hlt : k < xs.length
    · obtain ⟨b, off, rfl, c1, c2, b1, b2, b3, b4⟩ := (HX.out.below hbw) k hlt
      have S1 := Lib.hid (all_snoc xs k hlt)
      generalize (xs.getD k (0, 0)).1 = n at *
      generalize (xs.getD k (0, 0)).2 = d at *
      go_wp2_with fail
      refine (rcheck_any _ _ _ b1 b2 b3 b4).mono ?_
      rintro e w2 ⟨rfl, hb2⟩
      replace R0 := R0.below hb2
      replace hb2 := bel_on hbw hb2
      clear hbw c1 c2
      cases hm : mayB n d with
      | true =>
        have hs' : Hid (allMay (xs.take (k + 1)) = true) := by
          show _ = _
          rw [S1.out, hs.out, hm]; rfl
        clear hm
        go_wp2
        go_roundw
        case rel => exact ⟨k + 1, by omega, by go_num, hs', R0, hb2⟩
        case measure => simp [intOf]; omega
      | false =>
        clear hm
        obtain ⟨c0, c1, f0, f1⟩ := R0.two
        go_wp2
        refine bodyPost_ret (v := .tuple #[.agg #[.int .i64 0, .int .i64 0], .int .i64 20]) (by simp [results, Try.results29, go_sem, c0, c1]) rfl ⟨by rw [E.out]; rfl, ?_⟩
        (repeat' (first | with_reducible exact Below.refl _ _ | with_reducible assumption | with_reducible refine bel_alloc ?_ _ | with_reducible refine bel_set ?_ ?_ _ | with_reducible refine below_drewN ?_ _ | with_reducible refine below_drew ?_ | (simp; done) | (simp; omega) | omega))
    · exfalso
      obtain rfl : k = xs.length := by omega
      have hs' := hs.out
      rw [List.take_length, HM.out] at hs'
      cases hs'

theorem all_in {xs : List (Int × Int)} (h : allMay xs = true) (k : Nat) (hk : k < xs.length) : mayB (xs.getD k (0, 0)).1 (xs.getD k (0, 0)).2 = true := by
  unfold allMay at h
  rw [List.all_eq_true] at h
  exact h _ (by simp [List.getD, hk])

set_option maxHeartbeats 2000000 in
theorem rsum_yes (A : Option Addr) (cap : Nat) (xs : List (Int × Int)) (w : World) (hx : Rats w A xs) (hl : xs.length ≤ 9223372036854775807) (hm : allMay xs = true) :
    Calls Try.prog 29 #[.slice A xs.length cap] w fun e w' => e = .returned (.tuple #[.agg #[.int .i64 (sumR xs).n, .int .i64 (sumR xs).d], .int .i64 (sumR xs).c]) ∧ Below w.heap.size w w' := by
  have E := Lib.hid (show sumR xs = sumRGo ⟨0, 1, 0⟩ xs from if_pos hm)
  have HX := Lib.hid hx
  have HM := Lib.hid hm
  clear hx hm
  go_enter Try.func29, Try.ntmps29
  go_wp2
  go_loopw [4] (fun i wr => ∃ k : Nat, k ≤ xs.length ∧ i = .int .i64 k ∧ Has wr w.heap.size #[.int .i64 0, .int .i64 0] ∧ Below w.heap.size w wr) (fun i _ => xs.length - (intOf i).toNat)
  case atStart => exact ⟨0, Nat.zero_le _, rfl, Has.new _ _ _ rfl, bel_alloc (Below.refl _ _) _⟩
  case round =>
    obtain ⟨k, hk, rfl, R0, hbw⟩ := hrel
    by_cases hlt : k < xs.length
    · have S1 := Lib.hid (all_in HM.out k hlt)
      obtain ⟨b, off, rfl, c1, c2, b1, b2, b3, b4⟩ := (HX.out.below hbw) k hlt
      generalize (xs.getD k (0, 0)).1 = n at *
      generalize (xs.getD k (0, 0)).2 = d at *
      go_wp2_with fail
      refine (rcheck_any _ _ _ b1 b2 b3 b4).mono ?_
      rw [S1.out]
      rintro e w2 ⟨rfl, hb2⟩
      replace R0 := R0.below hb2
      replace hb2 := bel_on hbw hb2
      clear hbw c1 c2
      go_wp2
      go_roundw
      case rel => exact ⟨k + 1, by omega, by go_num, R0, hb2⟩
      case measure => simp [intOf]; omega
    · obtain rfl : k = xs.length := by omega
      clear hlt hk
      have z0 := R0.size
      go_wp2
      obtain ⟨w1, rfl⟩ : ∃ w1 : World, w1 = wr := ⟨_, rfl⟩
      go_loopw [7] (fun i wr => ∃ (k : Nat) (n d : Int), k ≤ xs.length ∧ i = .int .i64 k ∧ (-9223372036854775808 ≤ n ∧ n ≤ 9223372036854775807) ∧ (-9223372036854775808 ≤ d ∧ d ≤ 9223372036854775807) ∧
          Hid (sumRGo ⟨0, 1, 0⟩ (xs.take k) = ⟨n, d, 0⟩) ∧ Has wr w1.heap.size #[.int .i64 n, .int .i64 d] ∧ Has wr w.heap.size #[.int .i64 0, .int .i64 0] ∧ Below w.heap.size w wr) (fun i _ => xs.length - (intOf i).toNat)
      case atStart => exact ⟨0, 0, 1, Nat.zero_le _, rfl, by omega, by omega, rfl, Has.new _ _ _ rfl, R0.alloc _, bel_alloc hbw _⟩
      case round =>
        clear R0 hbw
        obtain ⟨k, n, d, hk, rfl, hn, hd, hs, RS, R0, hbw⟩ := hrel
        by_cases hlt : k < xs.length
        · have S2 := all_in HM.out k hlt
          obtain ⟨b, off, rfl, c1, c2, b1, b2, b3, b4⟩ := (HX.out.below hbw) k hlt
          have S1 := Lib.hid (sumRGo_snoc xs k hlt n d hs.out)
          generalize (xs.getD k (0, 0)).1 = p at *
          generalize (xs.getD k (0, 0)).2 = q at *
          have p1 := may_bd S2
          have hp : -9223372036854775807 ≤ p ∧ p ≤ 9223372036854775807 := by omega
          clear p1 S2 b1
          obtain ⟨s0, s1, _, _⟩ := RS.two
          have n0 := World.new_ne wr _ s0
          have n1 := World.new_ne wr _ s1
          have n2 := World.new_ne wr _ c1
          have n3 := World.new_ne wr _ c2
          have i0 : (0 : Int) ≤ (k : Int) := by omega
          have i1 : (k : Int) < (xs.length : Int) := by omega
          have hneg : IntKind.i64.wrap (-p) = -p := IntWalk.i64_in _ (by omega)
          go_wp2
          go_region_held3 (fun w' => w'.cell? ⟨w1.heap.size, 0, none⟩ = some (.int .i64 n) ∧ w'.cell? ⟨w1.heap.size, 1, none⟩ = some (.int .i64 d) ∧ w'.cell? ⟨b, off + k * 2, none⟩ = some (.int .i64 p) ∧ w'.cell? ⟨b, off + k * 2 + 1, none⟩ = some (.int .i64 q)) (go_keep)
            (first | (go_at_call 52; refine (rminus_q n d (-p) q _ hn hd (by omega) ⟨b3, b4⟩).mono ?_; rw [minus_neg]; rintro e w2 ⟨rfl, hb2⟩; have hb3 := bel_on (show Below wr.heap.size wr _ by (repeat' (first | with_reducible exact Below.refl _ _ | with_reducible assumption | with_reducible refine bel_alloc ?_ _ | with_reducible refine bel_set ?_ ?_ _ | with_reducible refine below_drewN ?_ _ | with_reducible refine below_drew ?_ | (simp; done) | (simp; omega) | omega))) hb2; have RS2 := RS.below hb3; have R02 := R0.below hb3; have k0 := (hb3.cell (cell_lt s0)).trans s0; have k1 := (hb3.cell (cell_lt s1)).trans s1; have k2 := (hb3.cell (cell_lt c1)).trans c1; have k3 := (hb3.cell (cell_lt c2)).trans c2; (try (have R8 : Has w2 wr.heap.size #[.int .i64 0, .int .i64 0] := Has.below (Has.drew (by with_reducible exact Has.new _ _ _ rfl)) hb2; obtain ⟨v0, v1, v2, v3⟩ := R8.two))))
          all_goals
            first
            | (have T8 : Has ((w2.setCell ⟨wr.heap.size, 0, none⟩ (.int .i64 (plusR n d p q).n)).setCell ⟨wr.heap.size, 1, none⟩ (.int .i64 (plusR n d p q).d)) wr.heap.size #[.int .i64 (plusR n d p q).n, .int .i64 (plusR n d p q).d] := (R8.set 0 _).set 1 _
               have RS3 := (RS2.far (p := ⟨wr.heap.size, 0, none⟩) (Ne.symm n0) (.int .i64 (plusR n d p q).n)).far (p := ⟨wr.heap.size, 1, none⟩) (Ne.symm n0) (.int .i64 (plusR n d p q).d)
               have R03 := (R02.far (p := ⟨wr.heap.size, 0, none⟩) (Nat.ne_of_lt R0.size) (.int .i64 (plusR n d p q).n)).far (p := ⟨wr.heap.size, 1, none⟩) (Nat.ne_of_lt R0.size) (.int .i64 (plusR n d p q).d)
               have hb4 := bel_set (bel_set (bel_on hbw hb3) (p := ⟨wr.heap.size, 0, none⟩) hbw.size (.int .i64 (plusR n d p q).n)) (p := ⟨wr.heap.size, 1, none⟩) hbw.size (.int .i64 (plusR n d p q).d)
               have z8 := R8.size)
            | (have T8 := Has.new w2 24 #[.int .i64 (plusR n d p q).n, .int .i64 (plusR n d p q).d] rfl
               have RS3 := RS2.alloc (.cells #[.int .i64 (plusR n d p q).n, .int .i64 (plusR n d p q).d] 24)
               have R03 := R02.alloc (.cells #[.int .i64 (plusR n d p q).n, .int .i64 (plusR n d p q).d] 24)
               have hb4 := bel_alloc (bel_on hbw hb3) (.cells #[.int .i64 (plusR n d p q).n, .int .i64 (plusR n d p q).d] 24))
            have zs := RS2.size
            have zr := R02.size
            have z9 := hbw.size
            have hb5 := bel_on hbw hb3
            have n5 : w.heap.size ≠ w1.heap.size := Nat.ne_of_lt z0
            clear hbw RS R0 k0 k1 k2 k3 c1 c2 s0 s1 hb4
            clear hb2 hb3
            obtain ⟨t0, t1, _, _⟩ := T8.two
            obtain ⟨q0, q1, q2, q3⟩ := RS3.two
            obtain ⟨r0, r1, r2, r3⟩ := R03.two
            obtain ⟨q4, q5, q6, q7⟩ := RS2.two
            obtain ⟨r4, r5, r6, r7⟩ := R02.two
            by_cases hc : (plusR n d p q).c = 0
            · have g1 : ((plusR n d p q).c == 0) = true := by simpa using hc
              have g2 : ((plusR n d p q).c != 0) = false := by simpa using hc
              have hs' : Hid (sumRGo ⟨0, 1, 0⟩ (xs.take (k + 1)) = ⟨(plusR n d p q).n, (plusR n d p q).d, 0⟩) := by
                show _ = _
                rw [S1.out]
                exact rat2_eta _ hc
              have hbd := may_i64 (show mayB (plusR n d p q).n (plusR n d p q).d = true by rw [plusR_may]; exact g1)
              clear hc
              go_wp2
              go_roundw
              case rel =>
                refine ⟨k + 1, _, _, by omega, by go_num, hbd.1, hbd.2, hs', ?_, ?_, ?_⟩
                · first
                  | exact (RS3.set 0 _).set 1 _
                  | exact ((RS2.set 0 _).set 1 _).alloc _
                · first
                  | exact (R03.far (p := ⟨w1.heap.size, 0, none⟩) n5 _).far (p := ⟨w1.heap.size, 1, none⟩) n5 _
                  | exact ((R02.far (p := ⟨w1.heap.size, 0, none⟩) n5 _).far (p := ⟨w1.heap.size, 1, none⟩) n5 _).alloc _
                · (repeat' (first | with_reducible exact Below.refl _ _ | with_reducible assumption | with_reducible refine bel_alloc ?_ _ | with_reducible refine bel_set ?_ ?_ _ | with_reducible refine below_drewN ?_ _ | with_reducible refine below_drew ?_ | (simp; done) | (simp; omega) | omega))
              case measure => simp [intOf]; omega
            · have g1 : ((plusR n d p q).c == 0) = false := by simpa using hc
              have g2 : ((plusR n d p q).c != 0) = true := by simpa using hc
              have F := Lib.hid (sumRGo_stop xs (k + 1) _ S1.out hc)
              have ZZ := Lib.hid (plusR_z n d p q hc)
              clear hc
              go_wp2
              refine bodyPost_ret (v := .tuple #[.agg #[.int .i64 0, .int .i64 0], .int .i64 (plusR n d p q).c]) (by simp [results, Try.results29, go_sem, r0, r1, r4, r5, zr]) rfl ⟨?_, ?_⟩
              · rw [E.out, F.out, ZZ.out.1, ZZ.out.2]
              · (repeat' (first | with_reducible exact Below.refl _ _ | with_reducible assumption | with_reducible refine bel_alloc ?_ _ | with_reducible refine bel_set ?_ ?_ _ | with_reducible refine below_drewN ?_ _ | with_reducible refine below_drew ?_ | (simp; done) | (simp; omega) | omega))
        · obtain rfl : k = xs.length := by omega
          have hs' := hs.out
          rw [List.take_length] at hs'
          have F := Lib.hid hs'
          clear hs hs'
          obtain ⟨s0, s1, _, _⟩ := RS.two
          obtain ⟨v4, v5, v6, v7⟩ := R0.two
          go_wp2
          refine bodyPost_ret (v := .tuple #[.agg #[.int .i64 n, .int .i64 d], .int .i64 0]) (by simp [results, Try.results29, go_sem, v4, v5]) rfl ⟨ret_rr (s := ⟨n, d, 0⟩) (F.out.symm.trans E.out.symm), ?_⟩
          (repeat' (first | with_reducible exact Below.refl _ _ | with_reducible assumption | with_reducible refine bel_alloc ?_ _ | with_reducible refine bel_set ?_ ?_ _ | with_reducible refine below_drewN ?_ _ | with_reducible refine below_drew ?_ | (simp; done) | (simp; omega) | omega))

theorem rsum_q (A : Option Addr) (cap : Nat) (xs : List (Int × Int)) (w : World) (hx : Rats w A xs) (hl : xs.length ≤ 9223372036854775807) :
    Calls Try.prog 29 #[.slice A xs.length cap] w fun e w' => e = .returned (.tuple #[.agg #[.int .i64 (sumR xs).n, .int .i64 (sumR xs).d], .int .i64 (sumR xs).c]) ∧ Below w.heap.size w w' := by
  cases hm : allMay xs with
  | true => exact rsum_yes A cap xs w hx hl hm
  | false => exact rsum_no A cap xs w hx hl hm
end Go.Proofs.Ytoconmcmnikdnaa
