/-
  Package pack: the number that bytes begin with.
-/
import Derived.Test.YtdhkfhgggkndoaaPkC
import Derived.WalkMore
import Derived.ScopeJumps
namespace Go.Proofs.Ytdhkfhgggkndoaa
open Go.RowKit
set_option linter.unusedVariables false

theorem val_inj : ∀ (l m : List Nat), l.length = m.length → (∀ x ∈ l, x < 256) → (∀ x ∈ m, x < 256) → valN l = valN m → l = m
  | [], [], _, _, _, _ => rfl
  | a :: x, b :: y, h, hl, hm, hv => by
    have hxy : x.length = y.length := by simpa using h
    have lx := valN_lt x (fun z hz => hl z (by simp [hz]))
    have ly := valN_lt y (fun z hz => hm z (by simp [hz]))
    rw [valN_cons, valN_cons, hxy] at hv
    rw [hxy] at lx
    have hab : a = b := by
      rcases Nat.lt_trichotomy a b with q | q | q
      · have : (a + 1) * 256 ^ y.length ≤ b * 256 ^ y.length := Nat.mul_le_mul_right _ q
        rw [Nat.add_mul, Nat.one_mul] at this
        omega
      · exact q
      · have : (b + 1) * 256 ^ y.length ≤ a * 256 ^ y.length := Nat.mul_le_mul_right _ q
        rw [Nat.add_mul, Nat.one_mul] at this
        omega
    subst hab
    rw [val_inj x y hxy (fun z hz => hl z (by simp [hz])) (fun z hz => hm z (by simp [hz])) (by omega)]
theorem take_fit {x : BitVec 8} {r : List (BitVec 8)} (hx : x.toNat ≤ r.length) (hv : valN (natsB (r.take x.toNat)) < 9223372036854775808) (hd : (digs (valN (natsB (r.take x.toNat)))).length = x.toNat) :
    takeB (x :: r) = some (valN (natsB (r.take x.toNat)), r.drop x.toNat) := by
  have hl : (natsB (r.take x.toNat)).length = x.toNat := by rw [nats_len, List.length_take]; omega
  have e := val_inj (digs (valN (natsB (r.take x.toNat)))) (natsB (r.take x.toNat)) (by omega) (digs_small _) (nats_small _) (val_digs _)
  have e1 : x :: r = oneB (valN (natsB (r.take x.toNat))) ++ r.drop x.toNat := by
    unfold oneB
    rw [hd, e, bytN_nats, List.cons_append, List.take_append_drop]
    congr 1
    simp
  have := take_one hv (r.drop x.toNat)
  rwa [← e1] at this
theorem take_fits {x : BitVec 8} {r t : List (BitVec 8)} {n : Nat} (h : takeB (x :: r) = some (n, t)) : x.toNat ≤ 8 ∧ x.toNat ≤ r.length ∧ valN (natsB (r.take x.toNat)) = n ∧ n < 9223372036854775808 ∧ (digs n).length = x.toNat := by
  obtain ⟨e, hn⟩ := take_own h
  have h8 := digs_eight hn
  unfold oneB at e
  rw [List.cons_append] at e
  injection e with e1 e2
  have hx : x.toNat = (digs n).length := by rw [e1, BitVec.toNat_ofNat]; omega
  have hr : r.take x.toNat = bytN (digs n) := by
    rw [e2, hx, List.take_append_of_le_length (by rw [bytN_len]; exact Nat.le_refl _), List.take_of_length_le (by rw [bytN_len]; exact Nat.le_refl _)]
  refine ⟨by omega, ?_, ?_, hn, hx.symm⟩
  · rw [e2, List.length_append, bytN_len]; omega
  · rw [hr, nats_bytN (digs_small n), val_digs]
theorem or_step (u y : Nat) (hu : u < 72057594037927936) (hy : y < 256) : bits .or .i64 (wrap64 (u * 256)) (y : Int) = wrap64 ((u * 256 + y : Nat) : Int) := by
  have e1 : BitVec.ofInt 64 (wrap64 ((u : Int) * 256)) = BitVec.ofNat 64 (u * 256) := by
    apply BitVec.eq_of_toNat_eq
    rw [BitVec.toNat_ofInt, BitVec.toNat_ofNat]
    unfold wrap64
    omega
  have e2 : BitVec.ofInt 64 (y : Int) = BitVec.ofNat 64 y := by rw [BitVec.ofInt_natCast]
  show IntKind.i64.wrap ((BitVec.ofInt 64 (wrap64 ((u : Int) * 256)) ||| BitVec.ofInt 64 (y : Int)).toNat : Int) = _
  rw [e1, e2, BitVec.toNat_or, BitVec.toNat_ofNat, BitVec.toNat_ofNat, Nat.mod_eq_of_lt (by omega), Nat.mod_eq_of_lt (by omega)]
  have e3 : u * 256 ||| y = u * 256 + y := by
    have := Nat.shiftLeft_add_eq_or_of_lt (show y < 2 ^ 8 by omega) u
    rw [Nat.shiftLeft_eq] at this
    exact this.symm
  rw [e3]
  simp [IntKind.wrap, IntKind.bits, IntKind.signed, wrap64]
  split <;> omega
def firstB (l : List (BitVec 8)) : Nat × Nat := match takeB l with
  | none => (0, 0)
  | some (n, _) => (n, (oneB n).length)
theorem first_none {l : List (BitVec 8)} (h : takeB l = none) : firstB l = (0, 0) := by unfold firstB; rw [h]
theorem first_some {l t : List (BitVec 8)} {n : Nat} (h : takeB l = some (n, t)) : firstB l = (n, (oneB n).length) := by unfold firstB; rw [h]

set_option maxHeartbeats 400000 in
theorem first_cons (A : Option Addr) (m c : Nat) (x : BitVec 8) (r : List (BitVec 8)) (l : List (BitVec 8)) (hlx : x :: r = l) (w : World) (hx : Byts w A l) (hm : l.length = m) (hml : m ≤ 1000000000000) :
    Calls Try.prog 90 #[.slice A m c] w fun e w' => e = .returned (.tuple #[.int .i64 (firstB l).1, .int .i64 (firstB l).2]) ∧ w = w' := by
  have HX := Lib.hid hx
  have HM := Lib.hid hm
  clear hx hm
  go_enter Try.func90, Try.ntmps90
  go_wp2
  refine wp_scope_jumps 1 (fun a' w' => w' = w ∧ Hid (takeB l = none) ∧ ∃ (u0 u1 u2 u3 u4 u5 u6 u7 u8 u9 u10 u11 u12 u13 u14 u15 u16 u17 u18 u19 u20 u21 u22 u23 u24 u25 u26 u27 u28 u29 u30 u31 u32 u33 u34 u35 u36 u37 u38 u39 u40 u41 u42 u43 u44 : Value), a' = { tmps := #[u0, u1, u2, u3, u4, u5, u6, u7, u8, u9, u10, u11, u12, u13, u14, u15, u16, u17, u18, u19, u20, u21, u22, u23, u24, u25, u26, u27, u28, u29, u30, u31, u32, u33, u34, u35, u36, u37, u38, u39, u40, u41, u42, u43, u44], defers := [] }) (fun _ _ => 0) rfl ?_ ?_
  · go_wp2
    go_step3
    go_wp2
    go_loop [4, 5, 10] (fun n en i => ∃ k u o : Nat, k ≤ m ∧ i = .int .i64 k ∧ en = .int .i64 o ∧ ∃ z : Int, n = .int .i64 z ∧ (k = 0 → o = 1) ∧ (0 < k → o = x.toNat + 1 ∧ k ≤ o ∧ x.toNat ≤ 8) ∧ Hid (z = wrap64 u) ∧ Hid (u = valN (natsB (r.take (k - 1))))) (fun _ _ i => m - (intOf i).toNat)
    case atStart => exact ⟨0, 0, 1, by omega, rfl, rfl, 0, rfl, by omega, by omega, Lib.hid (by simp [wrap64]), rfl⟩
    case round =>
      obtain ⟨k, u, o, hk, rfl, rfl, z, rfl, h0, h1, hz, hu⟩ := hrel
      by_cases hlt : k < m
      · obtain ⟨b, off, rfl, hc⟩ := HX.out k (by rw [HM.out]; exact hlt)
        have hy := (l.getD k 0#8).isLt
        by_cases hk0 : k = 0
        · subst hk0
          obtain rfl := h0 rfl
          have hyx : l.getD 0 0#8 = x := by rw [← hlx]; rfl
          rw [hyx] at hc hy
          rw [Nat.add_zero] at hc
          have hu0 : u = 0 := by rw [hu.out]; rfl
          subst hu0
          obtain rfl : z = 0 := by rw [hz.out]; simp [wrap64]
          clear h0 h1 hyx
          by_cases hx8 : 8 < x.toNat
          · have HN : Hid (takeB l = none) := Lib.hid (by rw [← hlx, takeB, if_pos (Or.inl hx8)])
            have hx8' : (8 : Int) < (x.toNat : Int) := by omega
            go_wp2
            go_step3
            exact ⟨rfl, rfl, HN, _, _, _, _, _, _, _, _, _, _, _, _, _, _, _, _, _, _, _, _, _, _, _, _, _, _, _, _, _, _, _, _, _, _, _, _, _, _, _, _, _, _, _, _, _, rfl⟩
          · have hx8' : ¬ (8 : Int) < (x.toNat : Int) := by omega
            go_wp2
            go_round
            case rel => exact ⟨1, 0, x.toNat + 1, by omega, by go_num, by go_num, 0, rfl, by omega, fun _ => ⟨rfl, by omega, by omega⟩, Lib.hid (by simp [wrap64]), rfl⟩
            case measure => simp [intOf]; omega
        · obtain ⟨ho, hko, hx8⟩ := h1 (by omega)
          by_cases hke : k = o
          · generalize l.getD k 0#8 = y at *
            have hkn : ((k : Int) == (o : Int)) = true := by simp; omega
            have hle : m = r.length + 1 := by rw [← HM.out, ← hlx]; simp
            by_cases hmo : m < o
            · exact absurd hmo (by omega)
            · obtain rfl : k = o := by omega
              have hu' := hu.out
              rw [show k - 1 = x.toNat by omega] at hu'
              have hult : u < 256 ^ x.toNat := by
                have := valN_lt (natsB (r.take x.toNat)) (nats_small _)
                rw [nats_len, List.length_take, Nat.min_eq_left (by omega)] at this
                omega
              have hul : u < 18446744073709551616 := Nat.lt_of_lt_of_le hult (Nat.le_trans (Nat.pow_le_pow_right (by omega) hx8) (by decide))
              have hmo' : ¬ (m : Int) < (k : Int) := by omega
              by_cases hs : u < 9223372036854775808
              · obtain rfl : z = (u : Int) := by rw [hz.out]; unfold wrap64; omega
                have HSZ := Lib.hid (size_at u · hs)
                by_cases hd : (oneB u).length = k
                · have ht : takeB l = some (u, r.drop x.toNat) := by
                    rw [← hlx, hu']
                    rw [hu', one_len] at hd
                    exact take_fit (by omega) (hu' ▸ hs) (by omega)
                  have HF := Lib.hid (first_some ht)
                  rw [hd] at HSZ HF
                  clear h0 h1 hz hu ho hko hle hlx ht hu' hult hul
                  go_wp2_with (go_at_call 54; refine (HSZ.out _).mono ?_; rintro e w' ⟨rfl, rfl⟩)
                  simp only [Exit.jump]
                  go_ret2
                  rw [HF.out]
                  exact ⟨rfl, rfl⟩
                · have HN : Hid (takeB l = none) := Lib.hid (by
                    cases ht : takeB l with
                    | none => rfl
                    | some p =>
                      obtain ⟨n, t⟩ := p
                      rw [← hlx] at ht
                      obtain ⟨_, _, hvn, hn, hdn⟩ := take_fits ht
                      rw [hvn] at hu'
                      rw [one_len, hu'] at hd
                      omega)
                  generalize (oneB u).length = s at *
                  have hsk : ((s : Int) == (k : Int)) = false := by simp; omega
                  clear h0 h1 hz hu ho hko hle hlx hu' hult hul
                  go_wp2_with (go_at_call 54; refine (HSZ.out _).mono ?_; rintro e w' ⟨rfl, rfl⟩)
                  go_step3
                  exact ⟨rfl, rfl, HN, _, _, _, _, _, _, _, _, _, _, _, _, _, _, _, _, _, _, _, _, _, _, _, _, _, _, _, _, _, _, _, _, _, _, _, _, _, _, _, _, _, _, _, _, _, rfl⟩
              · have hz0 : z < 0 := by rw [hz.out]; unfold wrap64; omega
                have HSZ := Lib.hid (size_neg z · hz0)
                have HN : Hid (takeB l = none) := Lib.hid (by
                  cases ht : takeB l with
                  | none => rfl
                  | some p =>
                    obtain ⟨n, t⟩ := p
                    rw [← hlx] at ht
                    obtain ⟨_, _, hvn, hn, hdn⟩ := take_fits ht
                    omega)
                have hsk : ((0 : Int) == (k : Int)) = false := by simp; omega
                clear h0 h1 hz hu ho hko hle hlx hu' hult hul hz0
                go_wp2_with (go_at_call 54; refine (HSZ.out _).mono ?_; rintro e w' ⟨rfl, rfl⟩)
                go_step3
                exact ⟨rfl, rfl, HN, _, _, _, _, _, _, _, _, _, _, _, _, _, _, _, _, _, _, _, _, _, _, _, _, _, _, _, _, _, _, _, _, _, _, _, _, _, _, _, _, _, _, _, _, _, rfl⟩
          · have hyr : l.getD k 0#8 = r.getD (k - 1) 0#8 := by
              rw [← hlx]
              obtain ⟨j, rfl⟩ : ∃ j, k = j + 1 := ⟨k - 1, by omega⟩
              rfl
            have hle : m = r.length + 1 := by rw [← HM.out, ← hlx]; simp
            have hsn : valN (natsB (r.take (k + 1 - 1))) = u * 256 + (l.getD k 0#8).toNat := by
              rw [hyr, hu.out]
              obtain ⟨j, rfl⟩ : ∃ j, k = j + 1 := ⟨k - 1, by omega⟩
              simp only [Nat.add_sub_cancel]
              rw [List.take_succ_eq_append_getElem (by omega), natsB, List.map_append]
              simp only [List.map_cons, List.map_nil]
              rw [valN_snoc]
              simp [natsB, List.getD, show j < r.length by omega]
            have hu56 : u < 72057594037927936 := by
              have := valN_lt (natsB (r.take (k - 1))) (nats_small _)
              rw [← hu.out, nats_len, List.length_take, Nat.min_eq_left (by omega)] at this
              exact Nat.lt_of_lt_of_le this (Nat.le_trans (Nat.pow_le_pow_right (by omega) (show k - 1 ≤ 7 by omega)) (by decide))
            have HSN := Lib.hid hsn
            generalize l.getD k 0#8 = y at *
            have hkp : (0 : Int) < k := by omega
            have hkn : ((k : Int) == (o : Int)) = false := by simp; omega
            obtain rfl : z = (u : Int) := by rw [hz.out]; unfold wrap64; omega
            have hor := or_step u y.toNat hu56 (by omega)
            clear h0 h1 hz hyr hlx hle hsn hu
            go_wp2
            go_round
            case rel => exact ⟨k + 1, u * 256 + y.toNat, o, by omega, by go_num, rfl, _, rfl, by omega, fun _ => ⟨ho, by omega, hx8⟩, Lib.hid rfl, Lib.hid HSN.out.symm⟩
            case measure => simp [intOf]; omega
      · obtain rfl : m = k := by omega
        obtain ⟨ho, hko, hx8⟩ := h1 (by rw [← HM.out, ← hlx]; simp)
        have hle : m = r.length + 1 := by rw [← HM.out, ← hlx]; simp
        by_cases hmo : m < o
        · have HN : Hid (takeB l = none) := Lib.hid (by
            cases ht : takeB l with
            | none => rfl
            | some p =>
              obtain ⟨n, t⟩ := p
              rw [← hlx] at ht
              have := take_fits ht
              omega)
          have hmo' : (m : Int) < (o : Int) := by omega
          clear h0 h1 hz hu ho hko hle hlx
          go_wp2
          go_step3
          exact ⟨rfl, rfl, HN, _, _, _, _, _, _, _, _, _, _, _, _, _, _, _, _, _, _, _, _, _, _, _, _, _, _, _, _, _, _, _, _, _, _, _, _, _, _, _, _, _, _, _, _, _, rfl⟩
        · obtain rfl : m = o := by omega
          have hu' := hu.out
          rw [show m - 1 = x.toNat by omega] at hu'
          have hult : u < 256 ^ x.toNat := by
            have := valN_lt (natsB (r.take x.toNat)) (nats_small _)
            rw [nats_len, List.length_take, Nat.min_eq_left (by omega)] at this
            omega
          have hul : u < 18446744073709551616 := Nat.lt_of_lt_of_le hult (Nat.le_trans (Nat.pow_le_pow_right (by omega) hx8) (by decide))
          have hmo' : ¬ (m : Int) < (m : Int) := by omega
          by_cases hs : u < 9223372036854775808
          · obtain rfl : z = (u : Int) := by rw [hz.out]; unfold wrap64; omega
            have HSZ := Lib.hid (size_at u · hs)
            by_cases hd : (oneB u).length = m
            · have ht : takeB l = some (u, r.drop x.toNat) := by
                rw [← hlx, hu']
                rw [hu', one_len] at hd
                exact take_fit (by omega) (hu' ▸ hs) (by omega)
              have HF := Lib.hid (first_some ht)
              rw [hd] at HSZ HF
              clear h0 h1 hz hu ho hko hle hlx ht hu' hult hul
              go_wp2_with (go_at_call 54; refine (HSZ.out _).mono ?_; rintro e w' ⟨rfl, rfl⟩)
              simp only [Exit.jump]
              go_ret2
              rw [HF.out]
              exact ⟨rfl, rfl⟩
            · have HN : Hid (takeB l = none) := Lib.hid (by
                cases ht : takeB l with
                | none => rfl
                | some p =>
                  obtain ⟨n, t⟩ := p
                  rw [← hlx] at ht
                  obtain ⟨_, _, hvn, hn, hdn⟩ := take_fits ht
                  rw [hvn] at hu'
                  rw [one_len, hu'] at hd
                  omega)
              generalize (oneB u).length = s at *
              have hsk : ((s : Int) == (m : Int)) = false := by simp; omega
              clear h0 h1 hz hu ho hko hle hlx hu' hult hul
              go_wp2_with (go_at_call 54; refine (HSZ.out _).mono ?_; rintro e w' ⟨rfl, rfl⟩)
              go_step3
              exact ⟨rfl, rfl, HN, _, _, _, _, _, _, _, _, _, _, _, _, _, _, _, _, _, _, _, _, _, _, _, _, _, _, _, _, _, _, _, _, _, _, _, _, _, _, _, _, _, _, _, _, _, rfl⟩
          · have hz0 : z < 0 := by rw [hz.out]; unfold wrap64; omega
            have HSZ := Lib.hid (size_neg z · hz0)
            have HN : Hid (takeB l = none) := Lib.hid (by
              cases ht : takeB l with
              | none => rfl
              | some p =>
                obtain ⟨n, t⟩ := p
                rw [← hlx] at ht
                obtain ⟨_, _, hvn, hn, hdn⟩ := take_fits ht
                omega)
            have hsk : ((0 : Int) == (m : Int)) = false := by simp; omega
            clear h0 h1 hz hu ho hko hle hlx hu' hult hul hz0
            go_wp2_with (go_at_call 54; refine (HSZ.out _).mono ?_; rintro e w' ⟨rfl, rfl⟩)
            go_step3
            exact ⟨rfl, rfl, HN, _, _, _, _, _, _, _, _, _, _, _, _, _, _, _, _, _, _, _, _, _, _, _, _, _, _, _, _, _, _, _, _, _, _, _, _, _, _, _, _, _, _, _, _, _, rfl⟩
  · rintro a' w' ⟨rfl, hn, u0, u1, u2, u3, u4, u5, u6, u7, u8, u9, u10, u11, u12, u13, u14, u15, u16, u17, u18, u19, u20, u21, u22, u23, u24, u25, u26, u27, u28, u29, u30, u31, u32, u33, u34, u35, u36, u37, u38, u39, u40, u41, u42, u43, u44, rfl⟩
    go_wp2
    simp only [Exit.jump]
    go_ret2
    rw [first_none hn.out]
    exact ⟨rfl, rfl⟩
end Go.Proofs.Ytdhkfhgggkndoaa
