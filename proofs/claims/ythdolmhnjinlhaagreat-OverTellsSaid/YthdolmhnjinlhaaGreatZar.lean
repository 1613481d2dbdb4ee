/-
  punch.Days, and the document's own.
  The calls whose answers layer 11's document fixes: they are as it says; two lists of numbers that are the same.
-/
import Derived.Test.YthdolmhnjinlhaaGreatZal
namespace Go.Proofs.YthdolmhnjinlhaaGreat
open Go.RowKit
set_option linter.unusedVariables false
set_option linter.unusedSimpArgs false
set_option maxRecDepth 20000

theorem row_kept {F : Nat → Prop} {w w' : World} {base c : Nat} {A : Option Addr} {xs : List (Int × Int)} (h : Row w base A c xs) (k : Kept F w w') (hF : ∀ b, base ≤ b → b < w.heap.size → F b) : Row w' base A c xs :=
  h.keep fun g hg => k.block _ (hF _ (h.lt g hg).1 (h.lt g hg).2)
/-- What a call that tells numbers answers. -/
def GivesN (w : World) (xs : List Int) (e : Ending) (w' : World) : Prop := ∃ A c, e = .returned (.slice A xs.length c) ∧ NRow w' w.heap.size A c xs ∧ Below w.heap.size w w'
theorem day_same (t : Int) (W : World) : Calls Tryz.prog 60 #[.int .i64 t] W fun e w' => e = .returned (.int .i64 (dayP t)) ∧ w' = W :=
  (day_any t W).mono fun _ _ h => ⟨h.1, h.2.symm⟩
theorem pday_at {t : Int} (h : 0 ≤ t) (h' : t < 32054400) : dayP t = t / 86400 := by unfold dayP; rw [sec_in h h']
set_option maxHeartbeats 2000000 in
theorem days_any (A : Option Addr) (cap : Nat) (xs : List (Int × Int)) (w : World) (hx : Spans w A xs) (hl : xs.length ≤ 100000000) :
    Calls Tryz.prog 30 #[.slice A xs.length cap] w (GivesN w (daysP (In xs))) := by
  have hE : daysP (In (canon (In xs))) = daysP (In xs) := daysP_congr fun t a b => by rw [canon_in]; exact ⟨fun h => h.2.2, fun h => ⟨a, b, h⟩⟩
  have HE := Lib.hid hE
  have HP := Lib.hid (canon_plain (In xs))
  have hlen := canon_len (In xs)
  have hb0 := bel_alloc (Below.refl w.heap.size w) (.cells #[.slice none 0 0] 27)
  have hcon := norm_any A cap xs (w.alloc (.cells #[.slice none 0 0] 27)) (hx.below hb0) hl
  have HK0 : Has (w.alloc (.cells #[.slice none 0 0] 27)) w.heap.size #[.slice none 0 0] := Has.new _ _ _ rfl
  clear hx hE
  generalize canon (In xs) = L at *
  go_enter Tryz.func30, Tryz.ntmps30
  go_wp2_with fail
  refine hcon.mono ?_
  rintro e w1 ⟨D, dc, rfl, hrow, hb1⟩
  have hK1 := HK0.below hb1
  have hgz : w.heap.size < w1.heap.size := hK1.size
  have hsz : (w.alloc (.cells #[.slice none 0 0] 27)).heap.size = w.heap.size + 1 := by simp
  rw [hsz] at hrow
  have HB1 := Lib.hid (bel_on hb0 hb1)
  have HROW := Lib.hid hrow
  clear hrow hcon hb0 hb1 HK0 hsz
  have eg : ∀ args W, (callFunc 59 args).run Tryz.prog W = .ok (.enter 59 args) W := enters_of Tryz.func59 (by kernel_rfl) rfl
  obtain ⟨g, hg⟩ : ∃ g, w.heap.size = g := ⟨_, rfl⟩
  have HG := Lib.hid hg
  rw [hg] at hgz hK1 HROW
  rw [hg]
  clear hg
  go_wp2
  go_loopw [14] (fun i wr => ∃ (k : Nat) (B : Option Addr) (c : Nat), k ≤ L.length ∧ i = .int .i64 k ∧ Hid (Has wr g #[.slice B (daysP (In (L.take k))).length c]) ∧ Hid (NRow wr w1.heap.size B c (daysP (In (L.take k)))) ∧ Hid (Kept (fun b => b < w1.heap.size ∧ b ≠ g) w1 wr)) (fun i _ => L.length - (intOf i).toNat)
  case atStart =>
    have h0 : daysP (In (L.take 0)) = [] := daysP_nil fun t _ _ h => by rw [List.take_zero] at h; exact in_nil t h
    exact ⟨0, none, 0, Nat.zero_le _, rfl, by rw [h0]; exact hK1, by rw [h0]; exact NRow.nil _ _, Kept.refl _ _⟩
  case round =>
    obtain ⟨k, B, c, hk, rfl, hK, hR, hKp⟩ := hrel
    by_cases hlt : k < L.length
    · have hrw := row_kept HROW.out hKp.out (fun b h1 h2 => ⟨h2, by omega⟩)
      obtain ⟨b, off, rfl, hblt, c1, c2⟩ := (hrw.spans (.of_plain HP.out)).2 k hlt
      have HZ := (plain_pairs.1 HP.out).1 (L.getD k (0, 0)) (by simp [List.getD, hlt])
      have HS := Lib.hid (fun f n hf hn hl => upP_step HP.out hlt (f := f) (n := n) hf hn hl)
      have HF := Lib.hid (fun T hT => upP_first (L := L) (k := k) (T := T) hT)
      have HL := Lib.hid (fun T hT => upP_last hlt (T := T) hT)
      generalize L.getD k (0, 0) = z at *
      obtain ⟨x, y⟩ := z
      simp only [] at *
      obtain ⟨z0, z1, z2⟩ := HZ
      have hp := pday_at (t := x) (by omega) (by omega)
      have hq := pday_at (t := y - 1) (by omega) (by omega)
      have CP := Lib.hid (fun W => day_same x W)
      have CQ := Lib.hid (fun W => day_same (y - 1) W)
      rw [hp] at CP
      rw [hq] at CQ
      clear hp hq hrw
      have hp1 : x / 86400 * 86400 ≤ x ∧ 0 ≤ x / 86400 ∧ x / 86400 ≤ 370 ∧ x / 86400 ≤ (y - 1) / 86400 ∧ (y - 1) / 86400 ≤ 370 ∧ y ≤ ((y - 1) / 86400 + 1) * 86400 := by omega
      obtain ⟨p, hpe⟩ : ∃ p, x / 86400 = p := ⟨_, rfl⟩
      obtain ⟨q, hqe⟩ : ∃ q, (y - 1) / 86400 = q := ⟨_, rfl⟩
      rw [hpe, hqe] at hp1
      rw [hpe] at CP
      rw [hqe] at CQ
      have HS2 : Hid (∀ n : Nat, p + n ≤ q → pushD (daysP (upP L k ((p + n) * 86400))) (p + n) = daysP (upP L k ((p + n + 1) * 86400))) := fun n hn => (HS.out p n hpe (by omega) (by omega)).1
      clear HS hpe hqe
      obtain ⟨p1, p2, p3, p4, p5, p6⟩ := hp1
      obtain ⟨m, hm⟩ : ∃ m : Nat, q - p + 1 = m := ⟨(q - p + 1).toNat, by omega⟩
      have HR1 : Hid (daysP (In (L.take k)) = daysP (upP L k (p * 86400))) := HF.out _ p1
      have HR2 : Hid (daysP (upP L k ((p + m) * 86400)) = daysP (In (L.take (k + 1)))) := HL.out _ (by omega)
      clear HF HL p1 p6
      rw [HR1.out] at hK hR
      have HS0 := Has.new wr 42 #[.int .i64 x, .int .i64 y] rfl
      have t0 := HS0.cell 0 rfl
      have t1 := HS0.cell 1 rfl
      have hKp2 : Hid (Kept (fun b => b < w1.heap.size ∧ b ≠ g) w1 (wr.alloc (.cells #[.int .i64 x, .int .i64 y] 42))) := hKp.out.on (.of_below (bel_alloc (Below.refl _ _) _) fun i hi => Nat.lt_of_lt_of_le hi.1 hKp.out.size)
      have hK2 : Hid (Has (wr.alloc (.cells #[.int .i64 x, .int .i64 y] 42)) g #[.slice B (daysP (upP L k (p * 86400))).length c]) := hK.out.alloc _
      have hR2 : Hid (NRow (wr.alloc (.cells #[.int .i64 x, .int .i64 y] 42)) w1.heap.size B c (daysP (upP L k (p * 86400)))) := hR.out.alloc _
      clear HS0 hKp hK hR
      go_wp2
      go_quiet (first | (go_at_call 60; with_reducible exact Calls.quiet_of_same (CP.out _)) | (go_at_call 60; with_reducible exact Calls.quiet_of_same (CQ.out _)))
      have hKp3 : Hid (Kept (fun b => b < w1.heap.size ∧ b ≠ g) w1 ((wr.alloc (.cells #[.int .i64 x, .int .i64 y] 42)).drewN nq)) := ⟨hKp2.out.os, hKp2.out.tape, hKp2.out.output, hKp2.out.size, hKp2.out.block⟩
      have hK3 : Hid (Has ((wr.alloc (.cells #[.int .i64 x, .int .i64 y] 42)).drewN nq) g #[.slice B (daysP (upP L k (p * 86400))).length c]) := hK2.out.drewN nq
      have hR3 : Hid (NRow ((wr.alloc (.cells #[.int .i64 x, .int .i64 y] 42)).drewN nq) w1.heap.size B c (daysP (upP L k (p * 86400)))) := hR2.out
      generalize (wr.alloc (.cells #[.int .i64 x, .int .i64 y] 42)).drewN nq = w3 at *
      clear hKp2 hK2 hR2 t0 t1 CP CQ HR1
      go_wp2
      go_loopw [29] (fun j wr2 => ∃ (n : Nat) (B : Option Addr) (c : Nat), n ≤ m ∧ j = .int .i64 n ∧ Hid (Has wr2 g #[.slice B (daysP (upP L k ((p + n) * 86400))).length c]) ∧ Hid (NRow wr2 w1.heap.size B c (daysP (upP L k ((p + n) * 86400)))) ∧ Hid (Kept (fun b => b < w1.heap.size ∧ b ≠ g) w1 wr2)) (fun j _ => m - (intOf j).toNat)
      case atStart =>
        have e0 : p + ((0 : Nat) : Int) = p := by omega
        exact ⟨0, B, c, Nat.zero_le _, rfl, by rw [e0]; exact hK3, by rw [e0]; exact hR3, hKp3⟩
      case round =>
        clear hK3 hR3 hKp3
        obtain ⟨n, B2, c2, hn, rfl, hK4, hR4, hKp4⟩ := hrel
        by_cases hlt2 : n < m
        · have i1 : (n : Int) < q - p + 1 := by omega
          have hD := daysP_len (upP L k ((p + n) * 86400))
          have HPU := HS2.out n (by omega)
          have e1 : p + ((n + 1 : Nat) : Int) = p + n + 1 := by omega
          have CC := Lib.hid (put_any (p + n) g B2 c2 (daysP (upP L k ((p + n) * 86400))) _ w1.heap.size wr hK4.out rfl (by omega) hR4.out hgz hKp4.out.size)
          rw [HPU] at CC
          clear HPU
          have i2 : -9223372036854775808 ≤ p + (n : Int) ∧ p + (n : Int) ≤ 9223372036854775807 := by omega
          go_wp2_with fail
          refine CC.out.mono ?_
          rintro e w5 ⟨rfl, A5, c5, hK5, hR5, hKp5⟩
          replace hKp5 := Lib.hid (hKp4.out.on hKp5)
          replace hK5 := Lib.hid hK5
          replace hR5 := Lib.hid hR5
          clear CC hK4 hR4 hKp4
          go_wp2
          go_roundw
          case rel => exact ⟨n + 1, A5, c5, by omega, by go_num, by rw [e1]; exact hK5, by rw [e1]; exact hR5, hKp5⟩
          case measure => simp [intOf]; omega
        · obtain rfl : n = m := by omega
          have i1 : ¬ (n : Int) < q - p + 1 := by omega
          rw [HR2.out] at hK4 hR4
          go_wp2
          go_roundw
          case rel => exact ⟨k + 1, B2, c2, by omega, by go_num, hK4, hR4, hKp4⟩
          case measure => simp [intOf]; omega
    · obtain rfl : k = L.length := by omega
      rw [List.take_length, HE.out] at hK hR
      have k0 := hK.out.cell 0 rfl
      have kl := hK.out.size
      have HBW : Hid (Below w.heap.size w wr) := by
        have h1 := hKp.out.below (B := w.heap.size) (fun i hi => ⟨by have := HG.out; omega, by have := HG.out; omega⟩)
        have h2 := HB1.out
        exact ⟨h1.os.trans h2.os, h1.tape.trans h2.tape, h1.output.trans h2.output, Nat.le_trans h2.size h1.size, fun b hb => (h1.block b hb).trans (h2.block b hb)⟩
      have HRW : Hid (NRow wr g B c (daysP (In xs))) := hR.out.mono (by omega)
      generalize daysP (In xs) = R at *
      go_wp2
      go_ret
      exact ⟨B, c, rfl, by have := HG.out; rw [this]; exact HRW.out, HBW.out⟩
theorem rday_same (t : Int) (W : World) : Calls Tryz.prog 43 #[.int .i64 t] W fun e w' => e = .returned (.int .i64 (dayP t)) ∧ w' = W :=
  (rday_any t W).mono fun _ _ h => ⟨h.1, h.2.symm⟩
theorem below_kept {w1 wr w5 : World} (h : Below w1.heap.size w1 wr) (k : Kept (fun b => b < w1.heap.size) wr w5) : Below w1.heap.size w1 w5 :=
  ⟨k.os.trans h.os, k.tape.trans h.tape, k.output.trans h.output, Nat.le_trans h.size k.size, fun b hb => (k.block b hb).trans (h.block b hb)⟩
set_option maxHeartbeats 4000000 in
theorem rdays_any (A : Option Addr) (cap : Nat) (xs : List (Int × Int)) (w : World) (hx : Spans w A xs) (hl : xs.length ≤ 100000000) :
    Calls Tryz.prog 19 #[.slice A xs.length cap] w (GivesN w (daysP (In xs))) := by
  have hE : daysP (In (canon (In xs))) = daysP (In xs) := daysP_congr fun t a b => by rw [canon_in]; exact ⟨fun h => h.2.2, fun h => ⟨a, b, h⟩⟩
  have HE := Lib.hid hE
  have HP := Lib.hid (canon_plain (In xs))
  have hlen := canon_len (In xs)
  have hcon := rnorm_any A cap xs w hx hl
  clear hx hE
  generalize canon (In xs) = L at *
  go_enter Tryz.func19, Tryz.ntmps19
  go_wp2_with fail
  refine hcon.mono ?_
  rintro e w1 ⟨D, dc, rfl, hrow, hb1⟩
  have HB1 := Lib.hid hb1
  have HROW := Lib.hid hrow
  clear hrow hcon hb1
  go_wp2
  go_loopw [4, 5] (fun o i wr => ∃ (k : Nat) (B : Option Addr) (c : Nat), k ≤ L.length ∧ i = .int .i64 k ∧ o = .slice B (daysP (In (L.take k))).length c ∧ Hid (NRow wr w1.heap.size B c (daysP (In (L.take k)))) ∧ Hid (Below w1.heap.size w1 wr)) (fun _ i _ => L.length - (intOf i).toNat)
  case atStart =>
    have h0 : daysP (In (L.take 0)) = [] := daysP_nil fun t _ _ h => by rw [List.take_zero] at h; exact in_nil t h
    exact ⟨0, none, 0, Nat.zero_le _, rfl, by rw [h0]; rfl, by rw [h0]; exact NRow.nil _ _, Below.refl _ _⟩
  case round =>
    obtain ⟨k, B, c, hk, rfl, rfl, hR, hKp⟩ := hrel
    by_cases hlt : k < L.length
    · obtain ⟨b, off, rfl, hblt, c1, c2⟩ := (HROW.out.spans (.of_plain HP.out)).2 k hlt
      have hblt' := Nat.lt_of_lt_of_le hblt hKp.out.size
      have HC : Hid (∀ W, Below w1.heap.size w1 W → W.cell? ⟨b, off + k * 2 + 1, none⟩ = some (.int .i64 (L.getD k (0, 0)).2) ∧ b < W.heap.size) := fun W hW => ⟨(hW.cell hblt).trans c2, Nat.lt_of_lt_of_le hblt hW.size⟩
      replace c1 := (hKp.out.cell hblt).trans c1
      clear c2
      have HZ := (plain_pairs.1 HP.out).1 (L.getD k (0, 0)) (by simp [List.getD, hlt])
      have HS := Lib.hid (fun f n hf hn hl => upP_step HP.out hlt (f := f) (n := n) hf hn hl)
      have HF := Lib.hid (fun T hT => upP_first (L := L) (k := k) (T := T) hT)
      have HL := Lib.hid (fun T hT => upP_last hlt (T := T) hT)
      generalize L.getD k (0, 0) = z at *
      obtain ⟨x, y⟩ := z
      simp only [] at *
      obtain ⟨z0, z1, z2⟩ := HZ
      have hp := pday_at (t := x) (by omega) (by omega)
      have hq := pday_at (t := y - 1) (by omega) (by omega)
      have CP := Lib.hid (fun W => rday_same x W)
      have CQ := Lib.hid (fun W => rday_same (y - 1) W)
      rw [hp] at CP
      rw [hq] at CQ
      clear hp hq
      have hp1 : x / 86400 * 86400 ≤ x ∧ 0 ≤ x / 86400 ∧ x / 86400 ≤ 370 ∧ x / 86400 ≤ (y - 1) / 86400 ∧ (y - 1) / 86400 ≤ 370 ∧ y ≤ ((y - 1) / 86400 + 1) * 86400 := by omega
      obtain ⟨p, hpe⟩ : ∃ p, x / 86400 = p := ⟨_, rfl⟩
      obtain ⟨q, hqe⟩ : ∃ q, (y - 1) / 86400 = q := ⟨_, rfl⟩
      rw [hpe, hqe] at hp1
      rw [hpe] at CP
      rw [hqe] at CQ
      have HS2 : Hid (∀ n : Nat, p + n ≤ q → daysP (upP L k ((p + n + 1) * 86400)) = if (daysP (upP L k ((p + n) * 86400))).length = 0 ∨ (daysP (upP L k ((p + n) * 86400))).getD ((daysP (upP L k ((p + n) * 86400))).length - 1) 0 ≠ p + n then daysP (upP L k ((p + n) * 86400)) ++ [p + (n : Int)] else daysP (upP L k ((p + n) * 86400))) := fun n hn => by
        obtain ⟨h1, h2⟩ := HS.out p n hpe (by omega) (by omega)
        rw [← h1, push_ne h2]
      clear HS hpe hqe
      obtain ⟨p1, p2, p3, p4, p5, p6⟩ := hp1
      obtain ⟨m, hm⟩ : ∃ m : Nat, q - p + 1 = m := ⟨(q - p + 1).toNat, by omega⟩
      have HR1 : Hid (daysP (In (L.take k)) = daysP (upP L k (p * 86400))) := HF.out _ p1
      have HR2 : Hid (daysP (upP L k ((p + m) * 86400)) = daysP (In (L.take (k + 1)))) := HL.out _ (by omega)
      clear HF HL p1 p6
      rw [HR1.out] at hR ⊢
      go_wp2_with fail
      refine (CP.out _).mono ?_
      rintro e w2 ⟨rfl, rfl⟩
      clear HR1 CP c1 hblt'
      go_wp2
      go_loopw [4, 6] (fun o d wr2 => ∃ (n : Nat) (B : Option Addr) (c : Nat), n ≤ m ∧ d = .int .i64 (p + n) ∧ o = .slice B (daysP (upP L k ((p + n) * 86400))).length c ∧ Hid (NRow wr2 w1.heap.size B c (daysP (upP L k ((p + n) * 86400)))) ∧ Hid (Below w1.heap.size w1 wr2)) (fun _ d _ => m - (intOf d - p).toNat)
      case atStart =>
        have e0 : p + ((0 : Nat) : Int) = p := by omega
        exact ⟨0, B, c, Nat.zero_le _, by rw [e0], by rw [e0], by rw [e0]; exact hR, hKp⟩
      case round =>
        clear hR hKp
        obtain ⟨n, B2, c2, hn, rfl, rfl, hR4, hKp4⟩ := hrel
        obtain ⟨cy, hcl⟩ := HC.out _ hKp4.out
        by_cases hlt2 : n < m
        · have hD := daysP_len (upP L k ((p + n) * 86400))
          have HPU := HS2.out n (by omega)
          have e1 : p + ((n + 1 : Nat) : Int) = p + n + 1 := by omega
          have HR2b := HR2
          obtain ⟨d, hd⟩ : ∃ d, p + (n : Int) = d := ⟨_, rfl⟩
          rw [hd] at HPU hR4 hD e1 ⊢
          have i1 : d ≤ q := by omega
          have i2 : 0 ≤ d := by omega
          obtain ⟨Dn, hDn⟩ : ∃ Dn, daysP (upP L k (d * 86400)) = Dn := ⟨_, rfl⟩
          rw [hDn] at HPU hR4 hD ⊢
          obtain ⟨r, hr⟩ : ∃ r, Dn.length = r := ⟨_, rfl⟩
          rw [hr] at HPU hD ⊢
          obtain ⟨A5, c5, w5, hr5, hrow5, hkp5⟩ := nrow_one hR4.out hr d (by omega) hKp4.out.size (s := wr.heap.size) rfl
          have HR5 := Lib.hid hr5
          have HB5 := Lib.hid (below_kept hKp4.out hkp5)
          have HRW5 := Lib.hid hrow5
          have HL5 : Hid ((Dn ++ [d]).length = r + 1) := by show _ = _; rw [List.length_append, hr]; rfl
          have HMS : Hid (m - (d + 1 - p).toNat < m - (d - p).toNat) := by show _ < _; omega
          replace hd := Lib.hid hd
          replace hr := Lib.hid hr
          clear hr5 hrow5 hkp5 hDn
          by_cases h0 : r = 0
          · subst h0
            rw [if_pos (.inl rfl)] at HPU
            replace HPU := Lib.hid HPU
            go_wp2_with fail
            refine (CQ.out _).mono ?_
            rintro e w2 ⟨rfl, rfl⟩
            go_wp2_with (at_builtin; refine wpList_append_run (o := ⟨some 48, _, _, _, _, _⟩) HR5.out rfl rfl rfl rfl ?_)
            go_roundw
            case rel => exact ⟨n + 1, A5, c5, by omega, by rw [e1], by rw [e1, HPU.out, HL5.out], by rw [e1, HPU.out]; exact HRW5, HB5⟩
            case measure => simp [intOf]; first | exact HMS.out | (have := HMS.out; omega)
          · obtain ⟨j, rfl⟩ : ∃ j, r = j + 1 := ⟨r - 1, by omega⟩
            obtain ⟨b3, off3, rfl, hc3⟩ := nrow_at hR4.out (k := j) (by rw [hr.out]; omega)
            have hcl3 := cell_lt hc3
            rw [show j + 1 - 1 = j by omega] at HPU
            generalize Dn.getD j 0 = l at *
            by_cases h1 : l = d
            · subst h1
              rw [if_neg (by omega)] at HPU
              replace HPU := Lib.hid HPU
              go_wp2_with fail
              refine (CQ.out _).mono ?_
              rintro e w2 ⟨rfl, rfl⟩
              go_wp2
              go_roundw
              case rel => exact ⟨n + 1, _, c2, by omega, by rw [e1], by rw [e1, HPU.out, hr.out], by rw [e1, HPU.out]; exact hR4, hKp4⟩
              case measure => simp [intOf]; first | exact HMS.out | (have := HMS.out; omega)
            · rw [if_pos (.inr h1)] at HPU
              replace HPU := Lib.hid HPU
              have h2 : (l != d) = true := by simpa using h1
              go_wp2_with fail
              refine (CQ.out _).mono ?_
              rintro e w2 ⟨rfl, rfl⟩
              go_wp2_with (at_builtin; refine wpList_append_run (o := ⟨some 48, _, _, _, _, _⟩) HR5.out rfl rfl rfl rfl ?_)
              go_roundw
              case rel => exact ⟨n + 1, A5, c5, by omega, by rw [e1], by rw [e1, HPU.out, HL5.out], by rw [e1, HPU.out]; exact HRW5, HB5⟩
              case measure => simp [intOf]; first | exact HMS.out | (have := HMS.out; omega)
        · obtain rfl : n = m := by omega
          have i1 : ¬ p + (n : Int) ≤ q := by omega
          rw [HR2.out] at hR4 ⊢
          go_wp2_with fail
          refine (CQ.out _).mono ?_
          rintro e w2 ⟨rfl, rfl⟩
          go_wp2
          go_roundw
          case rel => exact ⟨k + 1, B2, c2, by omega, by go_num, rfl, hR4, hKp4⟩
          case measure => simp [intOf]; omega
    · obtain rfl : k = L.length := by omega
      rw [List.take_length, HE.out] at hR ⊢
      have HBW : Hid (Below w.heap.size w wr) := bel_on HB1.out hKp.out
      have HRW : Hid (NRow wr w.heap.size B c (daysP (In xs))) := hR.out.mono HB1.out.size
      generalize daysP (In xs) = R at *
      go_wp2
      go_ret
      exact ⟨B, c, rfl, HRW.out, HBW.out⟩
end Go.Proofs.YthdolmhnjinlhaaGreat

namespace Go.Proofs.YthdolmhnjinlhaaGreat
open Go.RowKit
set_option linter.unusedVariables false
set_option linter.unusedSimpArgs false
set_option maxRecDepth 20000

/-- In a walk: a whole setup is read. -/
theorem wpList_load_sp {ops : Array Oper} {rest : List Oper} {o : Oper} {a : Act} {w : World} {Q : Exit → Act → World → Prop} (hgd : Region.wanted o (yielded ops a.tmps) = true) (x : Operand) (ho : o.op = .load 30 x)
    (g : Nat) (hx : a.eval x = .pointer (some ⟨g, 0, none⟩)) (cs : Array Value) (hg : Has w g cs) (hs : cs.size = 23)
    (h : wpList Tryz.prog ops Q rest (a.put o.dst (.agg cs)) w) : wpList Tryz.prog ops Q (o :: rest) a w := by
  refine wpList_step fun K hK => ?_
  rw [if_pos hgd]
  obtain ⟨t, hg⟩ := hg
  exact wp_load_row _ x ho g hx t cs (0, 0) _ hg Tryz.underlying30 rfl (by rw [hs]; kernel_rfl) (hK _ _ h)
theorem setV_pun {s : SetP} {A1 A2 A3 A4 A5 A6 : Option Addr} {c1 c2 c3 c4 c5 c6 : Nat} {cs : Array Value} (h : setV s A1 A2 A3 A4 A5 A6 c1 c2 c3 c4 c5 c6 = .agg cs) : cs.size = 23 ∧ cs[8]? = some (.int .i64 s.unit) ∧ cs[9]? = some (.int .i64 s.cap) := by
  unfold setV at h
  injection h with h
  subst h
  exact ⟨rfl, rfl, rfl⟩
end Go.Proofs.YthdolmhnjinlhaaGreat
