/-
  The document's own Of, by its loops.
-/
import Derived.Test.YtdlimgpmmkcgmaaGreatZay
namespace Go.Proofs.YtdlimgpmmkcgmaaGreat
open Go.RowKit
set_option linter.unusedVariables false
set_option linter.unusedSimpArgs false
set_option maxRecDepth 20000

theorem next_bd {T d y p q n0 n1 n2 : Int} (h0 : min (d + 86400) y = n0) (h1 : (if T < p then min n0 p else n0) = n1) (h2 : (if T < q then min n1 q else n1) = n2) (hT : T < d + 86400) (hy : T < y) : T < n2 ∧ n2 ≤ y ∧ n2 ≤ d + 86400 ∧ (T < p → n2 ≤ p) ∧ (T < q → n2 ≤ q) := by
  subst h0
  split at h1
  · split at h2 <;> omega
  · split at h2 <;> omega

set_option maxHeartbeats 8000000 in
theorem rofnight_c {w : World} {s : SetP} {cs : Array Value} (h : SetC w s cs) (hf : s.Fit) (b : Bool) (hb : checkB s = b) (A : Option Addr) (cap : Nat) (xs : List (Int × Int)) (hx : Spans w A xs) (hl : xs.length ≤ 100000000) :
    Calls Tryz.prog 34 #[.agg cs, .slice A xs.length cap] w (Gives w (canon fun t => In xs t ∧ NB b s.nfrom s.nto t)) := by
  have HZ := Lib.hid h.size
  have hnw := nw_of hb
  obtain ⟨q16, q17⟩ := setC_night h
  have hb0 := bel_alloc (Below.refl w.heap.size w) (.cells cs 30)
  have HB0 := Lib.hid (Has.new w 30 cs rfl)
  have HS0 := h.below hb0
  have hcon := rnorm_any A cap xs _ (hx.below hb0) hl
  have HI := Lib.hid (fun W (hW : SetC W s cs) t v hv => risnight_c hW hf b hb t v hv)
  have HP := Lib.hid (canon_plain (In xs))
  have HE : Hid (∀ o T, TellK b s.nfrom s.nto (canon (In xs)) (canon (In xs)).length T o → canon (In o) = canon fun t => In xs t ∧ NB b s.nfrom s.nto t) := fun o T ho => tell_end rfl ho
  have hlen := canon_len (In xs)
  have hff : In64 s.nfrom ∧ In64 s.nto := ⟨hf.nfrom, hf.nto⟩
  generalize (canon fun t => In xs t ∧ NB b s.nfrom s.nto t) = R at *
  generalize canon (In xs) = L at *
  obtain ⟨N, hN⟩ : ∃ N, L.length = N := ⟨_, rfl⟩
  rw [hN] at HE
  generalize s.nfrom = f at *
  generalize s.nto = g at *
  clear h hf hb hx
  go_enter Tryz.func34, Tryz.ntmps34
  go_wp2_with fail
  refine hcon.mono ?_
  rintro e w1 ⟨D, dc, rfl, hrow, hb1⟩
  rw [hN]
  have HL := Lib.hid (hrow.spans (.of_plain HP.out))
  have HB1 := Lib.hid (bel_on hb0 hb1)
  have HG1 := Lib.hid (HB0.out.below hb1)
  have HS1 := Lib.hid (HS0.below hb1)
  have hwz : w.heap.size < w1.heap.size := HG1.out.size
  clear hrow hcon hb0 hb1 HB0 HS0
  go_wp2
  go_loopw [6, 7] (fun o i wr => ∃ (k : Nat) (B : Option Addr) (c : Nat) (out : List (Int × Int)), k ≤ N ∧ i = .int .i64 k ∧ o = .slice B out.length c ∧ Hid (Row wr w1.heap.size B c out) ∧ Hid (TellK b f g L k (ahead L k) out) ∧ Hid (Below w1.heap.size w1 wr)) (fun _ i _ => N - (intOf i).toNat)
  case atStart => exact ⟨0, none, 0, [], Nat.zero_le _, rfl, rfl, Row.nil _ _, tell_nil _ _ _ _, Below.refl _ _⟩
  case round =>
    obtain ⟨k, B, c, out, hk, rfl, rfl, hR, hT, hbw⟩ := hrel
    by_cases hlt : k < N
    · obtain ⟨ba, off, rfl, hba, c1, c2⟩ := HL.out.2 k (by omega)
      have HC1 := Lib.hid (fun W (hW : Below w1.heap.size w1 W) => (hW.cell (p := ⟨ba, off + k * 2, none⟩) hba).trans c1)
      have HC2 := Lib.hid (fun W (hW : Below w1.heap.size w1 W) => And.intro ((hW.cell (p := ⟨ba, off + k * 2 + 1, none⟩) hba).trans c2) (Nat.lt_of_lt_of_le hba hW.size))
      have d1 := HC1.out _ hbw.out
      have d2 := (HC2.out _ hbw.out).1
      have dl := cell_lt d1
      have hz := (plain_pairs.1 HP.out).1 (L.getD k (0, 0)) (by simp [List.getD, hN, hlt])
      have HT0 := Lib.hid (tell_first HP.out (by omega) hT.out)
      have HT1 := Lib.hid (fun T o (e : T = (L.getD k (0, 0)).2) ho => tell_last (b := b) (f := f) (g := g) (p := L) (o := o) (k := k) (T := T) (by omega) e ho)
      have HT2 := Lib.hid (fun T U o ho h0 hT hU hU2 hf hs hn => tell_yes (b := b) (f := f) (g := g) (p := L) (o := o) (k := k) (T := T) (U := U) ho h0 hT hU hU2 hf hs hn)
      have HT3 := Lib.hid (fun T U o ho hT hs hn => tell_no (b := b) (f := f) (g := g) (p := L) (o := o) (k := k) (T := T) (U := U) ho hT hs hn)
      clear hT c1 c2
      generalize L.getD k (0, 0) = z at *
      obtain ⟨x, y⟩ := z
      simp only [] at d1 d2 hz HT0 HT1 HT2 HC1 HC2
      obtain ⟨z0, z1, z2⟩ := hz
      have i0 : (0 : Int) ≤ (k : Int) := by omega
      have i1 : (k : Int) < (N : Int) := by omega
      go_wp2
      go_loopw [6, 8] (fun o i wr2 => ∃ (T : Int) (B : Option Addr) (c : Nat) (out : List (Int × Int)), x ≤ T ∧ T ≤ y ∧ i = .int .i64 T ∧ o = .slice B out.length c ∧ Hid (Row wr2 w1.heap.size B c out) ∧ Hid (TellN b f g L k T out) ∧ Hid (Below w1.heap.size w1 wr2)) (fun _ i _ => (y - intOf i).toNat)
      case atStart => exact ⟨x, B, c, out, Int.le_refl _, by omega, rfl, rfl, hR, HT0, hbw⟩
      case round =>
        clear hR HT0 hbw d1 d2 dl
        obtain ⟨T, B, c, out, hT0, hT1, rfl, rfl, hR, hT, hbw⟩ := hrel
        have d1 := HC1.out _ hbw.out
        obtain ⟨d2, dl⟩ := HC2.out _ hbw.out
        by_cases hlt2 : T < y
        · obtain ⟨r, hr⟩ : ∃ r, T % 86400 = r := ⟨_, rfl⟩
          have hr1 : T.tmod 86400 = r := by rw [Int.tmod_eq_emod_of_nonneg (by omega)]; exact hr
          have hr2 : 0 ≤ r ∧ r < 86400 ∧ r ≤ T := by omega
          obtain ⟨d, hd⟩ : ∃ d, T - r = d := ⟨_, rfl⟩
          have hd1 : 0 ≤ d ∧ d ≤ T ∧ T < d + 86400 := by omega
          have hw : IntKind.i64.wrap (T - r) = d := by rw [hd]; exact wrapn_id (by omega) (by omega)
          obtain ⟨p, hp⟩ : ∃ p, IntKind.i64.wrap (d + f) = p := ⟨_, rfl⟩
          obtain ⟨q, hq⟩ : ∃ q, IntKind.i64.wrap (d + g) = q := ⟨_, rfl⟩
          have hp1 : b = true → p = d + f := fun e => by rw [← hp]; have := (hnw e).1; exact wrapn_id (by omega) (by omega)
          have hq1 : b = true → q = d + g := fun e => by rw [← hq]; have := (hnw e).2; exact wrapn_id (by omega) (by omega)
          obtain ⟨n0, h0⟩ : ∃ n, min (d + 86400) y = n := ⟨_, rfl⟩
          obtain ⟨n1, h1⟩ : ∃ n, (if T < p then min n0 p else n0) = n := ⟨_, rfl⟩
          obtain ⟨n2, h2⟩ : ∃ n, (if T < q then min n1 q else n1) = n := ⟨_, rfl⟩
          obtain ⟨u0, u1, u2, u3, u4⟩ := next_bd h0 h1 h2 hd1.2.2 hlt2
          have hst := next_still (b := b) (f := f) (g := g) (T := T) (U := n2) (by omega) (fun e k => by have := hp1 e; omega) (fun e k => by have := hq1 e; omega)
          have HM0 := Lib.hid h0
          have hg1 := HG1.out.below hbw.out
          have f16 := hg1.cell 16 q16
          have f17 := hg1.cell 17 q17
          have hgl := hg1.size
          have HGr := Lib.hid hg1
          have hol := hT.out.2.1
          obtain ⟨v, hv⟩ : ∃ v, isB b f g T = v := ⟨_, rfl⟩
          have HI1 := Lib.hid (HI.out _ (HS1.out.below hbw.out) T v hv)
          have hv2 : v = true ↔ NB b f g T := by
            rw [← hv]; unfold isB; rw [decide_eq_true_eq]; exact ⟨fun k => k.2.2, fun k => ⟨by omega, by omega, k⟩⟩
          have HY : Hid (v = true → TellN b f g L k n2 (out ++ [(T, n2)])) := fun e => HT2.out T n2 out hT.out (by omega) u0 u1 (by omega) hT0 hst (hv2.1 e)
          have HN : Hid (v = false → TellN b f g L k n2 out) := fun e => HT3.out T n2 out hT.out u0 hst (fun k => by rw [hv2.2 k] at e; cases e)
          have HU := Lib.hid (And.intro u0 u1)
          clear hr hd h0 hp1 hq1 u2 u3 u4 hst hT hg1 hv hv2 u0 u1
          have i2 : (0 : Int) ≤ T := by omega
          by_cases e1 : T < p
          all_goals
            first | (rw [if_pos e1] at h1; replace h1 := Lib.hid h1) | (rw [if_neg e1] at h1; replace h1 := h1.symm; subst h1)
            by_cases e2 : T < q
            all_goals
              first | (rw [if_pos e2] at h2; replace h2 := Lib.hid h2) | (rw [if_neg e2] at h2; replace h2 := h2.symm; subst h2)
              cases v with
              | false =>
                have HT4 := Lib.hid (HN.out rfl)
                clear HN HY
                go_wp2_with (first | refine wpList_min2i (o := ⟨some 43, _, _, _, _, _⟩) _ _ _ HM0.out rfl rfl rfl rfl ?_ | refine wpList_min2i (o := ⟨some 55, _, _, _, _, _⟩) _ _ _ h1.out rfl rfl rfl rfl ?_ | refine wpList_min2i (o := ⟨some 67, _, _, _, _, _⟩) _ _ _ h2.out rfl rfl rfl rfl ?_ | refine wpList_load_sp (by rfl) _ rfl w.heap.size rfl cs HGr.out HZ.out ?_)
                refine HI1.out.mono ?_
                rintro e w3 ⟨rfl, b3⟩
                have HB3 := Lib.hid (bel_on hbw.out b3)
                have HR3 := Lib.hid (hR.out.below b3)
                clear b3 HI1 HGr
                go_wp2
                go_roundw
                case rel => exact ⟨n2, B, c, out, by have := HU.out; omega, HU.out.2, rfl, rfl, HR3, HT4, HB3⟩
                case measure => have := HU.out; simp [intOf]; omega
              | true =>
                have HT4 := Lib.hid (HY.out rfl)
                clear HN HY
                go_wp2_with (first | refine wpList_min2i (o := ⟨some 43, _, _, _, _, _⟩) _ _ _ HM0.out rfl rfl rfl rfl ?_ | refine wpList_min2i (o := ⟨some 55, _, _, _, _, _⟩) _ _ _ h1.out rfl rfl rfl rfl ?_ | refine wpList_min2i (o := ⟨some 67, _, _, _, _, _⟩) _ _ _ h2.out rfl rfl rfl rfl ?_ | refine wpList_load_sp (by rfl) _ rfl w.heap.size rfl cs HGr.out HZ.out ?_)
                refine HI1.out.mono ?_
                rintro e w3 ⟨rfl, b3⟩
                have HB3 := Lib.hid (bel_on hbw.out b3)
                have hbz := HB3.out.size
                obtain ⟨A6, c6, w6, hr6, hrow6, hbel6, _⟩ := row_push (hR.out.below b3) T n2 (by omega) hbz rfl
                have HR6 := Lib.hid hr6
                have HRow6 := Lib.hid hrow6
                have HB6 := Lib.hid (hbel6 w1 (Nat.le_refl _) HB3.out)
                clear b3 HI1 HGr hr6 hrow6 hbel6
                go_wp2_with (at_builtin; refine wpList_append_run (o := ⟨some 77, _, _, _, _, _⟩) HR6.out rfl rfl rfl rfl ?_)
                go_roundw
                case rel => exact ⟨n2, A6, c6, out ++ [(T, n2)], by have := HU.out; omega, HU.out.2, rfl, by rw [List.length_append]; rfl, HRow6, HT4, HB6⟩
                case measure => have := HU.out; simp [intOf]; omega
        · obtain rfl : T = y := by omega
          have HTK := Lib.hid (HT1.out T out rfl hT.out)
          go_wp2
          go_roundw
          case rel => exact ⟨k + 1, B, c, out, by omega, by go_num, rfl, hR, HTK, hbw⟩
          case measure => simp [intOf]; omega
    · obtain rfl : k = N := by omega
      have HBR := Lib.hid (bel_on HB1.out hbw.out)
      have hol := hT.out.2.1
      have hEE := HE.out out _ hT.out
      have hot := ahead_top HP.out (k := k) (by omega)
      have HRS := Lib.hid (hR.out.spans hT.out.1)
      clear hR hT hbw
      go_wp2_with fail
      refine (rnorm_any B c out _ HRS.out (by omega)).mono ?_
      intro e w6 hg
      have HG6 := gives_bel hg HBR.out hEE
      clear hg
      obtain ⟨D6, d6, rfl, hr6, hb6⟩ := HG6
      go_wp2
      go_ret
      exact ⟨D6, d6, rfl, hr6, hb6⟩
end Go.Proofs.YtdlimgpmmkcgmaaGreat
