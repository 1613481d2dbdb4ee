/-
  BreaksFirst: of breaks the first ones are paid, and the last ones not, and of all else too.
-/
import Derived.Test.YtghfhoodbiiciaaBrkLw
import Derived.Deep.DeepCutAuto
import Derived.Deep.QuietTactic
namespace Go.Proofs.Ytghfhoodbiiciaa
open Go.RowKit
set_option linter.unusedVariables false
set_option linter.unusedSimpArgs false
set_option maxRecDepth 100000

section
variable {s : SetP} {l : List SegP} {d : Int}
theorem dyes_in {t : Int} : In (dayYes true s l d) t ↔ 0 ≤ t ∧ t < 32054400 ∧ paidS (onDay (clkS l) d) (onDay (rstS l) d) s.paid s.aft s.brk t := by
  unfold dayYes paidDay
  rw [if_pos rfl, canon_in]
theorem dno_in {t : Int} : In (dayNo true s l d) t ↔ 0 ≤ t ∧ t < 32054400 ∧ notS (onDay (clkS l) d) (onDay (rstS l) d) s.paid s.aft s.brk t := by
  unfold dayNo notDay
  rw [if_pos rfl, canon_in]
theorem first_rests {t u : Int} (ht : In (canon fun t => In (dayYes true s l d) t ∧ In (clockP (l.filter (ofKind 3))) t) t) (hu : In (canon fun t => In (dayNo true s l d) t ∧ In (clockP (l.filter (ofKind 3))) t) u) : t < u := by
  rw [canon_in, dyes_in] at ht
  rw [canon_in, dno_in] at hu
  obtain ⟨h0, h1, ⟨_, _, p1⟩, p2⟩ := ht
  obtain ⟨k0, k1, ⟨_, _, n1⟩, n2⟩ := hu
  exact rests_below (C := onDay (clkS l) d) (R := onDay (rstS l) d) (fun t h => ⟨rst_clk l t h.1, h.2⟩) h0 k0 ⟨p1, p2, p1.1.2⟩ ⟨n1, n2, n1.1.2⟩
theorem first_other {t u : Int} (ht : In (canon fun t => In (dayYes true s l d) t ∧ ¬ In (clockP (l.filter (ofKind 3))) t) t) (hu : In (canon fun t => In (dayNo true s l d) t ∧ ¬ In (clockP (l.filter (ofKind 3))) t) u) : t < u := by
  rw [canon_in, dyes_in] at ht
  rw [canon_in, dno_in] at hu
  obtain ⟨h0, h1, ⟨_, _, p1⟩, p2⟩ := ht
  obtain ⟨k0, k1, ⟨_, _, n1⟩, n2⟩ := hu
  exact other_below (C := onDay (clkS l) d) (R := onDay (rstS l) d) h0 k0 ⟨p1, fun q => p2 q.1⟩ ⟨n1, fun q => n2 q.1⟩
theorem first_size (hm : 0 ≤ s.paid) : sz (In (canon fun t => In (dayYes true s l d) t ∧ In (clockP (l.filter (ofKind 3))) t)) ≤ s.paid := by
  rw [sz_can]
  refine Int.le_trans (Int.le_of_eq (sz_congr fun t h0 h1 => ?_)) (sz_paid_rests (C := onDay (clkS l) d) (R := onDay (rstS l) d) (af := s.aft) (ab := s.brk) (fun t h => ⟨rst_clk l t h.1, h.2⟩) hm)
  rw [dyes_in]
  constructor
  · rintro ⟨⟨_, _, q⟩, k⟩; exact ⟨q, k, q.1.2⟩
  · rintro ⟨q, k⟩; exact ⟨⟨h0, h1, q⟩, k.1⟩
end
set_option maxHeartbeats 8000000 in
theorem breaksFirst_main (s : SetP) (cs : Array Value) (w : World) (hC : SetC w s cs) (hf : s.Fit) (A : Option Addr) (n c : Nat) (l : List SegP) (hx : Segs w A n c l) (hF : ∀ e ∈ l, Fit e.fr ∧ Fit e.to) (hmax : n ≤ 9223372036854775807) (dy : Int) (dy0 : 0 ≤ dy) (dy1 : dy ≤ 255) :
    Calls Try.prog 6 #[.agg cs, .slice A n c, .int .u8 dy] w fun e w' => e = .returned (.bool true) ∧ Below w.heap.size w w' := by
  have mixed : Try.prog.follows Departure.mixedOrders = true := by kernel_rfl
  have HM := Lib.hid mixed
  have HZ := Lib.hid hC.size
  have HN0 := Lib.hid (bx_start hC hx)
  have HFEW := Lib.hid (fun W (hW : SetC W s cs) (hX : Segs W A n c l) => few15 s cs W hW A n c l hX hmax)
  obtain ⟨b, hb⟩ : ∃ b, checkB s = b := ⟨_, rfl⟩
  have CCK := Lib.hid (fun W (hW : SetC W s cs) => scheck_c hW hf b hb)
  have COD := Lib.hid (fun W (hW : SetC W s cs) (hX : Segs W A n c l) hn => bofday_c hW hf b hb A n c l hX hn hF dy)
  have CON := Lib.hid (fun W (hX : Segs W A n c l) (hn : n ≤ 30) => sonly_any A n c l 3 W hX (by omega) hF)
  have PN := Lib.hid (dno_plain b s l dy)
  have PY := Lib.hid (dyes_plain b s l dy)
  have lP := pl_len PY.out
  have lN := pl_len PN.out
  obtain ⟨q10, q11, q12⟩ := setC_brk hC
  have FR : Hid (Fits (clockP (l.filter (ofKind 3)))) := Fits.canon _
  have lR : (clockP (l.filter (ofKind 3))).length ≤ 32054401 := canon_len _
  have GA : Hid (b = true → ∀ t u, In (canon fun t => In (dayYes b s l dy) t ∧ In (clockP (l.filter (ofKind 3))) t) t → In (canon fun t => In (dayNo b s l dy) t ∧ In (clockP (l.filter (ofKind 3))) t) u → t < u) := fun e => by subst e; exact fun t u h k => first_rests h k
  have GC : Hid (b = true → ∀ t u, In (canon fun t => In (dayYes b s l dy) t ∧ ¬ In (clockP (l.filter (ofKind 3))) t) t → In (canon fun t => In (dayNo b s l dy) t ∧ ¬ In (clockP (l.filter (ofKind 3))) t) u → t < u) := fun e => by subst e; exact fun t u h k => first_other h k
  have GS : Hid (b = true → sz (In (canon fun t => In (dayYes b s l dy) t ∧ In (clockP (l.filter (ofKind 3))) t)) ≤ s.paid) := fun e => by subst e; exact first_size (check_iff.1 hb).paid.1
  have PLA : Hid (PlainFrom 0 (canon fun t => In (dayYes b s l dy) t ∧ In (clockP (l.filter (ofKind 3))) t)) := canon_plain _
  have PLB : Hid (PlainFrom 0 (canon fun t => In (dayNo b s l dy) t ∧ In (clockP (l.filter (ofKind 3))) t)) := canon_plain _
  have PLC : Hid (PlainFrom 0 (canon fun t => In (dayYes b s l dy) t ∧ ¬ In (clockP (l.filter (ofKind 3))) t)) := canon_plain _
  have PLD : Hid (PlainFrom 0 (canon fun t => In (dayNo b s l dy) t ∧ ¬ In (clockP (l.filter (ofKind 3))) t)) := canon_plain _
  have CAA := Lib.hid (fun W D d E e (hD : Spans W D (dayYes b s l dy)) (hE : Spans W E (clockP (l.filter (ofKind 3)))) => and_any D E d e (dayYes b s l dy) (clockP (l.filter (ofKind 3))) W hD hE (by omega) (by omega))
  have CAB := Lib.hid (fun W D d E e (hD : Spans W D (dayNo b s l dy)) (hE : Spans W E (clockP (l.filter (ofKind 3)))) => and_any D E d e (dayNo b s l dy) (clockP (l.filter (ofKind 3))) W hD hE (by omega) (by omega))
  have CMA := Lib.hid (fun W D d E e (hD : Spans W D (dayYes b s l dy)) (hE : Spans W E (clockP (l.filter (ofKind 3)))) => minus_any D E d e (dayYes b s l dy) (clockP (l.filter (ofKind 3))) W hD hE (by omega) (by omega))
  have CMB := Lib.hid (fun W D d E e (hD : Spans W D (dayNo b s l dy)) (hE : Spans W E (clockP (l.filter (ofKind 3)))) => minus_any D E d e (dayNo b s l dy) (clockP (l.filter (ofKind 3))) W hD hE (by omega) (by omega))
  generalize (canon fun t => In (dayYes b s l dy) t ∧ In (clockP (l.filter (ofKind 3))) t) = LA at *
  generalize (canon fun t => In (dayNo b s l dy) t ∧ In (clockP (l.filter (ofKind 3))) t) = LB at *
  generalize (canon fun t => In (dayYes b s l dy) t ∧ ¬ In (clockP (l.filter (ofKind 3))) t) = LC at *
  generalize (canon fun t => In (dayNo b s l dy) t ∧ ¬ In (clockP (l.filter (ofKind 3))) t) = LE at *
  generalize dayYes b s l dy = PA at *
  generalize dayNo b s l dy = NA at *
  generalize clockP (l.filter (ofKind 3)) = Y at *
  generalize s.paid = pb at *
  clear hC hx hF hf hb
  go_enter Try.func6, Try.ntmps6
  go_wp2_with fail
  refine (awake15 _).mono ?_
  rintro e w1 ⟨rfl, b1⟩
  have HN1 := Lib.hid (HN0.out.below b1)
  clear HN0 b1
  go_wp2_with (refine wpList_load_sp (by rfl) _ rfl w.heap.size rfl cs HN1.out.h HZ.out ?_)
  refine (HFEW.out _ HN1.out.c HN1.out.x).mono ?_
  rintro e w2 ⟨⟨q, rfl, hq⟩, b2⟩
  have HN2 := Lib.hid (HN1.out.below b2)
  clear HN1 b2 HFEW
  cases q with
  | false =>
    have HE := Lib.hid HN2.out.b
    clear HN2 hq
    go_wp2
    go_ret
    exact ⟨rfl, HE.out⟩
  | true =>
    have h30 := hq rfl
    clear hq
    go_wp2_with (refine wpList_load_sp (by rfl) _ rfl w.heap.size rfl cs HN2.out.h HZ.out ?_)
    refine (CCK.out _ HN2.out.c).mono ?_
    rintro e w3 ⟨rfl, b3⟩
    have HN3 := Lib.hid (HN2.out.below b3)
    clear b3 HN2 CCK
    cases b with
    | false =>
      have HE := Lib.hid HN3.out.b
      clear HN3
      go_wp2
      go_ret
      exact ⟨rfl, HE.out⟩
    | true =>
      have LA1 := Lib.hid (fun la lb => ends_below PLA.out PLB.out (GA.out rfl) la lb)
      have LC1 := Lib.hid (fun la lb => ends_below PLC.out PLD.out (GC.out rfl) la lb)
      obtain ⟨za, hza⟩ : ∃ z, sz (In LA) = z := ⟨_, rfl⟩
      have hzp : za ≤ pb := by rw [← hza]; exact GS.out rfl
      have lLA := pl_len PLA.out
      have lLB := pl_len PLB.out
      have lLC := pl_len PLC.out
      have lLE := pl_len PLD.out
      have CSZ0 := Lib.hid (fun W D d (hW : Spans W D LA) => hza ▸ size_any D d LA W hW (by omega))
      clear GA GC GS hza
      go_wp2_with (refine wpList_load_sp (by rfl) _ rfl w.heap.size rfl cs HN3.out.h HZ.out ?_)
      refine (COD.out _ HN3.out.c HN3.out.x (by omega)).mono ?_
      rintro e w4 ⟨A4, c4, B4, d4, rfl, r4, s4, b4⟩
      have HN4 := Lib.hid (HN3.out.below b4)
      have HA4 := Lib.hid (r4.spans (.of_plain PY.out))
      have HB4 := Lib.hid (s4.spans (.of_plain PN.out))
      clear r4 s4 b4 HN3 COD
      go_wp2_with fail
      refine (CON.out _ HN4.out.x h30).mono ?_
      rintro e w5 ⟨A5, c5, rfl, r5, b5⟩
      have HG5 := Lib.hid (HN4.out.h.below b5)
      have HE5 := Lib.hid (bel_on HN4.out.b b5)
      have HA5 := Lib.hid (HA4.out.below b5)
      have HB5 := Lib.hid (HB4.out.below b5)
      have HX5 := Lib.hid (r5.spans FR.out)
      clear r5 b5 HN4 HA4 HB4 CON
      go_wp2_with fail
      refine (CAA.out _ _ _ _ _ HA5.out HX5.out).mono ?_
      rintro e w6 ⟨A6, c6, rfl, r6, b6⟩
      have HG6 := Lib.hid (HG5.out.below b6)
      have HE6 := Lib.hid (bel_on HE5.out b6)
      have HA6 := Lib.hid (HA5.out.below b6)
      have HB6 := Lib.hid (HB5.out.below b6)
      have HX6 := Lib.hid (HX5.out.below b6)
      have HSA6 := Lib.hid (r6.spans (.of_plain PLA.out))
      clear r6 b6 HG5 HE5 HA5 HB5 HX5 CAA
      go_wp2_with fail
      refine (CAB.out _ _ _ _ _ HB6.out HX6.out).mono ?_
      rintro e w7 ⟨A7, c7, rfl, r7, b7⟩
      have HG7 := Lib.hid (HG6.out.below b7)
      have HE7 := Lib.hid (bel_on HE6.out b7)
      have HA7 := Lib.hid (HA6.out.below b7)
      have HB7 := Lib.hid (HB6.out.below b7)
      have HX7 := Lib.hid (HX6.out.below b7)
      have HSA7 := Lib.hid (HSA6.out.below b7)
      have HSB7 := Lib.hid (r7.spans (.of_plain PLB.out))
      clear r7 b7 HG6 HE6 HA6 HB6 HX6 HSA6 CAB
      go_wp2_with fail
      refine (CMA.out _ _ _ _ _ HA7.out HX7.out).mono ?_
      rintro e w8 ⟨A8, c8, rfl, r8, b8⟩
      have HG8 := Lib.hid (HG7.out.below b8)
      have HE8 := Lib.hid (bel_on HE7.out b8)
      have HB8 := Lib.hid (HB7.out.below b8)
      have HX8 := Lib.hid (HX7.out.below b8)
      have HSA8 := Lib.hid (HSA7.out.below b8)
      have HSB8 := Lib.hid (HSB7.out.below b8)
      have HSC8 := Lib.hid (r8.spans (.of_plain PLC.out))
      clear r8 b8 HG7 HE7 HA7 HB7 HX7 HSA7 HSB7 CMA
      go_wp2_with fail
      refine (CMB.out _ _ _ _ _ HB8.out HX8.out).mono ?_
      rintro e w9 ⟨A9, c9, rfl, r9, b9⟩
      have HG9 := Lib.hid (HG8.out.below b9)
      have HE9 := Lib.hid (bel_on HE8.out b9)
      have HA := Lib.hid (HSA8.out.below b9)
      have HB := Lib.hid (HSB8.out.below b9)
      have HCC := Lib.hid (HSC8.out.below b9)
      have HD := Lib.hid (r9.spans (.of_plain PLD.out))
      clear r9 b9 HG8 HE8 HB8 HX8 HSA8 HSB8 HSC8 CMB
      have CSZ := Lib.hid (fun W (hW : Spans W A6 LA) => CSZ0.out W A6 c6 hW)
      obtain ⟨la, hla⟩ : ∃ k, LA.length = k := ⟨_, rfl⟩
      obtain ⟨lb, hlb⟩ : ∃ k, LB.length = k := ⟨_, rfl⟩
      obtain ⟨lc, hlc⟩ : ∃ k, LC.length = k := ⟨_, rfl⟩
      obtain ⟨le, hle⟩ : ∃ k, LE.length = k := ⟨_, rfl⟩
      rw [hla] at lLA CSZ
      rw [hlb] at lLB
      rw [hlc] at lLC
      rw [hle] at lLE
      rw [hla, hlb, hlc, hle]
      have HAl := Lib.hid hla
      have HBl := Lib.hid hlb
      have HCCl := Lib.hid hlc
      have HDl := Lib.hid hle
      clear hla hlb hlc hle CSZ0
      go_upto_region 10 with fail
      go_cut [11, 15] (fun s11 s15 wx => (s11 = .slice A6 la c6 ∧ s15 = .bool true) ∧ Hid (Below w9.heap.size w9 wx))
      case first =>
        cases la with
        | zero =>
          (first | go_quiet (fail) | (go_wp2; go_quiet (fail)))
          (try go_wp2)
          go_meet
          exact ⟨⟨rfl, rfl⟩, Lib.hid (below_drewN (Below.refl _ _) _)⟩
        | succ m =>
          have z1 : (((m : Nat) : Int) + 1 == 0) = false := by simp; omega
          cases lb with
          | zero =>
            (first | go_quiet (fail) | (go_wp2; go_quiet (fail)))
            (try go_wp2)
            go_meet
            exact ⟨⟨rfl, rfl⟩, Lib.hid (below_drewN (Below.refl _ _) _)⟩
          | succ k =>
            have z2 : (((k : Nat) : Int) + 1 == 0) = false := by simp; omega
            have hab := LA1.out (by have := HAl.out; omega) (by have := HBl.out; omega)
            have el := HAl.out
            obtain ⟨ba, oa, rfl, hba, x1, x2⟩ := HA.out.2 m (by omega)
            obtain ⟨bb, ob, rfl, hbb, y1, y2⟩ := HB.out.2 0 (by have := HBl.out; omega)
            rw [el, show m + 1 - 1 = m from rfl] at hab
            generalize (LA).getD m (0, 0) = u at *
            generalize (LB).getD 0 (0, 0) = v at *
            obtain ⟨u1, u2⟩ := u
            obtain ⟨v1, v2⟩ := v
            simp only [] at x1 x2 y1 y2 hab
            simp only [Nat.zero_mul, Nat.add_zero] at y1 y2
            have hd : decide (u2 ≤ v1) = true := decide_eq_true hab
            have i0 : (0 : Int) ≤ (m : Int) := by omega
            have i1 : (m : Int) < (m : Int) + 1 := by omega
            have wm : IntKind.i64.wrap (m : Int) = (m : Int) := wrapn_id (by omega) (by omega)
            (first | go_quiet (fail) | (go_wp2; go_quiet (fail)))
            (try go_wp2)
            go_meet
            exact ⟨⟨rfl, rfl⟩, Lib.hid (below_drewN (Below.refl _ _) _)⟩
      case rest =>
      obtain ⟨⟨rfl, rfl⟩, hbx⟩ := hcut
      have HGx := Lib.hid (HG9.out.below hbx.out)
      have HEx := Lib.hid (bel_on HE9.out hbx.out)
      have HAx := Lib.hid (HA.out.below hbx.out)
      have HCx := Lib.hid (HCC.out.below hbx.out)
      have HDx := Lib.hid (HD.out.below hbx.out)
      have HCxl := HCCl
      have HDxl := HDl
      clear hbx HG9 HE9 HA HB HCC HD HBl HCCl HDl
      (try go_upto_region 11 with fail)
      go_cut [16] (fun s16 wx => (s16 = .bool true) ∧ Hid (Below wc.heap.size wc wx))
      case first =>
        cases lc with
        | zero =>
          (first | go_quiet (fail) | (go_wp2; go_quiet (fail)))
          (try go_wp2)
          go_meet
          exact ⟨rfl, Lib.hid (below_drewN (Below.refl _ _) _)⟩
        | succ m =>
          have z1 : (((m : Nat) : Int) + 1 == 0) = false := by simp; omega
          cases le with
          | zero =>
            (first | go_quiet (fail) | (go_wp2; go_quiet (fail)))
            (try go_wp2)
            go_meet
            exact ⟨rfl, Lib.hid (below_drewN (Below.refl _ _) _)⟩
          | succ k =>
            have z2 : (((k : Nat) : Int) + 1 == 0) = false := by simp; omega
            have hab := LC1.out (by have := HCxl.out; omega) (by have := HDxl.out; omega)
            have el := HCxl.out
            obtain ⟨ba, oa, rfl, hba, x1, x2⟩ := HCx.out.2 m (by omega)
            obtain ⟨bb, ob, rfl, hbb, y1, y2⟩ := HDx.out.2 0 (by have := HDxl.out; omega)
            rw [el, show m + 1 - 1 = m from rfl] at hab
            generalize (LC).getD m (0, 0) = u at *
            generalize (LE).getD 0 (0, 0) = v at *
            obtain ⟨u1, u2⟩ := u
            obtain ⟨v1, v2⟩ := v
            simp only [] at x1 x2 y1 y2 hab
            simp only [Nat.zero_mul, Nat.add_zero] at y1 y2
            have hd : decide (u2 ≤ v1) = true := decide_eq_true hab
            have i0 : (0 : Int) ≤ (m : Int) := by omega
            have i1 : (m : Int) < (m : Int) + 1 := by omega
            have wm : IntKind.i64.wrap (m : Int) = (m : Int) := wrapn_id (by omega) (by omega)
            (first | go_quiet (fail) | (go_wp2; go_quiet (fail)))
            (try go_wp2)
            go_meet
            exact ⟨rfl, Lib.hid (below_drewN (Below.refl _ _) _)⟩
      case rest =>
      obtain ⟨rfl, hby⟩ := hcut
      have HGd := Lib.hid (HGx.out.below hby.out)
      have HEd := Lib.hid (bel_on HEx.out hby.out)
      have HAd := Lib.hid (HAx.out.below hby.out)
      clear hby HGx HEx HAx HCx HDx HCxl HDxl
      have hzd : decide (za ≤ pb) = true := decide_eq_true hzp
      obtain ⟨wd, hwd⟩ : ∃ wd, wc = wd := ⟨_, rfl⟩
      subst hwd
      (try go_upto_region 12 with fail)
      refine wp_region_noPanic ?_
      refine wp_region_held_drew (S := fun w' => Below wc.heap.size wc w') (by kernel_rfl) (below_drew (Below.refl _ _)) (fun hHeld => ?_)
      refine wpAnyH_take (i := 0) (oi := ⟨some 94, _, _, _, _, _⟩) (v := ?_) rfl (by kernel_rfl) (by kernel_rfl) (by kernel_rfl) (fun _ _ _ h => h) (Or.inl ⟨by rfl, ?_⟩) hHeld ?_
      rotate_left
      · intro ww hSw
        (try dsimp only at hSw)
        go_simp
        (try with_reducible rfl)
      simp only [Act.put, List.setIfInBounds_toArray, List.set_cons_zero, List.set_cons_succ]
      refine wpAnyH_take (i := 1) (oi := ⟨some 95, _, _, _, _, _⟩) (v := ?_) rfl (by kernel_rfl) (by kernel_rfl) (by kernel_rfl) (fun _ _ _ h => h) (Or.inl ⟨by rfl, ?_⟩) hHeld ?_
      rotate_left
      · intro ww hSw
        (try dsimp only at hSw)
        go_simp
        (try with_reducible rfl)
      simp only [Act.put, List.setIfInBounds_toArray, List.set_cons_zero, List.set_cons_succ]
      refine wpAnyH_take (i := 2) (oi := ⟨some 96, _, _, _, _, _⟩) (v := ?_) rfl (by kernel_rfl) (by kernel_rfl) (by kernel_rfl) (fun _ _ _ h => h) (Or.inl ⟨by rfl, ?_⟩) hHeld ?_
      rotate_left
      · intro ww hSw
        (try dsimp only at hSw)
        go_simp
        (try with_reducible rfl)
      simp only [Act.put, List.setIfInBounds_toArray, List.set_cons_zero, List.set_cons_succ]
      refine wpAnyH_take (i := 3) (oi := ⟨some 97, _, _, _, _, _⟩) (v := ?_) rfl (by kernel_rfl) (by kernel_rfl) (by kernel_rfl) (fun _ _ _ h => h) (Or.inl ⟨by rfl, ?_⟩) hHeld ?_
      rotate_left
      · intro ww hSw
        (try dsimp only at hSw)
        go_simp
        (try with_reducible rfl)
      simp only [Act.put, List.setIfInBounds_toArray, List.set_cons_zero, List.set_cons_succ]
      refine wpAnyH_take (i := 4) (oi := ⟨some 98, _, _, _, _, _⟩) (v := ?_) rfl (by kernel_rfl) (by kernel_rfl) (by kernel_rfl) (fun _ _ _ h => h) (Or.inl ⟨by rfl, ?_⟩) hHeld ?_
      rotate_left
      · intro ww hSw
        (try dsimp only at hSw)
        go_simp
        (try with_reducible rfl)
      simp only [Act.put, List.setIfInBounds_toArray, List.set_cons_zero, List.set_cons_succ]
      refine wpAnyH_take (i := 5) (oi := ⟨some 99, _, _, _, _, _⟩) (v := ?_) rfl (by kernel_rfl) (by kernel_rfl) (by kernel_rfl) (fun _ _ _ h => h) (Or.inl ⟨by rfl, ?_⟩) hHeld ?_
      rotate_left
      · intro ww hSw
        (try dsimp only at hSw)
        go_simp
        (try with_reducible rfl)
      simp only [Act.put, List.setIfInBounds_toArray, List.set_cons_zero, List.set_cons_succ]
      refine wpAnyH_take (i := 6) (oi := ⟨some 100, _, _, _, _, _⟩) (v := ?_) rfl (by kernel_rfl) (by kernel_rfl) (by kernel_rfl) (fun _ _ _ h => h) (Or.inl ⟨by rfl, ?_⟩) hHeld ?_
      rotate_left
      · intro ww hSw
        (try dsimp only at hSw)
        go_simp
        (try with_reducible rfl)
      simp only [Act.put, List.setIfInBounds_toArray, List.set_cons_zero, List.set_cons_succ]
      refine wpAnyH_take (i := 7) (oi := ⟨some 101, _, _, _, _, _⟩) (v := ?_) rfl (by kernel_rfl) (by kernel_rfl) (by kernel_rfl) (fun _ _ _ h => h) (Or.inl ⟨by rfl, ?_⟩) hHeld ?_
      rotate_left
      · intro ww hSw
        (try dsimp only at hSw)
        go_simp
        (try with_reducible rfl)
      simp only [Act.put, List.setIfInBounds_toArray, List.set_cons_zero, List.set_cons_succ]
      refine wpAnyH_take (i := 8) (oi := ⟨some 102, _, _, _, _, _⟩) (v := ?_) rfl (by kernel_rfl) (by kernel_rfl) (by kernel_rfl) (fun _ _ _ h => h) (Or.inl ⟨by rfl, ?_⟩) hHeld ?_
      rotate_left
      · intro ww hSw
        (try dsimp only at hSw)
        go_simp
        (try with_reducible rfl)
      simp only [Act.put, List.setIfInBounds_toArray, List.set_cons_zero, List.set_cons_succ]
      refine wpAnyH_take (i := 10) (oi := ⟨some 104, _, _, _, _, _⟩) (v := ?_) rfl (by kernel_rfl) (by kernel_rfl) (by kernel_rfl) (fun _ _ _ h => h) (Or.inl ⟨by rfl, ?_⟩) hHeld ?_
      rotate_left
      · intro ww hSw
        (try dsimp only at hSw)
        go_simp
        (try with_reducible rfl)
      simp only [Act.put, List.setIfInBounds_toArray, List.set_cons_zero, List.set_cons_succ]
      refine wpAnyH_take (i := 11) (oi := ⟨some 105, _, _, _, _, _⟩) (v := .int .i64 pb) rfl (by kernel_rfl) (by kernel_rfl) (by kernel_rfl) (fun _ _ _ h => h) (Or.inl ⟨by rfl, ?_⟩) hHeld ?_
      · intro ww hSw
        (try dsimp only at hSw)
        have qc := (HGd.out.below hSw).cell 10 q10
        have qz := cell_lt qc
        go_simp
      simp only [Act.put, List.setIfInBounds_toArray, List.set_cons_zero, List.set_cons_succ]
      refine wpAnyH_ready (rs := [9]) (by kernel_rfl) (by simp) ?_
      refine AllReadyH.cons (o := ⟨some 103, _, _, _, _, _⟩) rfl (fun K hK => ?_) AllReadyH.nil
      go_simp
      go_at_call 16
      refine (CSZ.out _ (HAd.out.below (below_drew (Below.refl _ _)))).mono ?_
      rintro e_r we ⟨rfl, hbn⟩
      have hbwe : Below wc.heap.size wc we := bel_on (show Below wc.heap.size wc _ by (repeat' (first | with_reducible exact Below.refl _ _ | with_reducible assumption | with_reducible refine bel_alloc ?_ _ | with_reducible refine bel_set ?_ ?_ _ | with_reducible refine below_drewN ?_ _ | with_reducible refine below_drew ?_ | (simp; done) | (simp; omega) | omega))) hbn
      clear hbn
      go_wp2_with fail
      refine hK.out _ _ ?_ (fun hHeld => ?_)
      · (try dsimp only)
        exact hbwe
      clear hK K
      (try simp only [Act.put, List.setIfInBounds_toArray, List.set_cons_zero, List.set_cons_succ])
      refine wpAnyH_take (i := 12) (oi := ⟨some 106, _, _, _, _, _⟩) (v := .bool true) rfl (by kernel_rfl) (by kernel_rfl) (by kernel_rfl) (fun _ _ _ h => h) (Or.inl ⟨by rfl, ?_⟩) hHeld ?_
      · intro ww hSw
        (try dsimp only at hSw)
        go_simp
        (try simp only [hzd])
      simp only [Act.put, List.setIfInBounds_toArray, List.set_cons_zero, List.set_cons_succ]
      refine wpAnyH_take (i := 13) (oi := ⟨some 107, _, _, _, _, _⟩) (v := ?_) rfl (by kernel_rfl) (by kernel_rfl) (by kernel_rfl) (fun _ _ _ h => h) (Or.inl ⟨by rfl, ?_⟩) hHeld ?_
      rotate_left
      · intro ww hSw
        (try dsimp only at hSw)
        go_simp
        (try with_reducible rfl)
      simp only [Act.put, List.setIfInBounds_toArray, List.set_cons_zero, List.set_cons_succ]
      refine wpAnyH_take (i := 14) (oi := ⟨some 6, _, _, _, _, _⟩) (v := ?_) rfl (by kernel_rfl) (by kernel_rfl) (by kernel_rfl) (fun _ _ _ h => h) (Or.inl ⟨by rfl, ?_⟩) hHeld ?_
      rotate_left
      · intro ww hSw
        (try dsimp only at hSw)
        go_simp
        (try with_reducible rfl)
      simp only [Act.put, List.setIfInBounds_toArray, List.set_cons_zero, List.set_cons_succ]
      refine wpAnyH_done (by kernel_rfl) ?_ _
      refine NoPanic.normal ?_
      have HE12 := Lib.hid (bel_on HEd.out hbwe)
      go_wp2
      go_ret
      exact ⟨rfl, HE12.out⟩
theorem breaksFirst_walk (s : SetP) (A1 A2 A3 A4 A5 A6 : Option Addr) (c1 c2 c3 c4 c5 c6 : Nat) (a1 : Option Addr) (len1 cap1 : Nat) (z1 : List SegP) (dy : Int) (w : World) (hs : SetAt w s A1 A2 A3 A4 A5 A6 c1 c2 c3 c4 c5 c6) (hf : s.Fit)
   (w1 : Segs w a1 len1 cap1 z1) (i1 : ∀ e ∈ z1, Fit e.fr ∧ Fit e.to) (l1 : len1 ≤ cap1) (l1' : cap1 ≤ 9223372036854775807) (dy0 : 0 ≤ dy) (dy1 : dy ≤ 255) :
    Calls Try.prog 6 #[setV s A1 A2 A3 A4 A5 A6 c1 c2 c3 c4 c5 c6, .slice a1 len1 cap1, .int .u8 dy] w fun e w' => e = .returned (.bool true) ∧ Below w.heap.size w w' := by
  obtain ⟨cs, hcs⟩ : ∃ cs, setV s A1 A2 A3 A4 A5 A6 c1 c2 c3 c4 c5 c6 = .agg cs := ⟨_, rfl⟩
  rw [hcs]
  exact breaksFirst_main s cs w ⟨A1, A2, A3, A4, A5, A6, c1, c2, c3, c4, c5, c6, hcs, hs⟩ hf a1 len1 cap1 z1 w1 i1 (by omega) dy dy0 dy1
end Go.Proofs.Ytghfhoodbiiciaa
