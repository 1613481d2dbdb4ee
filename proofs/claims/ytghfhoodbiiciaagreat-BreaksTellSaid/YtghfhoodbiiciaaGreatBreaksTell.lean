/-
  BreaksTell: which seconds of any parts are paid, and which are not, of all days, and of any one, is what the document says.
-/
import Derived.Test.YtghfhoodbiiciaaGreatBrkR
namespace Go.Proofs.YtghfhoodbiiciaaGreat
open Go.RowKit
set_option linter.unusedVariables false
set_option linter.unusedSimpArgs false
set_option maxRecDepth 100000

set_option maxHeartbeats 8000000 in
theorem breaksTell_main (s : SetP) (cs : Array Value) (w : World) (hC : SetC w s cs) (hf : s.Fit) (A : Option Addr) (n c : Nat) (l : List SegP) (hx : Segs w A n c l) (hF : ∀ e ∈ l, Fit e.fr ∧ Fit e.to) (hmax : n ≤ 9223372036854775807) (dy : Int) (dy0 : -9223372036854775808 ≤ dy) (dy1 : dy ≤ 9223372036854775807) :
    Calls Tryz.prog 3 #[.agg cs, .slice A n c, .int .i64 dy] w fun e w' => e = .returned (.bool true) ∧ Below w.heap.size w w' := by
  have mixed : Tryz.prog.follows Departure.mixedOrders = true := by kernel_rfl
  have HM := Lib.hid mixed
  have HZ := Lib.hid hC.size
  have HN0 := Lib.hid (bx_start hC hx)
  have HFEW := Lib.hid (fun W (hW : SetC W s cs) (hX : Segs W A n c l) => few15 s cs W hW A n c l hX hmax)
  obtain ⟨b, hb⟩ : ∃ b, checkB s = b := ⟨_, rfl⟩
  have C1 := Lib.hid (fun W (hW : SetC W s cs) (hX : Segs W A n c l) hn => bpaid_c hW hf b hb A n c l hX hn hF)
  have C2 := Lib.hid (fun W (hW : SetC W s cs) (hX : Segs W A n c l) hn => rpaid15_c hW hf b hb A n c l hX hn hF)
  have C3 := Lib.hid (fun W (hW : SetC W s cs) (hX : Segs W A n c l) hn => bofday_c hW hf b hb A n c l hX hn hF dy)
  have C4 := Lib.hid (fun W (hW : SetC W s cs) (hX : Segs W A n c l) hn => rofday15_c hW hf b hb A n c l hX hn hF dy)
  have PAY := Lib.hid (yes_plain b s l)
  have PAN := Lib.hid (no_plain b s l)
  have PDY := Lib.hid (dyes_plain b s l dy)
  have PDN := Lib.hid (dno_plain b s l dy)
  have lAY := pl_len PAY.out
  have lAN := pl_len PAN.out
  have lDY := pl_len PDY.out
  have lDN := pl_len PDN.out
  generalize allYes b s l = PA at *
  generalize allNo b s l = NA at *
  generalize dayYes b s l dy = DY at *
  generalize dayNo b s l dy = DN at *
  clear hC hx hF hf hb
  go_enter Tryz.func3, Tryz.ntmps3
  go_wp2_with fail
  refine (awake15 _).mono ?_
  rintro e w1 ⟨rfl, b1⟩
  have HN1 := Lib.hid (HN0.out.below b1)
  clear HN0 b1
  go_wp2_with (refine wpList_load_sp (by rfl) _ rfl w.heap.size rfl cs HN1.out.h HZ.out ?_)
  refine (HFEW.out _ HN1.out.c HN1.out.x).mono ?_
  rintro e w2 ⟨⟨q, rfl, hq⟩, b2⟩
  have HN2 := Lib.hid (HN1.out.below b2)
  clear HN1 b2 HFEW
  cases q with
  | false =>
    have HE := Lib.hid HN2.out.b
    clear HN2 hq
    go_wp2
    go_ret
    exact ⟨rfl, HE.out⟩
  | true =>
    have h30 := hq rfl
    clear hq
    go_wp2_with (refine wpList_load_sp (by rfl) _ rfl w.heap.size rfl cs HN2.out.h HZ.out ?_)
    refine (C1.out _ HN2.out.c HN2.out.x (by omega)).mono ?_
    rintro e w3 ⟨A3, c3, B3, d3, rfl, r3, s3, b3⟩
    have HN3 := Lib.hid (HN2.out.below b3)
    have HA3 := Lib.hid (r3.spans (.of_plain PAY.out))
    have HB3 := Lib.hid (s3.spans (.of_plain PAN.out))
    clear r3 s3 b3 HN2 C1
    go_wp2_with (refine wpList_load_sp (by rfl) _ rfl w.heap.size rfl cs HN3.out.h HZ.out ?_)
    refine (C2.out _ HN3.out.c HN3.out.x (by omega)).mono ?_
    rintro e w4 ⟨A4, c4, B4, d4, rfl, r4, s4, b4⟩
    have HN4 := Lib.hid (HN3.out.below b4)
    have HA4 := Lib.hid (HA3.out.below b4)
    have HB4 := Lib.hid (HB3.out.below b4)
    have HC4 := Lib.hid (r4.spans (.of_plain PAY.out))
    have HD4 := Lib.hid (s4.spans (.of_plain PAN.out))
    clear r4 s4 b4 HN3 HA3 HB3 C2
    go_wp2_with (refine wpList_load_sp (by rfl) _ rfl w.heap.size rfl cs HN4.out.h HZ.out ?_)
    refine (C3.out _ HN4.out.c HN4.out.x (by omega)).mono ?_
    rintro e w5 ⟨A5, c5, B5, d5, rfl, r5, s5, b5⟩
    have HN5 := Lib.hid (HN4.out.below b5)
    have HA5 := Lib.hid (HA4.out.below b5)
    have HB5 := Lib.hid (HB4.out.below b5)
    have HC5 := Lib.hid (HC4.out.below b5)
    have HD5 := Lib.hid (HD4.out.below b5)
    have HE5 := Lib.hid (r5.spans (.of_plain PDY.out))
    have HF5 := Lib.hid (s5.spans (.of_plain PDN.out))
    clear r5 s5 b5 HN4 HA4 HB4 HC4 HD4 C3
    go_wp2_with (refine wpList_load_sp (by rfl) _ rfl w.heap.size rfl cs HN5.out.h HZ.out ?_)
    refine (C4.out _ HN5.out.c HN5.out.x (by omega)).mono ?_
    rintro e w6 ⟨A6, c6, B6, d6, rfl, r6, s6, b6⟩
    have HW6 := Lib.hid (bel_on HN5.out.b b6)
    have HA6 := Lib.hid (HA5.out.below b6)
    have HB6 := Lib.hid (HB5.out.below b6)
    have HC6 := Lib.hid (HC5.out.below b6)
    have HD6 := Lib.hid (HD5.out.below b6)
    have HE6 := Lib.hid (HE5.out.below b6)
    have HF6 := Lib.hid (HF5.out.below b6)
    have HG6 := Lib.hid (r6.spans (.of_plain PDY.out))
    have HI6 := Lib.hid (s6.spans (.of_plain PDN.out))
    clear r6 s6 b6 HN5 HA5 HB5 HC5 HD5 HE5 HF5 C4
    go_wp2_with fail
    refine (same_any A3 A4 c3 c4 PA _ HA6.out HC6.out (by omega)).mono ?_
    rintro e w7 ⟨rfl, b7⟩
    have HW7 := Lib.hid (bel_on HW6.out b7)
    have HB7 := Lib.hid (HB6.out.below b7)
    have HD7 := Lib.hid (HD6.out.below b7)
    have HE7 := Lib.hid (HE6.out.below b7)
    have HF7 := Lib.hid (HF6.out.below b7)
    have HG7 := Lib.hid (HG6.out.below b7)
    have HI7 := Lib.hid (HI6.out.below b7)
    clear b7 HW6 HA6 HB6 HC6 HD6 HE6 HF6 HG6 HI6
    go_wp2_with fail
    refine (same_any B3 B4 d3 d4 NA _ HB7.out HD7.out (by omega)).mono ?_
    rintro e w8 ⟨rfl, b8⟩
    have HW8 := Lib.hid (bel_on HW7.out b8)
    have HE8 := Lib.hid (HE7.out.below b8)
    have HF8 := Lib.hid (HF7.out.below b8)
    have HG8 := Lib.hid (HG7.out.below b8)
    have HI8 := Lib.hid (HI7.out.below b8)
    clear b8 HW7 HB7 HD7 HE7 HF7 HG7 HI7
    go_wp2_with fail
    refine (same_any A5 A6 c5 c6 DY _ HE8.out HG8.out (by omega)).mono ?_
    rintro e w9 ⟨rfl, b9⟩
    have HW9 := Lib.hid (bel_on HW8.out b9)
    have HF9 := Lib.hid (HF8.out.below b9)
    have HI9 := Lib.hid (HI8.out.below b9)
    clear b9 HW8 HE8 HF8 HG8 HI8
    go_wp2_with fail
    refine (same_any B5 B6 d5 d6 DN _ HF9.out HI9.out (by omega)).mono ?_
    rintro e w10 ⟨rfl, b10⟩
    have HW10 := Lib.hid (bel_on HW9.out b10)
    clear b10
    go_wp2
    go_ret
    exact ⟨rfl, HW10.out⟩
theorem breaksTell_walk (s : SetP) (A1 A2 A3 A4 A5 A6 : Option Addr) (c1 c2 c3 c4 c5 c6 : Nat) (a1 : Option Addr) (len1 cap1 : Nat) (z1 : List SegP) (dy : Int) (w : World) (hs : SetAt w s A1 A2 A3 A4 A5 A6 c1 c2 c3 c4 c5 c6) (hf : s.Fit)
   (w1 : Segs w a1 len1 cap1 z1) (i1 : ∀ e ∈ z1, Fit e.fr ∧ Fit e.to) (l1 : len1 ≤ cap1) (l1' : cap1 ≤ 9223372036854775807) (dy0 : -9223372036854775808 ≤ dy) (dy1 : dy ≤ 9223372036854775807) :
    Calls Tryz.prog 3 #[setV s A1 A2 A3 A4 A5 A6 c1 c2 c3 c4 c5 c6, .slice a1 len1 cap1, .int .i64 dy] w fun e w' => e = .returned (.bool true) ∧ Below w.heap.size w w' := by
  obtain ⟨cs, hcs⟩ : ∃ cs, setV s A1 A2 A3 A4 A5 A6 c1 c2 c3 c4 c5 c6 = .agg cs := ⟨_, rfl⟩
  rw [hcs]
  exact breaksTell_main s cs w ⟨A1, A2, A3, A4, A5, A6, c1, c2, c3, c4, c5, c6, hcs, hs⟩ hf a1 len1 cap1 z1 w1 i1 (by omega) dy dy0 dy1
end Go.Proofs.YtghfhoodbiiciaaGreat
