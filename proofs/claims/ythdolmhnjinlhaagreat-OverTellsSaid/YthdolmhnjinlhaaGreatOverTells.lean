/-
  OverTells: which seconds of a week are regular, which are overtime, and which double, is what the document says.
-/
import Derived.Test.YthdolmhnjinlhaaGreatOvrS
import Derived.Test.YthdolmhnjinlhaaGreatOvrAw
namespace Go.Proofs.YthdolmhnjinlhaaGreat
open Go.RowKit
set_option linter.unusedVariables false
set_option linter.unusedSimpArgs false
set_option maxRecDepth 100000

set_option maxHeartbeats 8000000 in
theorem overTells_main (s : SetP) (cs : Array Value) (w : World) (hC : SetC w s cs) (hf : s.Fit) (A : Option Addr) (cap : Nat) (xs : List (Int × Int)) (hx : Spans w A xs) (hmax : xs.length ≤ 9223372036854775807) (k : Int) (k0 : -9223372036854775808 ≤ k) (k1 : k ≤ 9223372036854775807) :
    Calls Tryz.prog 3 #[.agg cs, .slice A xs.length cap, .int .i64 k] w fun e w' => e = .returned (.bool true) ∧ Below w.heap.size w w' := by
  have mixed : Tryz.prog.follows Departure.mixedOrders = true := by kernel_rfl
  have HM := Lib.hid mixed
  have HZ := Lib.hid hC.size
  have HN0 := Lib.hid (ox_start hC hx)
  have HFEW := Lib.hid (fun W (hW : SetC W s cs) (hX : Spans W A xs) => few16 s cs W hW A xs.length cap xs hX rfl hmax)
  obtain ⟨b, hb⟩ : ∃ b, checkB s = b := ⟨_, rfl⟩
  have COF := Lib.hid (fun W (hW : SetC W s cs) (hX : Spans W A xs) hl => over_c hW hf b hb A cap xs hX hl k)
  have CRF := Lib.hid (fun W (hW : SetC W s cs) (hX : Spans W A xs) hl => rover_c hW hf b hb A cap xs hX hl k)
  have PA := Lib.hid (reg_plain b s (In xs) k)
  have PB := Lib.hid (ovr_plain b s (In xs) k)
  have PC := Lib.hid (dbl_plain b s (In xs) k)
  generalize regL b s (In xs) k = LA at *
  generalize ovrL b s (In xs) k = LB at *
  generalize dblL b s (In xs) k = LC at *
  have lA := pl_len PA.out
  have lB := pl_len PB.out
  have lC := pl_len PC.out
  clear hC hx hf hb
  go_enter Tryz.func3, Tryz.ntmps3
  go_wp2_with fail
  refine (awake16 _).mono ?_
  rintro e w1 ⟨rfl, b1⟩
  have HN1 := Lib.hid (HN0.out.below b1)
  clear HN0 b1
  go_wp2_with (refine wpList_load_sp (by rfl) _ rfl w.heap.size rfl cs HN1.out.h HZ.out ?_)
  refine (HFEW.out _ HN1.out.c HN1.out.x).mono ?_
  rintro e w2 ⟨⟨q, rfl, hq⟩, b2⟩
  have HN2 := Lib.hid (HN1.out.below b2)
  clear HN1 b2 HFEW
  cases q with
  | false =>
    have HE := Lib.hid HN2.out.b
    clear HN2 hq
    go_wp2
    go_ret
    exact ⟨rfl, HE.out⟩
  | true =>
    have h30 := hq rfl
    clear hq
    go_wp2_with (refine wpList_load_sp (by rfl) _ rfl w.heap.size rfl cs HN2.out.h HZ.out ?_)
    refine (COF.out _ HN2.out.c HN2.out.x (by omega)).mono ?_
    rintro e w3 ⟨A3, c3, B3, d3, E3, f3, rfl, r3, s3, t3, b3⟩
    have HN3 := Lib.hid (HN2.out.below b3)
    have HA3 := Lib.hid (r3.spans (.of_plain PA.out))
    have HB3 := Lib.hid (s3.spans (.of_plain PB.out))
    have HC3 := Lib.hid (t3.spans (.of_plain PC.out))
    clear r3 s3 t3 b3 HN2 COF
    go_wp2_with (refine wpList_load_sp (by rfl) _ rfl w.heap.size rfl cs HN3.out.h HZ.out ?_)
    refine (CRF.out _ HN3.out.c HN3.out.x (by omega)).mono ?_
    rintro e w4 ⟨A4, c4, B4, d4, E4, f4, rfl, r4, s4, t4, b4⟩
    have HW4 := bel_on HN3.out.b b4
    have hA4 := HA3.out.below b4
    have hB4 := HB3.out.below b4
    have hC4 := HC3.out.below b4
    have hD4 := r4.spans (.of_plain PA.out)
    have hE4 := s4.spans (.of_plain PB.out)
    have hF4 := t4.spans (.of_plain PC.out)
    obtain ⟨g, hg⟩ : ∃ g, w4.heap.size = g := ⟨_, rfl⟩
    obtain ⟨w5, hw5⟩ : ∃ W, w4.alloc (.cells #[.slice A4 LA.length c4, .slice B4 LB.length d4, .slice E4 LC.length f4] 37) = W := ⟨_, rfl⟩
    have hb45 : Below w4.heap.size w4 w5 := by rw [← hw5]; exact bel_alloc (Below.refl _ _) _
    have HO5 : Hid (Has w5 g (one3 A4 LA.length c4 B4 LB.length d4 E4 LC.length f4)) := by show Has _ _ _; rw [← hw5]; exact Has.new _ _ _ hg
    have HW5 := Lib.hid (bel_on HW4 hb45)
    have HA5 := Lib.hid (hA4.below hb45)
    have HB5 := Lib.hid (hB4.below hb45)
    have HC5 := Lib.hid (hC4.below hb45)
    have HD5 := Lib.hid (hD4.below hb45)
    have HE5 := Lib.hid (hE4.below hb45)
    have HF5 := Lib.hid (hF4.below hb45)
    have c0 := HO5.out.cell 0 (v := .slice A4 LA.length c4) rfl
    have z5 := HO5.out.size
    clear hA4 hB4 hC4 hD4 hE4 hF4 r4 s4 t4 b4 HN3 HA3 HB3 HC3 CRF hb45 HW4
    go_wp2_with fail
    refine (same_any A3 A4 c3 c4 LA _ HA5.out HD5.out (by omega)).mono ?_
    rintro e w6 ⟨rfl, b6⟩
    have HW6 := Lib.hid (bel_on HW5.out b6)
    have HO6 := Lib.hid (HO5.out.below b6)
    have HB6 := Lib.hid (HB5.out.below b6)
    have HE6 := Lib.hid (HE5.out.below b6)
    have HC6 := Lib.hid (HC5.out.below b6)
    have HF6 := Lib.hid (HF5.out.below b6)
    have c1 := HO6.out.cell 1 (v := .slice B4 LB.length d4) rfl
    have z6 := HO6.out.size
    clear b6 HW5 HO5 HB5 HE5 HC5 HF5 HA5 HD5 c0 z5 hw5
    go_wp2_with fail
    refine (same_any B3 B4 d3 d4 LB _ HB6.out HE6.out (by omega)).mono ?_
    rintro e w7 ⟨rfl, b7⟩
    have HW7 := Lib.hid (bel_on HW6.out b7)
    have HO7 := Lib.hid (HO6.out.below b7)
    have HC7 := Lib.hid (HC6.out.below b7)
    have HF7 := Lib.hid (HF6.out.below b7)
    have c2 := HO7.out.cell 2 (v := .slice E4 LC.length f4) rfl
    have z7 := HO7.out.size
    clear b7 HW6 HO6 HB6 HE6 HC6 HF6 c1 z6
    go_wp2_with fail
    refine (same_any E3 E4 f3 f4 LC _ HC7.out HF7.out (by omega)).mono ?_
    rintro e w8 ⟨rfl, b8⟩
    have HW8 := Lib.hid (bel_on HW7.out b8)
    clear b8 c2 z7
    go_wp2
    go_ret
    exact ⟨rfl, HW8.out⟩
theorem overTells_walk (s : SetP) (A1 A2 A3 A4 A5 A6 : Option Addr) (c1 c2 c3 c4 c5 c6 : Nat) (a1 : Option Addr) (len1 cap1 : Nat) (z1 : List (Int × Int)) (k : Int) (w : World) (hs : SetAt w s A1 A2 A3 A4 A5 A6 c1 c2 c3 c4 c5 c6) (hf : s.Fit)
   (l1 : z1.length = len1) (l1' : len1 ≤ 9223372036854775807) (s1 : Spans w a1 z1) (n1 : a1 = none → cap1 = 0) (k0 : -9223372036854775808 ≤ k) (k1 : k ≤ 9223372036854775807) :
    Calls Tryz.prog 3 #[setV s A1 A2 A3 A4 A5 A6 c1 c2 c3 c4 c5 c6, .slice a1 len1 cap1, .int .i64 k] w fun e w' => e = .returned (.bool true) ∧ Below w.heap.size w w' := by
  obtain ⟨cs, hcs⟩ : ∃ cs, setV s A1 A2 A3 A4 A5 A6 c1 c2 c3 c4 c5 c6 = .agg cs := ⟨_, rfl⟩
  rw [hcs]
  subst l1
  exact overTells_main s cs w ⟨A1, A2, A3, A4, A5, A6, c1, c2, c3, c4, c5, c6, hcs, hs⟩ hf a1 cap1 z1 s1 l1' k k0 k1
end Go.Proofs.YthdolmhnjinlhaaGreat
