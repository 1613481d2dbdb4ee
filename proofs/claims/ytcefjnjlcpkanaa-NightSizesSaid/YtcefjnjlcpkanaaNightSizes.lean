/-
  NightSizes: of whole days there is as much by night as from its beginning to its end, as often as there are days.
-/
import Derived.Test.YtcefjnjlcpkanaaZau
import Derived.StillTail
import Derived.StillTailTactics
namespace Go.Proofs.Ytcefjnjlcpkanaa
open Go.RowKit
set_option linter.unusedVariables false
set_option linter.unusedSimpArgs false
set_option maxRecDepth 100000

theorem sizes_plain {f g : Int} (hf : 0 ≤ f ∧ f ≤ 86400) (hg : 0 ≤ g ∧ g ≤ 86400) {d n : Int} (d0 : 0 ≤ d) (d1 : d ≤ 299) (n0 : 0 ≤ n) (n1 : n ≤ 29) :
    sz (In (canon fun t => In [(d * 86400, d * 86400 + n * 86400)] t ∧ NB true f g t)) = n * eachP f g := by
  have h := sz_days hf hg d.toNat n.toNat (by omega)
  have e1 : ((d.toNat : Nat) : Int) = d := by omega
  have e2 : ((n.toNat : Nat) : Int) = n := by omega
  rw [e1, e2] at h
  rw [← h]
  refine sz_congr fun t a b => ?_
  rw [canon_in, in_one]
  exact ⟨fun q => ⟨q.2.2.1, q.2.2.2.2⟩, fun q => ⟨a, b, q.1, rfl, q.2⟩⟩
set_option maxHeartbeats 8000000 in
theorem nightSizes_main (s : SetP) (cs : Array Value) (w : World) (hC : SetC w s cs) (hf : s.Fit) (d m : Int) (d0 : 0 ≤ d) (d1 : d ≤ 65535) (m0 : 0 ≤ m) (m1 : m ≤ 255) :
    Calls Try.prog 7 #[.agg cs, .int .u16 d, .int .u8 m] w fun e w' => e = .returned (.bool true) ∧ Below w.heap.size w w' := by
  have HZ := Lib.hid hC.size
  obtain ⟨q16, q17⟩ := setC_night hC
  have HC0 := Lib.hid (hC.below (bel_alloc (Below.refl w.heap.size w) (.cells cs 30)))
  have HH0 := Lib.hid (Has.new w 30 cs rfl)
  have HB0 := Lib.hid (bel_alloc (Below.refl w.heap.size w) (.cells cs 30))
  obtain ⟨b, hb⟩ : ∃ b, checkB s = b := ⟨_, rfl⟩
  obtain ⟨q, hq⟩ : ∃ q, decide s.Few = q := ⟨_, rfl⟩
  have CF := Lib.hid (fun W (hW : SetC W s cs) => few_c hW q hq)
  have CC := Lib.hid (fun W (hW : SetC W s cs) => scheck_c hW hf b hb)
  have COF := Lib.hid (fun W (hW : SetC W s cs) A cap xs (hX : Spans W A xs) hl => ofnight_c hW hf b hb A cap xs hX hl)
  have HW : Hid (b = true → (0 ≤ s.nfrom ∧ s.nfrom ≤ 86400) ∧ (0 ≤ s.nto ∧ s.nto ≤ 86400)) := nw_of hb
  generalize s.nfrom = f at *
  generalize s.nto = g at *
  obtain ⟨dd, hdd⟩ : ∃ x, d.tmod 300 = x := ⟨_, rfl⟩
  obtain ⟨n, hn⟩ : ∃ x, m.tmod 30 = x := ⟨_, rfl⟩
  have hd2 : 0 ≤ dd ∧ dd ≤ 299 := by rw [Int.tmod_eq_emod_of_nonneg d0] at hdd; omega
  have hn2 : 0 ≤ n ∧ n ≤ 29 := by rw [Int.tmod_eq_emod_of_nonneg m0] at hn; omega
  clear hC hf hb hq
  go_enter Try.func7, Try.ntmps7
  go_wp2_with fail
  refine (awake14 _).mono ?_
  rintro e w1 ⟨rfl, b1⟩
  have HC1 := Lib.hid (HC0.out.below b1)
  have HH1 := Lib.hid (HH0.out.below b1)
  have HB1 := Lib.hid (bel_on HB0.out b1)
  clear HC0 HH0 HB0 b1
  go_wp2_with (refine wpList_load_sp (by rfl) _ rfl w.heap.size rfl cs HH1.out HZ.out ?_)
  refine (CF.out _ HC1.out).mono ?_
  rintro e w2 ⟨rfl, b2⟩
  have HC2 := Lib.hid (HC1.out.below b2)
  have HH2 := Lib.hid (HH1.out.below b2)
  have HB2 := Lib.hid (bel_on HB1.out b2)
  clear HC1 HH1 HB1 b2
  cases q with
  | false =>
    go_wp2
    go_ret
    exact ⟨rfl, HB2.out⟩
  | true =>
    go_wp2_with (refine wpList_load_sp (by rfl) _ rfl w.heap.size rfl cs HH2.out HZ.out ?_)
    refine (CC.out _ HC2.out).mono ?_
    rintro e w3 ⟨rfl, b3⟩
    have HC3 := Lib.hid (HC2.out.below b3)
    have HH3 := Lib.hid (HH2.out.below b3)
    have HB3 := Lib.hid (bel_on HB2.out b3)
    clear HC2 HH2 HB2 b3
    cases b with
    | false =>
      go_wp2
      go_ret
      exact ⟨rfl, HB3.out⟩
    | true =>
      obtain ⟨hfb, hgb⟩ := HW.out rfl
      have HSZ := Lib.hid (sizes_plain hfb hgb hd2.1 hd2.2 hn2.1 hn2.2)
      have hme : n * eachP f g ≤ 29 * 86400 ∧ 0 ≤ n * eachP f g := by
        have e0 : 0 ≤ eachP f g ∧ eachP f g ≤ 86400 := by unfold eachP; split <;> omega
        exact ⟨Int.mul_le_mul hn2.2 e0.2 e0.1 (by omega), Int.mul_nonneg hn2.1 e0.1⟩
      have HE1 : Hid (g - f < 0 → eachP f g = g - f + 86400) := fun h => by unfold eachP; rw [if_pos h]
      have HE2 : Hid (¬ g - f < 0 → eachP f g = g - f) := fun h => by unfold eachP; rw [if_neg h]
      obtain ⟨y, hy⟩ : ∃ y, n * eachP f g = y := ⟨_, rfl⟩
      rw [hy] at HSZ hme
      have hyb : 0 ≤ y ∧ y ≤ 2505600 := by omega
      clear hme
      have c16 := HH3.out.cell 16 q16
      have c17 := HH3.out.cell 17 q17
      have hz3 := HH3.out.size
      have hft : Fits [(dd * 86400, dd * 86400 + n * 86400)] := fun x hx => by rw [List.mem_singleton.1 hx]; exact ⟨⟨by simp only []; omega, by simp only []; omega⟩, ⟨by simp only []; omega, by simp only []; omega⟩⟩
      have HX4 := Lib.hid (spans_new w3 [(dd * 86400, dd * 86400 + n * 86400)] 41 #[.int .i64 (dd * 86400), .int .i64 (dd * 86400 + n * 86400)] rfl hft rfl)
      have hb4 := bel_alloc (Below.refl w3.heap.size w3) (.cells #[.int .i64 (dd * 86400), .int .i64 (dd * 86400 + n * 86400)] 41)
      have HC4 := Lib.hid (HC3.out.below hb4)
      have HB4 := Lib.hid (bel_on HB3.out hb4)
      have hdd2 : d % 300 = dd := by rw [← hdd]; exact (Int.tmod_eq_emod_of_nonneg d0).symm
      have hnn2 : m % 30 = n := by rw [← hn]; exact (Int.tmod_eq_emod_of_nonneg m0).symm
      clear hb4 hft HC3 HB3 CF CC HW
      go_upto_region 6 with fail
      clear hdd hn hdd2 hnn2
      by_cases he : g - f < 0
      all_goals
        first
          | (have hyw : IntKind.i64.wrap (n * (g - f + 86400)) = y := by
               rw [HE1.out (by omega)] at hy
               rw [hy]; exact wrapn_id (by omega) (by omega))
          | (have hyw : IntKind.i64.wrap (n * (g - f)) = y := by
               rw [HE2.out (by omega)] at hy
               rw [hy]; exact wrapn_id (by omega) (by omega))
        clear hy
        go_wp2_with (refine wpList_load_sp (by rfl) _ rfl w.heap.size rfl cs HH3.out HZ.out ?_)
        refine (COF.out _ HC4.out (some ⟨w3.heap.size, 0, none⟩) 1 [(dd * 86400, dd * 86400 + n * 86400)] HX4.out (by simp)).mono ?_
        rintro e w5 ⟨A5, c5, rfl, r5, b5⟩
        have HX5 := Lib.hid (r5.spans (Fits.canon _))
        have HB5 := Lib.hid (bel_on HB4.out b5)
        have lR := canon_len (fun t => In [(dd * 86400, dd * 86400 + n * 86400)] t ∧ NB true f g t)
        generalize (canon fun t => In [(dd * 86400, dd * 86400 + n * 86400)] t ∧ NB true f g t) = VR at *
        clear r5 b5
        go_wp2_with fail
        refine (size_any A5 c5 VR _ HX5.out (by omega)).mono ?_
        rw [HSZ.out]
        rintro e w6 ⟨rfl, b6⟩
        have HB6 := Lib.hid (bel_on HB5.out b6)
        clear b6
        go_wp2
        go_ret
        exact ⟨rfl, HB6.out⟩
theorem nightSizes_walk (s : SetP) (A1 A2 A3 A4 A5 A6 : Option Addr) (c1 c2 c3 c4 c5 c6 : Nat) (d : Int) (m : Int) (w : World) (hs : SetAt w s A1 A2 A3 A4 A5 A6 c1 c2 c3 c4 c5 c6) (hf : s.Fit)
    (d0 : 0 ≤ d) (d1 : d ≤ 65535) (m0 : 0 ≤ m) (m1 : m ≤ 255) :
    Calls Try.prog 7 #[setV s A1 A2 A3 A4 A5 A6 c1 c2 c3 c4 c5 c6, .int .u16 d, .int .u8 m] w fun e w' => e = .returned (.bool true) ∧ Below w.heap.size w w' := by
  obtain ⟨cs, hcs⟩ : ∃ cs, setV s A1 A2 A3 A4 A5 A6 c1 c2 c3 c4 c5 c6 = .agg cs := ⟨_, rfl⟩
  rw [hcs]
  exact nightSizes_main s cs w ⟨A1, A2, A3, A4, A5, A6, c1, c2, c3, c4, c5, c6, hcs, hs⟩ hf d m d0 d1 m0 m1
end Go.Proofs.Ytcefjnjlcpkanaa
