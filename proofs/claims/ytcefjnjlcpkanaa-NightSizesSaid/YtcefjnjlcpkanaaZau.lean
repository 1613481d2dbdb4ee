/-
  night.Of and night.Is, and the document's own.
  The calls whose answers layer 14's document fixes: they are as it says; few; what the laws are walked by.
-/
import Derived.Test.YtcefjnjlcpkanaaZaq
import Derived.Test.YtcefjnjlcpkanaaZan
import Derived.Test.YtcefjnjlcpkanaaZap
import Derived.Test.YtcefjnjlcpkanaaZat
import Derived.Deep.DeepCutAuto
namespace Go.Proofs.Ytcefjnjlcpkanaa
open Go.RowKit
set_option linter.unusedVariables false
set_option linter.unusedSimpArgs false
set_option maxRecDepth 20000

set_option maxHeartbeats 4000000 in
theorem ofnight_c {w : World} {s : SetP} {cs : Array Value} (h : SetC w s cs) (hf : s.Fit) (b : Bool) (hb : checkB s = b) (A : Option Addr) (cap : Nat) (xs : List (Int × Int)) (hx : Spans w A xs) (hl : xs.length ≤ 100000000) :
    Calls Try.prog 11 #[.agg cs, .slice A xs.length cap] w (Gives w (canon fun t => In xs t ∧ NB b s.nfrom s.nto t)) := by
  have HZ := Lib.hid h.size
  have hnw := nw_of hb
  have HE := Lib.hid (night_and hnw xs)
  have HV := Lib.hid (hours_bd hnw)
  have HF := Lib.hid (hours_fits hnw)
  have HDF := Lib.hid (daysL_fits hnw (k := 371) (by omega))
  have hlen := hours_len b s.nfrom s.nto
  have hb0 := bel_alloc (bel_alloc (Below.refl w.heap.size w) (.cells cs 30)) (.cells #[.slice none 0 0] 31)
  have hz0 : ((w.alloc (.cells cs 30)).alloc (.cells #[.slice none 0 0] 31)).heap.size = w.heap.size + 2 := by simp
  have hz1 : (w.alloc (.cells cs 30)).heap.size = w.heap.size + 1 := by simp
  have HB0 := Lib.hid ((Has.new w 30 cs rfl).alloc (.cells #[.slice none 0 0] 31))
  have HN0 : Has ((w.alloc (.cells cs 30)).alloc (.cells #[.slice none 0 0] 31)) (w.heap.size + 1) #[.slice none 0 0] := Has.new _ _ _ hz1
  have HC := ofany_c (h.below hb0) hf b hb
  unfold daysL at HE HDF
  have HSN := Lib.hid (fun k => daysL_snoc b s.nfrom s.nto k)
  have HLN := Lib.hid (fun k => daysL_len b s.nfrom s.nto k)
  have h00 : daysL b s.nfrom s.nto 0 = [] := rfl
  replace HE : Hid ((canon fun t => In xs t ∧ In (daysL b s.nfrom s.nto 371) t) = canon fun t => In xs t ∧ NB b s.nfrom s.nto t) := HE
  replace HDF : Hid (Fits (daysL b s.nfrom s.nto 371)) := HDF
  generalize hY : (fun k => daysL b s.nfrom s.nto k) = Y at *
  have hYk : ∀ k, daysL b s.nfrom s.nto k = Y k := fun k => by rw [← hY]
  simp only [hYk] at HE HDF HSN HLN h00
  generalize hoursL b s.nfrom s.nto = hs at *
  obtain ⟨n, hn⟩ : ∃ n, hs.length = n := ⟨_, rfl⟩
  have HX0 := Lib.hid hx
  clear h hf hb hnw hY hYk hx
  generalize (canon fun t => In xs t ∧ NB b s.nfrom s.nto t) = R at *
  go_enter Try.func11, Try.ntmps11
  go_wp2_with (refine wpList_load_sp (by rfl) _ rfl w.heap.size rfl cs HB0.out HZ.out ?_)
  refine HC.mono ?_
  rintro e w1 ⟨D, dc, rfl, hrow, hb1⟩
  rw [hz0] at hrow
  have HN1 := HN0.below hb1
  have hgz := HN1.size
  have HB1 := Lib.hid (bel_on hb0 hb1)
  have HS1 := hrow.spans HF.out
  have hD : ∀ g, D = some g → g.block < w1.heap.size + 1 ∧ g.block ≠ w.heap.size + 1 := fun g hg => by have := hrow.lt g hg; omega
  rw [hn]
  have hn2 : n ≤ 2 := by omega
  have HB3 := Lib.hid (bel_alloc (Below.refl w1.heap.size w1) (.cells #[.slice D n dc] 31))
  have HS3 := Lib.hid (HS1.below HB3.out)
  have HH3 := Lib.hid (Has.new w1 31 #[.slice D n dc] rfl)
  have HN3 : Hid (Has (w1.alloc (.cells #[.slice D n dc] 31)) (w.heap.size + 1) #[.slice none 0 0]) := HN1.alloc _
  have hz3 : (w1.alloc (.cells #[.slice D n dc] 31)).heap.size = w1.heap.size + 1 := by simp
  have HD := Lib.hid hD
  have HBW := Lib.hid (bel_on HB1.out HB3.out)
  clear hrow HC hb0 hb1 HB0 HN0 HN1 HS1 hD hz0 hz1
  have eg : ∀ args W, (callFunc 21 args).run Try.prog W = .ok (.enter 21 args) W := enters_of Try.func21 (by kernel_rfl) rfl
  obtain ⟨gN, hg⟩ : ∃ g, w.heap.size + 1 = g := ⟨_, rfl⟩
  have HG := Lib.hid hg
  rw [hg] at hgz HD HN3
  have hgw : w.heap.size < gN := by omega
  rw [hg]
  clear hg
  go_wp2
  generalize w1.alloc (.cells #[.slice D n dc] 31) = w3 at *
  go_loopw [12] (fun i wr => ∃ (k : Nat) (B : Option Addr) (c : Nat), k ≤ 371 ∧ i = .int .i64 k ∧ Hid (Has wr gN #[.slice B (Y k).length c]) ∧ Hid (Row wr (w1.heap.size + 1) B c (Y k)) ∧ Hid (Kept (fun x => x < w1.heap.size + 1 ∧ x ≠ gN) w3 wr)) (fun i _ => 371 - (intOf i).toNat)
  case atStart => exact ⟨0, none, 0, Nat.zero_le _, rfl, by rw [h00]; exact HN3, by rw [h00]; exact Row.nil _ _, Kept.refl _ _⟩
  case round =>
    obtain ⟨k, B, c, hk, rfl, hK, hRw, hKp⟩ := hrel
    by_cases hlt : k < 371
    · have i1 : (k : Int) < 371 := by omega
      have i0 : (0 : Int) ≤ (k : Int) := by omega
      have hkz := hKp.out.size
      have hyl := HLN.out k
      have hHr := HH3.out.kept (F := fun x => x < w1.heap.size + 1 ∧ x ≠ gN) ⟨by omega, by omega⟩ hKp.out
      have hSr := spans_kept HS3.out hKp.out HD.out
      have CC := Lib.hid (put_night ((k : Int) * 86400) w1.heap.size gN D dc n hs B c (Y k) (w1.heap.size + 1) wr hHr hn hn2 hSr hK.out hRw.out (by omega) (by omega) (by omega) HD.out (by omega) (by omega) (by omega) HV.out)
      rw [← HSN.out] at CC
      clear hHr hSr hK hRw
      go_wp2_with fail
      refine CC.out.mono ?_
      rintro e w5 ⟨rfl, A5, c5, hK5, hR5, hKp5⟩
      replace hKp5 := Lib.hid (hKp.out.on hKp5)
      replace hK5 := Lib.hid hK5
      replace hR5 := Lib.hid hR5
      clear CC hKp
      go_wp2
      go_roundw
      case rel => exact ⟨k + 1, A5, c5, by omega, by go_num, hK5, hR5, hKp5⟩
      case measure => simp [intOf]; omega
    · obtain rfl : k = 371 := by omega
      have k0 := hK.out.cell 0 rfl
      have kl := hK.out.size
      have HBR : Hid (Below w.heap.size w wr) := by
        have h1 := hKp.out.below (B := w.heap.size) (fun i hi => ⟨by omega, by omega⟩)
        have h2 := HBW.out
        exact ⟨h1.os.trans h2.os, h1.tape.trans h2.tape, h1.output.trans h2.output, Nat.le_trans h2.size h1.size, fun b hb => (h1.block b hb).trans (h2.block b hb)⟩
      have hyl := HLN.out 371
      have HSY := Lib.hid (hRw.out.spans HDF.out)
      have hxl : Hid (Spans wr A xs) := HX0.out.below HBR.out
      go_wp2_with fail
      refine (and_any A B cap c xs (Y 371) _ hxl.out HSY.out hl (by omega)).mono ?_
      intro e w6 hg
      have HG6 := gives_bel hg HBR.out HE.out
      clear hg
      obtain ⟨D6, d6, rfl, hr6, hb6⟩ := HG6
      go_wp2
      go_ret
      exact ⟨D6, d6, rfl, hr6, hb6⟩

set_option maxHeartbeats 2000000 in
theorem isnight_c {w : World} {s : SetP} {cs : Array Value} (h : SetC w s cs) (hf : s.Fit) (b : Bool) (hb : checkB s = b) (t : Int) (t1 : -9223372036854775808 ≤ t) (t2 : t ≤ 9223372036854775807) (v : Bool) (hv : isB b s.nfrom s.nto t = v) :
    Calls Try.prog 13 #[.agg cs, .int .i64 t] w fun e w' => e = .returned (.bool v) ∧ Below w.heap.size w w' := by
  have HZ := Lib.hid h.size
  have hnw := nw_of hb
  have HV := Lib.hid ((has_hours hnw t).trans hv)
  have HF := Lib.hid (hours_fits hnw)
  have hlen := hours_len b s.nfrom s.nto
  have hb0 := bel_alloc (Below.refl w.heap.size w) (.cells cs 30)
  have HB0 := Lib.hid (Has.new w 30 cs rfl)
  have HC := Lib.hid (ofany_c (h.below hb0) hf b hb)
  have HD := Lib.hid (fun W => day_any t W)
  have hd : (0 ≤ dayP t ∧ dayP t ≤ 370) ∧ (t < 0 → dayP t = 0) ∧ (0 ≤ t → dayP t * 86400 ≤ t) := by unfold dayP secP timeP; omega
  generalize hoursL b s.nfrom s.nto = hs at *
  generalize dayP t = d at *
  obtain ⟨⟨d0, d1⟩, d2, d3⟩ := hd
  obtain ⟨z, hz⟩ : ∃ z, t - d * 86400 = z := ⟨_, rfl⟩
  have w1 : IntKind.i64.wrap (t - d * 86400) = z := by rw [hz]; exact wrapn_id (by omega) (by omega)
  rw [hz] at HV
  clear h hf hb hv hnw d2 d3 hz
  go_enter Try.func13, Try.ntmps13
  go_wp2_with fail
  refine (HD.out _).mono ?_
  rintro e w' ⟨rfl, rfl⟩
  go_wp2_with (refine wpList_load_sp (by rfl) _ rfl w.heap.size rfl cs HB0.out HZ.out ?_)
  refine HC.out.mono ?_
  rintro e w2 ⟨D, dc, rfl, hrow, hb1⟩
  have HS2 := Lib.hid (hrow.spans HF.out)
  have HB2 := Lib.hid (bel_on hb0 hb1)
  clear hrow hb1 hb0
  go_wp2_with fail
  refine (has_any D dc hs z _ HS2.out (by omega)).mono ?_
  rw [HV.out]
  rintro e w3 ⟨rfl, b3⟩
  have HB3 := Lib.hid (bel_on HB2.out b3)
  clear b3
  go_wp2
  go_ret
  exact ⟨rfl, HB3.out⟩
theorem isB_in {f g t n : Int} (h0 : 0 ≤ t) (h1 : t < 32054400) (hn : t % 86400 = n) : isB true f g t = if g < f then (decide (f ≤ n) || decide (n < g)) else (decide (f ≤ n) && decide (n < g)) := by
  subst hn
  unfold isB
  by_cases q : g < f
  · rw [if_pos q, Bool.eq_iff_iff, decide_eq_true_eq, Bool.or_eq_true, decide_eq_true_eq, decide_eq_true_eq]
    unfold NB nightP
    rw [if_pos q]
    exact ⟨fun h => h.2.2.2, fun h => ⟨h0, h1, rfl, h⟩⟩
  · rw [if_neg q, Bool.eq_iff_iff, decide_eq_true_eq, Bool.and_eq_true, decide_eq_true_eq, decide_eq_true_eq]
    unfold NB nightP
    rw [if_neg q]
    exact ⟨fun h => h.2.2.2, fun h => ⟨h0, h1, rfl, h⟩⟩
theorem isB_out {b : Bool} {f g t : Int} (h : b = false ∨ t < 0 ∨ 32054400 ≤ t) : isB b f g t = false := by
  unfold isB NB
  rw [decide_eq_false_iff_not]
  rintro ⟨h1, h2, h3, _⟩
  rcases h with h | h | h
  · rw [h] at h3; cases h3
  · omega
  · omega
set_option maxHeartbeats 4000000 in
theorem risnight_c {w : World} {s : SetP} {cs : Array Value} (h : SetC w s cs) (hf : s.Fit) (b : Bool) (hb : checkB s = b) (t : Int) (v : Bool) (hv : isB b s.nfrom s.nto t = v) :
    Calls Try.prog 14 #[.agg cs, .int .i64 t] w fun e w' => e = .returned (.bool v) ∧ Below w.heap.size w w' := by
  have HZ := Lib.hid h.size
  obtain ⟨q16, q17⟩ := setC_night h
  have hb0 := bel_alloc (Below.refl w.heap.size w) (.cells cs 30)
  have HB0 := Lib.hid (Has.new w 30 cs rfl)
  have HC := Lib.hid (rsetcheck_c (h.below hb0) hf b hb)
  generalize s.nfrom = f at *
  generalize s.nto = g at *
  clear h hf hb
  by_cases hout : b = false ∨ t < 0 ∨ 32054400 ≤ t
  · rw [isB_out hout] at hv
    subst hv
    cases b with
    | false =>
      go_enter Try.func14, Try.ntmps14
      go_wp2_with (refine wpList_load_sp (by rfl) _ rfl w.heap.size rfl cs HB0.out HZ.out ?_)
      refine HC.out.mono ?_
      rintro e w1 ⟨rfl, b1⟩
      have HB1 := Lib.hid (bel_on hb0 b1)
      clear b1 hb0 hout
      go_wp2
      go_ret
      exact ⟨rfl, HB1.out⟩
    | true =>
      by_cases h0 : t < 0
      all_goals
        first | (have h1 : 32054400 ≤ t := by rcases hout with k | k | k <;> first | omega | (cases k; done)) | skip
        clear hout
        go_enter Try.func14, Try.ntmps14
        go_wp2_with (refine wpList_load_sp (by rfl) _ rfl w.heap.size rfl cs HB0.out HZ.out ?_)
        refine HC.out.mono ?_
        rintro e w1 ⟨rfl, b1⟩
        have HB1 := Lib.hid (bel_on hb0 b1)
        clear b1 hb0
        go_wp2
        go_ret
        exact ⟨rfl, HB1.out⟩
  · obtain ⟨rfl, h0, h1⟩ : b = true ∧ 0 ≤ t ∧ t < 32054400 := by
      cases b with
      | false => exact absurd (.inl rfl) hout
      | true => exact ⟨rfl, by omega, by omega⟩
    clear hout
    obtain ⟨n, hn⟩ : ∃ n, t % 86400 = n := ⟨_, rfl⟩
    have hnt : t.tmod 86400 = n := by rw [Int.tmod_eq_emod_of_nonneg h0]; exact hn
    rw [isB_in h0 h1 hn] at hv
    clear hn
    have h0' : ¬ t < 0 := by omega
    have h1' : ¬ 32054400 ≤ t := by omega
    by_cases q : g < f
    all_goals
      by_cases k1 : f ≤ n
      all_goals
        by_cases k2 : n < g
        all_goals
          simp [q, k1, k2] at hv
          subst hv
          go_enter Try.func14, Try.ntmps14
          go_wp2_with (refine wpList_load_sp (by rfl) _ rfl w.heap.size rfl cs HB0.out HZ.out ?_)
          refine HC.out.mono ?_
          rintro e w1 ⟨rfl, b1⟩
          have HB1 := Lib.hid (bel_on hb0 b1)
          have c16 := (HB0.out.below b1).cell 16 q16
          have c17 := (HB0.out.below b1).cell 17 q17
          have hbw : w.heap.size < w1.heap.size := (HB0.out.below b1).size
          clear b1 hb0
          go_wp2
          all_goals
            go_ret
            refine ⟨ret_bool ?_, HB1.out⟩
            first | rfl | (simp; done) | (simp; omega)
end Go.Proofs.Ytcefjnjlcpkanaa

namespace Go.Proofs.Ytcefjnjlcpkanaa
open Go.RowKit
set_option linter.unusedVariables false
set_option linter.unusedSimpArgs false
set_option maxRecDepth 20000

def aw14P : SetP := ⟨1, [], 1, 1, [], [], [], 0, 1, 60, 0, 0, 0, 0, 0, 0, 79200, 21600, [1], 0, 0, 0, []⟩
def aw14C (N : Nat) : Array Value := #[.int .i64 1, .slice none 0 0, .int .i64 1, .int .i64 1, .slice none 0 0, .slice none 0 0, .slice none 0 0, .int .i64 0, .int .i64 1, .int .i64 60, .int .i64 0, .int .i64 0, .int .i64 0,
  .int .i64 0, .int .i64 0, .int .i64 0, .int .i64 79200, .int .i64 21600, .slice (some ⟨N, 0, none⟩) 1 1, .int .i64 0, .int .i64 0, .int .i64 0, .slice none 0 0]
theorem aw14C_V (N : Nat) : setV aw14P none none none none (some ⟨N, 0, none⟩) none 0 0 0 0 1 0 = .agg (aw14C N) := rfl
theorem aw14_fit : aw14P.Fit := by constructor <;> simp [aw14P, In64]
theorem aw14_may : checkB aw14P = true := by decide +kernel
def nonC : Array Value := #[.int .i64 0, .slice none 0 0, .int .i64 0, .int .i64 0, .slice none 0 0, .slice none 0 0, .slice none 0 0, .int .i64 0, .int .i64 0, .int .i64 0, .int .i64 0, .int .i64 0, .int .i64 0,
  .int .i64 0, .int .i64 0, .int .i64 0, .int .i64 0, .int .i64 0, .slice none 0 0, .int .i64 0, .int .i64 0, .int .i64 0, .slice none 0 0]
theorem nonC_V : setV SetP.none none none none none none none 0 0 0 0 0 0 = .agg nonC := rfl
theorem non_fit : SetP.none.Fit := by constructor <;> simp [SetP.none, In64]
theorem non_not : checkB SetP.none = false := by decide +kernel
theorem non_c (w : World) : SetC w SetP.none nonC := ⟨none, none, none, none, none, none, 0, 0, 0, 0, 0, 0, nonC_V, ⟨Tab.nil_, Tab.nil_, Tab.nil_, Tab.nil_, Tab.nil_, Tab.nil_⟩⟩
theorem aw14_l : (canon fun t => In [(70000, 120000)] t ∧ NB true aw14P.nfrom aw14P.nto t) = [(79200, 108000)] := by
  refine (canon_congr fun t h0 h1 => ?_).trans (canon_self (l := [(79200, 108000)]) (by simp [PlainFrom]))
  rw [in_one, in_one]
  unfold NB nightP
  rw [if_pos (show aw14P.nto < aw14P.nfrom by decide)]
  simp only [aw14P, true_and]
  constructor
  · rintro ⟨h2, h3⟩; omega
  · intro h2; exact ⟨by omega, by omega⟩
theorem aw14_none (l : List (Int × Int)) : (canon fun t => In l t ∧ NB false SetP.none.nfrom SetP.none.nto t) = [] :=
  canon_none fun t _ _ h => by have := h.2.1; cases this
theorem aw14_0 : isB true aw14P.nfrom aw14P.nto 0 = true := by decide +kernel
theorem aw14_1 : isB true aw14P.nfrom aw14P.nto 21600 = false := by decide +kernel
theorem aw14_2 : isB true aw14P.nfrom aw14P.nto 165600 = true := by decide +kernel
theorem aw14_3 : isB true aw14P.nfrom aw14P.nto (-1) = false := by decide +kernel
theorem aw14_f1 : Fits [(70000, 120000)] := .of_plain (by simp [PlainFrom])
theorem aw14_f2 : Fits [(79200, 108000)] := .of_plain (by simp [PlainFrom])
theorem tab_one14 {w : World} {g : Nat} (h : Has w g #[.int .i64 1]) : Tab 1 w (some ⟨g, 0, none⟩) 1 1 ([1].map fun n => [n]) := by
  refine ⟨⟨rfl, .inr ⟨_, rfl, fun j u hu => ?_⟩⟩, rfl, by simp, by simp [In64], by omega, by omega⟩
  rw [tab_add, Nat.zero_add]
  exact h.cell j (by simpa [ints] using hu)
set_option maxHeartbeats 8000000 in
theorem awake14 (w : World) : Calls Try.prog 8 #[] w fun e w' => e = .returned (.bool true) ∧ Below w.heap.size w w' := by
  have H1 := Lib.hid (setV_cells _ _ _ _ _ _ _ _ _ _ _ _ _ _ (aw14C_V w.heap.size))
  have HZ := Lib.hid H1.out.1
  go_enter Try.func8, Try.ntmps8
  go_upto_region 1 with fail
  go_cut [1] (fun v2 wx => ∃ g : Nat, v2 = .pointer (some ⟨g, 0, none⟩) ∧ Hid (Has wx g (aw14C w.heap.size)) ∧ Hid (SetC wx aw14P (aw14C w.heap.size)) ∧ Hid (Below w.heap.size w wx))
  case first =>
    go_wp2_with (first | refine wpList_laidS (aw14C w.heap.size) 1 _ _ rfl rfl rfl rfl rfl rfl rfl rfl H1.out.1 H1.out.2 ?_)
    go_meet
    refine ⟨_, rfl, ?_, ?_, ?_⟩
    · exact Has.new _ _ _ rfl
    · refine Lib.hid ⟨_, _, _, _, _, _, _, _, _, _, _, _, aw14C_V w.heap.size, ⟨Tab.nil_, Tab.nil_, Tab.nil_, Tab.nil_, tab_one14 ?_, Tab.nil_⟩⟩
      exact (Has.new _ _ _ rfl).alloc _
    · show Below _ _ _
      (repeat' (first | with_reducible exact Below.refl _ _ | with_reducible assumption | with_reducible refine bel_alloc ?_ _ | with_reducible refine bel_set ?_ ?_ _ | with_reducible refine below_drewN ?_ _ | with_reducible refine below_drew ?_ | (simp; done) | (simp; omega) | omega))
  case rest =>
    obtain ⟨g, rfl, HB, HS, HBW⟩ := hcut
    clear H1
    generalize aw14C w.heap.size = cs at *

    have hb1 := bel_alloc (Below.refl wc.heap.size wc) (.cells #[.int .i64 70000, .int .i64 120000] 41)
    have HX1 := Lib.hid (spans_new wc [(70000, 120000)] 41 #[.int .i64 70000, .int .i64 120000] rfl aw14_f1 rfl)
    have hz1 : (wc.alloc (.cells #[.int .i64 70000, .int .i64 120000] 41)).heap.size = wc.heap.size + 1 := by simp
    go_wp2_with (refine wpList_load_sp (by rfl) _ rfl g rfl cs HB.out HZ.out ?_)
    refine (ofnight_c (HS.out.below hb1) aw14_fit true aw14_may (some ⟨wc.heap.size, 0, none⟩) 1 [(70000, 120000)] HX1.out (by simp)).mono ?_
    rw [aw14_l]
    rintro e w2 ⟨A2, c2, rfl, r2, b2⟩
    have hb2 := bel_on hb1 b2
    have HX2 := Lib.hid (r2.spans aw14_f2)
    have HB2 := Lib.hid (HB.out.below hb2)
    have HS2 := Lib.hid (HS.out.below hb2)
    have HW2 := Lib.hid (bel_on HBW.out hb2)
    have hb3 := bel_alloc (Below.refl w2.heap.size w2) (.cells #[.int .i64 79200, .int .i64 108000] 41)
    have HY3 := Lib.hid (spans_new w2 [(79200, 108000)] 41 #[.int .i64 79200, .int .i64 108000] rfl aw14_f2 rfl)
    have HX3 := Lib.hid (HX2.out.below hb3)
    clear r2 b2 hb1 hb2 HX1 hz1 HB HS HBW
    go_wp2_with fail
    refine (same_any _ _ _ _ [(79200, 108000)] _ HX3.out HY3.out (by simp)).mono ?_
    rintro e w4 ⟨rfl, b4⟩
    have hb4 := bel_on hb3 b4
    have HX4 := Lib.hid (HX2.out.below hb4)
    have HB4 := Lib.hid (HB2.out.below hb4)
    have HS4 := Lib.hid (HS2.out.below hb4)
    have HW4 := Lib.hid (bel_on HW2.out hb4)
    clear b4 hb4 hb3 HY3 HX3 HX2 HB2 HS2 HW2
    go_wp2_with (refine wpList_load_sp (by rfl) _ rfl g rfl cs HB4.out HZ.out ?_)
    refine (isnight_c HS4.out aw14_fit true aw14_may 0 (by omega) (by omega) true aw14_0).mono ?_
    rintro e w5 ⟨rfl, b5⟩
    have HX5 := Lib.hid (HX4.out.below b5)
    have HB5 := Lib.hid (HB4.out.below b5)
    have HS5 := Lib.hid (HS4.out.below b5)
    have HW5 := Lib.hid (bel_on HW4.out b5)
    clear b5 HX4 HB4 HS4 HW4
    go_wp2_with (refine wpList_load_sp (by rfl) _ rfl g rfl cs HB5.out HZ.out ?_)
    refine (isnight_c HS5.out aw14_fit true aw14_may 21600 (by omega) (by omega) false aw14_1).mono ?_
    rintro e w6 ⟨rfl, b6⟩
    have HX6 := Lib.hid (HX5.out.below b6)
    have HB6 := Lib.hid (HB5.out.below b6)
    have HS6 := Lib.hid (HS5.out.below b6)
    have HW6 := Lib.hid (bel_on HW5.out b6)
    clear b6 HX5 HB5 HS5 HW5
    go_wp2_with (refine wpList_load_sp (by rfl) _ rfl g rfl cs HB6.out HZ.out ?_)
    refine (isnight_c HS6.out aw14_fit true aw14_may 165600 (by omega) (by omega) true aw14_2).mono ?_
    rintro e w7 ⟨rfl, b7⟩
    have HX7 := Lib.hid (HX6.out.below b7)
    have HB7 := Lib.hid (HB6.out.below b7)
    have HS7 := Lib.hid (HS6.out.below b7)
    have HW7 := Lib.hid (bel_on HW6.out b7)
    clear b7 HX6 HB6 HS6 HW6
    go_wp2_with (refine wpList_load_sp (by rfl) _ rfl g rfl cs HB7.out HZ.out ?_)
    refine (isnight_c HS7.out aw14_fit true aw14_may (-1) (by omega) (by omega) false aw14_3).mono ?_
    rintro e w8 ⟨rfl, b8⟩
    have HX8 := Lib.hid (HX7.out.below b8)
    have HW8 := Lib.hid (bel_on HW7.out b8)
    clear b8 HX7 HB7 HS7 HW7
    go_wp2_with fail
    refine (ofnight_c (non_c _) non_fit false non_not A2 c2 [(79200, 108000)] HX8.out (by simp)).mono ?_
    rw [aw14_none]
    rintro e w9 ⟨A9, c9, rfl, r9, b9⟩
    have HW9 := Lib.hid (bel_on HW8.out b9)
    clear b9 r9 HX8 HW8
    go_wp2
    go_ret
    exact ⟨rfl, HW9.out⟩

/-- In a drawn region: a whole setup is read. -/
theorem exec_load_sp {o : Oper} {ρ : Operand → Value} {ww : World} (x : Operand) (ho : o.op = .load 30 x) {g : Nat} (hx : ρ x = .pointer (some ⟨g, 0, none⟩)) {cs : Array Value} (hg : Has ww g cs) (hs : cs.size = 23) :
    (execOp ρ o).run Try.prog ww = .ok (.value (.agg cs)) ww := by
  obtain ⟨t, hg⟩ := hg
  unfold execOp
  simp only [ho, hx, Instr.loadAt, Instr.sureAddr, Sem.run_bind, Sem.run_pure, Result.andThen_ok, run_loadVar_row (P := Try.prog) ww g t 30 cs (0, 0) _ hg Try.underlying30 rfl (by rw [hs]; kernel_rfl)]
/-- What a law carries over its calls: the setup, its variable, the spans. -/
structure Nx (w0 w : World) (g : Nat) (s : SetP) (cs : Array Value) (A : Option Addr) (xs : List (Int × Int)) : Prop where
  b : Below w0.heap.size w0 w
  c : SetC w s cs
  h : Has w g cs
  x : Spans w A xs
theorem Nx.below {w0 w w' : World} {g : Nat} {s : SetP} {cs : Array Value} {A : Option Addr} {xs : List (Int × Int)} (h : Nx w0 w g s cs A xs) (hb : Below w.heap.size w w') : Nx w0 w' g s cs A xs := ⟨bel_on h.b hb, h.c.below hb, h.h.below hb, h.x.below hb⟩
theorem nx_start {w : World} {s : SetP} {cs : Array Value} {A : Option Addr} {xs : List (Int × Int)} (hc : SetC w s cs) (hx : Spans w A xs) : Nx w (w.alloc (.cells cs 30)) w.heap.size s cs A xs :=
  ⟨bel_alloc (Below.refl _ _) _, hc.below (bel_alloc (Below.refl _ _) _), Has.new _ _ _ rfl, hx.below (bel_alloc (Below.refl _ _) _)⟩
/-! ### few -/
def fewP (xs : List (Int × Int)) : Prop := ∀ x ∈ xs, 0 ≤ x.1 ∧ x.1 ≤ 33000000 ∧ x.2 ≤ 33000000
theorem few_take {xs : List (Int × Int)} {k : Nat} (hk : k < xs.length) (h : ∀ x ∈ xs.take k, 0 ≤ x.1 ∧ x.1 ≤ 33000000 ∧ x.2 ≤ 33000000) {a b : Int} (e : xs.getD k (0, 0) = (a, b)) (h0 : 0 ≤ a) (h1 : a ≤ 33000000) (h2 : b ≤ 33000000) : ∀ x ∈ xs.take (k + 1), 0 ≤ x.1 ∧ x.1 ≤ 33000000 ∧ x.2 ≤ 33000000 := fun x hx => by
  rw [sp_take_snoc xs k hk] at hx
  rcases List.mem_append.1 hx with q | q
  · exact h x q
  · rw [List.mem_singleton.1 q, e]; exact ⟨h0, h1, h2⟩
set_option maxHeartbeats 4000000 in
theorem few14 (s : SetP) (cs : Array Value) (w : World) (hC : SetC w s cs) (A : Option Addr) (n c : Nat) (xs : List (Int × Int)) (hx : Spans w A xs) (hn : xs.length = n) (hmax : n ≤ 9223372036854775807) :
    Calls Try.prog 9 #[.agg cs, .slice A n c] w fun e w' => (∃ b, e = .returned (.bool b) ∧ (b = true → fewP xs ∧ s.Few ∧ n ≤ 30)) ∧ Below w.heap.size w w' := by
  have HZ := Lib.hid hC.size
  have hb0 := bel_alloc (Below.refl w.heap.size w) (.cells cs 30)
  have HB0 := Lib.hid (Has.new w 30 cs rfl)
  have HS0 := Lib.hid (hC.below hb0)
  have HX0 := Lib.hid (hx.below hb0)
  have HBW := Lib.hid hb0
  clear hC hx hb0
  go_enter Try.func9, Try.ntmps9
  go_wp2
  generalize w.alloc (.cells cs 30) = w1 at *
  go_loopw [5] (fun i wr => ∃ (k : Nat), k ≤ n ∧ i = .int .i64 k ∧ Hid (Below w1.heap.size w1 wr) ∧ Hid (∀ x ∈ xs.take k, 0 ≤ x.1 ∧ x.1 ≤ 33000000 ∧ x.2 ≤ 33000000)) (fun i _ => n - (intOf i).toNat)
  case atStart => exact ⟨0, Nat.zero_le _, rfl, Below.refl _ _, by simp [Hid]⟩
  case round =>
    obtain ⟨k, hk, rfl, hbw, hall⟩ := hrel
    by_cases hlt : k < n
    · obtain ⟨b, off, rfl, hblt, d1, d2⟩ := (HX0.out.below hbw.out).2 k (by omega)
      have HT := Lib.hid (fun a b e h0 h1 h2 => few_take (xs := xs) (k := k) (by omega) hall.out (a := a) (b := b) e h0 h1 h2)
      generalize xs.getD k (0, 0) = z at *
      obtain ⟨x, y⟩ := z
      simp only [] at d1 d2
      have HT2 := Lib.hid (HT.out x y rfl)
      have i0 : (0 : Int) ≤ (k : Int) := by omega
      have i1 : (k : Int) < (n : Int) := by omega
      obtain ⟨q, hq⟩ : ∃ q, IntKind.i64.wrap (y - x) = q := ⟨_, rfl⟩
      have HEND : ∀ m, Hid (Below w.heap.size w (wr.drewN m)) := fun m => below_drewN (bel_on HBW.out hbw.out) m
      have HBAD : ∀ m, Hid ((∃ b, Ending.returned (.bool false) = .returned (.bool b) ∧ (b = true → fewP xs ∧ s.Few ∧ n ≤ 30)) ∧ Below w.heap.size w (wr.drewN m)) := fun m => ⟨⟨false, rfl, fun h => by cases h⟩, (HEND m).out⟩
      clear HT
      by_cases x0 : x < 0
      · go_wp2
        go_quiet (fail)
        go_wp2
        go_ret
        exact (HBAD _).out
      have x0' : decide (x < 0) = false := decide_eq_false x0
      by_cases x1 : 33000000 < x
      · go_wp2
        go_quiet (fail)
        go_wp2
        go_ret
        exact (HBAD _).out
      have x1' : decide (33000000 < x) = false := decide_eq_false x1
      by_cases x2 : 33000000 < y
      · go_wp2
        go_quiet (fail)
        go_wp2
        go_ret
        exact (HBAD _).out
      have x2' : decide (33000000 < y) = false := decide_eq_false x2
      by_cases x3 : 2592000 < q
      · go_wp2
        go_quiet (fail)
        go_wp2
        go_ret
        exact (HBAD _).out
      have x3' : decide (2592000 < q) = false := decide_eq_false x3
      have HT3 := Lib.hid (HT2.out (by omega) (by omega) (by omega))
      clear HBAD HEND HT2
      go_wp2
      go_quiet (fail)
      go_wp2
      go_roundw
      case rel => exact ⟨k + 1, by omega, by go_num, below_drewN hbw.out _, HT3⟩
      case measure => simp [intOf]; omega
    · obtain rfl : k = n := by omega
      have HB2 := Lib.hid (bel_on HBW.out hbw.out)
      have HG2 := Lib.hid (HB0.out.below hbw.out)
      have hallx : fewP xs := by
        have := hall.out
        rw [List.take_of_length_le (by omega)] at this
        exact this
      cases hF : decide s.Few with
      | false =>
        have HC := Lib.hid (few_c (HS0.out.below hbw.out) false hF)
        clear hF hbw hall
        go_wp2_with (refine wpList_load_sp (by rfl) _ rfl w.heap.size rfl cs HG2.out HZ.out ?_)
        refine HC.out.mono ?_
        rintro e w3 ⟨rfl, b3⟩
        have HB3 := Lib.hid (bel_on HB2.out b3)
        clear b3
        go_wp2
        go_ret
        exact ⟨⟨false, rfl, fun h => by cases h⟩, HB3.out⟩
      | true =>
        have HC := Lib.hid (few_c (HS0.out.below hbw.out) true hF)
        have hF' := of_decide_eq_true hF
        have HBOTH : Hid (k ≤ 30 → fewP xs ∧ s.Few ∧ k ≤ 30) := fun h => ⟨hallx, hF', h⟩
        clear hF hbw hall hF' hallx
        go_wp2_with (refine wpList_load_sp (by rfl) _ rfl w.heap.size rfl cs HG2.out HZ.out ?_)
        refine HC.out.mono ?_
        rintro e w3 ⟨rfl, b3⟩
        have HB3 := Lib.hid (bel_on HB2.out b3)
        clear b3
        by_cases h30 : k ≤ 30
        · have hnI : (k : Int) ≤ 30 := by omega
          go_wp2
          go_ret
          exact ⟨⟨true, rfl, fun _ => HBOTH.out h30⟩, HB3.out⟩
        · have hnI : ¬ (k : Int) ≤ 30 := by omega
          go_wp2
          go_ret
          exact ⟨⟨false, ret_bool (by simp; omega), fun h => by cases h⟩, HB3.out⟩
end Go.Proofs.Ytcefjnjlcpkanaa
