/-
  The contracts of package lumperref03's functions, continued: of, Norm, And, Minus.
-/
import Derived.Test.YtcefjnjlcpkanaaZal
namespace Go.Proofs.Ytcefjnjlcpkanaa
open Go.RowKit
set_option linter.unusedVariables false
set_option maxRecDepth 20000

def ofP (a b : List (Int × Int)) (both : Bool) (t : Int) : Prop := In a t ∧ (In b t ↔ both = true)
theorem of_next (a b : List (Int × Int)) (t : Int) (ht : t < 32054400) : t < min (afterL t 32054400 a) (afterL t 32054400 b) ∧ min (afterL t 32054400 a) (afterL t 32054400 b) ≤ 32054400 ∧
    ∀ both u, t ≤ u → u < min (afterL t 32054400 a) (afterL t 32054400 b) → (ofP a b both u ↔ ofP a b both t) := by
  obtain ⟨a1, a2, a3⟩ := afterL_spec t a 32054400 ht
  obtain ⟨b1, b2, b3⟩ := afterL_spec t b 32054400 ht
  refine ⟨by omega, by omega, fun both u h1 h2 => ?_⟩
  unfold ofP
  rw [a3 u h1 (by omega), b3 u h1 (by omega)]
theorem ofP_yes {a b : List (Int × Int)} {both : Bool} {t : Int} (h0 : 0 ≤ t) (ht : t < 32054400) (ha : hasB a t = true) (hb : hasB b t = both) : ofP a b both t := by
  refine ⟨((hasB_iff a t).1 ha).2.2, ?_⟩
  rw [← hb, hasB_iff]
  exact ⟨fun h => ⟨h0, ht, h⟩, fun h => h.2.2⟩
theorem ofP_no1 {a b : List (Int × Int)} {both : Bool} {t : Int} (h0 : 0 ≤ t) (ht : t < 32054400) (ha : hasB a t = false) : ¬ ofP a b both t := fun h => by
  have := (hasB_iff a t).2 ⟨h0, ht, h.1⟩
  rw [ha] at this; cases this
theorem ofP_no2 {a b : List (Int × Int)} {both : Bool} {t : Int} (h0 : 0 ≤ t) (ht : t < 32054400) (hb : hasB b t = !both) : ¬ ofP a b both t := fun h => by
  have e : In b t ↔ hasB b t = true := by rw [hasB_iff]; exact ⟨fun h => ⟨h0, ht, h⟩, fun h => h.2.2⟩
  have h2 := h.2
  rw [e, hb] at h2
  cases both <;> simp at h2
theorem upto_len {p : Int → Prop} {t : Int} {l : List (Int × Int)} (h : Upto p t l) : l.length ≤ 32054401 := by have := plain_len h.1 (by omega); omega
theorem upto_end {p : Int → Prop} {l : List (Int × Int)} (h : Upto p 32054400 l) : l = canon p := canon_eq h.1 (fun u => by rw [h.2.2])

/-- Where the loop of 'of' stands. -/
def OfAt (p : Int → Prop) (t : Int) (L : List (Int × Int)) : Prop := Upto p t L
set_option maxHeartbeats 2000000 in
theorem rof_any (A B : Option Addr) (ca cb : Nat) (a b : List (Int × Int)) (both : Bool) (w : World) (ha : Spans w A a) (hb : Spans w B b) (hla : a.length ≤ 100000000) (hlb : b.length ≤ 100000000) :
    Calls Try.prog 38 #[.slice A a.length ca, .slice B b.length cb, .bool both] w (Gives w (canon (ofP a b both))) := by
  have HA := Lib.hid ha
  have HB := Lib.hid hb
  clear ha hb
  go_enter Try.func38, Try.ntmps38
  go_wp2
  go_loopw [7, 8] (fun o i wr => ∃ (t : Int) (D : Option Addr) (d : Nat) (L : List (Int × Int)), 0 ≤ t ∧ t ≤ 32054400 ∧ i = .int .i64 t ∧ o = .slice D L.length d ∧ Hid (OfAt (ofP a b both) t L) ∧ Row wr w.heap.size D d L ∧ Below w.heap.size w wr) (fun _ i _ => (32054400 - intOf i).toNat)
  case atStart => exact ⟨0, none, 0, [], by omega, by omega, rfl, rfl, ⟨trivial, by simp, fun u => by simp only [in_nil, false_iff]; omega⟩, Row.nil _ _, Below.refl _ _⟩
  case round =>
    obtain ⟨t, D, d, L, h0, h1, rfl, rfl, hat, hr, hbw⟩ := hrel
    by_cases hlt : t < 32054400
    · have HN := Lib.hid (of_next a b t hlt)
      have hln := upto_len hat.out
      go_wp2_with fail
      refine (rafter_any A ca a t _ (HA.out.below hbw) hla).mono ?_
      rintro e w2 ⟨rfl, rfl⟩
      go_wp2_with fail
      refine (rafter_any B cb b t _ (HB.out.below hbw) hlb).mono ?_
      rintro e w2 ⟨rfl, rfl⟩
      go_wp2_with fail
      refine (rhas_any A ca a t _ (HA.out.below hbw) hla).mono ?_
      generalize afterL t 32054400 a = n1 at *
      generalize afterL t 32054400 b = n2 at *
      cases hha : hasB a t with
      | false =>
        have HO := Lib.hid (ofP_no1 (b := b) (both := both) h0 hlt hha)
        clear hha
        rintro e w2 ⟨rfl, hb2⟩
        have hr2 := hr.below hb2
        have hm1 := HN.out.1
        have hm2 := HN.out.2.1
        have HU := Lib.hid (upto_skip hat.out (Int.le_of_lt hm1) (fun u q1 q2 q3 => HO.out ((HN.out.2.2 both u q1 q2).1 q3)))
        go_wp2
        go_roundw
        case rel => exact ⟨_, D, d, L, by omega, hm2, rfl, rfl, HU, hr2, bel_on hbw hb2⟩
        case measure => simp [intOf]; omega
      | true =>
        rintro e w2 ⟨rfl, hb2⟩
        have hr2 := hr.below hb2
        replace hb2 := bel_on hbw hb2
        clear hr hbw
        go_wp2_with fail
        refine (rhas_any B cb b t _ (HB.out.below hb2) hlb).mono ?_
        by_cases hhb : hasB b t = both
        · have HO := Lib.hid (ofP_yes h0 hlt hha hhb)
          have HY := Lib.hid (fun u q1 q2 => (HN.out.2.2 both u q1 q2).2 HO.out)
          have hm1 := HN.out.1
          have hm2 := HN.out.2.1
          rw [hhb]
          clear hha hhb
          rintro e w3 ⟨rfl, hb3⟩
          have hr3 := hr2.below hb3
          replace hb3 := bel_on hb2 hb3
          have hw3 := hb3.size
          clear hr2 hb2 HN HO
          by_cases hL : L = []
          · subst hL
            have HU := Lib.hid (upto_snoc hat.out h0 hm1 hm2 HY.out (by simp))
            simp only [List.length_nil] at *
            obtain ⟨D', d', w4, hrun, hr4, hb4, hz4, _, _⟩ := row_push hr3 t (min n1 n2) (by simp) hw3 rfl
            have HR := Lib.hid hrun
            have hb5 := hb4 w (Nat.le_refl _) hb3
            clear hrun hb4
            cases both <;>
            · go_wp2_with (at_builtin; refine wpList_append_run HR.out rfl rfl rfl rfl ?_)
              go_roundw
              case rel => exact ⟨_, D', d', _, by omega, hm2, rfl, rfl, HU, hr4, hb5⟩
              case measure => simp [intOf]; omega
          · obtain ⟨i, ⟨ra, rb⟩, rfl⟩ : ∃ i r, L = i ++ [r] := ⟨L.dropLast, L.getLast hL, (List.dropLast_concat_getLast hL).symm⟩
            obtain ⟨g, rfl⟩ := hr3.form (by simp)
            obtain ⟨f1, f2⟩ := hr3.cellAt (k := i.length) (by simp)
            rw [getD_snoc] at f1 f2
            have f3 := hr3.frozenAt (i.length * 2 + 1)
            have hglt : w.heap.size ≤ g ∧ g < w3.heap.size := hr3.lt _ rfl
            by_cases hc : rb = t
            · have HU := Lib.hid (upto_last hat.out hc hm1 hm2 HY.out)
              have hset := hr3.set (k := i.length) (by simp) (min n1 n2)
              rw [getD_snoc, set_snoc] at hset
              have HT := Lib.hid hset
              clear hset
              subst hc
              simp only [List.length_append, List.length_cons, List.length_nil, Nat.zero_add] at *
              cases both <;>
              · go_wp2
                go_roundw
                case rel => exact ⟨_, _, d, i ++ [(ra, min n1 n2)], by omega, hm2, rfl, by simp, HU, HT.out, bel_set hb3 (p := ⟨g, i.length * 2 + 1, none⟩) hglt.1 _⟩
                case measure => simp [intOf]; omega
            · have HU := Lib.hid (upto_snoc hat.out h0 hm1 hm2 HY.out (fun x hx => by
                obtain ⟨k1, k2, k3, k4, k5⟩ := plain_unsnoc hat.out.1
                have q := hat.out.2.1 (ra, rb) (by simp)
                simp only [] at *
                rcases List.mem_append.1 hx with hx | hx
                · have := k2 x hx; omega
                · rw [List.mem_singleton.1 hx]; exact hc))
              have hcd : decide (rb = t) = false := by simpa using hc
              obtain ⟨D', d', w4, hrun, hr4, hb4, hz4, _, _⟩ := row_push hr3 t (min n1 n2) (by omega) hw3 rfl
              simp only [List.length_append, List.length_cons, List.length_nil, Nat.zero_add] at *
              have HR := Lib.hid hrun
              have hb5 := hb4 w (Nat.le_refl _) hb3
              clear hrun hb4
              cases both <;>
              · go_wp2_with (at_builtin; refine wpList_append_run HR.out rfl rfl rfl rfl ?_)
                go_roundw
                case rel => exact ⟨_, D', d', _, by omega, hm2, rfl, by simp, HU, hr4, hb5⟩
                case measure => simp [intOf]; omega
        · have hhb' : hasB b t = !both := by cases both <;> simpa using hhb
          have HO := Lib.hid (ofP_no2 (a := a) h0 hlt hhb')
          rw [hhb']
          clear hha hhb hhb'
          rintro e w3 ⟨rfl, hb3⟩
          have hr3 := hr2.below hb3
          have hm1 := HN.out.1
          have hm2 := HN.out.2.1
          have HU := Lib.hid (upto_skip hat.out (Int.le_of_lt hm1) (fun u q1 q2 q3 => HO.out ((HN.out.2.2 both u q1 q2).1 q3)))
          cases both <;>
          · simp only [Bool.not_true, Bool.not_false]
            go_wp2
            go_roundw
            case rel => exact ⟨_, D, d, L, by omega, hm2, rfl, rfl, HU, hr3, bel_on hb2 hb3⟩
            case measure => simp [intOf]; omega
    · obtain rfl : t = 32054400 := by omega
      have HE := Lib.hid (upto_end hat.out)
      go_wp2
      go_ret
      exact gives_of hr HE.out rfl hbw

theorem rnorm_any (A : Option Addr) (ca : Nat) (a : List (Int × Int)) (w : World) (ha : Spans w A a) (hla : a.length ≤ 100000000) :
    Calls Try.prog 23 #[.slice A a.length ca] w (Gives w (canon (In a))) := by
  have hE : canon (ofP a [] false) = canon (In a) := canon_congr (fun t _ _ => by simp [ofP, in_nil])
  have hcon := rof_any A none ca 0 a [] false w ha (Spans.nil _ _) hla (by simp)
  rw [hE] at hcon
  simp only [List.length_nil] at hcon
  clear ha hE
  go_enter Try.func23, Try.ntmps23
  go_wp2_with fail
  refine hcon.mono ?_
  rintro e w2 ⟨D, d, rfl, hr, hb⟩
  go_wp2
  go_ret
  exact ⟨D, d, rfl, hr, hb⟩
end Go.Proofs.Ytcefjnjlcpkanaa
