/-
  NightHas: a second is told just if it is there, and by night.
-/
import Derived.Test.YtcefjnjlcpkanaaZau
import Derived.StillTail
import Derived.StillTailTactics
namespace Go.Proofs.Ytcefjnjlcpkanaa
open Go.RowKit
set_option linter.unusedVariables false
set_option linter.unusedSimpArgs false
set_option maxRecDepth 100000

set_option maxHeartbeats 8000000 in
theorem nightHas_main (s : SetP) (cs : Array Value) (w : World) (hC : SetC w s cs) (hf : s.Fit) (A : Option Addr) (cap : Nat) (xs : List (Int × Int)) (hx : Spans w A xs) (hmax : xs.length ≤ 9223372036854775807) (t : Int) (t1 : -9223372036854775808 ≤ t) (t2 : t ≤ 9223372036854775807) :
    Calls Try.prog 4 #[.agg cs, .slice A xs.length cap, .int .i64 t] w fun e w' => e = .returned (.bool true) ∧ Below w.heap.size w w' := by
  have mixed : Try.prog.follows Departure.mixedOrders = true := by kernel_rfl
  have HM := Lib.hid mixed
  have HZ := Lib.hid hC.size
  have HN0 := Lib.hid (nx_start hC hx)
  have HFEW := Lib.hid (fun W (hW : SetC W s cs) (hX : Spans W A xs) => few14 s cs W hW A xs.length cap xs hX rfl hmax)
  obtain ⟨b, hb⟩ : ∃ b, checkB s = b := ⟨_, rfl⟩
  have COF := Lib.hid (fun W (hW : SetC W s cs) (hX : Spans W A xs) hl => ofnight_c hW hf b hb A cap xs hX hl)
  obtain ⟨v, hv⟩ : ∃ v, isB b s.nfrom s.nto t = v := ⟨_, rfl⟩
  have CIS := Lib.hid (fun W (hW : SetC W s cs) => isnight_c hW hf b hb t t1 t2 v hv)
  have FR : Hid (Fits (canon fun t => In xs t ∧ NB b s.nfrom s.nto t)) := Fits.canon _
  have lR := canon_len (fun t => In xs t ∧ NB b s.nfrom s.nto t)
  have HH := Lib.hid (has_night b s.nfrom s.nto xs t)
  rw [hv] at HH
  obtain ⟨u, hu⟩ : ∃ u, hasB xs t = u := ⟨_, rfl⟩
  rw [hu] at HH
  have HU := Lib.hid hu
  generalize (canon fun t => In xs t ∧ NB b s.nfrom s.nto t) = VR at *
  clear hC hx hf hb hv hu
  go_enter Try.func4, Try.ntmps4
  go_wp2_with fail
  refine (awake14 _).mono ?_
  rintro e w1 ⟨rfl, b1⟩
  have HN1 := Lib.hid (HN0.out.below b1)
  clear HN0 b1
  go_wp2_with (refine wpList_load_sp (by rfl) _ rfl w.heap.size rfl cs HN1.out.h HZ.out ?_)
  refine (HFEW.out _ HN1.out.c HN1.out.x).mono ?_
  rintro e w2 ⟨⟨q, rfl, hq⟩, b2⟩
  have HN2 := Lib.hid (HN1.out.below b2)
  clear HN1 b2 HFEW
  cases q with
  | false =>
    have HE := Lib.hid HN2.out.b
    clear HN2 hq
    go_wp2
    go_ret
    exact ⟨rfl, HE.out⟩
  | true =>
    obtain ⟨hP, hF, h30⟩ := hq rfl
    clear hq
    go_wp2_with (refine wpList_load_sp (by rfl) _ rfl w.heap.size rfl cs HN2.out.h HZ.out ?_)
    refine (COF.out _ HN2.out.c HN2.out.x (by omega)).mono ?_
    rintro e w3 ⟨A3, c3, rfl, r3, b3⟩
    have HX3 := Lib.hid (r3.spans FR.out)
    have HN3 := Lib.hid (HN2.out.below b3)
    clear r3 b3 HN2
    go_wp2_with fail
    refine (has_any A3 c3 VR t _ HX3.out (by omega)).mono ?_
    rw [HH.out]
    rintro e w4 ⟨rfl, b4⟩
    have HN4 := Lib.hid (HN3.out.below b4)
    clear b4 HX3 HN3
    go_wp2_with fail
    refine (has_any A cap xs t _ HN4.out.x (by omega)).mono ?_
    rw [HU.out]
    rintro e w5 ⟨rfl, b5⟩
    have HN5 := Lib.hid (HN4.out.below b5)
    clear b5 HN4
    cases u with
    | false =>
      have HE := Lib.hid HN5.out.b
      clear HN5
      go_wp2
      go_ret
      exact ⟨rfl, HE.out⟩
    | true =>
      go_wp2_with (refine wpList_load_sp (by rfl) _ rfl w.heap.size rfl cs HN5.out.h HZ.out ?_)
      refine (CIS.out _ HN5.out.c).mono ?_
      rintro e w6 ⟨rfl, b6⟩
      have HE := Lib.hid (bel_on HN5.out.b b6)
      clear b6 HN5
      cases v
      all_goals
        go_wp2
        go_ret
        exact ⟨rfl, HE.out⟩
theorem nightHas_walk (s : SetP) (A1 A2 A3 A4 A5 A6 : Option Addr) (c1 c2 c3 c4 c5 c6 : Nat) (a1 : Option Addr) (len1 cap1 : Nat) (z1 : List (Int × Int)) (t : Int) (w : World) (hs : SetAt w s A1 A2 A3 A4 A5 A6 c1 c2 c3 c4 c5 c6) (hf : s.Fit)
    (l1 : z1.length = len1) (l1' : len1 ≤ 9223372036854775807) (s1 : Spans w a1 z1) (n1 : a1 = none → cap1 = 0) (t0 : -9223372036854775808 ≤ t) (t1 : t ≤ 9223372036854775807) :
    Calls Try.prog 4 #[setV s A1 A2 A3 A4 A5 A6 c1 c2 c3 c4 c5 c6, .slice a1 len1 cap1, .int .i64 t] w fun e w' => e = .returned (.bool true) ∧ Below w.heap.size w w' := by
  obtain ⟨cs, hcs⟩ : ∃ cs, setV s A1 A2 A3 A4 A5 A6 c1 c2 c3 c4 c5 c6 = .agg cs := ⟨_, rfl⟩
  rw [hcs]
  subst l1
  exact nightHas_main s cs w ⟨A1, A2, A3, A4, A5, A6, c1, c2, c3, c4, c5, c6, hcs, hs⟩ hf a1 cap1 z1 s1 l1' t t0 t1
end Go.Proofs.Ytcefjnjlcpkanaa
