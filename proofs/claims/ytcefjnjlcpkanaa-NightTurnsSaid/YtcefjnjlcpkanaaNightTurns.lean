/-
  NightTurns: with the night's beginning and end turned just what was not by night is.
-/
import Derived.Test.YtcefjnjlcpkanaaZau
import Derived.StillTail
import Derived.StillTailTactics
namespace Go.Proofs.Ytcefjnjlcpkanaa
open Go.RowKit
set_option linter.unusedVariables false
set_option linter.unusedSimpArgs false
set_option maxRecDepth 100000

def SetP.turned (s : SetP) : SetP := { s with nfrom := s.nto, nto := s.nfrom }
theorem turned_fit {s : SetP} (h : s.Fit) : s.turned.Fit := { h with nfrom := h.nto, nto := h.nfrom }
theorem turned_may {s : SetP} (h : checkB s = true) : checkB s.turned = true := by
  have k := check_iff.1 h
  exact check_iff.2 { k with nfrom := k.nto, nto := k.nfrom }
def turnC (cs : Array Value) (f g : Int) : Array Value := (cs.setIfInBounds 16 (.int .i64 g)).setIfInBounds 17 (.int .i64 f)
theorem turned_c {w : World} {s : SetP} {cs : Array Value} (h : SetC w s cs) : SetC w s.turned (turnC cs s.nfrom s.nto) := by
  obtain ⟨A1, A2, A3, A4, A5, A6, c1, c2, c3, c4, c5, c6, h1, h2⟩ := h
  unfold setV at h1
  injection h1 with h1
  subst h1
  exact ⟨A1, A2, A3, A4, A5, A6, c1, c2, c3, c4, c5, c6, rfl, ⟨h2.ways, h2.elements, h2.classes, h2.gears, h2.rates, h2.tiers⟩⟩
theorem setC_one {w : World} {s : SetP} {cs : Array Value} (h : SetC w s cs) : cs.all (·.oneCell') = true := by
  obtain ⟨A1, A2, A3, A4, A5, A6, c1, c2, c3, c4, c5, c6, h1, h2⟩ := h
  exact (setV_cells _ _ _ _ _ _ _ _ _ _ _ _ _ _ h1).2
theorem turn_same {f g : Int} (h : f = g) (l : List (Int × Int)) : (canon fun t => In l t ∧ NB true f g t) = [] :=
  canon_none fun t _ _ q => by subst h; exact night_none f t q.2.2
theorem turn_minus {f g : Int} (h : f ≠ g) (l : List (Int × Int)) : (canon fun t => In l t ∧ ¬ In (canon fun t => In l t ∧ NB true f g t) t) = canon fun t => In l t ∧ NB true g f t :=
  canon_congr fun t a b => by
    rw [canon_in]
    unfold NB
    rw [night_turned h]
    exact ⟨fun q => ⟨q.1, rfl, fun z => q.2 ⟨a, b, q.1, rfl, z⟩⟩, fun q => ⟨q.1, fun z => q.2.2 z.2.2.2.2⟩⟩
set_option maxHeartbeats 8000000 in
theorem nightTurns_main (s : SetP) (cs : Array Value) (w : World) (hC : SetC w s cs) (hf : s.Fit) (A : Option Addr) (cap : Nat) (xs : List (Int × Int)) (hx : Spans w A xs) (hmax : xs.length ≤ 9223372036854775807) :
    Calls Try.prog 6 #[.agg cs, .slice A xs.length cap] w fun e w' => e = .returned (.bool true) ∧ Below w.heap.size w w' := by
  have mixed : Try.prog.follows Departure.mixedOrders = true := by kernel_rfl
  have HM := Lib.hid mixed
  have HZ := Lib.hid hC.size
  have HN0 := Lib.hid (nx_start hC hx)
  have HFEW := Lib.hid (fun W (hW : SetC W s cs) (hX : Spans W A xs) => few14 s cs W hW A xs.length cap xs hX rfl hmax)
  obtain ⟨b, hb⟩ : ∃ b, checkB s = b := ⟨_, rfl⟩
  have COF := Lib.hid (fun W (hW : SetC W s cs) (hX : Spans W A xs) hl => ofnight_c hW hf b hb A cap xs hX hl)
  have CC := Lib.hid (fun W (hW : SetC W s cs) => scheck_c hW hf b hb)
  have CTF : Hid (b = true → ∀ W (hW : SetC W s.turned (turnC cs s.nfrom s.nto)) (hX : Spans W A xs) (hl : xs.length ≤ 100000000), Calls Try.prog 11 #[.agg (turnC cs s.nfrom s.nto), .slice A xs.length cap] W (Gives W (canon fun t => In xs t ∧ NB true s.nto s.nfrom t))) := fun e W hW hX hl => ofnight_c hW (turned_fit hf) true (turned_may (hb.trans e)) A cap xs hX hl
  have HT := Lib.hid (fun W (hW : SetC W s cs) => turned_c hW)
  obtain ⟨q16, q17⟩ := setC_night hC
  generalize s.nfrom = f at *
  generalize s.nto = g at *
  have h1 := setC_one hC
  have HC0 := Lib.hid hC
  have HX0 := Lib.hid hx
  have h16 : (cs.setIfInBounds 16 (.int .i64 g)).size = 23 := by simpa using HZ.out
  clear hC hx hf hb
  go_enter Try.func6, Try.ntmps6
  go_wp2_with fail
  refine (awake14 _).mono ?_
  rintro e w1 ⟨rfl, b1⟩
  have HN1 := Lib.hid (HN0.out.below b1)
  clear HN0 b1
  go_wp2_with (refine wpList_load_sp (by rfl) _ rfl w.heap.size rfl cs HN1.out.h HZ.out ?_)
  refine (HFEW.out _ HN1.out.c HN1.out.x).mono ?_
  rintro e w2 ⟨⟨q, rfl, hq⟩, b2⟩
  have HN2 := Lib.hid (HN1.out.below b2)
  clear HN1 b2 HFEW
  cases q with
  | false =>
    have HE := Lib.hid HN2.out.b
    clear HN2 hq
    go_wp2
    go_ret
    exact ⟨rfl, HE.out⟩
  | true =>
    obtain ⟨hP, hF, h30⟩ := hq rfl
    clear hq
    go_wp2_with (refine wpList_load_sp (by rfl) _ rfl w.heap.size rfl cs HN2.out.h HZ.out ?_)
    refine (CC.out _ HN2.out.c).mono ?_
    rintro e w3 ⟨rfl, b3⟩
    have HN3 := Lib.hid (HN2.out.below b3)
    clear HN2 b3 CC
    cases b with
    | false =>
      have HE := Lib.hid HN3.out.b
      clear HN3
      go_wp2
      go_ret
      exact ⟨rfl, HE.out⟩
    | true =>
      have CT := Lib.hid (CTF.out rfl)
      clear CTF
      have HD4 := Lib.hid (Has.new w3 30 cs rfl)
      have HN4 := Lib.hid (HN3.out.below (bel_alloc (Below.refl w3.heap.size w3) (.cells cs 30)))
      have hz3 := HN3.out.h.size
      have HB3 := Lib.hid HN3.out.b
      have HL3 := Lib.hid HN3.out.h
      go_upto_region 5 with (first | (refine wpList_load_sp (by rfl) _ rfl w.heap.size rfl cs HN3.out.h HZ.out ?_) | (refine wpList_laidS cs 6 _ _ rfl rfl rfl rfl rfl rfl rfl rfl HZ.out h1 ?_))
      obtain ⟨gD, hgD⟩ : ∃ x, w3.heap.size = x := ⟨_, rfl⟩
      rw [hgD] at HD4 hz3
      rw [hgD]
      have hwD : w.heap.size ≤ gD := by omega
      have HBD : Hid (gD = w3.heap.size) := hgD.symm
      clear hgD HN3 HL3
      generalize w3.alloc (.cells cs 30) = w4 at *
      have c4 := HN4.out.h.cell 17 q17
      have hz4 := HN4.out.h.size
      have d4 := HD4.out.size
      have e4 := HD4.out.cell 16 q16
      have f4 := HD4.out.frozen 16
      have HD5 := Lib.hid (HD4.out.set 16 (.int .i64 g))
      have HH5 := Lib.hid (HN4.out.h.far (p := ⟨gD, 16, none⟩) (by show w.heap.size ≠ gD; omega) (.int .i64 g))
      have HB5 := Lib.hid (bel_set HN4.out.b (p := ⟨gD, 16, none⟩) hwD (.int .i64 g))
      have q17' : (cs.setIfInBounds 16 (.int .i64 g))[17]? = some (.int .i64 g) := by rw [Array.getElem?_setIfInBounds_ne (by omega)]; exact q17
      go_upto_region 6 with fail
      generalize w4.setCell ⟨gD, 16, none⟩ (.int .i64 g) = w5 at *
      clear c4 hz4 d4 e4 f4 HN4 HD4
      have c5 := HH5.out.cell 16 q16
      have hz5 := HH5.out.size
      have d5 := HD5.out.size
      have e5 := HD5.out.cell 17 q17'
      have f5 := HD5.out.frozen 17
      have HD6 : Hid (Has (w5.setCell ⟨gD, 17, none⟩ (.int .i64 f)) gD (turnC cs f g)) := HD5.out.set 17 (.int .i64 f)
      have HH6 := Lib.hid (HH5.out.far (p := ⟨gD, 17, none⟩) (by show w.heap.size ≠ gD; omega) (.int .i64 f))
      have HB6 := Lib.hid (bel_set HB5.out (p := ⟨gD, 17, none⟩) hwD (.int .i64 f))
      go_upto_region 7 with fail
      generalize w5.setCell ⟨gD, 17, none⟩ (.int .i64 f) = w6 at *
      clear c5 hz5 d5 e5 f5 HD5 HH5 HB5 q17'
      have HN6 : Hid (Nx w w6 w.heap.size s cs A xs) := ⟨HB6.out, HC0.out.below HB6.out, HH6.out, HX0.out.below HB6.out⟩
      have HT6 := Lib.hid (HT.out w6 HN6.out.c)
      have HZ2 : Hid ((turnC cs f g).size = 23) := by show _ = _; unfold turnC; simpa using HZ.out
      generalize turnC cs f g = cs2 at *
      have FA : Hid (Fits (canon fun t => In xs t ∧ NB true f g t)) := Fits.canon _
      have FB : Hid (Fits (canon fun t => In xs t ∧ NB true g f t)) := Fits.canon _
      have lA := canon_len (fun t => In xs t ∧ NB true f g t)
      have lB := canon_len (fun t => In xs t ∧ NB true g f t)
      have HS1 : Hid (f = g → (canon fun t => In xs t ∧ NB true f g t) = [] ∧ (canon fun t => In xs t ∧ NB true g f t) = []) := fun h => ⟨turn_same h xs, turn_same h.symm xs⟩
      have HS2 := Lib.hid (fun h => turn_minus (f := f) (g := g) h xs)
      generalize (canon fun t => In xs t ∧ NB true f g t) = VA at *
      generalize (canon fun t => In xs t ∧ NB true g f t) = VB at *
      clear HH6 HB6 HT HC0 HX0
      have hgc := HN6.out.h.cell 16 q16
      have hgl := HN6.out.h.size
      go_wp2_with (refine wpList_load_sp (by rfl) _ rfl w.heap.size rfl cs HN6.out.h HZ.out ?_)
      refine (COF.out _ HN6.out.c HN6.out.x (by omega)).mono ?_
      rintro e w7 ⟨A7, c7, rfl, r7, b7⟩
      have HA7 := Lib.hid (r7.spans FA.out)
      have HN7 := Lib.hid (HN6.out.below b7)
      have HD7 := Lib.hid (HD6.out.below b7)
      have HT7 := Lib.hid (HT6.out.below b7)
      clear hgc hgl r7 b7 HN6 HD6 HT6
      go_wp2_with (refine wpList_load_sp (by rfl) _ rfl gD rfl cs2 HD7.out HZ2.out ?_)
      refine (CT.out _ HT7.out HN7.out.x (by omega)).mono ?_
      rintro e w8 ⟨A8, c8, rfl, r8, b8⟩
      have HB8 := Lib.hid (r8.spans FB.out)
      have HA8 := Lib.hid (HA7.out.below b8)
      have HN8 := Lib.hid (HN7.out.below b8)
      clear r8 b8 HN7 HD7 HT7 HA7
      have k16 := HN8.out.h.cell 16 q16
      have k17 := HN8.out.h.cell 17 q17
      have kl := HN8.out.h.size
      have HE8 := Lib.hid HN8.out.b
      by_cases hfg : f = g
      · obtain ⟨rfl, rfl⟩ := HS1.out hfg
        subst hfg
        go_wp2
        go_ret
        exact ⟨rfl, HE8.out⟩
      · have hfgb : (f == g) = false := beq_eq_false_iff_ne.2 hfg
        have HMI := Lib.hid (HS2.out hfg)
        clear HS1 HS2
        go_wp2_with fail
        refine (minus_any A A7 cap c7 xs VA _ HN8.out.x HA8.out (by omega) (by omega)).mono ?_
        rw [HMI.out]
        rintro e w9 ⟨A9, c9, rfl, r9, b9⟩
        have HX9 := Lib.hid (r9.spans FB.out)
        have HB9 := Lib.hid (HB8.out.below b9)
        have HE9 := Lib.hid (bel_on HE8.out b9)
        clear r9 b9 HN8 HA8 HB8 HE8 k16 k17 kl
        go_wp2_with fail
        refine (same_any A8 A9 c8 c9 VB _ HB9.out HX9.out (by omega)).mono ?_
        rintro e w10 ⟨rfl, b10⟩
        have HE10 := Lib.hid (bel_on HE9.out b10)
        clear b10
        go_wp2
        go_ret
        exact ⟨rfl, HE10.out⟩
theorem nightTurns_walk (s : SetP) (A1 A2 A3 A4 A5 A6 : Option Addr) (c1 c2 c3 c4 c5 c6 : Nat) (a1 : Option Addr) (len1 cap1 : Nat) (z1 : List (Int × Int)) (w : World) (hs : SetAt w s A1 A2 A3 A4 A5 A6 c1 c2 c3 c4 c5 c6) (hf : s.Fit)
    (l1 : z1.length = len1) (l1' : len1 ≤ 9223372036854775807) (s1 : Spans w a1 z1) (n1 : a1 = none → cap1 = 0) :
    Calls Try.prog 6 #[setV s A1 A2 A3 A4 A5 A6 c1 c2 c3 c4 c5 c6, .slice a1 len1 cap1] w fun e w' => e = .returned (.bool true) ∧ Below w.heap.size w w' := by
  obtain ⟨cs, hcs⟩ : ∃ cs, setV s A1 A2 A3 A4 A5 A6 c1 c2 c3 c4 c5 c6 = .agg cs := ⟨_, rfl⟩
  rw [hcs]
  subst l1
  exact nightTurns_main s cs w ⟨A1, A2, A3, A4, A5, A6, c1, c2, c3, c4, c5, c6, hcs, hs⟩ hf a1 cap1 z1 s1 l1'
end Go.Proofs.Ytcefjnjlcpkanaa
