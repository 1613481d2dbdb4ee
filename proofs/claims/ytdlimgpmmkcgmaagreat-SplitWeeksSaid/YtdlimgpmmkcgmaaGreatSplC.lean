/-
  Package split: a worker's week, by what is paid for it.
-/
import Derived.Test.YtdlimgpmmkcgmaaGreatSplO
import Derived.Test.YtdlimgpmmkcgmaaGreatSplV
import Derived.Test.YtdlimgpmmkcgmaaGreatSplQ
import Derived.Test.YtdlimgpmmkcgmaaGreatZbk
import Derived.Test.YtdlimgpmmkcgmaaGreatZbf
import Derived.Test.YtdlimgpmmkcgmaaGreatZbb
import Derived.Test.YtdlimgpmmkcgmaaGreatZbc
import Derived.Test.YtdlimgpmmkcgmaaGreatZay
import Derived.Test.YtdlimgpmmkcgmaaGreatZaw
import Derived.Test.YtdlimgpmmkcgmaaGreatZak
import Derived.Deep.DeepCutAuto
namespace Go.Proofs.YtdlimgpmmkcgmaaGreat
open Go.RowKit
set_option linter.unusedVariables false
set_option linter.unusedSimpArgs false
set_option maxRecDepth 20000

theorem wpList_loadT {ops : Array Oper} {rest : List Oper} {o : Oper} {a : Act} {w : World} {Q : Exit → Act → World → Prop} (hgd : o.guard = none) (x : Operand) (ho : o.op = .load 62 x)
    (g : Nat) (hx : a.eval x = .pointer (some ⟨g, 0, none⟩)) (cs : Array Value) (hg : Has w g cs) (hs : cs.size = 3)
    (h : wpList Tryz.prog ops Q rest (a.put o.dst (.agg cs)) w) : wpList Tryz.prog ops Q (o :: rest) a w := by
  obtain ⟨t, hg⟩ := hg
  exact wpList_load_row hgd _ x ho g hx t cs (0, 0) _ hg Tryz.underlying62 rfl (by rw [hs]; kernel_rfl) h
set_option maxHeartbeats 16000000 in
theorem parts_c {w : World} {s : SetP} {cs : Array Value} (h : SetC w s cs) (hf : s.Fit) (b : Bool) (hb : checkB s = b) (A : Option Addr) (m c : Nat) (l : List SegP) (hs : Segs w A m c l) (hm : m ≤ 1000) (hF : ∀ s ∈ l, Fit s.fr ∧ Fit s.to) (k : Int) :
    Calls Tryz.prog 11 #[.agg cs, .slice A m c, .int .i64 k] w (TellP w (wpartsL b s l k)) := by
  have HZ := Lib.hid h.size
  have hmay : b = true → s.May := fun e => check_iff.1 (hb.trans e)
  have HSRT := Lib.hid (fun ys (hp : List.Perm ys _) hs => raw_sorted (catW_plain b s l k) (catW_ap hmay) (ys := ys) hp hs)
  have HCP := Lib.hid (catW_plain b s l k)
  have HLL : Hid (∀ j, (catW b s l k j).length ≤ 32054401) := fun j => pl_len (HCP.out j)
  have PY : PlainFrom 0 (allYes b s l) := yes_plain b s l
  have PN : PlainFrom 0 (allNo b s l) := no_plain b s l
  have lY := pl_len PY
  have lN := pl_len PN
  have HQP := Lib.hid (fun j => ord_plain (b := b) (s := s) (l := l) (k := k) j)
  have HQL : Hid (∀ j, (ordL b s l k j).length ≤ 32054401) := fun j => pl_len (HQP.out j)
  have HPA := Lib.hid (fun W (hW : SetC W s cs) (hX : Segs W A m c l) => bpaid_c hW hf b hb A m c l hX hm hF)
  have HOW := Lib.hid (fun W D dc (hD : Spans W D (allNo b s l)) => (show Calls _ _ _ W (Gives W (catW b s l k 0)) from ofweek_any D dc (allNo b s l) k W hD (by omega)))
  have HOF := Lib.hid (fun W D dc (hW : SetC W s cs) (hD : Spans W D (allYes b s l)) => (show Calls _ _ _ W (Gives3 W (ordL b s l k 0) (ordL b s l k 1) (ordL b s l k 2)) from over_c hW hf b hb D dc (allYes b s l) hD (by omega) k))
  have HNG : Hid (∀ j, j < 3 → ∀ W D dc, SetC W s cs → Spans W D (ordL b s l k j) → Calls Tryz.prog 22 #[.agg cs, .slice D (ordL b s l k j).length dc] W (Gives W (catW b s l k (j + 4)))) := by
    intro j hj W D dc hW hD
    rw [← ord_dark hmay hj]
    exact ofnight_c hW hf b hb D dc (ordL b s l k j) hD (by have := HQL.out j; omega)
  have HMN : Hid (∀ j, j < 3 → ∀ W P p D d, Spans W P (ordL b s l k j) → Spans W D (catW b s l k (j + 4)) → Calls Tryz.prog 27 #[.slice P (ordL b s l k j).length p, .slice D (catW b s l k (j + 4)).length d] W (Gives W (catW b s l k (j + 1)))) := by
    intro j hj W P p D d hP hD
    rw [← ord_day hmay hj]
    exact minus_any P D p d (ordL b s l k j) (catW b s l k (j + 4)) W hP hD (by have := HQL.out j; omega) (by have := HLL.out (j + 4); omega)
  rw [wparts_is b]
  have FY := Lib.hid (Fits.of_plain PY)
  have FN := Lib.hid (Fits.of_plain PN)
  have HLF : Hid (∀ j, Fits (catW b s l k j)) := fun j => Fits.of_plain (HCP.out j)
  have HQF : Hid (∀ j, Fits (ordL b s l k j)) := fun j => Fits.of_plain (HQP.out j)
  clear HCP HQP PY PN hf hb hmay hF
  generalize catW b s l k = L at *
  generalize ordL b s l k = Q at *
  generalize allYes b s l = YL at *
  generalize allNo b s l = NL at *
  have eg : ∀ args W, (callFunc 26 args).run Tryz.prog W = .ok (.enter 26 args) W := enters_of Tryz.func26 (by kernel_rfl) rfl
  obtain ⟨w2, hw2⟩ : ∃ W, (w.alloc (.cells cs 30)).alloc (.cells #[.slice none 0 0] 32) = W := ⟨_, rfl⟩
  have b2 : Below w.heap.size w w2 := by rw [← hw2]; exact bel_alloc (bel_alloc (Below.refl _ _) _) _
  have HG2 : Hid (Has w2 w.heap.size cs) := by show Has _ _ _; rw [← hw2]; exact (Has.new w _ _ rfl).alloc _
  have hp2 : Has w2 (w.heap.size + 1) #[.slice none 0 0] := by rw [← hw2]; exact Has.new _ _ _ (by simp)
  have hz2 : w2.heap.size = w.heap.size + 2 := by rw [← hw2]; simp
  obtain ⟨gP, hgP⟩ : ∃ g, w.heap.size + 1 = g := ⟨_, rfl⟩
  rw [hgP] at hp2
  have hlo : w.heap.size < gP ∧ gP < w2.heap.size := by omega
  have I2 := Lib.hid (show PtI w2.heap.size gP (fun x => x < w2.heap.size ∧ x ≠ gP) [] 0 none 0 w2 from ⟨hp2, TRow.nil _ _, rfl, hlo.2, Nat.le_refl _, fun x hx => ⟨hx.1, hx.2, fun y hy => by cases hy⟩⟩)
  have HS2 := Lib.hid (h.below b2)
  have HX2 := Lib.hid (hs.below b2)
  have HS0 := Lib.hid h
  have HW2 := Lib.hid b2
  clear b2 hp2 hz2 h hs
  go_enter Tryz.func11, Tryz.ntmps11
  go_wp2_with (refine wpList_load_sp (by rfl) _ rfl w.heap.size rfl cs HG2.out HZ.out ?_)
  refine (HPA.out _ HS2.out HX2.out).mono ?_
  rintro e w3 ⟨Y3, y3, N3, n3, rfl, ry, rn, b3⟩
  have I3 := Lib.hid (I2.out.grow b3)
  have HY3 := Lib.hid (ry.spans FY.out)
  have HN3 := Lib.hid (rn.spans FN.out)
  have hy3 : Hid (∀ x, Y3 = some x → w2.heap.size ≤ x.block ∧ x.block < w3.heap.size) := fun x hx => ry.lt x hx
  have K3 : Hid (Kept (fun x => x < w2.heap.size ∧ x ≠ gP) w2 w3) := Kept.of_below b3 fun x hx => hx.1
  clear ry rn b3 hw2 hgP HS2 HX2 HPA I2
  go_wp2_with fail
  refine (HOW.out _ N3 n3 HN3.out).mono ?_
  rintro e w4 ⟨U4, u4, rfl, ru, b4⟩
  have I4 := Lib.hid (I3.out.grow b4)
  have HU4 := Lib.hid (ru.spans (HLF.out 0))
  have hu4 : Hid (∀ x, U4 = some x → w3.heap.size ≤ x.block ∧ x.block < w4.heap.size) := fun x hx => ru.lt x hx
  have HY4 := Lib.hid (HY3.out.below b4)
  have K4 : Hid (Kept (fun x => x < w2.heap.size ∧ x ≠ gP) w2 w4) := K3.out.on (Kept.of_below b4 fun x hx => Nat.lt_of_lt_of_le hx.1 K3.out.size)
  clear ru b4 HN3 HY3 HOW I3
  go_wp2_with fail
  refine (put_c 0 U4 _ u4 (L 0) gP w2.heap.size _ [] 0 none 0 w4 I4.out HU4.out (fun x hx => .inr (hu4.out x hx)) rfl (by have := HLL.out 0; omega)).mono ?_
  rintro e w5 ⟨rfl, k5, A5, c5, I5⟩
  have I5 := Lib.hid I5
  have HY5 := Lib.hid (spans_kept HY4.out k5 fun x hx => .inl (.inr (hy3.out x hx)))
  have K5 : Hid (Kept (fun x => x < w2.heap.size ∧ x ≠ gP) w2 w5) := K4.out.on (k5.less fun x hx => .inl (.inl hx))
  clear k5 K3 K4 HY4 HU4 hu4 I4 hy3
  obtain ⟨w6, hw6⟩ : ∃ W, w5.alloc (.cells #[.slice none 0 0, .slice none 0 0, .slice none 0 0] 62) = W := ⟨_, rfl⟩
  have b6 : Below w5.heap.size w5 w6 := by rw [← hw6]; exact bel_alloc (Below.refl _ _) _
  obtain ⟨g6, hg6⟩ : ∃ g, w5.heap.size = g := ⟨_, rfl⟩
  have HT6 : Hid (Has w6 g6 #[.slice none 0 0, .slice none 0 0, .slice none 0 0]) := by show Has _ _ _; rw [← hw6]; exact Has.new _ _ _ hg6
  have hg6z : g6 < w6.heap.size := HT6.out.size
  have K6 : Hid (Kept (fun x => x < w2.heap.size ∧ x ≠ gP) w2 w6) := K5.out.on (Kept.of_below b6 fun x hx => Nat.lt_of_lt_of_le hx.1 K5.out.size)
  have HWK : Hid (∀ W, Kept (fun x => x < w2.heap.size ∧ x ≠ gP) w2 W → Below w.heap.size w W) := fun W hW => HW2.out.trans (hW.below fun i hi => ⟨by omega, by omega⟩)
  have HG6 := Lib.hid (HG2.out.kept (F := fun x => x < w2.heap.size ∧ x ≠ gP) ⟨by omega, by omega⟩ K6.out)
  have HS6 := Lib.hid (HS0.out.below (HWK.out _ K6.out))
  have HY6 := Lib.hid (HY5.out.below b6)
  have HB6 := Lib.hid b6
  clear b6 HY5 HW2
  go_wp2_with (refine wpList_load_sp (by rfl) _ rfl w.heap.size rfl cs HG6.out HZ.out ?_)
  clear hw6
  refine (HOF.out _ Y3 y3 HS6.out HY6.out).mono ?_
  rintro e w7 ⟨P0, p0, P1, p1, P2, p2, rfl, r0, r1, r2, b7⟩
  have HT7 := Lib.hid (HT6.out.below b7)
  have q0 := HT7.out.cell 0 rfl
  have q1 := HT7.out.cell 1 rfl
  have q2 := HT7.out.cell 2 rfl
  have f0 := HT7.out.frozen 0
  have f1 := HT7.out.frozen 1
  have f2 := HT7.out.frozen 2
  have z7 := cell_lt q0
  obtain ⟨w8, hw8⟩ : ∃ W, ((w7.setCell ⟨g6, 0, none⟩ (.slice P0 (Q 0).length p0)).setCell ⟨g6, 1, none⟩ (.slice P1 (Q 1).length p1)).setCell ⟨g6, 2, none⟩ (.slice P2 (Q 2).length p2) = W := ⟨_, rfl⟩
  have HT8 : Hid (Has w8 g6 #[.slice P0 (Q 0).length p0, .slice P1 (Q 1).length p1, .slice P2 (Q 2).length p2]) := by
    show Has _ _ _
    rw [← hw8]
    exact ((HT7.out.set 0 _).set 1 _).set 2 _
  have b8 : Below w5.heap.size w5 w8 := by
    rw [← hw8]
    exact bel_set (bel_set (bel_set (bel_on HB6.out b7) (by show _ ≤ g6; omega) _) (by show _ ≤ g6; omega) _) (by show _ ≤ g6; omega) _
  have hkp : Hid (∀ (P : Option Addr) (p : Nat) (xs : List (Int × Int)), Row w7 w6.heap.size P p xs → Row w8 w6.heap.size P p xs) := fun P p xs hr => by
    rw [← hw8]
    have : ∀ x, P = some x → x.block ≠ g6 := fun x hx => by have := (hr.lt x hx).1; omega
    exact ((hr.far (p := ⟨g6, 0, none⟩) this _).far (p := ⟨g6, 1, none⟩) this _).far (p := ⟨g6, 2, none⟩) this _
  have HX0 := Lib.hid ((hkp.out _ _ _ r0).spans (HQF.out 0))
  have HX1 := Lib.hid ((hkp.out _ _ _ r1).spans (HQF.out 1))
  have HX2 := Lib.hid ((hkp.out _ _ _ r2).spans (HQF.out 2))
  have I8 := I5.out.grow b8
  have K8 : Hid (Kept (fun x => x < w2.heap.size ∧ x ≠ gP) w2 w8) := K5.out.on (Kept.of_below b8 fun x hx => Nat.lt_of_lt_of_le hx.1 I5.out.hi)
  have hb65 : w5.heap.size ≤ w6.heap.size := HB6.out.size
  obtain ⟨GG, hGG⟩ : ∃ G : Nat → Prop, Grow (Grow (Grow (fun x => x < w2.heap.size ∧ x ≠ gP) w2 w3) w3 w4) w5 w8 = G := ⟨_, rfl⟩
  rw [hGG] at I8
  have HGA : Hid (∀ x, x < w2.heap.size → x ≠ gP → GG x) := fun x h1 h2 => by rw [← hGG]; exact .inl (.inl (.inl ⟨h1, h2⟩))
  have HG0 : Hid (∀ x, P0 = some x → GG x.block) := fun x hx => by rw [← hGG]; exact .inr ⟨by have := ((hkp.out _ _ _ r0).lt x hx).1; omega, ((hkp.out _ _ _ r0).lt x hx).2⟩
  have HG1 : Hid (∀ x, P1 = some x → GG x.block) := fun x hx => by rw [← hGG]; exact .inr ⟨by have := ((hkp.out _ _ _ r1).lt x hx).1; omega, ((hkp.out _ _ _ r1).lt x hx).2⟩
  have HG2' : Hid (∀ x, P2 = some x → GG x.block) := fun x hx => by rw [← hGG]; exact .inr ⟨by have := ((hkp.out _ _ _ r2).lt x hx).1; omega, ((hkp.out _ _ _ r2).lt x hx).2⟩
  have HI8 : Hid (PtI w2.heap.size gP GG (rawP L 0) (0 + (L 0).length) A5 c5 w8) := I8
  clear r0 r1 r2 b7 hkp b8 I8 I5 HT6 HT7 HB6 HY6 HS6 HG6 K6 K5 hGG HOF
  go_wp2_with (first | refine wpList_loadT rfl _ rfl g6 rfl _ HT8.out rfl ?_)
  clear hw8
  go_loopg [40] 3 (fun kx s40 wr => ∃ (i n' c' : Nat) (A' : Option Addr), s40 = .int .i64 i ∧ i + kx = 3 ∧ n' ≤ (1 + 2 * i) * 32054401 ∧ Hid (PtI w2.heap.size gP GG (rawP L i) n' A' c' wr) ∧ Hid (Kept GG w8 wr))
  case atStart => exact ⟨0, 0 + (L 0).length, c5, A5, rfl, by omega, by have := HLL.out 0; omega, HI8, Lib.hid (Kept.refl _ _)⟩
  case round =>
    obtain ⟨i, n', c', A', rfl, hi, hn', HP, HK⟩ := hrel
    have HKW : Hid (Kept (fun x => x < w2.heap.size ∧ x ≠ gP) w2 wr) := K8.out.on (HK.out.less fun x hx => HGA.out x hx.1 hx.2)
    have HGr := Lib.hid (HG2.out.kept (F := fun x => x < w2.heap.size ∧ x ≠ gP) ⟨by omega, by omega⟩ HKW.out)
    have HSr := Lib.hid (HS0.out.below (HWK.out _ HKW.out))
    have h4 : i = 0 ∨ i = 1 ∨ i = 2 ∨ i = 3 := by omega
    rcases h4 with rfl | rfl | rfl | rfl
    · have HXr := Lib.hid (spans_kept HX0.out HK.out HG0.out)
      clear HX1 HG1 HX2 HG2' HT8 HI8 HSRT
      have ix : ∀ W, (Instr.index 62 (.agg #[.slice P0 (Q 0).length p0, .slice P1 (Q 1).length p1, .slice P2 (Q 2).length p2]) (.int .i64 0)).run Tryz.prog W = .ok (.slice P0 (Q 0).length p0) W := fun _ => by kernel_rfl
      go_wp2_with (refine wpList_load_sp (by rfl) _ rfl w.heap.size rfl cs HGr.out HZ.out ?_)
      refine (HNG.out 0 (by omega) _ P0 p0 HSr.out HXr.out).mono ?_
      rintro e wa ⟨D, dc, rfl, rd, ba⟩
      have IA := Lib.hid (HP.out.grow ba)
      have HDa := Lib.hid (rd.spans (HLF.out (0 + 4)))
      have hda : Hid (∀ x, D = some x → wr.heap.size ≤ x.block ∧ x.block < wa.heap.size) := fun x hx => rd.lt x hx
      have HXa := Lib.hid (HXr.out.below ba)
      have Ka : Hid (Kept GG w8 wa) := HK.out.on (Kept.of_below ba fun x hx => (HP.out.far x hx).1)
      clear rd ba HXr HK HP HSr HGr HKW
      go_wp2_with fail
      refine (HMN.out 0 (by omega) _ P0 p0 D dc HXa.out HDa.out).mono ?_
      rintro e wb ⟨E, ec, rfl, re, bb⟩
      have IB := Lib.hid (IA.out.grow bb)
      have HEb := Lib.hid (re.spans (HLF.out (0 + 1)))
      have heb : Hid (∀ x, E = some x → wa.heap.size ≤ x.block ∧ x.block < wb.heap.size) := fun x hx => re.lt x hx
      have HDb := Lib.hid (HDa.out.below bb)
      have Kb : Hid (Kept GG w8 wb) := Ka.out.on (Kept.of_below bb fun x hx => (IA.out.far x (.inl hx)).1)
      clear re bb HXa HDa IA Ka
      go_wp2_with fail
      refine (put_c (((0 : Nat) : Int) + 1) E _ ec (L (0 + 1)) gP w2.heap.size _ (rawP L 0) n' A' c' wb IB.out HEb.out (fun x hx => .inr (heb.out x hx)) rfl (by have := HLL.out (0 + 1); omega)).mono ?_
      rintro e wc ⟨rfl, kc, A2, c2, IC⟩
      have IC := Lib.hid IC
      have HDc := Lib.hid (spans_kept HDb.out kc fun x hx => .inl (.inr (hda.out x hx)))
      have Kc : Hid (Kept GG w8 wc) := Kb.out.on (kc.less fun x hx => .inl (.inl hx))
      clear kc HEb HDb IB Kb heb
      go_wp2_with fail
      refine (put_c (((0 : Nat) : Int) + 4) D _ dc (L (0 + 4)) gP w2.heap.size _ _ _ A2 c2 wc IC.out HDc.out (fun x hx => .inl (.inr (hda.out x hx))) rfl (by have := HLL.out (0 + 1); have := HLL.out (0 + 4); omega)).mono ?_
      rintro e wd ⟨rfl, kd, A3, c3, ID⟩
      have ID := Lib.hid ID
      have Kd : Hid (Kept GG w8 wd) := Kc.out.on (kd.less fun x hx => .inl (.inl hx))
      clear kd HDc IC Kc
      go_wp2
      go_roundg (3 - (0 + 1))
      case measure => omega
      case rel => exact ⟨0 + 1, n' + (L (0 + 1)).length + (L (0 + 4)).length, c3, A3, by go_num, by omega, by have := HLL.out (0 + 1); have := HLL.out (0 + 4); omega, Lib.hid (show PtI w2.heap.size gP GG (rawP L (0 + 1)) _ A3 c3 wd from ID.out.less fun x hx => .inl (.inl hx)), Kd⟩
    · have HXr := Lib.hid (spans_kept HX1.out HK.out HG1.out)
      clear HX0 HG0 HX2 HG2' HT8 HI8 HSRT
      have ix : ∀ W, (Instr.index 62 (.agg #[.slice P0 (Q 0).length p0, .slice P1 (Q 1).length p1, .slice P2 (Q 2).length p2]) (.int .i64 1)).run Tryz.prog W = .ok (.slice P1 (Q 1).length p1) W := fun _ => by kernel_rfl
      go_wp2_with (refine wpList_load_sp (by rfl) _ rfl w.heap.size rfl cs HGr.out HZ.out ?_)
      refine (HNG.out 1 (by omega) _ P1 p1 HSr.out HXr.out).mono ?_
      rintro e wa ⟨D, dc, rfl, rd, ba⟩
      have IA := Lib.hid (HP.out.grow ba)
      have HDa := Lib.hid (rd.spans (HLF.out (1 + 4)))
      have hda : Hid (∀ x, D = some x → wr.heap.size ≤ x.block ∧ x.block < wa.heap.size) := fun x hx => rd.lt x hx
      have HXa := Lib.hid (HXr.out.below ba)
      have Ka : Hid (Kept GG w8 wa) := HK.out.on (Kept.of_below ba fun x hx => (HP.out.far x hx).1)
      clear rd ba HXr HK HP HSr HGr HKW
      go_wp2_with fail
      refine (HMN.out 1 (by omega) _ P1 p1 D dc HXa.out HDa.out).mono ?_
      rintro e wb ⟨E, ec, rfl, re, bb⟩
      have IB := Lib.hid (IA.out.grow bb)
      have HEb := Lib.hid (re.spans (HLF.out (1 + 1)))
      have heb : Hid (∀ x, E = some x → wa.heap.size ≤ x.block ∧ x.block < wb.heap.size) := fun x hx => re.lt x hx
      have HDb := Lib.hid (HDa.out.below bb)
      have Kb : Hid (Kept GG w8 wb) := Ka.out.on (Kept.of_below bb fun x hx => (IA.out.far x (.inl hx)).1)
      clear re bb HXa HDa IA Ka
      go_wp2_with fail
      refine (put_c (((1 : Nat) : Int) + 1) E _ ec (L (1 + 1)) gP w2.heap.size _ (rawP L 1) n' A' c' wb IB.out HEb.out (fun x hx => .inr (heb.out x hx)) rfl (by have := HLL.out (1 + 1); omega)).mono ?_
      rintro e wc ⟨rfl, kc, A2, c2, IC⟩
      have IC := Lib.hid IC
      have HDc := Lib.hid (spans_kept HDb.out kc fun x hx => .inl (.inr (hda.out x hx)))
      have Kc : Hid (Kept GG w8 wc) := Kb.out.on (kc.less fun x hx => .inl (.inl hx))
      clear kc HEb HDb IB Kb heb
      go_wp2_with fail
      refine (put_c (((1 : Nat) : Int) + 4) D _ dc (L (1 + 4)) gP w2.heap.size _ _ _ A2 c2 wc IC.out HDc.out (fun x hx => .inl (.inr (hda.out x hx))) rfl (by have := HLL.out (1 + 1); have := HLL.out (1 + 4); omega)).mono ?_
      rintro e wd ⟨rfl, kd, A3, c3, ID⟩
      have ID := Lib.hid ID
      have Kd : Hid (Kept GG w8 wd) := Kc.out.on (kd.less fun x hx => .inl (.inl hx))
      clear kd HDc IC Kc
      go_wp2
      go_roundg (3 - (1 + 1))
      case measure => omega
      case rel => exact ⟨1 + 1, n' + (L (1 + 1)).length + (L (1 + 4)).length, c3, A3, by go_num, by omega, by have := HLL.out (1 + 1); have := HLL.out (1 + 4); omega, Lib.hid (show PtI w2.heap.size gP GG (rawP L (1 + 1)) _ A3 c3 wd from ID.out.less fun x hx => .inl (.inl hx)), Kd⟩
    · have HXr := Lib.hid (spans_kept HX2.out HK.out HG2'.out)
      clear HX0 HG0 HX1 HG1 HT8 HI8 HSRT
      have ix : ∀ W, (Instr.index 62 (.agg #[.slice P0 (Q 0).length p0, .slice P1 (Q 1).length p1, .slice P2 (Q 2).length p2]) (.int .i64 2)).run Tryz.prog W = .ok (.slice P2 (Q 2).length p2) W := fun _ => by kernel_rfl
      go_wp2_with (refine wpList_load_sp (by rfl) _ rfl w.heap.size rfl cs HGr.out HZ.out ?_)
      refine (HNG.out 2 (by omega) _ P2 p2 HSr.out HXr.out).mono ?_
      rintro e wa ⟨D, dc, rfl, rd, ba⟩
      have IA := Lib.hid (HP.out.grow ba)
      have HDa := Lib.hid (rd.spans (HLF.out (2 + 4)))
      have hda : Hid (∀ x, D = some x → wr.heap.size ≤ x.block ∧ x.block < wa.heap.size) := fun x hx => rd.lt x hx
      have HXa := Lib.hid (HXr.out.below ba)
      have Ka : Hid (Kept GG w8 wa) := HK.out.on (Kept.of_below ba fun x hx => (HP.out.far x hx).1)
      clear rd ba HXr HK HP HSr HGr HKW
      go_wp2_with fail
      refine (HMN.out 2 (by omega) _ P2 p2 D dc HXa.out HDa.out).mono ?_
      rintro e wb ⟨E, ec, rfl, re, bb⟩
      have IB := Lib.hid (IA.out.grow bb)
      have HEb := Lib.hid (re.spans (HLF.out (2 + 1)))
      have heb : Hid (∀ x, E = some x → wa.heap.size ≤ x.block ∧ x.block < wb.heap.size) := fun x hx => re.lt x hx
      have HDb := Lib.hid (HDa.out.below bb)
      have Kb : Hid (Kept GG w8 wb) := Ka.out.on (Kept.of_below bb fun x hx => (IA.out.far x (.inl hx)).1)
      clear re bb HXa HDa IA Ka
      go_wp2_with fail
      refine (put_c (((2 : Nat) : Int) + 1) E _ ec (L (2 + 1)) gP w2.heap.size _ (rawP L 2) n' A' c' wb IB.out HEb.out (fun x hx => .inr (heb.out x hx)) rfl (by have := HLL.out (2 + 1); omega)).mono ?_
      rintro e wc ⟨rfl, kc, A2, c2, IC⟩
      have IC := Lib.hid IC
      have HDc := Lib.hid (spans_kept HDb.out kc fun x hx => .inl (.inr (hda.out x hx)))
      have Kc : Hid (Kept GG w8 wc) := Kb.out.on (kc.less fun x hx => .inl (.inl hx))
      clear kc HEb HDb IB Kb heb
      go_wp2_with fail
      refine (put_c (((2 : Nat) : Int) + 4) D _ dc (L (2 + 4)) gP w2.heap.size _ _ _ A2 c2 wc IC.out HDc.out (fun x hx => .inl (.inr (hda.out x hx))) rfl (by have := HLL.out (2 + 1); have := HLL.out (2 + 4); omega)).mono ?_
      rintro e wd ⟨rfl, kd, A3, c3, ID⟩
      have ID := Lib.hid ID
      have Kd : Hid (Kept GG w8 wd) := Kc.out.on (kd.less fun x hx => .inl (.inl hx))
      clear kd HDc IC Kc
      go_wp2
      go_roundg (3 - (2 + 1))
      case measure => omega
      case rel => exact ⟨2 + 1, n' + (L (2 + 1)).length + (L (2 + 4)).length, c3, A3, by go_num, by omega, by have := HLL.out (2 + 1); have := HLL.out (2 + 4); omega, Lib.hid (show PtI w2.heap.size gP GG (rawP L (2 + 1)) _ A3 c3 wd from ID.out.less fun x hx => .inl (.inl hx)), Kd⟩
    · have pc := HP.out.h.cell 0 rfl
      have pz := cell_lt pc
      go_wp2_with fail
      refine (psort_any A' c' n' w2.heap.size (rawP L 3) wr HP.out.r HP.out.len (by omega)).mono ?_
      rintro e w9 ⟨rfl, ys, hp, hsr, hys, k9⟩
      have ey := HSRT.out ys hp hsr
      have h9 := HP.out.h.kept (F := fun x => x < wr.heap.size ∧ ∀ y, A' = some y → y.block ≠ x) ⟨HP.out.h.size, fun y hy => by have := (HP.out.r.lt y hy).1; omega⟩ k9
      have pc9 := h9.cell 0 rfl
      have pz9 := cell_lt pc9
      have HE : Hid (TellP w (catsP L 7) (.returned (.slice A' n' c')) w9) := by
        rw [ey] at hys
        have k := HKW.out.on (k9.less (G := fun x => x < w2.heap.size ∧ x ≠ gP) fun x hx => ⟨Nat.lt_of_lt_of_le hx.1 HP.out.hi, fun y hy => by have := (HP.out.r.lt y hy).1; omega⟩)
        have cp := qrow_caps HP.out.r
        exact ⟨A', n', c', rfl, hys, cp.1, cp.2, HWK.out _ k⟩
      clear hp hsr hys k9 ey h9 HSRT
      go_wp2
      go_ret
      exact HE.out
end Go.Proofs.YtdlimgpmmkcgmaaGreat
