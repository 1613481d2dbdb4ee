/-
  The library's stable sort, at events, of any number; event.Sort.
  Few lists' members; event.Put and event.Take, each in one form; setups' cells as they are asked here.
  An element of a slice of events is read; lumperref08.Same.
  What a call may change: blocks that are kept, and blocks that may change. Over any program.
  The contracts of package ratio's functions, continued: Check, and all that stands on it.
-/
import Derived.Test.YtgfomfioagblfaaEvSym
import Derived.Test.YtgfomfioagblfaaZai
import Derived.Test.YtgfomfioagblfaaZah
import Derived.Test.YtgfomfioagblfaaZaa
import Derived.StillTailTactics
import Derived.Test.YtgfomfioagblfaaProg
import Derived.RowKit
import Derived.IntWalk
import Derived.WalkKit
import Derived.WalkLawsBesides
import Derived.Below
import Derived.RegionTactic
import Derived.Deep.QuietTactic
import Derived.BigQuiet
import Derived.Lib.Hide
import Derived.Laws.Rows
import Derived.Test.YtgfomfioagblfaaZac
import Derived.Shelf.Abstract
import Derived.Deep.Light
namespace Go.Proofs.Ytgfomfioagblfaa
open Go.RowKit Go.Sort
set_option linter.unusedVariables false
set_option linter.unusedSimpArgs false
set_option maxRecDepth 1000000

theorem grown_on {w w' w'' : World} {o : Option Nat} (h : w.grownBy w' o) (k : w'.grownBy w'' o) : w.grownBy w'' o := by
  obtain ⟨a1, a2, a3, a4, a5⟩ := h
  obtain ⟨b1, b2, b3, b4, b5⟩ := k
  exact ⟨b1.trans a1, b2.trans a2, b3.trans a3, Nat.le_trans a4 b4, fun q hq hne => (b5 q (Nat.lt_of_lt_of_le hq a4) hne).trans (a5 q hq hne)⟩
theorem grown_refl (w : World) (o : Option Nat) : w.grownBy w o := ⟨rfl, rfl, rfl, Nat.le_refl _, fun _ _ _ => rfl⟩
theorem grown_size {w w' : World} {o : Option Nat} (h : w.grownBy w' o) : w.heap.size ≤ w'.heap.size := by
  obtain ⟨a1, a2, a3, a4, a5⟩ := h
  exact a4
theorem sym_h (g cap N a m b : Nat) (P X Y T : List EvP) (d : Array EvP) (w : World) (hH : HoldE w g d) (hg : g < w.heap.size) (hN : d.size = N) (hsz : N ≤ 1000000) (hd : d.toList = P ++ ((X ++ Y) ++ T)) (hP : P.length = a) (hX : a + X.length = m) (hY : m + Y.length = b) (h1 : a < m) (h2 : m < b) (hrX : Risen X) (hrY : Risen Y) :
    Calls Try.prog 43 #[.slice (some ⟨g, 0, none⟩) N cap, .int .i64 a, .int .i64 m, .int .i64 b, cmpV] w fun e w' => e = .returned (.tuple #[]) ∧ ∃ d' : Array EvP, d'.toList = P ++ (sortE (X ++ Y) ++ T) ∧ HoldE w' g d' ∧ w.grownBy w' (some g) := by
  refine (sym_any 11 rfl g cap N d w ⟨encE_len, encE_one, hH, hg⟩ hN hsz (b - a) a m b h1 h2 (Nat.le_refl _) P X Y T d w hd hP hX hY hrX hrY hN (SWK.start hH)).mono ?_
  rintro e w' ⟨rfl, d', h, S⟩
  have hs : d'.size = d.size := by
    rw [swk_size (w0 := w) (w := w) (g := g) h, swk_size (w0 := w) (w := w) (g := g) hd]
    simp only [List.length_append, sortE_len]
  refine ⟨rfl, d', h, S.holds hg hH hs, ?_⟩
  obtain ⟨n, os, rfl⟩ := S
  exact grown_sort
theorem ins_l (g cap N a b : Nat) (P X T : List EvP) (d : Array EvP) (w : World) (hH : HoldE w g d) (hg : g < w.heap.size) (hN : d.size = N) (hsz : N ≤ 1000000) (hd : d.toList = P ++ (X ++ T)) (hP : P.length = a) (hX : a + X.length = b) :
    Calls Try.prog 42 #[.slice (some ⟨g, 0, none⟩) N cap, .int .i64 a, .int .i64 b, cmpV] w fun e w' => e = .returned (.tuple #[]) ∧ ∃ d' : Array EvP, d'.toList = P ++ (sortE X ++ T) ∧ HoldE w' g d' ∧ w.grownBy w' (some g) := by
  have hl : P.length + (X.length + T.length) = N := by
    rw [← hN, swk_size (w0 := w) (w := w) (g := g) hd]
    simp only [List.length_append]
  refine (ins_any g cap a b N d w hH hg hN (by omega) (by omega) (by omega)).mono ?_
  rintro e w' ⟨rfl, h, hgr⟩
  exact ⟨rfl, _, mrg_list (ins_mrg d a b (by omega) (by omega)) hd hP hX, h, hgr⟩
set_option maxHeartbeats 16000000 in
theorem stable_any (g cap n : Nat) (d : Array EvP) (l : List EvP) (w : World) (hH : HoldE w g d) (hg : g < w.heap.size) (hn : d.size = n) (hsz : n ≤ 1000000) (hl : d.toList = l) (h20 : 20 ≤ n) :
    Calls Try.prog 39 #[.slice (some ⟨g, 0, none⟩) n cap, .int .i64 n, cmpV] w fun e w' => e = .returned (.tuple #[]) ∧ ∃ d' : Array EvP, HoldE w' g d' ∧ w.grownBy w' (some g) ∧ d'.toList = sortE l := by
  have hln : l.length = n := by rw [← hl, ← hn]; simp
  have HLN := Lib.hid hln
  have H0 := Lib.hid hH
  have HL := Lib.hid hl
  have HINS := Lib.hid (fun (a b : Nat) (P X T : List EvP) (d : Array EvP) (w : World) hH hg hN hd hP hX => ins_l g cap n a b P X T d w hH hg hN hsz hd hP hX)
  have HSYM := Lib.hid (fun (a m b : Nat) (P X Y T : List EvP) (d : Array EvP) (w : World) hH hg hN hd hP hX hY h1 h2 hrX hrY => sym_h g cap n a m b P X Y T d w hH hg hN hsz hd hP hX hY h1 h2 hrX hrY)
  clear hH hl hln
  generalize cmpV = cv at *
  go_enter Try.func39, Try.ntmps39
  go_wp2
  go_loopg [7, 8] n (fun kx s7 s8 wr => ∃ (a : Nat) (C r : List EvP) (dk : Array EvP), s7 = .int .i64 a ∧ s8 = .int .i64 ((a + 20 : Nat) : Int) ∧ C.length = a ∧ a + r.length = n ∧ n - a ≤ kx ∧ dk.size = n ∧ Hid (dk.toList = C ++ r) ∧ Hid (chs 20 l = C ++ chs 20 r) ∧ Hid (HoldE wr g dk) ∧ Hid (w.grownBy wr (some g)))
  case atStart => exact ⟨0, [], l, d, rfl, rfl, rfl, by have := HLN.out; omega, by omega, hn, HL, rfl, H0, Lib.hid (grown_refl _ _)⟩
  case round =>
    clear H0 HL
    obtain ⟨a, C, r, dk, rfl, rfl, hC, hr, hkx, hdk, HD, HCH, HH, HG⟩ := hrel
    have hgr : g < wr.heap.size := Nat.lt_of_lt_of_le hg (grown_size HG.out)
    by_cases hb : a + 20 ≤ n
    · have hb2 : ((a + 20 : Nat) : Int) ≤ (n : Int) := by omega
      obtain ⟨B, r', rfl, hB⟩ := cut_at r 20 (by omega)
      rw [List.length_append] at hr
      have HC := Lib.hid (HINS.out a (a + 20) C B r' dk wr HH.out hgr hdk HD.out hC (by omega))
      have HCH2 := Lib.hid (HCH.out.trans (by rw [chs_step B r' (by omega) hB]))
      clear HCH
      go_wp2_with fail
      refine HC.out.mono ?_
      rintro e w5 ⟨rfl, d5, h5, hH5, hg5⟩
      have hsz5 : d5.size = n := by rw [swk_size (w0 := w) (w := w) (g := g) h5]; simp only [List.length_append, sortE_len]; omega
      have H5 := Lib.hid h5
      clear h5 HC
      go_wp2
      go_roundg (n - (a + 20))
      case measure => omega
      case rel => exact ⟨a + 20, C ++ sortE B, r', d5, rfl, by first | rfl | exact congrArg (Value.int .i64) (by omega), by rw [List.length_append, sortE_len]; omega, by omega, Nat.le_refl _, hsz5, Lib.hid (by rw [H5.out]; simp), Lib.hid (by rw [HCH2.out]; simp), Lib.hid hH5, Lib.hid (grown_on HG.out hg5)⟩
    · have hb2 : ¬ ((a + 20 : Nat) : Int) ≤ (n : Int) := by omega
      have HC := Lib.hid (HINS.out a n C r [] dk wr HH.out hgr hdk (by rw [HD.out]; simp) hC hr)
      have HCH2 := Lib.hid (HCH.out.trans (by rw [chs_few r (by omega) (by omega)]))
      clear HCH
      go_wp2_with fail
      refine HC.out.mono ?_
      rintro e w5 ⟨rfl, d5, h5, hH5, hg5⟩
      rw [List.append_nil, ← HCH2.out] at h5
      have hsz5 : d5.size = n := by rw [swk_size (w0 := w) (w := w) (g := g) h5, chs_len 20 (by omega) _ l (Nat.le_refl _)]; exact HLN.out
      have H5 := Lib.hid h5
      have HG5 := Lib.hid (grown_on HG.out hg5)
      have HH5 := Lib.hid hH5
      clear h5 HC HCH2 HD HH HG hg5 hH5 hC hr hkx hdk hgr hb hb2
      go_wp2
      go_loopg [6, 7, 8, 9] (n - 20) (fun kx s6 s7 s8 s9 wr => ∃ (bs : Nat) (dk : Array EvP), s6 = .int .i64 bs ∧ 20 ≤ bs ∧ bs ≤ 2000000 ∧ n - bs ≤ kx ∧ dk.size = n ∧ Hid (dk.toList = chs bs l) ∧ Hid (HoldE wr g dk) ∧ Hid (w.grownBy wr (some g)))
      case atStart => exact ⟨20, d5, rfl, by omega, by omega, by omega, hsz5, H5, HH5, HG5⟩
      case round =>
        clear H5 HH5 HG5
        obtain ⟨bs, dk, rfl, hbs, hbs2, hkx, hdk, HD, HH, HG⟩ := hrel
        by_cases hlt : bs < n
        · have hlt2 : (bs : Int) < (n : Int) := by omega
          go_wp2
          go_loopg [7, 8] n (fun kx s7 s8 wr => ∃ (a : Nat) (C r : List EvP) (dk : Array EvP), s7 = .int .i64 a ∧ s8 = .int .i64 ((a + 2 * bs : Nat) : Int) ∧ C.length = a ∧ a + r.length = n ∧ n - a ≤ kx ∧ dk.size = n ∧ Hid (dk.toList = C ++ chs bs r) ∧ Hid (chs (2 * bs) l = C ++ chs (2 * bs) r) ∧ Hid (HoldE wr g dk) ∧ Hid (w.grownBy wr (some g)))
          case atStart => exact ⟨0, [], l, dk, rfl, by first | rfl | exact congrArg (Value.int .i64) (by omega), rfl, by have := HLN.out; omega, by omega, hdk, HD, rfl, HH, HG⟩
          case round =>
            have hk0 := hkx
            clear HD HH HG hdk hkx
            obtain ⟨a, C, r, dj, rfl, rfl, hC, hr, hkx, hdj, HD, HCH, HH, HG⟩ := hrel
            have hgr : g < wr.heap.size := Nat.lt_of_lt_of_le hg (grown_size HG.out)
            by_cases hb : a + 2 * bs ≤ n
            · have hb2 : ((a + 2 * bs : Nat) : Int) ≤ (n : Int) := by omega
              obtain ⟨B1, r1, rfl, hB1⟩ := cut_at r bs (by omega)
              rw [List.length_append] at hr
              obtain ⟨B2, r', rfl, hB2⟩ := cut_at r1 bs (by omega)
              rw [List.length_append] at hr
              obtain ⟨k1, k2⟩ := chs_two B1 B2 r' (by omega) hB1 hB2
              have hlr : (chs bs r').length = r'.length := chs_len bs (by omega) _ _ (Nat.le_refl _)
              have hcall := HSYM.out a (a + bs) (a + 2 * bs) C (sortE B1) (sortE B2) (chs bs r') dj wr HH.out hgr hdj (by rw [HD.out, k1]; simp) hC (by rw [sortE_len]; omega) (by rw [sortE_len]; omega) (by omega) (by omega) (ev_sort_risen _) (ev_sort_risen _)
              rw [show ((a + bs : Nat) : Int) = (a : Int) + (bs : Int) by omega] at hcall
              have HC := Lib.hid hcall
              have HCH2 := Lib.hid (HCH.out.trans (by rw [k2]))
              clear HCH k1 k2 hcall
              go_wp2_with fail
              refine HC.out.mono ?_
              rintro e w5 ⟨rfl, d5, h5, hH5, hg5⟩
              have hsz5 : d5.size = n := by rw [swk_size (w0 := w) (w := w) (g := g) h5]; simp only [List.length_append, sortE_len]; omega
              have H5 := Lib.hid h5
              clear h5 HC
              go_wp2
              go_roundg (n - (a + 2 * bs))
              case measure => omega
              case rel => exact ⟨a + 2 * bs, C ++ sortE (sortE B1 ++ sortE B2), r', d5, rfl, by first | rfl | exact congrArg (Value.int .i64) (by omega), by simp only [List.length_append, sortE_len]; omega, by omega, Nat.le_refl _, hsz5, Lib.hid (by rw [H5.out]; simp), Lib.hid (by rw [HCH2.out]; simp), Lib.hid hH5, Lib.hid (grown_on HG.out hg5)⟩
            · have hb2 : ¬ ((a + 2 * bs : Nat) : Int) ≤ (n : Int) := by omega
              by_cases hm : a + bs < n
              · have hm2 : (a : Int) + (bs : Int) < (n : Int) := by omega
                obtain ⟨B1, B2, rfl, hB1⟩ := cut_at r bs (by omega)
                rw [List.length_append] at hr
                obtain ⟨k1, k2⟩ := chs_rest B1 B2 (by omega) hB1 (by omega)
                have hcall := HSYM.out a (a + bs) n C (sortE B1) (sortE B2) [] dj wr HH.out hgr hdj (by rw [HD.out, k1]; simp) hC (by rw [sortE_len]; omega) (by rw [sortE_len]; omega) (by omega) (by omega) (ev_sort_risen _) (ev_sort_risen _)
                rw [show ((a + bs : Nat) : Int) = (a : Int) + (bs : Int) by omega] at hcall
                have HC := Lib.hid hcall
                have HCH2 := Lib.hid (HCH.out.trans (by rw [k2]))
                clear HCH k1 k2 hcall
                go_wp2_with fail
                refine HC.out.mono ?_
                rintro e w5 ⟨rfl, d5, h5, hH5, hg5⟩
                rw [List.append_nil, ← HCH2.out] at h5
                have hsz5 : d5.size = n := by rw [swk_size (w0 := w) (w := w) (g := g) h5, chs_len (2 * bs) (by omega) _ l (Nat.le_refl _)]; exact HLN.out
                have H5 := Lib.hid h5
                clear h5 HC HCH2
                go_wp2
                go_roundg (n - 2 * bs)
                case measure => omega
                case rel => exact ⟨2 * bs, d5, by first | rfl | exact congrArg (Value.int .i64) (by omega), by omega, by omega, Nat.le_refl _, hsz5, H5, Lib.hid hH5, Lib.hid (grown_on HG.out hg5)⟩
              · have hm2 : ¬ (a : Int) + (bs : Int) < (n : Int) := by omega
                have H5 : Hid (dj.toList = chs (2 * bs) l) := Lib.hid (by rw [HD.out, HCH.out, chs_few r (by omega) (by omega), chs_few r (by omega) (by omega)])
                clear HCH HD
                go_wp2
                go_roundg (n - 2 * bs)
                case measure => omega
                case rel => exact ⟨2 * bs, dj, by first | rfl | exact congrArg (Value.int .i64) (by omega), by omega, by omega, Nat.le_refl _, hdj, H5, HH, HG⟩
        · have hlt2 : ¬ (bs : Int) < (n : Int) := by omega
          have hfin := HD.out
          rw [chs_few l (by omega) (by have := HLN.out; omega)] at hfin
          go_wp2
          go_end0
          exact ⟨rfl, dk, HH.out, HG.out, hfin⟩
/-- event.Sort. -/
theorem sort_any (A : Option Addr) (n c : Nat) (l : List EvP) (W : World) (h : Evs W A n c l) (hm : n ≤ 1000000) :
    Calls Try.prog 15 #[.slice A n c] W fun e w' => ∃ A' c', e = .returned (.slice A' n c') ∧ Below W.heap.size W w' ∧ Evs w' A' n c' (sortE l) := by
  by_cases h20 : n < 20
  · exact sort_few A n c l W h h20
  · have hln := h.2
    exact sort_of A n c l W h hm (fun g c' w h0 hH hgl => stable_any g c' n l.toArray l w hH hgl (by simpa using hln) hm (by simp) (by omega))
end Go.Proofs.Ytgfomfioagblfaa

namespace Go.Proofs.Ytgfomfioagblfaa
open Go.RowKit
set_option linter.unusedVariables false
set_option linter.unusedSimpArgs false
set_option maxRecDepth 20000

def mxE (x y : Int) : Int := if y > x then y else x
theorem run_max6E {P : Program} {w : World} (ts : Array TypeId) (t : TypeId) (a b c d e f : Int) : (Builtin.max_ ts t #[.int .i64 a, .int .i64 b, .int .i64 c, .int .i64 d, .int .i64 e, .int .i64 f]).run P w = .ok (.int .i64 (mxE (mxE (mxE (mxE (mxE a b) c) d) e) f)) w := by
  simp [Builtin.max_, Builtin.max2, mxE]
theorem wpList_max6E {P : Program} {ops : Array Oper} {rest : List Oper} {o : Oper} {a : Act} {w : World} {Q : Exit → Act → World → Prop} {x1 x2 x3 x4 x5 x6 : Operand} {ts : Array TypeId} (n1 n2 n3 n4 n5 n6 : Int) (hgd : o.guard = none)
    (ho : o.op = .call { callee := .builtin .max, args := #[x1, x2, x3, x4, x5, x6], argTypes := ts }) (h1 : a.eval x1 = .int .i64 n1) (h2 : a.eval x2 = .int .i64 n2) (h3 : a.eval x3 = .int .i64 n3) (h4 : a.eval x4 = .int .i64 n4) (h5 : a.eval x5 = .int .i64 n5) (h6 : a.eval x6 = .int .i64 n6)
    (m : Int) (hm : mxE (mxE (mxE (mxE (mxE n1 n2) n3) n4) n5) n6 = m)
    (h : wpList P ops Q rest (a.put o.dst (.int .i64 m)) w) : wpList P ops Q (o :: rest) a w := by
  refine wpList_plain hgd fun K hK => ?_
  unfold Oper.wp execOp
  simp only [ho, resolve, invoke, builtin, Sem.run_bind, Sem.run_pure, Result.andThen_ok, List.map_toArray, List.map_cons, List.map_nil, h1, h2, h3, h4, h5, h6, run_max6E, hm]
  exact hK _ _ h
/-- What these laws ask of a setup's cells. -/
structure SetQ (cs : Array Value) (pl : Int) (nE nC nG nR : Nat) : Prop extends SetS cs pl nE nC nG nR where
  c1 : ∃ A n c, cs[1]? = some (.slice A n c)
  c22 : ∃ A n c, cs[22]? = some (.slice A n c)
theorem setQ_of (s : SetP) (A1 A2 A3 A4 A5 A6 : Option Addr) (c1 c2 c3 c4 c5 c6 : Nat) : ∃ cs, setV s A1 A2 A3 A4 A5 A6 c1 c2 c3 c4 c5 c6 = .agg cs ∧ SetQ cs s.places s.elements.length s.classes.length s.gears.length s.rates.length :=
  ⟨_, rfl, ⟨⟨rfl, by simp [Value.oneCell'], rfl, ⟨_, _, rfl⟩, ⟨_, _, rfl⟩, ⟨_, _, rfl⟩, ⟨_, _, rfl⟩⟩, ⟨_, _, _, rfl⟩, ⟨_, _, _, rfl⟩⟩⟩
def SomeBool (W : World) (e : Ending) (w : World) : Prop := ∃ b, e = .returned (.bool b) ∧ Below W.heap.size W w
set_option maxHeartbeats 1000000 in
theorem few_q {cs : Array Value} {pl : Int} {nE nC nG nR : Nat} (h : SetQ cs pl nE nC nG nR) (W : World) : Calls Try.prog 17 #[.agg cs] W (SomeBool W) := by
  obtain ⟨A1, n1, c1, h1⟩ := h.c1
  obtain ⟨A4, c4, h4⟩ := h.c4
  obtain ⟨A5, c5, h5⟩ := h.c5
  obtain ⟨A6, c6, h6⟩ := h.c6
  obtain ⟨A18, c18, h18⟩ := h.c18
  obtain ⟨A22, n22, c22, h22⟩ := h.c22
  have HO := Lib.hid h.one
  have HZ := Lib.hid h.size
  obtain ⟨m, hm⟩ : ∃ m, mxE (mxE (mxE (mxE (mxE n1 nE) nC) nG) nR) n22 = m := ⟨_, rfl⟩
  have HM := Lib.hid hm
  clear h hm
  go_enter Try.func17, Try.ntmps17
  go_wp2_with (refine wpList_max6E _ _ _ _ _ _ rfl rfl rfl rfl rfl rfl rfl rfl m HM.out ?_)
  go_ret
  exact ⟨_, rfl, by (repeat' (first | with_reducible exact Below.refl _ _ | with_reducible assumption | with_reducible refine bel_alloc ?_ _ | with_reducible refine bel_set ?_ ?_ _ | with_reducible refine below_drewN ?_ _ | with_reducible refine below_drew ?_ | (simp; done) | (simp; omega) | omega))⟩
theorem few8 {cs : Array Value} {pl : Int} {nE nC nG nR : Nat} (h : SetQ cs pl nE nC nG nR) (W : World) : Calls Try.prog 5 #[.agg cs] W (SomeBool W) := by
  have HF := Lib.hid (fun W => few_q h W)
  have HZ := Lib.hid h.size
  clear h
  go_enter Try.func5, Try.ntmps5
  go_wp2_with (refine wpList_load_s (by rfl) _ rfl W.heap.size rfl cs (Has.new W _ cs rfl) HZ.out ?_)
  refine (HF.out _).mono ?_
  rintro e w1 ⟨b, rfl, hb⟩
  go_wp2
  go_ret
  exact ⟨b, rfl, bel_new (Below.refl _ _) (by simpa using hb)⟩
/-! ### Put and Take, whatever they answer -/
open Classical in
noncomputable def putR8 (xs : List (BitVec 8)) (e : EvP) : List (BitVec 8) × Int := if e.Fair then (xs ++ e.bytes, 0) else ([], 80)
noncomputable def takeR8 (b : List (BitVec 8)) : EvP × List (BitVec 8) × Int := match takeE b with
  | none => (EvP.none, [], 80)
  | some x => (x.1, x.2, 0)
theorem put_un8 (A0 : Option Addr) (m0 c0 : Nat) (xs : List (BitVec 8)) (e : EvP) (ca : Array Value) (hca : evC e = ca) (hi : e.In) (hm : m0 ≤ 100000000000) (X : List (BitVec 8)) (E : Int) (n : Nat) (hX : putR8 xs e = (X, E)) (hn : X.length = n) (W : World) (hx : Sl 1 W A0 m0 c0 (bytesV xs)) :
    Calls Try.prog 6 #[.slice A0 m0 c0, .agg ca] W fun r w' => ∃ A' c', r = .returned (.tuple #[.slice A' n c', .int .i64 E]) ∧ Sl 1 w' A' n c' (bytesV X) ∧ n ≤ c' ∧ Below W.heap.size W w' := by
  subst hca
  unfold putR8 at hX
  by_cases hf : e.Fair
  · rw [if_pos hf] at hX
    injection hX with h1 h2
    subst h2
    have hl := hx.blen
    refine (putE_ok_n A0 m0 c0 n xs e W hf hx hm (by rw [← hn, ← h1, List.length_append, hl])).mono ?_
    rintro r w' ⟨A', c', h3, h4, h5⟩
    rw [h1] at h4
    exact ⟨A', c', h3, h4.slAt hn, h4.cap_le hn, h5⟩
  · rw [if_neg hf] at hX
    injection hX with h1 h2
    subst h1 h2 hn
    refine (putE_bad A0 m0 c0 e W hi hf).mono ?_
    rintro r w' ⟨h3, h5⟩
    exact ⟨none, 0, h3, Sl.nil_, Nat.le_refl _, h5⟩
theorem take_un8 (A : Option Addr) (n c : Nat) (b : List (BitVec 8)) (hmc : n ≤ c) (hm : n ≤ 1000000) (X : EvP) (cx : Array Value) (R : List (BitVec 8)) (E : Int) (m : Nat) (hX : takeR8 b = (X, R, E)) (hcx : evC X = cx) (hR : R.length = m) (W : World) (hx : Sl 1 W A n c (bytesV b)) :
    Calls Try.prog 8 #[.slice A n c] W fun r w' => ∃ A' c', r = .returned (.tuple #[.agg cx, .slice A' m c', .int .i64 E]) ∧ Sl 1 w' A' m c' (bytesV R) ∧ Below W.heap.size W w' := by
  subst hcx
  unfold takeR8 at hX
  cases ht : takeE b with
  | none =>
    rw [ht] at hX
    injection hX with h1 h2
    injection h2 with h2 h3
    subst h1 h2 h3 hR
    refine (takeE_bad_n A c n b W hx hmc hm ht).mono ?_
    rintro r w' ⟨h4, h5⟩
    exact ⟨none, 0, h4, Sl.nil_, h5⟩
  | some x =>
    obtain ⟨e, r2⟩ := x
    rw [ht] at hX
    injection hX with h1 h2
    injection h2 with h2 h3
    subst h1 h2 h3
    refine (takeE_ok_n A c n m b W hx hmc hm e r2 ht hR).mono ?_
    rintro r w' ⟨A', c', h4, h5, h6⟩
    exact ⟨A', c', h4, h5.slAt hR, h6⟩
end Go.Proofs.Ytgfomfioagblfaa

namespace Go.Proofs.Ytgfomfioagblfaa
open Go.RowKit Go.Sort
set_option linter.unusedVariables false
set_option linter.unusedSimpArgs false
set_option maxRecDepth 20000

theorem ite_n18 {p : Prop} [Decidable p] {w : World} : (if p then Result.ok (Value.bool false) w else Result.ok (Value.bool true) w) = Result.ok (Value.bool (!decide p)) w := by by_cases h : p <;> simp [h]
theorem ite_n28 {p : Prop} [Decidable p] {c : Bool} {w : World} : (if p then Result.ok (Value.bool c) w else Result.ok (Value.bool true) w) = Result.ok (Value.bool (!decide p || c)) w := by by_cases h : p <;> simp [h]
theorem run_ev_neq8 (x y : EvP) (w : World) : (binOp .neq 33 (.agg (evC x)) (.agg (evC y))).run Try.prog w = .ok (.bool (!decide (x = y))) w := by
  have u3 := Try.underlying3
  have a3 := Try.isAgg3
  have z3 := Try.sizeOf3
  have hS : Try.prog.underlying 33 = some (.struct (Try.prog.fieldsOf 33)) := by kernel_rfl
  have hp : Try.prog.stoodInHeld 33 = false := by kernel_rfl
  obtain ⟨a1, a2, a3', a4, a5, a6, a7, a8, a9, a10, a11⟩ := x
  obtain ⟨b1, b2, b3, b4, b5, b6, b7, b8, b9, b10, b11⟩ := y
  simp only [evC]
  rw [run_neq_struct, show (10000 : Nat) = 9999 + 1 from rfl, run_equalIn_agg w 9999 33 _ _ hS hp]
  simp only [Program.fieldsOf, Try.underlying33]
  go_simp
  simp only [ite_n18]
  simp only [ite_n28]
theorem evC_getD (e : EvP) {j : Nat} (h : j < 11) : (evC e)[j]? = some ((encE e).getD j undef) := by
  have hs : j < (evC e).size := h
  simp [encE, List.getD, hs]
theorem run_loadVar_at {w : World} {b off : Nat} {e : EvP} (hc : ∀ j, j < 11 → w.cell? ⟨b, off + j, none⟩ = (evC e)[j]?) : (loadVar 33 ⟨b, off, none⟩).run Try.prog w = .ok (.agg (evC e)) w := by
  have h := run_loadCells_list (P := Try.prog) (w := w) ⟨b, off, none⟩ (encE e) (fun j v hv => by
    have hj : j < 11 := by
      have := (List.getElem?_eq_some_iff.1 hv).1
      rwa [encE_len] at this
    rw [tab_add, hc j hj, evC_getD e hj, ← hv]
    simp [List.getD, show j < (encE e).length from hj])
  rw [encE_len, encE_arr] at h
  unfold loadVar
  simp only [Sem.run_bind, Sem.run_pure, Try.isAgg33, Try.sizeOf33, Result.andThen_ok, if_true, h]
theorem evs_load {w : World} {b off n c : Nat} {l : List EvP} (h : Evs w (some ⟨b, off, none⟩) n c l) {i : Nat} (hi : i < n) : (loadVar 33 ⟨b, off + i * 11, none⟩).run Try.prog w = .ok (.agg (evC (l.getD i EvP.none))) w :=
  run_loadVar_at fun j hj => by rw [h.cell hi hj, evC_getD _ hj]
theorem exec_load_at {o : Oper} {ρ : Operand → Value} {ww : World} (x : Operand) (ho : o.op = .load 33 x) {b off : Nat} (hx : ρ x = .pointer (some ⟨b, off, none⟩)) {v : Value} (hl : (loadVar 33 ⟨b, off, none⟩).run Try.prog ww = .ok v ww) : (execOp ρ o).run Try.prog ww = .ok (.value v) ww := by
  unfold execOp
  simp only [ho, hx, Instr.loadAt, Instr.sureAddr, Sem.run_bind, Sem.run_pure, Result.andThen_ok, hl]
theorem take_snoc_e {l : List EvP} {i : Nat} (h : i < l.length) : l.take (i + 1) = l.take i ++ [l.getD i EvP.none] := by
  rw [List.take_add_one, List.getElem?_eq_getElem h, List.getD_eq_getElem?_getD, List.getElem?_eq_getElem h]
  rfl
set_option maxHeartbeats 8000000 in
theorem rsame_any (A B : Option Addr) (n m c d : Nat) (l l' : List EvP) (w : World) (h : Evs w A n c l) (h' : Evs w B m d l') (hn : n ≤ 1000000) (hm : m ≤ 1000000) (b : Bool) (hb : decide (l = l') = b) :
    Calls Try.prog 14 #[.slice A n c, .slice B m d] w fun e w' => e = .returned (.bool b) ∧ Below w.heap.size w w' := by
  have hl := h.2
  have hl' := h'.2
  have HA := Lib.hid h
  have HB := Lib.hid h'
  have HBB := Lib.hid hb
  clear h h' hb
  by_cases hnm : n = m
  · subst hnm
    go_enter Try.func14, Try.ntmps14
    go_wp2
    go_loopg [5] n (fun kx s5 wr => ∃ i : Nat, s5 = .int .i64 i ∧ i + kx = n ∧ Hid (l.take i = l'.take i) ∧ Hid (Below w.heap.size w wr))
    case atStart => exact ⟨0, rfl, by omega, rfl, Lib.hid (Below.refl _ _)⟩
    case round =>
      obtain ⟨i, rfl, hi, HT, HW⟩ := hrel
      have HA2 := Lib.hid (HA.out.below HW.out)
      have HB2 := Lib.hid (HB.out.below HW.out)
      by_cases hlt : i < n
      · have hlt2 : (i : Int) < (n : Int) := by omega
        have hi0 : (0 : Int) ≤ (i : Int) := by omega
        have hi1 : ((i : Int)).toNat = i := by omega
        obtain ⟨ba, oa, rfl⟩ := HA2.out.form (by omega)
        obtain ⟨bb, ob, rfl⟩ := HB2.out.form (by omega)
        obtain ⟨x, hx⟩ : ∃ x, l.getD i EvP.none = x := ⟨_, rfl⟩
        obtain ⟨y, hy⟩ : ∃ y, l'.getD i EvP.none = y := ⟨_, rfl⟩
        go_wp2_with fail
        by_cases hxy : x = y
        · have hq : ∀ ww, (binOp .neq 33 (.agg (evC x)) (.agg (evC y))).run Try.prog ww = .ok (.bool false) ww := fun ww => by rw [run_ev_neq8, hxy]; simp
          have HXY := Lib.hid hxy
          clear hxy
          have hq2 := hq
          refine wp_region_noPanic ?_
          refine wp_region_held_drew (S := fun w' => Below wr.heap.size wr w') (by kernel_rfl) (below_drew (Below.refl _ _)) (fun hHeld => ?_)
          refine wpAnyH_take (i := 0) (oi := ⟨some 17, _, _, _, _, _⟩) (v := ?_) rfl (by kernel_rfl) (by kernel_rfl) (by kernel_rfl) (fun _ _ _ h => h) (Or.inl ⟨by rfl, ?_⟩) hHeld ?_
          rotate_left
          · intro ww hSw
            (try dsimp only at hSw)
            go_simp
            (try with_reducible rfl)
          simp only [Act.put, List.setIfInBounds_toArray, List.set_cons_zero, List.set_cons_succ]
          refine wpAnyH_take (i := 1) (oi := ⟨some 18, _, _, _, _, _⟩) (v := ?_) rfl (by kernel_rfl) (by kernel_rfl) (by kernel_rfl) (fun _ _ _ h => h) (Or.inl ⟨by rfl, ?_⟩) hHeld ?_
          rotate_left
          · intro ww hSw
            (try dsimp only at hSw)
            go_simp
            (try with_reducible rfl)
          simp only [Act.put, List.setIfInBounds_toArray, List.set_cons_zero, List.set_cons_succ]
          refine wpAnyH_take (i := 2) (oi := ⟨some 19, _, _, _, _, _⟩) (v := .pointer (some ⟨ba, oa + i * 11, none⟩)) rfl (by kernel_rfl) (by kernel_rfl) (by kernel_rfl) (fun _ _ _ h => h) (Or.inl ⟨by rfl, ?_⟩) hHeld ?_
          · intro ww hSw
            (try dsimp only at hSw)
            go_simp
          simp only [Act.put, List.setIfInBounds_toArray, List.set_cons_zero, List.set_cons_succ]
          refine wpAnyH_take (i := 3) (oi := ⟨some 20, _, _, _, _, _⟩) (v := .agg (evC x)) rfl (by kernel_rfl) (by kernel_rfl) (by kernel_rfl) (fun _ _ _ h => h) (Or.inl ⟨by rfl, ?_⟩) hHeld ?_
          · intro ww hSw
            (try dsimp only at hSw)
            rw [← hx]
            exact exec_load_at _ rfl rfl (evs_load (HA2.out.below hSw) (by omega))
          simp only [Act.put, List.setIfInBounds_toArray, List.set_cons_zero, List.set_cons_succ]
          refine wpAnyH_take (i := 4) (oi := ⟨some 21, _, _, _, _, _⟩) (v := ?_) rfl (by kernel_rfl) (by kernel_rfl) (by kernel_rfl) (fun _ _ _ h => h) (Or.inl ⟨by rfl, ?_⟩) hHeld ?_
          rotate_left
          · intro ww hSw
            (try dsimp only at hSw)
            go_simp
            (try with_reducible rfl)
          simp only [Act.put, List.setIfInBounds_toArray, List.set_cons_zero, List.set_cons_succ]
          refine wpAnyH_take (i := 5) (oi := ⟨some 22, _, _, _, _, _⟩) (v := ?_) rfl (by kernel_rfl) (by kernel_rfl) (by kernel_rfl) (fun _ _ _ h => h) (Or.inl ⟨by rfl, ?_⟩) hHeld ?_
          rotate_left
          · intro ww hSw
            (try dsimp only at hSw)
            go_simp
            (try with_reducible rfl)
          simp only [Act.put, List.setIfInBounds_toArray, List.set_cons_zero, List.set_cons_succ]
          refine wpAnyH_take (i := 6) (oi := ⟨some 23, _, _, _, _, _⟩) (v := .pointer (some ⟨bb, ob + i * 11, none⟩)) rfl (by kernel_rfl) (by kernel_rfl) (by kernel_rfl) (fun _ _ _ h => h) (Or.inl ⟨by rfl, ?_⟩) hHeld ?_
          · intro ww hSw
            (try dsimp only at hSw)
            go_simp
          simp only [Act.put, List.setIfInBounds_toArray, List.set_cons_zero, List.set_cons_succ]
          refine wpAnyH_take (i := 7) (oi := ⟨some 24, _, _, _, _, _⟩) (v := .agg (evC y)) rfl (by kernel_rfl) (by kernel_rfl) (by kernel_rfl) (fun _ _ _ h => h) (Or.inl ⟨by rfl, ?_⟩) hHeld ?_
          · intro ww hSw
            (try dsimp only at hSw)
            rw [← hy]
            exact exec_load_at _ rfl rfl (evs_load (HB2.out.below hSw) (by omega))
          simp only [Act.put, List.setIfInBounds_toArray, List.set_cons_zero, List.set_cons_succ]
          refine wpAnyH_take (i := 8) (oi := ⟨some 25, _, _, _, _, _⟩) (v := .bool false) rfl (by kernel_rfl) (by kernel_rfl) (by kernel_rfl) (fun _ _ _ h => h) (Or.inl ⟨by rfl, ?_⟩) hHeld ?_
          · intro ww hSw
            (try dsimp only at hSw)
            have hq1 := hq ww
            go_simp
          simp only [Act.put, List.setIfInBounds_toArray, List.set_cons_zero, List.set_cons_succ]
          refine wpAnyH_done (by kernel_rfl) ?_ _
          refine NoPanic.normal ?_
          go_wp2
          go_roundg (n - (i + 1))
          case measure => omega
          case rel => exact ⟨i + 1, by simp, by omega, Lib.hid (by rw [take_snoc_e (by omega), take_snoc_e (by omega), HT.out, hx, hy, HXY.out]), Lib.hid (below_drew HW.out)⟩
        · have hq : ∀ ww, (binOp .neq 33 (.agg (evC x)) (.agg (evC y))).run Try.prog ww = .ok (.bool true) ww := fun ww => by rw [run_ev_neq8]; simp [hxy]
          obtain rfl : b = false := by
            rw [← HBB.out]
            refine decide_eq_false (fun e => hxy ?_)
            rw [← hx, ← hy, e]
          have hq2 := hq
          refine wp_region_noPanic ?_
          refine wp_region_held_drew (S := fun w' => Below wr.heap.size wr w') (by kernel_rfl) (below_drew (Below.refl _ _)) (fun hHeld => ?_)
          refine wpAnyH_take (i := 0) (oi := ⟨some 17, _, _, _, _, _⟩) (v := ?_) rfl (by kernel_rfl) (by kernel_rfl) (by kernel_rfl) (fun _ _ _ h => h) (Or.inl ⟨by rfl, ?_⟩) hHeld ?_
          rotate_left
          · intro ww hSw
            (try dsimp only at hSw)
            go_simp
            (try with_reducible rfl)
          simp only [Act.put, List.setIfInBounds_toArray, List.set_cons_zero, List.set_cons_succ]
          refine wpAnyH_take (i := 1) (oi := ⟨some 18, _, _, _, _, _⟩) (v := ?_) rfl (by kernel_rfl) (by kernel_rfl) (by kernel_rfl) (fun _ _ _ h => h) (Or.inl ⟨by rfl, ?_⟩) hHeld ?_
          rotate_left
          · intro ww hSw
            (try dsimp only at hSw)
            go_simp
            (try with_reducible rfl)
          simp only [Act.put, List.setIfInBounds_toArray, List.set_cons_zero, List.set_cons_succ]
          refine wpAnyH_take (i := 2) (oi := ⟨some 19, _, _, _, _, _⟩) (v := .pointer (some ⟨ba, oa + i * 11, none⟩)) rfl (by kernel_rfl) (by kernel_rfl) (by kernel_rfl) (fun _ _ _ h => h) (Or.inl ⟨by rfl, ?_⟩) hHeld ?_
          · intro ww hSw
            (try dsimp only at hSw)
            go_simp
          simp only [Act.put, List.setIfInBounds_toArray, List.set_cons_zero, List.set_cons_succ]
          refine wpAnyH_take (i := 3) (oi := ⟨some 20, _, _, _, _, _⟩) (v := .agg (evC x)) rfl (by kernel_rfl) (by kernel_rfl) (by kernel_rfl) (fun _ _ _ h => h) (Or.inl ⟨by rfl, ?_⟩) hHeld ?_
          · intro ww hSw
            (try dsimp only at hSw)
            rw [← hx]
            exact exec_load_at _ rfl rfl (evs_load (HA2.out.below hSw) (by omega))
          simp only [Act.put, List.setIfInBounds_toArray, List.set_cons_zero, List.set_cons_succ]
          refine wpAnyH_take (i := 4) (oi := ⟨some 21, _, _, _, _, _⟩) (v := ?_) rfl (by kernel_rfl) (by kernel_rfl) (by kernel_rfl) (fun _ _ _ h => h) (Or.inl ⟨by rfl, ?_⟩) hHeld ?_
          rotate_left
          · intro ww hSw
            (try dsimp only at hSw)
            go_simp
            (try with_reducible rfl)
          simp only [Act.put, List.setIfInBounds_toArray, List.set_cons_zero, List.set_cons_succ]
          refine wpAnyH_take (i := 5) (oi := ⟨some 22, _, _, _, _, _⟩) (v := ?_) rfl (by kernel_rfl) (by kernel_rfl) (by kernel_rfl) (fun _ _ _ h => h) (Or.inl ⟨by rfl, ?_⟩) hHeld ?_
          rotate_left
          · intro ww hSw
            (try dsimp only at hSw)
            go_simp
            (try with_reducible rfl)
          simp only [Act.put, List.setIfInBounds_toArray, List.set_cons_zero, List.set_cons_succ]
          refine wpAnyH_take (i := 6) (oi := ⟨some 23, _, _, _, _, _⟩) (v := .pointer (some ⟨bb, ob + i * 11, none⟩)) rfl (by kernel_rfl) (by kernel_rfl) (by kernel_rfl) (fun _ _ _ h => h) (Or.inl ⟨by rfl, ?_⟩) hHeld ?_
          · intro ww hSw
            (try dsimp only at hSw)
            go_simp
          simp only [Act.put, List.setIfInBounds_toArray, List.set_cons_zero, List.set_cons_succ]
          refine wpAnyH_take (i := 7) (oi := ⟨some 24, _, _, _, _, _⟩) (v := .agg (evC y)) rfl (by kernel_rfl) (by kernel_rfl) (by kernel_rfl) (fun _ _ _ h => h) (Or.inl ⟨by rfl, ?_⟩) hHeld ?_
          · intro ww hSw
            (try dsimp only at hSw)
            rw [← hy]
            exact exec_load_at _ rfl rfl (evs_load (HB2.out.below hSw) (by omega))
          simp only [Act.put, List.setIfInBounds_toArray, List.set_cons_zero, List.set_cons_succ]
          refine wpAnyH_take (i := 8) (oi := ⟨some 25, _, _, _, _, _⟩) (v := .bool true) rfl (by kernel_rfl) (by kernel_rfl) (by kernel_rfl) (fun _ _ _ h => h) (Or.inl ⟨by rfl, ?_⟩) hHeld ?_
          · intro ww hSw
            (try dsimp only at hSw)
            have hq1 := hq ww
            go_simp
          simp only [Act.put, List.setIfInBounds_toArray, List.set_cons_zero, List.set_cons_succ]
          refine wpAnyH_done (by kernel_rfl) ?_ _
          refine NoPanic.normal ?_
          go_wp2
          go_ret
          exact ⟨rfl, below_drew HW.out⟩
      · have hlt2 : ¬ (i : Int) < (n : Int) := by omega
        obtain rfl : b = true := by
          rw [← HBB.out]
          have e := HT.out
          rw [List.take_of_length_le (by omega), List.take_of_length_le (by omega)] at e
          exact decide_eq_true e
        go_wp2
        go_ret
        exact ⟨rfl, HW.out⟩
  · have hne : ¬ (n : Int) = (m : Int) := by omega
    obtain rfl : b = false := by
      rw [← HBB.out]
      refine decide_eq_false (fun e => hnm ?_)
      rw [← hl, ← hl', e]
    go_enter Try.func14, Try.ntmps14
    go_wp2
    go_ret
    exact ⟨rfl, Below.refl _ _⟩
end Go.Proofs.Ytgfomfioagblfaa

namespace Go.Proofs.Ytgfomfioagblfaa
open Go.RowKit
set_option linter.unusedVariables false
set_option linter.unusedSimpArgs false

/-- What stood at the blocks F is as it was. -/
structure Kept (F : Nat → Prop) (w w' : World) : Prop where
  os : w'.os = w.os
  tape : w'.tape = w.tape
  output : w'.output = w.output
  size : w.heap.size ≤ w'.heap.size
  block : ∀ b, F b → w'.heap[b]? = w.heap[b]?
theorem Kept.refl (F : Nat → Prop) (w : World) : Kept F w w := ⟨rfl, rfl, rfl, Nat.le_refl _, fun _ _ => rfl⟩
section
variable {F G : Nat → Prop} {a b c w w' : World}
theorem Kept.on (h : Kept F a b) (k : Kept F b c) : Kept F a c :=
  ⟨k.os.trans h.os, k.tape.trans h.tape, k.output.trans h.output, Nat.le_trans h.size k.size, fun i hi => (k.block i hi).trans (h.block i hi)⟩
theorem Kept.less (h : Kept F a b) (hF : ∀ i, G i → F i) : Kept G a b := ⟨h.os, h.tape, h.output, h.size, fun i hi => h.block i (hF i hi)⟩
theorem Kept.of_below (h : Below w.heap.size w w') (hF : ∀ i, F i → i < w.heap.size) : Kept F w w' := ⟨h.os, h.tape, h.output, h.size, fun i hi => h.block i (hF i hi)⟩
theorem Kept.below {B : Nat} (h : Kept F a b) (hF : ∀ i, i < B → F i) : Below B a b := ⟨h.os, h.tape, h.output, h.size, fun i hi => h.block i (hF i hi)⟩
end
/-- All that stood is as it was, but for the blocks M. -/
def Chg (M : Nat → Prop) (w w' : World) : Prop := Kept (fun b => b < w.heap.size ∧ ¬ M b) w w'
section
variable {M : Nat → Prop} {a w w' : World}
theorem Chg.refl (M : Nat → Prop) (w : World) : Chg M w w := Kept.refl _ _
theorem Chg.size (h : Chg M w w') : w.heap.size ≤ w'.heap.size := Kept.size h
theorem Chg.on (h : Chg M a w) (k : Chg M w w') : Chg M a w' :=
  Kept.on h (Kept.less k fun i hi => ⟨Nat.lt_of_lt_of_le hi.1 (Kept.size h), hi.2⟩)
theorem Chg.of_below (h : Below w.heap.size w w') : Chg M w w' := Kept.of_below h fun _ hi => hi.1
theorem Chg.onB (h : Chg M a w) (k : Below w.heap.size w w') : Chg M a w' := h.on (.of_below k)
theorem Chg.alloc (h : Chg M a w) (o : Obj) : Chg M a (w.alloc o) := h.onB (bel_alloc (Below.refl _ _) _)
theorem Chg.none (h : Chg (fun _ => False) a w) : Below a.heap.size a w := Kept.below h fun _ hi => ⟨hi, fun x => x⟩
theorem Chg.below {B : Nat} (h : Chg M a w) (hB : B ≤ a.heap.size) (hM : ∀ i, M i → B ≤ i) : Below B a w := Kept.below h fun i hi => ⟨by omega, fun x => by have := hM i x; omega⟩
theorem Chg.set (h : Chg M a w) {p : Addr} (hp : a.heap.size ≤ p.block ∨ M p.block) (v : Value) : Chg M a (w.setCell p v) := by
  refine ⟨h.os, h.tape, h.output, ?_, fun b hb => ?_⟩
  · have := Kept.size h
    simp [World.setCell]
    exact this
  · rw [Below.heap_setCell w p v b (by rintro rfl; rcases hp with hp | hp; omega; exact hb.2 hp)]
    exact Kept.block h b hb
theorem Has.kept {F : Nat → Prop} {g : Nat} {cs : Array Value} (h : Has w g cs) (hF : F g) (k : Kept F w w') : Has w' g cs := by
  obtain ⟨t, h⟩ := h
  exact ⟨t, (k.block g hF).trans h⟩
end
end Go.Proofs.Ytgfomfioagblfaa

namespace Go.Proofs.Ytgfomfioagblfaa
open Go.RowKit
set_option linter.unusedVariables false

/-- A slice value over A reads as the ratios xs. -/
def Rats (w : World) (A : Option Addr) (xs : List (Int × Int)) : Prop :=
  ∀ k, k < xs.length → ∃ b off, A = some ⟨b, off, none⟩ ∧ w.cell? ⟨b, off + k * 2, none⟩ = some (.int .i64 (xs.getD k (0, 0)).1) ∧ w.cell? ⟨b, off + k * 2 + 1, none⟩ = some (.int .i64 (xs.getD k (0, 0)).2) ∧
    -9223372036854775808 ≤ (xs.getD k (0, 0)).1 ∧ (xs.getD k (0, 0)).1 ≤ 9223372036854775807 ∧ -9223372036854775808 ≤ (xs.getD k (0, 0)).2 ∧ (xs.getD k (0, 0)).2 ≤ 9223372036854775807
theorem Rats.below {w w' : World} {A : Option Addr} {xs : List (Int × Int)} (h : Rats w A xs) (hb : Below w.heap.size w w') : Rats w' A xs := by
  intro k hk
  obtain ⟨b, off, e, h1, h2, h3⟩ := h k hk
  exact ⟨b, off, e, (hb.cell (cell_lt h1)).trans h1, (hb.cell (cell_lt h2)).trans h2, h3⟩

end Go.Proofs.Ytgfomfioagblfaa
