/-
  The library's stable sort, at events, of any number; event.Sort.
-/
import Derived.Test.YtpgncbhahocmbaaGreatQae
namespace Go.Proofs.YtpgncbhahocmbaaGreat
open Go.RowKit Go.Sort
set_option linter.unusedVariables false
set_option linter.unusedSimpArgs false
set_option maxRecDepth 1000000

theorem grown_on {w w' w'' : World} {o : Option Nat} (h : w.grownBy w' o) (k : w'.grownBy w'' o) : w.grownBy w'' o := by
  obtain ⟨a1, a2, a3, a4, a5⟩ := h
  obtain ⟨b1, b2, b3, b4, b5⟩ := k
  exact ⟨b1.trans a1, b2.trans a2, b3.trans a3, Nat.le_trans a4 b4, fun q hq hne => (b5 q (Nat.lt_of_lt_of_le hq a4) hne).trans (a5 q hq hne)⟩
theorem grown_refl (w : World) (o : Option Nat) : w.grownBy w o := ⟨rfl, rfl, rfl, Nat.le_refl _, fun _ _ _ => rfl⟩
theorem grown_size {w w' : World} {o : Option Nat} (h : w.grownBy w' o) : w.heap.size ≤ w'.heap.size := by
  obtain ⟨a1, a2, a3, a4, a5⟩ := h
  exact a4
theorem sym_h (g cap N a m b : Nat) (P X Y T : List EvP) (d : Array EvP) (w : World) (hH : HoldE w g d) (hg : g < w.heap.size) (hN : d.size = N) (hsz : N ≤ 1000000) (hd : d.toList = P ++ ((X ++ Y) ++ T)) (hP : P.length = a) (hX : a + X.length = m) (hY : m + Y.length = b) (h1 : a < m) (h2 : m < b) (hrX : Risen X) (hrY : Risen Y) :
    Calls Tryz.prog 156 #[.slice (some ⟨g, 0, none⟩) N cap, .int .i64 a, .int .i64 m, .int .i64 b, cmpV] w fun e w' => e = .returned (.tuple #[]) ∧ ∃ d' : Array EvP, d'.toList = P ++ (sortE (X ++ Y) ++ T) ∧ HoldE w' g d' ∧ w.grownBy w' (some g) := by
  refine (sym_any 11 rfl g cap N d w ⟨encE_len, encE_one, hH, hg⟩ hN hsz (b - a) a m b h1 h2 (Nat.le_refl _) P X Y T d w hd hP hX hY hrX hrY hN (SWK.start hH)).mono ?_
  rintro e w' ⟨rfl, d', h, S⟩
  have hs : d'.size = d.size := by
    rw [swk_size (w0 := w) (w := w) (g := g) h, swk_size (w0 := w) (w := w) (g := g) hd]
    simp only [List.length_append, sortE_len]
  refine ⟨rfl, d', h, S.holds hg hH hs, ?_⟩
  obtain ⟨n, os, rfl⟩ := S
  exact grown_sort
theorem ins_l (g cap N a b : Nat) (P X T : List EvP) (d : Array EvP) (w : World) (hH : HoldE w g d) (hg : g < w.heap.size) (hN : d.size = N) (hsz : N ≤ 1000000) (hd : d.toList = P ++ (X ++ T)) (hP : P.length = a) (hX : a + X.length = b) :
    Calls Tryz.prog 155 #[.slice (some ⟨g, 0, none⟩) N cap, .int .i64 a, .int .i64 b, cmpV] w fun e w' => e = .returned (.tuple #[]) ∧ ∃ d' : Array EvP, d'.toList = P ++ (sortE X ++ T) ∧ HoldE w' g d' ∧ w.grownBy w' (some g) := by
  have hl : P.length + (X.length + T.length) = N := by
    rw [← hN, swk_size (w0 := w) (w := w) (g := g) hd]
    simp only [List.length_append]
  refine (ins_any g cap a b N d w hH hg hN (by omega) (by omega) (by omega)).mono ?_
  rintro e w' ⟨rfl, h, hgr⟩
  exact ⟨rfl, _, mrg_list (ins_mrg d a b (by omega) (by omega)) hd hP hX, h, hgr⟩
set_option maxHeartbeats 16000000 in
theorem stable_any (g cap n : Nat) (d : Array EvP) (l : List EvP) (w : World) (hH : HoldE w g d) (hg : g < w.heap.size) (hn : d.size = n) (hsz : n ≤ 1000000) (hl : d.toList = l) (h20 : 20 ≤ n) :
    Calls Tryz.prog 139 #[.slice (some ⟨g, 0, none⟩) n cap, .int .i64 n, cmpV] w fun e w' => e = .returned (.tuple #[]) ∧ ∃ d' : Array EvP, HoldE w' g d' ∧ w.grownBy w' (some g) ∧ d'.toList = sortE l := by
  have hln : l.length = n := by rw [← hl, ← hn]; simp
  have HLN := Lib.hid hln
  have H0 := Lib.hid hH
  have HL := Lib.hid hl
  have HINS := Lib.hid (fun (a b : Nat) (P X T : List EvP) (d : Array EvP) (w : World) hH hg hN hd hP hX => ins_l g cap n a b P X T d w hH hg hN hsz hd hP hX)
  have HSYM := Lib.hid (fun (a m b : Nat) (P X Y T : List EvP) (d : Array EvP) (w : World) hH hg hN hd hP hX hY h1 h2 hrX hrY => sym_h g cap n a m b P X Y T d w hH hg hN hsz hd hP hX hY h1 h2 hrX hrY)
  clear hH hl hln
  generalize cmpV = cv at *
  go_enter Tryz.func139, Tryz.ntmps139
  go_wp2
  go_loopg [7, 8] n (fun kx s7 s8 wr => ∃ (a : Nat) (C r : List EvP) (dk : Array EvP), s7 = .int .i64 a ∧ s8 = .int .i64 ((a + 20 : Nat) : Int) ∧ C.length = a ∧ a + r.length = n ∧ n - a ≤ kx ∧ dk.size = n ∧ Hid (dk.toList = C ++ r) ∧ Hid (chs 20 l = C ++ chs 20 r) ∧ Hid (HoldE wr g dk) ∧ Hid (w.grownBy wr (some g)))
  case atStart => exact ⟨0, [], l, d, rfl, rfl, rfl, by have := HLN.out; omega, by omega, hn, HL, rfl, H0, Lib.hid (grown_refl _ _)⟩
  case round =>
    clear H0 HL
    obtain ⟨a, C, r, dk, rfl, rfl, hC, hr, hkx, hdk, HD, HCH, HH, HG⟩ := hrel
    have hgr : g < wr.heap.size := Nat.lt_of_lt_of_le hg (grown_size HG.out)
    by_cases hb : a + 20 ≤ n
    · have hb2 : ((a + 20 : Nat) : Int) ≤ (n : Int) := by omega
      obtain ⟨B, r', rfl, hB⟩ := cut_at r 20 (by omega)
      rw [List.length_append] at hr
      have HC := Lib.hid (HINS.out a (a + 20) C B r' dk wr HH.out hgr hdk HD.out hC (by omega))
      have HCH2 := Lib.hid (HCH.out.trans (by rw [chs_step B r' (by omega) hB]))
      clear HCH
      go_wp2_with fail
      refine HC.out.mono ?_
      rintro e w5 ⟨rfl, d5, h5, hH5, hg5⟩
      have hsz5 : d5.size = n := by rw [swk_size (w0 := w) (w := w) (g := g) h5]; simp only [List.length_append, sortE_len]; omega
      have H5 := Lib.hid h5
      clear h5 HC
      go_wp2
      go_roundg (n - (a + 20))
      case measure => omega
      case rel => exact ⟨a + 20, C ++ sortE B, r', d5, rfl, by first | rfl | exact congrArg (Value.int .i64) (by omega), by rw [List.length_append, sortE_len]; omega, by omega, Nat.le_refl _, hsz5, Lib.hid (by rw [H5.out]; simp), Lib.hid (by rw [HCH2.out]; simp), Lib.hid hH5, Lib.hid (grown_on HG.out hg5)⟩
    · have hb2 : ¬ ((a + 20 : Nat) : Int) ≤ (n : Int) := by omega
      have HC := Lib.hid (HINS.out a n C r [] dk wr HH.out hgr hdk (by rw [HD.out]; simp) hC hr)
      have HCH2 := Lib.hid (HCH.out.trans (by rw [chs_few r (by omega) (by omega)]))
      clear HCH
      go_wp2_with fail
      refine HC.out.mono ?_
      rintro e w5 ⟨rfl, d5, h5, hH5, hg5⟩
      rw [List.append_nil, ← HCH2.out] at h5
      have hsz5 : d5.size = n := by rw [swk_size (w0 := w) (w := w) (g := g) h5, chs_len 20 (by omega) _ l (Nat.le_refl _)]; exact HLN.out
      have H5 := Lib.hid h5
      have HG5 := Lib.hid (grown_on HG.out hg5)
      have HH5 := Lib.hid hH5
      clear h5 HC HCH2 HD HH HG hg5 hH5 hC hr hkx hdk hgr hb hb2
      go_wp2
      go_loopg [6, 7, 8, 9] (n - 20) (fun kx s6 s7 s8 s9 wr => ∃ (bs : Nat) (dk : Array EvP), s6 = .int .i64 bs ∧ 20 ≤ bs ∧ bs ≤ 2000000 ∧ n - bs ≤ kx ∧ dk.size = n ∧ Hid (dk.toList = chs bs l) ∧ Hid (HoldE wr g dk) ∧ Hid (w.grownBy wr (some g)))
      case atStart => exact ⟨20, d5, rfl, by omega, by omega, by omega, hsz5, H5, HH5, HG5⟩
      case round =>
        clear H5 HH5 HG5
        obtain ⟨bs, dk, rfl, hbs, hbs2, hkx, hdk, HD, HH, HG⟩ := hrel
        by_cases hlt : bs < n
        · have hlt2 : (bs : Int) < (n : Int) := by omega
          go_wp2
          go_loopg [7, 8] n (fun kx s7 s8 wr => ∃ (a : Nat) (C r : List EvP) (dk : Array EvP), s7 = .int .i64 a ∧ s8 = .int .i64 ((a + 2 * bs : Nat) : Int) ∧ C.length = a ∧ a + r.length = n ∧ n - a ≤ kx ∧ dk.size = n ∧ Hid (dk.toList = C ++ chs bs r) ∧ Hid (chs (2 * bs) l = C ++ chs (2 * bs) r) ∧ Hid (HoldE wr g dk) ∧ Hid (w.grownBy wr (some g)))
          case atStart => exact ⟨0, [], l, dk, rfl, by first | rfl | exact congrArg (Value.int .i64) (by omega), rfl, by have := HLN.out; omega, by omega, hdk, HD, rfl, HH, HG⟩
          case round =>
            have hk0 := hkx
            clear HD HH HG hdk hkx
            obtain ⟨a, C, r, dj, rfl, rfl, hC, hr, hkx, hdj, HD, HCH, HH, HG⟩ := hrel
            have hgr : g < wr.heap.size := Nat.lt_of_lt_of_le hg (grown_size HG.out)
            by_cases hb : a + 2 * bs ≤ n
            · have hb2 : ((a + 2 * bs : Nat) : Int) ≤ (n : Int) := by omega
              obtain ⟨B1, r1, rfl, hB1⟩ := cut_at r bs (by omega)
              rw [List.length_append] at hr
              obtain ⟨B2, r', rfl, hB2⟩ := cut_at r1 bs (by omega)
              rw [List.length_append] at hr
              obtain ⟨k1, k2⟩ := chs_two B1 B2 r' (by omega) hB1 hB2
              have hlr : (chs bs r').length = r'.length := chs_len bs (by omega) _ _ (Nat.le_refl _)
              have hcall := HSYM.out a (a + bs) (a + 2 * bs) C (sortE B1) (sortE B2) (chs bs r') dj wr HH.out hgr hdj (by rw [HD.out, k1]; simp) hC (by rw [sortE_len]; omega) (by rw [sortE_len]; omega) (by omega) (by omega) (ev_sort_risen _) (ev_sort_risen _)
              rw [show ((a + bs : Nat) : Int) = (a : Int) + (bs : Int) by omega] at hcall
              have HC := Lib.hid hcall
              have HCH2 := Lib.hid (HCH.out.trans (by rw [k2]))
              clear HCH k1 k2 hcall
              go_wp2_with fail
              refine HC.out.mono ?_
              rintro e w5 ⟨rfl, d5, h5, hH5, hg5⟩
              have hsz5 : d5.size = n := by rw [swk_size (w0 := w) (w := w) (g := g) h5]; simp only [List.length_append, sortE_len]; omega
              have H5 := Lib.hid h5
              clear h5 HC
              go_wp2
              go_roundg (n - (a + 2 * bs))
              case measure => omega
              case rel => exact ⟨a + 2 * bs, C ++ sortE (sortE B1 ++ sortE B2), r', d5, rfl, by first | rfl | exact congrArg (Value.int .i64) (by omega), by simp only [List.length_append, sortE_len]; omega, by omega, Nat.le_refl _, hsz5, Lib.hid (by rw [H5.out]; simp), Lib.hid (by rw [HCH2.out]; simp), Lib.hid hH5, Lib.hid (grown_on HG.out hg5)⟩
            · have hb2 : ¬ ((a + 2 * bs : Nat) : Int) ≤ (n : Int) := by omega
              by_cases hm : a + bs < n
              · have hm2 : (a : Int) + (bs : Int) < (n : Int) := by omega
                obtain ⟨B1, B2, rfl, hB1⟩ := cut_at r bs (by omega)
                rw [List.length_append] at hr
                obtain ⟨k1, k2⟩ := chs_rest B1 B2 (by omega) hB1 (by omega)
                have hcall := HSYM.out a (a + bs) n C (sortE B1) (sortE B2) [] dj wr HH.out hgr hdj (by rw [HD.out, k1]; simp) hC (by rw [sortE_len]; omega) (by rw [sortE_len]; omega) (by omega) (by omega) (ev_sort_risen _) (ev_sort_risen _)
                rw [show ((a + bs : Nat) : Int) = (a : Int) + (bs : Int) by omega] at hcall
                have HC := Lib.hid hcall
                have HCH2 := Lib.hid (HCH.out.trans (by rw [k2]))
                clear HCH k1 k2 hcall
                go_wp2_with fail
                refine HC.out.mono ?_
                rintro e w5 ⟨rfl, d5, h5, hH5, hg5⟩
                rw [List.append_nil, ← HCH2.out] at h5
                have hsz5 : d5.size = n := by rw [swk_size (w0 := w) (w := w) (g := g) h5, chs_len (2 * bs) (by omega) _ l (Nat.le_refl _)]; exact HLN.out
                have H5 := Lib.hid h5
                clear h5 HC HCH2
                go_wp2
                go_roundg (n - 2 * bs)
                case measure => omega
                case rel => exact ⟨2 * bs, d5, by first | rfl | exact congrArg (Value.int .i64) (by omega), by omega, by omega, Nat.le_refl _, hsz5, H5, Lib.hid hH5, Lib.hid (grown_on HG.out hg5)⟩
              · have hm2 : ¬ (a : Int) + (bs : Int) < (n : Int) := by omega
                have H5 : Hid (dj.toList = chs (2 * bs) l) := Lib.hid (by rw [HD.out, HCH.out, chs_few r (by omega) (by omega), chs_few r (by omega) (by omega)])
                clear HCH HD
                go_wp2
                go_roundg (n - 2 * bs)
                case measure => omega
                case rel => exact ⟨2 * bs, dj, by first | rfl | exact congrArg (Value.int .i64) (by omega), by omega, by omega, Nat.le_refl _, hdj, H5, HH, HG⟩
        · have hlt2 : ¬ (bs : Int) < (n : Int) := by omega
          have hfin := HD.out
          rw [chs_few l (by omega) (by have := HLN.out; omega)] at hfin
          go_wp2
          go_end0
          exact ⟨rfl, dk, HH.out, HG.out, hfin⟩
/-- event.Sort. -/
theorem esort_any (A : Option Addr) (n c : Nat) (l : List EvP) (W : World) (h : Evs W A n c l) (hm : n ≤ 1000000) :
    Calls Tryz.prog 66 #[.slice A n c] W fun e w' => ∃ A' c', e = .returned (.slice A' n c') ∧ Below W.heap.size W w' ∧ Evs w' A' n c' (sortE l) := by
  by_cases h20 : n < 20
  · exact sort_few A n c l W h h20
  · have hln := h.2
    exact sort_of A n c l W h hm (fun g c' w h0 hH hgl => stable_any g c' n l.toArray l w hH hgl (by simpa using hln) hm (by simp) (by omega))
end Go.Proofs.YtpgncbhahocmbaaGreat
