/-
  The document's own Of: regular, overtime and double seconds of a week.
-/
import Derived.Test.YtdlimgpmmkcgmaaGreatZbg
import Derived.Test.YtdlimgpmmkcgmaaGreatZba
import Derived.Test.YtdlimgpmmkcgmaaGreatZax
import Derived.Test.YtdlimgpmmkcgmaaGreatZan
import Derived.Test.YtdlimgpmmkcgmaaGreatZav
import Derived.Deep.DeepCutAuto
namespace Go.Proofs.YtdlimgpmmkcgmaaGreat
open Go.RowKit
set_option linter.unusedVariables false
set_option linter.unusedSimpArgs false
set_option maxRecDepth 20000

theorem rows_new {w : World} {b c : Nat} {A : Option Addr} {xs : List (Int × Int)} (h : Row w b A c xs) : ∀ x, A = some x → x.block ≠ w.heap.size := fun x hx => by have := (h.lt x hx).2; omega
theorem rows_old {w : World} {b c g : Nat} {A : Option Addr} {xs : List (Int × Int)} (h : Row w b A c xs) (hg : g < b) : ∀ x, A = some x → x.block ≠ g := fun x hx => by have := (h.lt x hx).1; omega
theorem kept_setRow {F : Nat → Prop} {a w : World} (h : Kept F a w) {g : Nat} (hg : ¬ F g) (cs : Array Value) : Kept F a (w.setRow g cs) :=
  ⟨h.os, h.tape, h.output, by simp [World.setRow]; exact h.size, fun b hb => (setRow_other w g b cs (by rintro rfl; exact hg hb)).trans (h.block b hb)⟩
theorem nil3_one : nil3.all (·.oneCell') = true := by simp [nil3, Value.oneCell']
/-- What one day's cut leaves: a variable with three slices of the call's own. -/
def Day3 (wr : World) (C1 C2 C3 : List (Int × Int)) (v : Value) (wx : World) : Prop :=
  ∃ (gd : Nat) (B1 : Option Addr) (b1 : Nat) (B2 : Option Addr) (b2 : Nat) (B3 : Option Addr) (b3 : Nat), v = .pointer (some ⟨gd, 0, none⟩) ∧ Has wx gd (one3 B1 C1.length b1 B2 C2.length b2 B3 C3.length b3) ∧ Row wx wr.heap.size B1 b1 C1 ∧ Row wx wr.heap.size B2 b2 C2 ∧ Row wx wr.heap.size B3 b3 C3 ∧ Below wr.heap.size wr wx ∧ wr.heap.size ≤ gd
theorem leaf3 {wr W : World} {gd b : Nat} {C1 C2 C3 : List (Int × Int)} {B1 B2 B3 : Option Addr} {b1 b2 b3 : Nat} (hH : Has W gd nil3) (hB : Below wr.heap.size wr W) (hg : wr.heap.size ≤ gd) (r1 : Row W b B1 b1 C1) (r2 : Row W b B2 b2 C2) (r3 : Row W b B3 b3 C3) (hb : wr.heap.size ≤ b)
    (n1 : ∀ x, B1 = some x → x.block ≠ gd) (n2 : ∀ x, B2 = some x → x.block ≠ gd) (n3 : ∀ x, B3 = some x → x.block ≠ gd) :
    Day3 wr C1 C2 C3 (.pointer (some ⟨gd, 0, none⟩)) (W.setRow gd (one3 B1 C1.length b1 B2 C2.length b2 B3 C3.length b3)) :=
  ⟨gd, B1, b1, B2, b2, B3, b3, rfl, has_set3 hH, (row_setRow r1 n1 _).mono hb, (row_setRow r2 n2 _).mono hb, (row_setRow r3 n3 _).mono hb, below_setRow hB hg _, hg⟩
/-- One of the three takes another list in, and is stored. -/
theorem Thr.put {w : World} {base c d f : Nat} {A B E : Option Addr} {xs ys zs : List (Int × Int)} (h : Thr w base A c xs B d ys E f zs) (i : Nat) {m g gd n f1 f2 : Nat} {u3 cs : Array Value} {D F1 F2 : Option Addr} {ws V1 V2 : List (Int × Int)} (r1 : Row w m D n ws) (hf : Fits ws) (r2 : Row w m F1 f1 V1) (r3 : Row w m F2 f2 V2)
    (hA : ∀ x, A = some x → x.block < m) (hgd : m ≤ gd) (hd : Has w gd cs) (hg : g < base) (hH : Has w g u3) (hbm : base ≤ m) (hn : xs.length + ws.length ≤ 1000000000) :
    ∃ A' c' w', (Builtin.append_ #[40, 40] 40 #[.slice A xs.length c, .slice D ws.length n]).run Tryz.prog w = .ok (.slice A' (xs.length + ws.length) c') w' ∧ Has w' g u3 ∧
      ∀ W, w'.setCell ⟨g, i, none⟩ (.slice A' (xs.length + ws.length) c') = W → Thr W base B d ys E f zs A' c' (xs ++ ws) ∧ Row W m F1 f1 V1 ∧ Row W m F2 f2 V2 ∧ Has W gd cs ∧ Has W g (u3.setIfInBounds i (.slice A' (xs.length + ws.length) c')) ∧ Kept (fun x => x < base ∧ x ≠ g) w W := by
  have hds := hd.size
  obtain ⟨A', c', w', hr, hT, hK⟩ := h.push (row_sl r1) hn (by omega)
  have hd' := hd.kept (F := fun k => k < w.heap.size ∧ ∀ x, A = some x → x.block ≠ k) ⟨hds, fun x hx => by have := hA x hx; omega⟩ hK
  have hH' := hH.kept (F := fun k => k < w.heap.size ∧ ∀ x, A = some x → x.block ≠ k) ⟨hH.size, fun x hx => by have := (h.a.lt x hx).1; omega⟩ hK
  have r2' : Row w' m F1 f1 V1 := r2.keep fun x hx => hK.block _ ⟨(r2.lt x hx).2, fun z hz => by have := hA z hz; have := (r2.lt x hx).1; omega⟩
  have r3' : Row w' m F2 f2 V2 := r3.keep fun x hx => hK.block _ ⟨(r3.lt x hx).2, fun z hz => by have := hA z hz; have := (r3.lt x hx).1; omega⟩
  refine ⟨A', c', w', hr, hH', ?_⟩
  rintro _ rfl
  exact ⟨(hT.far (p := ⟨g, i, none⟩) hg _).rot, r2'.far (fun a ha => by have := (r2'.lt a ha).1; show a.block ≠ g; omega) _, r3'.far (fun a ha => by have := (r3'.lt a ha).1; show a.block ≠ g; omega) _, hd'.far (show gd ≠ g by omega) _, hH'.set i _,
    (hK.less fun i hi => ⟨by have := hi.1; omega, fun z hz => by have := (h.a.lt z hz).1; have := hi.1; omega⟩).setn (p := ⟨g, i, none⟩) (fun h => h.2 rfl) _⟩
/-- The lists of the first k of the days of D. -/
noncomputable def cutK (x y : Int) (q : Int → Prop) (D : List Int) (k : Nat) : List (Int × Int) := (D.take k).flatMap fun d => cutG x y 0 (ofDayP q d)
section
variable {x y : Int} {q : Int → Prop} {D : List Int}
theorem cutK_snoc (k : Nat) (h : k < D.length) : cutK x y q D (k + 1) = cutK x y q D k ++ cutG x y 0 (ofDayP q (D.getD k 0)) := by
  unfold cutK
  rw [List.take_succ_eq_append_getElem h, List.flatMap_append]
  simp [List.getD, h]
theorem cutK_len : ∀ k, k ≤ D.length → (cutK x y q D k).length ≤ k * 86401
  | 0, _ => by simp [cutK]
  | k + 1, h => by
    have := cutK_len k (by omega)
    have h2 : (ofDayP q (D.getD k 0)).length ≤ 86401 := day_len (d := D.getD k 0) fun t z => z.2
    rw [cutK_snoc k h, List.length_append, cutG_len]; omega
theorem cutK_bd (k : Nat) (h : k ≤ D.length) (hD : D.length ≤ 371) : (cutK x y q D k).length ≤ 32054771 :=
  Nat.le_trans (cutK_len k h) (Nat.le_trans (Nat.mul_le_mul_right _ (Nat.le_trans h hD)) (by decide))
theorem cutK_fits (k : Nat) : Fits (cutK x y q D k) := fun u hu => by
  obtain ⟨d, _, h⟩ := List.mem_flatMap.1 hu
  exact cut_fits (Int.le_refl 0) (canon_plain _) u h
theorem cutK_in (hx : 0 ≤ x) {t : Int} (h0 : 0 ≤ t) (h1 : t < 32054400) : In (cutK x y q (daysP q) (daysP q).length) t ↔ shortS q y t ∧ ¬ shortS q x t := by
  unfold cutK
  rw [List.take_length]
  have key : ∀ d n, fstS (In (ofDayP q d)) n t ↔ fstS (onDay q d) n t := fun d n => by
    unfold ofDayP fstS
    rw [in_can h0 h1, cnt_can _ (by omega)]
    exact Iff.rfl
  constructor
  · rintro ⟨u, hu, u1, u2⟩
    obtain ⟨d, hd, hin⟩ := List.mem_flatMap.1 hu
    have z := (cut_set (y := y) hx (canon_plain _) h0 h1).1 (⟨u, hin, u1, u2⟩ : In (cutG x y 0 (ofDayP q d)) t)
    have z2 : fstS (In (ofDayP q d)) y t ∧ ¬ fstS (In (ofDayP q d)) x t := z
    rw [key, key] at z2
    have e : t / 86400 = d := z2.1.1.2
    unfold shortS
    rw [e]
    exact z2
  · rintro ⟨z1, z2⟩
    have hd : t / 86400 ∈ daysP q := (days_mem q _).2 ⟨t, h0, h1, z1.1.1, rfl⟩
    have z3 : fstS (In (ofDayP q (t / 86400))) y t ∧ ¬ fstS (In (ofDayP q (t / 86400))) x t := by rw [key, key]; exact ⟨z1, z2⟩
    obtain ⟨u, hu, u1, u2⟩ := (cut_set (y := y) hx (canon_plain _) h0 h1).2 z3
    exact ⟨u, List.mem_flatMap.2 ⟨_, hd, hu⟩, u1, u2⟩
end
section
variable {s : SetP} {p : Int → Prop} {k : Int}
theorem ref_short {t : Int} (h0 : 0 ≤ t) (h1 : t < 32054400) : In (cutK 0 s.reg (In (ofWeekP p k)) (daysP (In (ofWeekP p k))) (daysP (In (ofWeekP p k))).length) t ↔ shortS (onWk p k) s.reg t := by
  rw [cutK_in (Int.le_refl 0) h0 h1, short_wk h0 h1]
  exact ⟨fun z => z.1, fun z => ⟨z, short_zero⟩⟩
theorem ref_long (hm : s.May) {t : Int} (h0 : 0 ≤ t) (h1 : t < 32054400) : In (cutK s.reg s.over (In (ofWeekP p k)) (daysP (In (ofWeekP p k))) (daysP (In (ofWeekP p k))).length) t ↔ shortS (onWk p k) s.over t ∧ ¬ shortS (onWk p k) s.reg t := by
  rw [cutK_in hm.reg.1 h0 h1, short_wk h0 h1, short_wk h0 h1]
theorem ref_last (hm : s.May) {t : Int} (h0 : 0 ≤ t) (h1 : t < 32054400) : In (cutK s.over 40000000 (In (ofWeekP p k)) (daysP (In (ofWeekP p k))) (daysP (In (ofWeekP p k))).length) t ↔ onWk p k t ∧ ¬ shortS (onWk p k) s.over t := by
  rw [cutK_in (by have := hm.reg; omega) h0 h1, short_full h1, short_wk h0 h1]
  unfold ofWeekP
  rw [in_can h0 h1]
  exact Iff.rfl
end
set_option maxHeartbeats 16000000 in
theorem rover_c {w : World} {s : SetP} {cs : Array Value} (h : SetC w s cs) (hf : s.Fit) (b : Bool) (hb : checkB s = b) (A : Option Addr) (cap : Nat) (xs : List (Int × Int)) (hx : Spans w A xs) (hl : xs.length ≤ 100000000) (k : Int) :
    Calls Tryz.prog 33 #[.agg cs, .slice A xs.length cap, .int .i64 k] w (Tells3 w (regL b s (In xs) k) (ovrL b s (In xs) k) (dblL b s (In xs) k)) := by
  have HZ := Lib.hid h.size
  obtain ⟨q13, q14, q15⟩ := setC_over h
  obtain ⟨w1, hw1⟩ : ∃ w1, (w.alloc (.cells cs 30)).alloc (.cells nil3 68) = w1 := ⟨_, rfl⟩
  have hb1 : Below w.heap.size w w1 := by rw [← hw1]; exact bel_alloc (bel_alloc (Below.refl _ _) _) _
  have HB1 : Hid (Has w1 w.heap.size cs) := by show Has _ _ _; rw [← hw1]; exact (Has.new _ _ _ rfl).alloc _
  have H61 : Has w1 (w.heap.size + 1) nil3 := by rw [← hw1]; exact Has.new _ _ _ (by simp)
  have hz1 : w1.heap.size = w.heap.size + 1 + 1 := by rw [← hw1]; simp
  obtain ⟨g6, hg6⟩ : ∃ g, w.heap.size + 1 = g := ⟨_, rfl⟩
  rw [hg6] at H61 hz1
  have hg6w : w.heap.size < g6 := by omega
  have HS1 := Lib.hid (h.below hb1)
  have HX1 := Lib.hid (hx.below hb1)
  have HCK := Lib.hid (rsetcheck_c HS1.out hf b hb)
  have H61 := Lib.hid H61
  have HW1 := Lib.hid hb1
  have HG6 : Hid (g6 < w1.heap.size) := by show _ < _; omega
  unfold nil3 at hw1
  clear h hx hb1 hz1
  cases b with
  | false =>
    rw [show regL false s (In xs) k = [] from rfl, show ovrL false s (In xs) k = [] from rfl, show dblL false s (In xs) k = [] from rfl]
    clear hb
    go_enter Tryz.func33, Tryz.ntmps33
    go_wp2_with (refine wpList_load_sp (by rfl) _ rfl w.heap.size rfl cs HB1.out HZ.out ?_)
    refine HCK.out.mono ?_
    rintro e w2 ⟨rfl, b2⟩
    have H62 := Lib.hid (H61.out.below b2)
    have HW2 := Lib.hid (bel_on HW1.out b2)
    clear b2 hg6 hw1
    go_wp2_with (refine wpList_store3 rfl _ _ rfl g6 nil3 rfl rfl nil3 H62.out rfl rfl nil3_one ?_)
    refine bodyPost_ret (three_run Tryz.results33 _ _ g6 nil3 rfl (has_set3 H62.out) rfl) rfl ?_
    exact ⟨none, 0, none, 0, none, 0, rfl, Row.nil _ _, Row.nil _ _, Row.nil _ _, below_setRow HW2.out (by omega) _⟩
  | true =>
    have hm := check_iff.1 hb
    have HWK := Lib.hid (fun W (hW : Spans W A xs) => rofweek_any A cap xs k W hW hl)
    have lW : (ofWeekP (In xs) k).length ≤ 32054401 := canon_len _
    have FW : Hid (Fits (ofWeekP (In xs) k)) := Fits.canon _
    have HDY := Lib.hid (fun W D dc (hW : Spans W D (ofWeekP (In xs) k)) => rdays_any D dc (ofWeekP (In xs) k) W hW (by omega))
    have hN := daysP_len (In (ofWeekP (In xs) k))
    have HOD := Lib.hid (fun W D dc d (hW : Spans W D (ofWeekP (In xs) k)) => rofday_any D dc (ofWeekP (In xs) k) d W hW (by omega))
    have HCT := Lib.hid (fun W D dc d (hW : SetC W s cs) (hD : Spans W D (ofDayP (In (ofWeekP (In xs) k)) d)) => cut_c hW hm D dc (ofDayP (In (ofWeekP (In xs) k)) d) hD (canon_plain _))
    have FD : Hid (∀ d, Fits (ofDayP (In (ofWeekP (In xs) k)) d)) := fun d => Fits.canon _
    have LD1 : Hid (∀ d, (ofDayP (In (ofWeekP (In xs) k)) d).length ≤ 86401) := fun d => day_len (d := d) fun t z => z.2
    have SH := Lib.hid (fun t h0 h1 => ref_short (s := s) (p := In xs) (k := k) (t := t) h0 h1)
    have SL := Lib.hid (fun t h0 h1 => ref_long (s := s) (p := In xs) (k := k) hm (t := t) h0 h1)
    have ST := Lib.hid (fun t h0 h1 => ref_last (s := s) (p := In xs) (k := k) hm (t := t) h0 h1)
    have hv := hm.week
    obtain ⟨rg0, rg1⟩ : 0 ≤ s.reg ∧ s.reg ≤ 86400 := by have := hm.reg; have := hm.over; omega
    have HPS := Lib.hid (fun j hj => cutK_snoc (x := 0) (y := s.reg) (q := In (ofWeekP (In xs) k)) (D := daysP (In (ofWeekP (In xs) k))) j hj)
    have HQS := Lib.hid (fun j hj => cutK_snoc (x := s.reg) (y := s.over) (q := In (ofWeekP (In xs) k)) (D := daysP (In (ofWeekP (In xs) k))) j hj)
    have HRS := Lib.hid (fun j hj => cutK_snoc (x := s.over) (y := 40000000) (q := In (ofWeekP (In xs) k)) (D := daysP (In (ofWeekP (In xs) k))) j hj)
    have HPL := Lib.hid (fun j hj => cutK_bd (x := 0) (y := s.reg) (q := In (ofWeekP (In xs) k)) (D := daysP (In (ofWeekP (In xs) k))) j hj hN)
    have HQL := Lib.hid (fun j hj => cutK_bd (x := s.reg) (y := s.over) (q := In (ofWeekP (In xs) k)) (D := daysP (In (ofWeekP (In xs) k))) j hj hN)
    have HRL := Lib.hid (fun j hj => cutK_bd (x := s.over) (y := 40000000) (q := In (ofWeekP (In xs) k)) (D := daysP (In (ofWeekP (In xs) k))) j hj hN)
    have HPF := Lib.hid (fun j => cutK_fits (x := 0) (y := s.reg) (q := In (ofWeekP (In xs) k)) (D := daysP (In (ofWeekP (In xs) k))) j)
    have HQF := Lib.hid (fun j => cutK_fits (x := s.reg) (y := s.over) (q := In (ofWeekP (In xs) k)) (D := daysP (In (ofWeekP (In xs) k))) j)
    have HRF := Lib.hid (fun j => cutK_fits (x := s.over) (y := 40000000) (q := In (ofWeekP (In xs) k)) (D := daysP (In (ofWeekP (In xs) k))) j)
    have HP0 : Hid (cutK 0 s.reg (In (ofWeekP (In xs) k)) (daysP (In (ofWeekP (In xs) k))) 0 = []) := rfl
    have HQ0 : Hid (cutK s.reg s.over (In (ofWeekP (In xs) k)) (daysP (In (ofWeekP (In xs) k))) 0 = []) := rfl
    have HR0 : Hid (cutK s.over 40000000 (In (ofWeekP (In xs) k)) (daysP (In (ofWeekP (In xs) k))) 0 = []) := rfl
    have G1 := Lib.hid (ref_reg (s := s) (p := In xs) (k := k) SH.out)
    have G2 := Lib.hid (fun t h0 h1 => ref_rest (s := s) (p := In xs) (k := k) SH.out (t := t) h0 h1)
    have G3 := Lib.hid (ref_over (s := s) (p := In xs) (k := k) G2.out SL.out)
    have G4 := Lib.hid (ref_dbl (s := s) (p := In xs) (k := k) ST.out)
    obtain ⟨Dl, hDl⟩ : ∃ D, daysP (In (ofWeekP (In xs) k)) = D := ⟨_, rfl⟩
    rw [hDl] at HDY hN HPS HQS HRS HPL HQL HRL HPF HQF HRF HP0 HQ0 HR0 G1 G3 G4
    obtain ⟨N, hDN⟩ : ∃ N, Dl.length = N := ⟨_, rfl⟩
    rw [hDN] at hN HPS HQS HRS HPL HQL HRL G1 G3 G4
    have FLR : Hid (Fits (regL true s (In xs) k)) := .of_plain (reg_plain true s (In xs) k)
    have lLR := pl_len (reg_plain true s (In xs) k)
    generalize hY1 : cutK 0 s.reg (In (ofWeekP (In xs) k)) Dl = Y1 at *
    generalize hY2 : cutK s.reg s.over (In (ofWeekP (In xs) k)) Dl = Y2 at *
    generalize hY3 : cutK s.over 40000000 (In (ofWeekP (In xs) k)) Dl = Y3 at *
    have lRS : (canon fun t => In (Y1 N) t ∧ ¬ In (regL true s (In xs) k) t).length ≤ 32054401 := canon_len _
    have FRS : Hid (Fits (canon fun t => In (Y1 N) t ∧ ¬ In (regL true s (In xs) k) t)) := Fits.canon _
    have HFI := Lib.hid (fun W P p (hW : Spans W P (Y1 N)) hl2 => G1.out ▸ rfirst_any P p (Y1 N) s.week W hW hl2 ⟨by omega, by omega⟩)
    have HMI := Lib.hid (fun W P p R r (hW : Spans W P (Y1 N)) (hR : Spans W R (regL true s (In xs) k)) hl2 => rminus_any P R p r (Y1 N) (regL true s (In xs) k) W hW hR hl2 (by omega))
    have HNO0 := Lib.hid (fun W U u (hW : Spans W U ((canon fun t => In (Y1 N) t ∧ ¬ In (regL true s (In xs) k) t) ++ Y2 N)) hl2 => G3.out ▸ rnorm_any U u ((canon fun t => In (Y1 N) t ∧ ¬ In (regL true s (In xs) k) t) ++ Y2 N) W hW hl2)
    have HND0 := Lib.hid (fun W U u (hW : Spans W U (Y3 N)) hl2 => G4.out ▸ rnorm_any U u (Y3 N) W hW hl2)
    generalize (canon fun t => In (Y1 N) t ∧ ¬ In (regL true s (In xs) k) t) = RSq at *
    generalize regL true s (In xs) k = LR at *
    generalize ovrL true s (In xs) k = LO at *
    generalize dblL true s (In xs) k = LD at *
    generalize ofWeekP (In xs) k = XW at *
    generalize s.week = wk at *
    have HDN := Lib.hid hDN
    clear hDl hY1 hY2 hY3 hDN G1 G2 G3 G4 SH SL ST hm hb hf
    go_enter Tryz.func33, Tryz.ntmps33
    go_wp2_with (refine wpList_load_sp (by rfl) _ rfl w.heap.size rfl cs HB1.out HZ.out ?_)
    refine HCK.out.mono ?_
    rintro e w2 ⟨rfl, b2⟩
    have HB2 := Lib.hid (HB1.out.below b2)
    have HS2 := Lib.hid (HS1.out.below b2)
    have HX2 := Lib.hid (HX1.out.below b2)
    have H62 := Lib.hid (H61.out.below b2)
    have HW2 := Lib.hid (bel_on HW1.out b2)
    have hz2 : g6 < w2.heap.size := H62.out.size
    clear b2 hg6 hw1 HB1 HS1 HX1 H61 HW1 HCK HG6
    go_wp2_with fail
    refine (HWK.out _ HX2.out).mono ?_
    rintro e w3 ⟨A3, c3, rfl, r3, b3⟩
    have HB3 := Lib.hid (HB2.out.below b3)
    have HS3 := Lib.hid (HS2.out.below b3)
    have H63 := Lib.hid (H62.out.below b3)
    have HA3 := Lib.hid (r3.spans FW.out)
    have HW3 := Lib.hid (bel_on HW2.out b3)
    clear r3 b3 HB2 HS2 HX2 H62 HW2 HWK
    go_wp2_with fail
    refine (HDY.out _ _ _ HA3.out).mono ?_
    rintro e w4 ⟨A4, c4, rfl, r4, b4⟩
    rw [HDN.out]
    have HB4 := HB3.out.below b4
    have HS4 := HS3.out.below b4
    have H64 := H63.out.below b4
    have HA4 := HA3.out.below b4
    have HW4 := bel_on HW3.out b4
    obtain ⟨w5, hw5⟩ : ∃ w5, w4.alloc (.cells nil3 68) = w5 := ⟨_, rfl⟩
    have hb5 : Below w4.heap.size w4 w5 := by rw [← hw5]; exact bel_alloc (Below.refl _ _) _
    have hO5 : Has w5 w4.heap.size nil3 := by rw [← hw5]; exact Has.new _ _ _ rfl
    have hz5 : w5.heap.size = w4.heap.size + 1 := by rw [← hw5]; simp
    obtain ⟨g10, hg10⟩ : ∃ g, w4.heap.size = g := ⟨_, rfl⟩
    have HB5 := Lib.hid (HB4.below hb5)
    have HS5 := Lib.hid (HS4.below hb5)
    have H65 := Lib.hid (H64.below hb5)
    have HA5 := Lib.hid (HA4.below hb5)
    have HD5 := Lib.hid ((r4.below hb5))
    have HW5 := Lib.hid (bel_on HW4 hb5)
    rw [hg10] at hO5 hz5
    have HO5 := Lib.hid hO5
    have HZ5 := Lib.hid hz5
    have hgg : g6 < g10 := by have := H64.size; omega
    have HB45 := Lib.hid hb5
    have HG10 := Lib.hid hg10
    have HS4' := Lib.hid HS4
    have HA4' := Lib.hid HA4
    have HD4' := Lib.hid r4
    have HF1 : Hid (∀ d, Fits (cutG 0 s.reg 0 (ofDayP (In XW) d))) := fun d => cut_fits (Int.le_refl 0) (canon_plain _)
    have HF2 : Hid (∀ d, Fits (cutG s.reg s.over 0 (ofDayP (In XW) d))) := fun d => cut_fits (Int.le_refl 0) (canon_plain _)
    have HF3 : Hid (∀ d, Fits (cutG s.over 40000000 0 (ofDayP (In XW) d))) := fun d => cut_fits (Int.le_refl 0) (canon_plain _)
    unfold nil3 at hw5
    clear r4 b4 HB3 HS3 H63 HA3 HW3 HDY HB4 HS4 H64 HA4 HW4 hb5 hO5 hz5 hz2 H61 HS5 HA5 HD5
    go_wp2
    clear hw5 hg10
    go_loopw [11] (fun i wr => ∃ (j : Nat) (P : Option Addr) (p : Nat) (Q : Option Addr) (q : Nat) (R : Option Addr) (r : Nat), j ≤ N ∧ i = .int .i64 j ∧ Hid (Has wr g10 (one3 P (Y1 j).length p Q (Y2 j).length q R (Y3 j).length r)) ∧ Hid (Thr wr w5.heap.size P p (Y1 j) Q q (Y2 j) R r (Y3 j)) ∧ Hid (Kept (fun x => x < w5.heap.size ∧ x ≠ g10) w5 wr)) (fun i _ => N - (intOf i).toNat)
    case atStart => exact ⟨0, none, 0, none, 0, none, 0, Nat.zero_le _, rfl, by rw [HP0.out, HQ0.out, HR0.out]; exact HO5.out, by rw [HP0.out, HQ0.out, HR0.out]; exact Thr.start _ _, Kept.refl _ _⟩
    case round =>
      obtain ⟨j, P, p, Q, q, R, r, hj, rfl, hH, hT, hKp⟩ := hrel
      have hG := HG10.out
      have hz5 := HZ5.out
      have hkz := hKp.out.size
      have hH0 := hH.out.size
      have hg5w : g10 < w5.heap.size := by omega
      have hgs : w.heap.size < g10 := by omega
      have HB4r : Hid (Below w4.heap.size w4 wr) := HB45.out.trans (hKp.out.below fun i hi => ⟨by omega, by omega⟩)
      have HWr : Hid (Below w.heap.size w wr) := HW5.out.trans (hKp.out.below fun i hi => ⟨by omega, by omega⟩)
      have HBr := Lib.hid (HB5.out.kept (F := fun x => x < w5.heap.size ∧ x ≠ g10) ⟨HB5.out.size, by omega⟩ hKp.out)
      by_cases hlt : j < N
      · have E1 := HPS.out j hlt
        have E2 := HQS.out j hlt
        have E3 := HRS.out j hlt
        have z1 := HPL.out (j + 1) hlt
        have z2 := HQL.out (j + 1) hlt
        have z3 := HRL.out (j + 1) hlt
        obtain ⟨bd, od, rfl, hcd⟩ := (HD4'.out.below HB4r.out).nums j (by have := HDN.out; omega)
        obtain ⟨dk, hdk⟩ : ∃ d, Dl.getD j 0 = d := ⟨_, rfl⟩
        rw [hdk] at hcd E1 E2 E3
        have hbd := cell_lt hcd
        have HCD := Lib.hid hcd
        have HSr := Lib.hid (HS4'.out.below HB4r.out)
        have HAr := Lib.hid (HA4'.out.below HB4r.out)
        have f1 := HF1.out dk
        have f2 := HF2.out dk
        have f3 := HF3.out dk
        have HCTd := Lib.hid (fun W D dc hW hD => HCT.out W D dc dk hW hD)
        generalize cutG 0 s.reg 0 (ofDayP (In XW) dk) = C1 at E1 f1 HCTd
        generalize cutG s.reg s.over 0 (ofDayP (In XW) dk) = C2 at E2 f2 HCTd
        generalize cutG s.over 40000000 0 (ofDayP (In XW) dk) = C3 at E3 f3 HCTd
        rw [E1, List.length_append] at z1
        rw [E2, List.length_append] at z2
        rw [E3, List.length_append] at z3
        have i0 : (0 : Int) ≤ (j : Int) := by omega
        have i1 : (j : Int) < (N : Int) := by omega
        clear hcd hdk hG hz5
        go_upto_region 10 with fail
        go_cut [12] (fun v12 wx => Day3 wr C1 C2 C3 v12 wx)
        case first =>
          refine wp_region_noPanic ?_
          refine wp_region_held_drew (S := fun w' => Below wr.heap.size wr w') (by kernel_rfl) (below_drew (Below.refl _ _)) (fun hHeld => ?_)
          refine wpAnyH_take (i := 0) (oi := ⟨some 31, _, _, _, _, _⟩) (v := .agg cs) rfl (by kernel_rfl) (by kernel_rfl) (by kernel_rfl) (fun _ _ _ h => h) (Or.inl ⟨by rfl, ?_⟩) hHeld ?_
          · intro ww hSw
            (try dsimp only at hSw)
            exact exec_load_sp _ rfl rfl (HBr.out.below hSw) HZ.out
          simp only [Act.put, List.setIfInBounds_toArray, List.set_cons_zero, List.set_cons_succ]
          refine wpAnyH_take (i := 1) (oi := ⟨some 32, _, _, _, _, _⟩) (v := ?_) rfl (by kernel_rfl) (by kernel_rfl) (by kernel_rfl) (fun _ _ _ h => h) (Or.inl ⟨by rfl, ?_⟩) hHeld ?_
          rotate_left
          · intro ww hSw
            (try dsimp only at hSw)
            go_simp
            (try with_reducible rfl)
          simp only [Act.put, List.setIfInBounds_toArray, List.set_cons_zero, List.set_cons_succ]
          refine wpAnyH_take (i := 2) (oi := ⟨some 33, _, _, _, _, _⟩) (v := ?_) rfl (by kernel_rfl) (by kernel_rfl) (by kernel_rfl) (fun _ _ _ h => h) (Or.inl ⟨by rfl, ?_⟩) hHeld ?_
          rotate_left
          · intro ww hSw
            (try dsimp only at hSw)
            go_simp
            (try with_reducible rfl)
          simp only [Act.put, List.setIfInBounds_toArray, List.set_cons_zero, List.set_cons_succ]
          refine wpAnyH_take (i := 3) (oi := ⟨some 34, _, _, _, _, _⟩) (v := ?_) rfl (by kernel_rfl) (by kernel_rfl) (by kernel_rfl) (fun _ _ _ h => h) (Or.inl ⟨by rfl, ?_⟩) hHeld ?_
          rotate_left
          · intro ww hSw
            (try dsimp only at hSw)
            go_simp
            (try with_reducible rfl)
          simp only [Act.put, List.setIfInBounds_toArray, List.set_cons_zero, List.set_cons_succ]
          refine wpAnyH_take (i := 4) (oi := ⟨some 35, _, _, _, _, _⟩) (v := ?_) rfl (by kernel_rfl) (by kernel_rfl) (by kernel_rfl) (fun _ _ _ h => h) (Or.inl ⟨by rfl, ?_⟩) hHeld ?_
          rotate_left
          · intro ww hSw
            (try dsimp only at hSw)
            go_simp
            (try with_reducible rfl)
          simp only [Act.put, List.setIfInBounds_toArray, List.set_cons_zero, List.set_cons_succ]
          refine wpAnyH_take (i := 5) (oi := ⟨some 36, _, _, _, _, _⟩) (v := .int .i64 dk) rfl (by kernel_rfl) (by kernel_rfl) (by kernel_rfl) (fun _ _ _ h => h) (Or.inl ⟨by rfl, ?_⟩) hHeld ?_
          · intro ww hSw
            (try dsimp only at hSw)
            have qc := (hSw.cell (p := ⟨bd, od + j, none⟩) hbd).trans HCD.out
            have qz := cell_lt qc
            go_simp
          simp only [Act.put, List.setIfInBounds_toArray, List.set_cons_zero, List.set_cons_succ]
          refine wpAnyH_ready (rs := [6, 8]) (by kernel_rfl) (by simp) ?_
          refine AllReadyH.cons (o := ⟨some 37, _, _, _, _, _⟩) rfl (fun K hK => ?_) (AllReadyH.cons (o := ⟨some 12, _, _, _, _, _⟩) rfl (fun K hK => ?_) AllReadyH.nil)
          · skip
            go_simp
            go_at_call 75
            refine (HOD.out _ _ _ _ (HAr.out.below (below_drew (Below.refl _ _)))).mono ?_
            rintro e_r w5 ⟨A5, c5, rfl, r5, hbn⟩
            have hb_w5 : Below wr.heap.size wr w5 := bel_on (below_drew (Below.refl _ _)) hbn
            have HD5 := Lib.hid (r5.spans (FD.out dk))
            have hbn5 := hbn
            clear r5 hbn
            go_wp2_with fail
            refine hK.out _ _ ?_ (fun hHeld => ?_)
            · (try dsimp only)
              exact hb_w5
            clear hK K
            (try simp only [Act.put, List.setIfInBounds_toArray, List.set_cons_zero, List.set_cons_succ])
            refine wpAnyH_ready (rs := [7, 8]) (by kernel_rfl) (by simp) ?_
            refine AllReadyH.cons (o := ⟨some 38, _, _, _, _, _⟩) rfl (fun K hK => ?_) (AllReadyH.cons (o := ⟨some 12, _, _, _, _, _⟩) rfl (fun K hK => ?_) AllReadyH.nil)
            · skip
              go_simp
              go_at_call 74
              refine (HCTd.out _ A5 c5 (HSr.out.below hb_w5) HD5.out).mono ?_
              rintro e_r w6 ⟨B1, b1, B2, b2, B3, b3, rfl, r1, r2, r3, hbn⟩
              have hb_w6 : Below wr.heap.size wr w6 := bel_on hb_w5 hbn
              have h6z := hbn.size
              go_wp2_with fail
              refine hK.out _ _ ?_ (fun hHeld => ?_)
              · (try dsimp only)
                exact hb_w6
              clear hK K
              (try simp only [Act.put, List.setIfInBounds_toArray, List.set_cons_zero, List.set_cons_succ])
              refine wpAnyH_ready (rs := [8]) (by kernel_rfl) (by simp) ?_
              refine AllReadyH.cons (o := ⟨some 12, _, _, _, _, _⟩) rfl (fun K hK => ?_) AllReadyH.nil
              go_simp
              refine hK.out _ _ ?_ (fun hHeld => ?_)
              · (try dsimp only)
                exact bel_alloc hb_w6 _
              clear hK K
              (try simp only [Act.put, List.setIfInBounds_toArray, List.set_cons_zero, List.set_cons_succ])
              refine wpAnyH_ready (rs := [9]) (by kernel_rfl) (by simp) ?_
              refine AllReadyH.cons (o := ⟨none, _, _, _, _, _⟩) rfl (fun K hK => ?_) AllReadyH.nil
              show if Region.wanted _ _ = true then _ else _
              rw [if_pos (by rfl)]
              refine wp_store3 _ _ rfl w6.heap.size (one3 B1 C1.length b1 B2 C2.length b2 B3 C3.length b3) rfl rfl nil3 (Has.new w6 68 nil3 rfl) rfl rfl (one3_one _ _ _ _ _ _ _ _ _) ?_
              refine hK.out _ _ ?_ (fun hHeld => ?_)
              · (try dsimp only)
                exact below_setRow (bel_alloc hb_w6 (.cells nil3 68)) hb_w6.size _
              clear hK K
              (try simp only [Act.put, List.setIfInBounds_toArray, List.set_cons_zero, List.set_cons_succ])
              refine wpAnyH_done (by kernel_rfl) ?_ _
              refine NoPanic.normal ?_
              clear hHeld
              (try go_wp2)
              go_meet
              exact leaf3 (Has.new w6 68 nil3 rfl) (bel_alloc hb_w6 (.cells nil3 68)) hb_w6.size (r1.alloc (.cells nil3 68)) (r2.alloc (.cells nil3 68)) (r3.alloc (.cells nil3 68)) (Nat.le_trans hb_w5.size (by simp)) (rows_new r1) (rows_new r2) (rows_new r3)
            · skip
              go_simp
              refine hK.out _ _ ?_ (fun hHeld => ?_)
              · (try dsimp only)
                exact bel_alloc hb_w5 _
              clear hK K
              (try simp only [Act.put, List.setIfInBounds_toArray, List.set_cons_zero, List.set_cons_succ])
              refine wpAnyH_ready (rs := [7]) (by kernel_rfl) (by simp) ?_
              refine AllReadyH.cons (o := ⟨some 38, _, _, _, _, _⟩) rfl (fun K hK => ?_) AllReadyH.nil
              go_simp
              go_at_call 74
              refine (HCTd.out _ A5 c5 (HSr.out.below (bel_alloc hb_w5 (.cells nil3 68))) (HD5.out.alloc (.cells nil3 68))).mono ?_
              rintro e_r w6 ⟨B1, b1, B2, b2, B3, b3, rfl, r1, r2, r3, hbn⟩
              have hb_w6 : Below wr.heap.size wr w6 := bel_on (bel_alloc hb_w5 (.cells nil3 68)) hbn
              have h6z := hbn.size
              go_wp2_with fail
              refine hK.out _ _ ?_ (fun hHeld => ?_)
              · (try dsimp only)
                exact hb_w6
              clear hK K
              (try simp only [Act.put, List.setIfInBounds_toArray, List.set_cons_zero, List.set_cons_succ])
              refine wpAnyH_ready (rs := [9]) (by kernel_rfl) (by simp) ?_
              refine AllReadyH.cons (o := ⟨none, _, _, _, _, _⟩) rfl (fun K hK => ?_) AllReadyH.nil
              show if Region.wanted _ _ = true then _ else _
              rw [if_pos (by rfl)]
              refine wp_store3 _ _ rfl w5.heap.size (one3 B1 C1.length b1 B2 C2.length b2 B3 C3.length b3) rfl rfl nil3 ((Has.new w5 68 nil3 rfl).below hbn) rfl rfl (one3_one _ _ _ _ _ _ _ _ _) ?_
              refine hK.out _ _ ?_ (fun hHeld => ?_)
              · (try dsimp only)
                exact below_setRow hb_w6 hb_w5.size _
              clear hK K
              (try simp only [Act.put, List.setIfInBounds_toArray, List.set_cons_zero, List.set_cons_succ])
              refine wpAnyH_done (by kernel_rfl) ?_ _
              refine NoPanic.normal ?_
              clear hHeld
              (try go_wp2)
              go_meet
              exact leaf3 ((Has.new w5 68 nil3 rfl).below hbn) hb_w6 hb_w5.size (r1) (r2) (r3) (Nat.le_trans hb_w5.size (by simp)) (rows_old r1 (by simp)) (rows_old r2 (by simp)) (rows_old r3 (by simp))
          · skip
            go_simp
            refine hK.out _ _ ?_ (fun hHeld => ?_)
            · (try dsimp only)
              exact bel_alloc (below_drew (Below.refl _ _)) _
            clear hK K
            (try simp only [Act.put, List.setIfInBounds_toArray, List.set_cons_zero, List.set_cons_succ])
            refine wpAnyH_ready (rs := [6]) (by kernel_rfl) (by simp) ?_
            refine AllReadyH.cons (o := ⟨some 37, _, _, _, _, _⟩) rfl (fun K hK => ?_) AllReadyH.nil
            go_simp
            go_at_call 75
            refine (HOD.out _ _ _ _ (HAr.out.below (bel_alloc (below_drew (Below.refl _ _)) (.cells nil3 68)))).mono ?_
            rintro e_r w5 ⟨A5, c5, rfl, r5, hbn⟩
            have hb_w5 : Below wr.heap.size wr w5 := bel_on (bel_alloc (below_drew (Below.refl _ _)) (.cells nil3 68)) hbn
            have HD5 := Lib.hid (r5.spans (FD.out dk))
            have hbn5 := hbn
            clear r5 hbn
            go_wp2_with fail
            refine hK.out _ _ ?_ (fun hHeld => ?_)
            · (try dsimp only)
              exact hb_w5
            clear hK K
            (try simp only [Act.put, List.setIfInBounds_toArray, List.set_cons_zero, List.set_cons_succ])
            refine wpAnyH_ready (rs := [7]) (by kernel_rfl) (by simp) ?_
            refine AllReadyH.cons (o := ⟨some 38, _, _, _, _, _⟩) rfl (fun K hK => ?_) AllReadyH.nil
            go_simp
            go_at_call 74
            refine (HCTd.out _ A5 c5 (HSr.out.below hb_w5) HD5.out).mono ?_
            rintro e_r w6 ⟨B1, b1, B2, b2, B3, b3, rfl, r1, r2, r3, hbn⟩
            have hb_w6 : Below wr.heap.size wr w6 := bel_on hb_w5 hbn
            have h6z := hbn.size
            go_wp2_with fail
            refine hK.out _ _ ?_ (fun hHeld => ?_)
            · (try dsimp only)
              exact hb_w6
            clear hK K
            (try simp only [Act.put, List.setIfInBounds_toArray, List.set_cons_zero, List.set_cons_succ])
            refine wpAnyH_ready (rs := [9]) (by kernel_rfl) (by simp) ?_
            refine AllReadyH.cons (o := ⟨none, _, _, _, _, _⟩) rfl (fun K hK => ?_) AllReadyH.nil
            show if Region.wanted _ _ = true then _ else _
            rw [if_pos (by rfl)]
            refine wp_store3 _ _ rfl wr.heap.size (one3 B1 C1.length b1 B2 C2.length b2 B3 C3.length b3) rfl rfl nil3 (((Has.new wr.drew 68 nil3 rfl).below hbn5).below hbn) rfl rfl (one3_one _ _ _ _ _ _ _ _ _) ?_
            refine hK.out _ _ ?_ (fun hHeld => ?_)
            · (try dsimp only)
              exact below_setRow hb_w6 (Nat.le_refl _) _
            clear hK K
            (try simp only [Act.put, List.setIfInBounds_toArray, List.set_cons_zero, List.set_cons_succ])
            refine wpAnyH_done (by kernel_rfl) ?_ _
            refine NoPanic.normal ?_
            clear hHeld
            (try go_wp2)
            go_meet
            exact leaf3 (((Has.new wr.drew 68 nil3 rfl).below hbn5).below hbn) hb_w6 (Nat.le_refl _) (r1) (r2) (r3) (Nat.le_trans hb_w5.size (by simp)) (rows_old r1 (by have := hbn5.size; simp at this; omega)) (rows_old r2 (by have := hbn5.size; simp at this; omega)) (rows_old r3 (by have := hbn5.size; simp at this; omega))
        case rest =>
        obtain ⟨gd, B1, b1, B2, b2, B3, b3, rfl, hHd, r1, r2, r3, hbx, hgd⟩ := hcut
        have Tx := hT.out.below hbx
        have Hx := hH.out.below hbx
        obtain ⟨P6, p6, w6, hr6, h6, k6⟩ := Tx.put 0 r1 f1 r2 r3 (fun x hx => (hT.out.a.lt x hx).2) hgd hHd hg5w Hx hkz (by omega)
        obtain ⟨w7, hw7⟩ : ∃ W, w6.setCell ⟨g10, 0, none⟩ (.slice P6 ((Y1 j).length + C1.length) p6) = W := ⟨_, rfl⟩
        obtain ⟨T7, r27, r37, Hd7, H7, K7⟩ := k6 w7 hw7
        obtain ⟨Q6, q6, w8, hr8, h8, k8⟩ := T7.put 1 r27 f2 r37 r37 (fun x hx => (hT.out.b.lt x hx).2) hgd Hd7 hg5w H7 hkz (by omega)
        obtain ⟨w9, hw9⟩ : ∃ W, w8.setCell ⟨g10, 1, none⟩ (.slice Q6 ((Y2 j).length + C2.length) q6) = W := ⟨_, rfl⟩
        obtain ⟨T9, r39, _, Hd9, H9, K9⟩ := k8 w9 hw9
        obtain ⟨R6, r6, wA, hrA, hA, kA⟩ := T9.put 2 r39 f3 r39 r39 (fun x hx => (hT.out.e.lt x hx).2) hgd Hd9 hg5w H9 hkz (by omega)
        obtain ⟨wB, hwB⟩ : ∃ W, wA.setCell ⟨g10, 2, none⟩ (.slice R6 ((Y3 j).length + C3.length) r6) = W := ⟨_, rfl⟩
        obtain ⟨TB, _, _, HdB, HB, KB⟩ := kA wB hwB
        rw [← E1, ← E2, ← E3] at TB
        have HTB := Lib.hid TB
        have HHB : Hid (Has wB g10 (one3 P6 (Y1 (j + 1)).length p6 Q6 (Y2 (j + 1)).length q6 R6 (Y3 (j + 1)).length r6)) := by
          rw [E1, E2, E3, List.length_append, List.length_append, List.length_append]
          exact HB
        have HKB := Lib.hid ((((hKp.out.on (.of_below hbx fun i hi => Nat.lt_of_lt_of_le hi.1 hkz)).on K7).on K9).on KB)
        have c0 := Hx.cell 0 (v := .slice P (Y1 j).length p) rfl
        have d0 := hHd.cell 0 (v := .slice B1 C1.length b1) rfl
        have c6 : w6.cell? ⟨g10, 0, none⟩ = some (.slice P (Y1 j).length p) := h6.cell 0 rfl
        have f6 := h6.frozen 0
        have s6 := h6.size
        have c7 : w7.cell? ⟨g10, 1, none⟩ = some (.slice Q (Y2 j).length q) := H7.cell 1 rfl
        have d7 : w7.cell? ⟨gd, 1, none⟩ = some (.slice B2 C2.length b2) := Hd7.cell 1 rfl
        have c8 : w8.cell? ⟨g10, 1, none⟩ = some (.slice Q (Y2 j).length q) := h8.cell 1 rfl
        have f8 := h8.frozen 1
        have s8 := h8.size
        have c9 : w9.cell? ⟨g10, 2, none⟩ = some (.slice R (Y3 j).length r) := H9.cell 2 rfl
        have d9 : w9.cell? ⟨gd, 2, none⟩ = some (.slice B3 C3.length b3) := Hd9.cell 2 rfl
        have cA : wA.cell? ⟨g10, 2, none⟩ = some (.slice R (Y3 j).length r) := hA.cell 2 rfl
        have fA := hA.frozen 2
        have sA := hA.size
        have s0 := Hx.size
        have s1 := hHd.size
        have s7 := H7.size
        have t7 := Hd7.size
        have s9 := H9.size
        have t9 := Hd9.size
        have HR6 := Lib.hid hr6
        have HR8 := Lib.hid hr8
        have HRA := Lib.hid hrA
        clear hT hH hKp HBr HB4r HWr HSr HAr HCTd E1 E2 E3 hr6 hr8 hrA Tx Hx hHd r1 r2 r3 hbx h6 k6 T7 r27 r37 Hd7 H7 K7 h8 k8 T9 r39 Hd9 H9 K9 hA kA TB HdB HB KB f1 f2 f3
        go_wp2_with (first
          | (at_builtin; refine wpList_append_run (o := ⟨some 43, _, _, _, _, _⟩) HR6.out rfl rfl rfl rfl ?_)
          | (at_builtin; refine wpList_append_run (o := ⟨some 49, _, _, _, _, _⟩) HR8.out rfl rfl rfl rfl ?_)
          | (at_builtin; refine wpList_append_run (o := ⟨some 55, _, _, _, _, _⟩) HRA.out rfl rfl rfl rfl ?_))
        go_roundw
        case rel => exact ⟨j + 1, P6, p6, Q6, q6, R6, r6, by omega, by go_num, HHB, HTB, HKB⟩
        case measure => simp [intOf]; omega
      · obtain rfl : j = N := by omega
        have y1 := HPL.out j (Nat.le_refl _)
        have y2 := HQL.out j (Nat.le_refl _)
        have y3 := HRL.out j (Nat.le_refl _)
        have HSP := Lib.hid (hT.out.a.spans (HPF.out j))
        have HSQ := Lib.hid hT.out.b
        have HSR := Lib.hid hT.out.e
        have H6r := Lib.hid (H65.out.kept (F := fun x => x < w5.heap.size ∧ x ≠ g10) ⟨H65.out.size, by omega⟩ hKp.out)
        have HGr := Lib.hid hH.out
        have HWr' := Lib.hid HWr.out
        have c0 : wr.cell? ⟨g10, 0, none⟩ = some (.slice P (Y1 j).length p) := hH.out.cell 0 rfl
        have k15 := HBr.out.cell 15 q15
        have kz := HBr.out.size
        have h0z := hH.out.size
        have i2 : ¬ (j : Int) < (j : Int) := by omega
        clear hT hKp HBr HWr hG hz5 HPS HQS HRS hlt hH HB4r
        go_wp2_with fail
        refine (HFI.out _ _ _ HSP.out (by omega)).mono ?_
        rintro e wF ⟨A5, c5, rfl, r5, b5⟩
        have HR5 := Lib.hid r5
        have HSPF := Lib.hid (HSP.out.below b5)
        have HSQF := Lib.hid (HSQ.out.below b5)
        have HSRF := Lib.hid (HSR.out.below b5)
        have H6F := Lib.hid (H6r.out.below b5)
        have HGF := Lib.hid (HGr.out.below b5)
        have HWF := Lib.hid (bel_on HWr'.out b5)
        have hzF := b5.size
        have cF : wF.cell? ⟨g10, 0, none⟩ = some (.slice P (Y1 j).length p) := HGF.out.cell 0 rfl
        have gF := HGF.out.size
        clear r5 b5 c0 k15 kz HSP HSQ HSR H6r HGr HWr' HFI
        go_wp2_with fail
        refine (HMI.out _ P p A5 c5 HSPF.out (HR5.out.spans FLR.out) (by omega)).mono ?_
        rintro e wR ⟨A6, c6, rfl, r6, b6⟩
        have HFR : Hid (wF.heap.size ≤ wR.heap.size) := b6.size
        have HR5R := Lib.hid (HR5.out.below b6)
        have HSQR := HSQF.out.below b6
        have HSRR := HSRF.out.below b6
        have H6R := H6F.out.below b6
        have HOR := Lib.hid (HGF.out.below b6)
        have HWR := Lib.hid (bel_on HWF.out b6)
        have hFF : Hid (∀ x, x < w5.heap.size ∧ x ≠ g6 → x < wF.heap.size ∧ x ≠ g6) := fun x hx => ⟨by have := hx.1; omega, hx.2⟩
        have HG1 : Hid (g10 < wF.heap.size ∧ g10 ≠ g6) := ⟨gF, by omega⟩
        obtain ⟨U, u, wA, hra, hua, _, hga, hla⟩ := row_append r6.drew (row_sl HSQR.drew) (by rw [show RSq.length + (Y2 j).length = RSq.length + (Y2 j).length from rfl]; omega) HFR.out
        have hkA' : Kept (fun x => x < wF.heap.size) wR wA := by
          refine ⟨hga.os, hga.tape, hga.output, hga.size, fun k hk => hga.block k (Nat.lt_of_lt_of_le hk HFR.out) ?_⟩
          intro z
          cases hA6 : A6 with
          | none => rw [hA6] at z; simp [Value.ownBlock] at z
          | some a0 =>
            rw [hA6] at z
            simp [Value.ownBlock] at z
            have := (r6.lt a0 hA6).1
            omega
        have hkA : Kept (fun x => x < wF.heap.size ∧ x ≠ g6) wR wA := hkA'.less fun i hi => hi.1
        have HKA := Lib.hid hkA
        rw [← List.length_append] at hra
        have lZ : (RSq ++ Y2 j).length ≤ 100000000 := by rw [List.length_append]; omega
        have hua' := hua.spans (FRS.out.append (HQF.out j))
        generalize RSq ++ Y2 j = Z at hra hua' lZ HNO0
        have HRA := Lib.hid hra
        have HUA := Lib.hid hua'
        have HSA3 : Hid (Spans wA R (Y3 j)) := (HSRR.keep fun x hx => hkA.block _ ⟨(HSRF.out.lt x hx).2, by have := (HSRF.out.lt x hx).1; omega⟩).spans (HRF.out j)
        have H6A : Hid (Has wA g6 nil3) := H6R.kept (F := fun x => x < wF.heap.size) (show g6 < wF.heap.size by omega) hkA'
        have H5N : Hid (∀ x, A5 = some x → x.block < wF.heap.size ∧ x.block ≠ g6) := fun x hx => by have := HR5.out.lt x hx; exact ⟨this.2, by omega⟩
        have H5B : Hid (w.heap.size ≤ wr.heap.size) := by show _ ≤ _; omega
        have H6B' : Hid (w.heap.size < g6 ∧ g6 < wR.heap.size ∧ w.heap.size < wF.heap.size) := by have := HFR.out; exact ⟨hg6w, by omega, by omega⟩
        have HNO := Lib.hid (fun W U u hW => HNO0.out W U u hW lZ)
        have HND := Lib.hid (fun W U u hW => HND0.out W U u hW (by omega))
        clear r6 b6 HSQR HSRR H6R hra hua hua' hga hla hkA hkA' cF HMI HSPF HSQF HSRF H6F HGF HWF HR5 HNO0 HND0 hFF
        go_upto_region 16 with fail
        refine wp_region_noPanic ?_
        refine wp_region_held_drew (S := fun w' => Kept (fun x => x < wF.heap.size ∧ x ≠ g6) wR w') (by kernel_rfl) (.of_below (below_drew (Below.refl _ _)) fun i hi => Nat.lt_of_lt_of_le hi.1 HFR.out) (fun hHeld => ?_)
        refine wpAnyH_take (i := 0) (oi := ⟨some 66, _, _, _, _, _⟩) (v := ?_) rfl (by kernel_rfl) (by kernel_rfl) (by kernel_rfl) (fun _ _ _ h => h) (Or.inl ⟨by rfl, ?_⟩) hHeld ?_
        rotate_left
        · intro ww hSw
          (try dsimp only at hSw)
          go_simp
          (try with_reducible rfl)
        simp only [Act.put, List.setIfInBounds_toArray, List.set_cons_zero, List.set_cons_succ]
        refine wpAnyH_take (i := 1) (oi := ⟨some 67, _, _, _, _, _⟩) (v := ?_) rfl (by kernel_rfl) (by kernel_rfl) (by kernel_rfl) (fun _ _ _ h => h) (Or.inl ⟨by rfl, ?_⟩) hHeld ?_
        rotate_left
        · intro ww hSw
          (try dsimp only at hSw)
          go_simp
          (try with_reducible rfl)
        simp only [Act.put, List.setIfInBounds_toArray, List.set_cons_zero, List.set_cons_succ]
        refine wpAnyH_take (i := 2) (oi := ⟨some 68, _, _, _, _, _⟩) (v := ?_) rfl (by kernel_rfl) (by kernel_rfl) (by kernel_rfl) (fun _ _ _ h => h) (Or.inl ⟨by rfl, ?_⟩) hHeld ?_
        rotate_left
        · intro ww hSw
          (try dsimp only at hSw)
          go_simp
          (try with_reducible rfl)
        simp only [Act.put, List.setIfInBounds_toArray, List.set_cons_zero, List.set_cons_succ]
        refine wpAnyH_take (i := 3) (oi := ⟨some 69, _, _, _, _, _⟩) (v := .slice Q (Y2 j).length q) rfl (by kernel_rfl) (by kernel_rfl) (by kernel_rfl) (fun _ _ _ h => h) (Or.inl ⟨by rfl, ?_⟩) hHeld ?_
        · intro ww hSw
          (try dsimp only at hSw)
          have qc := (HOR.out.kept (F := fun x => x < wF.heap.size ∧ x ≠ g6) HG1.out hSw).cell 1 (v := .slice Q (Y2 j).length q) rfl
          have qz := cell_lt qc
          go_simp
        simp only [Act.put, List.setIfInBounds_toArray, List.set_cons_zero, List.set_cons_succ]
        refine wpAnyH_take (i := 6) (oi := ⟨some 72, _, _, _, _, _⟩) (v := ?_) rfl (by kernel_rfl) (by kernel_rfl) (by kernel_rfl) (fun _ _ _ h => h) (Or.inl ⟨by rfl, ?_⟩) hHeld ?_
        rotate_left
        · intro ww hSw
          (try dsimp only at hSw)
          go_simp
          (try with_reducible rfl)
        simp only [Act.put, List.setIfInBounds_toArray, List.set_cons_zero, List.set_cons_succ]
        refine wpAnyH_take (i := 7) (oi := ⟨some 73, _, _, _, _, _⟩) (v := .slice R (Y3 j).length r) rfl (by kernel_rfl) (by kernel_rfl) (by kernel_rfl) (fun _ _ _ h => h) (Or.inl ⟨by rfl, ?_⟩) hHeld ?_
        · intro ww hSw
          (try dsimp only at hSw)
          have qc := (HOR.out.kept (F := fun x => x < wF.heap.size ∧ x ≠ g6) HG1.out hSw).cell 2 (v := .slice R (Y3 j).length r) rfl
          have qz := cell_lt qc
          go_simp
        simp only [Act.put, List.setIfInBounds_toArray, List.set_cons_zero, List.set_cons_succ]
        refine wpAnyH_ready (rs := [4]) (by kernel_rfl) (by simp) ?_
        refine AllReadyH.cons (o := ⟨some 70, _, _, _, _, _⟩) rfl (fun K hK => ?_) AllReadyH.nil
        show if Region.wanted _ _ = true then _ else _
        rw [if_pos (by rfl)]
        refine wp_append_runB (K := K) HRA.out rfl rfl rfl ?_
        refine hK.out _ _ ?_ (fun hHeld => ?_)
        · (try dsimp only)
          exact HKA.out
        clear hK K
        (try simp only [Act.put, List.setIfInBounds_toArray, List.set_cons_zero, List.set_cons_succ])
        refine wpAnyH_ready (rs := [5]) (by kernel_rfl) (by simp) ?_
        refine AllReadyH.cons (o := ⟨some 71, _, _, _, _, _⟩) rfl (fun K hK => ?_) AllReadyH.nil
        go_simp
        go_at_call 73
        refine (HNO.out _ _ _ HUA.out).mono ?_
        rintro e_r wB ⟨A8, c8, rfl, r8, hbn⟩
        have hkB : Kept (fun x => x < wF.heap.size ∧ x ≠ g6) wR wB := HKA.out.on (.of_below hbn fun i hi => Nat.lt_of_lt_of_le hi.1 (Nat.le_trans HFR.out HKA.out.size))
        have HR8 := Lib.hid r8
        have HS3 := Lib.hid (HSA3.out.below hbn)
        have H6B := Lib.hid (H6A.out.below hbn)
        clear r8 hbn
        go_wp2_with fail
        refine hK.out _ _ ?_ (fun hHeld => ?_)
        · (try dsimp only)
          exact hkB
        clear hK K
        (try simp only [Act.put, List.setIfInBounds_toArray, List.set_cons_zero, List.set_cons_succ])
        refine wpAnyH_ready (rs := [8]) (by kernel_rfl) (by simp) ?_
        refine AllReadyH.cons (o := ⟨some 74, _, _, _, _, _⟩) rfl (fun K hK => ?_) AllReadyH.nil
        go_simp
        go_at_call 73
        refine (HND.out _ _ _ HS3.out).mono ?_
        rintro e_r wC ⟨A9, c9, rfl, r9, hbn⟩
        have hkC : Kept (fun x => x < wF.heap.size ∧ x ≠ g6) wR wC := hkB.on (.of_below hbn fun i hi => Nat.lt_of_lt_of_le hi.1 (Nat.le_trans HFR.out hkB.size))
        have HR9 := Lib.hid r9
        have HR8b := Lib.hid (HR8.out.below hbn)
        have H6C := Lib.hid (H6B.out.below hbn)
        clear r9 hbn
        go_wp2_with fail
        refine hK.out _ _ ?_ (fun hHeld => ?_)
        · (try dsimp only)
          exact hkC
        clear hK K
        (try simp only [Act.put, List.setIfInBounds_toArray, List.set_cons_zero, List.set_cons_succ])
        refine wpAnyH_take (i := 9) (oi := ⟨some 75, _, _, _, _, _⟩) (v := .agg (one3 A5 LR.length c5 A8 LO.length c8 A9 LD.length c9)) rfl (by kernel_rfl) (by kernel_rfl) (by kernel_rfl) (fun _ _ _ h => h) (Or.inl ⟨by rfl, ?_⟩) hHeld ?_
        · intro ww hSw
          go_simp
          (try rfl)
        simp only [Act.put, List.setIfInBounds_toArray, List.set_cons_zero, List.set_cons_succ]
        refine wpAnyH_ready (rs := [10]) (by kernel_rfl) (by simp) ?_
        refine AllReadyH.cons (o := ⟨none, _, _, _, _, _⟩) rfl (fun K hK => ?_) AllReadyH.nil
        show if Region.wanted _ _ = true then _ else _
        rw [if_pos (by rfl)]
        refine wp_store3 _ _ rfl g6 (one3 A5 LR.length c5 A8 LO.length c8 A9 LD.length c9) rfl rfl nil3 H6C.out rfl rfl (one3_one _ _ _ _ _ _ _ _ _) ?_
        refine hK.out _ _ ?_ (fun hHeld => ?_)
        · (try dsimp only)
          exact kept_setRow hkC (fun h => h.2 rfl) _
        clear hK K
        (try simp only [Act.put, List.setIfInBounds_toArray, List.set_cons_zero, List.set_cons_succ])
        refine wpAnyH_done (by kernel_rfl) ?_ _
        refine NoPanic.normal ?_
        (try go_wp2)
        have n6 := H6B'.out
        have nA := HKA.out.size
        have nB := H6B.out.size
        have h8z : ∀ x, A8 = some x → x.block ≠ g6 := fun x hx => by have := (HR8b.out.lt x hx).1; omega
        have h9z : ∀ x, A9 = some x → x.block ≠ g6 := fun x hx => by have := (HR9.out.lt x hx).1; omega
        have m8 : w.heap.size ≤ wA.heap.size := by omega
        have m9 : w.heap.size ≤ wB.heap.size := by omega
        refine bodyPost_ret (three_run Tryz.results33 _ _ g6 (one3 A5 LR.length c5 A8 LO.length c8 A9 LD.length c9) rfl (has_set3 H6C.out) rfl) rfl ?_
        exact ⟨A5, c5, A8, c8, A9, c9, rfl, (row_setRow (HR5R.out.keep fun x hx => hkC.block _ (H5N.out x hx)) (fun x hx => (H5N.out x hx).2) _).mono H5B.out, (row_setRow HR8b.out h8z _).mono m8, (row_setRow HR9.out h9z _).mono m9,
          below_setRow (HWR.out.trans (hkC.below fun i hi => ⟨by omega, by omega⟩)) (by omega) _⟩
end Go.Proofs.YtdlimgpmmkcgmaaGreat
