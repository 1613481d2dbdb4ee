/-
  BreaksDays: a day does not hang on others.
-/
import Derived.Test.YtghfhoodbiiciaaBrkLw
namespace Go.Proofs.Ytghfhoodbiiciaa
open Go.RowKit
set_option linter.unusedVariables false
set_option linter.unusedSimpArgs false
set_option maxRecDepth 100000

def clipS (d : Int) (x : SegP) : SegP := ⟨max x.fr (d * 86400), min x.to ((d + 1) * 86400), x.kd, x.id, x.cd⟩
def clipL (d : Int) (l : List SegP) : List SegP := (l.map (clipS d)).filter fun x => decide (x.fr < x.to)
theorem clip_snoc (d : Int) (l : List SegP) (x : SegP) : clipL d (l ++ [x]) = clipL d l ++ (if max x.fr (d * 86400) < min x.to ((d + 1) * 86400) then [clipS d x] else []) := by
  unfold clipL
  rw [List.map_append, List.filter_append]
  congr 1
  by_cases h : max x.fr (d * 86400) < min x.to ((d + 1) * 86400)
  · rw [if_pos h, List.map_cons, List.map_nil, List.filter_cons, if_pos (decide_eq_true (show (clipS d x).fr < (clipS d x).to from h))]; rfl
  · rw [if_neg h, List.map_cons, List.map_nil, List.filter_cons, if_neg (show ¬ (decide ((clipS d x).fr < (clipS d x).to) = true) from fun q => h (of_decide_eq_true q))]; rfl
theorem clip_mem {d : Int} {l : List SegP} {t : Int} : InS (clipL d l) t ↔ InS l t ∧ d * 86400 ≤ t ∧ t < (d + 1) * 86400 := by
  unfold clipL
  constructor
  · rintro ⟨y, hy, h1, h2⟩
    obtain ⟨x, hx, rfl⟩ := List.mem_map.1 (List.mem_filter.1 hy).1
    simp only [clipS] at h1 h2
    exact ⟨⟨x, hx, by omega, by omega⟩, by omega, by omega⟩
  · rintro ⟨⟨x, hx, h1, h2⟩, h3, h4⟩
    refine ⟨clipS d x, List.mem_filter.2 ⟨List.mem_map.2 ⟨x, hx, rfl⟩, decide_eq_true ?_⟩, ?_, ?_⟩ <;> simp only [clipS] <;> omega
theorem clip_kind (d : Int) (l : List SegP) : (clipL d l).filter (ofKind 3) = clipL d (l.filter (ofKind 3)) := by
  unfold clipL
  have e : ∀ l : List SegP, (l.map (clipS d)).filter (ofKind 3) = (l.filter (ofKind 3)).map (clipS d) := fun l => by
    rw [List.filter_map]
    rfl
  rw [← e, List.filter_filter, List.filter_filter]
  exact List.filter_congr fun x _ => Bool.and_comm _ _
theorem clip_clk (d : Int) (l : List SegP) : ∀ t, 0 ≤ t → t < 32054400 → (clkS (clipL d l) t ↔ onDay (clkS l) d t) := fun t h0 h1 => by
  unfold clkS onDay clockP
  rw [in_can h0 h1, in_can h0 h1, clip_mem]
  exact ⟨fun h => ⟨h.1, by omega⟩, fun h => ⟨h.1, by omega⟩⟩
theorem clip_rst (d : Int) (l : List SegP) : ∀ t, 0 ≤ t → t < 32054400 → (rstS (clipL d l) t ↔ onDay (rstS l) d t) := fun t h0 h1 => by
  unfold rstS onDay clockP
  rw [clip_kind, in_can h0 h1, in_can h0 h1, clip_mem]
  exact ⟨fun h => ⟨h.1, by omega⟩, fun h => ⟨h.1, by omega⟩⟩
theorem clip_yes (b : Bool) (s : SetP) (l : List SegP) (d : Int) : allYes b s (clipL d l) = dayYes b s l d := by
  unfold allYes dayYes
  cases b with
  | false => rfl
  | true => rw [if_pos rfl, if_pos rfl, (paid_congr (clip_clk d l) (clip_rst d l)).1, paid_alone]
theorem clip_no (b : Bool) (s : SetP) (l : List SegP) (d : Int) : allNo b s (clipL d l) = dayNo b s l d := by
  unfold allNo dayNo
  cases b with
  | false => rfl
  | true => rw [if_pos rfl, if_pos rfl, (paid_congr (clip_clk d l) (clip_rst d l)).2, not_alone]
theorem yes_ofday (b : Bool) (s : SetP) (l : List SegP) (d : Int) : ofDayP (In (allYes b s l)) d = dayYes b s l d := by
  unfold allYes dayYes
  cases b with
  | false => exact canon_none fun t _ _ h => absurd h.1 (in_nil t)
  | true => rw [if_pos rfl, if_pos rfl]; exact paid_ofday d
theorem no_ofday (b : Bool) (s : SetP) (l : List SegP) (d : Int) : ofDayP (In (allNo b s l)) d = dayNo b s l d := by
  unfold allNo dayNo
  cases b with
  | false => exact canon_none fun t _ _ h => absurd h.1 (in_nil t)
  | true => rw [if_pos rfl, if_pos rfl]; exact not_ofday d
theorem clip_fits {d : Int} (h0 : 0 ≤ d) (h1 : d ≤ 255) {l : List SegP} (h : ∀ e ∈ l, Fit e.fr ∧ Fit e.to) : ∀ e ∈ clipL d l, Fit e.fr ∧ Fit e.to := fun e he => by
  unfold clipL at he
  obtain ⟨x, hx, rfl⟩ := List.mem_map.1 (List.mem_filter.1 he).1
  obtain ⟨⟨a, b⟩, c, e⟩ := h x hx
  unfold clipS Fit
  simp only []
  omega
theorem take_snoc_b {l : List SegP} {i : Nat} (h : i < l.length) : l.take (i + 1) = l.take i ++ [l.getD i SegP.none] := by
  rw [List.take_succ_eq_append_getElem h]
  simp [List.getD, h]
abbrev BRw (w : World) (base : Nat) (A : Option Addr) (n c : Nat) (l : List SegP) : Prop := TRow 48 5 w base A n c (l.map segL)
theorem bseg_info : (Try.prog.info? 48).map (fun i => (i.zero, i.size, i.bytes)) = some (some (.agg #[.int .i64 0, .int .i64 0, .int .i64 0, .int .i64 0, .int .i64 0]), 5, 40) := by kernel_rfl
theorem bsrow_more {w : World} {base n c : Nat} {A : Option Addr} {l : List SegP} (h : BRw w base A n c l) (x : SegP) (hm : n ≤ 1000) (hbase : base ≤ w.heap.size) {s : Nat} (hs : w.heap.size = s) :
    ∃ A' c' w', (Builtin.append_ #[31, 31] 31 #[.slice A n c, .slice (some ⟨s, 0, none⟩) 1 1]).run Try.prog (w.alloc (.cells #[.int .i64 x.fr, .int .i64 x.to, .int .i64 x.kd, .int .i64 x.id, .int .i64 x.cd] 48)) = .ok (.slice A' (n + 1) c') w' ∧ BRw w' base A' (n + 1) c' (l ++ [x]) ∧ Kept (fun b => b < base) w w' := by
  obtain ⟨A', c', w', h1, h2, h3, -, -⟩ := trow_one (t := 31) (e := 48) (k := 5) (by_ := 40) (z := .agg #[.int .i64 0, .int .i64 0, .int .i64 0, .int .i64 0, .int .i64 0]) Try.underlying31 bseg_info rfl (by omega) (by omega) h (segL x) rfl hm hbase hs
  have e0 : (ints .i64 (segL x)).toArray = #[.int .i64 x.fr, .int .i64 x.to, .int .i64 x.kd, .int .i64 x.id, .int .i64 x.cd] := rfl
  rw [e0] at h1
  refine ⟨A', c', w', h1, ?_, h3⟩
  have e : (l ++ [x]).map segL = l.map segL ++ [segL x] := by simp
  show TRow _ _ _ _ _ _ _ ((l ++ [x]).map segL)
  rw [e]
  exact h2
theorem bel_keptB {w0 w w' : World} (h : Below w0.heap.size w0 w) (k : Kept (fun b => b < w0.heap.size) w w') : Below w0.heap.size w0 w' :=
  ⟨k.os.trans h.os, k.tape.trans h.tape, k.output.trans h.output, Nat.le_trans h.size k.size, fun b hb => (k.block b hb).trans (h.block b hb)⟩
set_option maxHeartbeats 16000000 in
theorem breaksDays_main (s : SetP) (cs : Array Value) (w : World) (hC : SetC w s cs) (hf : s.Fit) (A : Option Addr) (n c : Nat) (l : List SegP) (hx : Segs w A n c l) (hF : ∀ e ∈ l, Fit e.fr ∧ Fit e.to) (hmax : n ≤ 9223372036854775807) (dy : Int) (dy0 : 0 ≤ dy) (dy1 : dy ≤ 255) :
    Calls Try.prog 5 #[.agg cs, .slice A n c, .int .u8 dy] w fun e w' => e = .returned (.bool true) ∧ Below w.heap.size w w' := by
  have mixed : Try.prog.follows Departure.mixedOrders = true := by kernel_rfl
  have HM := Lib.hid mixed
  have HZ := Lib.hid hC.size
  have HN0 := Lib.hid (bx_start hC hx)
  have HFEW := Lib.hid (fun W (hW : SetC W s cs) (hX : Segs W A n c l) => few15 s cs W hW A n c l hX hmax)
  obtain ⟨b, hb⟩ : ∃ b, checkB s = b := ⟨_, rfl⟩
  have CCK := Lib.hid (fun W (hW : SetC W s cs) => scheck_c hW hf b hb)
  have CPD := Lib.hid (fun W (hW : SetC W s cs) (hX : Segs W A n c l) hn => bpaid_c hW hf b hb A n c l hX hn hF)
  have COD := Lib.hid (fun W (hW : SetC W s cs) (hX : Segs W A n c l) hn => bofday_c hW hf b hb A n c l hX hn hF dy)
  have CPS := Lib.hid (fun W B q d (hW : SetC W s cs) (hX : Segs W B q d (clipL dy l)) hn => clip_yes b s l dy ▸ clip_no b s l dy ▸ bpaid_c hW hf b hb B q d (clipL dy l) hX hn (clip_fits dy0 dy1 hF))
  have PAY := Lib.hid (yes_plain b s l)
  have PAN := Lib.hid (no_plain b s l)
  have PDY := Lib.hid (dyes_plain b s l dy)
  have PDN := Lib.hid (dno_plain b s l dy)
  have lAY := pl_len PAY.out
  have lAN := pl_len PAN.out
  have lDY := pl_len PDY.out
  have lDN := pl_len PDN.out
  have CDY := Lib.hid (fun W D d (hW : Spans W D (allYes b s l)) => yes_ofday b s l dy ▸ ofday_any D d (allYes b s l) dy W hW (by omega))
  have CDN := Lib.hid (fun W D d (hW : Spans W D (allNo b s l)) => no_ofday b s l dy ▸ ofday_any D d (allNo b s l) dy W hW (by omega))
  generalize allYes b s l = PA at *
  generalize allNo b s l = NA at *
  generalize dayYes b s l dy = DY at *
  generalize dayNo b s l dy = DN at *
  clear hC hf hb hF
  have hln := hx.2
  clear hx
  go_enter Try.func5, Try.ntmps5
  go_wp2_with fail
  refine (awake15 _).mono ?_
  rintro e w1 ⟨rfl, b1⟩
  have HN1 := Lib.hid (HN0.out.below b1)
  clear HN0 b1
  go_wp2_with (refine wpList_load_sp (by rfl) _ rfl w.heap.size rfl cs HN1.out.h HZ.out ?_)
  refine (HFEW.out _ HN1.out.c HN1.out.x).mono ?_
  rintro e w2 ⟨⟨q, rfl, hq⟩, b2⟩
  have HN2 := Lib.hid (HN1.out.below b2)
  clear HN1 b2 HFEW
  cases q with
  | false =>
    have HE := Lib.hid HN2.out.b
    clear HN2 hq
    go_wp2
    go_ret
    exact ⟨rfl, HE.out⟩
  | true =>
    have h30 := hq rfl
    clear hq
    go_wp2
    go_loopg [9, 10] n (fun kx s9 s10 wr => ∃ (k q d : Nat) (B : Option Addr), s9 = .slice B q d ∧ s10 = .int .i64 k ∧ k + kx = n ∧ q ≤ k ∧ Hid ((clipL dy (l.take k)).length = q) ∧ Hid (BRw wr w2.heap.size B q d (clipL dy (l.take k))) ∧ Hid (Below w2.heap.size w2 wr))
    case atStart => exact ⟨0, 0, 0, none, rfl, rfl, by omega, by omega, Lib.hid (by rw [List.take_zero]; rfl), Lib.hid (by rw [List.take_zero]; exact TRow.nil _ _), Lib.hid (Below.refl _ _)⟩
    case round =>
      obtain ⟨k, q, d, B, rfl, rfl, hk, hqk, HQ, HR, HW⟩ := hrel
      by_cases hlt : k < n
      · have HLr := Lib.hid (HN2.out.x.below HW.out)
        obtain ⟨ba, oa, rfl⟩ := HLr.out.form (by omega)
        obtain ⟨x, hx⟩ : ∃ x, l.getD k SegP.none = x := ⟨_, rfl⟩
        obtain ⟨y0, y1, y2, y3, y4⟩ := segs_num HLr.out hlt x hx
        have yl := cell_lt y0
        have HTK : Hid (l.take (k + 1) = l.take k ++ [x]) := by show _ = _; rw [← hx]; exact take_snoc_b (by omega)
        have i0 : (0 : Int) ≤ (k : Int) := by omega
        have i1 : (k : Int) < (n : Int) := by omega
        obtain ⟨m1, hm1⟩ : ∃ m1, max x.fr (dy * 86400) = m1 := ⟨_, rfl⟩
        obtain ⟨m2, hm2⟩ : ∃ m2, min x.to ((dy + 1) * 86400) = m2 := ⟨_, rfl⟩
        have HM1 := Lib.hid hm1
        have HM2 := Lib.hid hm2
        have HSN := Lib.hid (clip_snoc dy (l.take k) x)
        have HCS : Hid (clipS dy x = ⟨m1, m2, x.kd, x.id, x.cd⟩) := by show _ = _; unfold clipS; rw [hm1, hm2]
        rw [hm1, hm2, HCS.out, ← HTK.out] at HSN
        clear hx hm1 hm2 HLr HCS HTK
        have hba := bel_alloc (Below.refl wr.heap.size wr) (.cells #[.int .i64 m1, .int .i64 m2, .int .i64 x.kd, .int .i64 x.id, .int .i64 x.cd] 48)
        have HWA := Lib.hid (bel_on HW.out hba)
        by_cases g1 : m1 < m2
        · have HEE := Lib.hid (HSN.out.trans (by rw [if_pos g1]))
          obtain ⟨A9, c9, w9, hr9, row9, kp9⟩ := bsrow_more (HR.out.alloc (.cells #[.int .i64 m1, .int .i64 m2, .int .i64 x.kd, .int .i64 x.id, .int .i64 x.cd] 48)) ⟨m1, m2, x.kd, x.id, x.cd⟩ (by omega) HWA.out.size (s := wr.heap.size + 1) (by simp)
          have HR9 := Lib.hid hr9
          have HRW9 := Lib.hid row9
          have HW9 := Lib.hid (bel_keptB HWA.out kp9)
          clear hr9 row9 kp9 HSN
          go_wp2_with (first | refine wpList_max2i (o := ⟨some 41, _, _, _, _, _⟩) _ _ m1 HM1.out rfl rfl rfl rfl ?_ | refine wpList_min2i (o := ⟨some 48, _, _, _, _, _⟩) _ _ m2 HM2.out rfl rfl rfl rfl ?_ | (at_builtin; refine wpList_append_run (o := ⟨some 58, _, _, _, _, _⟩) HR9.out rfl rfl rfl rfl ?_))
          go_roundg (n - (k + 1))
          case measure => omega
          case rel => exact ⟨k + 1, q + 1, c9, A9, rfl, by go_num, by omega, by omega, Lib.hid (by rw [HEE.out, List.length_append, HQ.out]; rfl), Lib.hid (by rw [HEE.out]; exact HRW9.out), HW9⟩
        · have HEE := Lib.hid (HSN.out.trans (by rw [if_neg g1, List.append_nil]))
          have HRA := Lib.hid (HR.out.alloc (.cells #[.int .i64 m1, .int .i64 m2, .int .i64 x.kd, .int .i64 x.id, .int .i64 x.cd] 48))
          clear HSN hba
          go_wp2_with (first | refine wpList_max2i (o := ⟨some 41, _, _, _, _, _⟩) _ _ m1 HM1.out rfl rfl rfl rfl ?_ | refine wpList_min2i (o := ⟨some 48, _, _, _, _, _⟩) _ _ m2 HM2.out rfl rfl rfl rfl ?_)
          go_roundg (n - (k + 1))
          case measure => omega
          case rel => exact ⟨k + 1, q, d, B, rfl, by go_num, by omega, by omega, Lib.hid (by rw [HEE.out]; exact HQ.out), Lib.hid (by rw [HEE.out]; exact HRA.out), HWA⟩
      · obtain rfl : k = n := by omega
        have e : l.take k = l := List.take_of_length_le (by omega)
        rw [e] at HR HQ
        have HN3 := Lib.hid (HN2.out.below HW.out)
        have HS3 := Lib.hid ((show Segs _ _ _ _ _ from ⟨Sl.of_own HR.out, HQ.out⟩))
        clear HR HW HN2 e HQ
        go_wp2_with (refine wpList_load_sp (by rfl) _ rfl w.heap.size rfl cs HN3.out.h HZ.out ?_)
        refine (CPD.out _ HN3.out.c HN3.out.x (by omega)).mono ?_
        rintro e w4 ⟨A4, c4, B4, d4, rfl, r4, s4, b4⟩
        have HN4 := Lib.hid (HN3.out.below b4)
        have HS4 := Lib.hid (HS3.out.below b4)
        have HA4 := Lib.hid (r4.spans (.of_plain PAY.out))
        have HB4 := Lib.hid (s4.spans (.of_plain PAN.out))
        clear r4 s4 b4 HN3 HS3 CPD
        go_wp2_with (refine wpList_load_sp (by rfl) _ rfl w.heap.size rfl cs HN4.out.h HZ.out ?_)
        refine (COD.out _ HN4.out.c HN4.out.x (by omega)).mono ?_
        rintro e w5 ⟨A5, c5, B5, d5, rfl, r5, s5, b5⟩
        have HN5 := Lib.hid (HN4.out.below b5)
        have HS5 := Lib.hid (HS4.out.below b5)
        have HA5 := Lib.hid (HA4.out.below b5)
        have HB5 := Lib.hid (HB4.out.below b5)
        have HP5 := Lib.hid (r5.spans (.of_plain PDY.out))
        have HQ5 := Lib.hid (s5.spans (.of_plain PDN.out))
        clear r5 s5 b5 HN4 HS4 HA4 HB4 COD
        go_wp2_with (refine wpList_load_sp (by rfl) _ rfl w.heap.size rfl cs HN5.out.h HZ.out ?_)
        refine (CPS.out _ _ _ _ HN5.out.c HS5.out (by omega)).mono ?_
        rintro e w6 ⟨A6, c6, B6, d6, rfl, r6, s6, b6⟩
        have HE6 := Lib.hid (bel_on HN5.out.b b6)
        have HA6 := Lib.hid (HA5.out.below b6)
        have HB6 := Lib.hid (HB5.out.below b6)
        have HP6 := Lib.hid (HP5.out.below b6)
        have HQ6 := Lib.hid (HQ5.out.below b6)
        have HX6 := Lib.hid (r6.spans (.of_plain PDY.out))
        have HY6 := Lib.hid (s6.spans (.of_plain PDN.out))
        clear r6 s6 b6 HN5 HS5 HA5 HB5 HP5 HQ5 CPS
        go_wp2_with fail
        refine (CDY.out _ _ _ HA6.out).mono ?_
        rintro e w7 ⟨A7, c7, rfl, r7, b7⟩
        have HE7 := Lib.hid (bel_on HE6.out b7)
        have HB7 := Lib.hid (HB6.out.below b7)
        have HP7 := Lib.hid (HP6.out.below b7)
        have HQ7 := Lib.hid (HQ6.out.below b7)
        have HX7 := Lib.hid (HX6.out.below b7)
        have HY7 := Lib.hid (HY6.out.below b7)
        have HV7 := Lib.hid (r7.spans (.of_plain PDY.out))
        clear r7 b7 HE6 HA6 HB6 HP6 HQ6 HX6 HY6 CDY
        go_wp2_with fail
        refine (same_any A7 A5 c7 c5 DY _ HV7.out HP7.out (by omega)).mono ?_
        rintro e w8 ⟨rfl, b8⟩
        have HE8 := Lib.hid (bel_on HE7.out b8)
        have HB8 := Lib.hid (HB7.out.below b8)
        have HP8 := Lib.hid (HP7.out.below b8)
        have HQ8 := Lib.hid (HQ7.out.below b8)
        have HX8 := Lib.hid (HX7.out.below b8)
        have HY8 := Lib.hid (HY7.out.below b8)
        clear b8 HE7 HB7 HP7 HQ7 HX7 HY7 HV7
        go_wp2_with fail
        refine (CDN.out _ _ _ HB8.out).mono ?_
        rintro e w9 ⟨A9, c9, rfl, r9, b9⟩
        have HE9 := Lib.hid (bel_on HE8.out b9)
        have HP9 := Lib.hid (HP8.out.below b9)
        have HQ9 := Lib.hid (HQ8.out.below b9)
        have HX9 := Lib.hid (HX8.out.below b9)
        have HY9 := Lib.hid (HY8.out.below b9)
        have HV9 := Lib.hid (r9.spans (.of_plain PDN.out))
        clear r9 b9 HE8 HB8 HP8 HQ8 HX8 HY8 CDN
        go_wp2_with fail
        refine (same_any A9 B5 c9 d5 DN _ HV9.out HQ9.out (by omega)).mono ?_
        rintro e wa ⟨rfl, b10⟩
        have HE10 := Lib.hid (bel_on HE9.out b10)
        have HP10 := Lib.hid (HP9.out.below b10)
        have HQ10 := Lib.hid (HQ9.out.below b10)
        have HX10 := Lib.hid (HX9.out.below b10)
        have HY10 := Lib.hid (HY9.out.below b10)
        clear b10 HE9 HP9 HQ9 HX9 HY9 HV9
        go_wp2_with fail
        refine (same_any A6 A5 c6 c5 DY _ HX10.out HP10.out (by omega)).mono ?_
        rintro e wb ⟨rfl, b11⟩
        have HE11 := Lib.hid (bel_on HE10.out b11)
        have HQ11 := Lib.hid (HQ10.out.below b11)
        have HY11 := Lib.hid (HY10.out.below b11)
        clear b11 HE10 HP10 HQ10 HX10 HY10
        go_wp2_with fail
        refine (same_any B6 B5 d6 d5 DN _ HY11.out HQ11.out (by omega)).mono ?_
        rintro e wd ⟨rfl, b12⟩
        have HE12 := Lib.hid (bel_on HE11.out b12)
        clear b12
        go_wp2
        go_ret
        exact ⟨rfl, HE12.out⟩
theorem breaksDays_walk (s : SetP) (A1 A2 A3 A4 A5 A6 : Option Addr) (c1 c2 c3 c4 c5 c6 : Nat) (a1 : Option Addr) (len1 cap1 : Nat) (z1 : List SegP) (dy : Int) (w : World) (hs : SetAt w s A1 A2 A3 A4 A5 A6 c1 c2 c3 c4 c5 c6) (hf : s.Fit)
   (w1 : Segs w a1 len1 cap1 z1) (i1 : ∀ e ∈ z1, Fit e.fr ∧ Fit e.to) (l1 : len1 ≤ cap1) (l1' : cap1 ≤ 9223372036854775807) (dy0 : 0 ≤ dy) (dy1 : dy ≤ 255) :
    Calls Try.prog 5 #[setV s A1 A2 A3 A4 A5 A6 c1 c2 c3 c4 c5 c6, .slice a1 len1 cap1, .int .u8 dy] w fun e w' => e = .returned (.bool true) ∧ Below w.heap.size w w' := by
  obtain ⟨cs, hcs⟩ : ∃ cs, setV s A1 A2 A3 A4 A5 A6 c1 c2 c3 c4 c5 c6 = .agg cs := ⟨_, rfl⟩
  rw [hcs]
  exact breaksDays_main s cs w ⟨A1, A2, A3, A4, A5, A6, c1, c2, c3, c4, c5, c6, hcs, hs⟩ hf a1 len1 cap1 z1 w1 i1 (by omega) dy dy0 dy1
end Go.Proofs.Ytghfhoodbiiciaa
