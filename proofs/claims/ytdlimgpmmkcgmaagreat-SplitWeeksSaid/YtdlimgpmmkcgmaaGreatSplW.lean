/-
  A week's clip of parts of sessions: what SplitWeeks asks.
-/
import Derived.Test.YtdlimgpmmkcgmaaGreatSplU
import Derived.Test.YtdlimgpmmkcgmaaGreatZba
import Derived.Test.YtdlimgpmmkcgmaaGreatZbc
import Derived.Test.YtdlimgpmmkcgmaaGreatZaz
import Derived.Test.YtdlimgpmmkcgmaaGreatZan
import Derived.Test.YtdlimgpmmkcgmaaGreatZaj
namespace Go.Proofs.YtdlimgpmmkcgmaaGreat
open Go.RowKit
set_option linter.unusedVariables false
set_option linter.unusedSimpArgs false
set_option maxRecDepth 20000

def wclipS (d : Int) (x : SegP) : SegP := ⟨max x.fr (d * 604800), min x.to ((d + 1) * 604800), x.kd, x.id, x.cd⟩
def wclipL (d : Int) (l : List SegP) : List SegP := (l.map (wclipS d)).filter fun x => decide (x.fr < x.to)
theorem wclip_snoc (d : Int) (l : List SegP) (x : SegP) : wclipL d (l ++ [x]) = wclipL d l ++ (if max x.fr (d * 604800) < min x.to ((d + 1) * 604800) then [wclipS d x] else []) := by
  unfold wclipL
  rw [List.map_append, List.filter_append]
  congr 1
  by_cases h : max x.fr (d * 604800) < min x.to ((d + 1) * 604800)
  · rw [if_pos h, List.map_cons, List.map_nil, List.filter_cons, if_pos (decide_eq_true (show (wclipS d x).fr < (wclipS d x).to from h))]; rfl
  · rw [if_neg h, List.map_cons, List.map_nil, List.filter_cons, if_neg (show ¬ (decide ((wclipS d x).fr < (wclipS d x).to) = true) from fun q => h (of_decide_eq_true q))]; rfl
theorem wclip_mem {d : Int} {l : List SegP} {t : Int} : InS (wclipL d l) t ↔ InS l t ∧ d * 604800 ≤ t ∧ t < (d + 1) * 604800 := by
  unfold wclipL
  constructor
  · rintro ⟨y, hy, h1, h2⟩
    obtain ⟨x, hx, rfl⟩ := List.mem_map.1 (List.mem_filter.1 hy).1
    simp only [wclipS] at h1 h2
    exact ⟨⟨x, hx, by omega, by omega⟩, by omega, by omega⟩
  · rintro ⟨⟨x, hx, h1, h2⟩, h3, h4⟩
    refine ⟨wclipS d x, List.mem_filter.2 ⟨List.mem_map.2 ⟨x, hx, rfl⟩, decide_eq_true ?_⟩, ?_, ?_⟩ <;> simp only [wclipS] <;> omega
theorem wclip_kind (d : Int) (l : List SegP) : (wclipL d l).filter (ofKind 3) = wclipL d (l.filter (ofKind 3)) := by
  unfold wclipL
  have e : ∀ l : List SegP, (l.map (wclipS d)).filter (ofKind 3) = (l.filter (ofKind 3)).map (wclipS d) := fun l => by
    rw [List.filter_map]
    rfl
  rw [← e, List.filter_filter, List.filter_filter]
  exact List.filter_congr fun x _ => Bool.and_comm _ _
theorem wclip_clk (d : Int) (l : List SegP) : ∀ t, 0 ≤ t → t < 32054400 → (clkS (wclipL d l) t ↔ onWk (clkS l) d t) := fun t h0 h1 => by
  unfold clkS onWk clockP
  rw [in_can h0 h1, in_can h0 h1, wclip_mem]
  exact ⟨fun h => ⟨h.1, by omega⟩, fun h => ⟨h.1, by have := h.2; omega⟩⟩
theorem wclip_rst (d : Int) (l : List SegP) : ∀ t, 0 ≤ t → t < 32054400 → (rstS (wclipL d l) t ↔ onWk (rstS l) d t) := fun t h0 h1 => by
  unfold rstS onWk clockP
  rw [wclip_kind, in_can h0 h1, in_can h0 h1, wclip_mem]
  exact ⟨fun h => ⟨h.1, by omega⟩, fun h => ⟨h.1, by have := h.2; omega⟩⟩
theorem wclip_yes (b : Bool) (s : SetP) (l : List SegP) (d : Int) : allYes b s (wclipL d l) = ofWeekP (In (allYes b s l)) d := by
  unfold allYes
  cases b with
  | false => exact (canon_none fun t _ _ h => absurd h.1 (in_nil t)).symm
  | true => rw [if_pos rfl, if_pos rfl, (paid_congr (wclip_clk d l) (wclip_rst d l)).1, paid_wk]
theorem wclip_no (b : Bool) (s : SetP) (l : List SegP) (d : Int) : allNo b s (wclipL d l) = ofWeekP (In (allNo b s l)) d := by
  unfold allNo
  cases b with
  | false => exact (canon_none fun t _ _ h => absurd h.1 (in_nil t)).symm
  | true => rw [if_pos rfl, if_pos rfl, (paid_congr (wclip_clk d l) (wclip_rst d l)).2, not_wk]
theorem onwk_in {p : Int → Prop} (hp : ∀ t, p t → 0 ≤ t ∧ t < 32054400) (k : Int) : onWk (In (ofWeekP p k)) k = onWk p k := by
  funext t
  unfold onWk ofWeekP
  rw [canon_in]
  exact propext ⟨fun h => ⟨h.1.2.2.1, h.2⟩, fun h => ⟨⟨(hp t h.1).1, (hp t h.1).2, h⟩, h.2⟩⟩
theorem onwk_off {p : Int → Prop} {k j : Int} (h : j ≠ k) : onWk (In (ofWeekP p k)) j = fun _ => False := by
  funext t
  unfold onWk ofWeekP
  rw [canon_in]
  exact propext ⟨fun q => h (q.2.symm.trans q.1.2.2.2), fun q => q.elim⟩
theorem three_wk {b : Bool} {s : SetP} {p q : Int → Prop} {k j : Int} (h : onWk p k = onWk q j) : regL b s p k = regL b s q j ∧ ovrL b s p k = ovrL b s q j ∧ dblL b s p k = dblL b s q j := by
  unfold regL ovrL dblL
  rw [h]
  exact ⟨rfl, rfl, rfl⟩
theorem yes_bd {b : Bool} {s : SetP} {l : List SegP} (t : Int) (h : In (allYes b s l) t) : 0 ≤ t ∧ t < 32054400 := (yes_plain b s l).bound h
/-- SplitWeeks: a week's parts are those of the clip. -/
theorem wclip_same (b : Bool) (s : SetP) (l : List SegP) (k : Int) : wpartsL b s (wclipL k l) k = wpartsL b s l k := by
  rw [wparts_is, wparts_is]
  have e : catW b s (wclipL k l) k = catW b s l k := by
    obtain ⟨h1, h2, h3⟩ := three_wk (b := b) (s := s) (onwk_in (p := In (allYes b s l)) yes_bd k)
    unfold catW darkL
    rw [wclip_yes, wclip_no, h1, h2, h3, ofweek_twice, ofweek_twice]
  rw [e]
theorem off_three (b : Bool) (s : SetP) {p : Int → Prop} {k : Int} (h : onWk p k = fun _ => False) : regL b s p k = [] ∧ ovrL b s p k = [] ∧ dblL b s p k = [] := by
  cases b with
  | false => exact ⟨rfl, rfl, rfl⟩
  | true =>
    unfold regL ovrL dblL
    rw [h, if_pos rfl, if_pos rfl, if_pos rfl]
    refine ⟨canon_none fun t _ _ q => short_in (reg_in q), canon_none fun t _ _ q => ?_, canon_none fun t _ _ q => q.1⟩
    rcases q with q | q
    · exact short_in q.1
    · exact short_in q.1
theorem catL_off (N : List (Int × Int)) : catL [] [] [] [] N = fun _ => [] := by
  funext c
  match c with
  | 0 => rfl
  | 1 => exact can_false fun t h => in_nil t h.1
  | 2 => exact can_false fun t h => in_nil t h.1
  | 3 => exact can_false fun t h => in_nil t h.1
  | 4 => exact can_false fun t h => in_nil t h.1
  | 5 => exact can_false fun t h => in_nil t h.1
  | 6 => exact can_false fun t h => in_nil t h.1
  | c + 7 => rfl
/-- SplitWeeks: another week has none. -/
theorem wclip_none (b : Bool) (s : SetP) (l : List SegP) {k j : Int} (h : j ≠ k) : wpartsL b s (wclipL k l) j = [] := by
  rw [wparts_is]
  have e : catW b s (wclipL k l) j = fun _ => [] := by
    obtain ⟨h1, h2, h3⟩ := off_three b s (onwk_off (p := In (allYes b s l)) h)
    unfold catW
    rw [wclip_yes, wclip_no, h1, h2, h3, ofweek_other h]
    exact catL_off _
  rw [e]
  rfl
theorem wclip_fits {d : Int} (h0 : 0 ≤ d) (h1 : d ≤ 255) {l : List SegP} (h : ∀ e ∈ l, Fit e.fr ∧ Fit e.to) : ∀ e ∈ wclipL d l, Fit e.fr ∧ Fit e.to := fun e he => by
  unfold wclipL at he
  obtain ⟨x, hx, rfl⟩ := List.mem_map.1 (List.mem_filter.1 he).1
  obtain ⟨⟨a, b⟩, c, e⟩ := h x hx
  unfold wclipS Fit
  simp only []
  omega
theorem take_snoc_w {l : List SegP} {i : Nat} (h : i < l.length) : l.take (i + 1) = l.take i ++ [l.getD i SegP.none] := by
  rw [List.take_succ_eq_append_getElem h]
  simp [List.getD, h]
abbrev WRw (w : World) (base : Nat) (A : Option Addr) (n c : Nat) (l : List SegP) : Prop := TRow 59 5 w base A n c (l.map segL)
theorem wseg_info : (Tryz.prog.info? 59).map (fun i => (i.zero, i.size, i.bytes)) = some (some (.agg #[.int .i64 0, .int .i64 0, .int .i64 0, .int .i64 0, .int .i64 0]), 5, 40) := by kernel_rfl
theorem wsrow_more {w : World} {base n c : Nat} {A : Option Addr} {l : List SegP} (h : WRw w base A n c l) (x : SegP) (hm : n ≤ 1000) (hbase : base ≤ w.heap.size) {s : Nat} (hs : w.heap.size = s) :
    ∃ A' c' w', (Builtin.append_ #[31, 31] 31 #[.slice A n c, .slice (some ⟨s, 0, none⟩) 1 1]).run Tryz.prog (w.alloc (.cells #[.int .i64 x.fr, .int .i64 x.to, .int .i64 x.kd, .int .i64 x.id, .int .i64 x.cd] 59)) = .ok (.slice A' (n + 1) c') w' ∧ WRw w' base A' (n + 1) c' (l ++ [x]) ∧ Kept (fun b => b < base) w w' := by
  obtain ⟨A', c', w', h1, h2, h3, -, -⟩ := trow_one (t := 31) (e := 59) (k := 5) (by_ := 40) (z := .agg #[.int .i64 0, .int .i64 0, .int .i64 0, .int .i64 0, .int .i64 0]) Tryz.underlying31 wseg_info rfl (by omega) (by omega) h (segL x) rfl hm hbase hs
  have e0 : (ints .i64 (segL x)).toArray = #[.int .i64 x.fr, .int .i64 x.to, .int .i64 x.kd, .int .i64 x.id, .int .i64 x.cd] := rfl
  rw [e0] at h1
  refine ⟨A', c', w', h1, ?_, h3⟩
  have e : (l ++ [x]).map segL = l.map segL ++ [segL x] := by simp
  show TRow _ _ _ _ _ _ _ ((l ++ [x]).map segL)
  rw [e]
  exact h2
theorem bel_keptW {w0 w w' : World} (h : Below w0.heap.size w0 w) (k : Kept (fun b => b < w0.heap.size) w w') : Below w0.heap.size w0 w' :=
  ⟨k.os.trans h.os, k.tape.trans h.tape, k.output.trans h.output, Nat.le_trans h.size k.size, fun b hb => (k.block b hb).trans (h.block b hb)⟩
end Go.Proofs.YtdlimgpmmkcgmaaGreat
