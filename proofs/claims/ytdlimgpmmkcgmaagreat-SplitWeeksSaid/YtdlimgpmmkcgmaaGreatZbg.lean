/-
  The document's own cut of a day: three lists, in a variable of its own.
  Slices of parts cut, and grown by what a slice of parts holds.
  What SplitOnce and SplitTotals ask of a week's parts. No program here.
-/
import Derived.Test.YtdlimgpmmkcgmaaGreatZba
import Derived.Test.YtdlimgpmmkcgmaaGreatZbc
import Derived.Test.YtdlimgpmmkcgmaaGreatZas
import Derived.Test.YtdlimgpmmkcgmaaGreatZae
import Derived.Laws.Tables
namespace Go.Proofs.YtdlimgpmmkcgmaaGreat
open Go.RowKit
set_option linter.unusedVariables false
set_option linter.unusedSimpArgs false
set_option maxRecDepth 20000

theorem oplain_get {L : List (Int × Int)} (h : PlainFrom 0 L) {i : Nat} (hi : i < L.length) : 0 ≤ (L.getD i (0, 0)).1 ∧ (L.getD i (0, 0)).1 < (L.getD i (0, 0)).2 ∧ (L.getD i (0, 0)).2 ≤ 32054400 :=
  (plain_pairs.1 h).1 _ (by simp [List.getD, hi])
theorem take_plain {L : List (Int × Int)} (h : PlainFrom 0 L) (k : Nat) : PlainFrom 0 (L.take k) :=
  plain_pairs.2 ⟨fun s hs => (plain_pairs.1 h).1 s (List.mem_of_mem_take hs), (plain_pairs.1 h).2.sublist (List.take_sublist _ _)⟩
theorem oszL_bd {L : List (Int × Int)} (h : PlainFrom 0 L) : 0 ≤ szL L ∧ szL L ≤ 32054400 := by
  have e := szL_canon (In L)
  rw [canon_self h] at e
  have := sz_bound (In L)
  omega
theorem take_snoc_o (L : List (Int × Int)) (k : Nat) (h : k < L.length) : L.take (k + 1) = L.take k ++ [L.getD k (0, 0)] := by
  rw [List.take_succ_eq_append_getElem h]
  simp [List.getD, h]
theorem cut_take (x y : Int) (L : List (Int × Int)) (k : Nat) (h : k < L.length) : cutG x y 0 (L.take (k + 1)) = cutG x y 0 (L.take k) ++ [(cutP x (szL (L.take k)) (L.getD k (0, 0)), cutP y (szL (L.take k)) (L.getD k (0, 0)))] := by
  rw [take_snoc_o L k h, cutG_snoc, Int.zero_add]
theorem wpList_load3 {ops : Array Oper} {rest : List Oper} {o : Oper} {a : Act} {w : World} {Q : Exit → Act → World → Prop} (hgd : o.guard = none) (x : Operand) (ho : o.op = .load 68 x)
    (g : Nat) (hx : a.eval x = .pointer (some ⟨g, 0, none⟩)) (cs : Array Value) (hg : Has w g cs) (hs : cs.size = 3)
    (h : wpList Tryz.prog ops Q rest (a.put o.dst (.agg cs)) w) : wpList Tryz.prog ops Q (o :: rest) a w := by
  obtain ⟨t, hg⟩ := hg
  exact wpList_load_row hgd _ x ho g hx t cs (0, 0) _ hg Tryz.underlying68 rfl (by rw [hs]; kernel_rfl) h
theorem wpList_store3 {ops : Array Oper} {rest : List Oper} {o : Oper} {a : Act} {w : World} {Q : Exit → Act → World → Prop} (hgd : o.guard = none) (x y : Operand) (ho : o.op = .store 68 x y)
    (g : Nat) (cs : Array Value) (hx : a.eval x = .pointer (some ⟨g, 0, none⟩)) (hy : a.eval y = .agg cs) (old : Array Value) (hg : Has w g old) (hold : old.size = 3) (hs : cs.size = 3) (h1 : cs.all (·.oneCell') = true)
    (h : wpList Tryz.prog ops Q rest (a.put o.dst undef) (w.setRow g cs)) : wpList Tryz.prog ops Q (o :: rest) a w := by
  obtain ⟨t, hg⟩ := hg
  exact wpList_store_row hgd _ x y ho g cs hx hy t old hg (by rw [hs]; kernel_rfl) (by rw [hold, hs]) h1 h
theorem wp_store3 {o : Oper} {a : Act} {w : World} {K : Act → World → Prop} {Q : Exit → Act → World → Prop} (x y : Operand) (ho : o.op = .store 68 x y)
    (g : Nat) (cs : Array Value) (hx : a.eval x = .pointer (some ⟨g, 0, none⟩)) (hy : a.eval y = .agg cs) (old : Array Value) (hg : Has w g old) (hold : old.size = 3) (hs : cs.size = 3) (h1 : cs.all (·.oneCell') = true)
    (h : K (a.put o.dst undef) (w.setRow g cs)) : o.wp Tryz.prog a w K Q := by
  obtain ⟨t, hg⟩ := hg
  exact wp_store_row _ x y ho g cs hx hy t old hg (by rw [hs]; kernel_rfl) (by rw [hold, hs]) h1 h
theorem has_set3 {w : World} {g : Nat} {old cs : Array Value} (h : Has w g old) : Has (w.setRow g cs) g cs := by
  obtain ⟨t, h⟩ := h
  exact ⟨t, setRow_heap _ _ _ _ _ _ h⟩
theorem three_run {fn : Func} {p : Tmp} (h : fn.results = #[.cell p 68]) (tmps : Array Value) (w : World) (g : Nat) (cs : Array Value) (hp : tmps.getD p undef = .pointer (some ⟨g, 0, none⟩)) (hg : Has w g cs) (hs : cs.size = 3) :
    (results fn tmps).run Tryz.prog w = .ok (.agg cs) w := by
  obtain ⟨t, hg⟩ := hg
  exact results_cell_row h tmps w g t cs (0, 0) _ hp hg Tryz.underlying68 rfl (by rw [hs]; kernel_rfl)
/-- What a call that tells three lists in a structure answers. -/
def Tells3 (w : World) (xs ys zs : List (Int × Int)) (e : Ending) (w' : World) : Prop :=
  ∃ A c B d E f, e = .returned (.agg #[.slice A xs.length c, .slice B ys.length d, .slice E zs.length f]) ∧ Row w' w.heap.size A c xs ∧ Row w' w.heap.size B d ys ∧ Row w' w.heap.size E f zs ∧ Below w.heap.size w w'
def nil3 : Array Value := #[.slice none 0 0, .slice none 0 0, .slice none 0 0]
def one3 (A : Option Addr) (n c : Nat) (B : Option Addr) (m d : Nat) (E : Option Addr) (k f : Nat) : Array Value := #[.slice A n c, .slice B m d, .slice E k f]
theorem one3_one (A : Option Addr) (n c : Nat) (B : Option Addr) (m d : Nat) (E : Option Addr) (k f : Nat) : (one3 A n c B m d E k f).all (·.oneCell') = true := by simp [one3, Value.oneCell']
theorem row_setRow {w : World} {base c : Nat} {A : Option Addr} {xs : List (Int × Int)} (h : Row w base A c xs) {g : Nat} (hg : ∀ x, A = some x → x.block ≠ g) (cs : Array Value) : Row (w.setRow g cs) base A c xs := h.keep fun x hx => setRow_other w g _ cs (hg x hx)
set_option maxHeartbeats 16000000 in
theorem cut_c {w : World} {s : SetP} {cs : Array Value} (h : SetC w s cs) (hm : s.May) (A : Option Addr) (cap : Nat) (L : List (Int × Int)) (hx : Spans w A L) (hP : PlainFrom 0 L) :
    Calls Tryz.prog 74 #[.agg cs, .slice A L.length cap] w (Tells3 w (cutG 0 s.reg 0 L) (cutG s.reg s.over 0 L) (cutG s.over 40000000 0 L)) := by
  obtain ⟨q13, q14, q15⟩ := setC_over h
  have hr := hm.reg
  have ho := hm.over
  have br : 0 ≤ s.reg ∧ s.reg ≤ 86400 := by omega
  have bo : 0 ≤ s.over ∧ s.over ≤ 86400 := by omega
  generalize s.reg = rg at *
  generalize s.over = ov at *
  clear h hm hr ho
  obtain ⟨N, hN⟩ : ∃ N, L.length = N := ⟨_, rfl⟩
  have HP := Lib.hid hP
  have lN := plain_len hP (by omega)
  rw [hN] at lN
  obtain ⟨w1, hw1⟩ : ∃ w1, ((w.alloc (.cells cs 30)).alloc (.cells nil3 68)).alloc (.cells nil3 68) = w1 := ⟨_, rfl⟩
  have hb1 : Below w.heap.size w w1 := by rw [← hw1]; exact bel_alloc (bel_alloc (bel_alloc (Below.refl _ _) _) _) _
  have HB : Hid (Has w1 w.heap.size cs) := by show Has _ _ _; rw [← hw1]; exact ((Has.new _ _ _ rfl).alloc _).alloc _
  have HR4 : Has w1 (w.heap.size + 1) nil3 := by rw [← hw1]; exact (Has.new _ _ _ (by simp)).alloc _
  have HO5 : Has w1 (w.heap.size + 1 + 1) nil3 := by rw [← hw1]; exact Has.new _ _ _ (by simp)
  have hz1 : w1.heap.size = w.heap.size + 1 + 1 + 1 := by rw [← hw1]; simp
  obtain ⟨g4, hg4⟩ : ∃ g, w.heap.size + 1 = g := ⟨_, rfl⟩
  obtain ⟨g5, hg5⟩ : ∃ g, g4 + 1 = g := ⟨_, rfl⟩
  rw [hg4] at HR4
  rw [hg4, hg5] at HO5 hz1
  have hgz : w.heap.size < g4 ∧ g4 < g5 := by omega
  have HX := Lib.hid hx
  have HZ1 := Lib.hid hz1
  have HB1 := Lib.hid hb1
  have HG5 : Hid (g5 < w1.heap.size) := by show _ < _; omega
  have HR4 := Lib.hid HR4
  have HO5 := Lib.hid HO5
  clear hx hz1 hb1 hP
  unfold nil3 at hw1
  rw [show L.length = N from hN]
  go_enter Tryz.func74, Tryz.ntmps74
  go_wp2
  clear hg4 hg5 hw1
  have HNN := Lib.hid hN
  clear hN
  go_loopw [6, 7] (fun s6 s7 wr => ∃ (k : Nat) (P : Option Addr) (p : Nat) (Q : Option Addr) (q : Nat) (R : Option Addr) (r : Nat), k ≤ N ∧ s6 = .int .i64 (szL (L.take k)) ∧ s7 = .int .i64 k ∧ Hid (Has wr g5 (one3 P k p Q k q R k r)) ∧ Hid (Thr wr w1.heap.size P p (cutG 0 rg 0 (L.take k)) Q q (cutG rg ov 0 (L.take k)) R r (cutG ov 40000000 0 (L.take k))) ∧ Hid (Kept (fun x => x < w1.heap.size ∧ x ≠ g5) w1 wr)) (fun _ s7 _ => N - (intOf s7).toNat)
  case atStart => exact ⟨0, none, 0, none, 0, none, 0, Nat.zero_le _, rfl, rfl, HO5.out, Thr.start _ _, Kept.refl _ _⟩
  case round =>
    obtain ⟨k, P, p, Q, q, R, r, hk, rfl, rfl, hH, hT, hKp⟩ := hrel
    have hgl := HG5.out
    have hkz := hKp.out.size
    have HBR : Hid (Below w.heap.size w1 wr) := hKp.out.below fun i hi => ⟨by have := HZ1.out; omega, by omega⟩
    by_cases hlt : k < N
    · have hlL : k < L.length := by have := HNN.out; omega
      have hlen : (L.take k).length = k := by rw [List.length_take]; omega
      have E1 := cut_take 0 rg L k hlL
      have E2 := cut_take rg ov L k hlL
      have E3 := cut_take ov 40000000 L k hlL
      have ES := szL_snoc L k hlL
      have bn := oszL_bd (take_plain HP.out k)
      have bn2 := oszL_bd (take_plain HP.out (k + 1))
      have hsp := oplain_get HP.out hlL
      have l1 : (cutG 0 rg 0 (L.take k)).length = k := (cutG_len _ _ _ _).trans hlen
      have l2 : (cutG rg ov 0 (L.take k)).length = k := (cutG_len _ _ _ _).trans hlen
      have l3 : (cutG ov 40000000 0 (L.take k)).length = k := (cutG_len _ _ _ _).trans hlen
      have hXr := HX.out.below (HB1.out.trans HBR.out)
      obtain ⟨ba, oa, rfl, zl, d1, d2⟩ := hXr.2 k hlL
      have HBr := HB.out.kept (F := fun x => x < w1.heap.size ∧ x ≠ g5) ⟨HB.out.size, by omega⟩ hKp.out
      obtain ⟨n, hn⟩ : ∃ n, szL (L.take k) = n := ⟨_, rfl⟩
      obtain ⟨n2, hn2⟩ : ∃ n, szL (L.take (k + 1)) = n := ⟨_, rfl⟩
      generalize L.getD k (0, 0) = z at *
      obtain ⟨a, b⟩ := z
      simp only [] at d1 d2 hsp ES
      rw [hn] at E1 E2 E3 ES bn ⊢
      rw [hn2] at ES bn2
      obtain ⟨hsa, hsb, hsc⟩ := hsp
      obtain ⟨d, hd⟩ : ∃ d, b - a = d := ⟨_, rfl⟩
      obtain ⟨e1, he1⟩ : ∃ d, rg - n = d := ⟨_, rfl⟩
      obtain ⟨e2, he2⟩ : ∃ d, ov - n = d := ⟨_, rfl⟩
      obtain ⟨m1, hm1⟩ : ∃ x, min d e1 = x := ⟨_, rfl⟩
      obtain ⟨m2, hm2⟩ : ∃ x, min d e2 = x := ⟨_, rfl⟩
      obtain ⟨M1, hM1⟩ : ∃ x, max 0 m1 = x := ⟨_, rfl⟩
      obtain ⟨M2, hM2⟩ : ∃ x, max 0 m2 = x := ⟨_, rfl⟩
      obtain ⟨sh, hsh⟩ : ∃ x, a + M1 = x := ⟨_, rfl⟩
      obtain ⟨lo, hlo⟩ : ∃ x, a + M2 = x := ⟨_, rfl⟩
      obtain ⟨nb, hnb⟩ : ∃ x, n + b = x := ⟨_, rfl⟩
      have p0 : cutP 0 n (a, b) = a := cutP_zero bn.1 (by simp only []; omega)
      have p1 : cutP rg n (a, b) = sh := by unfold cutP; simp only []; rw [hd, he1, hm1, hM1, hsh]
      have p2 : cutP ov n (a, b) = lo := by unfold cutP; simp only []; rw [hd, he2, hm2, hM2, hlo]
      have p3 : cutP 40000000 n (a, b) = b := cutP_top (by simp only []; omega) (by simp only []; omega)
      rw [p0, p1] at E1
      rw [p1, p2] at E2
      rw [p2, p3] at E3
      have wd : IntKind.i64.wrap (b - a) = d := by rw [hd]; exact wrapn_id (by omega) (by omega)
      have w_1 : IntKind.i64.wrap (rg - n) = e1 := by rw [he1]; exact wrapn_id (by omega) (by omega)
      have w_2 : IntKind.i64.wrap (ov - n) = e2 := by rw [he2]; exact wrapn_id (by omega) (by omega)
      have w_3 : IntKind.i64.wrap (a + M1) = sh := by rw [hsh]; exact wrapn_id (by omega) (by omega)
      have w_4 : IntKind.i64.wrap (a + M2) = lo := by rw [hlo]; exact wrapn_id (by omega) (by omega)
      have w_5 : IntKind.i64.wrap (n + b) = nb := by rw [hnb]; exact wrapn_id (by omega) (by omega)
      have w_6 : IntKind.i64.wrap (nb - a) = n2 := by rw [show nb - a = n2 by omega]; exact wrapn_id (by omega) (by omega)
      have HM1 := Lib.hid hm1
      have HM2 := Lib.hid hm2
      have HX1' := Lib.hid hM1
      have HX2' := Lib.hid hM2
      have HN2 := Lib.hid hn2
      obtain ⟨P6, p6, w5, hr5, T5, K5⟩ := hT.out.one l1 a sh (by omega) hkz (s := wr.heap.size) rfl
      rw [← E1] at T5
      have H5 := hH.out.kept (F := fun x => x < w1.heap.size) hgl K5
      obtain ⟨w6, hw6⟩ : ∃ w6, w5.setCell ⟨g5, 0, none⟩ (.slice P6 (k + 1) p6) = w6 := ⟨_, rfl⟩
      have T6 := T5.far (p := ⟨g5, 0, none⟩) hgl (.slice P6 (k + 1) p6)
      rw [hw6] at T6
      have H6 : Has w6 g5 (one3 P6 (k + 1) p6 Q k q R k r) := by rw [← hw6]; exact H5.set 0 _
      have K6 : Kept (fun x => x < w1.heap.size ∧ x ≠ g5) wr w6 := by rw [← hw6]; exact (K5.less fun i hi => hi.1).setn (p := ⟨g5, 0, none⟩) (fun h => h.2 rfl) _
      obtain ⟨Q6, q6, w7, hr7, T7, K7⟩ := T6.rot.one l2 sh lo (by omega) (Nat.le_trans hkz K6.size) (s := w6.heap.size) rfl
      rw [← E2] at T7
      have H7 := H6.kept (F := fun x => x < w1.heap.size) hgl K7
      obtain ⟨w8, hw8⟩ : ∃ w8, w7.setCell ⟨g5, 1, none⟩ (.slice Q6 (k + 1) q6) = w8 := ⟨_, rfl⟩
      have T8 := T7.far (p := ⟨g5, 1, none⟩) hgl (.slice Q6 (k + 1) q6)
      rw [hw8] at T8
      have H8 : Has w8 g5 (one3 P6 (k + 1) p6 Q6 (k + 1) q6 R k r) := by rw [← hw8]; exact H7.set 1 _
      have K8 : Kept (fun x => x < w1.heap.size ∧ x ≠ g5) w6 w8 := by rw [← hw8]; exact (K7.less fun i hi => hi.1).setn (p := ⟨g5, 1, none⟩) (fun h => h.2 rfl) _
      obtain ⟨R6, r6, w9, hr9, T9, K9⟩ := T8.rot.one l3 lo b (by omega) (Nat.le_trans hkz (Nat.le_trans K6.size K8.size)) (s := w8.heap.size) rfl
      rw [← E3] at T9
      have H9 := H8.kept (F := fun x => x < w1.heap.size) hgl K9
      obtain ⟨wA, hwA⟩ : ∃ wA, w9.setCell ⟨g5, 2, none⟩ (.slice R6 (k + 1) r6) = wA := ⟨_, rfl⟩
      have TA := T9.far (p := ⟨g5, 2, none⟩) hgl (.slice R6 (k + 1) r6)
      rw [hwA] at TA
      have HA : Has wA g5 (one3 P6 (k + 1) p6 Q6 (k + 1) q6 R6 (k + 1) r6) := by rw [← hwA]; exact H9.set 2 _
      have KA : Kept (fun x => x < w1.heap.size ∧ x ≠ g5) w8 wA := by rw [← hwA]; exact (K9.less fun i hi => hi.1).setn (p := ⟨g5, 2, none⟩) (fun h => h.2 rfl) _
      have HTA := Lib.hid TA.rot
      have HHA := Lib.hid HA
      have HKA := Lib.hid (((hKp.out.on K6).on K8).on KA)
      have k13 := HBr.cell 13 q13
      have k14 := HBr.cell 14 q14
      have kz := HBr.size
      have c0 : wr.cell? ⟨g5, 0, none⟩ = some (.slice P k p) := hH.out.cell 0 rfl
      have c5 : w5.cell? ⟨g5, 0, none⟩ = some (.slice P k p) := H5.cell 0 rfl
      have f5 := H5.frozen 0
      have s5 := H5.size
      have c6 : w6.cell? ⟨g5, 1, none⟩ = some (.slice Q k q) := H6.cell 1 rfl
      have c7 : w7.cell? ⟨g5, 1, none⟩ = some (.slice Q k q) := H7.cell 1 rfl
      have f7 := H7.frozen 1
      have s7 := H7.size
      have s6 := H6.size
      have c8 : w8.cell? ⟨g5, 2, none⟩ = some (.slice R k r) := H8.cell 2 rfl
      have c9 : w9.cell? ⟨g5, 2, none⟩ = some (.slice R k r) := H9.cell 2 rfl
      have f9 := H9.frozen 2
      have s9 := H9.size
      have s8 := H8.size
      have HR5 := Lib.hid hr5
      have HR7 := Lib.hid hr7
      have HR9 := Lib.hid hr9
      have i0 : (0 : Int) ≤ (k : Int) := by omega
      have i1 : (k : Int) < (N : Int) := by omega
      clear hT hH hKp HBR hXr HBr E1 E2 E3 ES l1 l2 l3 hlen hr5 hr7 hr9 T5 T6 T7 T8 T9 TA H5 H6 H7 H8 H9 HA K5 K6 K7 K8 K9 KA p0 p1 p2 p3 hd he1 he2 hm1 hm2 hM1 hM2 hsh hlo hnb hn hn2 hlL
      go_wp2_with (first
        | refine wpList_min2i (o := ⟨some 36, _, _, _, _, _⟩) _ _ m1 HM1.out rfl rfl rfl rfl ?_
        | refine wpList_max2i (o := ⟨some 37, _, _, _, _, _⟩) _ _ M1 HX1'.out rfl rfl rfl rfl ?_
        | refine wpList_min2i (o := ⟨some 47, _, _, _, _, _⟩) _ _ m2 HM2.out rfl rfl rfl rfl ?_
        | refine wpList_max2i (o := ⟨some 48, _, _, _, _, _⟩) _ _ M2 HX2'.out rfl rfl rfl rfl ?_
        | (at_builtin; refine wpList_append_run (o := ⟨some 56, _, _, _, _, _⟩) HR5.out rfl rfl rfl rfl ?_)
        | (at_builtin; refine wpList_append_run (o := ⟨some 64, _, _, _, _, _⟩) HR7.out rfl rfl rfl rfl ?_)
        | (at_builtin; refine wpList_append_run (o := ⟨some 72, _, _, _, _, _⟩) HR9.out rfl rfl rfl rfl ?_))
      go_roundw
      case rel => exact ⟨k + 1, P6, p6, Q6, q6, R6, r6, by omega, by rw [HN2.out], by go_num, HHA, HTA, HKA⟩
      case measure => simp [intOf]; omega
    · obtain rfl : k = N := by omega
      have eL : L.take k = L := List.take_of_length_le (by have := HNN.out; omega)
      rw [eL] at hT
      have hH3 := hH.out
      have H4r := HR4.out.kept (F := fun x => x < w1.heap.size ∧ x ≠ g5) ⟨HR4.out.size, by omega⟩ hKp.out
      have HHr := Lib.hid hH3
      have HQr := Lib.hid H4r
      have HEr := Lib.hid (below_setRow (g := g4) (HB1.out.trans HBR.out) (by omega) (one3 P k p Q k q R k r))
      have hne : ∀ x : Addr, w1.heap.size ≤ x.block → x.block ≠ g4 := fun x hx => by have := HZ1.out; omega
      have e1 : (cutG 0 rg 0 L).length = k := (cutG_len _ _ _ _).trans HNN.out
      have e2 : (cutG rg ov 0 L).length = k := (cutG_len _ _ _ _).trans HNN.out
      have e3 : (cutG ov 40000000 0 L).length = k := (cutG_len _ _ _ _).trans HNN.out
      have HT1 := Lib.hid ((row_setRow hT.out.a (g := g4) (fun x hx => hne x (hT.out.a.lt x hx).1) (one3 P k p Q k q R k r)).mono (show w.heap.size ≤ w1.heap.size from HB1.out.size))
      have HT2 := Lib.hid ((row_setRow hT.out.b (g := g4) (fun x hx => hne x (hT.out.b.lt x hx).1) (one3 P k p Q k q R k r)).mono (show w.heap.size ≤ w1.heap.size from HB1.out.size))
      have H68 := Lib.hid ((row_setRow hT.out.e (g := g4) (fun x hx => hne x (hT.out.e.lt x hx).1) (one3 P k p Q k q R k r)).mono (show w.heap.size ≤ w1.heap.size from HB1.out.size))
      have HEE := Lib.hid (And.intro e1 (And.intro e2 e3))
      clear hT hH hKp HBR hH3 H4r hne e1 e2 e3 eL
      go_wp2_with (first | refine wpList_load3 rfl _ rfl g5 rfl (one3 P k p Q k q R k r) HHr.out rfl ?_ | refine wpList_store3 rfl _ _ rfl g4 (one3 P k p Q k q R k r) rfl rfl nil3 HQr.out rfl rfl (one3_one P k p Q k q R k r) ?_)
      refine bodyPost_ret (three_run Tryz.results74 _ _ g4 (one3 P k p Q k q R k r) rfl (has_set3 HQr.out) rfl) rfl ?_
      exact ⟨P, p, Q, q, R, r, by rw [HEE.out.1, HEE.out.2.1, HEE.out.2.2]; rfl, HT1.out, HT2.out, H68.out, HEr.out⟩
end Go.Proofs.YtdlimgpmmkcgmaaGreat

namespace Go.Proofs.YtdlimgpmmkcgmaaGreat
open Go.RowKit
set_option linter.unusedVariables false
set_option linter.unusedSimpArgs false
set_option maxRecDepth 20000

def pC (x : PartP) : Array Value := #[.int .i64 x.1, .int .i64 x.2.1, .int .i64 x.2.2]
theorem flat_take {α : Type} {f : α → List Int} {n : Nat} (hf : ∀ x, (f x).length = n) : ∀ (l : List α) (k : Nat), ((l.take k).map f).flatten = (l.map f).flatten.take (k * n)
  | [], k => by simp
  | x :: l, 0 => by simp
  | x :: l, k + 1 => by
    have e : (k + 1) * n = (f x).length + k * n := by rw [hf, Nat.add_mul]; omega
    rw [List.take_succ_cons, List.map_cons, List.flatten_cons, List.map_cons, List.flatten_cons, e, List.take_length_add_append, flat_take hf l k]
theorem flat_drop {α : Type} {f : α → List Int} {n : Nat} (hf : ∀ x, (f x).length = n) : ∀ (l : List α) (k : Nat), ((l.drop k).map f).flatten = (l.map f).flatten.drop (k * n)
  | [], k => by simp
  | x :: l, 0 => by simp
  | x :: l, k + 1 => by
    have e : (k + 1) * n = (f x).length + k * n := by rw [hf, Nat.add_mul]; omega
    rw [List.drop_succ_cons, List.map_cons, List.flatten_cons, e, List.drop_length_add_append, flat_drop hf l k]
theorem part_len (x : PartP) : (partL x).length = 3 := rfl
theorem prts_take {l : List PartP} (k : Nat) : (ints .i64 ((l.take k).map partL).flatten) = (ints .i64 (l.map partL).flatten).take (k * 3) := by
  rw [flat_take part_len, ints, ints, List.map_take]
theorem prts_drop {l : List PartP} (k : Nat) : (ints .i64 ((l.drop k).map partL).flatten) = (ints .i64 (l.map partL).flatten).drop (k * 3) := by
  rw [flat_drop part_len, ints, ints, List.map_drop]
theorem prts_len {l : List PartP} : (ints .i64 (l.map partL).flatten).length = l.length * 3 := by
  have := rows_len (k := 3) (l.map partL) (fun r hr => by obtain ⟨y, _, rfl⟩ := List.mem_map.1 hr; rfl)
  rw [List.length_map] at this
  rw [ints, List.length_map, this, Nat.mul_comm]
theorem part_size (w : World) : (sizeOf (Tryz.prog.elem 32)).run Tryz.prog w = .ok 3 w := by kernel_rfl
theorem pcut_from {w : World} {A : Option Addr} {m c : Nat} {l : List PartP} (h : Prts w A m c l) (hmc : m ≤ c) (n : Nat) (hn : n ≤ m) :
    ∃ A', (∀ w', (Instr.sliceAt 32 (.slice A m c) (some (.int .i64 (n : Int))) none none).run Tryz.prog w' = .ok (.slice A' (m - n) (c - n)) w') ∧ Prts w A' (m - n) (c - n) (l.drop n) := by
  have hl := h.2
  have hrun : ∀ w', (Instr.sliceAt 32 (.slice A m c) (some (.int .i64 (n : Int))) none none).run Tryz.prog w' = .ok (.slice (if c = n then A else A.map (·.add (n * 3))) (m - n) (c - n)) w' := by
    intro w'
    rw [run_sliceAt_slice _ _ _ _ _ _ Tryz.underlying32, run_slice_l _ _ _ _ _ Tryz.underlying32 .i64 (n : Int) (by omega) (by omega), part_size]
    simp [sliced, Result.andThen]
  refine ⟨_, hrun, ?_, by rw [List.length_drop]; omega⟩
  obtain ⟨⟨hl', ⟨rfl, rfl, rfl⟩ | ⟨ad, rfl, hc⟩⟩, _⟩ := h
  · obtain rfl : n = 0 := by omega
    exact ⟨by rw [prts_len, List.length_drop]; omega, .inl ⟨by simp, rfl, rfl⟩⟩
  · refine ⟨by rw [prts_len, List.length_drop]; omega, .inr ?_⟩
    by_cases h0 : m - n = 0
    · have e : l.drop n = [] := List.drop_of_length_le (by omega)
      by_cases hcn : c = n
      · rw [if_pos hcn, e]; exact ⟨ad, rfl, fun j u hu => by simp [ints] at hu⟩
      · rw [if_neg hcn, e]; exact ⟨_, rfl, fun j u hu => by simp [ints] at hu⟩
    · rw [if_neg (by omega)]
      obtain ⟨b, off, e⟩ := (show Prts w (some ad) m c l from ⟨⟨hl', .inr ⟨ad, rfl, hc⟩⟩, hl⟩).form (by omega)
      injection e with e
      subst e
      refine ⟨_, rfl, fun j u hu => ?_⟩
      rw [prts_drop, List.getElem?_drop] at hu
      have := hc (n * 3 + j) u hu
      rw [tab_add] at this
      show w.cell? (((⟨b, off, none⟩ : Addr).add (n * 3)).add j) = some u
      rw [tab_add, tab_add, Nat.add_assoc]
      exact this
theorem pcut_to {w : World} {A : Option Addr} {m c : Nat} {l : List PartP} (h : Prts w A m c l) (hmc : m ≤ c) (n : Nat) (hn : n ≤ m) :
    ∃ A', (∀ w', (Instr.sliceAt 32 (.slice A m c) none (some (.int .i64 (n : Int))) none).run Tryz.prog w' = .ok (.slice A' n c) w') ∧ Prts w A' n c (l.take n) := by
  have hl := h.2
  have hrun : ∀ w', (Instr.sliceAt 32 (.slice A m c) none (some (.int .i64 (n : Int))) none).run Tryz.prog w' = .ok (.slice (if c = 0 then A else A.map (·.add 0)) n c) w' := by
    intro w'
    rw [run_sliceAt_slice _ _ _ _ _ _ Tryz.underlying32, run_slice_h _ _ _ _ _ Tryz.underlying32 .i64 (n : Int) (by omega) (by omega), part_size]
    simp [sliced, Result.andThen]
  refine ⟨_, hrun, ?_, by rw [List.length_take]; omega⟩
  have e : (if c = 0 then A else A.map (·.add 0)) = A := by
    split
    · rfl
    · cases A with
      | none => rfl
      | some ad =>
        rw [Option.map_some]
        unfold Addr.add
        split <;> simp_all
  rw [e]
  obtain ⟨⟨hl', ⟨rfl, rfl, rfl⟩ | ⟨ad, rfl, hc⟩⟩, _⟩ := h
  · obtain rfl : n = 0 := by omega
    exact ⟨by rw [prts_len]; simp, .inl ⟨rfl, rfl, rfl⟩⟩
  · refine ⟨by rw [prts_len, List.length_take]; omega, .inr ⟨ad, rfl, fun j u hu => hc j u ?_⟩⟩
    rw [prts_take, List.getElem?_take] at hu
    split at hu
    · exact hu
    · cases hu
/-! ### Rows, by their length -/
abbrev QRow (w : World) (base : Nat) (A : Option Addr) (n c : Nat) (l : List PartP) : Prop := TRow 42 3 w base A n c (l.map partL)
theorem QRow.prts {w : World} {base : Nat} {A : Option Addr} {n c : Nat} {l : List PartP} (h : QRow w base A n c l) (hn : l.length = n) : Prts w A n c l := ⟨Sl.of_own h, hn⟩
theorem qrow_mono {w : World} {base b : Nat} {A : Option Addr} {n c : Nat} {l : List PartP} (h : QRow w base A n c l) (hb : b ≤ base) : QRow w b A n c l := by
  obtain ⟨hl, hn | ⟨g, cap, cur, hv, hg, rest⟩⟩ := h
  · exact ⟨hl, .inl hn⟩
  · exact ⟨hl, .inr ⟨g, cap, cur, hv, by omega, rest⟩⟩
theorem qrow_empty (w : World) : QRow (w.alloc (.cells #[] 42)) w.heap.size (some ⟨w.heap.size, 0, none⟩) 0 0 [] := own_new w 42 3 0 #[] rfl (by decide)
/-- One part, laid for an append. -/
theorem qprts_one (w : World) (x : PartP) : Prts (w.alloc (.cells (pC x) 42)) (some ⟨w.heap.size, 0, none⟩) 1 1 [x] := prts_one w x rfl
/-- An append of what a slice of parts holds. -/
theorem qrow_append {w : World} {base c : Nat} {A : Option Addr} {n : Nat} {l : List PartP} (h : QRow w base A n c l) {B : Option Addr} {m d : Nat} {l' : List PartP} (hs : Prts w B m d l') (hm : n + m ≤ 1000000000) (hbase : base ≤ w.heap.size) {k : Nat} (hk : n + m = k) :
    ∃ A' c' w', (Builtin.append_ #[32, 32] 32 #[.slice A n c, .slice B m d]).run Tryz.prog w = .ok (.slice A' k c') w' ∧ QRow w' base A' k c' (l ++ l') ∧
      (∀ a : World, a.heap.size ≤ base → Below a.heap.size a w → Below a.heap.size a w') ∧ (∀ b, b < w.heap.size → (∀ g, A = some g → b ≠ g.block) → w'.heap[b]? = w.heap[b]?) := by
  subst hk
  obtain ⟨A', c', w', hr, ho, hg, hl⟩ := append_any (P := Tryz.prog) w base 32 32 42 _ 3 24 Tryz.underlying32 part_info rfl (by omega) h hs.1 (ints_one .i64 _) (n + m) rfl (ints .i64 ((l ++ l').map partL).flatten) (by simp [ints]) (by omega) (by omega) hbase
  refine ⟨A', c', w', hr, ho, fun a ha hb => bel_grown hb h ha hg, fun b hb hne => ?_⟩
  obtain ⟨_, _, _, _, q⟩ := hg
  refine q b hb (fun e => ?_)
  rcases h.2 with ⟨hv, _⟩ | ⟨g, cap, cur, hv, _⟩
  · injection hv with e1 e2 e3
    subst e1
    simp [Value.ownBlock] at e
  · injection hv with e1 e2 e3
    subst e1
    have e' : some g = some b := e.symm
    injection e' with e'
    exact hne _ rfl e'.symm
theorem qwp_append_run {P : Program} {o : Oper} {a : Act} {w w' : World} {K : Act → World → Prop} {Q : Exit → Act → World → Prop} {s x : Operand} {t : TypeId} {v u v' : Value}
    (hr : (Builtin.append_ #[t, t] o.type #[v, u]).run P w = .ok v' w')
    (ho : o.op = .call { callee := .builtin .append, args := #[s, x], argTypes := #[t, t] }) (hs : a.eval s = v) (hx : a.eval x = u)
    (h : K (a.put o.dst v') w') : o.wp P a w K Q := by
  unfold Oper.wp execOp
  simp only [ho, resolve, invoke, builtin, Sem.run_bind, Sem.run_pure, Result.andThen_ok, List.map_toArray, List.map_cons, List.map_nil, hs, hx, hr]
  exact h
theorem wp_build_p {o : Oper} {a : Act} {w : World} {K : Act → World → Prop} {Q : Exit → Act → World → Prop} {y : Operand} (x : PartP)
    (ho : o.op = .buildSlice 32 1 #[(0, y)]) (hy : a.eval y = .agg (pC x)) (h : K (a.put o.dst (.slice (some ⟨w.heap.size, 0, none⟩) 1 1)) (w.alloc (.cells (pC x) 42))) : o.wp Tryz.prog a w K Q := by
  obtain ⟨a1, a2, a3⟩ := x
  simp only [pC] at hy h
  unfold Oper.wp execOp
  simp only [ho, List.map_toArray, List.map_cons, List.map_nil, hy]
  go_simp
  exact h
theorem qrow_caps {w : World} {base : Nat} {A : Option Addr} {n c : Nat} {l : List PartP} (h : QRow w base A n c l) : n ≤ c ∧ c ≤ 9223372036854775807 := by
  obtain ⟨hl, ⟨hv, hz⟩ | ⟨g, cap, cur, hv, hb, hh, hc, hm, _⟩⟩ := h
  · injection hv with e1 e2 e3
    omega
  · injection hv with e1 e2 e3
    simp only [maxLen] at hm
    omega
theorem Prts.keep {w w' : World} {A : Option Addr} {n c : Nat} {l : List PartP} (h : Prts w A n c l) (hk : ∀ g, A = some g → w'.heap[g.block]? = w.heap[g.block]?) : Prts w' A n c l := ⟨sl_blocks h.1 hk, h.2⟩
end Go.Proofs.YtdlimgpmmkcgmaaGreat

namespace Go.Proofs.YtdlimgpmmkcgmaaGreat
set_option linter.unusedVariables false
set_option linter.unusedSimpArgs false

theorem plain_before {l : List (Int × Int)} (h : PlainFrom 0 l) {x y : Int × Int} (hx : x ∈ l) (hy : y ∈ l) (hxy : x.1 < y.1) : x.2 < y.1 := by
  have p := plain_pairs.1 h
  obtain ⟨i, hi, rfl⟩ := List.mem_iff_getElem.1 hx
  obtain ⟨j, hj, rfl⟩ := List.mem_iff_getElem.1 hy
  have q := List.pairwise_iff_getElem.1 p.2
  rcases Nat.lt_trichotomy i j with r | r | r
  · exact q i j hi hj r
  · subst r; omega
  · have a := q j i hj hi r
    have b := (p.1 _ hy).2.1
    omega
section
variable {L : Nat → List (Int × Int)} (hp : ∀ c, PlainFrom 0 (L c)) (hd : ∀ c d t, c ≠ d → In (L c) t → ¬ In (L d) t)
include hp hd
/-- A later part begins behind an earlier one; two of one category do not touch. -/
theorem parts_before {n : Nat} {x y : PartP} (hx : x ∈ catsP L n) (hy : y ∈ catsP L n) (h : x.1 < y.1) : x.2.1 ≤ y.1 ∧ (x.2.2 = y.2.2 → x.2.1 < y.1) := by
  obtain ⟨c, hc, ec, mc⟩ := mem_catsP.1 hx
  obtain ⟨d, hd', ed, md⟩ := mem_catsP.1 hy
  by_cases e : c = d
  · subst e
    have q := plain_before (hp c) mc md h
    exact ⟨by have : x.2.1 < y.1 := q; omega, fun _ => q⟩
  · have b := ((plain_pairs.1 (hp d)).1 _ md).2.1
    refine ⟨?_, fun q => absurd (by omega : c = d) e⟩
    by_cases g : x.2.1 ≤ y.1
    · exact g
    · exact absurd (⟨_, md, Int.le_refl _, b⟩ : In (L d) y.1) (hd c d y.1 e ⟨_, mc, by show x.1 ≤ y.1; omega, by show y.1 < x.2.1; omega⟩)
end
theorem part_is {L : Nat → List (Int × Int)} (hp : ∀ c, PlainFrom 0 (L c)) {n : Nat} {x : PartP} (hx : x ∈ catsP L n) : x.1 < x.2.1 ∧ 0 ≤ x.1 ∧ x.2.1 ≤ 32054400 ∧ 0 ≤ x.2.2 ∧ x.2.2 < n := by
  obtain ⟨c, hc, ec, mc⟩ := mem_catsP.1 hx
  have b := (plain_pairs.1 (hp c)).1 _ mc
  simp only [] at b
  refine ⟨?_, ?_, ?_, by omega, by omega⟩ <;> omega
def spanA (l : List PartP) : List (Int × Int) := l.map fun e => (e.1, e.2.1)
theorem in_spanA {L : Nat → List (Int × Int)} {n : Nat} {t : Int} : In (spanA (catsP L n)) t ↔ ∃ c, c < n ∧ In (L c) t := by
  unfold spanA
  constructor
  · rintro ⟨u, hu, u1, u2⟩
    obtain ⟨e, he, rfl⟩ := List.mem_map.1 hu
    obtain ⟨c, hc, _, m⟩ := mem_catsP.1 he
    exact ⟨c, hc, _, m, u1, u2⟩
  · rintro ⟨c, hc, u, hu, u1, u2⟩
    exact ⟨u, List.mem_map.2 ⟨(u.1, u.2, c), mem_catsP.2 ⟨c, hc, rfl, hu⟩, rfl⟩, u1, u2⟩
section
variable {s : SetP} {l : List SegP} {k : Int}
theorem yes_or_no {t : Int} (h0 : 0 ≤ t) (h1 : t < 32054400) : In (allNo true s l) t ∨ In (allYes true s l) t ↔ clkS l t := by
  unfold allYes allNo
  rw [if_pos rfl, if_pos rfl]
  unfold paidAll notAll
  rw [in_can h0 h1, in_can h0 h1]
  by_cases q : unAll (clkS l) (rstS l) s.paid s.aft s.brk t <;> simp [q]
theorem catW_all (hm : s.May) {t : Int} (h0 : 0 ≤ t) (h1 : t < 32054400) : (∃ c, c < 7 ∧ In (catW true s l k c) t) ↔ clkS l t ∧ t / 604800 = k := by
  unfold catW
  rw [cat_all (reg_plain _ _ _ _) (ovr_plain _ _ _ _) (dbl_plain _ _ _ _), three_of hm h0 h1, ← yes_or_no (s := s) (l := l) h0 h1]
  unfold ofWeekP
  rw [in_can h0 h1, in_can h0 h1]
  exact ⟨fun z => z.elim (fun z => ⟨.inl z.1, z.2⟩) (fun z => ⟨.inr z.1, z.2⟩), fun z => z.1.elim (fun y => .inl ⟨y, z.2⟩) (fun y => .inr ⟨y, z.2⟩)⟩
/-- SplitOnce: all of them are the clock's week. -/
theorem once_all (hm : s.May) : canon (In (spanA (wpartsL true s l k))) = ofWeekP (clkS l) k :=
  canon_congr fun t h0 h1 => by
    rw [show wpartsL true s l k = catsP (catW true s l k) 7 from rfl, in_spanA, catW_all hm h0 h1]
/-- SplitTotals: what is unpaid; what is by night. -/
theorem tot_dark (hm : s.May) : sz (In (catW true s l k 4)) + sz (In (catW true s l k 5)) + sz (In (catW true s l k 6)) = sz (In (darkL true s l k)) := by
  have e := dark_sz (A := regL true s (In (allYes true s l)) k) (B := ovrL true s (In (allYes true s l)) k) (C := dblL true s (In (allYes true s l)) k) (N := darkL true s l k) (W := ofWeekP (In (allYes true s l)) k)
    (fun t h0 h1 => (three_of hm h0 h1).symm)
    (fun t h => by have hb := three_bd (.inl h.1); rw [reg_mem hb.1 hb.2, ovr_mem hb.1 hb.2] at h; exact reg_ovr h)
    (fun t h => by have hb := three_bd (.inl h.1); rw [reg_mem hb.1 hb.2, dbl_mem hb.1 hb.2] at h; exact reg_dbl hm.reg.2 h)
    (fun t h => by have hb := three_bd (.inr (.inl h.1)); rw [ovr_mem hb.1 hb.2, dbl_mem hb.1 hb.2] at h; exact ovr_dbl hm.reg.2 h)
  refine Eq.trans e (sz_congr fun t h0 h1 => ⟨fun z => z.2, fun z => ⟨?_, z⟩⟩)
  unfold darkL at z
  exact ((canon_in _ t).1 z).2.2.1
theorem both_sum (b : Bool) : sz (In (catW b s l k 1)) + sz (In (catW b s l k 4)) = sz (In (regL b s (In (allYes b s l)) k)) ∧ sz (In (catW b s l k 2)) + sz (In (catW b s l k 5)) = sz (In (ovrL b s (In (allYes b s l)) k)) ∧ sz (In (catW b s l k 3)) + sz (In (catW b s l k 6)) = sz (In (dblL b s (In (allYes b s l)) k)) :=
  ⟨both_sz, both_sz, both_sz⟩
/-- SplitTotals: all of them are the clock's week. -/
theorem tot_all (hm : s.May) : sz (In (catW true s l k 0)) + (sz (In (catW true s l k 1)) + sz (In (catW true s l k 4))) + (sz (In (catW true s l k 2)) + sz (In (catW true s l k 5))) + (sz (In (catW true s l k 3)) + sz (In (catW true s l k 6))) = sz (In (ofWeekP (clkS l) k)) := by
  obtain ⟨a, b, c⟩ := both_sum (s := s) (l := l) (k := k) true
  have e1 := make3_sz (p := In (allYes true s l)) (k := k) hm
  have e2 : sz (In ((regL true s (In (allYes true s l)) k ++ ovrL true s (In (allYes true s l)) k) ++ dblL true s (In (allYes true s l)) k)) = sz (In (ofWeekP (In (allYes true s l)) k)) := sz_congr fun t h0 h1 => by
    rw [make3_mem hm h0 h1]
    unfold ofWeekP
    rw [in_can h0 h1]
    exact Iff.rfl
  have e3 := sz_or (p := In (ofWeekP (In (allNo true s l)) k)) (q := In (ofWeekP (In (allYes true s l)) k)) (r := In (ofWeekP (clkS l) k)) fun t h0 h1 => ⟨by
    unfold ofWeekP
    rw [in_can h0 h1, in_can h0 h1, in_can h0 h1, ← yes_or_no (s := s) (l := l) h0 h1]
    exact ⟨fun z => z.1.elim (fun y => .inl ⟨y, z.2⟩) (fun y => .inr ⟨y, z.2⟩), fun z => z.elim (fun y => ⟨.inl y.1, y.2⟩) (fun y => ⟨.inr y.1, y.2⟩)⟩, fun z => by
    unfold ofWeekP at z
    rw [in_can h0 h1, in_can h0 h1] at z
    exact yes_no z.2.1 z.1.1⟩
  have e4 : sz (In (catW true s l k 0)) = sz (In (ofWeekP (In (allNo true s l)) k)) := rfl
  rw [e4, a, b, c, e3, ← e2, ← e1]
  generalize sz (In (ofWeekP (In (allNo true s l)) k)) = v0
  generalize sz (In (regL true s (In (allYes true s l)) k)) = v1
  generalize sz (In (ovrL true s (In (allYes true s l)) k)) = v2
  generalize sz (In (dblL true s (In (allYes true s l)) k)) = v3
  clear a b c e1 e2 e3 e4
  omega
end
end Go.Proofs.YtdlimgpmmkcgmaaGreat
