/-
  The contract of package span's within, continued: the walk.
  The contracts of package span's functions, continued: And, Minus, Last.
  What stands near a day; the lists that breaks makes of a day, as sets. No program here.
  A map from numbers that the call has made: what it tells of a number, whatever order it was filled in.
-/
import Derived.Test.YthdolmhnjinlhaaGreatZaf
import Derived.Test.YthdolmhnjinlhaaGreatZaa
import Derived.Test.YthdolmhnjinlhaaGreatZab
import Derived.Test.YthdolmhnjinlhaaGreatProg
import Derived.Maps.OwnSet
import Derived.WalkKit
import Derived.KernelRfl
namespace Go.Proofs.YthdolmhnjinlhaaGreat
open Go.RowKit
set_option linter.unusedVariables false
set_option maxRecDepth 20000
attribute [local go_sem] Oper.semAt_some

/-- How many are left, off the world. -/
def plen (n : Nat) (W : World) : Nat := match W.cell? ⟨n, 0, none⟩ with | some (.slice _ m _) => m | _ => 0

theorem plen_of {n m c : Nat} {A : Option Addr} {W : World} (h : Has W n #[.slice A m c]) : plen n W = m := by
  unfold plen
  rw [h.cell 0 rfl]
  rfl
/-- The loop's word between two rounds. -/
def WithI (PL : List (Int × Int)) (w : World) (ks : List Nat) (pre : List (Int × Int)) (W : World) : Prop :=
  ∃ A c D d, Two w.heap.size ks (runW PL pre).1 (runW PL pre).2 W A c D d ∧ Below w.heap.size w W
def WithX (PL : List (Int × Int)) (w : World) (c : Code) (pre : List (Int × Int)) (W : World) : Prop :=
  c = .exit 0 ∧ (runW PL pre).1 = [] ∧ ∃ A c D d, Two w.heap.size [] (runW PL pre).1 (runW PL pre).2 W A c D d ∧ Below w.heap.size w W
theorem with_lets (PL : List (Int × Int)) (w : World) : Lets (WithI PL w) where
  alloc := fun ks pre A o ⟨a, c, D, d, h, hb⟩ => ⟨a, c, D, d, h.alloc o, hb.alloc hb.size o⟩
  own := fun ks pre A o ⟨a, c, D, d, h, hb⟩ => ⟨a, c, D, d, h.own o, hb.alloc hb.size o⟩
  set := fun ks pre A k i v ⟨a, c, D, d, h, hb⟩ hk => ⟨a, c, D, d, h.set hk i v, hb.setCell (p := ⟨k, i, none⟩) (by have := (h.far k hk).1; simp only []; omega) v⟩
  less := fun ks k pre A ⟨a, c, D, d, h, hb⟩ => ⟨a, c, D, d, h.less (fun j hj => List.mem_cons_of_mem _ hj), hb⟩

/-- How a round stands: what the rest of it will leave, and find. -/
def RoundAt (x : Int × Int) (rest0 bo0 rest bo : List (Int × Int)) : Prop := (stepW x rest).1 = (stepW x rest0).1 ∧ bo ++ (stepW x rest).2 = bo0 ++ (stepW x rest0).2

theorem round_exit {PL pre rest0 bo0 bo : List (Int × Int)} {w W wr : World} {x : Int × Int} {ks : List Nat} {B n₁ : Nat} {A : Option Addr} {c : Nat} {D : Option Addr} {d : Nat} (hS : runW PL (pre ++ [x]) = ((stepW x rest0).1, bo0 ++ (stepW x rest0).2)) (hat : RoundAt x rest0 bo0 [] bo)
    (h : Rnd w.heap.size W ks B x [] bo wr A c D d) (hb : Below w.heap.size w W) : KeepsFrom n₁ W wr ∧ WithX PL w (.exit 0) (pre ++ [x]) wr := by
  have e1 : (runW PL (pre ++ [x])).1 = [] := by rw [hS, ← hat.1]; rfl
  have e2 : (runW PL (pre ++ [x])).2 = bo := by
    rw [hS, ← hat.2]
    show bo ++ [] = bo
    rw [List.append_nil]
  refine ⟨h.ko.from _, rfl, e1, A, c, D, d, ?_, hb.trans h.bel⟩
  rw [e1, e2]
  exact h.two.less (by simp)
theorem round_norm {PL pre rest0 bo0 rest bo : List (Int × Int)} {w W wr : World} {x : Int × Int} {ks : List Nat} {B n₁ : Nat} {A : Option Addr} {c : Nat} {D : Option Addr} {d : Nat} (hS : runW PL (pre ++ [x]) = ((stepW x rest0).1, bo0 ++ (stepW x rest0).2)) (hat : (stepW x rest0).1 = rest ∧ bo0 ++ (stepW x rest0).2 = bo)
    (h : Rnd w.heap.size W ks B x rest bo wr A c D d) (hb : Below w.heap.size w W) : KeepsFrom n₁ W wr ∧ (∀ k ∈ ks, wr.heap[k]? = W.heap[k]?) ∧ Below w.heap.size W wr ∧ WithI PL w ks (pre ++ [x]) wr := by
  refine ⟨h.ko.from _, h.own, h.bel, A, c, D, d, ?_, hb.trans h.bel⟩
  rw [hS, hat.1, hat.2]
  exact h.two.less (fun k hk => List.mem_cons_of_mem _ hk)
theorem stepW_cons (p x : Int × Int) (l : List (Int × Int)) : stepW p (x :: l) = if x.1 < p.2 then
      if p.2 < x.2 then (x :: l, if max x.1 p.1 < min x.2 p.2 then [(max x.1 p.1, min x.2 p.2)] else [])
      else ((stepW p l).1, (if max x.1 p.1 < min x.2 p.2 then [(max x.1 p.1, min x.2 p.2)] else []) ++ (stepW p l).2)
    else (x :: l, []) := rfl
theorem at_miss {x y : Int × Int} {rest0 bo0 l bo : List (Int × Int)} (h : RoundAt x rest0 bo0 (y :: l) bo) (hy : ¬ y.1 < x.2) : (stepW x rest0).1 = y :: l ∧ bo0 ++ (stepW x rest0).2 = bo := by
  obtain ⟨h1, h2⟩ := h
  rw [stepW_cons, if_neg hy] at h1 h2
  exact ⟨h1.symm, by rw [← h2]; simp⟩
theorem at_end {x y : Int × Int} {rest0 bo0 l bo seg : List (Int × Int)} (h : RoundAt x rest0 bo0 (y :: l) bo) (hy : y.1 < x.2) (hs : (if max y.1 x.1 < min y.2 x.2 then [(max y.1 x.1, min y.2 x.2)] else []) = seg) (hy2 : x.2 < y.2) : (stepW x rest0).1 = y :: l ∧ bo0 ++ (stepW x rest0).2 = bo ++ seg := by
  obtain ⟨h1, h2⟩ := h
  rw [stepW_cons, if_pos hy, if_pos hy2, hs] at h1 h2
  exact ⟨h1.symm, h2.symm⟩
theorem at_on {x y : Int × Int} {rest0 bo0 l bo seg : List (Int × Int)} (h : RoundAt x rest0 bo0 (y :: l) bo) (hy : y.1 < x.2) (hs : (if max y.1 x.1 < min y.2 x.2 then [(max y.1 x.1, min y.2 x.2)] else []) = seg) (hy2 : ¬ x.2 < y.2) : RoundAt x rest0 bo0 l (bo ++ seg) := by
  obtain ⟨h1, h2⟩ := h
  rw [stepW_cons, if_pos hy, if_neg hy2, hs] at h1 h2
  exact ⟨h1, by rw [List.append_assoc]; exact h2⟩
theorem lies_tail {n : Nat} {W : World} {b off : Nat} {y : Int × Int} {l : List (Int × Int)} (h : Lies n W (some ⟨b, off, none⟩) (y :: l)) : Lies n W (some ⟨b, off + 2, none⟩) l := fun k hk => by
  obtain ⟨b', off', e, h0, h1, h2⟩ := h (k + 1) (by simpa using hk)
  simp only [Option.some.injEq, Addr.mk.injEq, and_true] at e
  obtain ⟨rfl, rfl⟩ := e
  refine ⟨b, off + 2, rfl, h0, ?_, ?_⟩
  · rw [show off + 2 + k * 2 = off + (k + 1) * 2 by omega]; simpa using h1
  · rw [show off + 2 + k * 2 + 1 = off + (k + 1) * 2 + 1 by omega]; simpa using h2
theorem at_len {x : Int × Int} {rest0 bo0 l bo : List (Int × Int)} (h : RoundAt x rest0 bo0 l bo) : bo.length ≤ (bo0 ++ (stepW x rest0).2).length := by rw [← h.2, List.length_append]; omega

/-- Behind a drawn region of a round: slots that hold whatever they hold; slot 21 the test's answer. -/
def Cut4 (A : Option Addr) (m cap gf : Nat) (lb : Array Value) (n B : Nat) (xa xb : Int) (bv : Bool) (R : World → Prop) (e : Exit) (a' : Act) (W' : World) : Prop := e = .normal ∧ ∃ (s7 s10 s11 s12 s13 s14 s15 s16 s17 s18 s19 s20 s22 s23 s24 s25 s26 s27 s28 s29 s30 s31 s32 s33 s34 s35 s36 s37 s38 s39 s40 s41 s42 s43 s44 : Value), a' = { tmps := #[.slice A m cap, .func (.func gf) #[] lb, .pointer (some ⟨n, 0, none⟩), undef, .slice none 0 0, .pointer (some ⟨n + 1, 0, none⟩), .pointer (some ⟨B, 0, none⟩), s7, .func (.func gf) #[] lb, .agg #[.int .i64 xa, .int .i64 xb], s10, s11, s12, s13, s14, s15, s16, s17, s18, s19, s20, .bool bv, s22, s23, s24, s25, s26, s27, s28, s29, s30, s31, s32, s33, s34, s35, s36, s37, s38, s39, s40, s41, s42, s43, s44, undef, undef, undef, undef], defers := [] } ∧ R W'
/-- .. slot 7 the variable s. -/
def Cut5 (A : Option Addr) (m cap gf : Nat) (lb : Array Value) (n B : Nat) (xa xb : Int) (R : Nat → World → Prop) (e : Exit) (a' : Act) (W' : World) : Prop := e = .normal ∧ ∃ (g : Nat) (s10 s11 s12 s13 s14 s15 s16 s17 s18 s19 s20 s21 s22 s23 s24 s25 s26 s27 s28 s29 s30 s31 s32 s33 s34 s35 s36 s37 s38 s39 s40 s41 s42 s43 s44 : Value), a' = { tmps := #[.slice A m cap, .func (.func gf) #[] lb, .pointer (some ⟨n, 0, none⟩), undef, .slice none 0 0, .pointer (some ⟨n + 1, 0, none⟩), .pointer (some ⟨B, 0, none⟩), .pointer (some ⟨g, 0, none⟩), .func (.func gf) #[] lb, .agg #[.int .i64 xa, .int .i64 xb], s10, s11, s12, s13, s14, s15, s16, s17, s18, s19, s20, s21, s22, s23, s24, s25, s26, s27, s28, s29, s30, s31, s32, s33, s34, s35, s36, s37, s38, s39, s40, s41, s42, s43, s44, undef, undef, undef, undef], defers := [] } ∧ R g W'
/-- .. slot 42 the test's answer. -/
def Cut8 (A : Option Addr) (m cap gf : Nat) (lb : Array Value) (n B : Nat) (xa xb : Int) (g : Nat) (bv : Bool) (R : World → Prop) (e : Exit) (a' : Act) (W' : World) : Prop := e = .normal ∧ ∃ (s10 s11 s12 s13 s14 s15 s16 s17 s18 s19 s20 s21 s22 s23 s24 s25 s26 s27 s28 s29 s30 s31 s32 s33 s34 s35 s36 s37 s38 s39 s40 s41 s43 s44 : Value), a' = { tmps := #[.slice A m cap, .func (.func gf) #[] lb, .pointer (some ⟨n, 0, none⟩), undef, .slice none 0 0, .pointer (some ⟨n + 1, 0, none⟩), .pointer (some ⟨B, 0, none⟩), .pointer (some ⟨g, 0, none⟩), .func (.func gf) #[] lb, .agg #[.int .i64 xa, .int .i64 xb], s10, s11, s12, s13, s14, s15, s16, s17, s18, s19, s20, s21, s22, s23, s24, s25, s26, s27, s28, s29, s30, s31, s32, s33, s34, s35, s36, s37, s38, s39, s40, s41, .bool bv, s43, s44, undef, undef, undef, undef], defers := [] } ∧ R W'

set_option maxHeartbeats 20000000 in
theorem within_any (A : Option Addr) (cap : Nat) (PL ps : List (Int × Int)) (gf : Nat) (lb : Array Value) (w : World) (hx : Lies w.heap.size w A PL) (hcap : PL.length ≤ cap) (hcm : cap ≤ 9223372036854775807) (hl : PL.length ≤ 100000000) (hps : ps.length ≤ 100000000)
    (eg : ∀ args w, (callFunc gf args).run Tryz.prog w = .ok (.enter gf args) w) (hseq : ∀ W : World, Below w.heap.size w W → W.heap.size = w.heap.size + 2 → SeqOf Tryz.prog gf lb w.heap.size ps W) :
    Calls Tryz.prog 33 #[.slice A PL.length cap, .func (.func gf) #[] lb] w (Gives w (runW PL ps).2) := by
  have hb0 : Below w.heap.size w ((w.alloc (.cells #[.slice A PL.length cap] 31)).alloc (.cells #[.slice none 0 0] 31)) := ((Below.refl _ _).alloc (Nat.le_refl _) _).alloc (by simp) _
  have hT0 : Two w.heap.size [] PL [] ((w.alloc (.cells #[.slice A PL.length cap] 31)).alloc (.cells #[.slice none 0 0] 31)) A cap none 0 :=
    ⟨(Has.new _ _ _ rfl).alloc _, Has.new _ _ _ (by simp), Row.nil _ _, hx.below hb0, hcap, hcm, by simp⟩
  have hsz : ((w.alloc (.cells #[.slice A PL.length cap] 31)).alloc (.cells #[.slice none 0 0] 31)).heap.size = w.heap.size + 2 := by simp
  have hsq := hseq _ hb0 hsz
  clear hseq hx
  refine (callsIn_wide (n := 0)).1 (callsIn_of_wp_marks Tryz.func33 rfl trivial ?_ rfl)
  simp only [Tryz.ntmps33, List.size_toArray, List.length_cons, List.length_nil, Nat.reduceAdd, Nat.reduceSub, Array.replicate_succ, Array.replicate_zero, List.push_toArray, List.append_toArray, List.nil_append, List.cons_append]
  gi_wp2
  generalize (w.alloc (.cells #[.slice A PL.length cap] 31)).alloc (.cells #[.slice none 0 0] 31) = w1 at *
  refine range_own (T := 42) (n₀ := w.heap.size) (ps := ps) rfl eg hsq (by omega) rfl (WithI PL w) (WithX PL w) (with_lets PL w)
    (fun ks pre W l o o' ⟨a, c, D, d, h, hb⟩ hl ho hc => ⟨a, c, D, d, h.put o' (by omega) ho hc, hb.trans (below_putObj _ (by omega))⟩)
    (fun k pre W l o o' ⟨e1, e2, a, c, D, d, h, hb⟩ hl ho hc => ⟨e1, e2, a, c, D, d, h.put o' (by omega) ho hc, hb.trans (below_putObj _ (by omega))⟩)
    ⟨A, cap, none, 0, hT0, hb0⟩
    (fun B x => { tmps := #[.slice A PL.length cap, .func (.func gf) #[] lb, .pointer (some ⟨w.heap.size, 0, none⟩), undef, .slice none 0 0, .pointer (some ⟨w.heap.size + 1, 0, none⟩), .pointer (some ⟨B, 0, none⟩), undef, .func (.func gf) #[] lb, .agg #[.int .i64 x.1, .int .i64 x.2],
      undef, undef, undef, undef, undef, undef, undef, undef, undef, undef, undef, undef, undef, undef, undef, undef, undef, undef, undef, undef, undef, undef, undef, undef, undef, undef, undef, undef, undef, undef, undef, undef, undef, undef, undef, undef, undef, undef, undef], defers := [] })
    ?assign ?body ?done ?stop
  case assign =>
    intro l x W K hK
    unfold agg2
    gi_wp2
    exact hK
  case done =>
    rintro D ks W hD ⟨a, c, E, d, h, hb⟩ hK
    have f0 : W.cell? ⟨w.heap.size + 1, 0, none⟩ = some (.slice E (runW PL ps).2.length d) := h.found.cell 0 rfl
    have h' := h.put (.deferred none) (by omega) hK rfl
    have HH := Lib.hid h'
    clear h h'
    gi_wp2
    refine ⟨by simp, .inl ⟨_, _, rfl, run_takeDeferred hK, ?_⟩⟩
    refine ⟨_, results_tmp rfl _ _ _, ?_⟩
    exact gives_of (HH.out.row.mono (by omega)) rfl rfl (hb.trans (below_putObj _ (by omega)))
  case stop =>
    rintro D c pre W hD hpre ⟨rfl, hnil, a, c, E, d, h, hb⟩ hK
    have f0 : W.cell? ⟨w.heap.size + 1, 0, none⟩ = some (.slice E (runW PL pre).2.length d) := h.found.cell 0 rfl
    have h' := h.put (.deferred none) (by omega) hK rfl
    have HH := Lib.hid h'
    have HE := Lib.hid (runW_stop hpre hnil)
    clear h h' hnil
    gi_wp2
    refine ⟨by simp, .inl ⟨_, _, rfl, run_takeDeferred hK, ?_⟩⟩
    refine ⟨_, results_tmp rfl _ _ _, ?_⟩
    exact gives_of (HH.out.row.mono (by omega)) (by rw [HE.out]) rfl (hb.trans (below_putObj _ (by omega)))
  case body =>
    rintro l ks pre x B W ⟨a0, c0, D0, d0, h0, hb⟩ hB hpre
    have hlen : (runW PL (pre ++ [x])).2.length ≤ 200000000 := by
      have h1 := runW_len PL _ (pre ++ [x]) rfl
      have h2 := hpre.length_le
      omega
    have HS := Lib.hid (runW_snoc PL pre x)
    have HB0 := Lib.hid hb
    rw [runW_snoc] at hlen
    simp only [] at hlen
    have hksB : ∀ k ∈ ks, k ∈ B :: ks := fun k hk => List.mem_cons_of_mem _ hk
    have HK := Lib.hid hksB
    generalize hr0 : (runW PL pre).1 = rest0 at *
    generalize hbo0 : (runW PL pre).2 = bo0 at *
    have HL := Lib.hid hlen
    obtain ⟨xa, xb⟩ := x
    simp only [] at hB
    clear hT0 hsq hsz hb0 eg hr0 hbo0 hlen hksB hb
    have mixed : Tryz.prog.follows Departure.mixedOrders = true := by kernel_rfl
    gi_wp2
    gi_loopw [21] (fun _ wr => ∃ rest bo a c D d, Rnd w.heap.size W ks B (xa, xb) rest bo wr a c D d ∧ Hid (RoundAt (xa, xb) rest0 bo0 rest bo)) (fun _ wr => plen w.heap.size wr)
    case atStart => exact ⟨rest0, bo0, a0, c0, D0, d0, ⟨h0, hB, KeepsOthers.refl _, fun _ _ => rfl, Below.refl _ _⟩, ⟨rfl, rfl⟩⟩
    case round =>
      obtain ⟨rest, bo, a, c, D, d, h, hat⟩ := hrel
      have f0 := h.two.left.cell 0 rfl
      have f1 := h.two.found.cell 0 rfl
      have HM : Hid (plen w.heap.size wr = rest.length) := by
        show _ = _
        unfold plen
        rw [f0]
        rfl
      cases rest with
      | nil =>
        simp only [List.length_nil] at f0
        gi_wp2
        refine wpIn_mono (Q := Cut4 A PL.length cap gf lb w.heap.size B xa xb false (fun W' => Rnd w.heap.size W ks B (xa, xb) [] bo W' a c D d)) ?_ ?_
        · gi_region_o
          all_goals exact ⟨rfl, _, _, _, _, _, _, _, _, _, _, _, _, _, _, _, _, _, _, _, _, _, _, _, _, _, _, _, _, _, _, _, _, _, _, _, rfl, h.drew⟩
        rintro e a' W' ⟨rfl, s7, s10, s11, s12, s13, s14, s15, s16, s17, s18, s19, s20, s22, s23, s24, s25, s26, s27, s28, s29, s30, s31, s32, s33, s34, s35, s36, s37, s38, s39, s40, s41, s42, s43, s44, rfl, hR⟩
        clear f0 f1
        have f0 := hR.two.left.cell 0 rfl
        simp only [List.length_nil] at f0
        gi_wp2
        exact round_exit HS.out hat.out hR HB0.out
      | cons y rest' =>
        obtain ⟨b, off, rfl, hbn, g1, g2⟩ := h.two.lies 0 (by simp)
        obtain ⟨ya, yb⟩ := y
        simp only [List.getD_cons_zero, Nat.zero_mul, Nat.add_zero, List.length_cons] at f0 g1 g2
        obtain ⟨v0, v1, _, _⟩ := h.var.two
        simp only [] at v0 v1
        by_cases hy : ya < xb
        · gi_wp2
          refine wpIn_mono (Q := Cut4 A PL.length cap gf lb w.heap.size B xa xb true (fun W' => Rnd w.heap.size W ks B (xa, xb) ((ya, yb) :: rest') bo W' (some ⟨b, off, none⟩) c D d)) ?_ ?_
          · gi_region_o
            all_goals exact ⟨rfl, _, _, _, _, _, _, _, _, _, _, _, _, _, _, _, _, _, _, _, _, _, _, _, _, _, _, _, _, _, _, _, _, _, _, _, rfl, h.drew⟩
          rintro e a' W' ⟨rfl, s7, s10, s11, s12, s13, s14, s15, s16, s17, s18, s19, s20, s22, s23, s24, s25, s26, s27, s28, s29, s30, s31, s32, s33, s34, s35, s36, s37, s38, s39, s40, s41, s42, s43, s44, rfl, hR⟩
          clear f0 f1
          obtain ⟨b', off', he, hbn', k1, k2⟩ := hR.two.lies 0 (by simp)
          simp only [Option.some.injEq, Addr.mk.injEq, and_true] at he
          obtain ⟨rfl, rfl⟩ := he
          simp only [List.getD_cons_zero, Nat.zero_mul, Nat.add_zero] at k1 k2
          clear g1 g2 v0 v1 h
          obtain ⟨v0, v1, _, _⟩ := hR.var.two
          simp only [] at v0 v1
          have f0 := hR.two.left.cell 0 rfl
          simp only [List.length_cons] at f0
          have hn1 := hR.two.left.size
          have hn2 := hR.var.size
          have m1 : w.heap.size ≠ W'.heap.size := by omega
          have m2 : B ≠ W'.heap.size := by omega
          have m3 : b ≠ W'.heap.size := by omega
          have m9 : b < W'.heap.size := by omega
          have m4 := World.new_ne W' _ k1
          have m5 := World.new_ne W' _ k2
          have m6 := World.new_ne W' _ v0
          have m7 := World.new_ne W' _ v1
          have m8 := World.new_ne W' _ f0
          gi_wp2
          refine wpIn_mono (Q := Cut5 A PL.length cap gf lb w.heap.size B xa xb (fun g W'' => Rnd w.heap.size W ks B (xa, xb) ((ya, yb) :: rest') bo W'' (some ⟨b, off, none⟩) c D d ∧ Has W'' g #[.int .i64 (max ya xa), .int .i64 (min yb xb)])) ?_ ?_
          · gi_region_with_o ((refine ⟨trivial, rfl, ?_⟩; refine (CallsIn.inRound l (callsIn_wide.2 (common_at _ _ _ _ _))).mono ?_; rintro e w2 ⟨rfl, rfl⟩))
            all_goals
              refine ⟨rfl, _, _, _, _, _, _, _, _, _, _, _, _, _, _, _, _, _, _, _, _, _, _, _, _, _, _, _, _, _, _, _, _, _, _, _, _, rfl, ?_, ?_⟩
              · (repeat' (first | with_reducible assumption | with_reducible refine Rnd.alloc ?_ _ | with_reducible refine Rnd.drewN ?_ _ | with_reducible refine Rnd.drew ?_))
              · (repeat' (first | with_reducible assumption | ((with_reducible refine Has.new _ _ _ ?_); (first | (with_reducible rfl) | (simp; done))) | with_reducible refine Has.alloc ?_ _ | with_reducible refine Has.drewN ?_ _ | with_reducible refine Has.drew ?_))
          rintro e a' W5 ⟨rfl, g, s10, s11, s12, s13, s14, s15, s16, s17, s18, s19, s20, s21, s22, s23, s24, s25, s26, s27, s28, s29, s30, s31, s32, s33, s34, s35, s36, s37, s38, s39, s40, s41, s42, s43, s44, rfl, hR5, hG5⟩
          clear hR f0 k1 k2 v0 v1 m9 m1 m2 m3 m4 m5 m6 m7 m8 hn1 hn2
          obtain ⟨q0, q1, _, _⟩ := hG5.two
          have f1 := hR5.two.found.cell 0 rfl
          have hbo := at_len hat.out
          have hbo2 := HL.out
          by_cases hseg : max ya xa < min yb xb
          · have HG := Lib.hid (show (if max ya xa < min yb xb then [(max ya xa, min yb xb)] else []) = [(max ya xa, min yb xb)] from if_pos hseg)
            obtain ⟨D', d', w5, hrun, hF, hR8⟩ := hR5.push (max ya xa) (min yb xb) (by omega) rfl
            have p0 := hF.cell 0 rfl
            have p1 := hF.frozen 0
            have HU := Lib.hid hrun
            clear hrun hF hbo hbo2
            gi_wp2_with (gi_at_builtin; refine wpListIn_append_run HU.out rfl rfl rfl rfl ?_)
            clear p0 p1 f1 q0 q1
            generalize w5.setCell ⟨w.heap.size + 1, 0, none⟩ (.slice D' (bo.length + 1) d') = W6 at *
            obtain ⟨b', off', he, hbn', k1, k2⟩ := hR8.two.lies 0 (by simp)
            simp only [Option.some.injEq, Addr.mk.injEq, and_true] at he
            obtain ⟨rfl, rfl⟩ := he
            simp only [List.getD_cons_zero, Nat.zero_mul, Nat.add_zero] at k1 k2
            obtain ⟨v0, v1, _, _⟩ := hR8.var.two
            simp only [] at v0 v1
            have f0 := hR8.two.left.cell 0 rfl
            simp only [List.length_cons] at f0
            by_cases hy2 : xb < yb
            · have hE := Lib.hid (at_end hat.out hy HG.out hy2)
              gi_wp2
              refine wpIn_mono (Q := Cut8 A PL.length cap gf lb w.heap.size B xa xb g true (fun W' => Rnd w.heap.size W ks B (xa, xb) ((ya, yb) :: rest') (bo ++ [(max ya xa, min yb xb)]) W' (some ⟨b, off, none⟩) c D' d')) ?_ ?_
              · gi_region_o
                all_goals exact ⟨rfl, _, _, _, _, _, _, _, _, _, _, _, _, _, _, _, _, _, _, _, _, _, _, _, _, _, _, _, _, _, _, _, _, _, _, rfl, hR8.drew⟩
              rintro e a' W8 ⟨rfl, s10, s11, s12, s13, s14, s15, s16, s17, s18, s19, s20, s21, s22, s23, s24, s25, s26, s27, s28, s29, s30, s31, s32, s33, s34, s35, s36, s37, s38, s39, s40, s41, s43, s44, rfl, hR9⟩
              clear f0
              have f0 := hR9.two.left.cell 0 rfl
              simp only [List.length_cons] at f0
              gi_wp2
              exact round_norm HS.out hE.out hR9 HB0.out
            · have hE := Lib.hid (at_on hat.out hy HG.out hy2)
              have hd : decide (xb < yb) = false := by simpa using hy2
              gi_wp2
              refine wpIn_mono (Q := Cut8 A PL.length cap gf lb w.heap.size B xa xb g false (fun W' => Rnd w.heap.size W ks B (xa, xb) ((ya, yb) :: rest') (bo ++ [(max ya xa, min yb xb)]) W' (some ⟨b, off, none⟩) c D' d')) ?_ ?_
              · gi_region_o
                all_goals exact ⟨rfl, _, _, _, _, _, _, _, _, _, _, _, _, _, _, _, _, _, _, _, _, _, _, _, _, _, _, _, _, _, _, _, _, _, _, rfl, hR8.drew⟩
              rintro e a' W8 ⟨rfl, s10, s11, s12, s13, s14, s15, s16, s17, s18, s19, s20, s21, s22, s23, s24, s25, s26, s27, s28, s29, s30, s31, s32, s33, s34, s35, s36, s37, s38, s39, s40, s41, s43, s44, rfl, hR9⟩
              clear f0 k1 k2 v0 v1
              have f0 := hR9.two.left.cell 0 rfl
              have f2 := hR9.two.left.frozen 0
              simp only [List.length_cons] at f0
              have hc1 := hR9.two.cap
              have hc2 := hR9.two.max
              simp only [List.length_cons] at hc1
              by_cases hc3 : c = 1
              · subst hc3
                obtain rfl : rest' = [] := List.eq_nil_of_length_eq_zero (by omega)
                have T := Lib.hid (hR9.setLeft (rest' := []) (A' := some ⟨b, off, none⟩) (c' := 0) (fun k hk => by simp at hk) (by simp) (by omega))
                simp only [List.length_nil] at *
                gi_wp2
                go_roundw
                case rel => exact ⟨[], _, _, _, _, _, T.out, hE⟩
                case measure => rw [plen_of T.out.two.left, HM.out]; simp
              · have T := Lib.hid (hR9.setLeft (rest' := rest') (A' := some ⟨b, off + 2, none⟩) (c' := c - 1) (lies_tail hR9.two.lies) (by omega) (by omega))
                gi_wp2
                go_roundw
                case rel => exact ⟨rest', _, _, _, _, _, T.out, hE⟩
                case measure => rw [plen_of T.out.two.left, HM.out]; simp
          · have HG := Lib.hid (show (if max ya xa < min yb xb then [(max ya xa, min yb xb)] else []) = [] from if_neg hseg)
            have hR8 : Rnd w.heap.size W ks B (xa, xb) ((ya, yb) :: rest') (bo ++ []) W5 (some ⟨b, off, none⟩) c D d := by rw [List.append_nil]; exact hR5
            clear hbo hbo2
            obtain ⟨b', off', he, hbn', k1, k2⟩ := hR8.two.lies 0 (by simp)
            simp only [Option.some.injEq, Addr.mk.injEq, and_true] at he
            obtain ⟨rfl, rfl⟩ := he
            simp only [List.getD_cons_zero, Nat.zero_mul, Nat.add_zero] at k1 k2
            obtain ⟨v0, v1, _, _⟩ := hR8.var.two
            simp only [] at v0 v1
            have f0 := hR8.two.left.cell 0 rfl
            simp only [List.length_cons] at f0
            by_cases hy2 : xb < yb
            · have hE := Lib.hid (at_end hat.out hy HG.out hy2)
              gi_wp2
              refine wpIn_mono (Q := Cut8 A PL.length cap gf lb w.heap.size B xa xb g true (fun W' => Rnd w.heap.size W ks B (xa, xb) ((ya, yb) :: rest') (bo ++ []) W' (some ⟨b, off, none⟩) c D d)) ?_ ?_
              · gi_region_o
                all_goals exact ⟨rfl, _, _, _, _, _, _, _, _, _, _, _, _, _, _, _, _, _, _, _, _, _, _, _, _, _, _, _, _, _, _, _, _, _, _, rfl, hR8.drew⟩
              rintro e a' W8 ⟨rfl, s10, s11, s12, s13, s14, s15, s16, s17, s18, s19, s20, s21, s22, s23, s24, s25, s26, s27, s28, s29, s30, s31, s32, s33, s34, s35, s36, s37, s38, s39, s40, s41, s43, s44, rfl, hR9⟩
              clear f0
              have f0 := hR9.two.left.cell 0 rfl
              simp only [List.length_cons] at f0
              gi_wp2
              exact round_norm HS.out hE.out hR9 HB0.out
            · have hE := Lib.hid (at_on hat.out hy HG.out hy2)
              have hd : decide (xb < yb) = false := by simpa using hy2
              gi_wp2
              refine wpIn_mono (Q := Cut8 A PL.length cap gf lb w.heap.size B xa xb g false (fun W' => Rnd w.heap.size W ks B (xa, xb) ((ya, yb) :: rest') (bo ++ []) W' (some ⟨b, off, none⟩) c D d)) ?_ ?_
              · gi_region_o
                all_goals exact ⟨rfl, _, _, _, _, _, _, _, _, _, _, _, _, _, _, _, _, _, _, _, _, _, _, _, _, _, _, _, _, _, _, _, _, _, _, rfl, hR8.drew⟩
              rintro e a' W8 ⟨rfl, s10, s11, s12, s13, s14, s15, s16, s17, s18, s19, s20, s21, s22, s23, s24, s25, s26, s27, s28, s29, s30, s31, s32, s33, s34, s35, s36, s37, s38, s39, s40, s41, s43, s44, rfl, hR9⟩
              clear f0 k1 k2 v0 v1
              have f0 := hR9.two.left.cell 0 rfl
              have f2 := hR9.two.left.frozen 0
              simp only [List.length_cons] at f0
              have hc1 := hR9.two.cap
              have hc2 := hR9.two.max
              simp only [List.length_cons] at hc1
              by_cases hc3 : c = 1
              · subst hc3
                obtain rfl : rest' = [] := List.eq_nil_of_length_eq_zero (by omega)
                have T := Lib.hid (hR9.setLeft (rest' := []) (A' := some ⟨b, off, none⟩) (c' := 0) (fun k hk => by simp at hk) (by simp) (by omega))
                simp only [List.length_nil] at *
                gi_wp2
                go_roundw
                case rel => exact ⟨[], _, _, _, _, _, T.out, hE⟩
                case measure => rw [plen_of T.out.two.left, HM.out]; simp
              · have T := Lib.hid (hR9.setLeft (rest' := rest') (A' := some ⟨b, off + 2, none⟩) (c' := c - 1) (lies_tail hR9.two.lies) (by omega) (by omega))
                gi_wp2
                go_roundw
                case rel => exact ⟨rest', _, _, _, _, _, T.out, hE⟩
                case measure => rw [plen_of T.out.two.left, HM.out]; simp
        · have hE := Lib.hid (at_miss hat.out hy)
          have hd : decide (ya < xb) = false := by simpa using hy
          gi_wp2
          refine wpIn_mono (Q := Cut4 A PL.length cap gf lb w.heap.size B xa xb false (fun W' => Rnd w.heap.size W ks B (xa, xb) ((ya, yb) :: rest') bo W' (some ⟨b, off, none⟩) c D d)) ?_ ?_
          · gi_region_o
            all_goals exact ⟨rfl, _, _, _, _, _, _, _, _, _, _, _, _, _, _, _, _, _, _, _, _, _, _, _, _, _, _, _, _, _, _, _, _, _, _, _, rfl, h.drew⟩
          rintro e a' W' ⟨rfl, s7, s10, s11, s12, s13, s14, s15, s16, s17, s18, s19, s20, s22, s23, s24, s25, s26, s27, s28, s29, s30, s31, s32, s33, s34, s35, s36, s37, s38, s39, s40, s41, s42, s43, s44, rfl, hR⟩
          clear f0 f1
          have f0 := hR.two.left.cell 0 rfl
          simp only [List.length_cons] at f0
          gi_wp2
          exact round_norm HS.out hE.out hR HB0.out
end Go.Proofs.YthdolmhnjinlhaaGreat

namespace Go.Proofs.YthdolmhnjinlhaaGreat
open Go.RowKit
set_option linter.unusedVariables false
set_option maxRecDepth 20000

theorem values_any (A : Option Addr) (n c : Nat) (w : World) : Calls Tryz.prog 86 #[.slice A n c] w fun e w' => e = .returned (.func (.func 99) #[] #[.pointer (some ⟨w.heap.size, 0, none⟩)]) ∧ w' = w.alloc (.cells #[.slice A n c] 31) := by
  go_enter Tryz.func86, Tryz.ntmps86
  go_wp2
  go_ret
  exact ⟨rfl, rfl⟩
theorem gaps_any (A : Option Addr) (n c : Nat) (w : World) : Calls Tryz.prog 34 #[.slice A n c] w fun e w' => e = .returned (.func (.func 63) #[] #[.pointer (some ⟨w.heap.size, 0, none⟩)]) ∧ w' = w.alloc (.cells #[.slice A n c] 31) := by
  go_enter Tryz.func34, Tryz.ntmps34
  go_wp2
  go_ret
  exact ⟨rfl, rfl⟩

theorem row_caps {w : World} {base c : Nat} {A : Option Addr} {xs : List (Int × Int)} (h : Row w base A c xs) : xs.length ≤ c ∧ c ≤ 9223372036854775807 := by
  rcases h.forms with ⟨_, rfl, rfl⟩ | ⟨g, _, _, _, h1, h2⟩
  · exact ⟨by simp, by omega⟩
  · unfold maxLen at h2
    exact ⟨h1, h2⟩
theorem gives_bel {w w1 w' : World} {xs ys : List (Int × Int)} {e : Ending} (h : Gives w1 xs e w') (hb : Below w.heap.size w w1) (he : xs = ys) : Gives w ys e w' := by
  subst he
  obtain ⟨D, d, rfl, hr, hb2⟩ := h
  exact ⟨D, d, rfl, hr.mono hb.size, bel_on hb hb2⟩

theorem and_any (A B : Option Addr) (ca cb : Nat) (a b : List (Int × Int)) (w : World) (ha : Spans w A a) (hb : Spans w B b) (hla : a.length ≤ 100000000) (hlb : b.length ≤ 100000000) :
    Calls Tryz.prog 61 #[.slice A a.length ca, .slice B b.length cb] w (Gives w (canon fun t => In a t ∧ In b t)) := by
  have hE : (runW (canon (In a)) (canon (In b))).2 = canon (fun t => In a t ∧ In b t) := by
    rw [runW_canon (canon_plain _) (canon_plain _)]
    exact canon_congr (fun t h1 h2 => by rw [canon_in, canon_in]; exact ⟨fun h => ⟨h.1.2.2, h.2.2.2⟩, fun h => ⟨⟨h1, h2, h.1⟩, ⟨h1, h2, h.2⟩⟩⟩)
  have HE := Lib.hid hE
  have fa := Fits.canon (In a)
  have fb := Fits.canon (In b)
  have la := canon_len (In a)
  have lb := canon_len (In b)
  have HB := Lib.hid hb
  have ca1 := norm_any A ca a w ha hla
  have cb1 := fun W (h : Spans W B b) => norm_any B cb b W h hlb
  have CB := Lib.hid cb1
  clear hE hb ha cb1
  generalize canon (In a) = La at *
  generalize canon (In b) = Lb at *
  go_enter Tryz.func61, Tryz.ntmps61
  go_wp2_with fail
  refine ca1.mono ?_
  rintro e w1 ⟨A1, c1, rfl, hr1, hb1⟩
  go_wp2_with fail
  refine (CB.out _ (HB.out.below hb1)).mono ?_
  rintro e w2 ⟨B1, d1, rfl, hr2, hb2⟩
  have hr1' := hr1.below hb2
  have hk := row_caps hr1
  replace hb2 := bel_on hb1 hb2
  go_wp2_with fail
  refine (values_any B1 _ d1 w2).mono ?_
  rintro e w3 ⟨rfl, rfl⟩
  have L1 := Lib.hid ((hr1'.alloc (.cells #[.slice B1 Lb.length d1] 31)).spans fa).lies
  have L2 := Lib.hid ((hr2.alloc (.cells #[.slice B1 Lb.length d1] 31)).spans fb).lies
  have H3 : Has (w2.alloc (.cells #[.slice B1 Lb.length d1] 31)) w2.heap.size #[.slice B1 Lb.length d1] := Has.new _ _ _ rfl
  have hb3 := bel_alloc hb2 (.cells #[.slice B1 Lb.length d1] 31)
  clear hr1 hr1' hr2 hb1 hb2 ca1
  generalize w2.alloc (.cells #[.slice B1 Lb.length d1] 31) = w3 at *
  generalize w2.heap.size = s2 at *
  have eg : ∀ args w, (callFunc 99 args).run Tryz.prog w = .ok (.enter 99 args) w := enters_of Tryz.func99 (by kernel_rfl) rfl
  go_wp2_with fail
  refine (within_any A1 c1 La Lb _ _ w3 L1.out hk.1 hk.2 (by omega) (by omega) eg (fun W hW hs => values_seq s2 w3.heap.size d1 B1 Lb W (Nat.lt_of_lt_of_le H3.size hW.size) ((H3.below hW).cell 0 rfl) (L2.out.below hW) hW.size (by omega))).mono ?_
  intro e w4 hg
  have HG := gives_bel hg hb3 HE.out
  clear hg
  obtain ⟨D, d, rfl, hr, hb⟩ := HG
  go_wp2
  go_ret
  exact ⟨D, d, rfl, hr, hb⟩

theorem minus_any (A B : Option Addr) (ca cb : Nat) (a b : List (Int × Int)) (w : World) (ha : Spans w A a) (hb : Spans w B b) (hla : a.length ≤ 100000000) (hlb : b.length ≤ 100000000) :
    Calls Tryz.prog 15 #[.slice A a.length ca, .slice B b.length cb] w (Gives w (canon fun t => In a t ∧ ¬ In b t)) := by
  have hE : (runW (canon (In a)) (gapsL 0 (canon (In b)))).2 = canon (fun t => In a t ∧ ¬ In b t) := by
    obtain ⟨g1, g2⟩ := gapsL_spec (canon (In b)) 0 (canon_plain _) (by omega)
    rw [runW_canon (canon_plain _) g1]
    exact canon_congr (fun t h1 h2 => by rw [canon_in, g2, canon_in]; exact ⟨fun h => ⟨h.1.2.2, fun q => h.2.2.2 ⟨h1, h2, q⟩⟩, fun h => ⟨⟨h1, h2, h.1⟩, h1, h2, fun q => h.2 q.2.2⟩⟩)
  have HE := Lib.hid hE
  have fa := Fits.canon (In a)
  have fb := Fits.canon (In b)
  have la := canon_len (In a)
  have lb := canon_len (In b)
  have lg := gapsL_len (canon (In b)) 0
  have HB := Lib.hid hb
  have ca1 := norm_any A ca a w ha hla
  have cb1 := fun W (h : Spans W B b) => norm_any B cb b W h hlb
  have CB := Lib.hid cb1
  clear hE hb ha cb1
  generalize canon (In a) = La at *
  generalize canon (In b) = Lb at *
  go_enter Tryz.func15, Tryz.ntmps15
  go_wp2_with fail
  refine ca1.mono ?_
  rintro e w1 ⟨A1, c1, rfl, hr1, hb1⟩
  go_wp2_with fail
  refine (CB.out _ (HB.out.below hb1)).mono ?_
  rintro e w2 ⟨B1, d1, rfl, hr2, hb2⟩
  have hr1' := hr1.below hb2
  have hk := row_caps hr1
  replace hb2 := bel_on hb1 hb2
  go_wp2_with fail
  refine (gaps_any B1 _ d1 w2).mono ?_
  rintro e w3 ⟨rfl, rfl⟩
  have L1 := Lib.hid ((hr1'.alloc (.cells #[.slice B1 Lb.length d1] 31)).spans fa).lies
  have L2 := Lib.hid ((hr2.alloc (.cells #[.slice B1 Lb.length d1] 31)).spans fb).lies
  have H3 : Has (w2.alloc (.cells #[.slice B1 Lb.length d1] 31)) w2.heap.size #[.slice B1 Lb.length d1] := Has.new _ _ _ rfl
  have hb3 := bel_alloc hb2 (.cells #[.slice B1 Lb.length d1] 31)
  clear hr1 hr1' hr2 hb1 hb2 ca1
  generalize w2.alloc (.cells #[.slice B1 Lb.length d1] 31) = w3 at *
  generalize w2.heap.size = s2 at *
  have eg : ∀ args w, (callFunc 63 args).run Tryz.prog w = .ok (.enter 63 args) w := enters_of Tryz.func63 (by kernel_rfl) rfl
  go_wp2_with fail
  refine (within_any A1 c1 La (gapsL 0 Lb) _ _ w3 L1.out hk.1 hk.2 (by omega) (by omega) eg (fun W hW hs => gaps_seq s2 w3.heap.size d1 B1 Lb W (Nat.lt_of_lt_of_le H3.size hW.size) ((H3.below hW).cell 0 rfl) (L2.out.below hW) hW.size (by omega))).mono ?_
  intro e w4 hg
  have HG := gives_bel hg hb3 HE.out
  clear hg
  obtain ⟨D, d, rfl, hr, hb⟩ := HG
  go_wp2
  go_ret
  exact ⟨D, d, rfl, hr, hb⟩

end Go.Proofs.YthdolmhnjinlhaaGreat

namespace Go.Proofs.YthdolmhnjinlhaaGreat
set_option linter.unusedVariables false
set_option linter.unusedSimpArgs false

/-! ### Near -/
/-! ### The lists of a day -/
theorem brk_fill : ∀ {l : List (Int × Int)} {a B : Int}, PlainFrom a l → (∀ s ∈ l, s.2 ≤ B) → a ≤ B + 1 → (l.length : Int) ≤ B + 1 - a
  | [], a, B, _, _, h => by simp; omega
  | s :: l, a, B, ⟨h1, h2, h3, h4⟩, hB, h => by
    have hs := hB s (by simp)
    have := brk_fill h4 (fun x hx => hB x (by simp [hx])) (by omega)
    simp only [List.length_cons]
    omega
theorem day_len {p : Int → Prop} {d : Int} (h : ∀ t, p t → t / 86400 = d) : (canon p).length ≤ 86401 := by
  have hp : PlainFrom 0 (canon p) := canon_plain _
  have hin : ∀ s ∈ canon p, 86400 * d ≤ s.1 ∧ s.2 ≤ 86400 * d + 86400 := fun s hs => by
    have h0 := (plain_pairs.1 hp).1 s hs
    have h1 := h _ ((canon_in p s.1).1 ⟨s, hs, by omega, by omega⟩).2.2
    have h2 := h _ ((canon_in p (s.2 - 1)).1 ⟨s, hs, by omega, by omega⟩).2.2
    omega
  have hp2 : PlainFrom (86400 * d) (canon p) := plain_pairs.2 ⟨fun s hs => by
    have h0 := (plain_pairs.1 hp).1 s hs
    have := hin s hs
    omega, (plain_pairs.1 hp).2⟩
  have := brk_fill hp2 (fun s hs => (hin s hs).2) (by omega)
  omega
section
variable {C R : Int → Prop} {pb af ab : Int}
/-- The lists in turn: the day's clock and breaks; the first breaks; the others; what is no break; the last of it. -/
noncomputable def fstL (R : Int → Prop) (pb d : Int) : List (Int × Int) := canon (fstS (onDay R d) pb)
theorem in_can {p : Int → Prop} {t : Int} (h0 : 0 ≤ t) (h1 : t < 32054400) : In (canon p) t ↔ p t := by rw [canon_in]; exact ⟨fun h => h.2.2, fun h => ⟨h0, h1, h⟩⟩
theorem cnt_can (p : Int → Prop) {n : Nat} (h : n ≤ 32054400) : cnt (In (canon p)) n = cnt p n := cnt_congr fun t h0 h1 => in_can h0 (by omega)
theorem sz_can (p : Int → Prop) : sz (In (canon p)) = sz p := cnt_can p (Nat.le_refl _)
theorem fst_list (n d : Int) : (canon fun t => In (ofDayP R d) t ∧ cnt (In (ofDayP R d)) t.toNat < n) = fstL R n d :=
  canon_congr fun t h0 h1 => by
    unfold ofDayP
    rw [in_can h0 h1, cnt_can _ (by omega)]
    exact Iff.rfl
end
/-! ### All days -/
end Go.Proofs.YthdolmhnjinlhaaGreat

namespace Go.Proofs.YthdolmhnjinlhaaGreat
open Go.RowKit
set_option linter.unusedVariables false

def RVal (v : Value) : Option (DataW Value × List MemPlace) := some (.held v, [])
def updF (f : Int → Option Value) (k : Int) (v : Value) : Int → Option Value := fun i => if i = k then some v else f i
theorem int_keyed3 : Maps.Keyed Tryz.prog 3 := Maps.int_keyed Tryz.underlying3
theorem int_key3 {i : Int} (h : -9223372036854775808 ≤ i ∧ i ≤ 9223372036854775807) : keyOf Tryz.prog 3 (.int .i64 i) = some (.int .i64 i) :=
  Maps.keyOf_int_mk Tryz.underlying3 (by simp [Lit.wf, IntKind.min, IntKind.max, IntKind.bits, IntKind.signed]; omega)
/-- Block b is a map from numbers to slices, of at most n entries; f tells what it has. -/
def MapI (w : World) (b n : Nat) (f : Int → Option Value) : Prop :=
  ∃ D : DataW Value, w.ownsMap Tryz.prog 3 RVal b n D ∧ Maps.IsMap D ∧ ∀ i : Int, (-9223372036854775808 ≤ i ∧ i ≤ 9223372036854775807) → Maps.has D (.int .i64 i) = (f i).isSome ∧ ∀ v, f i = some v → ∀ z, D.atKey (.int .i64 i) z = .held v

section
variable {w w' : World} {b n : Nat} {f : Int → Option Value}
theorem lit_int_ne {i k : Int} (h : i ≠ k) : Lit.int .i64 i ≠ Lit.int .i64 k := fun e => h (by injection e)
/-- What 'm[k] = v' does. -/
theorem MapI.put (h : MapI w b n f) (hn : n < 1000) {t : TypeId} {e : TypeId} (ht : Tryz.prog.underlying t = some (.map 3 e)) {k : Int} (hk : -9223372036854775808 ≤ k ∧ k ≤ 9223372036854775807) (v : Value) :
    ∃ w', (Instr.mapUpdate t (.map (some b)) (.int .i64 k) v).run Tryz.prog w = .ok () w' ∧ MapI w' b (n + 1) (updF f k v) ∧ w.grownBy w' (some b) := by
  obtain ⟨D, h, hm, hf⟩ := h
  obtain ⟨w', hr, h2, hg⟩ := h.update int_keyed3 ht (by unfold maxLen; omega) (int_key3 hk) (d := .held v) (ps := []) rfl
  refine ⟨w', hr, ⟨D.put (.int .i64 k) (.held v), h2, hm.put _ _, fun i hi => ?_⟩, hg⟩
  obtain ⟨h3, h4⟩ := hf i hi
  unfold updF
  by_cases e : i = k
  · subst e
    rw [if_pos rfl]
    refine ⟨by rw [Maps.has_put_same hm (by trivial)]; rfl, fun u hu z => ?_⟩
    cases hu
    exact Maps.atKey_put_same hm (by trivial) _ _
  · rw [if_neg e]
    exact ⟨by rw [Maps.has_put_other (lit_int_ne e)]; exact h3, fun u hu z => by rw [Maps.atKey_put_other (lit_int_ne e)]; exact h4 u hu z⟩
end
end Go.Proofs.YthdolmhnjinlhaaGreat
