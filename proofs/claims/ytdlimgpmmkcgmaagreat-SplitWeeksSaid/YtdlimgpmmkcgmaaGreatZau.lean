/-
  The contract of package span's within, continued: the walk.
  The contracts of package span's functions, continued: And, Minus, Last.
-/
import Derived.Test.YtdlimgpmmkcgmaaGreatZat
namespace Go.Proofs.YtdlimgpmmkcgmaaGreat
open Go.RowKit
set_option linter.unusedVariables false
set_option maxRecDepth 20000
attribute [local go_sem] Oper.semAt_some

/-- How many are left, off the world. -/
def plen (n : Nat) (W : World) : Nat := match W.cell? ⟨n, 0, none⟩ with | some (.slice _ m _) => m | _ => 0

theorem plen_of {n m c : Nat} {A : Option Addr} {W : World} (h : Has W n #[.slice A m c]) : plen n W = m := by
  unfold plen
  rw [h.cell 0 rfl]
  rfl
/-- The loop's word between two rounds. -/
def WithI (PL : List (Int × Int)) (w : World) (ks : List Nat) (pre : List (Int × Int)) (W : World) : Prop :=
  ∃ A c D d, Two w.heap.size ks (runW PL pre).1 (runW PL pre).2 W A c D d ∧ Below w.heap.size w W
def WithX (PL : List (Int × Int)) (w : World) (c : Code) (pre : List (Int × Int)) (W : World) : Prop :=
  c = .exit 0 ∧ (runW PL pre).1 = [] ∧ ∃ A c D d, Two w.heap.size [] (runW PL pre).1 (runW PL pre).2 W A c D d ∧ Below w.heap.size w W
theorem with_lets (PL : List (Int × Int)) (w : World) : Lets (WithI PL w) where
  alloc := fun ks pre A o ⟨a, c, D, d, h, hb⟩ => ⟨a, c, D, d, h.alloc o, hb.alloc hb.size o⟩
  own := fun ks pre A o ⟨a, c, D, d, h, hb⟩ => ⟨a, c, D, d, h.own o, hb.alloc hb.size o⟩
  set := fun ks pre A k i v ⟨a, c, D, d, h, hb⟩ hk => ⟨a, c, D, d, h.set hk i v, hb.setCell (p := ⟨k, i, none⟩) (by have := (h.far k hk).1; simp only []; omega) v⟩
  less := fun ks k pre A ⟨a, c, D, d, h, hb⟩ => ⟨a, c, D, d, h.less (fun j hj => List.mem_cons_of_mem _ hj), hb⟩

/-- How a round stands: what the rest of it will leave, and find. -/
def RoundAt (x : Int × Int) (rest0 bo0 rest bo : List (Int × Int)) : Prop := (stepW x rest).1 = (stepW x rest0).1 ∧ bo ++ (stepW x rest).2 = bo0 ++ (stepW x rest0).2

theorem round_exit {PL pre rest0 bo0 bo : List (Int × Int)} {w W wr : World} {x : Int × Int} {ks : List Nat} {B n₁ : Nat} {A : Option Addr} {c : Nat} {D : Option Addr} {d : Nat} (hS : runW PL (pre ++ [x]) = ((stepW x rest0).1, bo0 ++ (stepW x rest0).2)) (hat : RoundAt x rest0 bo0 [] bo)
    (h : Rnd w.heap.size W ks B x [] bo wr A c D d) (hb : Below w.heap.size w W) : KeepsFrom n₁ W wr ∧ WithX PL w (.exit 0) (pre ++ [x]) wr := by
  have e1 : (runW PL (pre ++ [x])).1 = [] := by rw [hS, ← hat.1]; rfl
  have e2 : (runW PL (pre ++ [x])).2 = bo := by
    rw [hS, ← hat.2]
    show bo ++ [] = bo
    rw [List.append_nil]
  refine ⟨h.ko.from _, rfl, e1, A, c, D, d, ?_, hb.trans h.bel⟩
  rw [e1, e2]
  exact h.two.less (by simp)
theorem round_norm {PL pre rest0 bo0 rest bo : List (Int × Int)} {w W wr : World} {x : Int × Int} {ks : List Nat} {B n₁ : Nat} {A : Option Addr} {c : Nat} {D : Option Addr} {d : Nat} (hS : runW PL (pre ++ [x]) = ((stepW x rest0).1, bo0 ++ (stepW x rest0).2)) (hat : (stepW x rest0).1 = rest ∧ bo0 ++ (stepW x rest0).2 = bo)
    (h : Rnd w.heap.size W ks B x rest bo wr A c D d) (hb : Below w.heap.size w W) : KeepsFrom n₁ W wr ∧ (∀ k ∈ ks, wr.heap[k]? = W.heap[k]?) ∧ Below w.heap.size W wr ∧ WithI PL w ks (pre ++ [x]) wr := by
  refine ⟨h.ko.from _, h.own, h.bel, A, c, D, d, ?_, hb.trans h.bel⟩
  rw [hS, hat.1, hat.2]
  exact h.two.less (fun k hk => List.mem_cons_of_mem _ hk)
theorem stepW_cons (p x : Int × Int) (l : List (Int × Int)) : stepW p (x :: l) = if x.1 < p.2 then
      if p.2 < x.2 then (x :: l, if max x.1 p.1 < min x.2 p.2 then [(max x.1 p.1, min x.2 p.2)] else [])
      else ((stepW p l).1, (if max x.1 p.1 < min x.2 p.2 then [(max x.1 p.1, min x.2 p.2)] else []) ++ (stepW p l).2)
    else (x :: l, []) := rfl
theorem at_miss {x y : Int × Int} {rest0 bo0 l bo : List (Int × Int)} (h : RoundAt x rest0 bo0 (y :: l) bo) (hy : ¬ y.1 < x.2) : (stepW x rest0).1 = y :: l ∧ bo0 ++ (stepW x rest0).2 = bo := by
  obtain ⟨h1, h2⟩ := h
  rw [stepW_cons, if_neg hy] at h1 h2
  exact ⟨h1.symm, by rw [← h2]; simp⟩
theorem at_end {x y : Int × Int} {rest0 bo0 l bo seg : List (Int × Int)} (h : RoundAt x rest0 bo0 (y :: l) bo) (hy : y.1 < x.2) (hs : (if max y.1 x.1 < min y.2 x.2 then [(max y.1 x.1, min y.2 x.2)] else []) = seg) (hy2 : x.2 < y.2) : (stepW x rest0).1 = y :: l ∧ bo0 ++ (stepW x rest0).2 = bo ++ seg := by
  obtain ⟨h1, h2⟩ := h
  rw [stepW_cons, if_pos hy, if_pos hy2, hs] at h1 h2
  exact ⟨h1.symm, h2.symm⟩
theorem at_on {x y : Int × Int} {rest0 bo0 l bo seg : List (Int × Int)} (h : RoundAt x rest0 bo0 (y :: l) bo) (hy : y.1 < x.2) (hs : (if max y.1 x.1 < min y.2 x.2 then [(max y.1 x.1, min y.2 x.2)] else []) = seg) (hy2 : ¬ x.2 < y.2) : RoundAt x rest0 bo0 l (bo ++ seg) := by
  obtain ⟨h1, h2⟩ := h
  rw [stepW_cons, if_pos hy, if_neg hy2, hs] at h1 h2
  exact ⟨h1, by rw [List.append_assoc]; exact h2⟩
theorem lies_tail {n : Nat} {W : World} {b off : Nat} {y : Int × Int} {l : List (Int × Int)} (h : Lies n W (some ⟨b, off, none⟩) (y :: l)) : Lies n W (some ⟨b, off + 2, none⟩) l := fun k hk => by
  obtain ⟨b', off', e, h0, h1, h2⟩ := h (k + 1) (by simpa using hk)
  simp only [Option.some.injEq, Addr.mk.injEq, and_true] at e
  obtain ⟨rfl, rfl⟩ := e
  refine ⟨b, off + 2, rfl, h0, ?_, ?_⟩
  · rw [show off + 2 + k * 2 = off + (k + 1) * 2 by omega]; simpa using h1
  · rw [show off + 2 + k * 2 + 1 = off + (k + 1) * 2 + 1 by omega]; simpa using h2
theorem at_len {x : Int × Int} {rest0 bo0 l bo : List (Int × Int)} (h : RoundAt x rest0 bo0 l bo) : bo.length ≤ (bo0 ++ (stepW x rest0).2).length := by rw [← h.2, List.length_append]; omega

/-- Behind a drawn region of a round: slots that hold whatever they hold; slot 21 the test's answer. -/
def Cut4 (A : Option Addr) (m cap gf : Nat) (lb : Array Value) (n B : Nat) (xa xb : Int) (bv : Bool) (R : World → Prop) (e : Exit) (a' : Act) (W' : World) : Prop := e = .normal ∧ ∃ (s7 s10 s11 s12 s13 s14 s15 s16 s17 s18 s19 s20 s22 s23 s24 s25 s26 s27 s28 s29 s30 s31 s32 s33 s34 s35 s36 s37 s38 s39 s40 s41 s42 s43 s44 : Value), a' = { tmps := #[.slice A m cap, .func (.func gf) #[] lb, .pointer (some ⟨n, 0, none⟩), undef, .slice none 0 0, .pointer (some ⟨n + 1, 0, none⟩), .pointer (some ⟨B, 0, none⟩), s7, .func (.func gf) #[] lb, .agg #[.int .i64 xa, .int .i64 xb], s10, s11, s12, s13, s14, s15, s16, s17, s18, s19, s20, .bool bv, s22, s23, s24, s25, s26, s27, s28, s29, s30, s31, s32, s33, s34, s35, s36, s37, s38, s39, s40, s41, s42, s43, s44, undef, undef, undef, undef], defers := [] } ∧ R W'
/-- .. slot 7 the variable s. -/
def Cut5 (A : Option Addr) (m cap gf : Nat) (lb : Array Value) (n B : Nat) (xa xb : Int) (R : Nat → World → Prop) (e : Exit) (a' : Act) (W' : World) : Prop := e = .normal ∧ ∃ (g : Nat) (s10 s11 s12 s13 s14 s15 s16 s17 s18 s19 s20 s21 s22 s23 s24 s25 s26 s27 s28 s29 s30 s31 s32 s33 s34 s35 s36 s37 s38 s39 s40 s41 s42 s43 s44 : Value), a' = { tmps := #[.slice A m cap, .func (.func gf) #[] lb, .pointer (some ⟨n, 0, none⟩), undef, .slice none 0 0, .pointer (some ⟨n + 1, 0, none⟩), .pointer (some ⟨B, 0, none⟩), .pointer (some ⟨g, 0, none⟩), .func (.func gf) #[] lb, .agg #[.int .i64 xa, .int .i64 xb], s10, s11, s12, s13, s14, s15, s16, s17, s18, s19, s20, s21, s22, s23, s24, s25, s26, s27, s28, s29, s30, s31, s32, s33, s34, s35, s36, s37, s38, s39, s40, s41, s42, s43, s44, undef, undef, undef, undef], defers := [] } ∧ R g W'
/-- .. slot 42 the test's answer. -/
def Cut8 (A : Option Addr) (m cap gf : Nat) (lb : Array Value) (n B : Nat) (xa xb : Int) (g : Nat) (bv : Bool) (R : World → Prop) (e : Exit) (a' : Act) (W' : World) : Prop := e = .normal ∧ ∃ (s10 s11 s12 s13 s14 s15 s16 s17 s18 s19 s20 s21 s22 s23 s24 s25 s26 s27 s28 s29 s30 s31 s32 s33 s34 s35 s36 s37 s38 s39 s40 s41 s43 s44 : Value), a' = { tmps := #[.slice A m cap, .func (.func gf) #[] lb, .pointer (some ⟨n, 0, none⟩), undef, .slice none 0 0, .pointer (some ⟨n + 1, 0, none⟩), .pointer (some ⟨B, 0, none⟩), .pointer (some ⟨g, 0, none⟩), .func (.func gf) #[] lb, .agg #[.int .i64 xa, .int .i64 xb], s10, s11, s12, s13, s14, s15, s16, s17, s18, s19, s20, s21, s22, s23, s24, s25, s26, s27, s28, s29, s30, s31, s32, s33, s34, s35, s36, s37, s38, s39, s40, s41, .bool bv, s43, s44, undef, undef, undef, undef], defers := [] } ∧ R W'

set_option maxHeartbeats 20000000 in
theorem within_any (A : Option Addr) (cap : Nat) (PL ps : List (Int × Int)) (gf : Nat) (lb : Array Value) (w : World) (hx : Lies w.heap.size w A PL) (hcap : PL.length ≤ cap) (hcm : cap ≤ 9223372036854775807) (hl : PL.length ≤ 100000000) (hps : ps.length ≤ 100000000)
    (eg : ∀ args w, (callFunc gf args).run Tryz.prog w = .ok (.enter gf args) w) (hseq : ∀ W : World, Below w.heap.size w W → W.heap.size = w.heap.size + 2 → SeqOf Tryz.prog gf lb w.heap.size ps W) :
    Calls Tryz.prog 59 #[.slice A PL.length cap, .func (.func gf) #[] lb] w (Gives w (runW PL ps).2) := by
  have hb0 : Below w.heap.size w ((w.alloc (.cells #[.slice A PL.length cap] 40)).alloc (.cells #[.slice none 0 0] 40)) := ((Below.refl _ _).alloc (Nat.le_refl _) _).alloc (by simp) _
  have hT0 : Two w.heap.size [] PL [] ((w.alloc (.cells #[.slice A PL.length cap] 40)).alloc (.cells #[.slice none 0 0] 40)) A cap none 0 :=
    ⟨(Has.new _ _ _ rfl).alloc _, Has.new _ _ _ (by simp), Row.nil _ _, hx.below hb0, hcap, hcm, by simp⟩
  have hsz : ((w.alloc (.cells #[.slice A PL.length cap] 40)).alloc (.cells #[.slice none 0 0] 40)).heap.size = w.heap.size + 2 := by simp
  have hsq := hseq _ hb0 hsz
  clear hseq hx
  refine (callsIn_wide (n := 0)).1 (callsIn_of_wp_marks Tryz.func59 rfl trivial ?_ rfl)
  simp only [Tryz.ntmps59, List.size_toArray, List.length_cons, List.length_nil, Nat.reduceAdd, Nat.reduceSub, Array.replicate_succ, Array.replicate_zero, List.push_toArray, List.append_toArray, List.nil_append, List.cons_append]
  gi_wp2
  generalize (w.alloc (.cells #[.slice A PL.length cap] 40)).alloc (.cells #[.slice none 0 0] 40) = w1 at *
  refine range_own (T := 44) (n₀ := w.heap.size) (ps := ps) rfl eg hsq (by omega) rfl (WithI PL w) (WithX PL w) (with_lets PL w)
    (fun ks pre W l o o' ⟨a, c, D, d, h, hb⟩ hl ho hc => ⟨a, c, D, d, h.put o' (by omega) ho hc, hb.trans (below_putObj _ (by omega))⟩)
    (fun k pre W l o o' ⟨e1, e2, a, c, D, d, h, hb⟩ hl ho hc => ⟨e1, e2, a, c, D, d, h.put o' (by omega) ho hc, hb.trans (below_putObj _ (by omega))⟩)
    ⟨A, cap, none, 0, hT0, hb0⟩
    (fun B x => { tmps := #[.slice A PL.length cap, .func (.func gf) #[] lb, .pointer (some ⟨w.heap.size, 0, none⟩), undef, .slice none 0 0, .pointer (some ⟨w.heap.size + 1, 0, none⟩), .pointer (some ⟨B, 0, none⟩), undef, .func (.func gf) #[] lb, .agg #[.int .i64 x.1, .int .i64 x.2],
      undef, undef, undef, undef, undef, undef, undef, undef, undef, undef, undef, undef, undef, undef, undef, undef, undef, undef, undef, undef, undef, undef, undef, undef, undef, undef, undef, undef, undef, undef, undef, undef, undef, undef, undef, undef, undef, undef, undef], defers := [] })
    ?assign ?body ?done ?stop
  case assign =>
    intro l x W K hK
    unfold agg2
    gi_wp2
    exact hK
  case done =>
    rintro D ks W hD ⟨a, c, E, d, h, hb⟩ hK
    have f0 : W.cell? ⟨w.heap.size + 1, 0, none⟩ = some (.slice E (runW PL ps).2.length d) := h.found.cell 0 rfl
    have h' := h.put (.deferred none) (by omega) hK rfl
    have HH := Lib.hid h'
    clear h h'
    gi_wp2
    refine ⟨by simp, .inl ⟨_, _, rfl, run_takeDeferred hK, ?_⟩⟩
    refine ⟨_, results_tmp rfl _ _ _, ?_⟩
    exact gives_of (HH.out.row.mono (by omega)) rfl rfl (hb.trans (below_putObj _ (by omega)))
  case stop =>
    rintro D c pre W hD hpre ⟨rfl, hnil, a, c, E, d, h, hb⟩ hK
    have f0 : W.cell? ⟨w.heap.size + 1, 0, none⟩ = some (.slice E (runW PL pre).2.length d) := h.found.cell 0 rfl
    have h' := h.put (.deferred none) (by omega) hK rfl
    have HH := Lib.hid h'
    have HE := Lib.hid (runW_stop hpre hnil)
    clear h h' hnil
    gi_wp2
    refine ⟨by simp, .inl ⟨_, _, rfl, run_takeDeferred hK, ?_⟩⟩
    refine ⟨_, results_tmp rfl _ _ _, ?_⟩
    exact gives_of (HH.out.row.mono (by omega)) (by rw [HE.out]) rfl (hb.trans (below_putObj _ (by omega)))
  case body =>
    rintro l ks pre x B W ⟨a0, c0, D0, d0, h0, hb⟩ hB hpre
    have hlen : (runW PL (pre ++ [x])).2.length ≤ 200000000 := by
      have h1 := runW_len PL _ (pre ++ [x]) rfl
      have h2 := hpre.length_le
      omega
    have HS := Lib.hid (runW_snoc PL pre x)
    have HB0 := Lib.hid hb
    rw [runW_snoc] at hlen
    simp only [] at hlen
    have hksB : ∀ k ∈ ks, k ∈ B :: ks := fun k hk => List.mem_cons_of_mem _ hk
    have HK := Lib.hid hksB
    generalize hr0 : (runW PL pre).1 = rest0 at *
    generalize hbo0 : (runW PL pre).2 = bo0 at *
    have HL := Lib.hid hlen
    obtain ⟨xa, xb⟩ := x
    simp only [] at hB
    clear hT0 hsq hsz hb0 eg hr0 hbo0 hlen hksB hb
    have mixed : Tryz.prog.follows Departure.mixedOrders = true := by kernel_rfl
    gi_wp2
    gi_loopw [21] (fun _ wr => ∃ rest bo a c D d, Rnd w.heap.size W ks B (xa, xb) rest bo wr a c D d ∧ Hid (RoundAt (xa, xb) rest0 bo0 rest bo)) (fun _ wr => plen w.heap.size wr)
    case atStart => exact ⟨rest0, bo0, a0, c0, D0, d0, ⟨h0, hB, KeepsOthers.refl _, fun _ _ => rfl, Below.refl _ _⟩, ⟨rfl, rfl⟩⟩
    case round =>
      obtain ⟨rest, bo, a, c, D, d, h, hat⟩ := hrel
      have f0 := h.two.left.cell 0 rfl
      have f1 := h.two.found.cell 0 rfl
      have HM : Hid (plen w.heap.size wr = rest.length) := by
        show _ = _
        unfold plen
        rw [f0]
        rfl
      cases rest with
      | nil =>
        simp only [List.length_nil] at f0
        gi_wp2
        refine wpIn_mono (Q := Cut4 A PL.length cap gf lb w.heap.size B xa xb false (fun W' => Rnd w.heap.size W ks B (xa, xb) [] bo W' a c D d)) ?_ ?_
        · gi_region_o
          all_goals exact ⟨rfl, _, _, _, _, _, _, _, _, _, _, _, _, _, _, _, _, _, _, _, _, _, _, _, _, _, _, _, _, _, _, _, _, _, _, _, rfl, h.drew⟩
        rintro e a' W' ⟨rfl, s7, s10, s11, s12, s13, s14, s15, s16, s17, s18, s19, s20, s22, s23, s24, s25, s26, s27, s28, s29, s30, s31, s32, s33, s34, s35, s36, s37, s38, s39, s40, s41, s42, s43, s44, rfl, hR⟩
        clear f0 f1
        have f0 := hR.two.left.cell 0 rfl
        simp only [List.length_nil] at f0
        gi_wp2
        exact round_exit HS.out hat.out hR HB0.out
      | cons y rest' =>
        obtain ⟨b, off, rfl, hbn, g1, g2⟩ := h.two.lies 0 (by simp)
        obtain ⟨ya, yb⟩ := y
        simp only [List.getD_cons_zero, Nat.zero_mul, Nat.add_zero, List.length_cons] at f0 g1 g2
        obtain ⟨v0, v1, _, _⟩ := h.var.two
        simp only [] at v0 v1
        by_cases hy : ya < xb
        · gi_wp2
          refine wpIn_mono (Q := Cut4 A PL.length cap gf lb w.heap.size B xa xb true (fun W' => Rnd w.heap.size W ks B (xa, xb) ((ya, yb) :: rest') bo W' (some ⟨b, off, none⟩) c D d)) ?_ ?_
          · gi_region_o
            all_goals exact ⟨rfl, _, _, _, _, _, _, _, _, _, _, _, _, _, _, _, _, _, _, _, _, _, _, _, _, _, _, _, _, _, _, _, _, _, _, _, rfl, h.drew⟩
          rintro e a' W' ⟨rfl, s7, s10, s11, s12, s13, s14, s15, s16, s17, s18, s19, s20, s22, s23, s24, s25, s26, s27, s28, s29, s30, s31, s32, s33, s34, s35, s36, s37, s38, s39, s40, s41, s42, s43, s44, rfl, hR⟩
          clear f0 f1
          obtain ⟨b', off', he, hbn', k1, k2⟩ := hR.two.lies 0 (by simp)
          simp only [Option.some.injEq, Addr.mk.injEq, and_true] at he
          obtain ⟨rfl, rfl⟩ := he
          simp only [List.getD_cons_zero, Nat.zero_mul, Nat.add_zero] at k1 k2
          clear g1 g2 v0 v1 h
          obtain ⟨v0, v1, _, _⟩ := hR.var.two
          simp only [] at v0 v1
          have f0 := hR.two.left.cell 0 rfl
          simp only [List.length_cons] at f0
          have hn1 := hR.two.left.size
          have hn2 := hR.var.size
          have m1 : w.heap.size ≠ W'.heap.size := by omega
          have m2 : B ≠ W'.heap.size := by omega
          have m3 : b ≠ W'.heap.size := by omega
          have m9 : b < W'.heap.size := by omega
          have m4 := World.new_ne W' _ k1
          have m5 := World.new_ne W' _ k2
          have m6 := World.new_ne W' _ v0
          have m7 := World.new_ne W' _ v1
          have m8 := World.new_ne W' _ f0
          gi_wp2
          refine wpIn_mono (Q := Cut5 A PL.length cap gf lb w.heap.size B xa xb (fun g W'' => Rnd w.heap.size W ks B (xa, xb) ((ya, yb) :: rest') bo W'' (some ⟨b, off, none⟩) c D d ∧ Has W'' g #[.int .i64 (max ya xa), .int .i64 (min yb xb)])) ?_ ?_
          · gi_region_with_o ((refine ⟨trivial, rfl, ?_⟩; refine (CallsIn.inRound l (callsIn_wide.2 (common_at _ _ _ _ _))).mono ?_; rintro e w2 ⟨rfl, rfl⟩))
            all_goals
              refine ⟨rfl, _, _, _, _, _, _, _, _, _, _, _, _, _, _, _, _, _, _, _, _, _, _, _, _, _, _, _, _, _, _, _, _, _, _, _, _, rfl, ?_, ?_⟩
              · (repeat' (first | with_reducible assumption | with_reducible refine Rnd.alloc ?_ _ | with_reducible refine Rnd.drewN ?_ _ | with_reducible refine Rnd.drew ?_))
              · (repeat' (first | with_reducible assumption | ((with_reducible refine Has.new _ _ _ ?_); (first | (with_reducible rfl) | (simp; done))) | with_reducible refine Has.alloc ?_ _ | with_reducible refine Has.drewN ?_ _ | with_reducible refine Has.drew ?_))
          rintro e a' W5 ⟨rfl, g, s10, s11, s12, s13, s14, s15, s16, s17, s18, s19, s20, s21, s22, s23, s24, s25, s26, s27, s28, s29, s30, s31, s32, s33, s34, s35, s36, s37, s38, s39, s40, s41, s42, s43, s44, rfl, hR5, hG5⟩
          clear hR f0 k1 k2 v0 v1 m9 m1 m2 m3 m4 m5 m6 m7 m8 hn1 hn2
          obtain ⟨q0, q1, _, _⟩ := hG5.two
          have f1 := hR5.two.found.cell 0 rfl
          have hbo := at_len hat.out
          have hbo2 := HL.out
          by_cases hseg : max ya xa < min yb xb
          · have HG := Lib.hid (show (if max ya xa < min yb xb then [(max ya xa, min yb xb)] else []) = [(max ya xa, min yb xb)] from if_pos hseg)
            obtain ⟨D', d', w5, hrun, hF, hR8⟩ := hR5.push (max ya xa) (min yb xb) (by omega) rfl
            have p0 := hF.cell 0 rfl
            have p1 := hF.frozen 0
            have HU := Lib.hid hrun
            clear hrun hF hbo hbo2
            gi_wp2_with (gi_at_builtin; refine wpListIn_append_run HU.out rfl rfl rfl rfl ?_)
            clear p0 p1 f1 q0 q1
            generalize w5.setCell ⟨w.heap.size + 1, 0, none⟩ (.slice D' (bo.length + 1) d') = W6 at *
            obtain ⟨b', off', he, hbn', k1, k2⟩ := hR8.two.lies 0 (by simp)
            simp only [Option.some.injEq, Addr.mk.injEq, and_true] at he
            obtain ⟨rfl, rfl⟩ := he
            simp only [List.getD_cons_zero, Nat.zero_mul, Nat.add_zero] at k1 k2
            obtain ⟨v0, v1, _, _⟩ := hR8.var.two
            simp only [] at v0 v1
            have f0 := hR8.two.left.cell 0 rfl
            simp only [List.length_cons] at f0
            by_cases hy2 : xb < yb
            · have hE := Lib.hid (at_end hat.out hy HG.out hy2)
              gi_wp2
              refine wpIn_mono (Q := Cut8 A PL.length cap gf lb w.heap.size B xa xb g true (fun W' => Rnd w.heap.size W ks B (xa, xb) ((ya, yb) :: rest') (bo ++ [(max ya xa, min yb xb)]) W' (some ⟨b, off, none⟩) c D' d')) ?_ ?_
              · gi_region_o
                all_goals exact ⟨rfl, _, _, _, _, _, _, _, _, _, _, _, _, _, _, _, _, _, _, _, _, _, _, _, _, _, _, _, _, _, _, _, _, _, _, rfl, hR8.drew⟩
              rintro e a' W8 ⟨rfl, s10, s11, s12, s13, s14, s15, s16, s17, s18, s19, s20, s21, s22, s23, s24, s25, s26, s27, s28, s29, s30, s31, s32, s33, s34, s35, s36, s37, s38, s39, s40, s41, s43, s44, rfl, hR9⟩
              clear f0
              have f0 := hR9.two.left.cell 0 rfl
              simp only [List.length_cons] at f0
              gi_wp2
              exact round_norm HS.out hE.out hR9 HB0.out
            · have hE := Lib.hid (at_on hat.out hy HG.out hy2)
              have hd : decide (xb < yb) = false := by simpa using hy2
              gi_wp2
              refine wpIn_mono (Q := Cut8 A PL.length cap gf lb w.heap.size B xa xb g false (fun W' => Rnd w.heap.size W ks B (xa, xb) ((ya, yb) :: rest') (bo ++ [(max ya xa, min yb xb)]) W' (some ⟨b, off, none⟩) c D' d')) ?_ ?_
              · gi_region_o
                all_goals exact ⟨rfl, _, _, _, _, _, _, _, _, _, _, _, _, _, _, _, _, _, _, _, _, _, _, _, _, _, _, _, _, _, _, _, _, _, _, rfl, hR8.drew⟩
              rintro e a' W8 ⟨rfl, s10, s11, s12, s13, s14, s15, s16, s17, s18, s19, s20, s21, s22, s23, s24, s25, s26, s27, s28, s29, s30, s31, s32, s33, s34, s35, s36, s37, s38, s39, s40, s41, s43, s44, rfl, hR9⟩
              clear f0 k1 k2 v0 v1
              have f0 := hR9.two.left.cell 0 rfl
              have f2 := hR9.two.left.frozen 0
              simp only [List.length_cons] at f0
              have hc1 := hR9.two.cap
              have hc2 := hR9.two.max
              simp only [List.length_cons] at hc1
              by_cases hc3 : c = 1
              · subst hc3
                obtain rfl : rest' = [] := List.eq_nil_of_length_eq_zero (by omega)
                have T := Lib.hid (hR9.setLeft (rest' := []) (A' := some ⟨b, off, none⟩) (c' := 0) (fun k hk => by simp at hk) (by simp) (by omega))
                simp only [List.length_nil] at *
                gi_wp2
                go_roundw
                case rel => exact ⟨[], _, _, _, _, _, T.out, hE⟩
                case measure => rw [plen_of T.out.two.left, HM.out]; simp
              · have T := Lib.hid (hR9.setLeft (rest' := rest') (A' := some ⟨b, off + 2, none⟩) (c' := c - 1) (lies_tail hR9.two.lies) (by omega) (by omega))
                gi_wp2
                go_roundw
                case rel => exact ⟨rest', _, _, _, _, _, T.out, hE⟩
                case measure => rw [plen_of T.out.two.left, HM.out]; simp
          · have HG := Lib.hid (show (if max ya xa < min yb xb then [(max ya xa, min yb xb)] else []) = [] from if_neg hseg)
            have hR8 : Rnd w.heap.size W ks B (xa, xb) ((ya, yb) :: rest') (bo ++ []) W5 (some ⟨b, off, none⟩) c D d := by rw [List.append_nil]; exact hR5
            clear hbo hbo2
            obtain ⟨b', off', he, hbn', k1, k2⟩ := hR8.two.lies 0 (by simp)
            simp only [Option.some.injEq, Addr.mk.injEq, and_true] at he
            obtain ⟨rfl, rfl⟩ := he
            simp only [List.getD_cons_zero, Nat.zero_mul, Nat.add_zero] at k1 k2
            obtain ⟨v0, v1, _, _⟩ := hR8.var.two
            simp only [] at v0 v1
            have f0 := hR8.two.left.cell 0 rfl
            simp only [List.length_cons] at f0
            by_cases hy2 : xb < yb
            · have hE := Lib.hid (at_end hat.out hy HG.out hy2)
              gi_wp2
              refine wpIn_mono (Q := Cut8 A PL.length cap gf lb w.heap.size B xa xb g true (fun W' => Rnd w.heap.size W ks B (xa, xb) ((ya, yb) :: rest') (bo ++ []) W' (some ⟨b, off, none⟩) c D d)) ?_ ?_
              · gi_region_o
                all_goals exact ⟨rfl, _, _, _, _, _, _, _, _, _, _, _, _, _, _, _, _, _, _, _, _, _, _, _, _, _, _, _, _, _, _, _, _, _, _, rfl, hR8.drew⟩
              rintro e a' W8 ⟨rfl, s10, s11, s12, s13, s14, s15, s16, s17, s18, s19, s20, s21, s22, s23, s24, s25, s26, s27, s28, s29, s30, s31, s32, s33, s34, s35, s36, s37, s38, s39, s40, s41, s43, s44, rfl, hR9⟩
              clear f0
              have f0 := hR9.two.left.cell 0 rfl
              simp only [List.length_cons] at f0
              gi_wp2
              exact round_norm HS.out hE.out hR9 HB0.out
            · have hE := Lib.hid (at_on hat.out hy HG.out hy2)
              have hd : decide (xb < yb) = false := by simpa using hy2
              gi_wp2
              refine wpIn_mono (Q := Cut8 A PL.length cap gf lb w.heap.size B xa xb g false (fun W' => Rnd w.heap.size W ks B (xa, xb) ((ya, yb) :: rest') (bo ++ []) W' (some ⟨b, off, none⟩) c D d)) ?_ ?_
              · gi_region_o
                all_goals exact ⟨rfl, _, _, _, _, _, _, _, _, _, _, _, _, _, _, _, _, _, _, _, _, _, _, _, _, _, _, _, _, _, _, _, _, _, _, rfl, hR8.drew⟩
              rintro e a' W8 ⟨rfl, s10, s11, s12, s13, s14, s15, s16, s17, s18, s19, s20, s21, s22, s23, s24, s25, s26, s27, s28, s29, s30, s31, s32, s33, s34, s35, s36, s37, s38, s39, s40, s41, s43, s44, rfl, hR9⟩
              clear f0 k1 k2 v0 v1
              have f0 := hR9.two.left.cell 0 rfl
              have f2 := hR9.two.left.frozen 0
              simp only [List.length_cons] at f0
              have hc1 := hR9.two.cap
              have hc2 := hR9.two.max
              simp only [List.length_cons] at hc1
              by_cases hc3 : c = 1
              · subst hc3
                obtain rfl : rest' = [] := List.eq_nil_of_length_eq_zero (by omega)
                have T := Lib.hid (hR9.setLeft (rest' := []) (A' := some ⟨b, off, none⟩) (c' := 0) (fun k hk => by simp at hk) (by simp) (by omega))
                simp only [List.length_nil] at *
                gi_wp2
                go_roundw
                case rel => exact ⟨[], _, _, _, _, _, T.out, hE⟩
                case measure => rw [plen_of T.out.two.left, HM.out]; simp
              · have T := Lib.hid (hR9.setLeft (rest' := rest') (A' := some ⟨b, off + 2, none⟩) (c' := c - 1) (lies_tail hR9.two.lies) (by omega) (by omega))
                gi_wp2
                go_roundw
                case rel => exact ⟨rest', _, _, _, _, _, T.out, hE⟩
                case measure => rw [plen_of T.out.two.left, HM.out]; simp
        · have hE := Lib.hid (at_miss hat.out hy)
          have hd : decide (ya < xb) = false := by simpa using hy
          gi_wp2
          refine wpIn_mono (Q := Cut4 A PL.length cap gf lb w.heap.size B xa xb false (fun W' => Rnd w.heap.size W ks B (xa, xb) ((ya, yb) :: rest') bo W' (some ⟨b, off, none⟩) c D d)) ?_ ?_
          · gi_region_o
            all_goals exact ⟨rfl, _, _, _, _, _, _, _, _, _, _, _, _, _, _, _, _, _, _, _, _, _, _, _, _, _, _, _, _, _, _, _, _, _, _, _, rfl, h.drew⟩
          rintro e a' W' ⟨rfl, s7, s10, s11, s12, s13, s14, s15, s16, s17, s18, s19, s20, s22, s23, s24, s25, s26, s27, s28, s29, s30, s31, s32, s33, s34, s35, s36, s37, s38, s39, s40, s41, s42, s43, s44, rfl, hR⟩
          clear f0 f1
          have f0 := hR.two.left.cell 0 rfl
          simp only [List.length_cons] at f0
          gi_wp2
          exact round_norm HS.out hE.out hR HB0.out
end Go.Proofs.YtdlimgpmmkcgmaaGreat

namespace Go.Proofs.YtdlimgpmmkcgmaaGreat
open Go.RowKit
set_option linter.unusedVariables false
set_option maxRecDepth 20000

theorem values_any (A : Option Addr) (n c : Nat) (w : World) : Calls Tryz.prog 103 #[.slice A n c] w fun e w' => e = .returned (.func (.func 139) #[] #[.pointer (some ⟨w.heap.size, 0, none⟩)]) ∧ w' = w.alloc (.cells #[.slice A n c] 40) := by
  go_enter Tryz.func103, Tryz.ntmps103
  go_wp2
  go_ret
  exact ⟨rfl, rfl⟩
theorem gaps_any (A : Option Addr) (n c : Nat) (w : World) : Calls Tryz.prog 60 #[.slice A n c] w fun e w' => e = .returned (.func (.func 106) #[] #[.pointer (some ⟨w.heap.size, 0, none⟩)]) ∧ w' = w.alloc (.cells #[.slice A n c] 40) := by
  go_enter Tryz.func60, Tryz.ntmps60
  go_wp2
  go_ret
  exact ⟨rfl, rfl⟩

theorem row_caps {w : World} {base c : Nat} {A : Option Addr} {xs : List (Int × Int)} (h : Row w base A c xs) : xs.length ≤ c ∧ c ≤ 9223372036854775807 := by
  rcases h.forms with ⟨_, rfl, rfl⟩ | ⟨g, _, _, _, h1, h2⟩
  · exact ⟨by simp, by omega⟩
  · unfold maxLen at h2
    exact ⟨h1, h2⟩
theorem gives_bel {w w1 w' : World} {xs ys : List (Int × Int)} {e : Ending} (h : Gives w1 xs e w') (hb : Below w.heap.size w w1) (he : xs = ys) : Gives w ys e w' := by
  subst he
  obtain ⟨D, d, rfl, hr, hb2⟩ := h
  exact ⟨D, d, rfl, hr.mono hb.size, bel_on hb hb2⟩

theorem and_any (A B : Option Addr) (ca cb : Nat) (a b : List (Int × Int)) (w : World) (ha : Spans w A a) (hb : Spans w B b) (hla : a.length ≤ 100000000) (hlb : b.length ≤ 100000000) :
    Calls Tryz.prog 55 #[.slice A a.length ca, .slice B b.length cb] w (Gives w (canon fun t => In a t ∧ In b t)) := by
  have hE : (runW (canon (In a)) (canon (In b))).2 = canon (fun t => In a t ∧ In b t) := by
    rw [runW_canon (canon_plain _) (canon_plain _)]
    exact canon_congr (fun t h1 h2 => by rw [canon_in, canon_in]; exact ⟨fun h => ⟨h.1.2.2, h.2.2.2⟩, fun h => ⟨⟨h1, h2, h.1⟩, ⟨h1, h2, h.2⟩⟩⟩)
  have HE := Lib.hid hE
  have fa := Fits.canon (In a)
  have fb := Fits.canon (In b)
  have la := canon_len (In a)
  have lb := canon_len (In b)
  have HB := Lib.hid hb
  have ca1 := norm_any A ca a w ha hla
  have cb1 := fun W (h : Spans W B b) => norm_any B cb b W h hlb
  have CB := Lib.hid cb1
  clear hE hb ha cb1
  generalize canon (In a) = La at *
  generalize canon (In b) = Lb at *
  go_enter Tryz.func55, Tryz.ntmps55
  go_wp2_with fail
  refine ca1.mono ?_
  rintro e w1 ⟨A1, c1, rfl, hr1, hb1⟩
  go_wp2_with fail
  refine (CB.out _ (HB.out.below hb1)).mono ?_
  rintro e w2 ⟨B1, d1, rfl, hr2, hb2⟩
  have hr1' := hr1.below hb2
  have hk := row_caps hr1
  replace hb2 := bel_on hb1 hb2
  go_wp2_with fail
  refine (values_any B1 _ d1 w2).mono ?_
  rintro e w3 ⟨rfl, rfl⟩
  have L1 := Lib.hid ((hr1'.alloc (.cells #[.slice B1 Lb.length d1] 40)).spans fa).lies
  have L2 := Lib.hid ((hr2.alloc (.cells #[.slice B1 Lb.length d1] 40)).spans fb).lies
  have H3 : Has (w2.alloc (.cells #[.slice B1 Lb.length d1] 40)) w2.heap.size #[.slice B1 Lb.length d1] := Has.new _ _ _ rfl
  have hb3 := bel_alloc hb2 (.cells #[.slice B1 Lb.length d1] 40)
  clear hr1 hr1' hr2 hb1 hb2 ca1
  generalize w2.alloc (.cells #[.slice B1 Lb.length d1] 40) = w3 at *
  generalize w2.heap.size = s2 at *
  have eg : ∀ args w, (callFunc 139 args).run Tryz.prog w = .ok (.enter 139 args) w := enters_of Tryz.func139 (by kernel_rfl) rfl
  go_wp2_with fail
  refine (within_any A1 c1 La Lb _ _ w3 L1.out hk.1 hk.2 (by omega) (by omega) eg (fun W hW hs => values_seq s2 w3.heap.size d1 B1 Lb W (Nat.lt_of_lt_of_le H3.size hW.size) ((H3.below hW).cell 0 rfl) (L2.out.below hW) hW.size (by omega))).mono ?_
  intro e w4 hg
  have HG := gives_bel hg hb3 HE.out
  clear hg
  obtain ⟨D, d, rfl, hr, hb⟩ := HG
  go_wp2
  go_ret
  exact ⟨D, d, rfl, hr, hb⟩

theorem minus_any (A B : Option Addr) (ca cb : Nat) (a b : List (Int × Int)) (w : World) (ha : Spans w A a) (hb : Spans w B b) (hla : a.length ≤ 100000000) (hlb : b.length ≤ 100000000) :
    Calls Tryz.prog 27 #[.slice A a.length ca, .slice B b.length cb] w (Gives w (canon fun t => In a t ∧ ¬ In b t)) := by
  have hE : (runW (canon (In a)) (gapsL 0 (canon (In b)))).2 = canon (fun t => In a t ∧ ¬ In b t) := by
    obtain ⟨g1, g2⟩ := gapsL_spec (canon (In b)) 0 (canon_plain _) (by omega)
    rw [runW_canon (canon_plain _) g1]
    exact canon_congr (fun t h1 h2 => by rw [canon_in, g2, canon_in]; exact ⟨fun h => ⟨h.1.2.2, fun q => h.2.2.2 ⟨h1, h2, q⟩⟩, fun h => ⟨⟨h1, h2, h.1⟩, h1, h2, fun q => h.2 q.2.2⟩⟩)
  have HE := Lib.hid hE
  have fa := Fits.canon (In a)
  have fb := Fits.canon (In b)
  have la := canon_len (In a)
  have lb := canon_len (In b)
  have lg := gapsL_len (canon (In b)) 0
  have HB := Lib.hid hb
  have ca1 := norm_any A ca a w ha hla
  have cb1 := fun W (h : Spans W B b) => norm_any B cb b W h hlb
  have CB := Lib.hid cb1
  clear hE hb ha cb1
  generalize canon (In a) = La at *
  generalize canon (In b) = Lb at *
  go_enter Tryz.func27, Tryz.ntmps27
  go_wp2_with fail
  refine ca1.mono ?_
  rintro e w1 ⟨A1, c1, rfl, hr1, hb1⟩
  go_wp2_with fail
  refine (CB.out _ (HB.out.below hb1)).mono ?_
  rintro e w2 ⟨B1, d1, rfl, hr2, hb2⟩
  have hr1' := hr1.below hb2
  have hk := row_caps hr1
  replace hb2 := bel_on hb1 hb2
  go_wp2_with fail
  refine (gaps_any B1 _ d1 w2).mono ?_
  rintro e w3 ⟨rfl, rfl⟩
  have L1 := Lib.hid ((hr1'.alloc (.cells #[.slice B1 Lb.length d1] 40)).spans fa).lies
  have L2 := Lib.hid ((hr2.alloc (.cells #[.slice B1 Lb.length d1] 40)).spans fb).lies
  have H3 : Has (w2.alloc (.cells #[.slice B1 Lb.length d1] 40)) w2.heap.size #[.slice B1 Lb.length d1] := Has.new _ _ _ rfl
  have hb3 := bel_alloc hb2 (.cells #[.slice B1 Lb.length d1] 40)
  clear hr1 hr1' hr2 hb1 hb2 ca1
  generalize w2.alloc (.cells #[.slice B1 Lb.length d1] 40) = w3 at *
  generalize w2.heap.size = s2 at *
  have eg : ∀ args w, (callFunc 106 args).run Tryz.prog w = .ok (.enter 106 args) w := enters_of Tryz.func106 (by kernel_rfl) rfl
  go_wp2_with fail
  refine (within_any A1 c1 La (gapsL 0 Lb) _ _ w3 L1.out hk.1 hk.2 (by omega) (by omega) eg (fun W hW hs => gaps_seq s2 w3.heap.size d1 B1 Lb W (Nat.lt_of_lt_of_le H3.size hW.size) ((H3.below hW).cell 0 rfl) (L2.out.below hW) hW.size (by omega))).mono ?_
  intro e w4 hg
  have HG := gives_bel hg hb3 HE.out
  clear hg
  obtain ⟨D, d, rfl, hr, hb⟩ := HG
  go_wp2
  go_ret
  exact ⟨D, d, rfl, hr, hb⟩

/-- The greatest n. -/
def lastP (xs : List (Int × Int)) (n t : Int) : Prop := In xs t ∧ sz (In xs) - n ≤ cnt (In xs) t.toNat
theorem cnt_lt {p : Int → Prop} {t : Int} (h0 : 0 ≤ t) (ht : t < 32054400) (hp : p t) : cnt p t.toNat < sz p := by
  have h1 := cnt_yes (p := p) (n := t.toNat) (by rwa [show ((t.toNat : Nat) : Int) = t by omega])
  have h2 := cnt_le p (m := t.toNat + 1) (n := 32054400) (by omega)
  unfold sz
  omega
theorem last_any (A : Option Addr) (cap : Nat) (xs : List (Int × Int)) (n : Int) (w : World) (hx : Spans w A xs) (hl : xs.length ≤ 100000000) (hn : Fit n) :
    Calls Tryz.prog 98 #[.slice A xs.length cap, .int .i64 n] w (Gives w (canon (lastP xs n))) := by
  by_cases h1 : n < 1
  · have hE := Lib.hid (canon_none (p := lastP xs n) (fun t a b h => by have := cnt_lt a b h.1; have := h.2; omega))
    go_enter Tryz.func98, Tryz.ntmps98
    go_wp2
    go_ret
    exact gives_of (Row.nil _ _) hE.out.symm rfl (Below.refl _ _)
  · have HX := Lib.hid hx
    have hs := sz_bound (In xs)
    obtain ⟨hn1, hn2⟩ := hn
    have hE : canon (fun t => In xs t ∧ ¬ In (canon fun t => In xs t ∧ cnt (In xs) t.toNat < sz (In xs) - n) t) = canon (lastP xs n) :=
      canon_congr (fun t a b => by
        rw [canon_in]
        unfold lastP
        constructor
        · rintro ⟨q1, q2⟩
          refine ⟨q1, ?_⟩
          rcases Int.lt_or_le (cnt (In xs) t.toNat) (sz (In xs) - n) with q | q
          · exact absurd ⟨a, b, q1, q⟩ q2
          · exact q
        · rintro ⟨q1, q2⟩
          exact ⟨q1, fun q => by have := q.2.2.2; omega⟩)
    have HE := Lib.hid hE
    have C1 := size_any A cap xs w hx hl
    have C2 := Lib.hid (fun W (h : Spans W A xs) => first_any A cap xs (sz (In xs) - n) W h hl ⟨by omega, by omega⟩)
    have fF := Fits.canon (fun t => In xs t ∧ cnt (In xs) t.toNat < sz (In xs) - n)
    have lF := canon_len (fun t => In xs t ∧ cnt (In xs) t.toNat < sz (In xs) - n)
    clear hx hE
    generalize (canon fun t => In xs t ∧ cnt (In xs) t.toNat < sz (In xs) - n) = F at *
    generalize sz (In xs) = z at *
    have hz : -9223372036854775808 ≤ z - n ∧ z - n ≤ 9223372036854775807 := by omega
    go_enter Tryz.func98, Tryz.ntmps98
    go_wp2_with fail
    refine C1.mono ?_
    rintro e w1 ⟨rfl, hb1⟩
    go_wp2_with fail
    refine (C2.out _ (HX.out.below hb1)).mono ?_
    rintro e w2 ⟨B1, d1, rfl, hr2, hb2⟩
    replace hb2 := bel_on hb1 hb2
    go_wp2_with fail
    refine (minus_any A B1 cap d1 xs F w2 (HX.out.below hb2) (hr2.spans fF) hl (by omega)).mono ?_
    intro e w4 hg
    have HG := gives_bel hg hb2 HE.out
    clear hg
    obtain ⟨D, d, rfl, hr, hb⟩ := HG
    go_wp2
    go_ret
    exact ⟨D, d, rfl, hr, hb⟩
end Go.Proofs.YtdlimgpmmkcgmaaGreat
