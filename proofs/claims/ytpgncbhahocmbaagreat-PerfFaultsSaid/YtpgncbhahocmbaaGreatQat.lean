/-
  Package stream's end: the parts of a session that ends.
-/
import Derived.Test.YtpgncbhahocmbaaGreatQas
namespace Go.Proofs.YtpgncbhahocmbaaGreat
open Go.RowKit
set_option linter.unusedVariables false
set_option linter.unusedSimpArgs false
set_option maxRecDepth 20000

section
variable {w0 w : World} {g : Nat} {u cap : Int} {V : Value} {A C : Option Addr} {n c m d : Nat} {S : List SegP} {F : List FlagP}
/-- What an end leaves: the parts, and nothing open. -/
def KP (w0 w w' : World) (A C A' C' : Option Addr) : Prop := ∀ b cs, Has w b cs → w0.heap.size ≤ b → Off A b → Off C b → Has w' b cs ∧ Off A' b ∧ Off C' b
def GotEnd (w0 w w' : World) (g : Nat) (u cap : Int) (A : Option Addr) (S' : List SegP) (C : Option Addr) (m d : Nat) (F : List FlagP) : Prop :=
  ∃ A' n' c', Wat w0 w' g u cap (.pointer none) A' n' c' S' C m d F ∧ KP w0 w w' A C A' C
theorem mv_row (B : Nat) (w : World) (g : Nat) (cs : Array Value) : Mv B (fun b => b = g) w (w.setRow g cs) := by
  refine ⟨by simp [World.setRow], fun b _ _ hb => setRow_other _ _ _ _ hb⟩
theorem kept_row {Q : Nat → Prop} (w : World) (g : Nat) (cs : Array Value) (hg : ¬ Q g) : Kept Q w (w.setRow g cs) :=
  ⟨rfl, rfl, rfl, by simp [World.setRow], fun b hb => setRow_other _ _ _ _ (by rintro rfl; exact hg hb)⟩
theorem ses_load {p : Nat} {e : EvP} {V : Value} {w : World} (h : Has w p (sesC e V)) : (loadVar 43 ⟨p, 0, none⟩).run Tryz.prog w = .ok (.agg (evC e)) w :=
  run_loadVar_at fun j hj => by
    obtain ⟨t, h⟩ := h
    rw [Nat.zero_add, cell_of_row w p j (sesC e V) t (0, 0) h]
    rcases (show j = 0 ∨ j = 1 ∨ j = 2 ∨ j = 3 ∨ j = 4 ∨ j = 5 ∨ j = 6 ∨ j = 7 ∨ j = 8 ∨ j = 9 ∨ j = 10 by omega) with rfl | rfl | rfl | rfl | rfl | rfl | rfl | rfl | rfl | rfl | rfl <;> rfl
/-- What a round of end finds. -/
structure EndR (w0 wr : World) (g : Nat) (u cap : Int) (p : Nat) (C : Option Addr) (m d : Nat) (F : List FlagP) (e : EvP) (D : Option Addr) (q r : Nat) (ins : List EvP) (bt bf bw be : Nat) (last : Int) (A : Option Addr) (n c : Nat) (S : List SegP) (ak : Int) (ek : EvP) : Prop where
  w : Wat w0 wr g u cap (.pointer (some ⟨p, 0, none⟩)) A n c S C m d F
  s : Ses w0 wr p e D q r ins
  t : Has wr bt #[.int .i64 last]
  f : Has wr bf #[.int .i64 ak]
  b : Has wr bw #[.pointer (some ⟨g, 0, none⟩)]
  e : Has wr be (evC ek)
  apt : Apt p A C D
  lt : Lc w0 A bt
  lf : Lc w0 A bf
  lb : Lc w0 A bw
  le : Lc w0 A be
/-- What does not hang on a round. -/
structure EndF (C D : Option Addr) (p bt bf bw be : Nat) : Prop where
  cf : Off C bf
  ce : Off C be
  df : Off D bf
  de : Off D be
  pf : p ≠ bf
  pe : p ≠ be
  tf : bt ≠ bf
  te : bt ≠ be
  fe : bf ≠ be
  bf : bw ≠ bf
  be : bw ≠ be
section
variable {wr w' : World} {p : Nat} {e : EvP} {D : Option Addr} {q r : Nat} {ins : List EvP} {bt bf bw be : Nat} {last ak : Int} {ek : EvP} {A' : Option Addr} {n' c' : Nat} {S' : List SegP} {z : Int}
theorem EndR.below (h : EndR w0 wr g u cap p C m d F e D q r ins bt bf bw be last A n c S ak ek) (hb : Below wr.heap.size wr w') : EndR w0 w' g u cap p C m d F e D q r ins bt bf bw be last A n c S ak ek :=
  ⟨h.w.below hb, h.s.below hb, h.t.below hb, h.f.below hb, h.b.below hb, h.e.below hb, h.apt, h.lt, h.lf, h.lb, h.le⟩
/-- Behind the closure. -/
theorem EndR.seg (h : EndR w0 wr g u cap p C m d F e D q r ins bt bf bw be last A n c S ak ek) (k : EndF C D p bt bf bw be) (hg : GotSeg w0 wr w' g u cap (.pointer (some ⟨p, 0, none⟩)) A S' C m d F bf z) :
    ∃ A' n' c', EndR w0 w' g u cap p C m d F e D q r ins bt bf bw be last A' n' c' S' z ek ∧ ∀ b cs, Has wr b cs → w0.heap.size ≤ b → b ≠ bf → Off A b → Has w' b cs ∧ Off A' b := by
  obtain ⟨A', n', c', h1, h2, h3, h4⟩ := hg
  have nA : ∀ {x : Nat}, Off A x → x ≠ bf → ¬ (x = bf ∨ OnB A x) := fun ho hx q => by
    rcases q with q | ⟨a, ha, q⟩
    · exact hx q
    · exact ho a ha q
  have nD : ∀ x, D = some x → ¬ (x.block = bf ∨ OnB A x.block) := fun x hx q => by
    rcases q with q | ⟨a, ha, q⟩
    · exact k.df x hx q
    · exact h.apt.da x a hx ha q.symm
  exact ⟨A', n', c', ⟨h1, h.s.mv h3 (nA h.apt.ap k.pf) nD, h.t.mv h3 h.lt.1 (nA h.lt.2 k.tf), h2, h.b.mv h3 h.lb.1 (nA h.lb.2 k.bf), h.e.mv h3 h.le.1 (nA h.le.2 (Ne.symm k.fe)),
    ⟨h.apt.ap.moved h4 h.s.h.size, h.apt.cp, (h.apt.da.symm.moved h4 fun y hy => (h.s.r.lt y hy).2).symm, h.apt.dc⟩,
    ⟨h.lt.1, h.lt.2.moved h4 h.t.size⟩, ⟨h.lf.1, h.lf.2.moved h4 h.f.size⟩, ⟨h.lb.1, h.lb.2.moved h4 h.b.size⟩, ⟨h.le.1, h.le.2.moved h4 h.e.size⟩⟩, fun b cs hh h0 h1 h2 => ⟨hh.mv h3 h0 (nA h2 h1), h2.moved h4 hh.size⟩⟩
/-- Behind the next event's name. -/
theorem EndR.next (h : EndR w0 wr g u cap p C m d F e D q r ins bt bf bw be last A n c S ak ek) (k : EndF C D p bt bf bw be) (x : EvP) : EndR w0 (wr.setRow be (evC x)) g u cap p C m d F e D q r ins bt bf bw be last A n c S ak x := by
  have hm := mv_row w0.heap.size wr be (evC x)
  have hB := h.le.1
  have hgB := h.w.gB
  exact ⟨h.w.mv hm (setRow_other _ _ _ _ (by omega)) (fun y hy => h.le.2 y hy) (fun y hy => k.ce y hy) (kept_row _ _ _ (fun q => by have := q.1; omega)), h.s.mv hm k.pe (fun y hy => k.de y hy), has_setRow_far h.t k.te, has_setRow_far h.f k.fe, has_setRow_far h.b k.be, has_setRow_e h.e, h.apt, h.lt, h.lf, h.lb, h.le⟩
end
set_option maxHeartbeats 16000000 in
theorem wend_any {p : Nat} {e : EvP} {D : Option Addr} {q r : Nat} {ins : List EvP} (h : Wat w0 w g u cap (.pointer (some ⟨p, 0, none⟩)) A n c S C m d F) (hs : Ses w0 w p e D q r ins) (hp : Apt p A C D) (t first last : Int) (hf : roundP e.tm u = first) (hl : roundP t u = last) (hfl : first ≤ last) (hrise : ins.Pairwise (fun a b => a.tm ≤ b.tm)) (hnq : n + q ≤ 900) (hu : u ≤ 9223372036854775807) :
    Calls Tryz.prog 101 #[.pointer (some ⟨g, 0, none⟩), .int .i64 t] w fun x w' => x = .returned (.tuple #[]) ∧ GotEnd w0 w w' g u cap A (S ++ partsG first last first e ins) C m d F := by
  have mixed : Tryz.prog.follows Departure.mixedOrders = true := by kernel_rfl
  have hb0 := bel_alloc (Below.refl w.heap.size w) (.cells #[.pointer (some ⟨g, 0, none⟩)] 133)
  have HBW : Hid (Has (w.alloc (.cells #[.pointer (some ⟨g, 0, none⟩)] 133)) w.heap.size #[.pointer (some ⟨g, 0, none⟩)]) := Has.new w _ _ rfl
  have HWR := Lib.hid (h.below hb0)
  have HSS := Lib.hid (hs.below hb0)
  have HPT := Lib.hid hp
  have CF := Lib.hid (fun W => round_bel e.tm u first W hu hf)
  have CL := Lib.hid (fun W => round_bel t u last W hu hl)
  have HWS := Lib.hid h.size
  have HSN := Lib.hid h.hn
  have hW1 : (w.alloc (.cells #[.pointer (some ⟨g, 0, none⟩)] 133)).heap.size = w.heap.size + 1 := by simp
  have HA : Hid (∀ x, A = some x → x.block < w.heap.size) := fun x hx => (h.a.lt x hx).2
  have HC : Hid (∀ x, C = some x → x.block < w.heap.size) := fun x hx => (h.b.lt x hx).2
  have HD : Hid (∀ x, D = some x → x.block < w.heap.size) := fun x hx => (hs.r.lt x hx).2
  have HPZ := Lib.hid hs.h.size
  have hgB := Lib.hid h.gB
  have HFL := Lib.hid hfl
  have HRI := Lib.hid hrise
  have HHQ := Lib.hid hs.hq
  replace hW1 := Lib.hid hW1
  clear h hs hp hf hl hfl hrise hb0
  go_enter Tryz.func101, Tryz.ntmps101
  go_wp2_with fail
  have HW0 : Hid (∀ b cs, Has w b cs → Has (w.alloc (.cells #[.pointer (some ⟨g, 0, none⟩)] 133)) b cs) := fun b cs hh => hh.alloc _
  generalize w.alloc (.cells #[.pointer (some ⟨g, 0, none⟩)] 133) = w1 at *
  go_cut [4, 5] (fun s4 s5 wx => ∃ bf bt : Nat, s4 = .pointer (some ⟨bf, 0, none⟩) ∧ s5 = .pointer (some ⟨bt, 0, none⟩) ∧ Has wx bf #[.int .i64 first] ∧ Has wx bt #[.int .i64 last] ∧ bf ≠ bt ∧ w1.heap.size ≤ bf ∧ w1.heap.size ≤ bt ∧ Below w1.heap.size w1 wx)
  case first =>
    refine wp_region_noPanic ?_
    refine wp_region_held_drew (S := fun w' => Below w1.heap.size w1 w') (by kernel_rfl) (below_drew (Below.refl _ _)) (fun hHeld => ?_)
    refine wpAnyH_take (i := 0) (oi := ⟨some 10, _, _, _, _, _⟩) (v := .pointer (some ⟨g, 0, none⟩)) rfl (by kernel_rfl) (by kernel_rfl) (by kernel_rfl) (fun _ _ _ h => h) (Or.inl ⟨by rfl, ?_⟩) hHeld ?_
    · intro ww hSw
      (try dsimp only at hSw)
      have q := (HBW.out.below hSw).cell 0 rfl
      have qz := cell_lt q
      go_simp
    simp only [Act.put, List.setIfInBounds_toArray, List.set_cons_zero, List.set_cons_succ]
    refine wpAnyH_take (i := 1) (oi := ⟨some 11, _, _, _, _, _⟩) (v := ?_) rfl (by kernel_rfl) (by kernel_rfl) (by kernel_rfl) (fun _ _ _ h => h) (Or.inl ⟨by rfl, ?_⟩) hHeld ?_
    rotate_left
    · intro ww hSw
      (try dsimp only at hSw)
      go_simp
      (try with_reducible rfl)
    simp only [Act.put, List.setIfInBounds_toArray, List.set_cons_zero, List.set_cons_succ]
    refine wpAnyH_take (i := 2) (oi := ⟨some 12, _, _, _, _, _⟩) (v := ?_) rfl (by kernel_rfl) (by kernel_rfl) (by kernel_rfl) (fun _ _ _ h => h) (Or.inl ⟨by rfl, ?_⟩) hHeld ?_
    rotate_left
    · intro ww hSw
      (try dsimp only at hSw)
      go_simp
      (try with_reducible rfl)
    simp only [Act.put, List.setIfInBounds_toArray, List.set_cons_zero, List.set_cons_succ]
    refine wpAnyH_take (i := 3) (oi := ⟨some 13, _, _, _, _, _⟩) (v := .pointer (some ⟨p, 0, none⟩)) rfl (by kernel_rfl) (by kernel_rfl) (by kernel_rfl) (fun _ _ _ h => h) (Or.inl ⟨by rfl, ?_⟩) hHeld ?_
    · intro ww hSw
      (try dsimp only at hSw)
      have q := (HWR.out.h.below hSw).cell 2 rfl
      have qz := cell_lt q
      go_simp
    simp only [Act.put, List.setIfInBounds_toArray, List.set_cons_zero, List.set_cons_succ]
    refine wpAnyH_take (i := 4) (oi := ⟨some 14, _, _, _, _, _⟩) (v := ?_) rfl (by kernel_rfl) (by kernel_rfl) (by kernel_rfl) (fun _ _ _ h => h) (Or.inl ⟨by rfl, ?_⟩) hHeld ?_
    rotate_left
    · intro ww hSw
      (try dsimp only at hSw)
      go_simp
      (try with_reducible rfl)
    simp only [Act.put, List.setIfInBounds_toArray, List.set_cons_zero, List.set_cons_succ]
    refine wpAnyH_take (i := 5) (oi := ⟨some 15, _, _, _, _, _⟩) (v := ?_) rfl (by kernel_rfl) (by kernel_rfl) (by kernel_rfl) (fun _ _ _ h => h) (Or.inl ⟨by rfl, ?_⟩) hHeld ?_
    rotate_left
    · intro ww hSw
      (try dsimp only at hSw)
      go_simp
      (try with_reducible rfl)
    simp only [Act.put, List.setIfInBounds_toArray, List.set_cons_zero, List.set_cons_succ]
    refine wpAnyH_take (i := 6) (oi := ⟨some 16, _, _, _, _, _⟩) (v := ?_) rfl (by kernel_rfl) (by kernel_rfl) (by kernel_rfl) (fun _ _ _ h => h) (Or.inl ⟨by rfl, ?_⟩) hHeld ?_
    rotate_left
    · intro ww hSw
      (try dsimp only at hSw)
      go_simp
      (try with_reducible rfl)
    simp only [Act.put, List.setIfInBounds_toArray, List.set_cons_zero, List.set_cons_succ]
    refine wpAnyH_take (i := 7) (oi := ⟨some 17, _, _, _, _, _⟩) (v := .int .i64 e.tm) rfl (by kernel_rfl) (by kernel_rfl) (by kernel_rfl) (fun _ _ _ h => h) (Or.inl ⟨by rfl, ?_⟩) hHeld ?_
    · intro ww hSw
      (try dsimp only at hSw)
      have q := (HSS.out.h.below hSw).cell 2 (show (sesC e (.slice D q r))[2]? = some (.int .i64 e.tm) from rfl)
      have qz := cell_lt q
      go_simp
    simp only [Act.put, List.setIfInBounds_toArray, List.set_cons_zero, List.set_cons_succ]
    refine wpAnyH_take (i := 8) (oi := ⟨some 18, _, _, _, _, _⟩) (v := .pointer (some ⟨g, 0, none⟩)) rfl (by kernel_rfl) (by kernel_rfl) (by kernel_rfl) (fun _ _ _ h => h) (Or.inl ⟨by rfl, ?_⟩) hHeld ?_
    · intro ww hSw
      (try dsimp only at hSw)
      have q := (HBW.out.below hSw).cell 0 rfl
      have qz := cell_lt q
      go_simp
    simp only [Act.put, List.setIfInBounds_toArray, List.set_cons_zero, List.set_cons_succ]
    refine wpAnyH_take (i := 9) (oi := ⟨some 19, _, _, _, _, _⟩) (v := ?_) rfl (by kernel_rfl) (by kernel_rfl) (by kernel_rfl) (fun _ _ _ h => h) (Or.inl ⟨by rfl, ?_⟩) hHeld ?_
    rotate_left
    · intro ww hSw
      (try dsimp only at hSw)
      go_simp
      (try with_reducible rfl)
    simp only [Act.put, List.setIfInBounds_toArray, List.set_cons_zero, List.set_cons_succ]
    refine wpAnyH_take (i := 10) (oi := ⟨some 20, _, _, _, _, _⟩) (v := ?_) rfl (by kernel_rfl) (by kernel_rfl) (by kernel_rfl) (fun _ _ _ h => h) (Or.inl ⟨by rfl, ?_⟩) hHeld ?_
    rotate_left
    · intro ww hSw
      (try dsimp only at hSw)
      go_simp
      (try with_reducible rfl)
    simp only [Act.put, List.setIfInBounds_toArray, List.set_cons_zero, List.set_cons_succ]
    refine wpAnyH_take (i := 11) (oi := ⟨some 21, _, _, _, _, _⟩) (v := .int .i64 u) rfl (by kernel_rfl) (by kernel_rfl) (by kernel_rfl) (fun _ _ _ h => h) (Or.inl ⟨by rfl, ?_⟩) hHeld ?_
    · intro ww hSw
      (try dsimp only at hSw)
      have q := (HWR.out.h.below hSw).cell 0 rfl
      have qz := cell_lt q
      go_simp
    simp only [Act.put, List.setIfInBounds_toArray, List.set_cons_zero, List.set_cons_succ]
    refine wpAnyH_take (i := 13) (oi := ⟨some 23, _, _, _, _, _⟩) (v := ?_) rfl (by kernel_rfl) (by kernel_rfl) (by kernel_rfl) (fun _ _ _ h => h) (Or.inl ⟨by rfl, ?_⟩) hHeld ?_
    rotate_left
    · intro ww hSw
      (try dsimp only at hSw)
      go_simp
      (try with_reducible rfl)
    simp only [Act.put, List.setIfInBounds_toArray, List.set_cons_zero, List.set_cons_succ]
    refine wpAnyH_take (i := 14) (oi := ⟨some 24, _, _, _, _, _⟩) (v := .pointer (some ⟨g, 0, none⟩)) rfl (by kernel_rfl) (by kernel_rfl) (by kernel_rfl) (fun _ _ _ h => h) (Or.inl ⟨by rfl, ?_⟩) hHeld ?_
    · intro ww hSw
      (try dsimp only at hSw)
      have q := (HBW.out.below hSw).cell 0 rfl
      have qz := cell_lt q
      go_simp
    simp only [Act.put, List.setIfInBounds_toArray, List.set_cons_zero, List.set_cons_succ]
    refine wpAnyH_take (i := 15) (oi := ⟨some 25, _, _, _, _, _⟩) (v := ?_) rfl (by kernel_rfl) (by kernel_rfl) (by kernel_rfl) (fun _ _ _ h => h) (Or.inl ⟨by rfl, ?_⟩) hHeld ?_
    rotate_left
    · intro ww hSw
      (try dsimp only at hSw)
      go_simp
      (try with_reducible rfl)
    simp only [Act.put, List.setIfInBounds_toArray, List.set_cons_zero, List.set_cons_succ]
    refine wpAnyH_take (i := 16) (oi := ⟨some 26, _, _, _, _, _⟩) (v := ?_) rfl (by kernel_rfl) (by kernel_rfl) (by kernel_rfl) (fun _ _ _ h => h) (Or.inl ⟨by rfl, ?_⟩) hHeld ?_
    rotate_left
    · intro ww hSw
      (try dsimp only at hSw)
      go_simp
      (try with_reducible rfl)
    simp only [Act.put, List.setIfInBounds_toArray, List.set_cons_zero, List.set_cons_succ]
    refine wpAnyH_take (i := 17) (oi := ⟨some 27, _, _, _, _, _⟩) (v := .int .i64 u) rfl (by kernel_rfl) (by kernel_rfl) (by kernel_rfl) (fun _ _ _ h => h) (Or.inl ⟨by rfl, ?_⟩) hHeld ?_
    · intro ww hSw
      (try dsimp only at hSw)
      have q := (HWR.out.h.below hSw).cell 0 rfl
      have qz := cell_lt q
      go_simp
    simp only [Act.put, List.setIfInBounds_toArray, List.set_cons_zero, List.set_cons_succ]
    have HB := Lib.hid hHeld
    clear hHeld
    generalize w1.drew = v0 at *
    refine wpAnyH_ready (rs := [12, 19, 20]) (by kernel_rfl) (by simp) ?_
    refine AllReadyH.cons (o := ⟨some 22, _, _, _, _, _⟩) rfl (fun K hK => ?_) ?_
    · go_simp
      go_at_call 129
      refine (CF.out _).mono ?_
      rintro e_r v1 ⟨rfl, hbn⟩
      replace HB := Lib.hid (bel_on HB.out hbn)
      clear hbn
      go_wp2_with fail
      refine hK.out _ _ HB.out (fun hHeld => ?_)
      clear hK K
      (try simp only [Act.put, List.setIfInBounds_toArray, List.set_cons_zero, List.set_cons_succ])
      refine wpAnyH_ready (rs := [18, 19, 20]) (by kernel_rfl) (by simp) ?_
      refine AllReadyH.cons (o := ⟨some 28, _, _, _, _, _⟩) rfl (fun K hK => ?_) ?_
      · go_simp
        go_at_call 129
        refine (CL.out _).mono ?_
        rintro e_r v2 ⟨rfl, hbn⟩
        replace HB := Lib.hid (bel_on HB.out hbn)
        clear hbn
        go_wp2_with fail
        refine hK.out _ _ HB.out (fun hHeld => ?_)
        clear hK K
        (try simp only [Act.put, List.setIfInBounds_toArray, List.set_cons_zero, List.set_cons_succ])
        refine wpAnyH_ready (rs := [19, 20]) (by kernel_rfl) (by simp) ?_
        refine AllReadyH.cons (o := ⟨some 4, _, _, _, _, _⟩) rfl (fun K hK => ?_) ?_
        · have H19 : Hid (Has (World.alloc v2 (.cells #[.int .i64 0] 3)) (v2.heap.size) #[.int .i64 0]) := Has.new v2 3 #[.int .i64 0] rfl
          have L19 : Hid (w1.heap.size ≤ v2.heap.size) := HB.out.size
          replace HB := Lib.hid (bel_alloc HB.out (.cells #[.int .i64 0] 3))
          go_simp
          refine hK.out _ _ HB.out (fun hHeld => ?_)
          clear hK K hHeld
          (try simp only [Act.put, List.setIfInBounds_toArray, List.set_cons_zero, List.set_cons_succ])
          generalize (World.alloc v2 (.cells #[.int .i64 0] 3)) = v3 at *
          refine wpAnyH_ready (rs := [20]) (by kernel_rfl) (by simp) ?_
          refine AllReadyH.cons (o := ⟨some 5, _, _, _, _, _⟩) rfl (fun K hK => ?_) AllReadyH.nil
          have hlt : (v2.heap.size : Nat) < v3.heap.size := H19.out.size
          have HN := Lib.hid (show (v2.heap.size : Nat) ≠ v3.heap.size by omega)
          clear hlt
          replace H19 := Lib.hid (H19.out.alloc (.cells #[.int .i64 0] 3))
          have H20 : Hid (Has (World.alloc v3 (.cells #[.int .i64 0] 3)) (v3.heap.size) #[.int .i64 0]) := Has.new v3 3 #[.int .i64 0] rfl
          have L20 : Hid (w1.heap.size ≤ v3.heap.size) := HB.out.size
          replace HB := Lib.hid (bel_alloc HB.out (.cells #[.int .i64 0] 3))
          go_simp
          refine hK.out _ _ HB.out (fun hHeld => ?_)
          clear hK K hHeld
          (try simp only [Act.put, List.setIfInBounds_toArray, List.set_cons_zero, List.set_cons_succ])
          generalize (World.alloc v3 (.cells #[.int .i64 0] 3)) = v4 at *
          have hne : (v2.heap.size : Nat) ≠ v3.heap.size := HN.out
          have q4 := H19.out.cell 0 rfl
          have f4 := H19.out.frozen 0
          have z4 := cell_lt q4
          have q5 := (H20.out.far (p := ⟨v2.heap.size, 0, none⟩) (Ne.symm hne) (.int .i64 first)).cell 0 rfl
          have f5 := (H20.out.far (p := ⟨v2.heap.size, 0, none⟩) (Ne.symm hne) (.int .i64 first)).frozen 0
          have z5 := cell_lt q5
          have HE4 := Lib.hid ((H19.out.set 0 (.int .i64 first)).far (p := ⟨v3.heap.size, 0, none⟩) hne (.int .i64 last))
          have HE5 := Lib.hid ((H20.out.far (p := ⟨v2.heap.size, 0, none⟩) (Ne.symm hne) (.int .i64 first)).set 0 (.int .i64 last))
          have HEB := Lib.hid (bel_set (bel_set HB.out (p := ⟨v2.heap.size, 0, none⟩) L19.out (.int .i64 first)) (p := ⟨v3.heap.size, 0, none⟩) L20.out (.int .i64 last))
          refine wpAnyH_ready (rs := [21]) (by kernel_rfl) (by simp) ?_
          refine AllReadyH.cons (o := ⟨none, _, _, _, _, _⟩) rfl (fun K hK => ?_) AllReadyH.nil
          go_simp
          refine hK.out _ _ ?_ (fun hHeld => ?_)
          · exact bel_set HB.out (p := ⟨v2.heap.size, 0, none⟩) L19.out _
          clear hK K
          (try simp only [Act.put, List.setIfInBounds_toArray, List.set_cons_zero, List.set_cons_succ])
          refine wpAnyH_ready (rs := [22]) (by kernel_rfl) (by simp) ?_
          refine AllReadyH.cons (o := ⟨none, _, _, _, _, _⟩) rfl (fun K hK => ?_) AllReadyH.nil
          go_simp
          refine hK.out _ _ ?_ (fun hHeld => ?_)
          · exact HEB.out
          clear hK K
          (try simp only [Act.put, List.setIfInBounds_toArray, List.set_cons_zero, List.set_cons_succ])
          refine wpAnyH_done (by kernel_rfl) ?_ _
          refine NoPanic.normal ?_
          go_wp2_with fail
          go_meet
          exact ⟨v2.heap.size, v3.heap.size, rfl, rfl, HE4.out, HE5.out, hne, L19.out, L20.out, HEB.out⟩
        refine AllReadyH.cons (o := ⟨some 5, _, _, _, _, _⟩) rfl (fun K hK => ?_) AllReadyH.nil
        have H20 : Hid (Has (World.alloc v2 (.cells #[.int .i64 0] 3)) (v2.heap.size) #[.int .i64 0]) := Has.new v2 3 #[.int .i64 0] rfl
        have L20 : Hid (w1.heap.size ≤ v2.heap.size) := HB.out.size
        replace HB := Lib.hid (bel_alloc HB.out (.cells #[.int .i64 0] 3))
        go_simp
        refine hK.out _ _ HB.out (fun hHeld => ?_)
        clear hK K hHeld
        (try simp only [Act.put, List.setIfInBounds_toArray, List.set_cons_zero, List.set_cons_succ])
        generalize (World.alloc v2 (.cells #[.int .i64 0] 3)) = v5 at *
        refine wpAnyH_ready (rs := [19]) (by kernel_rfl) (by simp) ?_
        refine AllReadyH.cons (o := ⟨some 4, _, _, _, _, _⟩) rfl (fun K hK => ?_) AllReadyH.nil
        have hlt : (v2.heap.size : Nat) < v5.heap.size := H20.out.size
        have HN := Lib.hid (show (v5.heap.size : Nat) ≠ v2.heap.size by omega)
        clear hlt
        replace H20 := Lib.hid (H20.out.alloc (.cells #[.int .i64 0] 3))
        have H19 : Hid (Has (World.alloc v5 (.cells #[.int .i64 0] 3)) (v5.heap.size) #[.int .i64 0]) := Has.new v5 3 #[.int .i64 0] rfl
        have L19 : Hid (w1.heap.size ≤ v5.heap.size) := HB.out.size
        replace HB := Lib.hid (bel_alloc HB.out (.cells #[.int .i64 0] 3))
        go_simp
        refine hK.out _ _ HB.out (fun hHeld => ?_)
        clear hK K hHeld
        (try simp only [Act.put, List.setIfInBounds_toArray, List.set_cons_zero, List.set_cons_succ])
        generalize (World.alloc v5 (.cells #[.int .i64 0] 3)) = v6 at *
        have hne : (v5.heap.size : Nat) ≠ v2.heap.size := HN.out
        have q4 := H19.out.cell 0 rfl
        have f4 := H19.out.frozen 0
        have z4 := cell_lt q4
        have q5 := (H20.out.far (p := ⟨v5.heap.size, 0, none⟩) (Ne.symm hne) (.int .i64 first)).cell 0 rfl
        have f5 := (H20.out.far (p := ⟨v5.heap.size, 0, none⟩) (Ne.symm hne) (.int .i64 first)).frozen 0
        have z5 := cell_lt q5
        have HE4 := Lib.hid ((H19.out.set 0 (.int .i64 first)).far (p := ⟨v2.heap.size, 0, none⟩) hne (.int .i64 last))
        have HE5 := Lib.hid ((H20.out.far (p := ⟨v5.heap.size, 0, none⟩) (Ne.symm hne) (.int .i64 first)).set 0 (.int .i64 last))
        have HEB := Lib.hid (bel_set (bel_set HB.out (p := ⟨v5.heap.size, 0, none⟩) L19.out (.int .i64 first)) (p := ⟨v2.heap.size, 0, none⟩) L20.out (.int .i64 last))
        refine wpAnyH_ready (rs := [21]) (by kernel_rfl) (by simp) ?_
        refine AllReadyH.cons (o := ⟨none, _, _, _, _, _⟩) rfl (fun K hK => ?_) AllReadyH.nil
        go_simp
        refine hK.out _ _ ?_ (fun hHeld => ?_)
        · exact bel_set HB.out (p := ⟨v5.heap.size, 0, none⟩) L19.out _
        clear hK K
        (try simp only [Act.put, List.setIfInBounds_toArray, List.set_cons_zero, List.set_cons_succ])
        refine wpAnyH_ready (rs := [22]) (by kernel_rfl) (by simp) ?_
        refine AllReadyH.cons (o := ⟨none, _, _, _, _, _⟩) rfl (fun K hK => ?_) AllReadyH.nil
        go_simp
        refine hK.out _ _ ?_ (fun hHeld => ?_)
        · exact HEB.out
        clear hK K
        (try simp only [Act.put, List.setIfInBounds_toArray, List.set_cons_zero, List.set_cons_succ])
        refine wpAnyH_done (by kernel_rfl) ?_ _
        refine NoPanic.normal ?_
        go_wp2_with fail
        go_meet
        exact ⟨v5.heap.size, v2.heap.size, rfl, rfl, HE4.out, HE5.out, hne, L19.out, L20.out, HEB.out⟩
      refine AllReadyH.cons (o := ⟨some 4, _, _, _, _, _⟩) rfl (fun K hK => ?_) ?_
      · have H19 : Hid (Has (World.alloc v1 (.cells #[.int .i64 0] 3)) (v1.heap.size) #[.int .i64 0]) := Has.new v1 3 #[.int .i64 0] rfl
        have L19 : Hid (w1.heap.size ≤ v1.heap.size) := HB.out.size
        replace HB := Lib.hid (bel_alloc HB.out (.cells #[.int .i64 0] 3))
        go_simp
        refine hK.out _ _ HB.out (fun hHeld => ?_)
        clear hK K hHeld
        (try simp only [Act.put, List.setIfInBounds_toArray, List.set_cons_zero, List.set_cons_succ])
        generalize (World.alloc v1 (.cells #[.int .i64 0] 3)) = v7 at *
        refine wpAnyH_ready (rs := [18, 20]) (by kernel_rfl) (by simp) ?_
        refine AllReadyH.cons (o := ⟨some 28, _, _, _, _, _⟩) rfl (fun K hK => ?_) ?_
        · go_simp
          go_at_call 129
          refine (CL.out _).mono ?_
          rintro e_r v8 ⟨rfl, hbn⟩
          replace H19 := Lib.hid (H19.out.below hbn)
          replace HB := Lib.hid (bel_on HB.out hbn)
          clear hbn
          go_wp2_with fail
          refine hK.out _ _ HB.out (fun hHeld => ?_)
          clear hK K
          (try simp only [Act.put, List.setIfInBounds_toArray, List.set_cons_zero, List.set_cons_succ])
          refine wpAnyH_ready (rs := [20]) (by kernel_rfl) (by simp) ?_
          refine AllReadyH.cons (o := ⟨some 5, _, _, _, _, _⟩) rfl (fun K hK => ?_) AllReadyH.nil
          have hlt : (v1.heap.size : Nat) < v8.heap.size := H19.out.size
          have HN := Lib.hid (show (v1.heap.size : Nat) ≠ v8.heap.size by omega)
          clear hlt
          replace H19 := Lib.hid (H19.out.alloc (.cells #[.int .i64 0] 3))
          have H20 : Hid (Has (World.alloc v8 (.cells #[.int .i64 0] 3)) (v8.heap.size) #[.int .i64 0]) := Has.new v8 3 #[.int .i64 0] rfl
          have L20 : Hid (w1.heap.size ≤ v8.heap.size) := HB.out.size
          replace HB := Lib.hid (bel_alloc HB.out (.cells #[.int .i64 0] 3))
          go_simp
          refine hK.out _ _ HB.out (fun hHeld => ?_)
          clear hK K hHeld
          (try simp only [Act.put, List.setIfInBounds_toArray, List.set_cons_zero, List.set_cons_succ])
          generalize (World.alloc v8 (.cells #[.int .i64 0] 3)) = v9 at *
          have hne : (v1.heap.size : Nat) ≠ v8.heap.size := HN.out
          have q4 := H19.out.cell 0 rfl
          have f4 := H19.out.frozen 0
          have z4 := cell_lt q4
          have q5 := (H20.out.far (p := ⟨v1.heap.size, 0, none⟩) (Ne.symm hne) (.int .i64 first)).cell 0 rfl
          have f5 := (H20.out.far (p := ⟨v1.heap.size, 0, none⟩) (Ne.symm hne) (.int .i64 first)).frozen 0
          have z5 := cell_lt q5
          have HE4 := Lib.hid ((H19.out.set 0 (.int .i64 first)).far (p := ⟨v8.heap.size, 0, none⟩) hne (.int .i64 last))
          have HE5 := Lib.hid ((H20.out.far (p := ⟨v1.heap.size, 0, none⟩) (Ne.symm hne) (.int .i64 first)).set 0 (.int .i64 last))
          have HEB := Lib.hid (bel_set (bel_set HB.out (p := ⟨v1.heap.size, 0, none⟩) L19.out (.int .i64 first)) (p := ⟨v8.heap.size, 0, none⟩) L20.out (.int .i64 last))
          refine wpAnyH_ready (rs := [21]) (by kernel_rfl) (by simp) ?_
          refine AllReadyH.cons (o := ⟨none, _, _, _, _, _⟩) rfl (fun K hK => ?_) AllReadyH.nil
          go_simp
          refine hK.out _ _ ?_ (fun hHeld => ?_)
          · exact bel_set HB.out (p := ⟨v1.heap.size, 0, none⟩) L19.out _
          clear hK K
          (try simp only [Act.put, List.setIfInBounds_toArray, List.set_cons_zero, List.set_cons_succ])
          refine wpAnyH_ready (rs := [22]) (by kernel_rfl) (by simp) ?_
          refine AllReadyH.cons (o := ⟨none, _, _, _, _, _⟩) rfl (fun K hK => ?_) AllReadyH.nil
          go_simp
          refine hK.out _ _ ?_ (fun hHeld => ?_)
          · exact HEB.out
          clear hK K
          (try simp only [Act.put, List.setIfInBounds_toArray, List.set_cons_zero, List.set_cons_succ])
          refine wpAnyH_done (by kernel_rfl) ?_ _
          refine NoPanic.normal ?_
          go_wp2_with fail
          go_meet
          exact ⟨v1.heap.size, v8.heap.size, rfl, rfl, HE4.out, HE5.out, hne, L19.out, L20.out, HEB.out⟩
        refine AllReadyH.cons (o := ⟨some 5, _, _, _, _, _⟩) rfl (fun K hK => ?_) AllReadyH.nil
        have hlt : (v1.heap.size : Nat) < v7.heap.size := H19.out.size
        have HN := Lib.hid (show (v1.heap.size : Nat) ≠ v7.heap.size by omega)
        clear hlt
        replace H19 := Lib.hid (H19.out.alloc (.cells #[.int .i64 0] 3))
        have H20 : Hid (Has (World.alloc v7 (.cells #[.int .i64 0] 3)) (v7.heap.size) #[.int .i64 0]) := Has.new v7 3 #[.int .i64 0] rfl
        have L20 : Hid (w1.heap.size ≤ v7.heap.size) := HB.out.size
        replace HB := Lib.hid (bel_alloc HB.out (.cells #[.int .i64 0] 3))
        go_simp
        refine hK.out _ _ HB.out (fun hHeld => ?_)
        clear hK K hHeld
        (try simp only [Act.put, List.setIfInBounds_toArray, List.set_cons_zero, List.set_cons_succ])
        generalize (World.alloc v7 (.cells #[.int .i64 0] 3)) = v10 at *
        refine wpAnyH_ready (rs := [18]) (by kernel_rfl) (by simp) ?_
        refine AllReadyH.cons (o := ⟨some 28, _, _, _, _, _⟩) rfl (fun K hK => ?_) AllReadyH.nil
        go_simp
        go_at_call 129
        refine (CL.out _).mono ?_
        rintro e_r v11 ⟨rfl, hbn⟩
        replace H19 := Lib.hid (H19.out.below hbn)
        replace H20 := Lib.hid (H20.out.below hbn)
        replace HB := Lib.hid (bel_on HB.out hbn)
        clear hbn
        go_wp2_with fail
        refine hK.out _ _ HB.out (fun hHeld => ?_)
        clear hK K
        (try simp only [Act.put, List.setIfInBounds_toArray, List.set_cons_zero, List.set_cons_succ])
        have hne : (v1.heap.size : Nat) ≠ v7.heap.size := HN.out
        have q4 := H19.out.cell 0 rfl
        have f4 := H19.out.frozen 0
        have z4 := cell_lt q4
        have q5 := (H20.out.far (p := ⟨v1.heap.size, 0, none⟩) (Ne.symm hne) (.int .i64 first)).cell 0 rfl
        have f5 := (H20.out.far (p := ⟨v1.heap.size, 0, none⟩) (Ne.symm hne) (.int .i64 first)).frozen 0
        have z5 := cell_lt q5
        have HE4 := Lib.hid ((H19.out.set 0 (.int .i64 first)).far (p := ⟨v7.heap.size, 0, none⟩) hne (.int .i64 last))
        have HE5 := Lib.hid ((H20.out.far (p := ⟨v1.heap.size, 0, none⟩) (Ne.symm hne) (.int .i64 first)).set 0 (.int .i64 last))
        have HEB := Lib.hid (bel_set (bel_set HB.out (p := ⟨v1.heap.size, 0, none⟩) L19.out (.int .i64 first)) (p := ⟨v7.heap.size, 0, none⟩) L20.out (.int .i64 last))
        refine wpAnyH_ready (rs := [21]) (by kernel_rfl) (by simp) ?_
        refine AllReadyH.cons (o := ⟨none, _, _, _, _, _⟩) rfl (fun K hK => ?_) AllReadyH.nil
        go_simp
        refine hK.out _ _ ?_ (fun hHeld => ?_)
        · exact bel_set HB.out (p := ⟨v1.heap.size, 0, none⟩) L19.out _
        clear hK K
        (try simp only [Act.put, List.setIfInBounds_toArray, List.set_cons_zero, List.set_cons_succ])
        refine wpAnyH_ready (rs := [22]) (by kernel_rfl) (by simp) ?_
        refine AllReadyH.cons (o := ⟨none, _, _, _, _, _⟩) rfl (fun K hK => ?_) AllReadyH.nil
        go_simp
        refine hK.out _ _ ?_ (fun hHeld => ?_)
        · exact HEB.out
        clear hK K
        (try simp only [Act.put, List.setIfInBounds_toArray, List.set_cons_zero, List.set_cons_succ])
        refine wpAnyH_done (by kernel_rfl) ?_ _
        refine NoPanic.normal ?_
        go_wp2_with fail
        go_meet
        exact ⟨v1.heap.size, v7.heap.size, rfl, rfl, HE4.out, HE5.out, hne, L19.out, L20.out, HEB.out⟩
      refine AllReadyH.cons (o := ⟨some 5, _, _, _, _, _⟩) rfl (fun K hK => ?_) AllReadyH.nil
      have H20 : Hid (Has (World.alloc v1 (.cells #[.int .i64 0] 3)) (v1.heap.size) #[.int .i64 0]) := Has.new v1 3 #[.int .i64 0] rfl
      have L20 : Hid (w1.heap.size ≤ v1.heap.size) := HB.out.size
      replace HB := Lib.hid (bel_alloc HB.out (.cells #[.int .i64 0] 3))
      go_simp
      refine hK.out _ _ HB.out (fun hHeld => ?_)
      clear hK K hHeld
      (try simp only [Act.put, List.setIfInBounds_toArray, List.set_cons_zero, List.set_cons_succ])
      generalize (World.alloc v1 (.cells #[.int .i64 0] 3)) = v12 at *
      refine wpAnyH_ready (rs := [18, 19]) (by kernel_rfl) (by simp) ?_
      refine AllReadyH.cons (o := ⟨some 28, _, _, _, _, _⟩) rfl (fun K hK => ?_) ?_
      · go_simp
        go_at_call 129
        refine (CL.out _).mono ?_
        rintro e_r v13 ⟨rfl, hbn⟩
        replace H20 := Lib.hid (H20.out.below hbn)
        replace HB := Lib.hid (bel_on HB.out hbn)
        clear hbn
        go_wp2_with fail
        refine hK.out _ _ HB.out (fun hHeld => ?_)
        clear hK K
        (try simp only [Act.put, List.setIfInBounds_toArray, List.set_cons_zero, List.set_cons_succ])
        refine wpAnyH_ready (rs := [19]) (by kernel_rfl) (by simp) ?_
        refine AllReadyH.cons (o := ⟨some 4, _, _, _, _, _⟩) rfl (fun K hK => ?_) AllReadyH.nil
        have hlt : (v1.heap.size : Nat) < v13.heap.size := H20.out.size
        have HN := Lib.hid (show (v13.heap.size : Nat) ≠ v1.heap.size by omega)
        clear hlt
        replace H20 := Lib.hid (H20.out.alloc (.cells #[.int .i64 0] 3))
        have H19 : Hid (Has (World.alloc v13 (.cells #[.int .i64 0] 3)) (v13.heap.size) #[.int .i64 0]) := Has.new v13 3 #[.int .i64 0] rfl
        have L19 : Hid (w1.heap.size ≤ v13.heap.size) := HB.out.size
        replace HB := Lib.hid (bel_alloc HB.out (.cells #[.int .i64 0] 3))
        go_simp
        refine hK.out _ _ HB.out (fun hHeld => ?_)
        clear hK K hHeld
        (try simp only [Act.put, List.setIfInBounds_toArray, List.set_cons_zero, List.set_cons_succ])
        generalize (World.alloc v13 (.cells #[.int .i64 0] 3)) = v14 at *
        have hne : (v13.heap.size : Nat) ≠ v1.heap.size := HN.out
        have q4 := H19.out.cell 0 rfl
        have f4 := H19.out.frozen 0
        have z4 := cell_lt q4
        have q5 := (H20.out.far (p := ⟨v13.heap.size, 0, none⟩) (Ne.symm hne) (.int .i64 first)).cell 0 rfl
        have f5 := (H20.out.far (p := ⟨v13.heap.size, 0, none⟩) (Ne.symm hne) (.int .i64 first)).frozen 0
        have z5 := cell_lt q5
        have HE4 := Lib.hid ((H19.out.set 0 (.int .i64 first)).far (p := ⟨v1.heap.size, 0, none⟩) hne (.int .i64 last))
        have HE5 := Lib.hid ((H20.out.far (p := ⟨v13.heap.size, 0, none⟩) (Ne.symm hne) (.int .i64 first)).set 0 (.int .i64 last))
        have HEB := Lib.hid (bel_set (bel_set HB.out (p := ⟨v13.heap.size, 0, none⟩) L19.out (.int .i64 first)) (p := ⟨v1.heap.size, 0, none⟩) L20.out (.int .i64 last))
        refine wpAnyH_ready (rs := [21]) (by kernel_rfl) (by simp) ?_
        refine AllReadyH.cons (o := ⟨none, _, _, _, _, _⟩) rfl (fun K hK => ?_) AllReadyH.nil
        go_simp
        refine hK.out _ _ ?_ (fun hHeld => ?_)
        · exact bel_set HB.out (p := ⟨v13.heap.size, 0, none⟩) L19.out _
        clear hK K
        (try simp only [Act.put, List.setIfInBounds_toArray, List.set_cons_zero, List.set_cons_succ])
        refine wpAnyH_ready (rs := [22]) (by kernel_rfl) (by simp) ?_
        refine AllReadyH.cons (o := ⟨none, _, _, _, _, _⟩) rfl (fun K hK => ?_) AllReadyH.nil
        go_simp
        refine hK.out _ _ ?_ (fun hHeld => ?_)
        · exact HEB.out
        clear hK K
        (try simp only [Act.put, List.setIfInBounds_toArray, List.set_cons_zero, List.set_cons_succ])
        refine wpAnyH_done (by kernel_rfl) ?_ _
        refine NoPanic.normal ?_
        go_wp2_with fail
        go_meet
        exact ⟨v13.heap.size, v1.heap.size, rfl, rfl, HE4.out, HE5.out, hne, L19.out, L20.out, HEB.out⟩
      refine AllReadyH.cons (o := ⟨some 4, _, _, _, _, _⟩) rfl (fun K hK => ?_) AllReadyH.nil
      have hlt : (v1.heap.size : Nat) < v12.heap.size := H20.out.size
      have HN := Lib.hid (show (v12.heap.size : Nat) ≠ v1.heap.size by omega)
      clear hlt
      replace H20 := Lib.hid (H20.out.alloc (.cells #[.int .i64 0] 3))
      have H19 : Hid (Has (World.alloc v12 (.cells #[.int .i64 0] 3)) (v12.heap.size) #[.int .i64 0]) := Has.new v12 3 #[.int .i64 0] rfl
      have L19 : Hid (w1.heap.size ≤ v12.heap.size) := HB.out.size
      replace HB := Lib.hid (bel_alloc HB.out (.cells #[.int .i64 0] 3))
      go_simp
      refine hK.out _ _ HB.out (fun hHeld => ?_)
      clear hK K hHeld
      (try simp only [Act.put, List.setIfInBounds_toArray, List.set_cons_zero, List.set_cons_succ])
      generalize (World.alloc v12 (.cells #[.int .i64 0] 3)) = v15 at *
      refine wpAnyH_ready (rs := [18]) (by kernel_rfl) (by simp) ?_
      refine AllReadyH.cons (o := ⟨some 28, _, _, _, _, _⟩) rfl (fun K hK => ?_) AllReadyH.nil
      go_simp
      go_at_call 129
      refine (CL.out _).mono ?_
      rintro e_r v16 ⟨rfl, hbn⟩
      replace H19 := Lib.hid (H19.out.below hbn)
      replace H20 := Lib.hid (H20.out.below hbn)
      replace HB := Lib.hid (bel_on HB.out hbn)
      clear hbn
      go_wp2_with fail
      refine hK.out _ _ HB.out (fun hHeld => ?_)
      clear hK K
      (try simp only [Act.put, List.setIfInBounds_toArray, List.set_cons_zero, List.set_cons_succ])
      have hne : (v12.heap.size : Nat) ≠ v1.heap.size := HN.out
      have q4 := H19.out.cell 0 rfl
      have f4 := H19.out.frozen 0
      have z4 := cell_lt q4
      have q5 := (H20.out.far (p := ⟨v12.heap.size, 0, none⟩) (Ne.symm hne) (.int .i64 first)).cell 0 rfl
      have f5 := (H20.out.far (p := ⟨v12.heap.size, 0, none⟩) (Ne.symm hne) (.int .i64 first)).frozen 0
      have z5 := cell_lt q5
      have HE4 := Lib.hid ((H19.out.set 0 (.int .i64 first)).far (p := ⟨v1.heap.size, 0, none⟩) hne (.int .i64 last))
      have HE5 := Lib.hid ((H20.out.far (p := ⟨v12.heap.size, 0, none⟩) (Ne.symm hne) (.int .i64 first)).set 0 (.int .i64 last))
      have HEB := Lib.hid (bel_set (bel_set HB.out (p := ⟨v12.heap.size, 0, none⟩) L19.out (.int .i64 first)) (p := ⟨v1.heap.size, 0, none⟩) L20.out (.int .i64 last))
      refine wpAnyH_ready (rs := [21]) (by kernel_rfl) (by simp) ?_
      refine AllReadyH.cons (o := ⟨none, _, _, _, _, _⟩) rfl (fun K hK => ?_) AllReadyH.nil
      go_simp
      refine hK.out _ _ ?_ (fun hHeld => ?_)
      · exact bel_set HB.out (p := ⟨v12.heap.size, 0, none⟩) L19.out _
      clear hK K
      (try simp only [Act.put, List.setIfInBounds_toArray, List.set_cons_zero, List.set_cons_succ])
      refine wpAnyH_ready (rs := [22]) (by kernel_rfl) (by simp) ?_
      refine AllReadyH.cons (o := ⟨none, _, _, _, _, _⟩) rfl (fun K hK => ?_) AllReadyH.nil
      go_simp
      refine hK.out _ _ ?_ (fun hHeld => ?_)
      · exact HEB.out
      clear hK K
      (try simp only [Act.put, List.setIfInBounds_toArray, List.set_cons_zero, List.set_cons_succ])
      refine wpAnyH_done (by kernel_rfl) ?_ _
      refine NoPanic.normal ?_
      go_wp2_with fail
      go_meet
      exact ⟨v12.heap.size, v1.heap.size, rfl, rfl, HE4.out, HE5.out, hne, L19.out, L20.out, HEB.out⟩
    refine AllReadyH.cons (o := ⟨some 4, _, _, _, _, _⟩) rfl (fun K hK => ?_) ?_
    · have H19 : Hid (Has (World.alloc v0 (.cells #[.int .i64 0] 3)) (v0.heap.size) #[.int .i64 0]) := Has.new v0 3 #[.int .i64 0] rfl
      have L19 : Hid (w1.heap.size ≤ v0.heap.size) := HB.out.size
      replace HB := Lib.hid (bel_alloc HB.out (.cells #[.int .i64 0] 3))
      go_simp
      refine hK.out _ _ HB.out (fun hHeld => ?_)
      clear hK K hHeld
      (try simp only [Act.put, List.setIfInBounds_toArray, List.set_cons_zero, List.set_cons_succ])
      generalize (World.alloc v0 (.cells #[.int .i64 0] 3)) = v17 at *
      refine wpAnyH_ready (rs := [12, 20]) (by kernel_rfl) (by simp) ?_
      refine AllReadyH.cons (o := ⟨some 22, _, _, _, _, _⟩) rfl (fun K hK => ?_) ?_
      · go_simp
        go_at_call 129
        refine (CF.out _).mono ?_
        rintro e_r v18 ⟨rfl, hbn⟩
        replace H19 := Lib.hid (H19.out.below hbn)
        replace HB := Lib.hid (bel_on HB.out hbn)
        clear hbn
        go_wp2_with fail
        refine hK.out _ _ HB.out (fun hHeld => ?_)
        clear hK K
        (try simp only [Act.put, List.setIfInBounds_toArray, List.set_cons_zero, List.set_cons_succ])
        refine wpAnyH_ready (rs := [18, 20]) (by kernel_rfl) (by simp) ?_
        refine AllReadyH.cons (o := ⟨some 28, _, _, _, _, _⟩) rfl (fun K hK => ?_) ?_
        · go_simp
          go_at_call 129
          refine (CL.out _).mono ?_
          rintro e_r v19 ⟨rfl, hbn⟩
          replace H19 := Lib.hid (H19.out.below hbn)
          replace HB := Lib.hid (bel_on HB.out hbn)
          clear hbn
          go_wp2_with fail
          refine hK.out _ _ HB.out (fun hHeld => ?_)
          clear hK K
          (try simp only [Act.put, List.setIfInBounds_toArray, List.set_cons_zero, List.set_cons_succ])
          refine wpAnyH_ready (rs := [20]) (by kernel_rfl) (by simp) ?_
          refine AllReadyH.cons (o := ⟨some 5, _, _, _, _, _⟩) rfl (fun K hK => ?_) AllReadyH.nil
          have hlt : (v0.heap.size : Nat) < v19.heap.size := H19.out.size
          have HN := Lib.hid (show (v0.heap.size : Nat) ≠ v19.heap.size by omega)
          clear hlt
          replace H19 := Lib.hid (H19.out.alloc (.cells #[.int .i64 0] 3))
          have H20 : Hid (Has (World.alloc v19 (.cells #[.int .i64 0] 3)) (v19.heap.size) #[.int .i64 0]) := Has.new v19 3 #[.int .i64 0] rfl
          have L20 : Hid (w1.heap.size ≤ v19.heap.size) := HB.out.size
          replace HB := Lib.hid (bel_alloc HB.out (.cells #[.int .i64 0] 3))
          go_simp
          refine hK.out _ _ HB.out (fun hHeld => ?_)
          clear hK K hHeld
          (try simp only [Act.put, List.setIfInBounds_toArray, List.set_cons_zero, List.set_cons_succ])
          generalize (World.alloc v19 (.cells #[.int .i64 0] 3)) = v20 at *
          have hne : (v0.heap.size : Nat) ≠ v19.heap.size := HN.out
          have q4 := H19.out.cell 0 rfl
          have f4 := H19.out.frozen 0
          have z4 := cell_lt q4
          have q5 := (H20.out.far (p := ⟨v0.heap.size, 0, none⟩) (Ne.symm hne) (.int .i64 first)).cell 0 rfl
          have f5 := (H20.out.far (p := ⟨v0.heap.size, 0, none⟩) (Ne.symm hne) (.int .i64 first)).frozen 0
          have z5 := cell_lt q5
          have HE4 := Lib.hid ((H19.out.set 0 (.int .i64 first)).far (p := ⟨v19.heap.size, 0, none⟩) hne (.int .i64 last))
          have HE5 := Lib.hid ((H20.out.far (p := ⟨v0.heap.size, 0, none⟩) (Ne.symm hne) (.int .i64 first)).set 0 (.int .i64 last))
          have HEB := Lib.hid (bel_set (bel_set HB.out (p := ⟨v0.heap.size, 0, none⟩) L19.out (.int .i64 first)) (p := ⟨v19.heap.size, 0, none⟩) L20.out (.int .i64 last))
          refine wpAnyH_ready (rs := [21]) (by kernel_rfl) (by simp) ?_
          refine AllReadyH.cons (o := ⟨none, _, _, _, _, _⟩) rfl (fun K hK => ?_) AllReadyH.nil
          go_simp
          refine hK.out _ _ ?_ (fun hHeld => ?_)
          · exact bel_set HB.out (p := ⟨v0.heap.size, 0, none⟩) L19.out _
          clear hK K
          (try simp only [Act.put, List.setIfInBounds_toArray, List.set_cons_zero, List.set_cons_succ])
          refine wpAnyH_ready (rs := [22]) (by kernel_rfl) (by simp) ?_
          refine AllReadyH.cons (o := ⟨none, _, _, _, _, _⟩) rfl (fun K hK => ?_) AllReadyH.nil
          go_simp
          refine hK.out _ _ ?_ (fun hHeld => ?_)
          · exact HEB.out
          clear hK K
          (try simp only [Act.put, List.setIfInBounds_toArray, List.set_cons_zero, List.set_cons_succ])
          refine wpAnyH_done (by kernel_rfl) ?_ _
          refine NoPanic.normal ?_
          go_wp2_with fail
          go_meet
          exact ⟨v0.heap.size, v19.heap.size, rfl, rfl, HE4.out, HE5.out, hne, L19.out, L20.out, HEB.out⟩
        refine AllReadyH.cons (o := ⟨some 5, _, _, _, _, _⟩) rfl (fun K hK => ?_) AllReadyH.nil
        have hlt : (v0.heap.size : Nat) < v18.heap.size := H19.out.size
        have HN := Lib.hid (show (v0.heap.size : Nat) ≠ v18.heap.size by omega)
        clear hlt
        replace H19 := Lib.hid (H19.out.alloc (.cells #[.int .i64 0] 3))
        have H20 : Hid (Has (World.alloc v18 (.cells #[.int .i64 0] 3)) (v18.heap.size) #[.int .i64 0]) := Has.new v18 3 #[.int .i64 0] rfl
        have L20 : Hid (w1.heap.size ≤ v18.heap.size) := HB.out.size
        replace HB := Lib.hid (bel_alloc HB.out (.cells #[.int .i64 0] 3))
        go_simp
        refine hK.out _ _ HB.out (fun hHeld => ?_)
        clear hK K hHeld
        (try simp only [Act.put, List.setIfInBounds_toArray, List.set_cons_zero, List.set_cons_succ])
        generalize (World.alloc v18 (.cells #[.int .i64 0] 3)) = v21 at *
        refine wpAnyH_ready (rs := [18]) (by kernel_rfl) (by simp) ?_
        refine AllReadyH.cons (o := ⟨some 28, _, _, _, _, _⟩) rfl (fun K hK => ?_) AllReadyH.nil
        go_simp
        go_at_call 129
        refine (CL.out _).mono ?_
        rintro e_r v22 ⟨rfl, hbn⟩
        replace H19 := Lib.hid (H19.out.below hbn)
        replace H20 := Lib.hid (H20.out.below hbn)
        replace HB := Lib.hid (bel_on HB.out hbn)
        clear hbn
        go_wp2_with fail
        refine hK.out _ _ HB.out (fun hHeld => ?_)
        clear hK K
        (try simp only [Act.put, List.setIfInBounds_toArray, List.set_cons_zero, List.set_cons_succ])
        have hne : (v0.heap.size : Nat) ≠ v18.heap.size := HN.out
        have q4 := H19.out.cell 0 rfl
        have f4 := H19.out.frozen 0
        have z4 := cell_lt q4
        have q5 := (H20.out.far (p := ⟨v0.heap.size, 0, none⟩) (Ne.symm hne) (.int .i64 first)).cell 0 rfl
        have f5 := (H20.out.far (p := ⟨v0.heap.size, 0, none⟩) (Ne.symm hne) (.int .i64 first)).frozen 0
        have z5 := cell_lt q5
        have HE4 := Lib.hid ((H19.out.set 0 (.int .i64 first)).far (p := ⟨v18.heap.size, 0, none⟩) hne (.int .i64 last))
        have HE5 := Lib.hid ((H20.out.far (p := ⟨v0.heap.size, 0, none⟩) (Ne.symm hne) (.int .i64 first)).set 0 (.int .i64 last))
        have HEB := Lib.hid (bel_set (bel_set HB.out (p := ⟨v0.heap.size, 0, none⟩) L19.out (.int .i64 first)) (p := ⟨v18.heap.size, 0, none⟩) L20.out (.int .i64 last))
        refine wpAnyH_ready (rs := [21]) (by kernel_rfl) (by simp) ?_
        refine AllReadyH.cons (o := ⟨none, _, _, _, _, _⟩) rfl (fun K hK => ?_) AllReadyH.nil
        go_simp
        refine hK.out _ _ ?_ (fun hHeld => ?_)
        · exact bel_set HB.out (p := ⟨v0.heap.size, 0, none⟩) L19.out _
        clear hK K
        (try simp only [Act.put, List.setIfInBounds_toArray, List.set_cons_zero, List.set_cons_succ])
        refine wpAnyH_ready (rs := [22]) (by kernel_rfl) (by simp) ?_
        refine AllReadyH.cons (o := ⟨none, _, _, _, _, _⟩) rfl (fun K hK => ?_) AllReadyH.nil
        go_simp
        refine hK.out _ _ ?_ (fun hHeld => ?_)
        · exact HEB.out
        clear hK K
        (try simp only [Act.put, List.setIfInBounds_toArray, List.set_cons_zero, List.set_cons_succ])
        refine wpAnyH_done (by kernel_rfl) ?_ _
        refine NoPanic.normal ?_
        go_wp2_with fail
        go_meet
        exact ⟨v0.heap.size, v18.heap.size, rfl, rfl, HE4.out, HE5.out, hne, L19.out, L20.out, HEB.out⟩
      refine AllReadyH.cons (o := ⟨some 5, _, _, _, _, _⟩) rfl (fun K hK => ?_) AllReadyH.nil
      have hlt : (v0.heap.size : Nat) < v17.heap.size := H19.out.size
      have HN := Lib.hid (show (v0.heap.size : Nat) ≠ v17.heap.size by omega)
      clear hlt
      replace H19 := Lib.hid (H19.out.alloc (.cells #[.int .i64 0] 3))
      have H20 : Hid (Has (World.alloc v17 (.cells #[.int .i64 0] 3)) (v17.heap.size) #[.int .i64 0]) := Has.new v17 3 #[.int .i64 0] rfl
      have L20 : Hid (w1.heap.size ≤ v17.heap.size) := HB.out.size
      replace HB := Lib.hid (bel_alloc HB.out (.cells #[.int .i64 0] 3))
      go_simp
      refine hK.out _ _ HB.out (fun hHeld => ?_)
      clear hK K hHeld
      (try simp only [Act.put, List.setIfInBounds_toArray, List.set_cons_zero, List.set_cons_succ])
      generalize (World.alloc v17 (.cells #[.int .i64 0] 3)) = v23 at *
      refine wpAnyH_ready (rs := [12]) (by kernel_rfl) (by simp) ?_
      refine AllReadyH.cons (o := ⟨some 22, _, _, _, _, _⟩) rfl (fun K hK => ?_) AllReadyH.nil
      go_simp
      go_at_call 129
      refine (CF.out _).mono ?_
      rintro e_r v24 ⟨rfl, hbn⟩
      replace H19 := Lib.hid (H19.out.below hbn)
      replace H20 := Lib.hid (H20.out.below hbn)
      replace HB := Lib.hid (bel_on HB.out hbn)
      clear hbn
      go_wp2_with fail
      refine hK.out _ _ HB.out (fun hHeld => ?_)
      clear hK K
      (try simp only [Act.put, List.setIfInBounds_toArray, List.set_cons_zero, List.set_cons_succ])
      refine wpAnyH_ready (rs := [18]) (by kernel_rfl) (by simp) ?_
      refine AllReadyH.cons (o := ⟨some 28, _, _, _, _, _⟩) rfl (fun K hK => ?_) AllReadyH.nil
      go_simp
      go_at_call 129
      refine (CL.out _).mono ?_
      rintro e_r v25 ⟨rfl, hbn⟩
      replace H19 := Lib.hid (H19.out.below hbn)
      replace H20 := Lib.hid (H20.out.below hbn)
      replace HB := Lib.hid (bel_on HB.out hbn)
      clear hbn
      go_wp2_with fail
      refine hK.out _ _ HB.out (fun hHeld => ?_)
      clear hK K
      (try simp only [Act.put, List.setIfInBounds_toArray, List.set_cons_zero, List.set_cons_succ])
      have hne : (v0.heap.size : Nat) ≠ v17.heap.size := HN.out
      have q4 := H19.out.cell 0 rfl
      have f4 := H19.out.frozen 0
      have z4 := cell_lt q4
      have q5 := (H20.out.far (p := ⟨v0.heap.size, 0, none⟩) (Ne.symm hne) (.int .i64 first)).cell 0 rfl
      have f5 := (H20.out.far (p := ⟨v0.heap.size, 0, none⟩) (Ne.symm hne) (.int .i64 first)).frozen 0
      have z5 := cell_lt q5
      have HE4 := Lib.hid ((H19.out.set 0 (.int .i64 first)).far (p := ⟨v17.heap.size, 0, none⟩) hne (.int .i64 last))
      have HE5 := Lib.hid ((H20.out.far (p := ⟨v0.heap.size, 0, none⟩) (Ne.symm hne) (.int .i64 first)).set 0 (.int .i64 last))
      have HEB := Lib.hid (bel_set (bel_set HB.out (p := ⟨v0.heap.size, 0, none⟩) L19.out (.int .i64 first)) (p := ⟨v17.heap.size, 0, none⟩) L20.out (.int .i64 last))
      refine wpAnyH_ready (rs := [21]) (by kernel_rfl) (by simp) ?_
      refine AllReadyH.cons (o := ⟨none, _, _, _, _, _⟩) rfl (fun K hK => ?_) AllReadyH.nil
      go_simp
      refine hK.out _ _ ?_ (fun hHeld => ?_)
      · exact bel_set HB.out (p := ⟨v0.heap.size, 0, none⟩) L19.out _
      clear hK K
      (try simp only [Act.put, List.setIfInBounds_toArray, List.set_cons_zero, List.set_cons_succ])
      refine wpAnyH_ready (rs := [22]) (by kernel_rfl) (by simp) ?_
      refine AllReadyH.cons (o := ⟨none, _, _, _, _, _⟩) rfl (fun K hK => ?_) AllReadyH.nil
      go_simp
      refine hK.out _ _ ?_ (fun hHeld => ?_)
      · exact HEB.out
      clear hK K
      (try simp only [Act.put, List.setIfInBounds_toArray, List.set_cons_zero, List.set_cons_succ])
      refine wpAnyH_done (by kernel_rfl) ?_ _
      refine NoPanic.normal ?_
      go_wp2_with fail
      go_meet
      exact ⟨v0.heap.size, v17.heap.size, rfl, rfl, HE4.out, HE5.out, hne, L19.out, L20.out, HEB.out⟩
    refine AllReadyH.cons (o := ⟨some 5, _, _, _, _, _⟩) rfl (fun K hK => ?_) AllReadyH.nil
    have H20 : Hid (Has (World.alloc v0 (.cells #[.int .i64 0] 3)) (v0.heap.size) #[.int .i64 0]) := Has.new v0 3 #[.int .i64 0] rfl
    have L20 : Hid (w1.heap.size ≤ v0.heap.size) := HB.out.size
    replace HB := Lib.hid (bel_alloc HB.out (.cells #[.int .i64 0] 3))
    go_simp
    refine hK.out _ _ HB.out (fun hHeld => ?_)
    clear hK K hHeld
    (try simp only [Act.put, List.setIfInBounds_toArray, List.set_cons_zero, List.set_cons_succ])
    generalize (World.alloc v0 (.cells #[.int .i64 0] 3)) = v26 at *
    refine wpAnyH_ready (rs := [12, 19]) (by kernel_rfl) (by simp) ?_
    refine AllReadyH.cons (o := ⟨some 22, _, _, _, _, _⟩) rfl (fun K hK => ?_) ?_
    · go_simp
      go_at_call 129
      refine (CF.out _).mono ?_
      rintro e_r v27 ⟨rfl, hbn⟩
      replace H20 := Lib.hid (H20.out.below hbn)
      replace HB := Lib.hid (bel_on HB.out hbn)
      clear hbn
      go_wp2_with fail
      refine hK.out _ _ HB.out (fun hHeld => ?_)
      clear hK K
      (try simp only [Act.put, List.setIfInBounds_toArray, List.set_cons_zero, List.set_cons_succ])
      refine wpAnyH_ready (rs := [18, 19]) (by kernel_rfl) (by simp) ?_
      refine AllReadyH.cons (o := ⟨some 28, _, _, _, _, _⟩) rfl (fun K hK => ?_) ?_
      · go_simp
        go_at_call 129
        refine (CL.out _).mono ?_
        rintro e_r v28 ⟨rfl, hbn⟩
        replace H20 := Lib.hid (H20.out.below hbn)
        replace HB := Lib.hid (bel_on HB.out hbn)
        clear hbn
        go_wp2_with fail
        refine hK.out _ _ HB.out (fun hHeld => ?_)
        clear hK K
        (try simp only [Act.put, List.setIfInBounds_toArray, List.set_cons_zero, List.set_cons_succ])
        refine wpAnyH_ready (rs := [19]) (by kernel_rfl) (by simp) ?_
        refine AllReadyH.cons (o := ⟨some 4, _, _, _, _, _⟩) rfl (fun K hK => ?_) AllReadyH.nil
        have hlt : (v0.heap.size : Nat) < v28.heap.size := H20.out.size
        have HN := Lib.hid (show (v28.heap.size : Nat) ≠ v0.heap.size by omega)
        clear hlt
        replace H20 := Lib.hid (H20.out.alloc (.cells #[.int .i64 0] 3))
        have H19 : Hid (Has (World.alloc v28 (.cells #[.int .i64 0] 3)) (v28.heap.size) #[.int .i64 0]) := Has.new v28 3 #[.int .i64 0] rfl
        have L19 : Hid (w1.heap.size ≤ v28.heap.size) := HB.out.size
        replace HB := Lib.hid (bel_alloc HB.out (.cells #[.int .i64 0] 3))
        go_simp
        refine hK.out _ _ HB.out (fun hHeld => ?_)
        clear hK K hHeld
        (try simp only [Act.put, List.setIfInBounds_toArray, List.set_cons_zero, List.set_cons_succ])
        generalize (World.alloc v28 (.cells #[.int .i64 0] 3)) = v29 at *
        have hne : (v28.heap.size : Nat) ≠ v0.heap.size := HN.out
        have q4 := H19.out.cell 0 rfl
        have f4 := H19.out.frozen 0
        have z4 := cell_lt q4
        have q5 := (H20.out.far (p := ⟨v28.heap.size, 0, none⟩) (Ne.symm hne) (.int .i64 first)).cell 0 rfl
        have f5 := (H20.out.far (p := ⟨v28.heap.size, 0, none⟩) (Ne.symm hne) (.int .i64 first)).frozen 0
        have z5 := cell_lt q5
        have HE4 := Lib.hid ((H19.out.set 0 (.int .i64 first)).far (p := ⟨v0.heap.size, 0, none⟩) hne (.int .i64 last))
        have HE5 := Lib.hid ((H20.out.far (p := ⟨v28.heap.size, 0, none⟩) (Ne.symm hne) (.int .i64 first)).set 0 (.int .i64 last))
        have HEB := Lib.hid (bel_set (bel_set HB.out (p := ⟨v28.heap.size, 0, none⟩) L19.out (.int .i64 first)) (p := ⟨v0.heap.size, 0, none⟩) L20.out (.int .i64 last))
        refine wpAnyH_ready (rs := [21]) (by kernel_rfl) (by simp) ?_
        refine AllReadyH.cons (o := ⟨none, _, _, _, _, _⟩) rfl (fun K hK => ?_) AllReadyH.nil
        go_simp
        refine hK.out _ _ ?_ (fun hHeld => ?_)
        · exact bel_set HB.out (p := ⟨v28.heap.size, 0, none⟩) L19.out _
        clear hK K
        (try simp only [Act.put, List.setIfInBounds_toArray, List.set_cons_zero, List.set_cons_succ])
        refine wpAnyH_ready (rs := [22]) (by kernel_rfl) (by simp) ?_
        refine AllReadyH.cons (o := ⟨none, _, _, _, _, _⟩) rfl (fun K hK => ?_) AllReadyH.nil
        go_simp
        refine hK.out _ _ ?_ (fun hHeld => ?_)
        · exact HEB.out
        clear hK K
        (try simp only [Act.put, List.setIfInBounds_toArray, List.set_cons_zero, List.set_cons_succ])
        refine wpAnyH_done (by kernel_rfl) ?_ _
        refine NoPanic.normal ?_
        go_wp2_with fail
        go_meet
        exact ⟨v28.heap.size, v0.heap.size, rfl, rfl, HE4.out, HE5.out, hne, L19.out, L20.out, HEB.out⟩
      refine AllReadyH.cons (o := ⟨some 4, _, _, _, _, _⟩) rfl (fun K hK => ?_) AllReadyH.nil
      have hlt : (v0.heap.size : Nat) < v27.heap.size := H20.out.size
      have HN := Lib.hid (show (v27.heap.size : Nat) ≠ v0.heap.size by omega)
      clear hlt
      replace H20 := Lib.hid (H20.out.alloc (.cells #[.int .i64 0] 3))
      have H19 : Hid (Has (World.alloc v27 (.cells #[.int .i64 0] 3)) (v27.heap.size) #[.int .i64 0]) := Has.new v27 3 #[.int .i64 0] rfl
      have L19 : Hid (w1.heap.size ≤ v27.heap.size) := HB.out.size
      replace HB := Lib.hid (bel_alloc HB.out (.cells #[.int .i64 0] 3))
      go_simp
      refine hK.out _ _ HB.out (fun hHeld => ?_)
      clear hK K hHeld
      (try simp only [Act.put, List.setIfInBounds_toArray, List.set_cons_zero, List.set_cons_succ])
      generalize (World.alloc v27 (.cells #[.int .i64 0] 3)) = v30 at *
      refine wpAnyH_ready (rs := [18]) (by kernel_rfl) (by simp) ?_
      refine AllReadyH.cons (o := ⟨some 28, _, _, _, _, _⟩) rfl (fun K hK => ?_) AllReadyH.nil
      go_simp
      go_at_call 129
      refine (CL.out _).mono ?_
      rintro e_r v31 ⟨rfl, hbn⟩
      replace H19 := Lib.hid (H19.out.below hbn)
      replace H20 := Lib.hid (H20.out.below hbn)
      replace HB := Lib.hid (bel_on HB.out hbn)
      clear hbn
      go_wp2_with fail
      refine hK.out _ _ HB.out (fun hHeld => ?_)
      clear hK K
      (try simp only [Act.put, List.setIfInBounds_toArray, List.set_cons_zero, List.set_cons_succ])
      have hne : (v27.heap.size : Nat) ≠ v0.heap.size := HN.out
      have q4 := H19.out.cell 0 rfl
      have f4 := H19.out.frozen 0
      have z4 := cell_lt q4
      have q5 := (H20.out.far (p := ⟨v27.heap.size, 0, none⟩) (Ne.symm hne) (.int .i64 first)).cell 0 rfl
      have f5 := (H20.out.far (p := ⟨v27.heap.size, 0, none⟩) (Ne.symm hne) (.int .i64 first)).frozen 0
      have z5 := cell_lt q5
      have HE4 := Lib.hid ((H19.out.set 0 (.int .i64 first)).far (p := ⟨v0.heap.size, 0, none⟩) hne (.int .i64 last))
      have HE5 := Lib.hid ((H20.out.far (p := ⟨v27.heap.size, 0, none⟩) (Ne.symm hne) (.int .i64 first)).set 0 (.int .i64 last))
      have HEB := Lib.hid (bel_set (bel_set HB.out (p := ⟨v27.heap.size, 0, none⟩) L19.out (.int .i64 first)) (p := ⟨v0.heap.size, 0, none⟩) L20.out (.int .i64 last))
      refine wpAnyH_ready (rs := [21]) (by kernel_rfl) (by simp) ?_
      refine AllReadyH.cons (o := ⟨none, _, _, _, _, _⟩) rfl (fun K hK => ?_) AllReadyH.nil
      go_simp
      refine hK.out _ _ ?_ (fun hHeld => ?_)
      · exact bel_set HB.out (p := ⟨v27.heap.size, 0, none⟩) L19.out _
      clear hK K
      (try simp only [Act.put, List.setIfInBounds_toArray, List.set_cons_zero, List.set_cons_succ])
      refine wpAnyH_ready (rs := [22]) (by kernel_rfl) (by simp) ?_
      refine AllReadyH.cons (o := ⟨none, _, _, _, _, _⟩) rfl (fun K hK => ?_) AllReadyH.nil
      go_simp
      refine hK.out _ _ ?_ (fun hHeld => ?_)
      · exact HEB.out
      clear hK K
      (try simp only [Act.put, List.setIfInBounds_toArray, List.set_cons_zero, List.set_cons_succ])
      refine wpAnyH_done (by kernel_rfl) ?_ _
      refine NoPanic.normal ?_
      go_wp2_with fail
      go_meet
      exact ⟨v27.heap.size, v0.heap.size, rfl, rfl, HE4.out, HE5.out, hne, L19.out, L20.out, HEB.out⟩
    refine AllReadyH.cons (o := ⟨some 4, _, _, _, _, _⟩) rfl (fun K hK => ?_) AllReadyH.nil
    have hlt : (v0.heap.size : Nat) < v26.heap.size := H20.out.size
    have HN := Lib.hid (show (v26.heap.size : Nat) ≠ v0.heap.size by omega)
    clear hlt
    replace H20 := Lib.hid (H20.out.alloc (.cells #[.int .i64 0] 3))
    have H19 : Hid (Has (World.alloc v26 (.cells #[.int .i64 0] 3)) (v26.heap.size) #[.int .i64 0]) := Has.new v26 3 #[.int .i64 0] rfl
    have L19 : Hid (w1.heap.size ≤ v26.heap.size) := HB.out.size
    replace HB := Lib.hid (bel_alloc HB.out (.cells #[.int .i64 0] 3))
    go_simp
    refine hK.out _ _ HB.out (fun hHeld => ?_)
    clear hK K hHeld
    (try simp only [Act.put, List.setIfInBounds_toArray, List.set_cons_zero, List.set_cons_succ])
    generalize (World.alloc v26 (.cells #[.int .i64 0] 3)) = v32 at *
    refine wpAnyH_ready (rs := [12]) (by kernel_rfl) (by simp) ?_
    refine AllReadyH.cons (o := ⟨some 22, _, _, _, _, _⟩) rfl (fun K hK => ?_) AllReadyH.nil
    go_simp
    go_at_call 129
    refine (CF.out _).mono ?_
    rintro e_r v33 ⟨rfl, hbn⟩
    replace H19 := Lib.hid (H19.out.below hbn)
    replace H20 := Lib.hid (H20.out.below hbn)
    replace HB := Lib.hid (bel_on HB.out hbn)
    clear hbn
    go_wp2_with fail
    refine hK.out _ _ HB.out (fun hHeld => ?_)
    clear hK K
    (try simp only [Act.put, List.setIfInBounds_toArray, List.set_cons_zero, List.set_cons_succ])
    refine wpAnyH_ready (rs := [18]) (by kernel_rfl) (by simp) ?_
    refine AllReadyH.cons (o := ⟨some 28, _, _, _, _, _⟩) rfl (fun K hK => ?_) AllReadyH.nil
    go_simp
    go_at_call 129
    refine (CL.out _).mono ?_
    rintro e_r v34 ⟨rfl, hbn⟩
    replace H19 := Lib.hid (H19.out.below hbn)
    replace H20 := Lib.hid (H20.out.below hbn)
    replace HB := Lib.hid (bel_on HB.out hbn)
    clear hbn
    go_wp2_with fail
    refine hK.out _ _ HB.out (fun hHeld => ?_)
    clear hK K
    (try simp only [Act.put, List.setIfInBounds_toArray, List.set_cons_zero, List.set_cons_succ])
    have hne : (v26.heap.size : Nat) ≠ v0.heap.size := HN.out
    have q4 := H19.out.cell 0 rfl
    have f4 := H19.out.frozen 0
    have z4 := cell_lt q4
    have q5 := (H20.out.far (p := ⟨v26.heap.size, 0, none⟩) (Ne.symm hne) (.int .i64 first)).cell 0 rfl
    have f5 := (H20.out.far (p := ⟨v26.heap.size, 0, none⟩) (Ne.symm hne) (.int .i64 first)).frozen 0
    have z5 := cell_lt q5
    have HE4 := Lib.hid ((H19.out.set 0 (.int .i64 first)).far (p := ⟨v0.heap.size, 0, none⟩) hne (.int .i64 last))
    have HE5 := Lib.hid ((H20.out.far (p := ⟨v26.heap.size, 0, none⟩) (Ne.symm hne) (.int .i64 first)).set 0 (.int .i64 last))
    have HEB := Lib.hid (bel_set (bel_set HB.out (p := ⟨v26.heap.size, 0, none⟩) L19.out (.int .i64 first)) (p := ⟨v0.heap.size, 0, none⟩) L20.out (.int .i64 last))
    refine wpAnyH_ready (rs := [21]) (by kernel_rfl) (by simp) ?_
    refine AllReadyH.cons (o := ⟨none, _, _, _, _, _⟩) rfl (fun K hK => ?_) AllReadyH.nil
    go_simp
    refine hK.out _ _ ?_ (fun hHeld => ?_)
    · exact bel_set HB.out (p := ⟨v26.heap.size, 0, none⟩) L19.out _
    clear hK K
    (try simp only [Act.put, List.setIfInBounds_toArray, List.set_cons_zero, List.set_cons_succ])
    refine wpAnyH_ready (rs := [22]) (by kernel_rfl) (by simp) ?_
    refine AllReadyH.cons (o := ⟨none, _, _, _, _, _⟩) rfl (fun K hK => ?_) AllReadyH.nil
    go_simp
    refine hK.out _ _ ?_ (fun hHeld => ?_)
    · exact HEB.out
    clear hK K
    (try simp only [Act.put, List.setIfInBounds_toArray, List.set_cons_zero, List.set_cons_succ])
    refine wpAnyH_done (by kernel_rfl) ?_ _
    refine NoPanic.normal ?_
    go_wp2_with fail
    go_meet
    exact ⟨v26.heap.size, v0.heap.size, rfl, rfl, HE4.out, HE5.out, hne, L19.out, L20.out, HEB.out⟩
  case rest =>
    obtain ⟨bf, bt, rfl, rfl, hF, hT, hne, s1, s2, hb⟩ := hcut
    have hw1 := hW1.out
    have hbs := hb.size
    have hPZ := HPZ.out
    have hWS := HWS.out
    have HBL := Lib.hid hb
    have HBBl : w.heap.size ≤ bf ∧ w.heap.size ≤ bt ∧ w.heap.size ≤ wc.heap.size := by omega
    replace HBBl := Lib.hid HBBl
    have HWX := Lib.hid (HWR.out.below hb)
    have HSX := Lib.hid (HSS.out.below hb)
    have HBX := Lib.hid (HBW.out.below hb)
    have hT2 := hT.size
    have hF2 := hF.size
    have hby := bel_alloc (Below.refl wc.heap.size wc) (.cells (evC e) 43)
    have HER : Hid (EndR w0 (wc.alloc (.cells (evC e) 43)) g u cap p C m d F e D q r ins bt bf w.heap.size wc.heap.size last A n c S first e) := by
      refine ⟨HWX.out.below hby, HSX.out.below hby, hT.below hby, hF.below hby, HBX.out.below hby, Has.new wc _ _ rfl, HPT.out, ⟨by omega, fun x hx => ?_⟩, ⟨by omega, fun x hx => ?_⟩, ⟨by omega, fun x hx => ?_⟩, ⟨by omega, fun x hx => ?_⟩⟩ <;>
        (have := HA.out x hx; omega)
    have HEF : Hid (EndF C D p bt bf w.heap.size wc.heap.size) := by
      refine ⟨fun x hx => ?_, fun x hx => ?_, fun x hx => ?_, fun x hx => ?_, by omega, by omega, by omega, by omega, by omega, by omega, by omega⟩
      · have := HC.out x hx; omega
      · have := HC.out x hx; omega
      · have := HD.out x hx; omega
      · have := HD.out x hx; omega
    have qb := HBX.out.cell 0 rfl
    have zb := cell_lt qb
    have qg := HWX.out.h.cell 2 rfl
    have zg := cell_lt qg
    have qp := HSX.out.h.cell 11 (show (sesC e (.slice D q r))[11]? = some (.slice D q r) from rfl)
    have zp := cell_lt qp
    have HLD := Lib.hid (ses_load HSX.out.h)
    have HEV := Lib.hid (evC_size e)
    have HEO := Lib.hid (evC_one e)
    clear hF hT hne s1 s2 hb hw1 hbs hPZ hWS hT2 hF2 hby
    have HKB : Hid (∀ b cs, Has w b cs → w0.heap.size ≤ b → Off A b → Has (wc.alloc (.cells (evC e) 43)) b cs ∧ Off A b) := fun b cs hh h0 h1 => ⟨(HW0.out b cs hh).below (bel_on HBL.out (bel_alloc (Below.refl _ _) _)), h1⟩
    have HBB : Hid (w.heap.size ≤ bf ∧ w.heap.size ≤ bt ∧ w.heap.size ≤ wc.heap.size) := HBBl
    clear HBL HBBl HW0
    have eg : ∀ args w, (callFunc 130 args).run Tryz.prog w = .ok (.enter 130 args) w := enters_of Tryz.func130 (by kernel_rfl) rfl
    obtain ⟨be, hbe⟩ : ∃ be, Hid (wc.heap.size = be) := ⟨_, rfl⟩
    go_wp2_with (first | refine wpList_exec (o := ⟨some 35, _, _, _, _, _⟩) (by rfl) (exec_load_at _ rfl rfl HLD.out) ?_ | refine wpList_laid_e (evC e) 6 _ _ rfl rfl rfl rfl rfl rfl rfl rfl HEV.out HEO.out ?_)
    rw [hbe.out] at HER HEF HBB
    rw [hbe.out]
    generalize wc.alloc (.cells (evC e) 43) = wy at *
    clear qb zb qg zg qp zp HLD HBX HSX HWX hbe HWR HSS HBW HPT
    obtain ⟨bw, hbw⟩ : ∃ bw, Hid (w.heap.size = bw) := ⟨_, rfl⟩
    rw [hbw.out] at HER HEF HBB HA HC HD
    rw [hbw.out]
    go_loopg [45] q (fun kx s45 wr => ∃ (k n' c' : Nat) (A' : Option Addr) (S' : List SegP) (ak : Int) (ek : EvP), s45 = .int .i64 k ∧ k + kx = q ∧ Hid (EndR w0 wr g u cap p C m d F e D q r ins bt bf bw be last A' n' c' S' ak ek) ∧ Hid (S ++ partsG first last first e ins = S' ++ partsG first last ak ek (ins.drop k)) ∧ Hid (first ≤ ak ∧ ak ≤ last ∧ ∀ x ∈ ins.drop k, ak ≤ placeP first last x) ∧ Hid (∀ b cs, Has w b cs → w0.heap.size ≤ b → Off A b → Has wr b cs ∧ Off A' b))
    case atStart =>
      refine ⟨0, n, c, A, S, first, e, rfl, by omega, HER, Lib.hid (by rw [List.drop_zero]), Lib.hid ⟨Int.le_refl _, HFL.out, fun x hx => (place_bd HFL.out x).1⟩, HKB⟩
    case round =>
      clear HER
      obtain ⟨k, n', c', A', S', ak, ek, rfl, hk, HR, HE, HI, HKP⟩ := hrel
      have hn' : n' ≤ 1000 := by
        have h1 := congrArg List.length HE.out
        have h2 := sparts_len (first := first) (last := last) ins first e
        have h3 := HR.out.w.hn
        have h4 := HHQ.out
        rw [List.length_append, List.length_append, HSN.out] at h1
        omega
      replace hn' := Lib.hid hn'
      have qt := HR.out.t.cell 0 rfl
      have zt := cell_lt qt
      have qb := HR.out.b.cell 0 rfl
      have zb := cell_lt qb
      by_cases hlt : k < q
      · have HEs : Evs wr D q r ins := HR.out.s.r.evs HHQ.out
        obtain ⟨bd, od, rfl⟩ := HEs.form (by omega)
        obtain ⟨x, hx⟩ : ∃ x, ins.getD k EvP.none = x := ⟨_, rfl⟩
        have HDR : Hid (ins.drop k = x :: ins.drop (k + 1)) := by
          show _ = _
          have hl : k < ins.length := by rw [HHQ.out]; exact hlt
          rw [List.drop_eq_getElem_cons hl, ← hx]
          simp [List.getD, hl]
        have HLX : Hid ((loadVar 43 ⟨bd, od + k * 11, none⟩).run Tryz.prog wr = .ok (.agg (evC x)) wr) := by
          have := evs_load HEs (i := k) hlt
          rw [hx] at this
          exact this
        have i0 : (0 : Int) ≤ (k : Int) := by omega
        have i1 : (k : Int) < (q : Int) := by omega
        have HSZ := Lib.hid (evC_size x)
        have HSO := Lib.hid (evC_one x)
        obtain ⟨y, hy⟩ : ∃ y, min x.tm last = y := ⟨_, rfl⟩
        obtain ⟨z, hz⟩ : ∃ z, max ak y = z := ⟨_, rfl⟩
        have HPL : Hid (z = placeP first last x ∧ segI ak y ek = segI ak z ek) := by
          have h1 := HI.out.1
          have h2 := HI.out.2.1
          have h3 := HI.out.2.2 x (by rw [HDR.out]; simp)
          have e1 : placeP first last x = max first y := by unfold placeP; rw [hy]
          rw [e1] at h3 ⊢
          refine ⟨by omega, ?_⟩
          unfold segI
          by_cases q1 : ak < y
          · rw [if_pos q1, if_pos (by omega), show z = y by omega]
          · rw [if_neg q1, if_neg (by omega)]
        have HY := Lib.hid hy
        have HZ := Lib.hid hz
        have hba := bel_alloc (Below.refl wr.heap.size wr) (.cells (evC x) 43)
        have HRA := Lib.hid (HR.out.below hba)
        have HXA : Hid (Has (wr.alloc (.cells (evC x) 43)) wr.heap.size (evC x)) := Has.new wr _ _ rfl
        have qx := HXA.out.cell 2 (show (evC x)[2]? = some (.int .i64 x.tm) from rfl)
        have zx := cell_lt qx
        have HOF : Hid (w0.heap.size ≤ wr.heap.size ∧ wr.heap.size ≠ bf ∧ Off A' wr.heap.size) := by
          refine ⟨HR.out.w.size, fun h => ?_, fun a ha h => ?_⟩
          · have := HR.out.f.size; omega
          · have := (HR.out.w.a.lt a ha).2; omega
        obtain ⟨bx, hbx⟩ : ∃ bx, Hid (wr.heap.size = bx) := ⟨_, rfl⟩
        clear hy hz hba HEs
        go_wp2_with (first | refine wpList_exec (o := ⟨some 48, _, _, _, _, _⟩) (by rfl) (exec_load_at _ rfl rfl HLX.out) ?_ | refine wpList_laid_e (evC x) 9 _ _ rfl rfl rfl rfl rfl rfl rfl rfl HSZ.out HSO.out ?_)
        refine (upto_any HRA.out.w bt bf bw be last ak x.tm y ek HRA.out.t HRA.out.f HRA.out.b HRA.out.e HRA.out.lf HRA.out.lb HRA.out.le HEF.out.cf hn'.out HY.out z HZ.out).mono ?_
        rintro e_r w7 ⟨rfl, hgot⟩
        obtain ⟨A7, n7, c7, hR7, hkeep⟩ := HRA.out.seg HEF.out hgot
        have HX7 := Lib.hid (hkeep _ _ HXA.out HOF.out.1 HOF.out.2.1 HOF.out.2.2).1
        have HKP8 : Hid (∀ b cs, Has w b cs → w0.heap.size ≤ b → Off A b → Has (w7.setRow be (evC x)) b cs ∧ Off A7 b) := fun b cs hh h0 h1 => by
          obtain ⟨k1, k2⟩ := HKP.out b cs hh h0 h1
          have k3 := hh.size
          have k9 := hbw.out
          have k4 := HBB.out
          obtain ⟨k5, k6⟩ := hkeep b cs (k1.below (bel_alloc (Below.refl _ _) _)) h0 (by omega) k2
          exact ⟨has_setRow_far k5 (by omega), k6⟩
        have HR7 := Lib.hid hR7
        have HR8 := Lib.hid (hR7.next HEF.out x)
        have HB7 := Lib.hid hR7.e
        clear hgot hkeep hR7 qx zx qt zt qb zb HXA HRA
        rw [hbx.out] at HX7
        rw [hbx.out]
        clear hbx
        go_wp2_with (first | refine wpList_exec (o := ⟨some 53, _, _, _, _, _⟩) (by rfl) (exec_load_at _ rfl rfl (has_load_e HX7.out)) ?_ | refine wpList_store_e rfl _ _ rfl be (evC x) rfl rfl _ HB7.out rfl HSZ.out HSO.out ?_)
        go_roundg (q - (k + 1))
        case measure => omega
        case rel =>
          refine ⟨k + 1, n7, c7, A7, S' ++ segI ak y ek, z, x, by go_num, by omega, HR8, Lib.hid ?_, Lib.hid ?_, HKP8⟩
          · rw [HE.out, HDR.out, List.append_assoc, HPL.out.2, HPL.out.1]
            rfl
          · have h5 := place_bd HFL.out x
            rw [← HPL.out.1] at h5
            refine ⟨h5.1, h5.2, fun y2 hy2 => ?_⟩
            rw [HPL.out.1]
            refine place_mono ?_
            have hp := HRI.out
            have hp2 : (ins.drop k).Pairwise (fun a b => a.tm ≤ b.tm) := hp.sublist (List.drop_sublist _ _)
            rw [HDR.out, List.pairwise_cons] at hp2
            exact hp2.1 y2 hy2
      · obtain rfl : k = q := by omega
        have HDR : Hid (ins.drop k = []) := by show _ = _; rw [← HHQ.out]; exact List.drop_length
        have hz : max ak last = last := by have := HI.out.2.1; omega
        have HZ := Lib.hid hz
        clear hz
        go_wp2_with fail
        refine (upto_any HR.out.w bt bf bw be last ak last last ek HR.out.t HR.out.f HR.out.b HR.out.e HR.out.lf HR.out.lb HR.out.le HEF.out.cf hn'.out (by omega) last HZ.out).mono ?_
        rintro e_r w7 ⟨rfl, hgot⟩
        obtain ⟨A7, n7, c7, hR7, hkeep⟩ := HR.out.seg HEF.out hgot
        have HEND : Hid (GotEnd w0 w (w7.setCell ⟨g, 2, none⟩ (.pointer none)) g u cap A (S ++ partsG first last first e ins) C m d F) := by
          have hgl := hgB.out
          refine ⟨A7, n7, c7, ?_, fun b cs hh h0 h1 h2 => ?_⟩
          rotate_left
          · obtain ⟨k1, k2⟩ := HKP.out b cs hh h0 h1
            have k3 := hh.size
            have k9 := hbw.out
            have k4 := HBB.out
            obtain ⟨k5, k6⟩ := hkeep b cs k1 h0 (by omega) k2
            exact ⟨k5.far (show b ≠ g by omega) _, k6, h2⟩
          have hx := hR7.w.open (.pointer none)
          have e1 : S ++ partsG first last first e ins = S' ++ segI ak last ek := by rw [HE.out, HDR.out]; rfl
          rw [e1]
          exact hx
        have qb7 := hR7.b.cell 0 rfl
        have zb7 := cell_lt qb7
        have qg7 := hR7.w.h.cell 2 rfl
        have zg7 := cell_lt qg7
        have fg7 := hR7.w.h.frozen 2
        clear hgot hkeep hR7 qb zb qt zt
        go_wp2
        go_end0
        exact ⟨rfl, HEND.out⟩
end
end Go.Proofs.YtpgncbhahocmbaaGreat
