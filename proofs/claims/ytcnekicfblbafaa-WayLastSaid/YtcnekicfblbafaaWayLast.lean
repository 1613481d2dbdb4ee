/-
  The law WayLast, walked.
-/
import Derived.Test.YtcnekicfblbafaaWayF
namespace Go.Proofs.Ytcnekicfblbafaa
open Go.RowKit
set_option linter.unusedVariables false
set_option linter.unusedSimpArgs false
set_option maxRecDepth 20000

/-- The row that is made lies in block L, and holds o; what was there ahead of it is as it was. -/
structure LastI (w6 wr : World) (P : Nat) (o : List Int) : Prop where
  bel : Below w6.heap.size w6 wr
  row : wr.rowIs w6.heap.size 3 P (fun j => .int .i64 (o.getD j (-1)))
  len : o.length = P
section
variable {w6 wr w' : World} {P : Nat} {o : List Int}
theorem LastI.drewN (h : LastI w6 wr P o) (n : Nat) : LastI w6 (wr.drewN n) P o := ⟨⟨h.bel.os, h.bel.tape, h.bel.output, h.bel.size, h.bel.block⟩, h.row, h.len⟩
theorem LastI.drew (h : LastI w6 wr P o) : LastI w6 wr.drew P o := ⟨below_drew h.bel, h.row.drew, h.len⟩
theorem LastI.alloc (h : LastI w6 wr P o) (x : Obj) : LastI w6 (wr.alloc x) P o := ⟨bel_alloc h.bel _, h.row.alloc _, h.len⟩
theorem LastI.set (h : LastI w6 wr P o) {i : Nat} (hi : i < P) (v : Int) : LastI w6 (wr.setCell ⟨w6.heap.size, i, none⟩ (.int .i64 v)) P (o.set i v) := by
  refine ⟨bel_set h.bel (Nat.le_refl _) _, (h.row.set i _).congr fun j hj => ?_, by rw [List.length_set]; exact h.len⟩
  rw [getD_set]
  by_cases e : j = i
  · subst e
    rw [if_pos rfl, if_pos ⟨rfl, by rw [h.len]; exact hi⟩]
  · rw [if_neg e, if_neg (fun q => e q.1.symm)]
theorem LastI.same (h : LastI w6 wr P o) {o' : List Int} (hl : o'.length = P) (e : ∀ j, j < P → o'.getD j (-1) = o.getD j (-1)) : LastI w6 wr P o' := ⟨h.bel, h.row.congr fun j hj => by rw [e j hj], hl⟩
end
/-- What the regions of a round read, and no store of theirs turns. -/
structure LastS (w6 : World) (p Lw P : Nat) (gs : Nat → Nat) (E : List Edge) (A B M : Nat) (w : World) : Prop where
  way : Has w Lw #[.int .i64 A, .int .i64 B, .int .i64 M]
  row : w.rowIs (gs p) 3 P (fun j => .int .i64 (distI E p j))
theorem LastS.at {w6 : World} {p Lw P : Nat} {gs : Nat → Nat} {E : List Edge} {A B M : Nat} {w : World} (h : LastS w6 p Lw P gs E A B M w) {b : Nat} (hb : b < P) : w.cell? ⟨gs p, b, none⟩ = some (.int .i64 (distI E p b)) := h.row.cell hb
theorem LastS.drew {w6 : World} {p Lw P : Nat} {gs : Nat → Nat} {E : List Edge} {A B M : Nat} {w : World} (h : LastS w6 p Lw P gs E A B M w) : LastS w6 p Lw P gs E A B M w.drew := ⟨h.way.drew, h.row.drew⟩
theorem LastS.drewN {w6 : World} {p Lw P : Nat} {gs : Nat → Nat} {E : List Edge} {A B M : Nat} {w : World} (h : LastS w6 p Lw P gs E A B M w) (n : Nat) : LastS w6 p Lw P gs E A B M (w.drewN n) := ⟨h.way.drewN n, h.row⟩
theorem LastS.set {w6 : World} {p Lw P : Nat} {gs : Nat → Nat} {E : List Edge} {A B M : Nat} {w : World} (h : LastS w6 p Lw P gs E A B M w) (h1 : Lw ≠ w6.heap.size) (h2 : gs p ≠ w6.heap.size) (i : Nat) (v : Value) : LastS w6 p Lw P gs E A B M (w.setCell ⟨w6.heap.size, i, none⟩ v) :=
  ⟨h.way.far h1 v, h.row.setOther h2 v⟩
/-- One half of a round: what is stored, or not. -/
def halfE (row o : List Int) (b c m : Nat) : List Int := o.set c (shortI (o.getD c (-1)) (longI (row.getD b (-1)) m))
theorem last_halves (row o : List Int) (A B M : Nat) : lastE row o (A, B, M) = halfE row (halfE row o A B M) B A M := rfl
theorem half_none {row o : List Int} {b c m : Nat} {x y : Int} (hx : row.getD b (-1) = x) (hy : o.getD c (-1) = y) (hx1 : -1 ≤ x) (hy1 : -1 ≤ y) (h : ¬ (0 ≤ x ∧ (y < 0 ∨ x + m < y))) : ∀ j, (halfE row o b c m).getD j (-1) = o.getD j (-1) := by
  intro j
  unfold halfE
  rw [getD_set]
  split
  · rename_i e
    obtain ⟨rfl, _⟩ := e
    rw [hx, hy]
    unfold shortI longI
    by_cases h0 : x < 0
    · rw [if_pos h0]
      split <;> omega
    · rw [if_neg h0]
      rw [if_neg (by omega)]
  · rfl
theorem half_some {row o : List Int} {b c m : Nat} {x y : Int} (hx : row.getD b (-1) = x) (hy : o.getD c (-1) = y) (h : 0 ≤ x ∧ (y < 0 ∨ x + m < y)) : halfE row o b c m = o.set c (x + m) := by
  unfold halfE
  rw [hx, hy]
  congr 1
  unfold shortI longI
  rw [if_neg (show ¬ x < 0 by omega), if_pos (by omega)]
theorem half_sound {E : List Edge} {a b c m : Nat} {row o : List Int} (hr : Sound E a row) (ho : Sound E a o) (j : Joined E b c m) : Sound E a (halfE row o b c m) := set_sound ho (short_sound (ho c) (long_sound (hr b) j))
theorem Sound.ge {E : List Edge} {a : Nat} {o : List Int} (h : Sound E a o) (b : Nat) : -1 ≤ o.getD b (-1) := by
  rcases h b with e | ⟨n, e, _⟩ <;> omega
theorem half_len (row o : List Int) (b c m : Nat) : (halfE row o b c m).length = o.length := List.length_set
/-- The row, behind the first i ways. -/
noncomputable def lastN (E : List Edge) (P p i : Nat) : List Int := (E.take i).foldl (lastE ((List.range P).map (distI E p))) (startL P p)
theorem lastN_succ {E : List Edge} {P p i A B M : Nat} (h : E[i]? = some (A, B, M)) : lastN E P p (i + 1) = halfE ((List.range P).map (distI E p)) (halfE ((List.range P).map (distI E p)) (lastN E P p i) A B M) B A M := by
  unfold lastN
  rw [List.take_add_one, h, Option.toList_some, List.foldl_append]
  exact last_halves _ _ _ _ _
theorem lastN_sound (E : List Edge) (P p i : Nat) : Sound E p (lastN E P p i) := lasts_sound (row_sound (P := P) rfl) _ _ (fun e he => List.mem_of_mem_take he) (start_sound E P p)
theorem lastN_len (E : List Edge) (P p : Nat) : ∀ i, (lastN E P p i).length = P := by
  intro i
  have : ∀ (F : List Edge) (o : List Int), (F.foldl (lastE ((List.range P).map (distI E p))) o).length = o.length := by
    intro F
    induction F with
    | nil => intro o; rfl
    | cons e F ih => intro o; show (F.foldl _ (lastE _ o e)).length = _; rw [ih, last_len]
  unfold lastN
  rw [this, start_len]
theorem lastN_all {E : List Edge} {P p n : Nat} (hE : Longs E) (hP : Among P E) (hp : p < P) (hn : E.length = n) : lastN E P p n = (List.range P).map (distI E p) := by
  subst hn
  unfold lastN
  rw [List.take_length]
  exact last_dist hE hP hp rfl
theorem rowN_get {E : List Edge} {P p b : Nat} (hb : b < P) : ((List.range P).map (distI E p)).getD b (-1) = distI E p b := by simp [List.getD, hb]
theorem startL_get (P p j : Nat) (hj : j < P) : (startL P p).getD j (-1) = if j = p then 0 else -1 := by
  unfold startL
  rw [getD_set]
  by_cases e : p = j
  · subst e
    rw [if_pos ⟨rfl, by simpa using hj⟩, if_pos rfl]
  · rw [if_neg (fun q => e q.1), if_neg (fun q => e q.symm)]
    simp [List.getD, hj]
set_option maxHeartbeats 4000000 in
theorem wayLast_few {w : World} {s : SetP} {cs : Array Value} (h : SetC w s cs) (hF : ¬ s.Few) (k : Nat) (hk : k ≤ 255) :
    Calls Try.prog 6 #[.agg cs, .int .u8 k] w fun e w' => e = .returned (.bool true) ∧ Below w.heap.size w w' := by
  have HZ := Lib.hid h.size
  have HS := Lib.hid h
  have HF := Lib.hid (decide_eq_false hF)
  clear h hF
  go_enter Try.func6, Try.ntmps6
  go_wp2_with fail
  refine (awake9 _).mono ?_
  rintro e w1 ⟨rfl, b1⟩
  have HB := Lib.hid ((Has.new w 30 cs rfl).below b1)
  replace b1 := bel_on (bel_alloc (Below.refl _ _) _) b1
  replace HS := Lib.hid (HS.out.below b1)
  have HBW := Lib.hid b1
  clear b1
  go_upto_region 2 with fail
  refine wp_region_lit ?_
  refine wpList_load_sg (by rfl) _ rfl w.heap.size rfl cs HB.out HZ.out ?_
  (try simp only [Act.put, List.setIfInBounds_toArray, List.set_cons_zero, List.set_cons_succ])
  refine wpList_step (fun K hK => ?_)
  go_simp
  go_at_call 9
  refine (few_c HS.out _ HF.out).mono ?_
  rintro e_r w2 ⟨rfl, b_⟩
  replace HBW := Lib.hid (bel_on HBW.out b_)
  clear b_
  refine hK _ _ ?_
  clear hK K
  (try simp only [Act.put, List.setIfInBounds_toArray, List.set_cons_zero, List.set_cons_succ])
  go_wp2
  go_ret
  exact ⟨rfl, HBW.out⟩
set_option maxHeartbeats 4000000 in
theorem wayLast_may {w : World} {s : SetP} {cs : Array Value} (h : SetC w s cs) (hf : s.Fit) (hF : s.Few) (hM : ¬ s.May) (k : Nat) (hk : k ≤ 255) :
    Calls Try.prog 6 #[.agg cs, .int .u8 k] w fun e w' => e = .returned (.bool true) ∧ Below w.heap.size w w' := by
  have HZ := Lib.hid h.size
  have HS := Lib.hid h
  have HF := Lib.hid (decide_eq_true hF)
  have HM := Lib.hid (check_no hM)
  clear h hF hM
  go_enter Try.func6, Try.ntmps6
  go_wp2_with fail
  refine (awake9 _).mono ?_
  rintro e w1 ⟨rfl, b1⟩
  have HB := Lib.hid ((Has.new w 30 cs rfl).below b1)
  replace b1 := bel_on (bel_alloc (Below.refl _ _) _) b1
  replace HS := Lib.hid (HS.out.below b1)
  have HBW := Lib.hid b1
  clear b1
  go_upto_region 2 with fail
  refine wp_region_lit ?_
  refine wpList_load_sg (by rfl) _ rfl w.heap.size rfl cs HB.out HZ.out ?_
  (try simp only [Act.put, List.setIfInBounds_toArray, List.set_cons_zero, List.set_cons_succ])
  refine wpList_step (fun K hK => ?_)
  go_simp
  go_at_call 9
  refine (few_c HS.out _ HF.out).mono ?_
  rintro e_r w2 ⟨rfl, b_⟩
  replace HS := Lib.hid (HS.out.below b_)
  replace HB := Lib.hid (HB.out.below b_)
  replace HBW := Lib.hid (bel_on HBW.out b_)
  clear b_
  refine hK _ _ ?_
  clear hK K
  (try simp only [Act.put, List.setIfInBounds_toArray, List.set_cons_zero, List.set_cons_succ])
  iterate 2 (refine wpList_step (fun K hK => ?_); go_simp; refine hK _ _ ?_; clear hK K; (try simp only [Act.put, List.setIfInBounds_toArray, List.set_cons_zero, List.set_cons_succ]))
  refine wpList_load_sg (by rfl) _ rfl w.heap.size rfl cs HB.out HZ.out ?_
  (try simp only [Act.put, List.setIfInBounds_toArray, List.set_cons_zero, List.set_cons_succ])
  refine wpList_step (fun K hK => ?_)
  go_simp
  go_at_call 15
  refine (scheck_c HS.out hf _ HM.out).mono ?_
  rintro e_r w3 ⟨rfl, b_⟩
  replace HS := Lib.hid (HS.out.below b_)
  replace HB := Lib.hid (HB.out.below b_)
  replace HBW := Lib.hid (bel_on HBW.out b_)
  clear b_
  refine hK _ _ ?_
  clear hK K
  (try simp only [Act.put, List.setIfInBounds_toArray, List.set_cons_zero, List.set_cons_succ])
  go_wp2
  go_ret
  exact ⟨rfl, HBW.out⟩
set_option maxHeartbeats 8000000 in
theorem wayLast_main {w : World} {s : SetP} {cs : Array Value} (h : SetC w s cs) (hf : s.Fit) (hF : s.Few) (hM : s.May) (k : Nat) (hk : k ≤ 255) :
    Calls Try.prog 6 #[.agg cs, .int .u8 k] w fun e w' => e = .returned (.bool true) ∧ Below w.heap.size w w' := by
  have HZ := Lib.hid h.size
  have HS := Lib.hid h
  have HF := Lib.hid (decide_eq_true hF)
  have HM := Lib.hid (check_iff.2 hM)
  obtain ⟨P, hP⟩ : ∃ P : Nat, s.places = P := ⟨s.places.toNat, by have := hM.places; omega⟩
  obtain ⟨W, hW⟩ : ∃ W, s.ways.length = W := ⟨_, rfl⟩
  obtain ⟨E, hE⟩ : ∃ E, edgesOf s.ways = E := ⟨_, rfl⟩
  have cT := Lib.hid (fun wx (hs : SetC wx s cs) => wtable_may hs hf hM P hP E hE)
  obtain ⟨hp1, hp2⟩ := hM.places
  rw [hP] at hp1 hp2
  have hW6 : W ≤ 64 := by rw [← hW]; exact hM.ways.1
  have HEL : Hid (E.length = W) := by show _ = _; rw [← hE, ← hW]; simp [edgesOf]
  have HEA : Hid (Among P E) := by rw [← hE]; exact edges_among hP hM.ways.2
  have HEO : Hid (Longs E) := by rw [← hE]; exact edges_long hM.ways.2
  have HES : Hid (∀ e ∈ E, e.2.2 ≤ 10000) := by rw [← hE]; exact edges_small hM.ways.2
  have HEG : Hid (∀ i, i < W → ∃ A B M : Nat, E[i]? = some (A, B, M) ∧ (s.ways.getD i []).getD 0 0 = A ∧ (s.ways.getD i []).getD 1 0 = B ∧ (s.ways.getD i []).getD 2 0 = M ∧ (A : Int) < s.places ∧ (B : Int) < s.places ∧ A ≠ B ∧ 1 ≤ M ∧ M ≤ 10000) := by
    intro i hi
    rw [← hE]
    exact edges_get (by omega) hM.ways.2
  obtain ⟨A1, c1, g0, g1, hT1⟩ := setC_first h
  rw [hW] at g1 hT1
  rw [hP] at g0 HEG
  have HT1 := Lib.hid hT1
  have HG := Lib.hid (And.intro g0 g1)
  clear h hF hM hE hT1 g0 g1
  go_enter Try.func6, Try.ntmps6
  go_wp2_with fail
  refine (awake9 _).mono ?_
  rintro e w1 ⟨rfl, b1⟩
  have HB := Lib.hid ((Has.new w 30 cs rfl).below b1)
  replace b1 := bel_on (bel_alloc (Below.refl _ _) _) b1
  replace HS := Lib.hid (HS.out.below b1)
  have HBW := Lib.hid b1
  replace HT1 := Lib.hid (HT1.out.below b1)
  clear b1
  go_upto_region 2 with fail
  refine wp_region_lit ?_
  refine wpList_load_sg (by rfl) _ rfl w.heap.size rfl cs HB.out HZ.out ?_
  (try simp only [Act.put, List.setIfInBounds_toArray, List.set_cons_zero, List.set_cons_succ])
  refine wpList_step (fun K hK => ?_)
  go_simp
  go_at_call 9
  refine (few_c HS.out _ HF.out).mono ?_
  rintro e_r w2 ⟨rfl, b_⟩
  replace HT1 := Lib.hid (HT1.out.below b_)
  replace HS := Lib.hid (HS.out.below b_)
  replace HB := Lib.hid (HB.out.below b_)
  replace HBW := Lib.hid (bel_on HBW.out b_)
  clear b_
  refine hK _ _ ?_
  clear hK K
  (try simp only [Act.put, List.setIfInBounds_toArray, List.set_cons_zero, List.set_cons_succ])
  iterate 2 (refine wpList_step (fun K hK => ?_); go_simp; refine hK _ _ ?_; clear hK K; (try simp only [Act.put, List.setIfInBounds_toArray, List.set_cons_zero, List.set_cons_succ]))
  refine wpList_load_sg (by rfl) _ rfl w.heap.size rfl cs HB.out HZ.out ?_
  (try simp only [Act.put, List.setIfInBounds_toArray, List.set_cons_zero, List.set_cons_succ])
  refine wpList_step (fun K hK => ?_)
  go_simp
  go_at_call 15
  refine (scheck_c HS.out hf _ HM.out).mono ?_
  rintro e_r w3 ⟨rfl, b_⟩
  replace HT1 := Lib.hid (HT1.out.below b_)
  replace HS := Lib.hid (HS.out.below b_)
  replace HB := Lib.hid (HB.out.below b_)
  replace HBW := Lib.hid (bel_on HBW.out b_)
  clear b_
  refine hK _ _ ?_
  clear hK K
  (try simp only [Act.put, List.setIfInBounds_toArray, List.set_cons_zero, List.set_cons_succ])
  go_wp2_with (refine wpList_load_has (by rfl) _ rfl w.heap.size rfl cs HB.out HZ.out ?_)
  refine (cT.out _ HS.out).mono ?_
  rintro e w5 ⟨G, rfl, hG, ⟨gs, hgs, hTM⟩, b_⟩
  replace HT1 := Lib.hid (HT1.out.below b_)
  replace HB := Lib.hid (HB.out.below b_)
  replace HBW := Lib.hid (bel_on HBW.out b_)
  have HTM := Lib.hid hTM
  have hNG := HB.out.size
  clear b_ hG hgs hTM HS HZ HF HM cT hf
  have q0 := HB.out.cell 0 HG.out.1
  have HX : Hid (∀ a b, -1 ≤ distI E a b ∧ distI E a b ≤ 1010000) := dist_le64 HEO.out HES.out HEL.out (by omega)
  have info : (Try.prog.info? 3).map (fun i => (i.zero, i.size, i.bytes)) = some (some (.int .i64 0), 1, 8) := int_info
  have hmk := run_make_row' (P := Try.prog) 27 3 (.int .i64 0) 8 Try.underlying27 info rfl .i64 .i64 P (by omega) (by omega)
  clear info HES
  obtain ⟨p, hp⟩ : ∃ p, k % P = p := ⟨_, rfl⟩
  have hpP : p < P := by rw [← hp]; exact Nat.mod_lt _ (by omega)
  have hrem : (k : Int).tmod (P : Int) = (p : Int) := by rw [← hp]; rfl
  have hwk : IntKind.i64.wrap (k : Int) = k := by rw [IntKind.wrap_i64]; omega
  have hwp : IntKind.i64.wrap (p : Int) = p := by rw [IntKind.wrap_i64]; omega
  have hpP' : (p : Int) < (P : Int) := by omega
  clear hp
  go_wp2_with fail
  refine (square_c G P gs (distI E) _ HTM.out (by omega)).mono ?_
  rintro e w6 ⟨rfl, b_⟩
  replace HTM := Lib.hid (HTM.out.below b_)
  replace HBW := Lib.hid (bel_on HBW.out b_)
  replace HB := Lib.hid (HB.out.below b_)
  replace HT1 := Lib.hid (HT1.out.below b_)
  clear b_ q0 hNG
  have hNG := HB.out.size
  have k1 := HTM.out.ptr hpP
  have hk1 := cell_lt k1
  have hsp := HTM.out.rsize hpP
  go_wp2
  clear k1 hk1 hmk
  have H0 : Hid (Below w6.heap.size w6 (w6.alloc (.cells (madeCells #[.int .i64 0] P) 3)) ∧ (w6.alloc (.cells (madeCells #[.int .i64 0] P) 3)).rowIs w6.heap.size 3 P (fun j => .int .i64 (if j < 0 then (startL P p).getD j (-1) else 0))) :=
    ⟨bel_alloc (Below.refl _ _) _, (World.rowIs_made w6 (.int .i64 0) P 3).congr fun j hj => by simp⟩
  go_loopw [9] (fun s9 wr => ∃ b : Nat, b ≤ P ∧ s9 = .int .i64 b ∧ Hid (Below w6.heap.size w6 wr ∧ wr.rowIs w6.heap.size 3 P (fun j => .int .i64 (if j < b then (startL P p).getD j (-1) else 0)))) (fun s9 _ => P - (intOf s9).toNat)
  case atStart => exact ⟨0, by omega, rfl, H0⟩
  case round =>
    clear H0
    obtain ⟨b, hb, rfl, hI⟩ := hrel
    by_cases hlt : b < P
    · have hlt' : (b : Int) < (P : Int) := by omega
      have c1 := hI.out.2.cell hlt
      rw [if_neg (Nat.lt_irrefl b)] at c1
      have f1 := hI.out.2.frozen b
      have hc1 := cell_lt c1
      have c2 : (wr.setCell ⟨w6.heap.size, b, none⟩ (.int .i64 (-1))).cell? ⟨w6.heap.size, b, none⟩ = some (.int .i64 (-1)) := by
        rw [(hI.out.2.set b _).cell hlt]
        simp
      have f2 := (hI.out.2.set b (.int .i64 (-1))).frozen b
      by_cases hbp : b = p
      · subst hbp
        have HN : Hid (Below w6.heap.size w6 ((wr.setCell ⟨w6.heap.size, b, none⟩ (.int .i64 (-1))).setCell ⟨w6.heap.size, b, none⟩ (.int .i64 0)) ∧ ((wr.setCell ⟨w6.heap.size, b, none⟩ (.int .i64 (-1))).setCell ⟨w6.heap.size, b, none⟩ (.int .i64 0)).rowIs w6.heap.size 3 P (fun j => .int .i64 (if j < b + 1 then (startL P b).getD j (-1) else 0))) := by
          refine ⟨bel_set (bel_set hI.out.1 (Nat.le_refl _) _) (Nat.le_refl _) _, ((hI.out.2.set b _).set b _).congr fun j hj => ?_⟩
          by_cases e : j = b
          · subst e
            rw [if_pos rfl, if_pos (by omega), startL_get P j j hj, if_pos rfl]
          · rw [if_neg e, if_neg e]
            by_cases e2 : j < b
            · rw [if_pos e2, if_pos (by omega)]
            · rw [if_neg e2, if_neg (by omega)]
        clear hI
        go_wp2
        go_roundw
        case rel => exact ⟨b + 1, by omega, by go_num, HN⟩
        case measure => simp [intOf]; omega
      · have HN : Hid (Below w6.heap.size w6 (wr.setCell ⟨w6.heap.size, b, none⟩ (.int .i64 (-1))) ∧ (wr.setCell ⟨w6.heap.size, b, none⟩ (.int .i64 (-1))).rowIs w6.heap.size 3 P (fun j => .int .i64 (if j < b + 1 then (startL P p).getD j (-1) else 0))) := by
          refine ⟨bel_set hI.out.1 (Nat.le_refl _) _, (hI.out.2.set b _).congr fun j hj => ?_⟩
          by_cases e : j = b
          · subst e
            rw [if_pos rfl, if_pos (by omega), startL_get P p j hj, if_neg hbp]
          · rw [if_neg e]
            by_cases e2 : j < b
            · rw [if_pos e2, if_pos (by omega)]
            · rw [if_neg e2, if_neg (by omega)]
        have hbp' : ¬ (b : Int) = (p : Int) := by omega
        have hbp2 : ((b : Int) == (p : Int)) = false := by simpa using hbp'
        clear hI c2 f2
        go_wp2
        go_roundw
        case rel => exact ⟨b + 1, by omega, by go_num, HN⟩
        case measure => simp [intOf]; omega
    · have hlt' : ¬ (b : Int) < (P : Int) := by omega
      obtain rfl : b = P := by omega
      have hI0 : Hid (LastI w6 wr b (lastN E b p 0)) := ⟨hI.out.1, hI.out.2.congr fun j hj => by rw [if_pos hj]; rfl, lastN_len E b p 0⟩
      have q1 := (hI.out.1.cell (p := ⟨w.heap.size, 1, none⟩) (by exact hNG)).trans (HB.out.cell 1 HG.out.2)
      clear hI
      go_wp2
      clear q1
      go_loopw [10] (fun s10 wr => ∃ i : Nat, i ≤ W ∧ s10 = .int .i64 i ∧ Hid (LastI w6 wr b (lastN E b p i))) (fun s10 _ => W - (intOf s10).toNat)
      case atStart => exact ⟨0, by omega, rfl, hI0⟩
      case round =>
        clear hI0
        obtain ⟨i, hi, rfl, hI⟩ := hrel
        have q1 := (hI.out.bel.cell (p := ⟨w.heap.size, 1, none⟩) (by exact hNG)).trans (HB.out.cell 1 HG.out.2)
        have hq1 := cell_lt q1
        by_cases hlt2 : i < W
        · have hlt2' : (i : Int) < (W : Int) := by omega
          obtain ⟨A, B, M, he, e0, e1, e2, hA, hB, hAB, hM1, hM2⟩ := HEG.out i hlt2
          obtain ⟨bb, oo, rfl⟩ := HT1.out.form (by decide) (by omega)
          have z0 := ((HT1.out.below hI.out.bel).cell (i := i) (j := 0) hlt2 (by decide))
          have z1 := ((HT1.out.below hI.out.bel).cell (i := i) (j := 1) hlt2 (by decide))
          have z2 := ((HT1.out.below hI.out.bel).cell (i := i) (j := 2) hlt2 (by decide))
          rw [e0] at z0
          rw [e1] at z1
          rw [e2] at z2
          simp only [Nat.add_zero] at z0
          have hsz := cell_lt z0
          have HJ : Hid (Joined E A B M) := .inl (List.mem_of_getElem? he)
          have HNX := Lib.hid (lastN_succ (P := b) (p := p) he)
          have HSO := Lib.hid (lastN_sound E b p i)
          have HLI := Lib.hid (hI.out.alloc (.cells #[.int .i64 A, .int .i64 B, .int .i64 M] 39))
          have hrs := hI.out.row.lt
          have HSS : Hid (LastS w6 p wr.heap.size b gs E A B M (wr.alloc (.cells #[.int .i64 A, .int .i64 B, .int .i64 M] 39))) := ⟨Has.new _ _ _ rfl, (HTM.out.below hI.out.bel |>.row p hpP).alloc _⟩
          clear e0 e1 e2 he hAB hI
          generalize lastN E b p i = o at *
          go_upto_region 19 with fail
          clear z0 z1 z2 hsz q1 hq1
          obtain ⟨x, hx⟩ : ∃ x, distI E p A = x := ⟨_, rfl⟩
          obtain ⟨y, hy⟩ : ∃ y, o.getD B (-1) = y := ⟨_, rfl⟩
          have hxb := HX.out p A
          rw [hx] at hxb
          have hyb := HSO.out.ge B
          rw [hy] at hyb
          go_cut [101] (fun v wx => v = .bool (decide (0 ≤ x ∧ (y < 0 ∨ x + M < y))) ∧ Hid (LastI w6 wx b o ∧ LastS w6 p wr.heap.size b gs E A B M wx))
          case first =>
            have kx := HSS.out.at (b := A) (by omega)
            have ky := HLI.out.row.cell (i := B) (by omega)
            rw [hx] at kx
            rw [hy] at ky
            have v0 := HSS.out.way.cell 0 rfl
            have v1 := HSS.out.way.cell 1 rfl
            have v2 := HSS.out.way.cell 2 rfl
            have hkx := cell_lt kx
            have hky := cell_lt ky
            have hv0 := cell_lt v0
            have HN := Lib.hid (fun n => And.intro (HLI.out.drewN n) (HSS.out.drewN n))
            clear HLI HSS hx hy
            by_cases hx0 : x = -1
            · subst hx0
              go_quiet (fail)
              go_wp2_with fail
              go_meet
              exact ⟨by simp, HN.out _⟩
            · have hx1 : 0 ≤ x := by omega
              by_cases hy0 : y = -1
              · subst hy0
                go_quiet (fail)
                go_wp2_with fail
                go_meet
                exact ⟨by simp [hx1], HN.out _⟩
              · have hy1 : 0 ≤ y := by omega
                have hy2 : decide (y < 0) = false := decide_eq_false (by omega)
                have hy3 : ¬ y < 0 := by omega
                have hwr : IntKind.i64.wrap (x + (M : Int)) = x + M := by rw [IntKind.wrap_i64]; omega
                go_quiet (fail)
                go_wp2_with fail
                go_meet
                exact ⟨by simp [hx1, hy3]; exact fun q => by omega, HN.out _⟩
          case rest =>
            obtain ⟨rfl, hcu⟩ := hcut
            have HLI := Lib.hid hcu.out.1
            have HSS := Lib.hid hcu.out.2
            clear hcu
            go_upto_if 101 with fail
            go_cut [] (fun wx => Hid (LastI w6 wx b (halfE ((List.range b).map (distI E p)) o A B M) ∧ LastS w6 p wr.heap.size b gs E A B M wx))
            case first =>
              by_cases hc : 0 ≤ x ∧ (y < 0 ∨ x + M < y)
              · have hck : decide (0 ≤ x ∧ (y < 0 ∨ x + M < y)) = true := decide_eq_true hc
                rw [hck]
                have HI2 : Hid (LastI w6 (wc.setCell ⟨w6.heap.size, B, none⟩ (.int .i64 (x + M))).drew b (halfE ((List.range b).map (distI E p)) o A B M)) := by
                  rw [half_some (by rw [rowN_get (by omega)]; exact hx) hy hc]
                  exact (HLI.out.set (by omega) _).drew
                have hLw : wr.heap.size ≠ w6.heap.size := by have := hrs; omega
                have hgp : gs p ≠ w6.heap.size := by omega
                have HS1 := Lib.hid ((HSS.out.set hLw hgp B (.int .i64 (x + M))).drew)
                have ky := HLI.out.row.cell (i := B) (by omega)
                have kf := HLI.out.row.frozen B
                have hky := cell_lt ky
                have hwr : IntKind.i64.wrap (x + (M : Int)) = x + M := by rw [IntKind.wrap_i64]; omega
                clear hc hck HLI
                go_wp2_with fail
                refine wp_region_noPanic ?_
                refine wp_region_held_drew (S := LastS w6 p wr.heap.size b gs E A B M) (by kernel_rfl) (HSS.out.drew) (fun hHeld => ?_)
                refine wpAnyH_take (i := 0) (oi := ⟨some 102, _, _, _, _, _⟩) (v := ?_) rfl (by kernel_rfl) (by kernel_rfl) (by kernel_rfl) (fun _ _ _ h => h) (Or.inl ⟨by rfl, ?_⟩) hHeld ?_
                rotate_left
                · intro ww hSw
                  (try dsimp only at hSw)
                  go_simp
                  (try with_reducible rfl)
                simp only [Act.put, List.setIfInBounds_toArray, List.set_cons_zero, List.set_cons_succ]
                refine wpAnyH_take (i := 1) (oi := ⟨some 103, _, _, _, _, _⟩) (v := ?_) rfl (by kernel_rfl) (by kernel_rfl) (by kernel_rfl) (fun _ _ _ h => h) (Or.inl ⟨by rfl, ?_⟩) hHeld ?_
                rotate_left
                · intro ww hSw
                  (try dsimp only at hSw)
                  go_simp
                  (try with_reducible rfl)
                simp only [Act.put, List.setIfInBounds_toArray, List.set_cons_zero, List.set_cons_succ]
                refine wpAnyH_take (i := 2) (oi := ⟨some 104, _, _, _, _, _⟩) (v := .int .i64 B) rfl (by kernel_rfl) (by kernel_rfl) (by kernel_rfl) (fun _ _ _ h => h) (Or.inl ⟨by rfl, ?_⟩) hHeld ?_
                · intro ww hSw
                  (try dsimp only at hSw)
                  have c_ := hSw.way.cell 1 rfl
                  have cl_ := cell_lt c_
                  go_simp
                simp only [Act.put, List.setIfInBounds_toArray, List.set_cons_zero, List.set_cons_succ]
                refine wpAnyH_take (i := 3) (oi := ⟨some 105, _, _, _, _, _⟩) (v := ?_) rfl (by kernel_rfl) (by kernel_rfl) (by kernel_rfl) (fun _ _ _ h => h) (Or.inl ⟨by rfl, ?_⟩) hHeld ?_
                rotate_left
                · intro ww hSw
                  (try dsimp only at hSw)
                  go_simp
                  (try with_reducible rfl)
                simp only [Act.put, List.setIfInBounds_toArray, List.set_cons_zero, List.set_cons_succ]
                refine wpAnyH_take (i := 4) (oi := ⟨some 106, _, _, _, _, _⟩) (v := ?_) rfl (by kernel_rfl) (by kernel_rfl) (by kernel_rfl) (fun _ _ _ h => h) (Or.inl ⟨by rfl, ?_⟩) hHeld ?_
                rotate_left
                · intro ww hSw
                  (try dsimp only at hSw)
                  go_simp
                  (try with_reducible rfl)
                simp only [Act.put, List.setIfInBounds_toArray, List.set_cons_zero, List.set_cons_succ]
                refine wpAnyH_take (i := 5) (oi := ⟨some 107, _, _, _, _, _⟩) (v := .int .i64 A) rfl (by kernel_rfl) (by kernel_rfl) (by kernel_rfl) (fun _ _ _ h => h) (Or.inl ⟨by rfl, ?_⟩) hHeld ?_
                · intro ww hSw
                  (try dsimp only at hSw)
                  have c_ := hSw.way.cell 0 rfl
                  have cl_ := cell_lt c_
                  go_simp
                simp only [Act.put, List.setIfInBounds_toArray, List.set_cons_zero, List.set_cons_succ]
                refine wpAnyH_take (i := 6) (oi := ⟨some 108, _, _, _, _, _⟩) (v := ?_) rfl (by kernel_rfl) (by kernel_rfl) (by kernel_rfl) (fun _ _ _ h => h) (Or.inl ⟨by rfl, ?_⟩) hHeld ?_
                rotate_left
                · intro ww hSw
                  (try dsimp only at hSw)
                  go_simp
                  (try with_reducible rfl)
                simp only [Act.put, List.setIfInBounds_toArray, List.set_cons_zero, List.set_cons_succ]
                refine wpAnyH_take (i := 7) (oi := ⟨some 109, _, _, _, _, _⟩) (v := .int .i64 x) rfl (by kernel_rfl) (by kernel_rfl) (by kernel_rfl) (fun _ _ _ h => h) (Or.inl ⟨by rfl, ?_⟩) hHeld ?_
                · intro ww hSw
                  (try dsimp only at hSw)
                  have c_ := (hSw.at (b := A) (by omega)).trans (by rw [hx])
                  have cl_ := cell_lt c_
                  go_simp
                simp only [Act.put, List.setIfInBounds_toArray, List.set_cons_zero, List.set_cons_succ]
                refine wpAnyH_take (i := 8) (oi := ⟨some 110, _, _, _, _, _⟩) (v := ?_) rfl (by kernel_rfl) (by kernel_rfl) (by kernel_rfl) (fun _ _ _ h => h) (Or.inl ⟨by rfl, ?_⟩) hHeld ?_
                rotate_left
                · intro ww hSw
                  (try dsimp only at hSw)
                  go_simp
                  (try with_reducible rfl)
                simp only [Act.put, List.setIfInBounds_toArray, List.set_cons_zero, List.set_cons_succ]
                refine wpAnyH_take (i := 9) (oi := ⟨some 111, _, _, _, _, _⟩) (v := .int .i64 M) rfl (by kernel_rfl) (by kernel_rfl) (by kernel_rfl) (fun _ _ _ h => h) (Or.inl ⟨by rfl, ?_⟩) hHeld ?_
                · intro ww hSw
                  (try dsimp only at hSw)
                  have c_ := hSw.way.cell 2 rfl
                  have cl_ := cell_lt c_
                  go_simp
                simp only [Act.put, List.setIfInBounds_toArray, List.set_cons_zero, List.set_cons_succ]
                refine wpAnyH_take (i := 10) (oi := ⟨some 112, _, _, _, _, _⟩) (v := ?_) rfl (by kernel_rfl) (by kernel_rfl) (by kernel_rfl) (fun _ _ _ h => h) (Or.inl ⟨by rfl, ?_⟩) hHeld ?_
                rotate_left
                · intro ww hSw
                  (try dsimp only at hSw)
                  go_simp
                  (try with_reducible rfl)
                simp only [Act.put, List.setIfInBounds_toArray, List.set_cons_zero, List.set_cons_succ]
                refine wpAnyH_take (i := 11) (oi := ⟨some 113, _, _, _, _, _⟩) (v := ?_) rfl (by kernel_rfl) (by kernel_rfl) (by kernel_rfl) (fun _ _ _ h => h) (Or.inl ⟨by rfl, ?_⟩) hHeld ?_
                rotate_left
                · intro ww hSw
                  (try dsimp only at hSw)
                  go_simp
                  (try with_reducible rfl)
                simp only [Act.put, List.setIfInBounds_toArray, List.set_cons_zero, List.set_cons_succ]
                refine wpAnyH_ready (rs := [12]) (by kernel_rfl) (by simp) ?_
                refine AllReadyH.cons (o := ⟨none, _, _, _, _, _⟩) rfl (fun K hK => ?_) AllReadyH.nil
                go_simp
                refine hK.out _ _ ?_ (fun hHeld => ?_)
                · (try dsimp only)
                  exact HS1.out
                clear hK K
                (try simp only [Act.put, List.setIfInBounds_toArray, List.set_cons_zero, List.set_cons_succ])
                refine wpAnyH_done (by kernel_rfl) ?_ _
                refine NoPanic.normal ?_
                go_wp2_with fail
                go_meet
                exact ⟨HI2.out, HS1.out⟩
              · have hck : decide (0 ≤ x ∧ (y < 0 ∨ x + M < y)) = false := decide_eq_false hc
                rw [hck]
                have HI2 := Lib.hid (HLI.out.same (by rw [half_len]; exact HLI.out.len) (fun j _ => half_none (b := A) (c := B) (m := M) (row := (List.range b).map (distI E p)) (by rw [rowN_get (by omega)]; exact hx) hy hxb.1 hyb hc j))
                clear hc hck HLI
                go_wp2_with fail
                go_meet
                exact ⟨HI2.out, HSS.out⟩
            case rest =>
              have HLI := Lib.hid hcut.out.1
              have HSS := Lib.hid hcut.out.2
              replace HSO := Lib.hid (half_sound (b := A) (c := B) (m := M) (row_sound (P := b) rfl) HSO.out (by first | exact HJ.out | exact HJ.out.turn))
              clear hcut hx hy hxb hyb x y
              go_upto_region 21 with fail
              obtain ⟨o1, ho1⟩ : ∃ o1, halfE ((List.range b).map (distI E p)) o A B M = o1 := ⟨_, rfl⟩
              rw [ho1] at HLI HSO HNX
              clear ho1
              obtain ⟨x, hx⟩ : ∃ x, distI E p B = x := ⟨_, rfl⟩
              obtain ⟨y, hy⟩ : ∃ y, o1.getD A (-1) = y := ⟨_, rfl⟩
              have hxb := HX.out p B
              rw [hx] at hxb
              have hyb := HSO.out.ge A
              rw [hy] at hyb
              go_cut [143] (fun v wx => v = .bool (decide (0 ≤ x ∧ (y < 0 ∨ x + M < y))) ∧ Hid (LastI w6 wx b o1 ∧ LastS w6 p wr.heap.size b gs E A B M wx))
              case first =>
                have kx := HSS.out.at (b := B) (by omega)
                have ky := HLI.out.row.cell (i := A) (by omega)
                rw [hx] at kx
                rw [hy] at ky
                have v0 := HSS.out.way.cell 0 rfl
                have v1 := HSS.out.way.cell 1 rfl
                have v2 := HSS.out.way.cell 2 rfl
                have hkx := cell_lt kx
                have hky := cell_lt ky
                have hv0 := cell_lt v0
                have HN := Lib.hid (fun n => And.intro (HLI.out.drewN n) (HSS.out.drewN n))
                clear HLI HSS hx hy
                by_cases hx0 : x = -1
                · subst hx0
                  go_quiet (fail)
                  go_wp2_with fail
                  go_meet
                  exact ⟨by simp, HN.out _⟩
                · have hx1 : 0 ≤ x := by omega
                  by_cases hy0 : y = -1
                  · subst hy0
                    go_quiet (fail)
                    go_wp2_with fail
                    go_meet
                    exact ⟨by simp [hx1], HN.out _⟩
                  · have hy1 : 0 ≤ y := by omega
                    have hy2 : decide (y < 0) = false := decide_eq_false (by omega)
                    have hy3 : ¬ y < 0 := by omega
                    have hwr : IntKind.i64.wrap (x + (M : Int)) = x + M := by rw [IntKind.wrap_i64]; omega
                    go_quiet (fail)
                    go_wp2_with fail
                    go_meet
                    exact ⟨by simp [hx1, hy3]; exact fun q => by omega, HN.out _⟩
              case rest =>
                obtain ⟨rfl, hcu⟩ := hcut
                have HLI := Lib.hid hcu.out.1
                have HSS := Lib.hid hcu.out.2
                clear hcu
                by_cases hc : 0 ≤ x ∧ (y < 0 ∨ x + M < y)
                · have hck : decide (0 ≤ x ∧ (y < 0 ∨ x + M < y)) = true := decide_eq_true hc
                  rw [hck]
                  have HI2 : Hid (LastI w6 (wc.setCell ⟨w6.heap.size, A, none⟩ (.int .i64 (x + M))).drew b (halfE ((List.range b).map (distI E p)) o1 B A M)) := by
                    rw [half_some (by rw [rowN_get (by omega)]; exact hx) hy hc]
                    exact (HLI.out.set (by omega) _).drew
                  have hLw : wr.heap.size ≠ w6.heap.size := by have := hrs; omega
                  have hgp : gs p ≠ w6.heap.size := by omega
                  have HS1 := Lib.hid ((HSS.out.set hLw hgp A (.int .i64 (x + M))).drew)
                  have ky := HLI.out.row.cell (i := A) (by omega)
                  have kf := HLI.out.row.frozen A
                  have hky := cell_lt ky
                  have hwr : IntKind.i64.wrap (x + (M : Int)) = x + M := by rw [IntKind.wrap_i64]; omega
                  clear hc hck HLI
                  go_wp2_with fail
                  refine wp_region_noPanic ?_
                  refine wp_region_held_drew (S := LastS w6 p wr.heap.size b gs E A B M) (by kernel_rfl) (HSS.out.drew) (fun hHeld => ?_)
                  refine wpAnyH_take (i := 0) (oi := ⟨some 144, _, _, _, _, _⟩) (v := ?_) rfl (by kernel_rfl) (by kernel_rfl) (by kernel_rfl) (fun _ _ _ h => h) (Or.inl ⟨by rfl, ?_⟩) hHeld ?_
                  rotate_left
                  · intro ww hSw
                    (try dsimp only at hSw)
                    go_simp
                    (try with_reducible rfl)
                  simp only [Act.put, List.setIfInBounds_toArray, List.set_cons_zero, List.set_cons_succ]
                  refine wpAnyH_take (i := 1) (oi := ⟨some 145, _, _, _, _, _⟩) (v := ?_) rfl (by kernel_rfl) (by kernel_rfl) (by kernel_rfl) (fun _ _ _ h => h) (Or.inl ⟨by rfl, ?_⟩) hHeld ?_
                  rotate_left
                  · intro ww hSw
                    (try dsimp only at hSw)
                    go_simp
                    (try with_reducible rfl)
                  simp only [Act.put, List.setIfInBounds_toArray, List.set_cons_zero, List.set_cons_succ]
                  refine wpAnyH_take (i := 2) (oi := ⟨some 146, _, _, _, _, _⟩) (v := .int .i64 A) rfl (by kernel_rfl) (by kernel_rfl) (by kernel_rfl) (fun _ _ _ h => h) (Or.inl ⟨by rfl, ?_⟩) hHeld ?_
                  · intro ww hSw
                    (try dsimp only at hSw)
                    have c_ := hSw.way.cell 0 rfl
                    have cl_ := cell_lt c_
                    go_simp
                  simp only [Act.put, List.setIfInBounds_toArray, List.set_cons_zero, List.set_cons_succ]
                  refine wpAnyH_take (i := 3) (oi := ⟨some 147, _, _, _, _, _⟩) (v := ?_) rfl (by kernel_rfl) (by kernel_rfl) (by kernel_rfl) (fun _ _ _ h => h) (Or.inl ⟨by rfl, ?_⟩) hHeld ?_
                  rotate_left
                  · intro ww hSw
                    (try dsimp only at hSw)
                    go_simp
                    (try with_reducible rfl)
                  simp only [Act.put, List.setIfInBounds_toArray, List.set_cons_zero, List.set_cons_succ]
                  refine wpAnyH_take (i := 4) (oi := ⟨some 148, _, _, _, _, _⟩) (v := ?_) rfl (by kernel_rfl) (by kernel_rfl) (by kernel_rfl) (fun _ _ _ h => h) (Or.inl ⟨by rfl, ?_⟩) hHeld ?_
                  rotate_left
                  · intro ww hSw
                    (try dsimp only at hSw)
                    go_simp
                    (try with_reducible rfl)
                  simp only [Act.put, List.setIfInBounds_toArray, List.set_cons_zero, List.set_cons_succ]
                  refine wpAnyH_take (i := 5) (oi := ⟨some 149, _, _, _, _, _⟩) (v := .int .i64 B) rfl (by kernel_rfl) (by kernel_rfl) (by kernel_rfl) (fun _ _ _ h => h) (Or.inl ⟨by rfl, ?_⟩) hHeld ?_
                  · intro ww hSw
                    (try dsimp only at hSw)
                    have c_ := hSw.way.cell 1 rfl
                    have cl_ := cell_lt c_
                    go_simp
                  simp only [Act.put, List.setIfInBounds_toArray, List.set_cons_zero, List.set_cons_succ]
                  refine wpAnyH_take (i := 6) (oi := ⟨some 150, _, _, _, _, _⟩) (v := ?_) rfl (by kernel_rfl) (by kernel_rfl) (by kernel_rfl) (fun _ _ _ h => h) (Or.inl ⟨by rfl, ?_⟩) hHeld ?_
                  rotate_left
                  · intro ww hSw
                    (try dsimp only at hSw)
                    go_simp
                    (try with_reducible rfl)
                  simp only [Act.put, List.setIfInBounds_toArray, List.set_cons_zero, List.set_cons_succ]
                  refine wpAnyH_take (i := 7) (oi := ⟨some 151, _, _, _, _, _⟩) (v := .int .i64 x) rfl (by kernel_rfl) (by kernel_rfl) (by kernel_rfl) (fun _ _ _ h => h) (Or.inl ⟨by rfl, ?_⟩) hHeld ?_
                  · intro ww hSw
                    (try dsimp only at hSw)
                    have c_ := (hSw.at (b := B) (by omega)).trans (by rw [hx])
                    have cl_ := cell_lt c_
                    go_simp
                  simp only [Act.put, List.setIfInBounds_toArray, List.set_cons_zero, List.set_cons_succ]
                  refine wpAnyH_take (i := 8) (oi := ⟨some 152, _, _, _, _, _⟩) (v := ?_) rfl (by kernel_rfl) (by kernel_rfl) (by kernel_rfl) (fun _ _ _ h => h) (Or.inl ⟨by rfl, ?_⟩) hHeld ?_
                  rotate_left
                  · intro ww hSw
                    (try dsimp only at hSw)
                    go_simp
                    (try with_reducible rfl)
                  simp only [Act.put, List.setIfInBounds_toArray, List.set_cons_zero, List.set_cons_succ]
                  refine wpAnyH_take (i := 9) (oi := ⟨some 153, _, _, _, _, _⟩) (v := .int .i64 M) rfl (by kernel_rfl) (by kernel_rfl) (by kernel_rfl) (fun _ _ _ h => h) (Or.inl ⟨by rfl, ?_⟩) hHeld ?_
                  · intro ww hSw
                    (try dsimp only at hSw)
                    have c_ := hSw.way.cell 2 rfl
                    have cl_ := cell_lt c_
                    go_simp
                  simp only [Act.put, List.setIfInBounds_toArray, List.set_cons_zero, List.set_cons_succ]
                  refine wpAnyH_take (i := 10) (oi := ⟨some 154, _, _, _, _, _⟩) (v := ?_) rfl (by kernel_rfl) (by kernel_rfl) (by kernel_rfl) (fun _ _ _ h => h) (Or.inl ⟨by rfl, ?_⟩) hHeld ?_
                  rotate_left
                  · intro ww hSw
                    (try dsimp only at hSw)
                    go_simp
                    (try with_reducible rfl)
                  simp only [Act.put, List.setIfInBounds_toArray, List.set_cons_zero, List.set_cons_succ]
                  refine wpAnyH_take (i := 11) (oi := ⟨some 155, _, _, _, _, _⟩) (v := ?_) rfl (by kernel_rfl) (by kernel_rfl) (by kernel_rfl) (fun _ _ _ h => h) (Or.inl ⟨by rfl, ?_⟩) hHeld ?_
                  rotate_left
                  · intro ww hSw
                    (try dsimp only at hSw)
                    go_simp
                    (try with_reducible rfl)
                  simp only [Act.put, List.setIfInBounds_toArray, List.set_cons_zero, List.set_cons_succ]
                  refine wpAnyH_ready (rs := [12]) (by kernel_rfl) (by simp) ?_
                  refine AllReadyH.cons (o := ⟨none, _, _, _, _, _⟩) rfl (fun K hK => ?_) AllReadyH.nil
                  go_simp
                  refine hK.out _ _ ?_ (fun hHeld => ?_)
                  · (try dsimp only)
                    exact HS1.out
                  clear hK K
                  (try simp only [Act.put, List.setIfInBounds_toArray, List.set_cons_zero, List.set_cons_succ])
                  refine wpAnyH_done (by kernel_rfl) ?_ _
                  refine NoPanic.normal ?_
                  go_wp2_with fail
                  go_roundw
                  case rel => exact ⟨i + 1, by omega, by go_num, by rw [HNX.out]; exact HI2⟩
                  case measure => simp [intOf]; omega
                · have hck : decide (0 ≤ x ∧ (y < 0 ∨ x + M < y)) = false := decide_eq_false hc
                  rw [hck]
                  have HI2 := Lib.hid (HLI.out.same (by rw [half_len]; exact HLI.out.len) (fun j _ => half_none (b := B) (c := A) (m := M) (row := (List.range b).map (distI E p)) (by rw [rowN_get (by omega)]; exact hx) hy hxb.1 hyb hc j))
                  clear hc hck HLI
                  go_wp2_with fail
                  go_roundw
                  case rel => exact ⟨i + 1, by omega, by go_num, by rw [HNX.out]; exact HI2⟩
                  case measure => simp [intOf]; omega
        · have hlt2' : ¬ (i : Int) < (W : Int) := by omega
          obtain rfl : i = W := by omega
          have hR : Hid (LastI w6 wr b ((List.range b).map (distI E p))) := by
            rw [← lastN_all HEO.out HEA.out hpP HEL.out]
            exact hI
          clear hI
          go_wp2
          clear q1 hq1
          go_loopw [12] (fun s12 wr => ∃ c : Nat, c ≤ b ∧ s12 = .int .i64 c ∧ Hid (LastI w6 wr b ((List.range b).map (distI E p)))) (fun s12 _ => b - (intOf s12).toNat)
          case atStart => exact ⟨0, by omega, rfl, hR⟩
          case round =>
            clear hR
            obtain ⟨c, hc, rfl, hI⟩ := hrel
            by_cases hlt3 : c < b
            · have hlt3' : (c : Int) < (b : Int) := by omega
              obtain ⟨x, hx⟩ : ∃ x, distI E p c = x := ⟨_, rfl⟩
              have kx := (HTM.out.below hI.out.bel).at hpP hlt3
              rw [hx] at kx
              have ky := hI.out.row.cell hlt3
              rw [rowN_get hlt3, hx] at ky
              have hkx := cell_lt kx
              have hky := cell_lt ky
              have HN := Lib.hid (fun n => hI.out.drewN n)
              clear hI hx
              go_wp2_with fail
              go_quiet (fail)
              go_wp2
              go_roundw
              case rel => exact ⟨c + 1, by omega, by go_num, HN.out _⟩
              case measure => simp [intOf]; omega
            · have hlt3' : ¬ (c : Int) < (b : Int) := by omega
              have HEND := Lib.hid (bel_on HBW.out hI.out.bel)
              clear hI
              go_wp2
              go_ret
              exact ⟨rfl, HEND.out⟩
theorem wayLast_nat (s : SetP) (A1 A2 A3 A4 A5 A6 : Option Addr) (c1 c2 c3 c4 c5 c6 : Nat) (k : Nat) (w : World) (hs : SetAt w s A1 A2 A3 A4 A5 A6 c1 c2 c3 c4 c5 c6) (hf : s.Fit) (hk : k ≤ 255) :
    Calls Try.prog 6 #[setV s A1 A2 A3 A4 A5 A6 c1 c2 c3 c4 c5 c6, .int .u8 k] w fun e w' => e = .returned (.bool true) ∧ Below w.heap.size w w' := by
  obtain ⟨cs, hcs⟩ : ∃ cs, setV s A1 A2 A3 A4 A5 A6 c1 c2 c3 c4 c5 c6 = .agg cs := ⟨_, rfl⟩
  have h : SetC w s cs := ⟨A1, A2, A3, A4, A5, A6, c1, c2, c3, c4, c5, c6, hcs, hs⟩
  rw [hcs]
  by_cases hF : s.Few
  · by_cases hM : s.May
    · exact wayLast_main h hf hF hM k hk
    · exact wayLast_may h hf hF hM k hk
  · exact wayLast_few h hF k hk
theorem wayLast_walk (s : SetP) (A1 A2 A3 A4 A5 A6 : Option Addr) (c1 c2 c3 c4 c5 c6 : Nat) (a : Int) (w : World) (hs : SetAt w s A1 A2 A3 A4 A5 A6 c1 c2 c3 c4 c5 c6) (hf : s.Fit) (h0 : 0 ≤ a) (h1 : a ≤ 255) :
    Calls Try.prog 6 #[setV s A1 A2 A3 A4 A5 A6 c1 c2 c3 c4 c5 c6, .int .u8 a] w fun e w' => e = .returned (.bool true) ∧ Below w.heap.size w w' := by
  obtain ⟨k, rfl⟩ : ∃ k : Nat, a = k := ⟨a.toNat, by omega⟩
  exact wayLast_nat s A1 A2 A3 A4 A5 A6 c1 c2 c3 c4 c5 c6 k w hs hf (by omega)
end Go.Proofs.Ytcnekicfblbafaa
