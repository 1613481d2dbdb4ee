/-
  Tables of the call's own (rows of numbers, each in memory of its own); way.apart.
-/
import Derived.Test.YtpgncbhahocmbaaGreatQaq
import Derived.Test.YtpgncbhahocmbaaGreatQaw
import Derived.Lib.Hide
namespace Go.Proofs.YtpgncbhahocmbaaGreat
open Go.RowKit
set_option linter.unusedVariables false
set_option linter.unusedSimpArgs false
set_option maxRecDepth 20000

/-- Block G holds the rows of the table t, of P places; row i lies in block gs i. -/
structure TabM (w : World) (G P : Nat) (gs : Nat → Nat) (t : TabF) : Prop where
  top : w.rowIs G 27 P (fun i => .slice (some ⟨gs i, 0, none⟩) P P)
  row : ∀ i, i < P → w.rowIs (gs i) 3 P (fun j => .int .i64 (t i j))
  off : ∀ i, i < P → gs i ≠ G
  inj : ∀ i j, i < P → j < P → gs i = gs j → i = j
section
variable {w w' : World} {G P : Nat} {gs : Nat → Nat} {t : TabF}
theorem TabM.below (h : TabM w G P gs t) (hb : Below w.heap.size w w') : TabM w' G P gs t := ⟨rowIs_below h.top hb, fun i hi => rowIs_below (h.row i hi) hb, h.off, h.inj⟩
theorem TabM.alloc (h : TabM w G P gs t) (o : Obj) : TabM (w.alloc o) G P gs t := ⟨h.top.alloc o, fun i hi => (h.row i hi).alloc o, h.off, h.inj⟩
theorem TabM.drew (h : TabM w G P gs t) : TabM w.drew G P gs t := ⟨h.top, h.row, h.off, h.inj⟩
theorem TabM.ptr (h : TabM w G P gs t) {i : Nat} (hi : i < P) : w.cell? ⟨G, i, none⟩ = some (.slice (some ⟨gs i, 0, none⟩) P P) := h.top.cell hi
theorem TabM.at (h : TabM w G P gs t) {i j : Nat} (hi : i < P) (hj : j < P) : w.cell? ⟨gs i, j, none⟩ = some (.int .i64 (t i j)) := (h.row i hi).cell hj
theorem TabM.frozen (h : TabM w G P gs t) {i : Nat} (hi : i < P) (j : Nat) : w.frozen? ⟨gs i, j, none⟩ = false := (h.row i hi).frozen j
theorem TabM.far (h : TabM w G P gs t) {p : Addr} (hp : p.block ≠ G) (hr : ∀ i, i < P → gs i ≠ p.block) (v : Value) : TabM (w.setCell p v) G P gs t :=
  ⟨h.top.setOther (fun e => hp e.symm) v, fun i hi => (h.row i hi).setOther (hr i hi) v, h.off, h.inj⟩
theorem TabM.set (h : TabM w G P gs t) {a b : Nat} (ha : a < P) (hb : b < P) (v : Int) : TabM (w.setCell ⟨gs a, b, none⟩ (.int .i64 v)) G P gs (setF t a b v) := by
  refine ⟨h.top.setOther (fun e => h.off a ha e.symm) _, fun i hi => ?_, h.off, h.inj⟩
  by_cases e : i = a
  · subst e
    refine ((h.row i hi).set b _).congr fun j hj => ?_
    unfold setF
    by_cases e : j = b
    · subst e; simp
    · simp [e]
  · refine ((h.row i hi).setOther (fun q => e (h.inj i a hi ha q)) _).congr fun j hj => ?_
    unfold setF
    rw [if_neg (fun q => e q.1)]
theorem TabM.size (h : TabM w G P gs t) : G < w.heap.size := h.top.lt
theorem TabM.rsize (h : TabM w G P gs t) {i : Nat} (hi : i < P) : gs i < w.heap.size := (h.row i hi).lt
theorem TabM.congr (h : TabM w G P gs t) {t' : TabF} (e : ∀ i j, i < P → j < P → t i j = t' i j) : TabM w G P gs t' :=
  ⟨h.top, fun i hi => (h.row i hi).congr fun j hj => by rw [e i j hi hj], h.off, h.inj⟩
end
/-- A table of the call's own. -/
def TabOwn (w : World) (base G P : Nat) (t : TabF) : Prop := ∃ gs, (∀ i, i < P → base ≤ gs i) ∧ TabM w G P gs t
theorem TabOwn.below {w w' : World} {base G P : Nat} {t : TabF} (h : TabOwn w base G P t) (hb : Below w.heap.size w w') : TabOwn w' base G P t := by
  obtain ⟨gs, h1, h2⟩ := h
  exact ⟨gs, h1, h2.below hb⟩
theorem TabOwn.drew {w : World} {base G P : Nat} {t : TabF} (h : TabOwn w base G P t) : TabOwn w.drew base G P t := by
  obtain ⟨gs, h1, h2⟩ := h
  exact ⟨gs, h1, h2.drew⟩
theorem TabOwn.mono {w : World} {base b G P : Nat} {t : TabF} (h : TabOwn w base G P t) (hb : b ≤ base) : TabOwn w b G P t := by
  obtain ⟨gs, h1, h2⟩ := h
  exact ⟨gs, fun i hi => Nat.le_trans hb (h1 i hi), h2⟩
/-- The first k rows are made. -/
structure ApartI (w wr : World) (G n k : Nat) (gs : Nat → Nat) : Prop where
  bel : Below w.heap.size w wr
  base : w.heap.size ≤ G
  top : wr.rowIs G 27 n (fun i => if i < k then .slice (some ⟨gs i, 0, none⟩) n n else .slice none 0 0)
  row : ∀ i, i < k → wr.rowIs (gs i) 3 n (fun j => .int .i64 (startF i j))
  lie : ∀ i, i < k → w.heap.size ≤ gs i ∧ gs i < wr.heap.size ∧ gs i ≠ G
  inj : ∀ i j, i < k → j < k → gs i = gs j → i = j
theorem apartI_end {w wr : World} {G n : Nat} {gs : Nat → Nat} (h : ApartI w wr G n n gs) : TabM wr G n gs startF :=
  ⟨h.top.congr fun i hi => if_pos hi, h.row, fun i hi => (h.lie i hi).2.2, h.inj⟩
theorem apartI_step {w wr w2 : World} {G n k g : Nat} {gs : Nat → Nat} (h : ApartI w wr G n k gs) (hk : k < n) (hb : Below wr.heap.size wr w2) (hg : wr.heap.size ≤ g) (hr : w2.rowIs g 3 n (fun _ => .int .i64 (-1))) :
    ApartI w ((w2.setCell ⟨G, k, none⟩ (.slice (some ⟨g, 0, none⟩) n n)).setCell ⟨g, k, none⟩ (.int .i64 0)) G n (k + 1) (fun i => if i = k then g else gs i) := by
  have hs := h.top.lt
  have hw := h.bel.size
  have hsz := hb.size
  refine ⟨bel_set (bel_set (bel_on h.bel hb) (by exact h.base) _) (by show w.heap.size ≤ g; omega) _, h.base, ?_, fun i hi => ?_, fun i hi => ?_, fun i j hi hj e => ?_⟩
  · refine (((rowIs_below h.top hb).set k _).setOther (by show G ≠ g; omega) _).congr fun i hi => ?_
    by_cases e : i = k
    · subst e; simp
    · by_cases e2 : i < k
      · simp [e, e2, show i < k + 1 by omega]
      · simp [e, e2, show ¬ i < k + 1 by omega]
  · by_cases e : i = k
    · subst e
      rw [if_pos rfl]
      refine ((hr.setOther (by show g ≠ G; omega) _).set i _).congr fun j hj => ?_
      unfold startF
      by_cases e : j = i
      · subst e; simp
      · have e9 : ¬ i = j := fun q => e q.symm
        simp only [if_neg e, if_neg e9]
    · rw [if_neg e]
      have hl := h.lie i (by omega)
      exact ((rowIs_below (h.row i (by omega)) hb).setOther (by show gs i ≠ G; exact hl.2.2) _).setOther (by show gs i ≠ g; omega) _
  · have hgl := hr.lt
    by_cases e : i = k
    · rw [if_pos e]
      refine ⟨by omega, ?_, by omega⟩
      simpa using hgl
    · rw [if_neg e]
      have hl := h.lie i (by omega)
      refine ⟨hl.1, ?_, hl.2.2⟩
      have : gs i < w2.heap.size := by omega
      simpa using this
  · have li := fun (q : i < k) => h.lie i q
    have lj := fun (q : j < k) => h.lie j q
    by_cases e1 : i = k
    · by_cases e2 : j = k
      · omega
      · rw [if_pos e1, if_neg e2] at e
        have := lj (by omega)
        omega
    · by_cases e2 : j = k
      · rw [if_neg e1, if_pos e2] at e
        have := li (by omega)
        omega
      · rw [if_neg e1, if_neg e2] at e
        exact h.inj i j (by omega) (by omega) e
set_option maxHeartbeats 2000000 in
theorem apart_c (n : Nat) (hn : 1 ≤ n) (h6 : n ≤ 16) (w : World) :
    Calls Tryz.prog 137 #[.int .i64 n] w fun e w' => ∃ G, e = .returned (.slice (some ⟨G, 0, none⟩) n n) ∧ w.heap.size ≤ G ∧ TabOwn w' w.heap.size G n startF ∧ Below w.heap.size w w' := by
  have info : (Tryz.prog.info? 27).map (fun i => (i.zero, i.size, i.bytes)) = some (some (.slice none 0 0), 1, 24) := by kernel_rfl
  have hmk := run_make_row' (P := Tryz.prog) 139 27 (.slice none 0 0) 24 Tryz.underlying139 info rfl .i64 .i64 n (by omega) (by omega)
  clear info
  go_enter Tryz.func137, Tryz.ntmps137
  go_wp2
  clear hmk
  have HA : Hid (ApartI w (w.alloc (.cells (madeCells #[.slice none 0 0] n) 27)) w.heap.size n 0 (fun _ => 0)) :=
    ⟨bel_alloc (Below.refl _ _) _, Nat.le_refl _, (World.rowIs_made w _ n _).congr fun i hi => by simp, fun i hi => by omega, fun i hi => by omega, fun i j hi => by omega⟩
  go_loopw [8] (fun s8 wr => ∃ (k : Nat) (gs : Nat → Nat), k ≤ n ∧ s8 = .int .i64 k ∧ Hid (ApartI w wr w.heap.size n k gs)) (fun s8 _ => n - (intOf s8).toNat)
  case atStart => exact ⟨0, _, by omega, rfl, HA⟩
  case round =>
    clear HA
    obtain ⟨k, gs, hkn, rfl, hA⟩ := hrel
    by_cases hlt : k < n
    · have hlt' : (k : Int) < (n : Int) := by omega
      have cR := repeat_one wr.heap.size (wr.alloc (.cells #[.int .i64 (-1)] 3)) (-1) n hn (by omega) ((Has.new wr _ #[.int .i64 (-1)] rfl).cell 0 rfl)
      go_wp2_with fail
      refine cR.mono ?_
      rintro e w2 ⟨g, rfl, hg, hr, hb2⟩
      have hb3 : Below wr.heap.size wr w2 := bel_on (bel_alloc (Below.refl _ _) _) hb2
      have HS := Lib.hid (apartI_step hA.out hlt hb3 (by have := hb3.size; simp at hg; omega) hr)
      have ht := rowIs_below hA.out.top hb3
      have hneg : g ≠ w.heap.size := by have := hA.out.top.lt; simp at hg; omega
      have c1 : w2.cell? ⟨w.heap.size, k, none⟩ = some (.slice none 0 0) := by rw [ht.cell hlt, if_neg (Nat.lt_irrefl k)]
      have f1 := ht.frozen k
      have c2 : (w2.setCell ⟨w.heap.size, k, none⟩ (.slice (some ⟨g, 0, none⟩) n n)).cell? ⟨w.heap.size, k, none⟩ = some (.slice (some ⟨g, 0, none⟩) n n) := by rw [(ht.set k _).cell hlt, if_pos rfl]
      have c3 : (w2.setCell ⟨w.heap.size, k, none⟩ (.slice (some ⟨g, 0, none⟩) n n)).cell? ⟨g, k, none⟩ = some (.int .i64 (-1)) := (hr.setOther hneg _).cell hlt
      have f3 := (hr.setOther (a := ⟨w.heap.size, k, none⟩) hneg (.slice (some ⟨g, 0, none⟩) n n)).frozen k
      clear ht hr hb2 hb3 cR hA hg
      go_wp2
      go_roundw
      case rel => exact ⟨k + 1, _, by omega, by go_num, HS⟩
      case measure => simp [intOf]; omega
    · have hlt' : ¬ (k : Int) < (n : Int) := by omega
      obtain rfl : k = n := by omega
      go_wp2
      go_ret
      exact ⟨_, rfl, Nat.le_refl _, ⟨gs, fun i hi => (hA.out.lie i hi).1, apartI_end hA.out⟩, hA.out.bel⟩
end Go.Proofs.YtpgncbhahocmbaaGreat
