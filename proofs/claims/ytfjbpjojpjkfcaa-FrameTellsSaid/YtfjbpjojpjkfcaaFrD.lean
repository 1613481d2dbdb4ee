/-
  Package frame: the payload whose frame bytes begin with.
-/
import Derived.Test.YtfjbpjojpjkfcaaFrC
import Derived.Test.YtfjbpjojpjkfcaaFrA
namespace Go.Proofs.Ytfjbpjojpjkfcaa
open Go.RowKit
set_option linter.unusedVariables false
attribute [local go_sem] Oper.semAt_some

theorem keeps_below {n : Nat} {W W' : World} (h : Below W.heap.size W W') : KeepsFrom n W W' :=
  ⟨h.size, fun k o _ h0 _ => (h.block k (Array.getElem?_eq_some_iff.1 h0).1).trans h0⟩
theorem keeps_set {n : Nat} (W : World) (p : Addr) (v : Value) : KeepsFrom n W (W.setCell p v) := (KeepsOthers.setCell W p v).from _
theorem keeps_on {n : Nat} {W W' W'' : World} (h : KeepsFrom n W W') (h' : KeepsFrom n W' W'') : KeepsFrom n W W'' := h.trans h'
theorem Has.put {w : World} {g : Nat} {cs : Array Value} (h : Has w g cs) {l : Nat} {o : Obj} (o' : Obj) (ho : w.heap[l]? = some o) (hc : o.isCells = false) : Has (w.putObj l o') g cs := by
  obtain ⟨t, h⟩ := h
  refine ⟨t, (World.putObj_heap_other ?_).trans h⟩
  rintro rfl
  rw [h] at ho
  cases ho
  cases hc
theorem BRow.put {w : World} {base c : Nat} {A : Option Addr} {xs : List (BitVec 8)} (h : BRow w base A c xs) {l : Nat} {o : Obj} (o' : Obj) (ho : w.heap[l]? = some o) (hc : o.isCells = false) : BRow (w.putObj l o') base A c xs := by
  refine h.keep fun g hg => World.putObj_heap_other ?_
  rintro e
  subst hg
  rcases h.2 with ⟨hv, _⟩ | ⟨g', cap, cur, hv, _, hh, _⟩
  · cases hv
  · injection hv with e1
    simp only [Option.some.injEq] at e1
    subst e1
    rw [show (⟨g', 0, none⟩ : Addr).block = g' from rfl] at e
    rw [e] at hh
    rw [hh] at ho
    cases ho
    cases hc
theorem BRow.far {w : World} {base c : Nat} {A : Option Addr} {xs : List (BitVec 8)} (h : BRow w base A c xs) {p : Addr} (hp : p.block < base) (v : Value) : BRow (w.setCell p v) base A c xs :=
  h.keep fun g hg => Below.heap_setCell w p v _ (by have := (h.lt g hg).1; omega)

/-- The three answers' cells. -/
def TakeC (s : Nat) (v1 v2 v3 : Value) (W : World) : Prop := Has W s #[v1] ∧ Has W (s + 1) #[v2] ∧ Has W (s + 2) #[v3]
theorem TakeC.below {s : Nat} {v1 v2 v3 : Value} {W W' : World} (h : TakeC s v1 v2 v3 W) (hb : Below W.heap.size W W') : TakeC s v1 v2 v3 W' := ⟨h.1.below hb, h.2.1.below hb, h.2.2.below hb⟩
theorem TakeC.put {s : Nat} {v1 v2 v3 : Value} {w : World} (h : TakeC s v1 v2 v3 w) {l : Nat} {o : Obj} (o' : Obj) (ho : w.heap[l]? = some o) (hc : o.isCells = false) : TakeC s v1 v2 v3 (w.putObj l o') := ⟨h.1.put o' ho hc, h.2.1.put o' ho hc, h.2.2.put o' ho hc⟩
def TakeI (w : World) (pre : List Two8) (W : World) : Prop := pre = [] ∧ TakeC w.heap.size (.slice none 0 0) (.slice none 0 0) (.int .i64 0) W ∧ Below w.heap.size w W
def TakeX (w : World) (c : Code) (pre : List Two8) (W : World) : Prop := c = .ret ∧ ∃ x, pre = [x] ∧ ∃ A1 c1 A2 c2, TakeC w.heap.size (.slice A1 x.1.length c1) (.slice A2 x.2.length c2) (.int .i64 0) W ∧ BRow W (w.heap.size + 3) A1 c1 x.1 ∧ BRow W (w.heap.size + 3) A2 c2 x.2 ∧ Below w.heap.size w W

set_option maxHeartbeats 4000000 in
theorem ftake_any (A : Option Addr) (m c : Nat) (l : List (BitVec 8)) (w : World) (hx : Sl 1 w A m c (bytesV l)) (hmc : m ≤ c) (hml : m ≤ 100000000000) :
    Calls Try.prog 11 #[.slice A m c] w fun e w' => Below w.heap.size w w' ∧
      ((takeF l = none ∧ e = .returned (.tuple #[.slice none 0 0, .slice none 0 0, .int .i64 60])) ∨
       (∃ p r, takeF l = some (p, r) ∧ ∃ A1 c1 A2 c2, e = .returned (.tuple #[.slice A1 p.length c1, .slice A2 r.length c2, .int .i64 0]) ∧ BRow w' w.heap.size A1 c1 p ∧ BRow w' w.heap.size A2 c2 r)) := by
  have HF := Lib.hid (frames_any A m c)
  have hlay := lay_of hx hmc
  have eg : ∀ args w, (callFunc 32 args).run Try.prog w = .ok (.enter 32 args) w := enters_of Try.func32 (by kernel_rfl) rfl
  clear hx
  refine (callsIn_wide (n := 0)).1 (callsIn_of_wp_marks Try.func11 rfl trivial ?_ rfl)
  simp only [Try.ntmps11, List.size_toArray, List.length_cons, List.length_nil, Nat.reduceAdd, Nat.reduceSub, Array.replicate_succ, Array.replicate_zero, List.push_toArray, List.append_toArray, List.nil_append, List.cons_append]
  gi_wp2_with fail
  refine ⟨trivial, rfl, (callsIn_wide.2 (HF.out _)).mono ?_⟩
  rintro e w1 ⟨rfl, rfl⟩
  gi_wp2
  have hsz : ((((w.alloc (.cells #[.slice none 0 0] 22)).alloc (.cells #[.slice none 0 0] 22)).alloc (.cells #[.int .i64 0] 24)).alloc (.cells #[.slice A m c] 22)).heap.size = w.heap.size + 4 := by simp
  have hb1 : Below w.heap.size w ((((w.alloc (.cells #[.slice none 0 0] 22)).alloc (.cells #[.slice none 0 0] 22)).alloc (.cells #[.int .i64 0] 24)).alloc (.cells #[.slice A m c] 22)) := bel_alloc (bel_alloc (bel_alloc (bel_alloc (Below.refl _ _) _) _) _) _
  have hC1 : TakeC w.heap.size (.slice none 0 0) (.slice none 0 0) (.int .i64 0) ((((w.alloc (.cells #[.slice none 0 0] 22)).alloc (.cells #[.slice none 0 0] 22)).alloc (.cells #[.int .i64 0] 24)).alloc (.cells #[.slice A m c] 22)) :=
    ⟨(((Has.new _ _ _ rfl).alloc _).alloc _).alloc _, ((Has.new _ _ _ (by simp)).alloc _).alloc _, (Has.new _ _ _ (by simp)).alloc _⟩
  have hB1 : Has ((((w.alloc (.cells #[.slice none 0 0] 22)).alloc (.cells #[.slice none 0 0] 22)).alloc (.cells #[.int .i64 0] 24)).alloc (.cells #[.slice A m c] 22)) (w.heap.size + 3) #[.slice A m c] := Has.new _ _ _ (by simp)
  generalize (((w.alloc (.cells #[.slice none 0 0] 22)).alloc (.cells #[.slice none 0 0] 22)).alloc (.cells #[.int .i64 0] 24)).alloc (.cells #[.slice A m c] 22) = w1 at *
  have hseq := frames_seq (w.heap.size + 3) w.heap.size m c A l w1 hB1.size (hB1.cell 0 rfl) (hlay.below hb1) (by omega) hml
  clear HF hB1
  refine range_by (n₀ := w.heap.size) (ps := seqF l) rfl eg hseq (by omega) rfl (TakeI w) (TakeX w)
    (fun pre X Y ⟨e, h, hb⟩ hX => ⟨e, h.below hX, bel_on hb hX⟩)
    (fun k pre X Y ⟨e, x, e2, A1, c1, A2, c2, h, r1, r2, hb⟩ hX => ⟨e, x, e2, A1, c1, A2, c2, h.below hX, r1.below hX, r2.below hX, bel_on hb hX⟩)
    (fun pre W l o o' ⟨e, h, hb⟩ hl ho hc => ⟨e, h.put o' ho hc, hb.trans (below_putObjN _ (by omega))⟩)
    (fun k pre W l o o' ⟨e, x, e2, A1, c1, A2, c2, h, r1, r2, hb⟩ hl ho hc => ⟨e, x, e2, A1, c1, A2, c2, h.put o' ho hc, r1.put o' ho hc, r2.put o' ho hc, hb.trans (below_putObjN _ (by omega))⟩)
    ⟨rfl, hC1, hb1⟩
    (fun v u => { tmps := #[.slice A m c, undef, .pointer (some ⟨w.heap.size, 0, none⟩), .pointer (some ⟨w.heap.size + 1, 0, none⟩), .pointer (some ⟨w.heap.size + 2, 0, none⟩), v, u, .slice A m c, .func (.func 32) #[] #[.pointer (some ⟨w.heap.size + 3, 0, none⟩)], v, u, undef, undef, undef, undef], defers := [] })
    ?assign ?body ?done ?stop
  case assign =>
    intro l v u W K hK
    gi_wp2
    exact hK
  case done =>
    rintro D W hD ⟨hnil, ⟨h1, h2, h3⟩, hb⟩ hK
    have hnone : takeF l = none := by
      cases ht : takeF l with
      | none => rfl
      | some x =>
        obtain ⟨p, r⟩ := x
        rw [seq_some ht] at hnil
        cases hnil
    have f1 := h1.cell 0 rfl
    have f2 := h2.cell 0 rfl
    have f3 := h3.cell 0 rfl
    have q1 := h1.frozen 0
    have q2 := h2.frozen 0
    have q3 := h3.frozen 0
    have HN := Lib.hid hnone
    have p1 : Has (((W.setCell ⟨w.heap.size, 0, none⟩ (.slice none 0 0)).setCell ⟨w.heap.size + 1, 0, none⟩ (.slice none 0 0)).setCell ⟨w.heap.size + 2, 0, none⟩ (.int .i64 60)) w.heap.size #[.slice none 0 0] := ((h1.set 0 _).far (by simp) _).far (by simp) _
    have p2 : Has (((W.setCell ⟨w.heap.size, 0, none⟩ (.slice none 0 0)).setCell ⟨w.heap.size + 1, 0, none⟩ (.slice none 0 0)).setCell ⟨w.heap.size + 2, 0, none⟩ (.int .i64 60)) (w.heap.size + 1) #[.slice none 0 0] := ((h2.far (by simp) _).set 0 _).far (by simp) _
    have p3 : Has (((W.setCell ⟨w.heap.size, 0, none⟩ (.slice none 0 0)).setCell ⟨w.heap.size + 1, 0, none⟩ (.slice none 0 0)).setCell ⟨w.heap.size + 2, 0, none⟩ (.int .i64 60)) (w.heap.size + 2) #[.int .i64 60] := ((h3.far (by simp) _).far (by simp) _).set 0 _
    have pb : Below w.heap.size w (((W.setCell ⟨w.heap.size, 0, none⟩ (.slice none 0 0)).setCell ⟨w.heap.size + 1, 0, none⟩ (.slice none 0 0)).setCell ⟨w.heap.size + 2, 0, none⟩ (.int .i64 60)) := bel_set (bel_set (bel_set hb (by simp) _) (by simp) _) (by simp) _
    have pk := (keeps_on (keeps_on (keeps_set (n := 0) W ⟨w.heap.size, 0, none⟩ (.slice none 0 0)) (keeps_set _ ⟨w.heap.size + 1, 0, none⟩ (.slice none 0 0))) (keeps_set _ ⟨w.heap.size + 2, 0, none⟩ (.int .i64 60))).same D _ (by omega) hK rfl
    gi_wp2
    clear f1 f2 f3 q1 q2 q3 h1 h2 h3 hb
    generalize ((W.setCell ⟨w.heap.size, 0, none⟩ (.slice none 0 0)).setCell ⟨w.heap.size + 1, 0, none⟩ (.slice none 0 0)).setCell ⟨w.heap.size + 2, 0, none⟩ (.int .i64 60) = Z at *
    have f1 : _ = some (Value.slice none 0 0) := (p1.put (.deferred none) pk rfl).cell 0 rfl
    have f2 : _ = some (Value.slice none 0 0) := (p2.put (.deferred none) pk rfl).cell 0 rfl
    have f3 : _ = some (Value.int .i64 60) := (p3.put (.deferred none) pk rfl).cell 0 rfl
    refine ⟨by simp, .inl ⟨_, _, rfl, run_takeDeferred pk, ?_⟩⟩
    refine ⟨.tuple #[.slice none 0 0, .slice none 0 0, .int .i64 60], by simp [results, Try.results11, go_sem, f1, f2, f3], pb.trans (below_putObjN _ (by omega)), .inl ⟨HN.out, rfl⟩⟩
  case stop =>
    rintro D k pre W hD hpre ⟨rfl, x, rfl, A1, c1, A2, c2, ⟨h1, h2, h3⟩, r1, r2, hb⟩ hK
    have hsome : takeF l = some (x.1, x.2) := by
      cases ht : takeF l with
      | none =>
        rw [seq_none ht] at hpre
        simp at hpre
      | some y =>
        obtain ⟨p, r⟩ := y
        rw [seq_some ht] at hpre
        obtain ⟨t, ht'⟩ := hpre
        simp only [List.cons_append, List.nil_append, List.cons.injEq] at ht'
        rw [ht'.1]
    have HN := Lib.hid hsome
    clear hsome
    gi_wp2
    have f1 : _ = some (Value.slice A1 x.1.length c1) := (h1.put (.deferred none) hK rfl).cell 0 rfl
    have f2 : _ = some (Value.slice A2 x.2.length c2) := (h2.put (.deferred none) hK rfl).cell 0 rfl
    have f3 : _ = some (Value.int .i64 0) := (h3.put (.deferred none) hK rfl).cell 0 rfl
    refine ⟨by simp, .inl ⟨_, _, rfl, run_takeDeferred hK, ?_⟩⟩
    refine ⟨.tuple #[.slice A1 x.1.length c1, .slice A2 x.2.length c2, .int .i64 0], by simp [results, Try.results11, go_sem, f1, f2, f3], hb.trans (below_putObjN _ (by omega)), .inr ⟨x.1, x.2, HN.out, A1, c1, A2, c2, rfl, ?_, ?_⟩⟩
    · exact (r1.put (.deferred none) hK rfl).mono (by omega)
    · exact (r2.put (.deferred none) hK rfl).mono (by omega)
  case body =>
    rintro l' pre x v u W ⟨rfl, ⟨h1, h2, h3⟩, hb⟩ hv hu hpre
    obtain ⟨x1, x2⟩ := x
    obtain ⟨B1, d1, rfl, s1, hd1, _⟩ := hv
    obtain ⟨B2, d2, rfl, s2, hd2, _⟩ := hu
    simp only at s1 s2 hd1 hd2
    have hxl := (seq_len l.length l (Nat.le_refl _)).2 (x1, x2) (hpre.subset (by simp))
    simp only at hxl
    obtain ⟨y1, y2, y3, y4⟩ := hlay.form
    have S1 := Lib.hid s1
    have S2 := Lib.hid s2
    have hp1 : x1.length ≤ 100000000000 := by omega
    have hp2 : x2.length ≤ 100000000000 := by omega
    have hs3 := h3.size
    clear s1 s2 hpre y2 y4 y1 hseq hlay hxl
    gi_wp2_with fail
    refine ⟨trivial, rfl, (CallsIn.inRound l' (callsIn_wide.2 (clone_any B1 x1.length d1 x1 _ S1.out (by omega)))).mono ?_⟩
    rintro e w2 ⟨A1, c1, rfl, r1, hb2⟩
    gi_wp2_with fail
    refine ⟨trivial, rfl, (CallsIn.inRound l' (callsIn_wide.2 (clone_any B2 x2.length d2 x2 _ (S2.out.below hb2) (by omega)))).mono ?_⟩
    rintro e w3 ⟨A2, c2, rfl, r2, hb3⟩
    have k3 := bel_on hb2 hb3
    have g1 := h1.below k3
    have g2 := h2.below k3
    have g3 := h3.below k3
    have f1 := g1.cell 0 rfl
    have f2 := g2.cell 0 rfl
    have f3 := g3.cell 0 rfl
    have q1 := g1.frozen 0
    have q2 := g2.frozen 0
    have q3 := g3.frozen 0
    have r1' := r1.below hb3
    have hs2 := hb2.size
    gi_wp2
    refine ⟨keeps_on (keeps_on (keeps_on (keeps_below k3) (keeps_set _ _ _)) (keeps_set _ _ _)) (keeps_set _ _ _), rfl, (x1, x2), rfl, A1, c1, A2, c2, ⟨?_, ?_, ?_⟩, ?_, ?_, ?_⟩
    · exact ((g1.set 0 _).far (by simp) _).far (by simp) _
    · exact ((g2.far (by simp) _).set 0 _).far (by simp) _
    · exact ((g3.far (by simp) _).far (by simp) _).set 0 _
    · exact (((r1'.mono (b := w.heap.size + 3) (by omega)).far (by simp) _).far (by simp) _).far (by simp) _
    · exact (((r2.mono (b := w.heap.size + 3) (by omega)).far (by simp) _).far (by simp) _).far (by simp) _
    · exact bel_set (bel_set (bel_set (bel_on hb k3) (by simp) _) (by simp) _) (by simp) _
theorem ftake_some (A : Option Addr) (m c : Nat) (l p r : List (BitVec 8)) (w : World) (hx : Sl 1 w A m c (bytesV l)) (hmc : m ≤ c) (hml : m ≤ 100000000000) (hf : takeF l = some (p, r)) :
    Calls Try.prog 11 #[.slice A m c] w fun e w' => ∃ A1 c1 A2 c2, e = .returned (.tuple #[.slice A1 p.length c1, .slice A2 r.length c2, .int .i64 0]) ∧ BRow w' w.heap.size A1 c1 p ∧ BRow w' w.heap.size A2 c2 r ∧ Below w.heap.size w w' := by
  refine (ftake_any A m c l w hx hmc hml).mono ?_
  rintro e w' ⟨hb, ⟨hn, _⟩ | ⟨p', r', hs, A1, c1, A2, c2, rfl, r1, r2⟩⟩
  · rw [hf] at hn; cases hn
  · rw [hf] at hs
    simp only [Option.some.injEq, Prod.mk.injEq] at hs
    obtain ⟨rfl, rfl⟩ := hs
    exact ⟨A1, c1, A2, c2, rfl, r1, r2, hb⟩
theorem ftake_none (A : Option Addr) (m c : Nat) (l : List (BitVec 8)) (w : World) (hx : Sl 1 w A m c (bytesV l)) (hmc : m ≤ c) (hml : m ≤ 100000000000) (hf : takeF l = none) :
    Calls Try.prog 11 #[.slice A m c] w fun e w' => e = .returned (.tuple #[.slice none 0 0, .slice none 0 0, .int .i64 60]) ∧ Below w.heap.size w w' := by
  refine (ftake_any A m c l w hx hmc hml).mono ?_
  rintro e w' ⟨hb, ⟨_, rfl⟩ | ⟨p', r', hs, _⟩⟩
  · exact ⟨rfl, hb⟩
  · rw [hf] at hs; cases hs
end Go.Proofs.Ytfjbpjojpjkfcaa
