/-
  Three slices of spans of the call's own, what they keep while a function that makes blocks of its own runs the loop that grows them.
-/
import Derived.Test.YthdolmhnjinlhaaGreatOvrN
import Derived.Test.YthdolmhnjinlhaaGreatZaw
namespace Go.Proofs.YthdolmhnjinlhaaGreat
open Go.RowKit
set_option linter.unusedVariables false
set_option linter.unusedSimpArgs false
set_option maxRecDepth 20000

/-- Three slices of the call's own, in three blocks. -/
structure Thr (w : World) (base : Nat) (A : Option Addr) (c : Nat) (xs : List (Int × Int)) (B : Option Addr) (d : Nat) (ys : List (Int × Int)) (E : Option Addr) (f : Nat) (zs : List (Int × Int)) : Prop where
  a : Row w base A c xs
  b : Row w base B d ys
  e : Row w base E f zs
  ab : ∀ x y, A = some x → B = some y → x.block ≠ y.block
  ae : ∀ x y, A = some x → E = some y → x.block ≠ y.block
  be : ∀ x y, B = some x → E = some y → x.block ≠ y.block
section
variable {w w' : World} {base c d f : Nat} {A B E : Option Addr} {xs ys zs : List (Int × Int)}
theorem Thr.start (w : World) (base : Nat) : Thr w base none 0 [] none 0 [] none 0 [] := ⟨Row.nil _ _, Row.nil _ _, Row.nil _ _, (fun x y h => by cases h), (fun x y h => by cases h), (fun x y h => by cases h)⟩
theorem Thr.below (h : Thr w base A c xs B d ys E f zs) (hb : Below w.heap.size w w') : Thr w' base A c xs B d ys E f zs := ⟨h.a.below hb, h.b.below hb, h.e.below hb, h.ab, h.ae, h.be⟩
theorem Thr.rot (h : Thr w base A c xs B d ys E f zs) : Thr w base B d ys E f zs A c xs := ⟨h.b, h.e, h.a, h.be, fun x y hx hy q => h.ab y x hy hx q.symm, fun x y hx hy q => h.ae y x hy hx q.symm⟩
theorem Thr.far (h : Thr w base A c xs B d ys E f zs) {p : Addr} (hp : p.block < base) (v : Value) : Thr (w.setCell p v) base A c xs B d ys E f zs :=
  ⟨h.a.far (fun a ha => by have := (h.a.lt a ha).1; omega) v, h.b.far (fun a ha => by have := (h.b.lt a ha).1; omega) v, h.e.far (fun a ha => by have := (h.e.lt a ha).1; omega) v, h.ab, h.ae, h.be⟩
theorem Thr.push (h : Thr w base A c xs B d ys E f zs) {D : Option Addr} {m : Nat} {ws : List (Int × Int)} (hs : Sl 2 w D ws.length m (cells2 ws)) (hn : xs.length + ws.length ≤ 1000000000) (hbase : base ≤ w.heap.size) :
    ∃ A' c' w', (Builtin.append_ #[31, 31] 31 #[.slice A xs.length c, .slice D ws.length m]).run Tryz.prog w = .ok (.slice A' (xs.length + ws.length) c') w' ∧ Thr w' base A' c' (xs ++ ws) B d ys E f zs ∧
      Kept (fun k => k < w.heap.size ∧ ∀ x, A = some x → x.block ≠ k) w w' := by
  obtain ⟨A', c', w', hr, ho, _, hg, hl⟩ := row_append h.a hs hn hbase
  have hK : Kept (fun k => k < w.heap.size ∧ ∀ x, A = some x → x.block ≠ k) w w' := by
    refine ⟨hg.os, hg.tape, hg.output, hg.size, fun k hk => hg.block k hk.1 ?_⟩
    intro q
    cases A with
    | none => simp [Value.ownBlock] at q
    | some a0 =>
      simp [Value.ownBlock] at q
      exact hk.2 a0 rfl (by omega)
  have key : ∀ y : Addr, y.block < w.heap.size → (∀ x, A = some x → x.block ≠ y.block) → ∀ x, A' = some x → x.block ≠ y.block := fun y hy hne x hx e => by
    subst hx
    rcases hl with q | q
    · cases A with
      | none => simp [Value.ownBlock] at q
      | some a0 =>
        simp [Value.ownBlock] at q
        exact hne a0 rfl (by omega)
    · simp [Value.ownBlock] at q
      omega
  exact ⟨A', c', w', hr, ⟨ho, h.b.keep fun g hgb => hK.block _ ⟨(h.b.lt g hgb).2, fun x hx => h.ab x g hx hgb⟩, h.e.keep fun g hgb => hK.block _ ⟨(h.e.lt g hgb).2, fun x hx => h.ae x g hx hgb⟩,
    fun x y hx hy => key y (h.b.lt y hy).2 (fun z hz => h.ab z y hz hy) x hx, fun x y hx hy => key y (h.e.lt y hy).2 (fun z hz => h.ae z y hz hy) x hx, h.be⟩, hK⟩
theorem Thr.one (h : Thr w base A c xs B d ys E f zs) {n : Nat} (hn : xs.length = n) (x y : Int) (hm : n ≤ 100000000) (hbase : base ≤ w.heap.size) {s : Nat} (hs : w.heap.size = s) :
    ∃ A' c' w', (Builtin.append_ #[31, 31] 31 #[.slice A n c, .slice (some ⟨s, 0, none⟩) 1 1]).run Tryz.prog (w.alloc (.cells #[.int .i64 x, .int .i64 y] 42)) = .ok (.slice A' (n + 1) c') w' ∧ Thr w' base A' c' (xs ++ [(x, y)]) B d ys E f zs ∧
      Kept (fun k => k < base) w w' := by
  subst hn
  have hb := bel_alloc (Below.refl w.heap.size w) (.cells #[.int .i64 x, .int .i64 y] 42)
  obtain ⟨A', c', w', h1, h2, h3⟩ := (h.below hb).push (ws := [(x, y)]) (sl_one w 42 (x, y) hs) (by simp; omega) (by simp; omega)
  refine ⟨A', c', w', h1, h2, (Kept.of_below hb fun i hi => by omega).on (h3.less fun i hi => ⟨by simp; omega, fun z hz => ?_⟩)⟩
  have := (h.a.lt z hz).1
  omega
end

theorem okeeps_below {n : Nat} {W W' : World} (h : Below W.heap.size W W') : KeepsFrom n W W' :=
  ⟨h.size, fun k o _ hk ho => (h.block k (Array.getElem?_eq_some_iff.1 hk).1).trans hk⟩
theorem okeeps_cells {F : Nat → Prop} {n : Nat} {W W' : World} (h : Kept F W W') (hF : ∀ b o, W.heap[b]? = some o → o.isCells = false → F b) : KeepsFrom n W W' :=
  ⟨h.size, fun k o _ hk ho => (h.block k (hF k o hk ho)).trans hk⟩
theorem ohas_cells {w : World} {g : Nat} {cs : Array Value} (h : Has w g cs) {o : Obj} (ho : w.heap[g]? = some o) (hc : o.isCells = false) : False := by
  obtain ⟨t, h⟩ := h
  rw [h] at ho
  cases ho
  cases hc
theorem ohas_put {w : World} {g : Nat} {cs : Array Value} (h : Has w g cs) {l : Nat} {o : Obj} (o' : Obj) (ho : w.heap[l]? = some o) (hc : o.isCells = false) : Has (w.putObj l o') g cs := by
  have hne : g ≠ l := by rintro rfl; exact ohas_cells h ho hc
  obtain ⟨t, h⟩ := h
  exact ⟨t, (World.putObj_heap_other hne).trans h⟩
theorem orow_cells {w : World} {base c : Nat} {A : Option Addr} {xs : List (Int × Int)} (h : Row w base A c xs) {a : Addr} (ha : A = some a) {o : Obj} (ho : w.heap[a.block]? = some o) (hc : o.isCells = false) : False := by
  subst ha
  rcases h.2 with ⟨hv, _⟩ | ⟨g', cap, cur, hv, _, hh, _⟩
  · cases hv
  · injection hv with e1
    simp only [Option.some.injEq] at e1
    subst e1
    change w.heap[g']? = some o at ho
    rw [hh] at ho
    cases ho
    cases hc
theorem orow_put {w : World} {base c : Nat} {A : Option Addr} {xs : List (Int × Int)} (h : Row w base A c xs) {l : Nat} {o : Obj} (o' : Obj) (ho : w.heap[l]? = some o) (hc : o.isCells = false) : Row (w.putObj l o') base A c xs :=
  h.keep fun g hg => World.putObj_heap_other (by rintro e; subst e; exact orow_cells h hg ho hc)
section
variable {w w' : World} {base c d f : Nat} {A B E : Option Addr} {xs ys zs : List (Int × Int)}
theorem Thr.obj (h : Thr w base A c xs B d ys E f zs) {l : Nat} {o : Obj} (o' : Obj) (ho : w.heap[l]? = some o) (hc : o.isCells = false) : Thr (w.putObj l o') base A c xs B d ys E f zs :=
  ⟨orow_put h.a o' ho hc, orow_put h.b o' ho hc, orow_put h.e o' ho hc, h.ab, h.ae, h.be⟩
/-- One of the three grows by another list, and its variable is told. -/
theorem Thr.add (h : Thr w base A c xs B d ys E f zs) {g n : Nat} {D : Option Addr} {ws : List (Int × Int)} (hs : Sl 2 w D ws.length n (cells2 ws)) (hg : g < base) (hH : Has w g #[.slice A xs.length c]) (hbs : base ≤ w.heap.size) (hn : xs.length + ws.length ≤ 1000000000) :
    ∃ A' c' w', (Builtin.append_ #[31, 31] 31 #[.slice A xs.length c, .slice D ws.length n]).run Tryz.prog w = .ok (.slice A' (xs.length + ws.length) c') w' ∧ Has w' g #[.slice A xs.length c] ∧
      ∀ W, w'.setCell ⟨g, 0, none⟩ (.slice A' (xs.length + ws.length) c') = W → Thr W base A' c' (xs ++ ws) B d ys E f zs ∧ Has W g #[.slice A' (xs ++ ws).length c'] ∧
        Kept (fun b => b < w.heap.size ∧ b ≠ g ∧ ∀ x, A = some x → x.block ≠ b) w W ∧ (∀ x, A' = some x → (∃ y, A = some y ∧ y.block = x.block) ∨ w.heap.size ≤ x.block) ∧ (∀ n, KeepsFrom n w W) := by
  obtain ⟨A', c', w', hr, ho, _, hgr, hl⟩ := row_append h.a hs hn hbs
  have hK : Kept (fun k => k < w.heap.size ∧ ∀ x, A = some x → x.block ≠ k) w w' := by
    refine ⟨hgr.os, hgr.tape, hgr.output, hgr.size, fun k hk => hgr.block k hk.1 ?_⟩
    intro q
    cases A with
    | none => simp [Value.ownBlock] at q
    | some a0 =>
      simp [Value.ownBlock] at q
      exact hk.2 a0 rfl (by omega)
  have hA' : ∀ x, A' = some x → (∃ y, A = some y ∧ y.block = x.block) ∨ w.heap.size ≤ x.block := fun x hx => by
    subst hx
    rcases hl with q | q
    · cases A with
      | none => simp [Value.ownBlock] at q
      | some a0 =>
        simp [Value.ownBlock] at q
        exact .inl ⟨a0, rfl, q.symm⟩
    · simp [Value.ownBlock] at q
      exact .inr (by omega)
  have key : ∀ y : Addr, y.block < w.heap.size → (∀ x, A = some x → x.block ≠ y.block) → ∀ x, A' = some x → x.block ≠ y.block := fun y hy hne x hx e => by
    rcases hA' x hx with ⟨z, hz, q⟩ | q
    · exact hne z hz (q.trans e)
    · omega
  have hT : Thr w' base A' c' (xs ++ ws) B d ys E f zs := ⟨ho, h.b.keep fun g hgb => hK.block _ ⟨(h.b.lt g hgb).2, fun x hx => h.ab x g hx hgb⟩, h.e.keep fun g hgb => hK.block _ ⟨(h.e.lt g hgb).2, fun x hx => h.ae x g hx hgb⟩,
    fun x y hx hy => key y (h.b.lt y hy).2 (fun z hz => h.ab z y hz hy) x hx, fun x y hx hy => key y (h.e.lt y hy).2 (fun z hz => h.ae z y hz hy) x hx, h.be⟩
  have hH' := hH.kept (F := fun k => k < w.heap.size ∧ ∀ x, A = some x → x.block ≠ k) ⟨hH.size, fun x hx => by have := (h.a.lt x hx).1; omega⟩ hK
  refine ⟨A', c', w', hr, hH', ?_⟩
  rintro _ rfl
  have hK2 : Kept (fun b => b < w.heap.size ∧ b ≠ g ∧ ∀ x, A = some x → x.block ≠ b) w (w'.setCell ⟨g, 0, none⟩ (.slice A' (xs.length + ws.length) c')) :=
    (hK.less fun i hi => ⟨hi.1, hi.2.2⟩).setn (p := ⟨g, 0, none⟩) (fun h => h.2.1 rfl) _
  refine ⟨hT.far (p := ⟨g, 0, none⟩) hg _, ?_, hK2, hA', fun n => okeeps_cells hK2 fun b o hb hc => ⟨(Array.getElem?_eq_some_iff.1 hb).1, ?_, fun x hx e => ?_⟩⟩
  · have := hH'.set 0 (.slice A' (xs.length + ws.length) c')
    rw [List.length_append]
    exact this
  · rintro rfl
    exact ohas_cells hH hb hc
  · subst e
    exact orow_cells h.a hx hb hc
end
/-- How the loop over the days stands: k of them are through; G: blocks that are the running function's own. -/
def OvI (w5 : World) (g7 g8 g9 : Nat) (Y1 Y2 Y3 : Nat → List (Int × Int)) (G : Nat → Prop) (k : Nat) (W : World) : Prop :=
  ∃ (P : Option Addr) (p : Nat) (Q : Option Addr) (q : Nat) (R : Option Addr) (r : Nat), Has W g9 #[.slice P (Y1 k).length p] ∧ Has W g7 #[.slice Q (Y2 k).length q] ∧ Has W g8 #[.slice R (Y3 k).length r] ∧ Thr W w5.heap.size P p (Y1 k) Q q (Y2 k) R r (Y3 k) ∧
    Kept (fun b => b < w5.heap.size ∧ b ≠ g7 ∧ b ≠ g8 ∧ b ≠ g9) w5 W ∧ (∀ b, G b → b < W.heap.size ∧ b ≠ g7 ∧ b ≠ g8 ∧ b ≠ g9 ∧ (∀ x, P = some x → x.block ≠ b) ∧ (∀ x, Q = some x → x.block ≠ b) ∧ (∀ x, R = some x → x.block ≠ b))
section
variable {w5 : World} {g7 g8 g9 : Nat} {Y1 Y2 Y3 : Nat → List (Int × Int)}
theorem ov_grow (G : Nat → Prop) (k : Nat) (A A' : World) (h : OvI w5 g7 g8 g9 Y1 Y2 Y3 G k A) (hb : Below A.heap.size A A') : OvI w5 g7 g8 g9 Y1 Y2 Y3 (Grow G A A') k A' := by
  obtain ⟨P, p, Q, q, R, r, h9, h7, h8, hT, hK, hG⟩ := h
  have z7 := h7.size
  have z8 := h8.size
  have z9 := h9.size
  have zb := hb.size
  refine ⟨P, p, Q, q, R, r, h9.below hb, h7.below hb, h8.below hb, hT.below hb, hK.on (Kept.of_below hb fun i hi => Nat.lt_of_lt_of_le hi.1 hK.size), fun b hq => ?_⟩
  rcases hq with hq | hq
  · have := hG b hq
    exact ⟨by omega, this.2⟩
  · exact ⟨hq.2, by omega, by omega, by omega, fun x hx => by have := (hT.a.lt x hx).2; omega, fun x hx => by have := (hT.b.lt x hx).2; omega, fun x hx => by have := (hT.e.lt x hx).2; omega⟩
theorem ov_less (G G' : Nat → Prop) (k : Nat) (A : World) (h : OvI w5 g7 g8 g9 Y1 Y2 Y3 G k A) (hG' : ∀ b, G' b → G b) : OvI w5 g7 g8 g9 Y1 Y2 Y3 G' k A := by
  obtain ⟨P, p, Q, q, R, r, h9, h7, h8, hT, hK, hG⟩ := h
  exact ⟨P, p, Q, q, R, r, h9, h7, h8, hT, hK, fun b hq => hG b (hG' b hq)⟩
theorem ov_put (G : Nat → Prop) (k : Nat) (W : World) (l : Nat) (o o' : Obj) (h : OvI w5 g7 g8 g9 Y1 Y2 Y3 G k W) (hl : w5.heap.size ≤ l) (ho : W.heap[l]? = some o) (hc : o.isCells = false) : OvI w5 g7 g8 g9 Y1 Y2 Y3 G k (W.putObj l o') := by
  obtain ⟨P, p, Q, q, R, r, h9, h7, h8, hT, hK, hG⟩ := h
  exact ⟨P, p, Q, q, R, r, ohas_put h9 o' ho hc, ohas_put h7 o' ho hc, ohas_put h8 o' ho hc, hT.obj o' ho hc, hK.on (kept_putObj o' fun q => by have := q.1; omega), fun b hq => ⟨by have := (hG b hq).1; simpa using this, (hG b hq).2⟩⟩
end
/-- Within a round that began at W: three variables, and what they hold. -/
structure OvR (W : World) (base : Nat) (G : Nat → Prop) (W' : World) (ga : Nat) (P : Option Addr) (p : Nat) (xs : List (Int × Int)) (gb : Nat) (Q : Option Addr) (q : Nat) (ys : List (Int × Int)) (gc : Nat) (R : Option Addr) (r : Nat) (zs : List (Int × Int)) : Prop where
  ha : Has W' ga #[.slice P xs.length p]
  hb : Has W' gb #[.slice Q ys.length q]
  hc : Has W' gc #[.slice R zs.length r]
  t : Thr W' base P p xs Q q ys R r zs
  la : ga < base
  lb : gb < base
  lc : gc < base
  ab : ga ≠ gb
  ac : ga ≠ gc
  bc : gb ≠ gc
  bs : base ≤ W'.heap.size
  kg : Kept G W W'
  kb : Kept (fun b => b < base ∧ b ≠ ga ∧ b ≠ gb ∧ b ≠ gc) W W'
  kf : ∀ n, KeepsFrom n W W'
  g : ∀ b, G b → b < W'.heap.size ∧ b ≠ ga ∧ b ≠ gb ∧ b ≠ gc ∧ (∀ x, P = some x → x.block ≠ b) ∧ (∀ x, Q = some x → x.block ≠ b) ∧ (∀ x, R = some x → x.block ≠ b)
section
variable {W W' W'' : World} {base ga gb gc p q r : Nat} {G : Nat → Prop} {P Q R : Option Addr} {xs ys zs : List (Int × Int)}
theorem OvR.rot (h : OvR W base G W' ga P p xs gb Q q ys gc R r zs) : OvR W base G W' gb Q q ys gc R r zs ga P p xs :=
  ⟨h.hb, h.hc, h.ha, h.t.rot, h.lb, h.lc, h.la, h.bc, h.ab.symm, h.ac.symm, h.bs, h.kg, h.kb.less fun i hi => ⟨hi.1, hi.2.2.2, hi.2.1, hi.2.2.1⟩, h.kf, fun b hb => by
    obtain ⟨a1, a2, a3, a4, a5, a6, a7⟩ := h.g b hb
    exact ⟨a1, a3, a4, a2, a6, a7, a5⟩⟩
theorem OvR.below (h : OvR W base G W' ga P p xs gb Q q ys gc R r zs) (k : Below W'.heap.size W' W'') : OvR W base G W'' ga P p xs gb Q q ys gc R r zs :=
  ⟨h.ha.below k, h.hb.below k, h.hc.below k, h.t.below k, h.la, h.lb, h.lc, h.ab, h.ac, h.bc, Nat.le_trans h.bs k.size, h.kg.on (Kept.of_below k fun b hb => (h.g b hb).1), h.kb.on (Kept.of_below k fun b hb => by have := h.bs; omega), fun n => (h.kf n).trans (okeeps_below k), fun b hb => by
    have := h.g b hb
    exact ⟨Nat.lt_of_lt_of_le this.1 k.size, this.2⟩⟩
theorem OvR.add (h : OvR W base G W' ga P p xs gb Q q ys gc R r zs) {n : Nat} {D : Option Addr} {ws : List (Int × Int)} (hs : Sl 2 W' D ws.length n (cells2 ws)) (hn : xs.length + ws.length ≤ 1000000000) :
    ∃ P' p' w', (Builtin.append_ #[31, 31] 31 #[.slice P xs.length p, .slice D ws.length n]).run Tryz.prog W' = .ok (.slice P' (xs.length + ws.length) p') w' ∧ Has w' ga #[.slice P xs.length p] ∧
      ∀ Z, w'.setCell ⟨ga, 0, none⟩ (.slice P' (xs.length + ws.length) p') = Z → OvR W base G Z ga P' p' (xs ++ ws) gb Q q ys gc R r zs ∧ Kept G W' Z ∧ Kept (fun b => b < base ∧ b ≠ ga ∧ b ≠ gb ∧ b ≠ gc) W' Z ∧ Kept (fun b => base ≤ b ∧ b < W'.heap.size ∧ ∀ x, P = some x → x.block ≠ b) W' Z := by
  obtain ⟨P', p', w', hr, hH, hfin⟩ := h.t.add hs h.la h.ha h.bs hn
  refine ⟨P', p', w', hr, hH, fun Z hZ => ?_⟩
  obtain ⟨hT, hHa, hK, hP', hKF⟩ := hfin Z hZ
  have n1 := h.ab
  have n2 := h.ac
  have l1 := h.la
  have l2 := h.lb
  have l3 := h.lc
  have e1 := h.bs
  have hrow : ∀ b, b < base → ∀ x, P = some x → x.block ≠ b := fun b hb x hx e => by have := (h.t.a.lt x hx).1; omega
  have kG : Kept G W' Z := hK.less fun b hb => by
    obtain ⟨a1, a2, a3, a4, a5, a6, a7⟩ := h.g b hb
    exact ⟨a1, a2, a5⟩
  have kB : Kept (fun b => b < base ∧ b ≠ ga ∧ b ≠ gb ∧ b ≠ gc) W' Z := hK.less fun b hb => ⟨by omega, hb.2.1, hrow b hb.1⟩
  refine ⟨⟨hHa, h.hb.kept ⟨by omega, n1.symm, hrow _ l2⟩ hK, h.hc.kept ⟨by omega, n2.symm, hrow _ l3⟩ hK, hT, l1, l2, l3, n1, n2, h.bc, Nat.le_trans e1 hK.size, h.kg.on kG, h.kb.on kB, fun n => (h.kf n).trans (hKF n), fun b hb => ?_⟩, kG, kB, hK.less fun b hb => ⟨hb.2.1, by omega, hb.2.2⟩⟩
  obtain ⟨a1, a2, a3, a4, a5, a6, a7⟩ := h.g b hb
  refine ⟨Nat.lt_of_lt_of_le a1 hK.size, a2, a3, a4, fun x hx e => ?_, a6, a7⟩
  rcases hP' x hx with ⟨y, hy, e2⟩ | e2
  · exact a5 y hy (e2.trans e)
  · omega
end
section
variable {w5 : World} {g7 g8 g9 : Nat} {Y1 Y2 Y3 : Nat → List (Int × Int)}
/-- A round begins. -/
theorem ov_start {G : Nat → Prop} {k : Nat} {W : World} (h : OvI w5 g7 g8 g9 Y1 Y2 Y3 G k W) (l7 : g7 < w5.heap.size) (l8 : g8 < w5.heap.size) (l9 : g9 < w5.heap.size) (n97 : g9 ≠ g7) (n98 : g9 ≠ g8) (n78 : g7 ≠ g8) :
    Kept (fun b => b < w5.heap.size ∧ b ≠ g7 ∧ b ≠ g8 ∧ b ≠ g9) w5 W ∧ ∃ P p Q q R r, OvR W w5.heap.size G W g9 P p (Y1 k) g7 Q q (Y2 k) g8 R r (Y3 k) := by
  obtain ⟨P, p, Q, q, R, r, h9, h7, h8, hT, hK, hG⟩ := h
  refine ⟨hK, P, p, Q, q, R, r, h9, h7, h8, hT, l9, l7, l8, n97, n98, n78, hK.size, Kept.refl _ _, Kept.refl _ _, fun n => KeepsFrom.refl _ _, fun b hb => ?_⟩
  obtain ⟨a1, a2, a3, a4, a5, a6, a7⟩ := hG b hb
  exact ⟨a1, a4, a2, a3, a5, a6, a7⟩
/-- A round has ended. -/
theorem ov_end {G : Nat → Prop} {k : Nat} {W W' : World} {P Q R : Option Addr} {p q r : Nat} {xs ys zs : List (Int × Int)} (hK : Kept (fun b => b < w5.heap.size ∧ b ≠ g7 ∧ b ≠ g8 ∧ b ≠ g9) w5 W) (h : OvR W w5.heap.size G W' g9 P p xs g7 Q q ys g8 R r zs) (e1 : Y1 k = xs) (e2 : Y2 k = ys) (e3 : Y3 k = zs) :
    OvI w5 g7 g8 g9 Y1 Y2 Y3 G k W' := by
  subst e1 e2 e3
  refine ⟨P, p, Q, q, R, r, h.ha, h.hb, h.hc, h.t, hK.on (h.kb.less fun b hb => ⟨hb.1, hb.2.2.2, hb.2.1, hb.2.2.1⟩), fun b hb => ?_⟩
  obtain ⟨a1, a2, a3, a4, a5, a6, a7⟩ := h.g b hb
  exact ⟨a1, a3, a4, a2, a5, a6, a7⟩
end
end Go.Proofs.YthdolmhnjinlhaaGreat
