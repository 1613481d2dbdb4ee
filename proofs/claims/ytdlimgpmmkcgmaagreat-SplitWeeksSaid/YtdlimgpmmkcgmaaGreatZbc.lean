/-
  The calls whose answers layer 15's document fixes: they are as it says; few; what the laws carry over their calls.
  Plain facts for the laws of breaks: what is paid and what is not, together, of a day, by its first and its last ones.
  Three slices of spans of the call's own, what they keep while a function that makes blocks of its own runs the loop that grows them.
  What a call that tells three lists of spans answers: slices of its own.
  Slices of parts of a week (api.Part), as rows of three numbers: read, of the call's own, grown.
  A week's parts, as the document has them. No program here.
-/
import Derived.Test.YtdlimgpmmkcgmaaGreatZbb
import Derived.Test.YtdlimgpmmkcgmaaGreatZas
import Derived.Deep.DeepCutAuto
import Derived.Test.YtdlimgpmmkcgmaaGreatZap
import Derived.Test.YtdlimgpmmkcgmaaGreatZaz
import Derived.Test.YtdlimgpmmkcgmaaGreatZak
import Derived.Test.YtdlimgpmmkcgmaaGreatZay
import Derived.Test.YtdlimgpmmkcgmaaGreatZad
import Derived.Test.YtdlimgpmmkcgmaaGreatZan
import Derived.Test.YtdlimgpmmkcgmaaGreatZba
import Derived.Test.YtdlimgpmmkcgmaaGreatZat
import Derived.Test.YtdlimgpmmkcgmaaGreatZab
namespace Go.Proofs.YtdlimgpmmkcgmaaGreat
open Go.RowKit
set_option linter.unusedVariables false
set_option linter.unusedSimpArgs false
set_option maxRecDepth 20000

/-- What a law carries over its calls: the setup, its variable, the parts. -/
structure Bx (w0 w : World) (g : Nat) (s : SetP) (cs : Array Value) (A : Option Addr) (n cp : Nat) (l : List SegP) : Prop where
  b : Below w0.heap.size w0 w
  c : SetC w s cs
  h : Has w g cs
  x : Segs w A n cp l
theorem Bx.below {w0 w w' : World} {g : Nat} {s : SetP} {cs : Array Value} {A : Option Addr} {n c : Nat} {l : List SegP} (h : Bx w0 w g s cs A n c l) (hb : Below w.heap.size w w') : Bx w0 w' g s cs A n c l := ⟨bel_on h.b hb, h.c.below hb, h.h.below hb, h.x.below hb⟩
theorem bx_start {w : World} {s : SetP} {cs : Array Value} {A : Option Addr} {n c : Nat} {l : List SegP} (hc : SetC w s cs) (hx : Segs w A n c l) : Bx w (w.alloc (.cells cs 30)) w.heap.size s cs A n c l :=
  ⟨bel_alloc (Below.refl _ _) _, hc.below (bel_alloc (Below.refl _ _) _), Has.new _ _ _ rfl, hx.below (bel_alloc (Below.refl _ _) _)⟩
/-! ### few -/
set_option maxHeartbeats 4000000 in
theorem few15 (s : SetP) (cs : Array Value) (w : World) (hC : SetC w s cs) (A : Option Addr) (n c : Nat) (l : List SegP) (hx : Segs w A n c l) (hmax : n ≤ 9223372036854775807) :
    Calls Tryz.prog 9 #[.agg cs, .slice A n c] w fun e w' => (∃ b, e = .returned (.bool b) ∧ (b = true → n ≤ 30)) ∧ Below w.heap.size w w' := by
  have HZ := Lib.hid hC.size
  have hb0 := bel_alloc (Below.refl w.heap.size w) (.cells cs 30)
  have HB0 := Lib.hid (Has.new w 30 cs rfl)
  have HS0 := Lib.hid (hC.below hb0)
  have HX0 := Lib.hid (hx.below hb0)
  have HBW := Lib.hid hb0
  clear hC hx hb0
  go_enter Tryz.func9, Tryz.ntmps9
  go_wp2
  generalize w.alloc (.cells cs 30) = w1 at *
  go_loopw [5] (fun i wr => ∃ (k : Nat), k ≤ n ∧ i = .int .i64 k ∧ Hid (Below w1.heap.size w1 wr)) (fun i _ => n - (intOf i).toNat)
  case atStart => exact ⟨0, Nat.zero_le _, rfl, Below.refl _ _⟩
  case round =>
    obtain ⟨k, hk, rfl, hbw⟩ := hrel
    by_cases hlt : k < n
    · have HXr := HX0.out.below hbw.out
      obtain ⟨ba, oa, rfl⟩ := HXr.form (by omega)
      obtain ⟨sg, hx⟩ : ∃ x, l.getD k SegP.none = x := ⟨_, rfl⟩
      obtain ⟨d1, d2, -, -, -⟩ := segs_num HXr hlt sg hx
      have zl := cell_lt d1
      clear HXr hx
      generalize sg.fr = x at *
      generalize sg.to = y at *
      have i0 : (0 : Int) ≤ (k : Int) := by omega
      have i1 : (k : Int) < (n : Int) := by omega
      obtain ⟨q, hq⟩ : ∃ q, IntKind.i64.wrap (y - x) = q := ⟨_, rfl⟩
      have HEND : ∀ m, Hid (Below w.heap.size w (wr.drewN m)) := fun m => below_drewN (bel_on HBW.out hbw.out) m
      have HBAD : ∀ m, Hid ((∃ b, Ending.returned (.bool false) = .returned (.bool b) ∧ (b = true → n ≤ 30)) ∧ Below w.heap.size w (wr.drewN m)) := fun m => ⟨⟨false, rfl, fun h => by cases h⟩, (HEND m).out⟩
      by_cases x0 : x < 0
      · go_wp2
        go_quiet (fail)
        go_wp2
        go_ret
        exact (HBAD _).out
      have x0' : decide (x < 0) = false := decide_eq_false x0
      by_cases x1 : 33000000 < x
      · go_wp2
        go_quiet (fail)
        go_wp2
        go_ret
        exact (HBAD _).out
      have x1' : decide (33000000 < x) = false := decide_eq_false x1
      by_cases x2 : 33000000 < y
      · go_wp2
        go_quiet (fail)
        go_wp2
        go_ret
        exact (HBAD _).out
      have x2' : decide (33000000 < y) = false := decide_eq_false x2
      by_cases x3 : 864000 < q
      · go_wp2
        go_quiet (fail)
        go_wp2
        go_ret
        exact (HBAD _).out
      have x3' : decide (864000 < q) = false := decide_eq_false x3
      clear HBAD HEND
      go_wp2
      go_quiet (fail)
      go_wp2
      go_roundw
      case rel => exact ⟨k + 1, by omega, by go_num, below_drewN hbw.out _⟩
      case measure => simp [intOf]; omega
    · obtain rfl : k = n := by omega
      have HB2 := Lib.hid (bel_on HBW.out hbw.out)
      have HG2 := Lib.hid (HB0.out.below hbw.out)
      cases hF : decide s.Few with
      | false =>
        have HC := Lib.hid (few_c (HS0.out.below hbw.out) false hF)
        clear hF hbw
        go_wp2_with (refine wpList_load_sp (by rfl) _ rfl w.heap.size rfl cs HG2.out HZ.out ?_)
        refine HC.out.mono ?_
        rintro e w3 ⟨rfl, b3⟩
        have HB3 := Lib.hid (bel_on HB2.out b3)
        clear b3
        go_wp2
        go_ret
        exact ⟨⟨false, rfl, fun h => by cases h⟩, HB3.out⟩
      | true =>
        have HC := Lib.hid (few_c (HS0.out.below hbw.out) true hF)
        clear hF hbw
        go_wp2_with (refine wpList_load_sp (by rfl) _ rfl w.heap.size rfl cs HG2.out HZ.out ?_)
        refine HC.out.mono ?_
        rintro e w3 ⟨rfl, b3⟩
        have HB3 := Lib.hid (bel_on HB2.out b3)
        clear b3
        by_cases h30 : k ≤ 30
        · have hnI : (k : Int) ≤ 30 := by omega
          go_wp2
          go_ret
          exact ⟨⟨true, rfl, fun _ => h30⟩, HB3.out⟩
        · have hnI : ¬ (k : Int) ≤ 30 := by omega
          go_wp2
          go_ret
          exact ⟨⟨false, ret_bool (by simp; omega), fun h => by cases h⟩, HB3.out⟩
end Go.Proofs.YtdlimgpmmkcgmaaGreat

namespace Go.Proofs.YtdlimgpmmkcgmaaGreat
open Go.RowKit
set_option linter.unusedVariables false
set_option linter.unusedSimpArgs false
set_option maxRecDepth 100000

theorem wpList_append_run_onB {P : Program} {ops : Array Oper} {rest : List Oper} {o : Oper} {a : Act} {w w' : World} {Q : Exit → Act → World → Prop} {s x : Operand} {t : TypeId} {v u v' : Value}
    (hr : (Builtin.append_ #[t, t] o.type #[v, u]).run P w = .ok v' w') (hgd : Region.wanted o (yielded ops a.tmps) = true)
    (ho : o.op = .call { callee := .builtin .append, args := #[s, x], argTypes := #[t, t] }) (hs : a.eval s = v) (hx : a.eval x = u)
    (h : wpList P ops Q rest (a.put o.dst v') w') : wpList P ops Q (o :: rest) a w := by
  refine wpList_step fun K hK => ?_
  rw [if_pos hgd]
  unfold Oper.wp execOp
  simp only [ho, resolve, invoke, builtin, Sem.run_bind, Sem.run_pure, Result.andThen_ok, List.map_toArray, List.map_cons, List.map_nil, hs, hx, hr]
  exact hK _ _ h
section
variable {s : SetP} {l : List SegP}
theorem yes_plain (b : Bool) (s : SetP) (l : List SegP) : PlainFrom 0 (allYes b s l) := by
  unfold allYes
  split
  · exact canon_plain _
  · trivial
theorem no_plain (b : Bool) (s : SetP) (l : List SegP) : PlainFrom 0 (allNo b s l) := by
  unfold allNo
  split
  · exact canon_plain _
  · trivial
theorem dyes_plain (b : Bool) (s : SetP) (l : List SegP) (d : Int) : PlainFrom 0 (dayYes b s l d) := by
  unfold dayYes
  split
  · exact canon_plain _
  · trivial
theorem dno_plain (b : Bool) (s : SetP) (l : List SegP) (d : Int) : PlainFrom 0 (dayNo b s l d) := by
  unfold dayNo
  split
  · exact canon_plain _
  · trivial
theorem pl_len {l : List (Int × Int)} (h : PlainFrom 0 l) : l.length ≤ 32054401 := by have := plain_len h (by omega); omega
end
end Go.Proofs.YtdlimgpmmkcgmaaGreat

namespace Go.Proofs.YtdlimgpmmkcgmaaGreat
open Go.RowKit
set_option linter.unusedVariables false
set_option linter.unusedSimpArgs false
set_option maxRecDepth 20000

/-- Three slices of the call's own, in three blocks. -/
structure Thr (w : World) (base : Nat) (A : Option Addr) (c : Nat) (xs : List (Int × Int)) (B : Option Addr) (d : Nat) (ys : List (Int × Int)) (E : Option Addr) (f : Nat) (zs : List (Int × Int)) : Prop where
  a : Row w base A c xs
  b : Row w base B d ys
  e : Row w base E f zs
  ab : ∀ x y, A = some x → B = some y → x.block ≠ y.block
  ae : ∀ x y, A = some x → E = some y → x.block ≠ y.block
  be : ∀ x y, B = some x → E = some y → x.block ≠ y.block
section
variable {w w' : World} {base c d f : Nat} {A B E : Option Addr} {xs ys zs : List (Int × Int)}
theorem Thr.start (w : World) (base : Nat) : Thr w base none 0 [] none 0 [] none 0 [] := ⟨Row.nil _ _, Row.nil _ _, Row.nil _ _, (fun x y h => by cases h), (fun x y h => by cases h), (fun x y h => by cases h)⟩
theorem Thr.below (h : Thr w base A c xs B d ys E f zs) (hb : Below w.heap.size w w') : Thr w' base A c xs B d ys E f zs := ⟨h.a.below hb, h.b.below hb, h.e.below hb, h.ab, h.ae, h.be⟩
theorem Thr.rot (h : Thr w base A c xs B d ys E f zs) : Thr w base B d ys E f zs A c xs := ⟨h.b, h.e, h.a, h.be, fun x y hx hy q => h.ab y x hy hx q.symm, fun x y hx hy q => h.ae y x hy hx q.symm⟩
theorem Thr.far (h : Thr w base A c xs B d ys E f zs) {p : Addr} (hp : p.block < base) (v : Value) : Thr (w.setCell p v) base A c xs B d ys E f zs :=
  ⟨h.a.far (fun a ha => by have := (h.a.lt a ha).1; omega) v, h.b.far (fun a ha => by have := (h.b.lt a ha).1; omega) v, h.e.far (fun a ha => by have := (h.e.lt a ha).1; omega) v, h.ab, h.ae, h.be⟩
theorem Thr.push (h : Thr w base A c xs B d ys E f zs) {D : Option Addr} {m : Nat} {ws : List (Int × Int)} (hs : Sl 2 w D ws.length m (cells2 ws)) (hn : xs.length + ws.length ≤ 1000000000) (hbase : base ≤ w.heap.size) :
    ∃ A' c' w', (Builtin.append_ #[40, 40] 40 #[.slice A xs.length c, .slice D ws.length m]).run Tryz.prog w = .ok (.slice A' (xs.length + ws.length) c') w' ∧ Thr w' base A' c' (xs ++ ws) B d ys E f zs ∧
      Kept (fun k => k < w.heap.size ∧ ∀ x, A = some x → x.block ≠ k) w w' := by
  obtain ⟨A', c', w', hr, ho, _, hg, hl⟩ := row_append h.a hs hn hbase
  have hK : Kept (fun k => k < w.heap.size ∧ ∀ x, A = some x → x.block ≠ k) w w' := by
    refine ⟨hg.os, hg.tape, hg.output, hg.size, fun k hk => hg.block k hk.1 ?_⟩
    intro q
    cases A with
    | none => simp [Value.ownBlock] at q
    | some a0 =>
      simp [Value.ownBlock] at q
      exact hk.2 a0 rfl (by omega)
  have key : ∀ y : Addr, y.block < w.heap.size → (∀ x, A = some x → x.block ≠ y.block) → ∀ x, A' = some x → x.block ≠ y.block := fun y hy hne x hx e => by
    subst hx
    rcases hl with q | q
    · cases A with
      | none => simp [Value.ownBlock] at q
      | some a0 =>
        simp [Value.ownBlock] at q
        exact hne a0 rfl (by omega)
    · simp [Value.ownBlock] at q
      omega
  exact ⟨A', c', w', hr, ⟨ho, h.b.keep fun g hgb => hK.block _ ⟨(h.b.lt g hgb).2, fun x hx => h.ab x g hx hgb⟩, h.e.keep fun g hgb => hK.block _ ⟨(h.e.lt g hgb).2, fun x hx => h.ae x g hx hgb⟩,
    fun x y hx hy => key y (h.b.lt y hy).2 (fun z hz => h.ab z y hz hy) x hx, fun x y hx hy => key y (h.e.lt y hy).2 (fun z hz => h.ae z y hz hy) x hx, h.be⟩, hK⟩
theorem Thr.one (h : Thr w base A c xs B d ys E f zs) {n : Nat} (hn : xs.length = n) (x y : Int) (hm : n ≤ 100000000) (hbase : base ≤ w.heap.size) {s : Nat} (hs : w.heap.size = s) :
    ∃ A' c' w', (Builtin.append_ #[40, 40] 40 #[.slice A n c, .slice (some ⟨s, 0, none⟩) 1 1]).run Tryz.prog (w.alloc (.cells #[.int .i64 x, .int .i64 y] 44)) = .ok (.slice A' (n + 1) c') w' ∧ Thr w' base A' c' (xs ++ [(x, y)]) B d ys E f zs ∧
      Kept (fun k => k < base) w w' := by
  subst hn
  have hb := bel_alloc (Below.refl w.heap.size w) (.cells #[.int .i64 x, .int .i64 y] 44)
  obtain ⟨A', c', w', h1, h2, h3⟩ := (h.below hb).push (ws := [(x, y)]) (sl_one w 44 (x, y) hs) (by simp; omega) (by simp; omega)
  refine ⟨A', c', w', h1, h2, (Kept.of_below hb fun i hi => by omega).on (h3.less fun i hi => ⟨by simp; omega, fun z hz => ?_⟩)⟩
  have := (h.a.lt z hz).1
  omega
end

theorem okeeps_below {n : Nat} {W W' : World} (h : Below W.heap.size W W') : KeepsFrom n W W' :=
  ⟨h.size, fun k o _ hk ho => (h.block k (Array.getElem?_eq_some_iff.1 hk).1).trans hk⟩
theorem okeeps_cells {F : Nat → Prop} {n : Nat} {W W' : World} (h : Kept F W W') (hF : ∀ b o, W.heap[b]? = some o → o.isCells = false → F b) : KeepsFrom n W W' :=
  ⟨h.size, fun k o _ hk ho => (h.block k (hF k o hk ho)).trans hk⟩
theorem ohas_cells {w : World} {g : Nat} {cs : Array Value} (h : Has w g cs) {o : Obj} (ho : w.heap[g]? = some o) (hc : o.isCells = false) : False := by
  obtain ⟨t, h⟩ := h
  rw [h] at ho
  cases ho
  cases hc
theorem ohas_put {w : World} {g : Nat} {cs : Array Value} (h : Has w g cs) {l : Nat} {o : Obj} (o' : Obj) (ho : w.heap[l]? = some o) (hc : o.isCells = false) : Has (w.putObj l o') g cs := by
  have hne : g ≠ l := by rintro rfl; exact ohas_cells h ho hc
  obtain ⟨t, h⟩ := h
  exact ⟨t, (World.putObj_heap_other hne).trans h⟩
theorem orow_cells {w : World} {base c : Nat} {A : Option Addr} {xs : List (Int × Int)} (h : Row w base A c xs) {a : Addr} (ha : A = some a) {o : Obj} (ho : w.heap[a.block]? = some o) (hc : o.isCells = false) : False := by
  subst ha
  rcases h.2 with ⟨hv, _⟩ | ⟨g', cap, cur, hv, _, hh, _⟩
  · cases hv
  · injection hv with e1
    simp only [Option.some.injEq] at e1
    subst e1
    change w.heap[g']? = some o at ho
    rw [hh] at ho
    cases ho
    cases hc
theorem orow_put {w : World} {base c : Nat} {A : Option Addr} {xs : List (Int × Int)} (h : Row w base A c xs) {l : Nat} {o : Obj} (o' : Obj) (ho : w.heap[l]? = some o) (hc : o.isCells = false) : Row (w.putObj l o') base A c xs :=
  h.keep fun g hg => World.putObj_heap_other (by rintro e; subst e; exact orow_cells h hg ho hc)
section
variable {w w' : World} {base c d f : Nat} {A B E : Option Addr} {xs ys zs : List (Int × Int)}
theorem Thr.obj (h : Thr w base A c xs B d ys E f zs) {l : Nat} {o : Obj} (o' : Obj) (ho : w.heap[l]? = some o) (hc : o.isCells = false) : Thr (w.putObj l o') base A c xs B d ys E f zs :=
  ⟨orow_put h.a o' ho hc, orow_put h.b o' ho hc, orow_put h.e o' ho hc, h.ab, h.ae, h.be⟩
/-- One of the three grows by another list, and its variable is told. -/
theorem Thr.add (h : Thr w base A c xs B d ys E f zs) {g n : Nat} {D : Option Addr} {ws : List (Int × Int)} (hs : Sl 2 w D ws.length n (cells2 ws)) (hg : g < base) (hH : Has w g #[.slice A xs.length c]) (hbs : base ≤ w.heap.size) (hn : xs.length + ws.length ≤ 1000000000) :
    ∃ A' c' w', (Builtin.append_ #[40, 40] 40 #[.slice A xs.length c, .slice D ws.length n]).run Tryz.prog w = .ok (.slice A' (xs.length + ws.length) c') w' ∧ Has w' g #[.slice A xs.length c] ∧
      ∀ W, w'.setCell ⟨g, 0, none⟩ (.slice A' (xs.length + ws.length) c') = W → Thr W base A' c' (xs ++ ws) B d ys E f zs ∧ Has W g #[.slice A' (xs ++ ws).length c'] ∧
        Kept (fun b => b < w.heap.size ∧ b ≠ g ∧ ∀ x, A = some x → x.block ≠ b) w W ∧ (∀ x, A' = some x → (∃ y, A = some y ∧ y.block = x.block) ∨ w.heap.size ≤ x.block) ∧ (∀ n, KeepsFrom n w W) := by
  obtain ⟨A', c', w', hr, ho, _, hgr, hl⟩ := row_append h.a hs hn hbs
  have hK : Kept (fun k => k < w.heap.size ∧ ∀ x, A = some x → x.block ≠ k) w w' := by
    refine ⟨hgr.os, hgr.tape, hgr.output, hgr.size, fun k hk => hgr.block k hk.1 ?_⟩
    intro q
    cases A with
    | none => simp [Value.ownBlock] at q
    | some a0 =>
      simp [Value.ownBlock] at q
      exact hk.2 a0 rfl (by omega)
  have hA' : ∀ x, A' = some x → (∃ y, A = some y ∧ y.block = x.block) ∨ w.heap.size ≤ x.block := fun x hx => by
    subst hx
    rcases hl with q | q
    · cases A with
      | none => simp [Value.ownBlock] at q
      | some a0 =>
        simp [Value.ownBlock] at q
        exact .inl ⟨a0, rfl, q.symm⟩
    · simp [Value.ownBlock] at q
      exact .inr (by omega)
  have key : ∀ y : Addr, y.block < w.heap.size → (∀ x, A = some x → x.block ≠ y.block) → ∀ x, A' = some x → x.block ≠ y.block := fun y hy hne x hx e => by
    rcases hA' x hx with ⟨z, hz, q⟩ | q
    · exact hne z hz (q.trans e)
    · omega
  have hT : Thr w' base A' c' (xs ++ ws) B d ys E f zs := ⟨ho, h.b.keep fun g hgb => hK.block _ ⟨(h.b.lt g hgb).2, fun x hx => h.ab x g hx hgb⟩, h.e.keep fun g hgb => hK.block _ ⟨(h.e.lt g hgb).2, fun x hx => h.ae x g hx hgb⟩,
    fun x y hx hy => key y (h.b.lt y hy).2 (fun z hz => h.ab z y hz hy) x hx, fun x y hx hy => key y (h.e.lt y hy).2 (fun z hz => h.ae z y hz hy) x hx, h.be⟩
  have hH' := hH.kept (F := fun k => k < w.heap.size ∧ ∀ x, A = some x → x.block ≠ k) ⟨hH.size, fun x hx => by have := (h.a.lt x hx).1; omega⟩ hK
  refine ⟨A', c', w', hr, hH', ?_⟩
  rintro _ rfl
  have hK2 : Kept (fun b => b < w.heap.size ∧ b ≠ g ∧ ∀ x, A = some x → x.block ≠ b) w (w'.setCell ⟨g, 0, none⟩ (.slice A' (xs.length + ws.length) c')) :=
    (hK.less fun i hi => ⟨hi.1, hi.2.2⟩).setn (p := ⟨g, 0, none⟩) (fun h => h.2.1 rfl) _
  refine ⟨hT.far (p := ⟨g, 0, none⟩) hg _, ?_, hK2, hA', fun n => okeeps_cells hK2 fun b o hb hc => ⟨(Array.getElem?_eq_some_iff.1 hb).1, ?_, fun x hx e => ?_⟩⟩
  · have := hH'.set 0 (.slice A' (xs.length + ws.length) c')
    rw [List.length_append]
    exact this
  · rintro rfl
    exact ohas_cells hH hb hc
  · subst e
    exact orow_cells h.a hx hb hc
end
/-- How the loop over the days stands: k of them are through; G: blocks that are the running function's own. -/
def OvI (w5 : World) (g7 g8 g9 : Nat) (Y1 Y2 Y3 : Nat → List (Int × Int)) (G : Nat → Prop) (k : Nat) (W : World) : Prop :=
  ∃ (P : Option Addr) (p : Nat) (Q : Option Addr) (q : Nat) (R : Option Addr) (r : Nat), Has W g9 #[.slice P (Y1 k).length p] ∧ Has W g7 #[.slice Q (Y2 k).length q] ∧ Has W g8 #[.slice R (Y3 k).length r] ∧ Thr W w5.heap.size P p (Y1 k) Q q (Y2 k) R r (Y3 k) ∧
    Kept (fun b => b < w5.heap.size ∧ b ≠ g7 ∧ b ≠ g8 ∧ b ≠ g9) w5 W ∧ (∀ b, G b → b < W.heap.size ∧ b ≠ g7 ∧ b ≠ g8 ∧ b ≠ g9 ∧ (∀ x, P = some x → x.block ≠ b) ∧ (∀ x, Q = some x → x.block ≠ b) ∧ (∀ x, R = some x → x.block ≠ b))
section
variable {w5 : World} {g7 g8 g9 : Nat} {Y1 Y2 Y3 : Nat → List (Int × Int)}
theorem ov_grow (G : Nat → Prop) (k : Nat) (A A' : World) (h : OvI w5 g7 g8 g9 Y1 Y2 Y3 G k A) (hb : Below A.heap.size A A') : OvI w5 g7 g8 g9 Y1 Y2 Y3 (Grow G A A') k A' := by
  obtain ⟨P, p, Q, q, R, r, h9, h7, h8, hT, hK, hG⟩ := h
  have z7 := h7.size
  have z8 := h8.size
  have z9 := h9.size
  have zb := hb.size
  refine ⟨P, p, Q, q, R, r, h9.below hb, h7.below hb, h8.below hb, hT.below hb, hK.on (Kept.of_below hb fun i hi => Nat.lt_of_lt_of_le hi.1 hK.size), fun b hq => ?_⟩
  rcases hq with hq | hq
  · have := hG b hq
    exact ⟨by omega, this.2⟩
  · exact ⟨hq.2, by omega, by omega, by omega, fun x hx => by have := (hT.a.lt x hx).2; omega, fun x hx => by have := (hT.b.lt x hx).2; omega, fun x hx => by have := (hT.e.lt x hx).2; omega⟩
theorem ov_less (G G' : Nat → Prop) (k : Nat) (A : World) (h : OvI w5 g7 g8 g9 Y1 Y2 Y3 G k A) (hG' : ∀ b, G' b → G b) : OvI w5 g7 g8 g9 Y1 Y2 Y3 G' k A := by
  obtain ⟨P, p, Q, q, R, r, h9, h7, h8, hT, hK, hG⟩ := h
  exact ⟨P, p, Q, q, R, r, h9, h7, h8, hT, hK, fun b hq => hG b (hG' b hq)⟩
theorem ov_put (G : Nat → Prop) (k : Nat) (W : World) (l : Nat) (o o' : Obj) (h : OvI w5 g7 g8 g9 Y1 Y2 Y3 G k W) (hl : w5.heap.size ≤ l) (ho : W.heap[l]? = some o) (hc : o.isCells = false) : OvI w5 g7 g8 g9 Y1 Y2 Y3 G k (W.putObj l o') := by
  obtain ⟨P, p, Q, q, R, r, h9, h7, h8, hT, hK, hG⟩ := h
  exact ⟨P, p, Q, q, R, r, ohas_put h9 o' ho hc, ohas_put h7 o' ho hc, ohas_put h8 o' ho hc, hT.obj o' ho hc, hK.on (kept_putObj o' fun q => by have := q.1; omega), fun b hq => ⟨by have := (hG b hq).1; simpa using this, (hG b hq).2⟩⟩
end
/-- Within a round that began at W: three variables, and what they hold. -/
structure OvR (W : World) (base : Nat) (G : Nat → Prop) (W' : World) (ga : Nat) (P : Option Addr) (p : Nat) (xs : List (Int × Int)) (gb : Nat) (Q : Option Addr) (q : Nat) (ys : List (Int × Int)) (gc : Nat) (R : Option Addr) (r : Nat) (zs : List (Int × Int)) : Prop where
  ha : Has W' ga #[.slice P xs.length p]
  hb : Has W' gb #[.slice Q ys.length q]
  hc : Has W' gc #[.slice R zs.length r]
  t : Thr W' base P p xs Q q ys R r zs
  la : ga < base
  lb : gb < base
  lc : gc < base
  ab : ga ≠ gb
  ac : ga ≠ gc
  bc : gb ≠ gc
  bs : base ≤ W'.heap.size
  kg : Kept G W W'
  kb : Kept (fun b => b < base ∧ b ≠ ga ∧ b ≠ gb ∧ b ≠ gc) W W'
  kf : ∀ n, KeepsFrom n W W'
  g : ∀ b, G b → b < W'.heap.size ∧ b ≠ ga ∧ b ≠ gb ∧ b ≠ gc ∧ (∀ x, P = some x → x.block ≠ b) ∧ (∀ x, Q = some x → x.block ≠ b) ∧ (∀ x, R = some x → x.block ≠ b)
section
variable {W W' W'' : World} {base ga gb gc p q r : Nat} {G : Nat → Prop} {P Q R : Option Addr} {xs ys zs : List (Int × Int)}
theorem OvR.rot (h : OvR W base G W' ga P p xs gb Q q ys gc R r zs) : OvR W base G W' gb Q q ys gc R r zs ga P p xs :=
  ⟨h.hb, h.hc, h.ha, h.t.rot, h.lb, h.lc, h.la, h.bc, h.ab.symm, h.ac.symm, h.bs, h.kg, h.kb.less fun i hi => ⟨hi.1, hi.2.2.2, hi.2.1, hi.2.2.1⟩, h.kf, fun b hb => by
    obtain ⟨a1, a2, a3, a4, a5, a6, a7⟩ := h.g b hb
    exact ⟨a1, a3, a4, a2, a6, a7, a5⟩⟩
theorem OvR.below (h : OvR W base G W' ga P p xs gb Q q ys gc R r zs) (k : Below W'.heap.size W' W'') : OvR W base G W'' ga P p xs gb Q q ys gc R r zs :=
  ⟨h.ha.below k, h.hb.below k, h.hc.below k, h.t.below k, h.la, h.lb, h.lc, h.ab, h.ac, h.bc, Nat.le_trans h.bs k.size, h.kg.on (Kept.of_below k fun b hb => (h.g b hb).1), h.kb.on (Kept.of_below k fun b hb => by have := h.bs; omega), fun n => (h.kf n).trans (okeeps_below k), fun b hb => by
    have := h.g b hb
    exact ⟨Nat.lt_of_lt_of_le this.1 k.size, this.2⟩⟩
theorem OvR.add (h : OvR W base G W' ga P p xs gb Q q ys gc R r zs) {n : Nat} {D : Option Addr} {ws : List (Int × Int)} (hs : Sl 2 W' D ws.length n (cells2 ws)) (hn : xs.length + ws.length ≤ 1000000000) :
    ∃ P' p' w', (Builtin.append_ #[40, 40] 40 #[.slice P xs.length p, .slice D ws.length n]).run Tryz.prog W' = .ok (.slice P' (xs.length + ws.length) p') w' ∧ Has w' ga #[.slice P xs.length p] ∧
      ∀ Z, w'.setCell ⟨ga, 0, none⟩ (.slice P' (xs.length + ws.length) p') = Z → OvR W base G Z ga P' p' (xs ++ ws) gb Q q ys gc R r zs ∧ Kept G W' Z ∧ Kept (fun b => b < base ∧ b ≠ ga ∧ b ≠ gb ∧ b ≠ gc) W' Z ∧ Kept (fun b => base ≤ b ∧ b < W'.heap.size ∧ ∀ x, P = some x → x.block ≠ b) W' Z := by
  obtain ⟨P', p', w', hr, hH, hfin⟩ := h.t.add hs h.la h.ha h.bs hn
  refine ⟨P', p', w', hr, hH, fun Z hZ => ?_⟩
  obtain ⟨hT, hHa, hK, hP', hKF⟩ := hfin Z hZ
  have n1 := h.ab
  have n2 := h.ac
  have l1 := h.la
  have l2 := h.lb
  have l3 := h.lc
  have e1 := h.bs
  have hrow : ∀ b, b < base → ∀ x, P = some x → x.block ≠ b := fun b hb x hx e => by have := (h.t.a.lt x hx).1; omega
  have kG : Kept G W' Z := hK.less fun b hb => by
    obtain ⟨a1, a2, a3, a4, a5, a6, a7⟩ := h.g b hb
    exact ⟨a1, a2, a5⟩
  have kB : Kept (fun b => b < base ∧ b ≠ ga ∧ b ≠ gb ∧ b ≠ gc) W' Z := hK.less fun b hb => ⟨by omega, hb.2.1, hrow b hb.1⟩
  refine ⟨⟨hHa, h.hb.kept ⟨by omega, n1.symm, hrow _ l2⟩ hK, h.hc.kept ⟨by omega, n2.symm, hrow _ l3⟩ hK, hT, l1, l2, l3, n1, n2, h.bc, Nat.le_trans e1 hK.size, h.kg.on kG, h.kb.on kB, fun n => (h.kf n).trans (hKF n), fun b hb => ?_⟩, kG, kB, hK.less fun b hb => ⟨hb.2.1, by omega, hb.2.2⟩⟩
  obtain ⟨a1, a2, a3, a4, a5, a6, a7⟩ := h.g b hb
  refine ⟨Nat.lt_of_lt_of_le a1 hK.size, a2, a3, a4, fun x hx e => ?_, a6, a7⟩
  rcases hP' x hx with ⟨y, hy, e2⟩ | e2
  · exact a5 y hy (e2.trans e)
  · omega
end
section
variable {w5 : World} {g7 g8 g9 : Nat} {Y1 Y2 Y3 : Nat → List (Int × Int)}
/-- A round begins. -/
theorem ov_start {G : Nat → Prop} {k : Nat} {W : World} (h : OvI w5 g7 g8 g9 Y1 Y2 Y3 G k W) (l7 : g7 < w5.heap.size) (l8 : g8 < w5.heap.size) (l9 : g9 < w5.heap.size) (n97 : g9 ≠ g7) (n98 : g9 ≠ g8) (n78 : g7 ≠ g8) :
    Kept (fun b => b < w5.heap.size ∧ b ≠ g7 ∧ b ≠ g8 ∧ b ≠ g9) w5 W ∧ ∃ P p Q q R r, OvR W w5.heap.size G W g9 P p (Y1 k) g7 Q q (Y2 k) g8 R r (Y3 k) := by
  obtain ⟨P, p, Q, q, R, r, h9, h7, h8, hT, hK, hG⟩ := h
  refine ⟨hK, P, p, Q, q, R, r, h9, h7, h8, hT, l9, l7, l8, n97, n98, n78, hK.size, Kept.refl _ _, Kept.refl _ _, fun n => KeepsFrom.refl _ _, fun b hb => ?_⟩
  obtain ⟨a1, a2, a3, a4, a5, a6, a7⟩ := hG b hb
  exact ⟨a1, a4, a2, a3, a5, a6, a7⟩
/-- A round has ended. -/
theorem ov_end {G : Nat → Prop} {k : Nat} {W W' : World} {P Q R : Option Addr} {p q r : Nat} {xs ys zs : List (Int × Int)} (hK : Kept (fun b => b < w5.heap.size ∧ b ≠ g7 ∧ b ≠ g8 ∧ b ≠ g9) w5 W) (h : OvR W w5.heap.size G W' g9 P p xs g7 Q q ys g8 R r zs) (e1 : Y1 k = xs) (e2 : Y2 k = ys) (e3 : Y3 k = zs) :
    OvI w5 g7 g8 g9 Y1 Y2 Y3 G k W' := by
  subst e1 e2 e3
  refine ⟨P, p, Q, q, R, r, h.ha, h.hb, h.hc, h.t, hK.on (h.kb.less fun b hb => ⟨hb.1, hb.2.2.2, hb.2.1, hb.2.2.1⟩), fun b hb => ?_⟩
  obtain ⟨a1, a2, a3, a4, a5, a6, a7⟩ := h.g b hb
  exact ⟨a1, a3, a4, a2, a5, a6, a7⟩
end
end Go.Proofs.YtdlimgpmmkcgmaaGreat

namespace Go.Proofs.YtdlimgpmmkcgmaaGreat
open Go.RowKit
set_option linter.unusedVariables false
set_option linter.unusedSimpArgs false
set_option maxRecDepth 100000

def Gives3 (w : World) (xs ys zs : List (Int × Int)) (e : Ending) (w' : World) : Prop :=
  ∃ A c B d E f, e = .returned (.tuple #[.slice A xs.length c, .slice B ys.length d, .slice E zs.length f]) ∧ Row w' w.heap.size A c xs ∧ Row w' w.heap.size B d ys ∧ Row w' w.heap.size E f zs ∧ Below w.heap.size w w'
theorem setC_over {w : World} {s : SetP} {cs : Array Value} (h : SetC w s cs) : cs[13]? = some (.int .i64 s.reg) ∧ cs[14]? = some (.int .i64 s.over) ∧ cs[15]? = some (.int .i64 s.week) := by
  obtain ⟨A1, A2, A3, A4, A5, A6, c1, c2, c3, c4, c5, c6, h1, h2⟩ := h
  unfold setV at h1
  injection h1 with h1
  subst h1
  exact ⟨rfl, rfl, rfl⟩
end Go.Proofs.YtdlimgpmmkcgmaaGreat

namespace Go.Proofs.YtdlimgpmmkcgmaaGreat
open Go.RowKit Go.Deep Go.WideShapes
set_option linter.unusedVariables false
set_option linter.unusedSimpArgs false
set_option maxRecDepth 20000

def partL (x : PartP) : List Int := [x.1, x.2.1, x.2.2]
def PartP.nil : PartP := (0, 0, 0)
theorem part_info : (Tryz.prog.info? 42).map (fun i => (i.zero, i.size, i.bytes)) = some (some (.agg #[.int .i64 0, .int .i64 0, .int .i64 0]), 3, 24) := by kernel_rfl
abbrev PRow (w : World) (base : Nat) (A : Option Addr) (c : Nat) (l : List PartP) : Prop := TRow 42 3 w base A l.length c (l.map partL)
/-- A slice value over A, of n, reads as the parts l. -/
def Prts (w : World) (A : Option Addr) (n c : Nat) (l : List PartP) : Prop := Sl 3 w A n c (ints .i64 (l.map partL).flatten) ∧ l.length = n
section
variable {w w' : World} {A : Option Addr} {n c base : Nat} {l : List PartP}
theorem Prts.below (h : Prts w A n c l) (hb : Below w.heap.size w w') : Prts w' A n c l := ⟨h.1.below hb, h.2⟩
theorem Prts.form (h : Prts w A n c l) (hn : 0 < n) : ∃ b off, A = some ⟨b, off, none⟩ := rows_form h.1 (by omega) hn
theorem PRow.prts (h : PRow w base A c l) : Prts w A l.length c l := ⟨Sl.of_own h, rfl⟩
theorem prts_num {b off : Nat} (h : Prts w (some ⟨b, off, none⟩) n c l) {i : Nat} (hi : i < n) (x : PartP) (hx : l.getD i PartP.nil = x) :
    w.cell? ⟨b, off + i * 3, none⟩ = some (.int .i64 x.1) ∧ w.cell? ⟨b, off + i * 3 + 1, none⟩ = some (.int .i64 x.2.1) ∧ w.cell? ⟨b, off + i * 3 + 2, none⟩ = some (.int .i64 x.2.2) := by
  have hl := h.2
  have hw : ∀ r ∈ l.map partL, r.length = 3 := fun r hr => by obtain ⟨y, _, rfl⟩ := List.mem_map.1 hr; rfl
  have e : (l.map partL).getD i [] = partL x := by rw [← hx]; simp [List.getD, show i < l.length by omega]
  have g := fun j hj => rows_cell h.1 (by simpa using hl) hw hi (j := j) hj
  rw [e] at g
  exact ⟨g 0 (by omega), g 1 (by omega), g 2 (by omega)⟩
/-- An append of what a slice of parts holds. -/
theorem prow_append (h : PRow w base A c l) {B : Option Addr} {m d : Nat} {l' : List PartP} (hs : Prts w B m d l') (hm : l.length + l'.length ≤ 1000000000) (hbase : base ≤ w.heap.size) :
    ∃ A' c' w', (Builtin.append_ #[32, 32] 32 #[.slice A l.length c, .slice B m d]).run Tryz.prog w = .ok (.slice A' (l.length + m) c') w' ∧ PRow w' base A' c' (l ++ l') ∧
      Kept (fun b => b < w.heap.size ∧ ∀ x, A = some x → x.block ≠ b) w w' ∧ (∀ g', A' = some g' → (∃ g, A = some g ∧ g'.block = g.block) ∨ w.heap.size ≤ g'.block) := by
  obtain ⟨hs, rfl⟩ := hs
  obtain ⟨A', c', w', hr, ho, hg, hl⟩ := append_any (P := Tryz.prog) w base 32 32 42 (.agg #[.int .i64 0, .int .i64 0, .int .i64 0]) 3 24 Tryz.underlying32 part_info rfl (by omega) h hs (ints_one .i64 _) (l.length + l'.length) rfl (ints .i64 ((l ++ l').map partL).flatten) (by simp [ints]) (by omega) (by omega) hbase
  refine ⟨A', c', w', hr, ?_, ⟨hg.os, hg.tape, hg.output, hg.size, fun b hb => hg.block b hb.1 ?_⟩, fun g' e => ?_⟩
  · show TRow _ _ _ _ _ _ _ _
    rw [List.length_append]
    exact ho
  · cases A with
    | none => simp [Value.ownBlock]
    | some g0 =>
      have := hb.2 g0 rfl
      simp only [Value.ownBlock]
      intro q
      simp at q
      omega
  · subst e
    rcases hl with e | e
    · cases A with
      | none => simp [Value.ownBlock] at e
      | some a0 => simp [Value.ownBlock] at e; exact .inl ⟨a0, rfl, e⟩
    · simp [Value.ownBlock] at e; exact .inr (by omega)
theorem prts_one (w : World) (x : PartP) {s : Nat} (hs : w.heap.size = s) : Prts (w.alloc (.cells #[.int .i64 x.1, .int .i64 x.2.1, .int .i64 x.2.2] 42)) (some ⟨s, 0, none⟩) 1 1 [x] := by
  subst hs
  refine ⟨?_, rfl⟩
  have := own_new w 42 3 1 #[.int .i64 x.1, .int .i64 x.2.1, .int .i64 x.2.2] (by simp) (by simp only [maxLen]; omega)
  have h2 := Sl.of_own this
  simpa [partL, ints] using h2
/-- One more. -/
theorem prow_one (h : PRow w base A c l) (x : PartP) (hm : l.length < 1000000000) (hbase : base ≤ w.heap.size) {s : Nat} (hs : w.heap.size = s) :
    ∃ A' c' w', (Builtin.append_ #[32, 32] 32 #[.slice A l.length c, .slice (some ⟨s, 0, none⟩) 1 1]).run Tryz.prog (w.alloc (.cells #[.int .i64 x.1, .int .i64 x.2.1, .int .i64 x.2.2] 42)) = .ok (.slice A' (l.length + 1) c') w' ∧ PRow w' base A' c' (l ++ [x]) ∧
      Kept (fun b => b < w.heap.size ∧ ∀ g, A = some g → g.block ≠ b) w w' ∧ (∀ g', A' = some g' → (∃ g, A = some g ∧ g'.block = g.block) ∨ w.heap.size ≤ g'.block) := by
  have hb := bel_alloc (Below.refl w.heap.size w) (.cells #[.int .i64 x.1, .int .i64 x.2.1, .int .i64 x.2.2] 42)
  obtain ⟨A', c', w', h1, h2, h3, h4⟩ := prow_append (h.below hb) (prts_one w x hs) (by simp; omega) (by simp; omega)
  refine ⟨A', c', w', h1, h2, (Kept.of_below hb fun i hi => hi.1).on (h3.less fun i hi => ⟨by simp; omega, hi.2⟩), fun g' e => (h4 g' e).imp id fun q => by simp at q; omega⟩
end
theorem take_snoc_p {l : List PartP} {i : Nat} (h : i < l.length) : l.take (i + 1) = l.take i ++ [l.getD i PartP.nil] := by
  rw [List.take_succ_eq_append_getElem h]
  simp [List.getD, h]
/-- What a call that tells parts answers. -/
def GivesP (w : World) (l : List PartP) (e : Ending) (w' : World) : Prop := ∃ A c, e = .returned (.slice A l.length c) ∧ PRow w' w.heap.size A c l ∧ Below w.heap.size w w'
theorem numsT_part : NumsT Tryz.prog 42 3 := alli_struct Tryz.underlying42 (by kernel_rfl)
  ⟨rfl, nums_at_e numsT_int_e (by kernel_rfl), by kernel_rfl, nums_at_e numsT_int_e (by kernel_rfl), by kernel_rfl, nums_at_e numsT_int_e (by kernel_rfl), by change _ = _; kernel_rfl⟩
def FitP (x : PartP) : Prop := Fit x.1 ∧ Fit x.2.1 ∧ Fit x.2.2
theorem parts_of_rows : ∀ (t : Rows2), (∀ r ∈ t, r.length = 3) → (∀ r ∈ t, ∀ z ∈ r, In64 z) → ∃ l : List PartP, l.map partL = t ∧ ∀ s ∈ l, FitP s
  | [], _, _ => ⟨[], rfl, fun e h => by simp at h⟩
  | r :: t, h1, h2 => by
    obtain ⟨l, hl, hi⟩ := parts_of_rows t (fun q hq => h1 q (by simp [hq])) (fun q hq => h2 q (by simp [hq]))
    have h3 := h1 r (by simp)
    have h4 := h2 r (by simp)
    match r, h3, h4 with
    | [a, b, c], _, h4 =>
      exact ⟨(a, b, c) :: l, by simp [partL, hl], fun x hx => by
        rcases List.mem_cons.1 hx with rfl | hx
        · exact ⟨h4 a (by simp), h4 b (by simp), h4 c (by simp)⟩
        · exact hi x hx⟩
/-- An argument of type []api.Part, opened. -/
theorem parts_open {H : Type} {enc : TypeId × Value → H} {w : World} {base : Nat} {held : Bool} {fuel : Nat} {cs : List Value} {x : DataW H × List MemPlace}
    (h : DataW.trod enc Tryz.prog w base (fun _ => true) held fuel 32 cs = some x) : ∃ A n c l, cs = [.slice A n c] ∧ Prts w A n c l ∧ (∀ s ∈ l, FitP s) ∧ n ≤ c ∧ c ≤ 9223372036854775807 := by
  obtain ⟨A, n, c, rows, hcs, T⟩ := open_tab Tryz.underlying32 numsT_part (by kernel_rfl) (by omega) h
  obtain ⟨l, hl, hi⟩ := parts_of_rows rows T.wide T.small
  refine ⟨A, n, c, l, hcs, ⟨by rw [hl]; exact T.sl, ?_⟩, hi, T.cap, T.max⟩
  rw [← T.len, ← hl, List.length_map]
end Go.Proofs.YtdlimgpmmkcgmaaGreat

namespace Go.Proofs.YtdlimgpmmkcgmaaGreat
set_option linter.unusedVariables false
set_option linter.unusedSimpArgs false

/-- What is paid of the week, and by night. -/
noncomputable def darkL (b : Bool) (s : SetP) (l : List SegP) (k : Int) : List (Int × Int) := canon fun t => In (ofWeekP (In (allYes b s l)) k) t ∧ NB b s.nfrom s.nto t
noncomputable def catW (b : Bool) (s : SetP) (l : List SegP) (k : Int) : Nat → List (Int × Int) :=
  catL (ofWeekP (In (allNo b s l)) k) (regL b s (In (allYes b s l)) k) (ovrL b s (In (allYes b s l)) k) (dblL b s (In (allYes b s l)) k) (darkL b s l k)
noncomputable def wpartsL (b : Bool) (s : SetP) (l : List SegP) (k : Int) : List PartP := if b = true then catsP (catW b s l k) 7 else []
theorem catW_plain (b : Bool) (s : SetP) (l : List SegP) (k : Int) (c : Nat) : PlainFrom 0 (catW b s l k c) := cat_plain (canon_plain _) c
theorem catsP_succ (L : Nat → List (Int × Int)) (n : Nat) : catsP L (n + 1) = addP (catsP L n) (L n) n := rfl
theorem catsP_len {L : Nat → List (Int × Int)} {B : Nat} (h : ∀ c, (L c).length ≤ B) : ∀ n, (catsP L n).length ≤ n * B
  | 0 => by simp [catsP]
  | n + 1 => by
    have := catsP_len h n
    have h2 := h n
    rw [catsP_succ, addP_len, Nat.add_mul]
    omega
theorem wparts_len (b : Bool) (s : SetP) (l : List SegP) (k : Int) : (wpartsL b s l k).length ≤ 224380807 := by
  unfold wpartsL
  split
  · exact Nat.le_trans (catsP_len (B := 32054401) (fun c => by have := plain_len (catW_plain b s l k c) (by omega); omega) 7) (by decide)
  · simp
theorem yes_no {b : Bool} {s : SetP} {l : List SegP} {t : Int} (h : In (allYes b s l) t) (g : In (allNo b s l) t) : False := by
  unfold allYes at h
  unfold allNo at g
  split at h
  · rename_i hb
    rw [if_pos hb] at g
    unfold paidAll at h
    unfold notAll at g
    exact ((canon_in _ t).1 h).2.2.2 ((canon_in _ t).1 g).2.2.2
  · exact absurd h (in_nil t)
section
variable {s : SetP} {l : List SegP} {k : Int}
theorem three_bd {t : Int} : (In (regL true s (In (allYes true s l)) k) t ∨ In (ovrL true s (In (allYes true s l)) k) t ∨ In (dblL true s (In (allYes true s l)) k) t) → 0 ≤ t ∧ t < 32054400 := by
  rintro (h | h | h)
  · exact (reg_plain true s (In (allYes true s l)) k).bound h
  · exact (ovr_plain true s (In (allYes true s l)) k).bound h
  · exact (dbl_plain true s (In (allYes true s l)) k).bound h
theorem three_of (hm : s.May) {t : Int} (h0 : 0 ≤ t) (h1 : t < 32054400) : (In (regL true s (In (allYes true s l)) k) t ∨ In (ovrL true s (In (allYes true s l)) k) t ∨ In (dblL true s (In (allYes true s l)) k) t) ↔ In (ofWeekP (In (allYes true s l)) k) t := by
  rw [reg_mem h0 h1, ovr_mem h0 h1, dbl_mem h0 h1, ← over_or (W := onWk (In (allYes true s l)) k) hm.reg.2 t]
  unfold ofWeekP
  rw [in_can h0 h1]
  exact Iff.rfl
theorem catW_apart (hm : s.May) : ∀ c d t, c ≠ d → In (catW true s l k c) t → ¬ In (catW true s l k d) t := by
  refine cat_apart (fun t hU h3 => ?_) (fun t h => ?_) (fun t h => ?_) (fun t h => ?_)
  · have hb := three_bd h3
    have q := (three_of hm hb.1 hb.2).1 h3
    unfold ofWeekP at q hU
    exact yes_no ((canon_in _ t).1 q).2.2.1 ((canon_in _ t).1 hU).2.2.1
  · have hb := three_bd (.inl h.1)
    rw [reg_mem hb.1 hb.2, ovr_mem hb.1 hb.2] at h
    exact reg_ovr h
  · have hb := three_bd (.inl h.1)
    rw [reg_mem hb.1 hb.2, dbl_mem hb.1 hb.2] at h
    exact reg_dbl hm.reg.2 h
  · have hb := three_bd (.inr (.inl h.1))
    rw [ovr_mem hb.1 hb.2, dbl_mem hb.1 hb.2] at h
    exact ovr_dbl hm.reg.2 h
end
/-- The spans of one category of a week's parts. -/
noncomputable def catB (b : Bool) (s : SetP) (l : List SegP) (k : Int) (c : Nat) : List (Int × Int) := if b = true then catW b s l k c else []
theorem catB_plain (b : Bool) (s : SetP) (l : List SegP) (k : Int) (c : Nat) : PlainFrom 0 (catB b s l k c) := by
  unfold catB
  split
  · exact catW_plain b s l k c
  · trivial
theorem spans_wparts {b : Bool} {s : SetP} (hm : b = true → s.May) {l : List SegP} {k : Int} {c : Nat} (hc : c < 7) : spansP (wpartsL b s l k) c = catB b s l k c := by
  unfold wpartsL catB
  split
  · rename_i hb
    subst hb
    exact spans_catsP (catW_plain true s l k) (catW_apart (hm rfl)) hc
  · rfl
theorem both_reg (b : Bool) (s : SetP) (l : List SegP) (k : Int) : canon (In (catB b s l k 1 ++ catB b s l k 4)) = regL b s (In (allYes b s l)) k := by
  cases b with
  | false => exact canon_none fun t _ _ h => absurd h (in_nil t)
  | true => exact both_is (N := darkL true s l k) (reg_plain true s (In (allYes true s l)) k)
theorem both_ovr (b : Bool) (s : SetP) (l : List SegP) (k : Int) : canon (In (catB b s l k 2 ++ catB b s l k 5)) = ovrL b s (In (allYes b s l)) k := by
  cases b with
  | false => exact canon_none fun t _ _ h => absurd h (in_nil t)
  | true => exact both_is (N := darkL true s l k) (ovr_plain true s (In (allYes true s l)) k)
theorem both_dbl (b : Bool) (s : SetP) (l : List SegP) (k : Int) : canon (In (catB b s l k 3 ++ catB b s l k 6)) = dblL b s (In (allYes b s l)) k := by
  cases b with
  | false => exact canon_none fun t _ _ h => absurd h (in_nil t)
  | true => exact both_is (N := darkL true s l k) (dbl_plain true s (In (allYes true s l)) k)
end Go.Proofs.YtdlimgpmmkcgmaaGreat
