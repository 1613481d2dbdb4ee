/-
  Package frame: all payloads whose frames bytes begin with.
-/
import Derived.Test.YtfjbpjojpjkfcaaFrD
namespace Go.Proofs.Ytfjbpjojpjkfcaa
open Go.RowKit
set_option linter.unusedVariables false
attribute [local go_sem] Oper.semAt_some

/-- In a drawn region, in a fence: an append whose run is known. -/
theorem wpIn_append_run {F : Fence} {n : Nat} {P : Program} {o : Oper} {a : Act} {w w' : World} {K : Act → World → Prop} {Q : Exit → Act → World → Prop} {s x : Operand} {t : TypeId} {v u v' : Value}
    (hr : (Builtin.append_ #[t, t] o.type #[v, u]).run P w = .ok v' w')
    (ho : o.op = .call { callee := .builtin .append, args := #[s, x], argTypes := #[t, t] }) (hs : a.eval s = v) (hx : a.eval x = u)
    (h : K (a.put o.dst v') w') : o.wpIn F n P a w K Q := by
  refine ⟨?_, ?_⟩
  · simp [Oper.about, ho, resolve, Target.leads, Sem.run_pure]
  · rw [Oper.semAt_plain F _ _ (by rw [ho]; intro c hc; cases hc)]
    simp [execOp, ho, resolve, invoke, builtin, hs, hx, hr, Result.andThen]
    exact h

theorem cell_put {w : World} {a : Addr} {v : Value} (h : w.cell? a = some v) {l : Nat} {o : Obj} (o' : Obj) (ho : w.heap[l]? = some o) (hc : o.isCells = false) : (w.putObj l o').cell? a = some v := by
  rw [← h]
  refine World.cell?_of_block (w := w) (World.putObj_heap_other ?_)
  rintro rfl
  unfold World.cell? at h
  rw [ho] at h
  cases o <;> simp_all [Obj.isCells]
theorem Sl.put {w : World} {A : Option Addr} {m c : Nat} {us : List Value} (h : Sl 1 w A m c us) {l : Nat} {o : Obj} (o' : Obj) (ho : w.heap[l]? = some o) (hc : o.isCells = false) : Sl 1 (w.putObj l o') A m c us := by
  obtain ⟨hl, h | ⟨ad, rfl, hk⟩⟩ := h
  · exact ⟨hl, .inl h⟩
  · exact ⟨hl, .inr ⟨ad, rfl, fun j u hu => cell_put (hk j u hu) o' ho hc⟩⟩
theorem PVals.put {w : World} {us : List Value} {ps : List (List (BitVec 8))} (h : PVals w us ps) {l : Nat} {o : Obj} (o' : Obj) (ho : w.heap[l]? = some o) (hc : o.isCells = false) : PVals (w.putObj l o') us ps :=
  ⟨h.1, fun k hk => by
    obtain ⟨B, d, e, hs, hd⟩ := h.2 k hk
    exact ⟨B, d, e, hs.put o' ho hc, hd⟩⟩
/-- Its elements lie at 'base' or behind. -/
def Over (base : Nat) (u : Value) : Prop := ∀ B n d, u = .slice (some B) n d → 0 < n → base ≤ B.block
/-- A row of slices of bytes, with all that it holds, at 'base' or behind. -/
def BssOwn (w : World) (base : Nat) (A : Option Addr) (c : Nat) (ps : List (List (BitVec 8))) : Prop := ∃ us, BssU w base A c ps us ∧ ∀ u ∈ us, Over base u
section
variable {w w' : World} {base c : Nat} {A : Option Addr} {ps : List (List (BitVec 8))}
theorem BssOwn.nil (w : World) (base : Nat) : BssOwn w base none 0 [] := ⟨[], ⟨World.ownsRow_nil w base _ _, PVals.nil, fun u hu => by simp at hu⟩, fun u hu => by simp at hu⟩
theorem BssOwn.row (h : BssOwn w base A c ps) : BssRow w base A c ps := by
  obtain ⟨us, h, _⟩ := h
  exact ⟨us, h⟩
theorem BssOwn.below (h : BssOwn w base A c ps) (hb : Below w.heap.size w w') : BssOwn w' base A c ps := by
  obtain ⟨us, h, ho⟩ := h
  exact ⟨us, h.below hb, ho⟩
theorem own_put {e : TypeId} {n : Nat} {us : List Value} (h : w.ownsRow base e 1 (.slice A n c) n us) {l : Nat} {o : Obj} (o' : Obj) (ho : w.heap[l]? = some o) (hc : o.isCells = false) : (w.putObj l o').ownsRow base e 1 (.slice A n c) n us := by
  refine own_keep h fun g hg => World.putObj_heap_other ?_
  rintro e
  subst hg
  rcases h.2 with ⟨hv, _⟩ | ⟨g', cap, cur, hv, _, hh, _⟩
  · cases hv
  · injection hv with e1
    simp only [Option.some.injEq] at e1
    subst e1
    rw [show (⟨g', 0, none⟩ : Addr).block = g' from rfl] at e
    rw [e] at hh
    rw [hh] at ho
    cases ho
    cases hc
theorem BssOwn.put (h : BssOwn w base A c ps) {l : Nat} {o : Obj} (o' : Obj) (ho : w.heap[l]? = some o) (hc : o.isCells = false) : BssOwn (w.putObj l o') base A c ps := by
  obtain ⟨us, ⟨h1, h2, h3⟩, h4⟩ := h
  exact ⟨us, ⟨own_put h1 o' ho hc, h2.put o' ho hc, h3⟩, h4⟩
theorem BssOwn.far (h : BssOwn w base A c ps) {p : Addr} (hp : p.block < base) (v : Value) : BssOwn (w.setCell p v) base A c ps := by
  obtain ⟨us, ⟨h1, h2, h3⟩, h4⟩ := h
  refine ⟨us, ⟨own_keep h1 fun g hg => Below.heap_setCell w p v _ ?_, ⟨h2.1, fun k hk => ?_⟩, h3⟩, h4⟩
  · subst hg
    have := (World.ownsRow.lt h1 _ rfl).1
    omega
  · obtain ⟨B, d, e, hs, hd⟩ := h2.2 k hk
    refine ⟨B, d, e, hs.blk fun ad hA hm => Below.heap_setCell w p v _ ?_, hd⟩
    subst hA
    have hm2 : us.getD k undef ∈ us := by
      rw [← h2.1] at hk
      rw [List.getD_eq_getElem?_getD, List.getElem?_eq_getElem hk, Option.getD_some]
      exact List.getElem_mem hk
    have := h4 _ hm2 ad _ d e hm
    omega
theorem BssOwn.mono (h : BssOwn w base A c ps) {b : Nat} (hb : b ≤ base) : BssOwn w b A c ps := by
  obtain ⟨us, ⟨⟨hl, hn | ⟨g, cap, cur, hv, hg, rest⟩⟩, h2, h3⟩, h4⟩ := h
  · exact ⟨us, ⟨⟨hl, .inl hn⟩, h2, h3⟩, fun u hu B n d e hn => Nat.le_trans hb (h4 u hu B n d e hn)⟩
  · exact ⟨us, ⟨⟨hl, .inr ⟨g, cap, cur, hv, by omega, rest⟩⟩, h2, h3⟩, fun u hu B n d e hn => Nat.le_trans hb (h4 u hu B n d e hn)⟩
end
/-- How many bytes all frames have that have come. -/
def sizeAt (m : Nat) (pre : List Two8) : Int := match pre.getLast? with
  | none => 0
  | some x => (m : Int) - (x.2.length : Int)
/-- The loop's variables. -/
def AllI (w : World) (A : Option Addr) (m c : Nat) (pre : List Two8) (W : World) : Prop :=
  ∃ D d, Has W w.heap.size #[.slice A m c] ∧ Has W (w.heap.size + 1) #[.slice D pre.length d] ∧ Has W (w.heap.size + 2) #[.int .i64 (sizeAt m pre)] ∧ BssOwn W (w.heap.size + 3) D d (pre.map Prod.fst) ∧ Below w.heap.size w W
theorem allI_below {w : World} {A : Option Addr} {m c : Nat} (pre : List Two8) (X Y : World) (h : AllI w A m c pre X) (hb : Below X.heap.size X Y) : AllI w A m c pre Y := by
  obtain ⟨D, d, h1, h2, h3, h4, h5⟩ := h
  exact ⟨D, d, h1.below hb, h2.below hb, h3.below hb, h4.below hb, bel_on h5 hb⟩
theorem allI_put {w : World} {A : Option Addr} {m c n : Nat} (hn : w.heap.size ≤ n) (pre : List Two8) (W : World) (l : Nat) (o o' : Obj) (h : AllI w A m c pre W) (hl : n ≤ l) (ho : W.heap[l]? = some o) (hc : o.isCells = false) : AllI w A m c pre (W.putObj l o') := by
  obtain ⟨D, d, h1, h2, h3, h4, h5⟩ := h
  exact ⟨D, d, h1.put o' ho hc, h2.put o' ho hc, h3.put o' ho hc, h4.put o' ho hc, h5.trans (below_putObjN _ (by omega))⟩
/-- One payload more: behind its copy. -/
theorem all_push {s m c : Nat} {A D : Option Addr} {d : Nat} {W : World} {ps : List (List (BitVec 8))} {z : Int} (hA : Has W s #[.slice A m c]) (hD : Has W (s + 1) #[.slice D ps.length d]) (hZ : Has W (s + 2) #[.int .i64 z]) (hR : BssOwn W (s + 3) D d ps) (hl : ps.length < 1000000000000)
    (x : List (BitVec 8)) (w2 : World) (A1 : Option Addr) (c1 : Nat) (r1 : BRow w2 W.heap.size A1 c1 x) (hb2 : Below W.heap.size W w2) :
    ∃ D' d' w3, (Builtin.append_ #[29, 29] 29 #[.slice D ps.length d, .slice (some ⟨w2.heap.size, 0, none⟩) 1 1]).run Try.prog (w2.alloc (.cells #[.slice A1 x.length c1] 22)) = .ok (.slice D' (ps.length + 1) d') w3 ∧
      w2.cell? ⟨s + 1, 0, none⟩ = some (.slice D ps.length d) ∧ w2.frozen? ⟨s + 1, 0, none⟩ = false ∧ s + 1 ≠ w2.heap.size ∧
      w3.cell? ⟨s + 1, 0, none⟩ = some (.slice D ps.length d) ∧ w3.frozen? ⟨s + 1, 0, none⟩ = false ∧
      Hid (Has (w3.setCell ⟨s + 1, 0, none⟩ (.slice D' (ps.length + 1) d')) s #[.slice A m c] ∧ Has (w3.setCell ⟨s + 1, 0, none⟩ (.slice D' (ps.length + 1) d')) (s + 1) #[.slice D' (ps.length + 1) d'] ∧ Has (w3.setCell ⟨s + 1, 0, none⟩ (.slice D' (ps.length + 1) d')) (s + 2) #[.int .i64 z] ∧
        BssOwn (w3.setCell ⟨s + 1, 0, none⟩ (.slice D' (ps.length + 1) d')) (s + 3) D' d' (ps ++ [x]) ∧ Below s W (w3.setCell ⟨s + 1, 0, none⟩ (.slice D' (ps.length + 1) d')) ∧ ∀ n, KeepsFrom n W (w3.setCell ⟨s + 1, 0, none⟩ (.slice D' (ps.length + 1) d'))) := by
  have hs3 := hZ.size
  have hs2 := hb2.size
  have hR2 := hR.below hb2
  obtain ⟨us, hU, hO⟩ := hR2
  have hoff : Off (.slice A1 x.length c1) D := off_above hR.row (Nat.le_refl _) r1
  obtain ⟨D', d', w3, hrun, hU3, hbel, hg⟩ := bss_push_u hU (pval_row r1) hoff hl (by omega) (s := w2.heap.size) rfl
  have hown : ∀ k, (Value.slice D ps.length d).ownBlock = some k → s + 3 ≤ k ∧ k < w2.heap.size := fun k hk => World.ownsRow.lt hU.1 k hk
  have keepB : ∀ k, k < w2.heap.size → some k ≠ (Value.slice D ps.length d).ownBlock → w3.heap[k]? = w2.heap[k]? := fun k hk hne => (hg.block k (by simp; omega) hne).trans (Below.heap_alloc w2 _ k hk)
  have ne : ∀ k, k < s + 3 → some k ≠ (Value.slice D ps.length d).ownBlock := fun k hk e => by have := (hown k e.symm).1; omega
  have hof : ∀ {g : Nat} {cs : Array Value}, g < s + 3 → Has W g cs → Has w3 g cs := fun {g cs} hgl hh => by
    obtain ⟨t, ht⟩ := hh.below hb2
    exact ⟨t, (keepB g (by omega) (ne g hgl)).trans ht⟩
  have g0 := hof (by omega) hA
  have g1 := hof (by omega) hD
  have g2 := hof (by omega) hZ
  have k1 := hD.below hb2
  have hs4 := hg.size
  have hb3 : Below s W w3 := ⟨hg.os.trans hb2.os, hg.tape.trans hb2.tape, hg.output.trans hb2.output, by simp at hs4; omega, fun k hk => (keepB k (by omega) (ne k (by omega))).trans (hb2.block k (by omega))⟩
  have hkp : ∀ n, KeepsFrom n W w3 := fun n => by
    refine (keeps_below hb2).trans (((KeepsOthers.alloc w2 _).trans (KeepsOthers.of_grownBy hg fun j o ej hj => ?_)).from n)
    have hU' := hU.below (bel_alloc (Below.refl _ w2) (.cells #[.slice A1 x.length c1] 22))
    rcases hU'.1.2 with ⟨hv, _⟩ | ⟨g, cap, cur, hv, _, hgb, _⟩
    · rw [hv] at ej; simp [Value.ownBlock] at ej
    · rw [hv] at ej
      simp only [Value.ownBlock, Option.some.injEq] at ej
      rw [← ej, hgb] at hj
      cases hj; rfl
  have hOwn : BssOwn w3 (s + 3) D' d' (ps ++ [x]) := ⟨_, hU3, fun u hu => by
    rcases List.mem_append.1 hu with q | q
    · exact hO u q
    · obtain rfl : u = _ := by simpa using q
      intro B n e hB hn
      injection hB with e1 e2 e3
      subst e1
      have := (r1.lt B rfl).1
      omega⟩
  refine ⟨D', d', w3, hrun, k1.cell 0 rfl, k1.frozen 0, by omega, g1.cell 0 rfl, g1.frozen 0, Lib.hid ⟨g0.far (by simp) _, g1.set 0 _, g2.far (by simp) _, hOwn.far (by simp) _, hb3.setCell (p := ⟨s + 1, 0, none⟩) (by simp) _, fun n => (hkp n).trans (keeps_set _ _ _)⟩⟩
/-- Behind the region that adds a payload. -/
def Added (A : Option Addr) (m c s : Nat) (v u : Value) (fr : Value) (fl : Value) (R : Value → World → Prop) : Exit → Act → World → Prop := fun e a' W' => e = .normal ∧ ∃ D' d' n, R (.slice D' n d') W' ∧ ∃ (t12 t13 t14 t15 t16 : Value), a' = { tmps := #[.slice A m c, .pointer (some ⟨s, 0, none⟩), .slice none 0 0, .int .i64 0, .pointer (some ⟨s + 1, 0, none⟩), .pointer (some ⟨s + 2, 0, none⟩), v, u, fl, fr, v, u, t12, t13, t14, t15, t16, undef, undef, undef, undef, undef, undef, undef], defers := [] }

set_option maxHeartbeats 4000000 in
theorem fall_any (A : Option Addr) (m c : Nat) (l : List (BitVec 8)) (w : World) (hx : Sl 1 w A m c (bytesV l)) (hmc : m ≤ c) (hml : m ≤ 100000000000) :
    Calls Try.prog 13 #[.slice A m c] w fun e w' => ∃ D d, e = .returned (.tuple #[.slice D (allF l).1.length d, .int .i64 ((allF l).2 : Nat)]) ∧ BssOwn w' w.heap.size D d (allF l).1 ∧ Below w.heap.size w w' := by
  have HF := Lib.hid (frames_any A m c)
  have hlay := lay_of hx hmc
  have eg : ∀ args w, (callFunc 32 args).run Try.prog w = .ok (.enter 32 args) w := enters_of Try.func32 (by kernel_rfl) rfl
  have mixed : Try.prog.follows Departure.mixedOrders = true := by kernel_rfl
  clear hx
  refine (callsIn_wide (n := 0)).1 (callsIn_of_wp_marks Try.func13 rfl trivial ?_ rfl)
  simp only [Try.ntmps13, List.size_toArray, List.length_cons, List.length_nil, Nat.reduceAdd, Nat.reduceSub, Array.replicate_succ, Array.replicate_zero, List.push_toArray, List.append_toArray, List.nil_append, List.cons_append]
  gi_wp2_with fail
  refine ⟨trivial, rfl, (callsIn_wide.2 (HF.out _)).mono ?_⟩
  rintro e w1 ⟨rfl, rfl⟩
  gi_wp2
  have hsz : ((((w.alloc (.cells #[.slice A m c] 22)).alloc (.cells #[.slice none 0 0] 29)).alloc (.cells #[.int .i64 0] 3)).alloc (.cells #[.slice A m c] 22)).heap.size = w.heap.size + 4 := by simp
  have hI0 : AllI w A m c [] ((((w.alloc (.cells #[.slice A m c] 22)).alloc (.cells #[.slice none 0 0] 29)).alloc (.cells #[.int .i64 0] 3)).alloc (.cells #[.slice A m c] 22)) :=
    ⟨none, 0, (((Has.new _ _ _ rfl).alloc _).alloc _).alloc _, ((Has.new _ _ _ (by simp)).alloc _).alloc _, (Has.new _ _ _ (by simp)).alloc _, BssOwn.nil _ _, bel_alloc (bel_alloc (bel_alloc (bel_alloc (Below.refl _ _) _) _) _) _⟩
  have hB1 : Has ((((w.alloc (.cells #[.slice A m c] 22)).alloc (.cells #[.slice none 0 0] 29)).alloc (.cells #[.int .i64 0] 3)).alloc (.cells #[.slice A m c] 22)) (w.heap.size + 3) #[.slice A m c] := Has.new _ _ _ (by simp)
  generalize (((w.alloc (.cells #[.slice A m c] 22)).alloc (.cells #[.slice none 0 0] 29)).alloc (.cells #[.int .i64 0] 3)).alloc (.cells #[.slice A m c] 22) = w1 at *
  have hb1 : Below w.heap.size w w1 := by
    obtain ⟨_, _, _, _, _, _, hb⟩ := hI0
    exact hb
  have hseq := frames_seq (w.heap.size + 3) w.heap.size m c A l w1 hB1.size (hB1.cell 0 rfl) (hlay.below hb1) (by omega) hml
  have hlen := hlay.form.1
  clear HF hB1
  refine range_by (n₀ := w.heap.size) (ps := seqF l) rfl eg hseq (by omega) rfl (AllI w A m c) (fun _ _ _ => False) allI_below (fun _ _ _ _ h => h.elim)
    (allI_put (by omega)) (fun _ _ _ _ _ _ h => h.elim) hI0
    (fun v u => { tmps := #[.slice A m c, .pointer (some ⟨w.heap.size, 0, none⟩), .slice none 0 0, .int .i64 0, .pointer (some ⟨w.heap.size + 1, 0, none⟩), .pointer (some ⟨w.heap.size + 2, 0, none⟩), v, u, .slice A m c, .func (.func 32) #[] #[.pointer (some ⟨w.heap.size + 3, 0, none⟩)], v, u, undef, undef, undef, undef, undef, undef, undef, undef, undef, undef, undef, undef], defers := [] })
    ?assign ?body ?done ?stop
  case assign =>
    intro l v u W K hK
    gi_wp2
    exact hK
  case stop =>
    rintro D k pre W hD hpre h hK
    exact h.elim
  case done =>
    rintro Dd W hD ⟨D, d, h1, h2, h3, h4, hb⟩ hK
    obtain ⟨e1, e2⟩ := seq_all l.length l (Nat.le_refl _)
    have e3 : sizeAt m (seqF l) = ((allF l).2 : Nat) := by
      unfold sizeAt
      rcases e2 with ⟨q1, q2⟩ | ⟨r, q1, q2⟩
      · rw [Option.map_eq_none_iff] at q1
        rw [q1, q2]; rfl
      · obtain ⟨y, hy, rfl⟩ := Option.map_eq_some_iff.1 q1
        rw [hy]
        simp only
        omega
    have e4 : (seqF l).length = (allF l).1.length := by rw [← e1, List.length_map]
    rw [e3] at h3
    rw [e1] at h4
    rw [e4] at h2
    have f2 := h2.cell 0 rfl
    have f3 := h3.cell 0 rfl
    have H4 := Lib.hid h4
    clear h4 e1 e2 e3 e4 hseq hlay
    gi_wp2
    gi_region_o
    all_goals
      gi_wp2
      refine ⟨by simp, .inl ⟨_, _, rfl, run_takeDeferred hK, ?_⟩⟩
      refine ⟨_, results_tmp2 rfl _ _ _, ?_⟩
      refine ⟨D, d, rfl, ((show BssOwn W.drew (w.heap.size + 3) D d (allF l).1 from H4.out).put (.deferred none) hK rfl).mono (by omega), (below_drew hb).trans (below_putObjN _ (by omega))⟩
  case body =>
    rintro l' pre x v u W ⟨D, d, h1, h2, h3, h4, hb⟩ hv hu hpre
    obtain ⟨x1, x2⟩ := x
    obtain ⟨B1, d1, rfl, s1, hd1, _⟩ := hv
    obtain ⟨B2, d2, rfl, s2, hd2, _⟩ := hu
    simp only at s1 s2 hd1 hd2
    have hsl := seq_len l.length l (Nat.le_refl _)
    have hxl := hsl.2 (x1, x2) (hpre.subset (by simp))
    simp only at hxl
    have hpl : pre.length + 1 ≤ (seqF l).length := by
      have := hpre.length_le
      simpa using this
    have hp1 : x1.length ≤ 100000000000 := by omega
    have hp2 : x2.length ≤ 100000000000 := by omega
    have hpm : (pre.map Prod.fst).length = pre.length := List.length_map _
    have hs3 := h3.size
    have HCL := Lib.hid (clone_any B1 x1.length d1 x1 W.drew s1 (by omega))
    have HPU := Lib.hid (all_push (W := W.drew) (ps := pre.map Prod.fst) (c := c) (m := m) (A := A) h1 (hpm.symm ▸ h2) h3 h4 (by omega) x1)
    have f2 := h2.cell 0 rfl
    have q2 := h2.frozen 0
    have hsa : sizeAt m (pre ++ [(x1, x2)]) = (m : Int) - (x2.length : Int) := by
      unfold sizeAt
      rw [List.getLast?_append]
      rfl
    have HSA := Lib.hid hsa
    rw [hpm] at HPU
    clear s1 s2 hpre hseq hlay hsl hxl hsa
    gi_wp2
    refine wpIn_region_any (by assumption) ?_
    change wpAnyIn _ _ _ _ _ _ _ _ _ (World.drew _)
    refine wpAnyIn_ready (rs := [0, 1]) (by kernel_rfl) (by simp) ?_
    refine AllReadyIn.cons (o := ⟨some 12, _, _, _, _, _⟩) rfl (fun K hK => ?_) (AllReadyIn.cons (o := ⟨some 13, _, _, _, _, _⟩) rfl (fun K hK => ?_) (AllReadyIn.nil))
    · go_simp
      refine hK _ _ ?_
      clear hK K
      (try simp only [Act.put, List.setIfInBounds_toArray, List.set_cons_zero, List.set_cons_succ])
      refine wpAnyIn_ready (rs := [1]) (by kernel_rfl) (by simp) ?_
      refine AllReadyIn.cons (o := ⟨some 13, _, _, _, _, _⟩) rfl (fun K hK => ?_) (AllReadyIn.nil)
      go_simp
      refine hK _ _ ?_
      clear hK K
      (try simp only [Act.put, List.setIfInBounds_toArray, List.set_cons_zero, List.set_cons_succ])
      refine wpAnyIn_ready (rs := [2]) (by kernel_rfl) (by simp) ?_
      refine AllReadyIn.cons (o := ⟨some 14, _, _, _, _, _⟩) rfl (fun K hK => ?_) (AllReadyIn.nil)
      go_simp
      refine ⟨trivial, rfl, (CallsIn.inRound l' (callsIn_wide.2 HCL.out)).mono ?_⟩
      rintro e w2 ⟨A1, c1, rfl, r1, hb2⟩
      obtain ⟨D', d', w3, hrun, hg4, hq4, hne, f3, q3, hfin⟩ := HPU.out w2 A1 c1 r1 hb2
      have hm4 := World.new_ne w2 _ hg4
      have hm5 : w.heap.size + 1 < w2.heap.size := by have := hb2.size; simp at this; omega
      have hm6 := (World.cell?_alloc_lt w2 (.cells #[.slice A1 x1.length c1] 22) ⟨w.heap.size + 1, 0, none⟩ hm5).trans hg4
      have HR := Lib.hid hrun
      clear hrun
      refine hK _ _ ?_
      clear hK K
      (try simp only [Act.put, List.setIfInBounds_toArray, List.set_cons_zero, List.set_cons_succ])
      refine wpAnyIn_ready (rs := [3]) (by kernel_rfl) (by simp) ?_
      refine AllReadyIn.cons (o := ⟨some 15, _, _, _, _, _⟩) rfl (fun K hK => ?_) (AllReadyIn.nil)
      go_simp
      refine hK _ _ ?_
      clear hK K
      (try simp only [Act.put, List.setIfInBounds_toArray, List.set_cons_zero, List.set_cons_succ])
      refine wpAnyIn_ready (rs := [4]) (by kernel_rfl) (by simp) ?_
      refine AllReadyIn.cons (o := ⟨some 16, _, _, _, _, _⟩) rfl (fun K hK => ?_) (AllReadyIn.nil)
      rw [if_pos (by rfl)]
      refine wpIn_append_run HR.out rfl rfl rfl ?_
      refine hK _ _ ?_
      clear hK K
      (try simp only [Act.put, List.setIfInBounds_toArray, List.set_cons_zero, List.set_cons_succ])
      refine wpAnyIn_ready (rs := [5]) (by kernel_rfl) (by simp) ?_
      refine AllReadyIn.cons (o := ⟨none, _, _, _, _, _⟩) rfl (fun K hK => ?_) (AllReadyIn.nil)
      go_simp
      refine hK _ _ ?_
      clear hK K
      (try simp only [Act.put, List.setIfInBounds_toArray, List.set_cons_zero, List.set_cons_succ])
      refine wpAnyIn_done (by kernel_rfl) ?_ _
      have hfin' := hfin.out
      clear hfin
      generalize w3.setCell ⟨w.heap.size + 1, 0, none⟩ (.slice D' (pre.length + 1) d') = Z at *
      obtain ⟨z0, z1, z2, z3, z4, z5⟩ := hfin'
      have y0 := z0.cell 0 rfl
      have y2 := z2.cell 0 rfl
      have y2f := z2.frozen 0
      gi_wp2
      replace z4 : Below w.heap.size W Z := (below_drew (Below.refl _ _)).trans z4
      replace z5 : ∀ n, KeepsFrom n W Z := fun n => (keeps_below (below_drew (Below.refl _ _))).trans (z5 n)
      refine ⟨(z5 _).trans (keeps_set _ _ _), z4.setCell (p := ⟨w.heap.size + 2, 0, none⟩) (by simp) _, D', d', z0.far (by simp) _, ?_, ?_, ?_, bel_set (p := ⟨w.heap.size + 2, 0, none⟩) (hb.trans z4) (by simp) _⟩
      · rw [List.length_append]; exact z1.far (by simp) _
      · rw [HSA.out]; exact z2.set 0 _
      · rw [List.map_append]; exact z3.far (by simp) _
    · go_simp
      refine hK _ _ ?_
      clear hK K
      (try simp only [Act.put, List.setIfInBounds_toArray, List.set_cons_zero, List.set_cons_succ])
      refine wpAnyIn_ready (rs := [0, 2]) (by kernel_rfl) (by simp) ?_
      refine AllReadyIn.cons (o := ⟨some 12, _, _, _, _, _⟩) rfl (fun K hK => ?_) (AllReadyIn.cons (o := ⟨some 14, _, _, _, _, _⟩) rfl (fun K hK => ?_) (AllReadyIn.nil))
      · go_simp
        refine hK _ _ ?_
        clear hK K
        (try simp only [Act.put, List.setIfInBounds_toArray, List.set_cons_zero, List.set_cons_succ])
        refine wpAnyIn_ready (rs := [2]) (by kernel_rfl) (by simp) ?_
        refine AllReadyIn.cons (o := ⟨some 14, _, _, _, _, _⟩) rfl (fun K hK => ?_) (AllReadyIn.nil)
        go_simp
        refine ⟨trivial, rfl, (CallsIn.inRound l' (callsIn_wide.2 HCL.out)).mono ?_⟩
        rintro e w2 ⟨A1, c1, rfl, r1, hb2⟩
        obtain ⟨D', d', w3, hrun, hg4, hq4, hne, f3, q3, hfin⟩ := HPU.out w2 A1 c1 r1 hb2
        have hm4 := World.new_ne w2 _ hg4
        have hm5 : w.heap.size + 1 < w2.heap.size := by have := hb2.size; simp at this; omega
        have hm6 := (World.cell?_alloc_lt w2 (.cells #[.slice A1 x1.length c1] 22) ⟨w.heap.size + 1, 0, none⟩ hm5).trans hg4
        have HR := Lib.hid hrun
        clear hrun
        refine hK _ _ ?_
        clear hK K
        (try simp only [Act.put, List.setIfInBounds_toArray, List.set_cons_zero, List.set_cons_succ])
        refine wpAnyIn_ready (rs := [3]) (by kernel_rfl) (by simp) ?_
        refine AllReadyIn.cons (o := ⟨some 15, _, _, _, _, _⟩) rfl (fun K hK => ?_) (AllReadyIn.nil)
        go_simp
        refine hK _ _ ?_
        clear hK K
        (try simp only [Act.put, List.setIfInBounds_toArray, List.set_cons_zero, List.set_cons_succ])
        refine wpAnyIn_ready (rs := [4]) (by kernel_rfl) (by simp) ?_
        refine AllReadyIn.cons (o := ⟨some 16, _, _, _, _, _⟩) rfl (fun K hK => ?_) (AllReadyIn.nil)
        rw [if_pos (by rfl)]
        refine wpIn_append_run HR.out rfl rfl rfl ?_
        refine hK _ _ ?_
        clear hK K
        (try simp only [Act.put, List.setIfInBounds_toArray, List.set_cons_zero, List.set_cons_succ])
        refine wpAnyIn_ready (rs := [5]) (by kernel_rfl) (by simp) ?_
        refine AllReadyIn.cons (o := ⟨none, _, _, _, _, _⟩) rfl (fun K hK => ?_) (AllReadyIn.nil)
        go_simp
        refine hK _ _ ?_
        clear hK K
        (try simp only [Act.put, List.setIfInBounds_toArray, List.set_cons_zero, List.set_cons_succ])
        refine wpAnyIn_done (by kernel_rfl) ?_ _
        have hfin' := hfin.out
        clear hfin
        generalize w3.setCell ⟨w.heap.size + 1, 0, none⟩ (.slice D' (pre.length + 1) d') = Z at *
        obtain ⟨z0, z1, z2, z3, z4, z5⟩ := hfin'
        have y0 := z0.cell 0 rfl
        have y2 := z2.cell 0 rfl
        have y2f := z2.frozen 0
        gi_wp2
        replace z4 : Below w.heap.size W Z := (below_drew (Below.refl _ _)).trans z4
        replace z5 : ∀ n, KeepsFrom n W Z := fun n => (keeps_below (below_drew (Below.refl _ _))).trans (z5 n)
        refine ⟨(z5 _).trans (keeps_set _ _ _), z4.setCell (p := ⟨w.heap.size + 2, 0, none⟩) (by simp) _, D', d', z0.far (by simp) _, ?_, ?_, ?_, bel_set (p := ⟨w.heap.size + 2, 0, none⟩) (hb.trans z4) (by simp) _⟩
        · rw [List.length_append]; exact z1.far (by simp) _
        · rw [HSA.out]; exact z2.set 0 _
        · rw [List.map_append]; exact z3.far (by simp) _
      · go_simp
        refine ⟨trivial, rfl, (CallsIn.inRound l' (callsIn_wide.2 HCL.out)).mono ?_⟩
        rintro e w2 ⟨A1, c1, rfl, r1, hb2⟩
        obtain ⟨D', d', w3, hrun, hg4, hq4, hne, f3, q3, hfin⟩ := HPU.out w2 A1 c1 r1 hb2
        have hm4 := World.new_ne w2 _ hg4
        have hm5 : w.heap.size + 1 < w2.heap.size := by have := hb2.size; simp at this; omega
        have hm6 := (World.cell?_alloc_lt w2 (.cells #[.slice A1 x1.length c1] 22) ⟨w.heap.size + 1, 0, none⟩ hm5).trans hg4
        have HR := Lib.hid hrun
        clear hrun
        refine hK _ _ ?_
        clear hK K
        (try simp only [Act.put, List.setIfInBounds_toArray, List.set_cons_zero, List.set_cons_succ])
        refine wpAnyIn_ready (rs := [0, 3]) (by kernel_rfl) (by simp) ?_
        refine AllReadyIn.cons (o := ⟨some 12, _, _, _, _, _⟩) rfl (fun K hK => ?_) (AllReadyIn.cons (o := ⟨some 15, _, _, _, _, _⟩) rfl (fun K hK => ?_) (AllReadyIn.nil))
        · go_simp
          refine hK _ _ ?_
          clear hK K
          (try simp only [Act.put, List.setIfInBounds_toArray, List.set_cons_zero, List.set_cons_succ])
          refine wpAnyIn_ready (rs := [3]) (by kernel_rfl) (by simp) ?_
          refine AllReadyIn.cons (o := ⟨some 15, _, _, _, _, _⟩) rfl (fun K hK => ?_) (AllReadyIn.nil)
          go_simp
          refine hK _ _ ?_
          clear hK K
          (try simp only [Act.put, List.setIfInBounds_toArray, List.set_cons_zero, List.set_cons_succ])
          refine wpAnyIn_ready (rs := [4]) (by kernel_rfl) (by simp) ?_
          refine AllReadyIn.cons (o := ⟨some 16, _, _, _, _, _⟩) rfl (fun K hK => ?_) (AllReadyIn.nil)
          rw [if_pos (by rfl)]
          refine wpIn_append_run HR.out rfl rfl rfl ?_
          refine hK _ _ ?_
          clear hK K
          (try simp only [Act.put, List.setIfInBounds_toArray, List.set_cons_zero, List.set_cons_succ])
          refine wpAnyIn_ready (rs := [5]) (by kernel_rfl) (by simp) ?_
          refine AllReadyIn.cons (o := ⟨none, _, _, _, _, _⟩) rfl (fun K hK => ?_) (AllReadyIn.nil)
          go_simp
          refine hK _ _ ?_
          clear hK K
          (try simp only [Act.put, List.setIfInBounds_toArray, List.set_cons_zero, List.set_cons_succ])
          refine wpAnyIn_done (by kernel_rfl) ?_ _
          have hfin' := hfin.out
          clear hfin
          generalize w3.setCell ⟨w.heap.size + 1, 0, none⟩ (.slice D' (pre.length + 1) d') = Z at *
          obtain ⟨z0, z1, z2, z3, z4, z5⟩ := hfin'
          have y0 := z0.cell 0 rfl
          have y2 := z2.cell 0 rfl
          have y2f := z2.frozen 0
          gi_wp2
          replace z4 : Below w.heap.size W Z := (below_drew (Below.refl _ _)).trans z4
          replace z5 : ∀ n, KeepsFrom n W Z := fun n => (keeps_below (below_drew (Below.refl _ _))).trans (z5 n)
          refine ⟨(z5 _).trans (keeps_set _ _ _), z4.setCell (p := ⟨w.heap.size + 2, 0, none⟩) (by simp) _, D', d', z0.far (by simp) _, ?_, ?_, ?_, bel_set (p := ⟨w.heap.size + 2, 0, none⟩) (hb.trans z4) (by simp) _⟩
          · rw [List.length_append]; exact z1.far (by simp) _
          · rw [HSA.out]; exact z2.set 0 _
          · rw [List.map_append]; exact z3.far (by simp) _
        · go_simp
          refine hK _ _ ?_
          clear hK K
          (try simp only [Act.put, List.setIfInBounds_toArray, List.set_cons_zero, List.set_cons_succ])
          refine wpAnyIn_ready (rs := [0]) (by kernel_rfl) (by simp) ?_
          refine AllReadyIn.cons (o := ⟨some 12, _, _, _, _, _⟩) rfl (fun K hK => ?_) (AllReadyIn.nil)
          go_simp
          refine hK _ _ ?_
          clear hK K
          (try simp only [Act.put, List.setIfInBounds_toArray, List.set_cons_zero, List.set_cons_succ])
          refine wpAnyIn_ready (rs := [4]) (by kernel_rfl) (by simp) ?_
          refine AllReadyIn.cons (o := ⟨some 16, _, _, _, _, _⟩) rfl (fun K hK => ?_) (AllReadyIn.nil)
          rw [if_pos (by rfl)]
          refine wpIn_append_run HR.out rfl rfl rfl ?_
          refine hK _ _ ?_
          clear hK K
          (try simp only [Act.put, List.setIfInBounds_toArray, List.set_cons_zero, List.set_cons_succ])
          refine wpAnyIn_ready (rs := [5]) (by kernel_rfl) (by simp) ?_
          refine AllReadyIn.cons (o := ⟨none, _, _, _, _, _⟩) rfl (fun K hK => ?_) (AllReadyIn.nil)
          go_simp
          refine hK _ _ ?_
          clear hK K
          (try simp only [Act.put, List.setIfInBounds_toArray, List.set_cons_zero, List.set_cons_succ])
          refine wpAnyIn_done (by kernel_rfl) ?_ _
          have hfin' := hfin.out
          clear hfin
          generalize w3.setCell ⟨w.heap.size + 1, 0, none⟩ (.slice D' (pre.length + 1) d') = Z at *
          obtain ⟨z0, z1, z2, z3, z4, z5⟩ := hfin'
          have y0 := z0.cell 0 rfl
          have y2 := z2.cell 0 rfl
          have y2f := z2.frozen 0
          gi_wp2
          replace z4 : Below w.heap.size W Z := (below_drew (Below.refl _ _)).trans z4
          replace z5 : ∀ n, KeepsFrom n W Z := fun n => (keeps_below (below_drew (Below.refl _ _))).trans (z5 n)
          refine ⟨(z5 _).trans (keeps_set _ _ _), z4.setCell (p := ⟨w.heap.size + 2, 0, none⟩) (by simp) _, D', d', z0.far (by simp) _, ?_, ?_, ?_, bel_set (p := ⟨w.heap.size + 2, 0, none⟩) (hb.trans z4) (by simp) _⟩
          · rw [List.length_append]; exact z1.far (by simp) _
          · rw [HSA.out]; exact z2.set 0 _
          · rw [List.map_append]; exact z3.far (by simp) _
end Go.Proofs.Ytfjbpjojpjkfcaa
