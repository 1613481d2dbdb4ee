/-
  Package fixes' put of weeks into a map, and what comes out of it.
-/
import Derived.Test.YtedkhjbnjkcemaaZba
import Derived.Test.YtedkhjbnjkcemaaZay
import Derived.Test.YtedkhjbnjkcemaaZav
namespace Go.Proofs.Ytedkhjbnjkcemaa
open Go.RowKit
set_option linter.unusedVariables false
set_option linter.unusedSimpArgs false
set_option maxRecDepth 20000

theorem MapK.ne_has {w : World} {b n g : Nat} {f : KeyP → Bool} {cs : Array Value} (h : MapK w b n f) (hg : Has w g cs) : g ≠ b := by
  obtain ⟨D, ⟨es, clock, hh, _⟩, _⟩ := h
  obtain ⟨t, hg⟩ := hg
  intro e
  subst e
  rw [hg] at hh
  injection hh with hh
  cases hh
theorem MapK.eqv {w : World} {b n : Nat} {f g : KeyP → Bool} (h : MapK w b n f) (e : f = g) : MapK w b n g := by subst e; exact h
theorem MapK.mono {w : World} {b n m : Nat} {f : KeyP → Bool} (h : MapK w b n f) (hm : n ≤ m) : MapK w b m f := by
  obtain ⟨D, h, x⟩ := h
  exact ⟨D, h.mono hm, x⟩
theorem grown_of_below {w w' : World} (h : Below w.heap.size w w') (row : Option Nat) : w.grownBy w' row := ⟨h.os, h.tape, h.output, h.size, fun i hi _ => h.block i hi⟩
/-- The map's keys with k weeks from a on of worker x more. -/
def upK (f : KeyP → Bool) (x a : Int) (k : Nat) : KeyP → Bool := fun q => f q || decide (q.k = x ∧ a ≤ q.n ∧ q.n < a + k)
theorem upK_zero (f : KeyP → Bool) (x a : Int) : upK f x a 0 = f := by
  funext q
  unfold upK
  have : decide (q.k = x ∧ a ≤ q.n ∧ q.n < a + (0 : Nat)) = false := decide_eq_false (by omega)
  rw [this, Bool.or_false]
theorem upK_succ (f : KeyP → Bool) (x a : Int) (k : Nat) : updK (upK f x a k) ⟨x, a + k⟩ = upK f x a (k + 1) := by
  funext q
  unfold updK upK
  obtain ⟨q1, q2⟩ := q
  cases f ⟨q1, q2⟩ with
  | true => simp
  | false =>
    simp only [Bool.false_or, KeyP.mk.injEq]
    rw [← Bool.decide_or, decide_eq_decide]
    omega
set_option maxHeartbeats 2000000 in
theorem putw_any {cs : Array Value} {u c : Int} (hs : cs.size = 23) (h8 : cs[8]? = some (.int .i64 u)) (h9 : cs[9]? = some (.int .i64 c)) (x : EvP) (hi : x.In) (gs gv b n : Nat) (f : KeyP → Bool) (w : World) (hC : Has w gs cs) (hV : Has w gv #[.map (some b)]) (hM : MapK w b n f) (hn : n ≤ 500) :
    Calls Try.prog 29 #[.agg (evC x), .pointer (some ⟨gs, 0, none⟩), .pointer (some ⟨gv, 0, none⟩)] w fun e w' => e = .returned (.tuple #[]) ∧ MapK w' b (n + 6) (upK f x.wk (touchP u c x.tm).1 (manyW u c x)) ∧ w.grownBy w' (some b) := by
  have hbd := touch_bd u c x.tm
  have hmb := many_bd u c x
  have hmd : ((touchP u c x.tm).1 + (manyW u c x : Int) = (touchP u c x.tm).2 + 1) := by unfold manyW; omega
  have HT := Lib.hid (fun W => touch_any cs u c x.tm W hs h8 h9)
  have hw := hi.wk
  have e1 := (Has.new w 33 (evC x) rfl).cell 1 (show (evC x)[1]? = some (.int .i64 x.wk) from rfl)
  have e2 := (Has.new w 33 (evC x) rfl).cell 2 (show (evC x)[2]? = some (.int .i64 x.tm) from rfl)
  have HE1 := Lib.hid (show Has (w.alloc (.cells (evC x) 33)) w.heap.size (evC x) from Has.new w _ _ rfl)
  have HE1c := Lib.hid (show (evC x)[1]? = some (.int .i64 x.wk) from rfl)
  have HC := Lib.hid (hC.alloc (.cells (evC x) 33))
  have HV := Lib.hid (hV.alloc (.cells (evC x) 33))
  have HM := Lib.hid (hM.alloc (.cells (evC x) 33))
  have HB := Lib.hid (bel_alloc (Below.refl w.heap.size w) (.cells (evC x) 33))
  have HS := Lib.hid hs
  have hsz := hC.size
  have hgv := hV.size
  have hbl := hM.lt
  have hnev := hM.ne_has hV
  clear hC hV hM hs h8 h9 hi
  generalize evC x = ce at *
  generalize (touchP u c x.tm).1 = a at *
  generalize (touchP u c x.tm).2 = z at *
  generalize manyW u c x = m at *
  generalize x.wk = wk at *
  generalize x.tm = tm at *
  go_enter Try.func29, Try.ntmps29
  go_wp2_with (first | refine wpList_load_has (by rfl) _ rfl gs rfl cs HC.out HS.out ?_ | fail)
  refine (HT.out _).mono ?_
  rintro e w2 ⟨rfl, hb2⟩
  have HE2 := Lib.hid (HE1.out.below hb2)
  have HV2 := Lib.hid (HV.out.below hb2)
  have HM2 := Lib.hid (HM.out.below hb2)
  have HB2 := Lib.hid (bel_on HB.out hb2)
  have hlt2 : w.heap.size < w2.heap.size := HE2.out.size
  clear e1 e2 HE1 HC HV HM HB HT hb2 HS
  go_wp2
  go_loopw [6] (fun v wr => ∃ k : Nat, k ≤ m ∧ v = .int .i64 (a + k) ∧ Hid (Has wr w.heap.size ce) ∧ Hid (Has wr gv #[.map (some b)]) ∧ Hid (MapK wr b (n + k) (upK f wk a k)) ∧ Hid (w.grownBy wr (some b))) (fun v _ => (z + 1 - intOf v).toNat)
  case atStart => exact ⟨0, Nat.zero_le _, by go_num, HE2, HV2, Lib.hid (by rw [upK_zero]; exact HM2.out), Lib.hid (grown_of_below HB2.out _)⟩
  case round =>
    obtain ⟨k, hk, rfl, he, hv, hm, hg⟩ := hrel
    by_cases hlt : k < m
    · have c1 := he.out.cell 1 HE1c.out
      have c1z := cell_lt c1
      have c2 := hv.out.cell 0 rfl
      have c2z := cell_lt c2
      have hle : a + (k : Int) ≤ z := by omega
      have hin : KeyP.In ⟨wk, a + k⟩ := ⟨hw, by simp only; omega⟩
      have hw1 : IntKind.i64.wrap (a + (k : Int) + 1) = a + ((k + 1 : Nat) : Int) := by rw [wrapp_id (by omega) (by omega)]; omega
      go_wp2_with (first | (refine wpList_put_k hm.out (q := ⟨wk, a + k⟩) (by omega) rfl rfl Try.underlying66 rfl hin rfl ?_; intro w5 hm5 hg5) | fail)
      have he5 := Lib.hid (he.out.grown hg5 (by simp; omega))
      have hv5 := Lib.hid (hv.out.grown hg5 (by simp; omega))
      have hm6 := Lib.hid (hm5.eqv (upK_succ f wk a k))
      have hg6 := Lib.hid (hg.out.andThen hg5 (fun j hj => .inr hj))
      clear he hv hm hg hm5 hg5 c1 c2
      go_wp2
      go_roundw
      case rel => exact ⟨k + 1, by omega, by first | go_num | (rw [hw1]) | (congr 1), he5, hv5, hm6, hg6⟩
      case measure => simp only [intOf]; omega
    · obtain rfl : k = m := by omega
      have hle : ¬ a + (k : Int) ≤ z := by omega
      have hle' : decide (a + (k : Int) ≤ z) = false := decide_eq_false hle
      go_wp2
      go_end0
      exact ⟨rfl, hm.out.mono (by omega), hg.out⟩
theorem RangK.same {w w' : World} {b r n cnt : Nat} {f left : KeyP → Bool} (h : RangK w b r n f left cnt) (hb : w'.heap[b]? = w.heap[b]?) (hr : w'.heap[r]? = w.heap[r]?) : RangK w' b r n f left cnt := by
  obtain ⟨D, lf, ⟨es, clock, since, seen, c0, h1, h2, h3, h4, h5, rest⟩, x⟩ := h
  exact ⟨D, lf, ⟨es, clock, since, seen, c0, hb.trans h1, h2, h3, h4, hr.trans h5, rest⟩, x⟩
/-- What has been collected. -/
structure ColK (f left : KeyP → Bool) (ks : List KeyP) : Prop where
  nd : ks.Nodup
  inn : ∀ q ∈ ks, KeyP.In q
  has : ∀ q : KeyP, q.In → (q ∈ ks ↔ (f q = true ∧ left q = false))
theorem ColK.start (f : KeyP → Bool) : ColK f f [] := ⟨List.nodup_nil, fun q h => by simp at h, fun q _ => by simp⟩
theorem ColK.step {f left : KeyP → Bool} {ks : List KeyP} (h : ColK f left ks) (hf : ∀ q : KeyP, q.In → left q = true → f q = true) {q : KeyP} (hq : q.In) (hl : left q = true) : ColK f (fun p => left p && !decide (p = q)) (ks ++ [q]) := by
  have hn : q ∉ ks := fun hm => by
    have := ((h.has q hq).1 hm).2
    rw [hl] at this; cases this
  refine ⟨?_, ?_, fun p hp => ?_⟩
  · rw [List.nodup_append]
    refine ⟨h.nd, by simp, fun a ha b hb => ?_⟩
    obtain rfl : b = q := by simpa using hb
    rintro rfl
    exact hn ha
  · intro p hp
    rcases List.mem_append.1 hp with hp | hp
    · exact h.inn p hp
    · obtain rfl : p = q := by simpa using hp
      exact hq
  · rw [List.mem_append, h.has p hp]
    by_cases e : p = q
    · subst e
      simp [hf p hp hl]
    · simp [e]
theorem ris_of {ks ys : List KeyP} (hn : ks.Nodup) (hp : ys.Perm ks) (h : ys.Pairwise (fun x y => ltK y x = false)) : RisK ys := by
  have hn2 : ys.Nodup := hp.nodup_iff.2 hn
  rw [List.Nodup] at hn2
  exact (List.Pairwise.and h hn2).imp fun {a b} ⟨h1, h2⟩ => by
    rcases ltK_total h2 with q | q
    · exact q
    · rw [h1] at q; cases q
set_option maxHeartbeats 2000000 in
theorem rising_any (b n : Nat) (f : KeyP → Bool) (w : World) (hM : MapK w b n f) (hn : n ≤ 500) :
    Calls Try.prog 30 #[.map (some b)] w fun e w' => ∃ A m c ks, e = .returned (.slice A m c) ∧ Kys w' A m c ks ∧ RisK ks ∧ (∀ q ∈ ks, KeyP.In q) ∧ (∀ q : KeyP, q.In → (q ∈ ks ↔ f q = true)) ∧ m ≤ n ∧ Below w.heap.size w w' := by
  have hbl := hM.lt
  have HM := Lib.hid hM
  clear hM
  go_enter Try.func30, Try.ntmps30
  go_wp2_with (first | (refine wpList_range_k HM.out rfl rfl Try.underlying66 rfl ?_; intro w1 cnt1 hc1 hr1 hg1 hs1) | fail)
  have HR1 := Lib.hid hr1
  have HB1 := Lib.hid (show Below w.heap.size w w1 from ⟨hg1.os, hg1.tape, hg1.output, hg1.size, fun i hi => hg1.block i hi (by simp)⟩)
  obtain ⟨r, hr⟩ : ∃ r, w.heap.size = r := ⟨_, rfl⟩
  have HSr := Lib.hid hr
  rw [hr] at HR1 hbl hs1 ⊢
  clear hr1 hg1 hr HM
  go_frame
  go_loopw [3] (fun v wr => ∃ (A : Option Addr) (m c : Nat) (ks : List KeyP) (left : KeyP → Bool) (cnt : Nat), v = .slice A m c ∧ ks.length = m ∧ m + cnt ≤ n ∧ Hid (RangK wr b r n f left cnt) ∧ Hid (KRow wr (r + 1) A m c ks) ∧ Hid (ColK f left ks) ∧ Hid (∀ q : KeyP, q.In → left q = true → f q = true) ∧ Hid (Below w.heap.size w wr)) (fun _ wr => wr.rangeLeft b r)
  case atStart => exact ⟨none, 0, 0, [], f, cnt1, rfl, rfl, by omega, HR1, Lib.hid (TRow.nil _ _), Lib.hid (ColK.start f), Lib.hid (fun _ _ h => h), HB1⟩
  case round =>
    obtain ⟨A, m, c, ks, left, cnt, rfl, hkm, hmc, hrg, hrow, hcol, hlf, hbw⟩ := hrel
    go_wp2_with (first | (refine wpList_next_k hrg.out rfl rfl rfl ?_ ?_) | fail)
    · intro hc0 hl0
      have HK := Lib.hid (sortk_any A c m (r + 1) ks wr hrow.out hkm (by omega))
      clear hrg
      go_wp2_with fail
      refine HK.out.mono ?_
      rintro e w9 ⟨rfl, ys, hp, hpw, hky, hb9⟩
      have HE : Hid (∃ A' m' c' ks', (Value.slice A m c) = .slice A' m' c' ∧ Kys w9 A' m' c' ks' ∧ RisK ks' ∧ (∀ q ∈ ks', KeyP.In q) ∧ (∀ q : KeyP, q.In → (q ∈ ks' ↔ f q = true)) ∧ m' ≤ n ∧ Below w.heap.size w w9) := Lib.hid ⟨A, m, c, ys, rfl, hky, ris_of hcol.out.nd hp hpw, fun q hq => hcol.out.inn q (hp.mem_iff.1 hq), fun q hq => by
        rw [hp.mem_iff, hcol.out.has q hq, hl0 q hq]
        simp, by omega, hb9 w (by rw [HSr.out]; omega) hbw.out⟩
      clear hp hpw hky hb9
      go_wp2
      go_ret
      obtain ⟨A', m', c', ks', h1, h2⟩ := HE.out
      exact ⟨A', m', c', ks', by rw [← h1]; rfl, h2⟩
    · intro q v w5 cnt5 hq hl5 hr5 hlt5 hg5 hsz5 hen
      have hrl := hrg.out.lt
      have hrl5 := hr5.lt
      have hrow5 : KRow w5 (r + 1) A m c ks := hrow.out.keep fun g hg => hg5.block g.block (hrow.out.lt g hg).2 (by have := (hrow.out.lt g hg).1; simp; omega)
      have hbw5 : Below w.heap.size w w5 := hbw.out.grown hg5 hbw.out.size (fun k hk => by injection hk with hk; have := HSr.out; omega)
      have hcol5 := Lib.hid (hcol.out.step hlf.out hq hl5)
      have hlf5 : Hid (∀ p : KeyP, p.In → (left p && !decide (p = q)) = true → f p = true) := Lib.hid (fun p hp h => hlf.out p hp (by simp at h; exact h.1))
      have hbs := hbw5.size
      rw [HSr.out] at hbs
      obtain ⟨A6, c6, w6, hr6, hrow6, hk6, hkeep6, _⟩ := krow_one (hrow5.alloc (.cells (kyC q) 56)) q (by omega) (by simp; omega) (s := wr.heap.size + 1) (by simp [hsz5])
      have HR6 := Lib.hid hr6
      have hoff : ∀ i, i ≤ r → i < w5.heap.size → w6.heap[i]? = w5.heap[i]? := fun i hi hl => by
        rw [hkeep6 i (by simp; omega) (fun g hg => by have := (hrow5.lt g hg).1; omega)]
        exact Below.heap_alloc w5 _ i hl
      have hr6' : Hid (RangK w6 b r n f (fun p => left p && !decide (p = q)) cnt5) := by
        exact Lib.hid (hr5.same (hoff b (by omega) (by omega)) (hoff r (Nat.le_refl _) (by omega)))
      have hbw6 : Hid (Below w.heap.size w w6) := Lib.hid (below_kept0 (bel_alloc hbw5 _) (hk6.less fun i hi => by have := HSr.out; omega))
      have HROW6 := Lib.hid hrow6
      have hll : (ks ++ [q]).length = m + 1 := by simp [hkm]
      have hme := hrg.out.left_eq
      have hme6 := hr6'.out.left_eq
      clear hrow5 hbw5 hr6 hrow6 hk6 hkeep6 hoff hr5 hrg hrow hcol hlf hbw
      simp only [kyV, kyC] at hen HR6 ⊢
      generalize q.k = qk at hen HR6 ⊢
      generalize q.n = qn at hen HR6 ⊢
      go_wp2_with (first | (at_builtin; refine wpList_append_run (o := ⟨some 14, _, _, _, _, _⟩) HR6.out rfl rfl rfl rfl ?_) | fail)
      go_roundw
      case rel => exact ⟨A6, m + 1, c6, ks ++ [q], _, cnt5, rfl, hll, by omega, hr6', HROW6, hcol5, hlf5, hbw6⟩
      case measure => rw [hme6, hme]; exact hlt5
end Go.Proofs.Ytedkhjbnjkcemaa
