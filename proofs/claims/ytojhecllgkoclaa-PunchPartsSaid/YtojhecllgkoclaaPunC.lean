/-
  The days that have some: how they are put, one by one.
-/
import Derived.Test.YtojhecllgkoclaaPunB
import Derived.Test.YtojhecllgkoclaaNRow
import Derived.Test.YtojhecllgkoclaaSetK
namespace Go.Proofs.Ytojhecllgkoclaa
open Go.RowKit
set_option linter.unusedVariables false
set_option linter.unusedSimpArgs false
set_option maxRecDepth 20000

/-- A day is put behind those that there are, unless it is the last one. -/
def pushD (D : List Int) (d : Int) : List Int := if D.length = 0 ∨ D.getD (D.length - 1) 0 < d then D ++ [d] else D
theorem pushD_len (D : List Int) (d : Int) : (pushD D d).length ≤ D.length + 1 := by
  unfold pushD
  split <;> simp
theorem last_mem {D : List Int} (h : 0 < D.length) : D.getD (D.length - 1) 0 ∈ D := by
  have e : D.getD (D.length - 1) 0 = D[D.length - 1]'(by omega) := by simp [List.getD, List.getElem?_eq_getElem (show D.length - 1 < D.length by omega)]
  rw [e]
  exact List.getElem_mem _
theorem last_most {D : List Int} (hD : D.Pairwise (· < ·)) {x : Int} (hx : x ∈ D) : x ≤ D.getD (D.length - 1) 0 := by
  obtain ⟨i, hi, rfl⟩ := List.mem_iff_getElem.1 hx
  have e : D.getD (D.length - 1) 0 = D[D.length - 1]'(by omega) := by simp [List.getD, List.getElem?_eq_getElem (show D.length - 1 < D.length by omega)]
  rw [e]
  rcases Nat.lt_or_ge i (D.length - 1) with q | q
  · exact Int.le_of_lt (List.pairwise_iff_getElem.1 hD i (D.length - 1) hi (by omega) q)
  · have : i = D.length - 1 := by omega
    subst this
    exact Int.le_refl _
theorem push_rise {D : List Int} {d : Int} (hD : D.Pairwise (· < ·)) : (pushD D d).Pairwise (· < ·) := by
  unfold pushD
  split
  · next h =>
    rw [List.pairwise_append]
    refine ⟨hD, by simp, fun a ha b hb => ?_⟩
    rw [List.mem_singleton.1 hb]
    rcases h with h | h
    · rw [List.eq_nil_of_length_eq_zero h] at ha; cases ha
    · have := last_most hD ha
      omega
  · exact hD
theorem push_mem {D : List Int} {d : Int} (hd : ∀ x ∈ D, x ≤ d) (x : Int) : x ∈ pushD D d ↔ x ∈ D ∨ x = d := by
  unfold pushD
  split
  · simp
  · next h =>
    constructor
    · exact .inl
    · rintro (q | q)
      · exact q
      · have h0 : 0 < D.length := by omega
        have h1 := hd _ (last_mem h0)
        have h2 : D.getD (D.length - 1) 0 = d := by omega
        rw [q, ← h2]
        exact last_mem h0
/-- Seconds of one day more. -/
theorem days_push {p q : Int → Prop} {T T' d : Int} (h0 : 0 ≤ T) (hT : T < T') (hT' : T' ≤ 32054400) (hp : ∀ t, p t → t < T) (hq : ∀ t, 0 ≤ t → t < 32054400 → (q t ↔ p t ∨ (T ≤ t ∧ t < T'))) (hd : T / 86400 = d) (hd' : (T' - 1) / 86400 = d) :
    pushD (daysP p) d = daysP q := by
  have hle : ∀ x ∈ daysP p, x ≤ d := fun x hx => by
    obtain ⟨t, t0, t1, ht, rfl⟩ := (days_mem p x).1 hx
    have := hp t ht
    omega
  refine days_eq (push_rise (days_rise p)) fun x => ?_
  rw [push_mem hle, days_mem]
  constructor
  · rintro (⟨t, t0, t1, ht, rfl⟩ | rfl)
    · exact ⟨t, t0, t1, (hq t t0 t1).2 (.inl ht), rfl⟩
    · exact ⟨T, h0, by omega, (hq T h0 (by omega)).2 (.inr ⟨by omega, hT⟩), hd⟩
  · rintro ⟨t, t0, t1, ht, rfl⟩
    rcases (hq t t0 t1).1 ht with q | q
    · exact .inl ⟨t, t0, t1, q, rfl⟩
    · exact .inr (by omega)
/-- What the other loop asks: whether the last one is another day. -/
theorem push_ne {D : List Int} {d : Int} (hd : ∀ x ∈ D, x ≤ d) : pushD D d = if D.length = 0 ∨ D.getD (D.length - 1) 0 ≠ d then D ++ [d] else D := by
  unfold pushD
  by_cases h0 : D.length = 0
  · rw [if_pos (.inl h0), if_pos (.inl h0)]
  · have := hd _ (last_mem (by omega))
    by_cases h1 : D.getD (D.length - 1) 0 < d
    · rw [if_pos (.inr h1), if_pos (.inr (by omega))]
    · rw [if_neg (by omega), if_neg (by omega)]
theorem daysP_len (p : Int → Prop) : (daysP p).length ≤ 371 := by
  unfold daysP
  rw [List.length_map]
  exact Nat.le_trans (List.length_filter_le _ _) (by simp)
theorem daysP_bd (p : Int → Prop) : ∀ x ∈ daysP p, 0 ≤ x ∧ x ≤ 370 := fun x hx => by
  obtain ⟨t, t0, t1, ht, rfl⟩ := (days_mem p x).1 hx
  omega
theorem daysP_congr {p q : Int → Prop} (h : ∀ t, 0 ≤ t → t < 32054400 → (p t ↔ q t)) : daysP p = daysP q :=
  days_eq (days_rise p) fun d => by
    rw [days_mem]
    exact ⟨fun ⟨t, a, b, c, e⟩ => ⟨t, a, b, (h t a b).1 c, e⟩, fun ⟨t, a, b, c, e⟩ => ⟨t, a, b, (h t a b).2 c, e⟩⟩
theorem daysP_nil {p : Int → Prop} (h : ∀ t, 0 ≤ t → t < 32054400 → ¬ p t) : daysP p = [] := by
  rcases hd : daysP p with _ | ⟨x, l⟩
  · rfl
  · obtain ⟨t, a, b, c, e⟩ := (days_mem p x).1 (by rw [hd]; simp)
    exact absurd c (h t a b)
/-- The days of the first k spans, and of the next one's seconds below T. -/
def upP (L : List (Int × Int)) (k : Nat) (T t : Int) : Prop := In (L.take k) t ∨ ((L.getD k (0, 0)).1 ≤ t ∧ t < (L.getD k (0, 0)).2 ∧ t < T)
theorem plain_lt {L : List (Int × Int)} (h : PlainFrom 0 L) {k : Nat} (hk : k < L.length) {t : Int} (ht : In (L.take k) t) : t < (L.getD k (0, 0)).1 := by
  obtain ⟨s, hs, h1, h2⟩ := ht
  obtain ⟨i, hi, rfl⟩ := List.mem_iff_getElem.1 hs
  rw [List.length_take] at hi
  have e := List.pairwise_iff_getElem.1 (plain_pairs.1 h).2 i k (by omega) hk (by omega)
  rw [List.getElem_take] at h2
  have e2 : L.getD k (0, 0) = L[k] := by simp [List.getD, hk]
  rw [e2]
  omega
theorem upP_first {L : List (Int × Int)} {k : Nat} {T : Int} (hT : T ≤ (L.getD k (0, 0)).1) : daysP (In (L.take k)) = daysP (upP L k T) :=
  daysP_congr fun t a b => by
    unfold upP
    constructor
    · exact .inl
    · rintro (q | q)
      · exact q
      · omega
theorem upP_last {L : List (Int × Int)} {k : Nat} (hk : k < L.length) {T : Int} (hT : (L.getD k (0, 0)).2 ≤ T) : daysP (upP L k T) = daysP (In (L.take (k + 1))) :=
  daysP_congr fun t a b => by
    rw [in_take L k hk]
    unfold upP
    constructor
    · rintro (q | q)
      · exact .inl q
      · exact .inr ⟨q.1, q.2.1⟩
    · rintro (q | q)
      · exact .inl q
      · exact .inr ⟨q.1, q.2, by omega⟩
theorem upP_step {L : List (Int × Int)} (h : PlainFrom 0 L) {k : Nat} (hk : k < L.length) {f n : Int} (hf : (L.getD k (0, 0)).1 / 86400 = f) (hn : 0 ≤ n) (hl : f + n ≤ ((L.getD k (0, 0)).2 - 1) / 86400) :
    pushD (daysP (upP L k ((f + n) * 86400))) (f + n) = daysP (upP L k ((f + n + 1) * 86400)) ∧ ∀ x ∈ daysP (upP L k ((f + n) * 86400)), x ≤ f + n := by
  obtain ⟨b1, b2, b3⟩ := (plain_pairs.1 h).1 (L.getD k (0, 0)) (by simp [List.getD, hk])
  have hlt := fun t => plain_lt h hk (t := t)
  unfold upP at *
  generalize (L.getD k (0, 0)).1 = a at *
  generalize (L.getD k (0, 0)).2 = b at *
  generalize In (L.take k) = P at *
  refine ⟨days_push (T := max a ((f + n) * 86400)) (T' := min b ((f + n + 1) * 86400)) (by omega) (by omega) (by omega) ?_ ?_ (by omega) (by omega), ?_⟩
  · rintro t (q | q)
    · have := hlt t q; omega
    · omega
  · intro t t0 t1
    constructor
    · rintro (q | q)
      · exact .inl (.inl q)
      · by_cases h : t < (f + n) * 86400
        · exact .inl (.inr ⟨q.1, q.2.1, h⟩)
        · exact .inr (by omega)
    · rintro ((q | q) | q)
      · exact .inl q
      · exact .inr (by omega)
      · exact .inr (by omega)
  · intro x hx
    obtain ⟨t, t0, t1, ht, rfl⟩ := (days_mem _ x).1 hx
    rcases ht with q | q
    · have := hlt t q; omega
    · omega

/-! ### A number more -/
theorem nrow_at {w : World} {base c : Nat} {A : Option Addr} {xs : List Int} (h : NRow w base A c xs) {k : Nat} (hk : k < xs.length) : ∃ b off, A = some ⟨b, off, none⟩ ∧ w.cell? ⟨b, off + k, none⟩ = some (.int .i64 (xs.getD k 0)) := h.nums k hk
theorem nrow_one {w : World} {base c : Nat} {A : Option Addr} {xs : List Int} (h : NRow w base A c xs) {n : Nat} (hn : xs.length = n) (y : Int) (hm : n ≤ 1000000) (hbase : base ≤ w.heap.size) {s : Nat} (hs : w.heap.size = s) :
    ∃ A' c' w', (Builtin.append_ #[27, 27] 27 #[.slice A n c, .slice (some ⟨s, 0, none⟩) 1 1]).run Try.prog (w.alloc (.cells #[.int .i64 y] 3)) = .ok (.slice A' (n + 1) c') w' ∧ NRow w' base A' c' (xs ++ [y]) ∧ Kept (fun b => b < base) w w' := by
  subst hn hs
  obtain ⟨A', c', w', hr, ho, hg, hl⟩ := append_any (P := Try.prog) (w.alloc (.cells #[.int .i64 y] 3)) base 27 27 3 _ 1 8 Try.underlying27 int_info rfl (by omega) (World.ownsRow.alloc h _)
    (Sl.of_own (own_new w 3 1 1 (ints .i64 [y]).toArray (by simp [ints]) (by simp only [maxLen]; omega))) (ints_one .i64 [y]) (xs.length + 1) rfl (ints .i64 (xs ++ [y])) (by simp [ints]) (by omega) (by omega) (by simp; omega)
  have hsz := hg.size
  simp at hsz
  refine ⟨A', c', w', hr, ?_, ⟨hg.os, hg.tape, hg.output, by omega, fun b hb => ?_⟩⟩
  · unfold NRow
    rw [List.length_append]
    exact ho
  · rw [hg.block b (by simp; omega) ?_]
    · exact Below.heap_alloc w _ b (by omega)
    · intro e
      cases A with
      | none => simp [Value.ownBlock] at e
      | some a0 =>
        simp [Value.ownBlock] at e
        have := (h.lt a0 rfl).1
        omega
theorem Kept.set {F : Nat → Prop} {a w : World} (h : Kept F a w) {p : Addr} (hp : ¬ F p.block) (v : Value) : Kept F a (w.setCell p v) := by
  refine ⟨h.os, h.tape, h.output, ?_, fun b hb => ?_⟩
  · have := Kept.size h
    simp [World.setCell]
    exact this
  · rw [Below.heap_setCell w p v b (by rintro rfl; exact hp hb)]
    exact h.block b hb
theorem NRow.far {w : World} {base c : Nat} {A : Option Addr} {xs : List Int} (h : NRow w base A c xs) {p : Addr} (hp : ∀ g, A = some g → g.block ≠ p.block) (u : Value) : NRow (w.setCell p u) base A c xs :=
  h.keep fun g hg => Below.heap_setCell w p u _ (hp g hg)

set_option maxHeartbeats 1000000 in
theorem put_any (d : Int) (g : Nat) (A : Option Addr) (c : Nat) (D : List Int) (k base : Nat) (w : World) (hK : Has w g #[.slice A k c]) (hD : D.length = k) (hk : k ≤ 1000) (hR : NRow w base A c D) (hgb : g < base) (hbs : base ≤ w.heap.size) :
    Calls Try.prog 33 #[.int .i64 d, .pointer (some ⟨g, 0, none⟩)] w fun e w' => e = .returned (.tuple #[]) ∧ ∃ A' c', Has w' g #[.slice A' (pushD D d).length c'] ∧ NRow w' base A' c' (pushD D d) ∧ Kept (fun b => b < base ∧ b ≠ g) w w' := by
  have hs := hK.size
  have k0 := hK.cell 0 rfl
  have kf := hK.frozen 0
  have HK := Lib.hid hK
  obtain ⟨A5, c5, w5, hr5, hrow5, hkp5⟩ := nrow_one hR hD d (by omega) hbs (s := w.heap.size) rfl
  have HR5 := Lib.hid hr5
  have hK5 : Has w5 g #[.slice A k c] := hK.kept (F := fun b => b < base) hgb hkp5
  have k5 := hK5.cell 0 rfl
  have k5f := hK5.frozen 0
  have hs5 := hK5.size
  have HEND : Hid (Has (w5.setCell ⟨g, 0, none⟩ (.slice A5 (k + 1) c5)) g #[.slice A5 (k + 1) c5] ∧ NRow (w5.setCell ⟨g, 0, none⟩ (.slice A5 (k + 1) c5)) base A5 c5 (D ++ [d]) ∧ Kept (fun b => b < base ∧ b ≠ g) w (w5.setCell ⟨g, 0, none⟩ (.slice A5 (k + 1) c5))) :=
    ⟨hK5.set 0 _, hrow5.far (fun a ha => by have := (hrow5.lt a ha).1; show a.block ≠ g; omega) _, (hkp5.less (G := fun b => b < base ∧ b ≠ g) fun i hi => hi.1).set (p := ⟨g, 0, none⟩) (fun h => h.2 rfl) _⟩
  have HP : Hid (pushD D d = if k = 0 ∨ D.getD (k - 1) 0 < d then D ++ [d] else D) := by show _ = _; rw [← hD]; rfl
  have HL : Hid ((D ++ [d]).length = k + 1) := by show _ = _; rw [List.length_append, hD]; rfl
  have HRow := Lib.hid hR
  have HD := Lib.hid hD
  clear hK hr5 hrow5 hkp5 hK5 hD
  by_cases h0 : k = 0
  · subst h0
    have HE : Hid (pushD D d = D ++ [d]) := by show _ = _; rw [HP.out, if_pos (.inl rfl)]
    rw [HE.out, HL.out]
    clear HP hR
    go_enter Try.func33, Try.ntmps33
    go_wp2_with (at_builtin; refine wpList_append_run (o := ⟨some 20, _, _, _, _, _⟩) HR5.out rfl rfl rfl rfl ?_)
    go_end0
    exact ⟨rfl, A5, c5, HEND.out⟩
  · obtain ⟨j, rfl⟩ : ∃ j, k = j + 1 := ⟨k - 1, by omega⟩
    obtain ⟨b, off, rfl, hc⟩ := nrow_at hR (k := j) (by rw [HD.out]; omega)
    have hcl := cell_lt hc
    rw [show j + 1 - 1 = j by omega] at HP
    generalize D.getD j 0 = y at *
    clear hR
    by_cases h1 : y < d
    · have HE : Hid (pushD D d = D ++ [d]) := by show _ = _; rw [HP.out, if_pos (.inr h1)]
      rw [HE.out, HL.out]
      clear HP
      go_enter Try.func33, Try.ntmps33
      go_wp2_with (at_builtin; refine wpList_append_run (o := ⟨some 20, _, _, _, _, _⟩) HR5.out rfl rfl rfl rfl ?_)
      go_end0
      exact ⟨rfl, A5, c5, HEND.out⟩
    · have HE : Hid (pushD D d = D) := by show _ = _; rw [HP.out, if_neg (by omega)]
      rw [HE.out, HD.out]
      clear HP HEND HR5
      go_enter Try.func33, Try.ntmps33
      go_wp2
      go_end0
      exact ⟨rfl, _, c, HK.out, HRow.out, Kept.refl _ _⟩
end Go.Proofs.Ytojhecllgkoclaa
