/-
  The days that have some: how they are put, one by one.
  punch.Days, and the document's own.
  The calls whose answers layer 11's document fixes: they are as it says; two lists of numbers that are the same.
-/
import Derived.Test.YtdlimgpmmkcgmaaGreatZaw
import Derived.Test.YtdlimgpmmkcgmaaGreatZaf
namespace Go.Proofs.YtdlimgpmmkcgmaaGreat
open Go.RowKit
set_option linter.unusedVariables false
set_option linter.unusedSimpArgs false
set_option maxRecDepth 20000

/-- A day is put behind those that there are, unless it is the last one. -/
def pushD (D : List Int) (d : Int) : List Int := if D.length = 0 ∨ D.getD (D.length - 1) 0 < d then D ++ [d] else D
theorem last_mem {D : List Int} (h : 0 < D.length) : D.getD (D.length - 1) 0 ∈ D := by
  have e : D.getD (D.length - 1) 0 = D[D.length - 1]'(by omega) := by simp [List.getD, List.getElem?_eq_getElem (show D.length - 1 < D.length by omega)]
  rw [e]
  exact List.getElem_mem _
theorem last_most {D : List Int} (hD : D.Pairwise (· < ·)) {x : Int} (hx : x ∈ D) : x ≤ D.getD (D.length - 1) 0 := by
  obtain ⟨i, hi, rfl⟩ := List.mem_iff_getElem.1 hx
  have e : D.getD (D.length - 1) 0 = D[D.length - 1]'(by omega) := by simp [List.getD, List.getElem?_eq_getElem (show D.length - 1 < D.length by omega)]
  rw [e]
  rcases Nat.lt_or_ge i (D.length - 1) with q | q
  · exact Int.le_of_lt (List.pairwise_iff_getElem.1 hD i (D.length - 1) hi (by omega) q)
  · have : i = D.length - 1 := by omega
    subst this
    exact Int.le_refl _
theorem push_rise {D : List Int} {d : Int} (hD : D.Pairwise (· < ·)) : (pushD D d).Pairwise (· < ·) := by
  unfold pushD
  split
  · next h =>
    rw [List.pairwise_append]
    refine ⟨hD, by simp, fun a ha b hb => ?_⟩
    rw [List.mem_singleton.1 hb]
    rcases h with h | h
    · rw [List.eq_nil_of_length_eq_zero h] at ha; cases ha
    · have := last_most hD ha
      omega
  · exact hD
theorem push_mem {D : List Int} {d : Int} (hd : ∀ x ∈ D, x ≤ d) (x : Int) : x ∈ pushD D d ↔ x ∈ D ∨ x = d := by
  unfold pushD
  split
  · simp
  · next h =>
    constructor
    · exact .inl
    · rintro (q | q)
      · exact q
      · have h0 : 0 < D.length := by omega
        have h1 := hd _ (last_mem h0)
        have h2 : D.getD (D.length - 1) 0 = d := by omega
        rw [q, ← h2]
        exact last_mem h0
/-- Seconds of one day more. -/
theorem days_push {p q : Int → Prop} {T T' d : Int} (h0 : 0 ≤ T) (hT : T < T') (hT' : T' ≤ 32054400) (hp : ∀ t, p t → t < T) (hq : ∀ t, 0 ≤ t → t < 32054400 → (q t ↔ p t ∨ (T ≤ t ∧ t < T'))) (hd : T / 86400 = d) (hd' : (T' - 1) / 86400 = d) :
    pushD (daysP p) d = daysP q := by
  have hle : ∀ x ∈ daysP p, x ≤ d := fun x hx => by
    obtain ⟨t, t0, t1, ht, rfl⟩ := (days_mem p x).1 hx
    have := hp t ht
    omega
  refine days_eq (push_rise (days_rise p)) fun x => ?_
  rw [push_mem hle, days_mem]
  constructor
  · rintro (⟨t, t0, t1, ht, rfl⟩ | rfl)
    · exact ⟨t, t0, t1, (hq t t0 t1).2 (.inl ht), rfl⟩
    · exact ⟨T, h0, by omega, (hq T h0 (by omega)).2 (.inr ⟨by omega, hT⟩), hd⟩
  · rintro ⟨t, t0, t1, ht, rfl⟩
    rcases (hq t t0 t1).1 ht with q | q
    · exact .inl ⟨t, t0, t1, q, rfl⟩
    · exact .inr (by omega)
/-- What the other loop asks: whether the last one is another day. -/
theorem push_ne {D : List Int} {d : Int} (hd : ∀ x ∈ D, x ≤ d) : pushD D d = if D.length = 0 ∨ D.getD (D.length - 1) 0 ≠ d then D ++ [d] else D := by
  unfold pushD
  by_cases h0 : D.length = 0
  · rw [if_pos (.inl h0), if_pos (.inl h0)]
  · have := hd _ (last_mem (by omega))
    by_cases h1 : D.getD (D.length - 1) 0 < d
    · rw [if_pos (.inr h1), if_pos (.inr (by omega))]
    · rw [if_neg (by omega), if_neg (by omega)]
theorem daysP_len (p : Int → Prop) : (daysP p).length ≤ 371 := by
  unfold daysP
  rw [List.length_map]
  exact Nat.le_trans (List.length_filter_le _ _) (by simp)
theorem daysP_congr {p q : Int → Prop} (h : ∀ t, 0 ≤ t → t < 32054400 → (p t ↔ q t)) : daysP p = daysP q :=
  days_eq (days_rise p) fun d => by
    rw [days_mem]
    exact ⟨fun ⟨t, a, b, c, e⟩ => ⟨t, a, b, (h t a b).1 c, e⟩, fun ⟨t, a, b, c, e⟩ => ⟨t, a, b, (h t a b).2 c, e⟩⟩
theorem daysP_nil {p : Int → Prop} (h : ∀ t, 0 ≤ t → t < 32054400 → ¬ p t) : daysP p = [] := by
  rcases hd : daysP p with _ | ⟨x, l⟩
  · rfl
  · obtain ⟨t, a, b, c, e⟩ := (days_mem p x).1 (by rw [hd]; simp)
    exact absurd c (h t a b)
/-- The days of the first k spans, and of the next one's seconds below T. -/
def upP (L : List (Int × Int)) (k : Nat) (T t : Int) : Prop := In (L.take k) t ∨ ((L.getD k (0, 0)).1 ≤ t ∧ t < (L.getD k (0, 0)).2 ∧ t < T)
theorem plain_lt {L : List (Int × Int)} (h : PlainFrom 0 L) {k : Nat} (hk : k < L.length) {t : Int} (ht : In (L.take k) t) : t < (L.getD k (0, 0)).1 := by
  obtain ⟨s, hs, h1, h2⟩ := ht
  obtain ⟨i, hi, rfl⟩ := List.mem_iff_getElem.1 hs
  rw [List.length_take] at hi
  have e := List.pairwise_iff_getElem.1 (plain_pairs.1 h).2 i k (by omega) hk (by omega)
  rw [List.getElem_take] at h2
  have e2 : L.getD k (0, 0) = L[k] := by simp [List.getD, hk]
  rw [e2]
  omega
theorem upP_first {L : List (Int × Int)} {k : Nat} {T : Int} (hT : T ≤ (L.getD k (0, 0)).1) : daysP (In (L.take k)) = daysP (upP L k T) :=
  daysP_congr fun t a b => by
    unfold upP
    constructor
    · exact .inl
    · rintro (q | q)
      · exact q
      · omega
theorem upP_last {L : List (Int × Int)} {k : Nat} (hk : k < L.length) {T : Int} (hT : (L.getD k (0, 0)).2 ≤ T) : daysP (upP L k T) = daysP (In (L.take (k + 1))) :=
  daysP_congr fun t a b => by
    rw [in_take L k hk]
    unfold upP
    constructor
    · rintro (q | q)
      · exact .inl q
      · exact .inr ⟨q.1, q.2.1⟩
    · rintro (q | q)
      · exact .inl q
      · exact .inr ⟨q.1, q.2, by omega⟩
theorem upP_step {L : List (Int × Int)} (h : PlainFrom 0 L) {k : Nat} (hk : k < L.length) {f n : Int} (hf : (L.getD k (0, 0)).1 / 86400 = f) (hn : 0 ≤ n) (hl : f + n ≤ ((L.getD k (0, 0)).2 - 1) / 86400) :
    pushD (daysP (upP L k ((f + n) * 86400))) (f + n) = daysP (upP L k ((f + n + 1) * 86400)) ∧ ∀ x ∈ daysP (upP L k ((f + n) * 86400)), x ≤ f + n := by
  obtain ⟨b1, b2, b3⟩ := (plain_pairs.1 h).1 (L.getD k (0, 0)) (by simp [List.getD, hk])
  have hlt := fun t => plain_lt h hk (t := t)
  unfold upP at *
  generalize (L.getD k (0, 0)).1 = a at *
  generalize (L.getD k (0, 0)).2 = b at *
  generalize In (L.take k) = P at *
  refine ⟨days_push (T := max a ((f + n) * 86400)) (T' := min b ((f + n + 1) * 86400)) (by omega) (by omega) (by omega) ?_ ?_ (by omega) (by omega), ?_⟩
  · rintro t (q | q)
    · have := hlt t q; omega
    · omega
  · intro t t0 t1
    constructor
    · rintro (q | q)
      · exact .inl (.inl q)
      · by_cases h : t < (f + n) * 86400
        · exact .inl (.inr ⟨q.1, q.2.1, h⟩)
        · exact .inr (by omega)
    · rintro ((q | q) | q)
      · exact .inl q
      · exact .inr (by omega)
      · exact .inr (by omega)
  · intro x hx
    obtain ⟨t, t0, t1, ht, rfl⟩ := (days_mem _ x).1 hx
    rcases ht with q | q
    · have := hlt t q; omega
    · omega

/-! ### A number more -/
theorem nrow_at {w : World} {base c : Nat} {A : Option Addr} {xs : List Int} (h : NRow w base A c xs) {k : Nat} (hk : k < xs.length) : ∃ b off, A = some ⟨b, off, none⟩ ∧ w.cell? ⟨b, off + k, none⟩ = some (.int .i64 (xs.getD k 0)) := h.nums k hk
theorem nrow_one {w : World} {base c : Nat} {A : Option Addr} {xs : List Int} (h : NRow w base A c xs) {n : Nat} (hn : xs.length = n) (y : Int) (hm : n ≤ 1000000) (hbase : base ≤ w.heap.size) {s : Nat} (hs : w.heap.size = s) :
    ∃ A' c' w', (Builtin.append_ #[27, 27] 27 #[.slice A n c, .slice (some ⟨s, 0, none⟩) 1 1]).run Tryz.prog (w.alloc (.cells #[.int .i64 y] 3)) = .ok (.slice A' (n + 1) c') w' ∧ NRow w' base A' c' (xs ++ [y]) ∧ Kept (fun b => b < base) w w' := by
  subst hn hs
  obtain ⟨A', c', w', hr, ho, hg, hl⟩ := append_any (P := Tryz.prog) (w.alloc (.cells #[.int .i64 y] 3)) base 27 27 3 _ 1 8 Tryz.underlying27 int_info rfl (by omega) (World.ownsRow.alloc h _)
    (Sl.of_own (own_new w 3 1 1 (ints .i64 [y]).toArray (by simp [ints]) (by simp only [maxLen]; omega))) (ints_one .i64 [y]) (xs.length + 1) rfl (ints .i64 (xs ++ [y])) (by simp [ints]) (by omega) (by omega) (by simp; omega)
  have hsz := hg.size
  simp at hsz
  refine ⟨A', c', w', hr, ?_, ⟨hg.os, hg.tape, hg.output, by omega, fun b hb => ?_⟩⟩
  · unfold NRow
    rw [List.length_append]
    exact ho
  · rw [hg.block b (by simp; omega) ?_]
    · exact Below.heap_alloc w _ b (by omega)
    · intro e
      cases A with
      | none => simp [Value.ownBlock] at e
      | some a0 =>
        simp [Value.ownBlock] at e
        have := (h.lt a0 rfl).1
        omega
theorem Kept.setc {F : Nat → Prop} {a w : World} (h : Kept F a w) {p : Addr} (hp : ¬ F p.block) (v : Value) : Kept F a (w.setCell p v) := by
  refine ⟨h.os, h.tape, h.output, ?_, fun b hb => ?_⟩
  · have := Kept.size h
    simp [World.setCell]
    exact this
  · rw [Below.heap_setCell w p v b (by rintro rfl; exact hp hb)]
    exact h.block b hb
theorem NRow.far {w : World} {base c : Nat} {A : Option Addr} {xs : List Int} (h : NRow w base A c xs) {p : Addr} (hp : ∀ g, A = some g → g.block ≠ p.block) (u : Value) : NRow (w.setCell p u) base A c xs :=
  h.keep fun g hg => Below.heap_setCell w p u _ (hp g hg)

set_option maxHeartbeats 1000000 in
theorem put_any (d : Int) (g : Nat) (A : Option Addr) (c : Nat) (D : List Int) (k base : Nat) (w : World) (hK : Has w g #[.slice A k c]) (hD : D.length = k) (hk : k ≤ 1000) (hR : NRow w base A c D) (hgb : g < base) (hbs : base ≤ w.heap.size) :
    Calls Tryz.prog 140 #[.int .i64 d, .pointer (some ⟨g, 0, none⟩)] w fun e w' => e = .returned (.tuple #[]) ∧ ∃ A' c', Has w' g #[.slice A' (pushD D d).length c'] ∧ NRow w' base A' c' (pushD D d) ∧ Kept (fun b => b < base ∧ b ≠ g) w w' := by
  have hs := hK.size
  have k0 := hK.cell 0 rfl
  have kf := hK.frozen 0
  have HK := Lib.hid hK
  obtain ⟨A5, c5, w5, hr5, hrow5, hkp5⟩ := nrow_one hR hD d (by omega) hbs (s := w.heap.size) rfl
  have HR5 := Lib.hid hr5
  have hK5 : Has w5 g #[.slice A k c] := hK.kept (F := fun b => b < base) hgb hkp5
  have k5 := hK5.cell 0 rfl
  have k5f := hK5.frozen 0
  have hs5 := hK5.size
  have HEND : Hid (Has (w5.setCell ⟨g, 0, none⟩ (.slice A5 (k + 1) c5)) g #[.slice A5 (k + 1) c5] ∧ NRow (w5.setCell ⟨g, 0, none⟩ (.slice A5 (k + 1) c5)) base A5 c5 (D ++ [d]) ∧ Kept (fun b => b < base ∧ b ≠ g) w (w5.setCell ⟨g, 0, none⟩ (.slice A5 (k + 1) c5))) :=
    ⟨hK5.set 0 _, hrow5.far (fun a ha => by have := (hrow5.lt a ha).1; show a.block ≠ g; omega) _, (hkp5.less (G := fun b => b < base ∧ b ≠ g) fun i hi => hi.1).setc (p := ⟨g, 0, none⟩) (fun h => h.2 rfl) _⟩
  have HP : Hid (pushD D d = if k = 0 ∨ D.getD (k - 1) 0 < d then D ++ [d] else D) := by show _ = _; rw [← hD]; rfl
  have HL : Hid ((D ++ [d]).length = k + 1) := by show _ = _; rw [List.length_append, hD]; rfl
  have HRow := Lib.hid hR
  have HD := Lib.hid hD
  clear hK hr5 hrow5 hkp5 hK5 hD
  by_cases h0 : k = 0
  · subst h0
    have HE : Hid (pushD D d = D ++ [d]) := by show _ = _; rw [HP.out, if_pos (.inl rfl)]
    rw [HE.out, HL.out]
    clear HP hR
    go_enter Tryz.func140, Tryz.ntmps140
    go_wp2_with (at_builtin; refine wpList_append_run (o := ⟨some 20, _, _, _, _, _⟩) HR5.out rfl rfl rfl rfl ?_)
    go_end0
    exact ⟨rfl, A5, c5, HEND.out⟩
  · obtain ⟨j, rfl⟩ : ∃ j, k = j + 1 := ⟨k - 1, by omega⟩
    obtain ⟨b, off, rfl, hc⟩ := nrow_at hR (k := j) (by rw [HD.out]; omega)
    have hcl := cell_lt hc
    rw [show j + 1 - 1 = j by omega] at HP
    generalize D.getD j 0 = y at *
    clear hR
    by_cases h1 : y < d
    · have HE : Hid (pushD D d = D ++ [d]) := by show _ = _; rw [HP.out, if_pos (.inr h1)]
      rw [HE.out, HL.out]
      clear HP
      go_enter Tryz.func140, Tryz.ntmps140
      go_wp2_with (at_builtin; refine wpList_append_run (o := ⟨some 20, _, _, _, _, _⟩) HR5.out rfl rfl rfl rfl ?_)
      go_end0
      exact ⟨rfl, A5, c5, HEND.out⟩
    · have HE : Hid (pushD D d = D) := by show _ = _; rw [HP.out, if_neg (by omega)]
      rw [HE.out, HD.out]
      clear HP HEND HR5
      go_enter Tryz.func140, Tryz.ntmps140
      go_wp2
      go_end0
      exact ⟨rfl, _, c, HK.out, HRow.out, Kept.refl _ _⟩
end Go.Proofs.YtdlimgpmmkcgmaaGreat

namespace Go.Proofs.YtdlimgpmmkcgmaaGreat
open Go.RowKit
set_option linter.unusedVariables false
set_option linter.unusedSimpArgs false
set_option maxRecDepth 20000

theorem row_kept {F : Nat → Prop} {w w' : World} {base c : Nat} {A : Option Addr} {xs : List (Int × Int)} (h : Row w base A c xs) (k : Kept F w w') (hF : ∀ b, base ≤ b → b < w.heap.size → F b) : Row w' base A c xs :=
  h.keep fun g hg => k.block _ (hF _ (h.lt g hg).1 (h.lt g hg).2)
/-- What a call that tells numbers answers. -/
def GivesN (w : World) (xs : List Int) (e : Ending) (w' : World) : Prop := ∃ A c, e = .returned (.slice A xs.length c) ∧ NRow w' w.heap.size A c xs ∧ Below w.heap.size w w'
theorem day_same (t : Int) (W : World) : Calls Tryz.prog 101 #[.int .i64 t] W fun e w' => e = .returned (.int .i64 (dayP t)) ∧ w' = W :=
  (day_any t W).mono fun _ _ h => ⟨h.1, h.2.symm⟩
theorem pday_at {t : Int} (h : 0 ≤ t) (h' : t < 32054400) : dayP t = t / 86400 := by unfold dayP; rw [sec_in h h']
set_option maxHeartbeats 2000000 in
theorem days_any (A : Option Addr) (cap : Nat) (xs : List (Int × Int)) (w : World) (hx : Spans w A xs) (hl : xs.length ≤ 100000000) :
    Calls Tryz.prog 105 #[.slice A xs.length cap] w (GivesN w (daysP (In xs))) := by
  have hE : daysP (In (canon (In xs))) = daysP (In xs) := daysP_congr fun t a b => by rw [canon_in]; exact ⟨fun h => h.2.2, fun h => ⟨a, b, h⟩⟩
  have HE := Lib.hid hE
  have HP := Lib.hid (canon_plain (In xs))
  have hlen := canon_len (In xs)
  have hb0 := bel_alloc (Below.refl w.heap.size w) (.cells #[.slice none 0 0] 27)
  have hcon := norm_any A cap xs (w.alloc (.cells #[.slice none 0 0] 27)) (hx.below hb0) hl
  have HK0 : Has (w.alloc (.cells #[.slice none 0 0] 27)) w.heap.size #[.slice none 0 0] := Has.new _ _ _ rfl
  clear hx hE
  generalize canon (In xs) = L at *
  go_enter Tryz.func105, Tryz.ntmps105
  go_wp2_with fail
  refine hcon.mono ?_
  rintro e w1 ⟨D, dc, rfl, hrow, hb1⟩
  have hK1 := HK0.below hb1
  have hgz : w.heap.size < w1.heap.size := hK1.size
  have hsz : (w.alloc (.cells #[.slice none 0 0] 27)).heap.size = w.heap.size + 1 := by simp
  rw [hsz] at hrow
  have HB1 := Lib.hid (bel_on hb0 hb1)
  have HROW := Lib.hid hrow
  clear hrow hcon hb0 hb1 HK0 hsz
  have eg : ∀ args W, (callFunc 140 args).run Tryz.prog W = .ok (.enter 140 args) W := enters_of Tryz.func140 (by kernel_rfl) rfl
  obtain ⟨g, hg⟩ : ∃ g, w.heap.size = g := ⟨_, rfl⟩
  have HG := Lib.hid hg
  rw [hg] at hgz hK1 HROW
  rw [hg]
  clear hg
  go_wp2
  go_loopw [14] (fun i wr => ∃ (k : Nat) (B : Option Addr) (c : Nat), k ≤ L.length ∧ i = .int .i64 k ∧ Hid (Has wr g #[.slice B (daysP (In (L.take k))).length c]) ∧ Hid (NRow wr w1.heap.size B c (daysP (In (L.take k)))) ∧ Hid (Kept (fun b => b < w1.heap.size ∧ b ≠ g) w1 wr)) (fun i _ => L.length - (intOf i).toNat)
  case atStart =>
    have h0 : daysP (In (L.take 0)) = [] := daysP_nil fun t _ _ h => by rw [List.take_zero] at h; exact in_nil t h
    exact ⟨0, none, 0, Nat.zero_le _, rfl, by rw [h0]; exact hK1, by rw [h0]; exact NRow.nil _ _, Kept.refl _ _⟩
  case round =>
    obtain ⟨k, B, c, hk, rfl, hK, hR, hKp⟩ := hrel
    by_cases hlt : k < L.length
    · have hrw := row_kept HROW.out hKp.out (fun b h1 h2 => ⟨h2, by omega⟩)
      obtain ⟨b, off, rfl, hblt, c1, c2⟩ := (hrw.spans (.of_plain HP.out)).2 k hlt
      have HZ := (plain_pairs.1 HP.out).1 (L.getD k (0, 0)) (by simp [List.getD, hlt])
      have HS := Lib.hid (fun f n hf hn hl => upP_step HP.out hlt (f := f) (n := n) hf hn hl)
      have HF := Lib.hid (fun T hT => upP_first (L := L) (k := k) (T := T) hT)
      have HL := Lib.hid (fun T hT => upP_last hlt (T := T) hT)
      generalize L.getD k (0, 0) = z at *
      obtain ⟨x, y⟩ := z
      simp only [] at *
      obtain ⟨z0, z1, z2⟩ := HZ
      have hp := pday_at (t := x) (by omega) (by omega)
      have hq := pday_at (t := y - 1) (by omega) (by omega)
      have CP := Lib.hid (fun W => day_same x W)
      have CQ := Lib.hid (fun W => day_same (y - 1) W)
      rw [hp] at CP
      rw [hq] at CQ
      clear hp hq hrw
      have hp1 : x / 86400 * 86400 ≤ x ∧ 0 ≤ x / 86400 ∧ x / 86400 ≤ 370 ∧ x / 86400 ≤ (y - 1) / 86400 ∧ (y - 1) / 86400 ≤ 370 ∧ y ≤ ((y - 1) / 86400 + 1) * 86400 := by omega
      obtain ⟨p, hpe⟩ : ∃ p, x / 86400 = p := ⟨_, rfl⟩
      obtain ⟨q, hqe⟩ : ∃ q, (y - 1) / 86400 = q := ⟨_, rfl⟩
      rw [hpe, hqe] at hp1
      rw [hpe] at CP
      rw [hqe] at CQ
      have HS2 : Hid (∀ n : Nat, p + n ≤ q → pushD (daysP (upP L k ((p + n) * 86400))) (p + n) = daysP (upP L k ((p + n + 1) * 86400))) := fun n hn => (HS.out p n hpe (by omega) (by omega)).1
      clear HS hpe hqe
      obtain ⟨p1, p2, p3, p4, p5, p6⟩ := hp1
      obtain ⟨m, hm⟩ : ∃ m : Nat, q - p + 1 = m := ⟨(q - p + 1).toNat, by omega⟩
      have HR1 : Hid (daysP (In (L.take k)) = daysP (upP L k (p * 86400))) := HF.out _ p1
      have HR2 : Hid (daysP (upP L k ((p + m) * 86400)) = daysP (In (L.take (k + 1)))) := HL.out _ (by omega)
      clear HF HL p1 p6
      rw [HR1.out] at hK hR
      have HS0 := Has.new wr 44 #[.int .i64 x, .int .i64 y] rfl
      have t0 := HS0.cell 0 rfl
      have t1 := HS0.cell 1 rfl
      have hKp2 : Hid (Kept (fun b => b < w1.heap.size ∧ b ≠ g) w1 (wr.alloc (.cells #[.int .i64 x, .int .i64 y] 44))) := hKp.out.on (.of_below (bel_alloc (Below.refl _ _) _) fun i hi => Nat.lt_of_lt_of_le hi.1 hKp.out.size)
      have hK2 : Hid (Has (wr.alloc (.cells #[.int .i64 x, .int .i64 y] 44)) g #[.slice B (daysP (upP L k (p * 86400))).length c]) := hK.out.alloc _
      have hR2 : Hid (NRow (wr.alloc (.cells #[.int .i64 x, .int .i64 y] 44)) w1.heap.size B c (daysP (upP L k (p * 86400)))) := hR.out.alloc _
      clear HS0 hKp hK hR
      go_wp2
      go_quiet (first | (go_at_call 101; with_reducible exact Calls.quiet_of_same (CP.out _)) | (go_at_call 101; with_reducible exact Calls.quiet_of_same (CQ.out _)))
      have hKp3 : Hid (Kept (fun b => b < w1.heap.size ∧ b ≠ g) w1 ((wr.alloc (.cells #[.int .i64 x, .int .i64 y] 44)).drewN nq)) := ⟨hKp2.out.os, hKp2.out.tape, hKp2.out.output, hKp2.out.size, hKp2.out.block⟩
      have hK3 : Hid (Has ((wr.alloc (.cells #[.int .i64 x, .int .i64 y] 44)).drewN nq) g #[.slice B (daysP (upP L k (p * 86400))).length c]) := hK2.out.drewN nq
      have hR3 : Hid (NRow ((wr.alloc (.cells #[.int .i64 x, .int .i64 y] 44)).drewN nq) w1.heap.size B c (daysP (upP L k (p * 86400)))) := hR2.out
      generalize (wr.alloc (.cells #[.int .i64 x, .int .i64 y] 44)).drewN nq = w3 at *
      clear hKp2 hK2 hR2 t0 t1 CP CQ HR1
      go_wp2
      go_loopw [29] (fun j wr2 => ∃ (n : Nat) (B : Option Addr) (c : Nat), n ≤ m ∧ j = .int .i64 n ∧ Hid (Has wr2 g #[.slice B (daysP (upP L k ((p + n) * 86400))).length c]) ∧ Hid (NRow wr2 w1.heap.size B c (daysP (upP L k ((p + n) * 86400)))) ∧ Hid (Kept (fun b => b < w1.heap.size ∧ b ≠ g) w1 wr2)) (fun j _ => m - (intOf j).toNat)
      case atStart =>
        have e0 : p + ((0 : Nat) : Int) = p := by omega
        exact ⟨0, B, c, Nat.zero_le _, rfl, by rw [e0]; exact hK3, by rw [e0]; exact hR3, hKp3⟩
      case round =>
        clear hK3 hR3 hKp3
        obtain ⟨n, B2, c2, hn, rfl, hK4, hR4, hKp4⟩ := hrel
        by_cases hlt2 : n < m
        · have i1 : (n : Int) < q - p + 1 := by omega
          have hD := daysP_len (upP L k ((p + n) * 86400))
          have HPU := HS2.out n (by omega)
          have e1 : p + ((n + 1 : Nat) : Int) = p + n + 1 := by omega
          have CC := Lib.hid (put_any (p + n) g B2 c2 (daysP (upP L k ((p + n) * 86400))) _ w1.heap.size wr hK4.out rfl (by omega) hR4.out hgz hKp4.out.size)
          rw [HPU] at CC
          clear HPU
          have i2 : -9223372036854775808 ≤ p + (n : Int) ∧ p + (n : Int) ≤ 9223372036854775807 := by omega
          go_wp2_with fail
          refine CC.out.mono ?_
          rintro e w5 ⟨rfl, A5, c5, hK5, hR5, hKp5⟩
          replace hKp5 := Lib.hid (hKp4.out.on hKp5)
          replace hK5 := Lib.hid hK5
          replace hR5 := Lib.hid hR5
          clear CC hK4 hR4 hKp4
          go_wp2
          go_roundw
          case rel => exact ⟨n + 1, A5, c5, by omega, by go_num, by rw [e1]; exact hK5, by rw [e1]; exact hR5, hKp5⟩
          case measure => simp [intOf]; omega
        · obtain rfl : n = m := by omega
          have i1 : ¬ (n : Int) < q - p + 1 := by omega
          rw [HR2.out] at hK4 hR4
          go_wp2
          go_roundw
          case rel => exact ⟨k + 1, B2, c2, by omega, by go_num, hK4, hR4, hKp4⟩
          case measure => simp [intOf]; omega
    · obtain rfl : k = L.length := by omega
      rw [List.take_length, HE.out] at hK hR
      have k0 := hK.out.cell 0 rfl
      have kl := hK.out.size
      have HBW : Hid (Below w.heap.size w wr) := by
        have h1 := hKp.out.below (B := w.heap.size) (fun i hi => ⟨by have := HG.out; omega, by have := HG.out; omega⟩)
        have h2 := HB1.out
        exact ⟨h1.os.trans h2.os, h1.tape.trans h2.tape, h1.output.trans h2.output, Nat.le_trans h2.size h1.size, fun b hb => (h1.block b hb).trans (h2.block b hb)⟩
      have HRW : Hid (NRow wr g B c (daysP (In xs))) := hR.out.mono (by omega)
      generalize daysP (In xs) = R at *
      go_wp2
      go_ret
      exact ⟨B, c, rfl, by have := HG.out; rw [this]; exact HRW.out, HBW.out⟩
theorem rday_same (t : Int) (W : World) : Calls Tryz.prog 119 #[.int .i64 t] W fun e w' => e = .returned (.int .i64 (dayP t)) ∧ w' = W :=
  (rday_any t W).mono fun _ _ h => ⟨h.1, h.2.symm⟩
theorem below_kept {w1 wr w5 : World} (h : Below w1.heap.size w1 wr) (k : Kept (fun b => b < w1.heap.size) wr w5) : Below w1.heap.size w1 w5 :=
  ⟨k.os.trans h.os, k.tape.trans h.tape, k.output.trans h.output, Nat.le_trans h.size k.size, fun b hb => (k.block b hb).trans (h.block b hb)⟩
set_option maxHeartbeats 4000000 in
theorem rdays_any (A : Option Addr) (cap : Nat) (xs : List (Int × Int)) (w : World) (hx : Spans w A xs) (hl : xs.length ≤ 100000000) :
    Calls Tryz.prog 70 #[.slice A xs.length cap] w (GivesN w (daysP (In xs))) := by
  have hE : daysP (In (canon (In xs))) = daysP (In xs) := daysP_congr fun t a b => by rw [canon_in]; exact ⟨fun h => h.2.2, fun h => ⟨a, b, h⟩⟩
  have HE := Lib.hid hE
  have HP := Lib.hid (canon_plain (In xs))
  have hlen := canon_len (In xs)
  have hcon := rnorm_any A cap xs w hx hl
  clear hx hE
  generalize canon (In xs) = L at *
  go_enter Tryz.func70, Tryz.ntmps70
  go_wp2_with fail
  refine hcon.mono ?_
  rintro e w1 ⟨D, dc, rfl, hrow, hb1⟩
  have HB1 := Lib.hid hb1
  have HROW := Lib.hid hrow
  clear hrow hcon hb1
  go_wp2
  go_loopw [4, 5] (fun o i wr => ∃ (k : Nat) (B : Option Addr) (c : Nat), k ≤ L.length ∧ i = .int .i64 k ∧ o = .slice B (daysP (In (L.take k))).length c ∧ Hid (NRow wr w1.heap.size B c (daysP (In (L.take k)))) ∧ Hid (Below w1.heap.size w1 wr)) (fun _ i _ => L.length - (intOf i).toNat)
  case atStart =>
    have h0 : daysP (In (L.take 0)) = [] := daysP_nil fun t _ _ h => by rw [List.take_zero] at h; exact in_nil t h
    exact ⟨0, none, 0, Nat.zero_le _, rfl, by rw [h0]; rfl, by rw [h0]; exact NRow.nil _ _, Below.refl _ _⟩
  case round =>
    obtain ⟨k, B, c, hk, rfl, rfl, hR, hKp⟩ := hrel
    by_cases hlt : k < L.length
    · obtain ⟨b, off, rfl, hblt, c1, c2⟩ := (HROW.out.spans (.of_plain HP.out)).2 k hlt
      have hblt' := Nat.lt_of_lt_of_le hblt hKp.out.size
      have HC : Hid (∀ W, Below w1.heap.size w1 W → W.cell? ⟨b, off + k * 2 + 1, none⟩ = some (.int .i64 (L.getD k (0, 0)).2) ∧ b < W.heap.size) := fun W hW => ⟨(hW.cell hblt).trans c2, Nat.lt_of_lt_of_le hblt hW.size⟩
      replace c1 := (hKp.out.cell hblt).trans c1
      clear c2
      have HZ := (plain_pairs.1 HP.out).1 (L.getD k (0, 0)) (by simp [List.getD, hlt])
      have HS := Lib.hid (fun f n hf hn hl => upP_step HP.out hlt (f := f) (n := n) hf hn hl)
      have HF := Lib.hid (fun T hT => upP_first (L := L) (k := k) (T := T) hT)
      have HL := Lib.hid (fun T hT => upP_last hlt (T := T) hT)
      generalize L.getD k (0, 0) = z at *
      obtain ⟨x, y⟩ := z
      simp only [] at *
      obtain ⟨z0, z1, z2⟩ := HZ
      have hp := pday_at (t := x) (by omega) (by omega)
      have hq := pday_at (t := y - 1) (by omega) (by omega)
      have CP := Lib.hid (fun W => rday_same x W)
      have CQ := Lib.hid (fun W => rday_same (y - 1) W)
      rw [hp] at CP
      rw [hq] at CQ
      clear hp hq
      have hp1 : x / 86400 * 86400 ≤ x ∧ 0 ≤ x / 86400 ∧ x / 86400 ≤ 370 ∧ x / 86400 ≤ (y - 1) / 86400 ∧ (y - 1) / 86400 ≤ 370 ∧ y ≤ ((y - 1) / 86400 + 1) * 86400 := by omega
      obtain ⟨p, hpe⟩ : ∃ p, x / 86400 = p := ⟨_, rfl⟩
      obtain ⟨q, hqe⟩ : ∃ q, (y - 1) / 86400 = q := ⟨_, rfl⟩
      rw [hpe, hqe] at hp1
      rw [hpe] at CP
      rw [hqe] at CQ
      have HS2 : Hid (∀ n : Nat, p + n ≤ q → daysP (upP L k ((p + n + 1) * 86400)) = if (daysP (upP L k ((p + n) * 86400))).length = 0 ∨ (daysP (upP L k ((p + n) * 86400))).getD ((daysP (upP L k ((p + n) * 86400))).length - 1) 0 ≠ p + n then daysP (upP L k ((p + n) * 86400)) ++ [p + (n : Int)] else daysP (upP L k ((p + n) * 86400))) := fun n hn => by
        obtain ⟨h1, h2⟩ := HS.out p n hpe (by omega) (by omega)
        rw [← h1, push_ne h2]
      clear HS hpe hqe
      obtain ⟨p1, p2, p3, p4, p5, p6⟩ := hp1
      obtain ⟨m, hm⟩ : ∃ m : Nat, q - p + 1 = m := ⟨(q - p + 1).toNat, by omega⟩
      have HR1 : Hid (daysP (In (L.take k)) = daysP (upP L k (p * 86400))) := HF.out _ p1
      have HR2 : Hid (daysP (upP L k ((p + m) * 86400)) = daysP (In (L.take (k + 1)))) := HL.out _ (by omega)
      clear HF HL p1 p6
      rw [HR1.out] at hR ⊢
      go_wp2_with fail
      refine (CP.out _).mono ?_
      rintro e w2 ⟨rfl, rfl⟩
      clear HR1 CP c1 hblt'
      go_wp2
      go_loopw [4, 6] (fun o d wr2 => ∃ (n : Nat) (B : Option Addr) (c : Nat), n ≤ m ∧ d = .int .i64 (p + n) ∧ o = .slice B (daysP (upP L k ((p + n) * 86400))).length c ∧ Hid (NRow wr2 w1.heap.size B c (daysP (upP L k ((p + n) * 86400)))) ∧ Hid (Below w1.heap.size w1 wr2)) (fun _ d _ => m - (intOf d - p).toNat)
      case atStart =>
        have e0 : p + ((0 : Nat) : Int) = p := by omega
        exact ⟨0, B, c, Nat.zero_le _, by rw [e0], by rw [e0], by rw [e0]; exact hR, hKp⟩
      case round =>
        clear hR hKp
        obtain ⟨n, B2, c2, hn, rfl, rfl, hR4, hKp4⟩ := hrel
        obtain ⟨cy, hcl⟩ := HC.out _ hKp4.out
        by_cases hlt2 : n < m
        · have hD := daysP_len (upP L k ((p + n) * 86400))
          have HPU := HS2.out n (by omega)
          have e1 : p + ((n + 1 : Nat) : Int) = p + n + 1 := by omega
          have HR2b := HR2
          obtain ⟨d, hd⟩ : ∃ d, p + (n : Int) = d := ⟨_, rfl⟩
          rw [hd] at HPU hR4 hD e1 ⊢
          have i1 : d ≤ q := by omega
          have i2 : 0 ≤ d := by omega
          obtain ⟨Dn, hDn⟩ : ∃ Dn, daysP (upP L k (d * 86400)) = Dn := ⟨_, rfl⟩
          rw [hDn] at HPU hR4 hD ⊢
          obtain ⟨r, hr⟩ : ∃ r, Dn.length = r := ⟨_, rfl⟩
          rw [hr] at HPU hD ⊢
          obtain ⟨A5, c5, w5, hr5, hrow5, hkp5⟩ := nrow_one hR4.out hr d (by omega) hKp4.out.size (s := wr.heap.size) rfl
          have HR5 := Lib.hid hr5
          have HB5 := Lib.hid (below_kept hKp4.out hkp5)
          have HRW5 := Lib.hid hrow5
          have HL5 : Hid ((Dn ++ [d]).length = r + 1) := by show _ = _; rw [List.length_append, hr]; rfl
          have HMS : Hid (m - (d + 1 - p).toNat < m - (d - p).toNat) := by show _ < _; omega
          replace hd := Lib.hid hd
          replace hr := Lib.hid hr
          clear hr5 hrow5 hkp5 hDn
          by_cases h0 : r = 0
          · subst h0
            rw [if_pos (.inl rfl)] at HPU
            replace HPU := Lib.hid HPU
            go_wp2_with fail
            refine (CQ.out _).mono ?_
            rintro e w2 ⟨rfl, rfl⟩
            go_wp2_with (at_builtin; refine wpList_append_run (o := ⟨some 48, _, _, _, _, _⟩) HR5.out rfl rfl rfl rfl ?_)
            go_roundw
            case rel => exact ⟨n + 1, A5, c5, by omega, by rw [e1], by rw [e1, HPU.out, HL5.out], by rw [e1, HPU.out]; exact HRW5, HB5⟩
            case measure => simp [intOf]; first | exact HMS.out | (have := HMS.out; omega)
          · obtain ⟨j, rfl⟩ : ∃ j, r = j + 1 := ⟨r - 1, by omega⟩
            obtain ⟨b3, off3, rfl, hc3⟩ := nrow_at hR4.out (k := j) (by rw [hr.out]; omega)
            have hcl3 := cell_lt hc3
            rw [show j + 1 - 1 = j by omega] at HPU
            generalize Dn.getD j 0 = l at *
            by_cases h1 : l = d
            · subst h1
              rw [if_neg (by omega)] at HPU
              replace HPU := Lib.hid HPU
              go_wp2_with fail
              refine (CQ.out _).mono ?_
              rintro e w2 ⟨rfl, rfl⟩
              go_wp2
              go_roundw
              case rel => exact ⟨n + 1, _, c2, by omega, by rw [e1], by rw [e1, HPU.out, hr.out], by rw [e1, HPU.out]; exact hR4, hKp4⟩
              case measure => simp [intOf]; first | exact HMS.out | (have := HMS.out; omega)
            · rw [if_pos (.inr h1)] at HPU
              replace HPU := Lib.hid HPU
              have h2 : (l != d) = true := by simpa using h1
              go_wp2_with fail
              refine (CQ.out _).mono ?_
              rintro e w2 ⟨rfl, rfl⟩
              go_wp2_with (at_builtin; refine wpList_append_run (o := ⟨some 48, _, _, _, _, _⟩) HR5.out rfl rfl rfl rfl ?_)
              go_roundw
              case rel => exact ⟨n + 1, A5, c5, by omega, by rw [e1], by rw [e1, HPU.out, HL5.out], by rw [e1, HPU.out]; exact HRW5, HB5⟩
              case measure => simp [intOf]; first | exact HMS.out | (have := HMS.out; omega)
        · obtain rfl : n = m := by omega
          have i1 : ¬ p + (n : Int) ≤ q := by omega
          rw [HR2.out] at hR4 ⊢
          go_wp2_with fail
          refine (CQ.out _).mono ?_
          rintro e w2 ⟨rfl, rfl⟩
          go_wp2
          go_roundw
          case rel => exact ⟨k + 1, B2, c2, by omega, by go_num, rfl, hR4, hKp4⟩
          case measure => simp [intOf]; omega
    · obtain rfl : k = L.length := by omega
      rw [List.take_length, HE.out] at hR ⊢
      have HBW : Hid (Below w.heap.size w wr) := bel_on HB1.out hKp.out
      have HRW : Hid (NRow wr w.heap.size B c (daysP (In xs))) := hR.out.mono HB1.out.size
      generalize daysP (In xs) = R at *
      go_wp2
      go_ret
      exact ⟨B, c, rfl, HRW.out, HBW.out⟩
end Go.Proofs.YtdlimgpmmkcgmaaGreat

namespace Go.Proofs.YtdlimgpmmkcgmaaGreat
open Go.RowKit
set_option linter.unusedVariables false
set_option linter.unusedSimpArgs false
set_option maxRecDepth 20000

/-- In a walk: a whole setup is read. -/
theorem wpList_load_sp {ops : Array Oper} {rest : List Oper} {o : Oper} {a : Act} {w : World} {Q : Exit → Act → World → Prop} (hgd : Region.wanted o (yielded ops a.tmps) = true) (x : Operand) (ho : o.op = .load 30 x)
    (g : Nat) (hx : a.eval x = .pointer (some ⟨g, 0, none⟩)) (cs : Array Value) (hg : Has w g cs) (hs : cs.size = 23)
    (h : wpList Tryz.prog ops Q rest (a.put o.dst (.agg cs)) w) : wpList Tryz.prog ops Q (o :: rest) a w := by
  refine wpList_step fun K hK => ?_
  rw [if_pos hgd]
  obtain ⟨t, hg⟩ := hg
  exact wp_load_row _ x ho g hx t cs (0, 0) _ hg Tryz.underlying30 rfl (by rw [hs]; kernel_rfl) (hK _ _ h)
theorem setV_pun {s : SetP} {A1 A2 A3 A4 A5 A6 : Option Addr} {c1 c2 c3 c4 c5 c6 : Nat} {cs : Array Value} (h : setV s A1 A2 A3 A4 A5 A6 c1 c2 c3 c4 c5 c6 = .agg cs) : cs.size = 23 ∧ cs[8]? = some (.int .i64 s.unit) ∧ cs[9]? = some (.int .i64 s.cap) := by
  unfold setV at h
  injection h with h
  subst h
  exact ⟨rfl, rfl, rfl⟩
end Go.Proofs.YtdlimgpmmkcgmaaGreat
