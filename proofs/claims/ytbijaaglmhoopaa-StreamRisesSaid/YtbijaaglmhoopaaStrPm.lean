/-
  Of which event each part is; how many seconds parts have, kind by kind. No program here.
-/
import Derived.Test.YtbijaaglmhoopaaZbd
import Derived.Test.YtbijaaglmhoopaaZad
namespace Go.Proofs.Ytbijaaglmhoopaa
set_option linter.unusedVariables false
set_option linter.unusedSimpArgs false

theorem cnt_span (p : Int → Prop) : ∀ n : Nat, 0 ≤ cnt p n ∧ cnt p n ≤ n
  | 0 => by simp [cnt]
  | n + 1 => by
    have := cnt_span p n
    by_cases h : p n
    · rw [cnt_yes h]; omega
    · rw [cnt_no h]; omega
theorem sz_span (p : Int → Prop) : 0 ≤ sz p ∧ sz p ≤ 32054400 := by have := cnt_span p 32054400; unfold sz; omega
def allI (P : EvP → Prop) : ItemP → Prop
  | .out e => P e
  | .sess e ins _ _ => P e ∧ ∀ x ∈ ins, P x
def allT (P : EvP → Prop) : StP → Prop
  | none => True
  | some (e, ins) => P e ∧ ∀ x ∈ ins, P x
theorem step_all {P : EvP → Prop} {cap : Int} (st : StP) (b : EvP) (h : allT P st) (hb : P b) : (∀ y ∈ (stepS cap st b).1, allI P y) ∧ allT P (stepS cap st b).2 := by
  match st, h with
  | none, _ =>
    by_cases k : b.kd = 1
    · simp only [stepS, if_pos k]; exact ⟨by simp, hb, by simp⟩
    · simp only [stepS, if_neg k]; exact ⟨by simpa [allI] using hb, trivial⟩
  | some (e, ins), ⟨h1, h2⟩ =>
    have hs : ∀ tz fl, allI P (.sess e ins tz fl) := fun tz fl => ⟨h1, h2⟩
    by_cases q : e.tm + cap < b.tm
    · by_cases k : b.kd = 1
      · simp only [stepS, if_pos q, if_pos k]; exact ⟨by simpa using hs _ _, hb, by simp⟩
      · simp only [stepS, if_pos q, if_neg k]
        refine ⟨fun y hy => ?_, trivial⟩
        rcases List.mem_cons.1 hy with rfl | hy
        · exact hs _ _
        · rw [List.mem_singleton.1 hy]; exact hb
    · by_cases k : b.kd = 1
      · simp only [stepS, if_neg q, if_pos k]; exact ⟨by simpa using hs _ _, hb, by simp⟩
      · by_cases k2 : b.kd = 2
        · simp only [stepS, if_neg q, if_neg k, if_pos k2]; exact ⟨by simpa using hs _ _, trivial⟩
        · simp only [stepS, if_neg q, if_neg k, if_neg k2]
          refine ⟨by simp, h1, fun x hx => ?_⟩
          rcases List.mem_append.1 hx with hx | hx
          · exact h2 x hx
          · rw [List.mem_singleton.1 hx]; exact hb
theorem items_all {P : EvP → Prop} {cap : Int} : ∀ (L : List EvP) (st : StP), allT P st → (∀ b ∈ L, P b) → ∀ y ∈ itemsS cap st L, allI P y
  | [], none, _, _, y, hy => by cases hy
  | [], some (e, ins), h, _, y, hy => by
    have hy' : y ∈ [ItemP.sess e ins (e.tm + cap) 1] := hy
    rw [List.mem_singleton.1 hy']
    exact h
  | b :: L, st, h, hL, y, hy => by
    obtain ⟨h1, h2⟩ := step_all (cap := cap) st b h (hL b (by simp))
    have hy' : y ∈ (stepS cap st b).1 ++ itemsS cap (stepS cap st b).2 L := hy
    rcases List.mem_append.1 hy' with q | q
    · exact h1 y q
    · exact items_all L _ h2 (fun c hc => hL c (by simp [hc])) y q
theorem items_kinds {cap : Int} : ∀ (L : List ItemP) (lo : Int), ItemsUp cap lo L → ∀ y ∈ L, ∀ e ins tz fl, y = .sess e ins tz fl → e.kd = 1 ∧ ∀ x ∈ ins, x.kd ≠ 1 ∧ x.kd ≠ 2
  | [], _, _, y, hy, _, _, _, _, _ => by cases hy
  | .out a :: r, lo, h, y, hy, e, ins, tz, fl, hq => by
    rcases List.mem_cons.1 hy with rfl | hy
    · cases hq
    · exact items_kinds r lo h.2 y hy e ins tz fl hq
  | .sess a i t f :: r, lo, ⟨_, h2, h3, _, _, h7⟩, y, hy, e, ins, tz, fl, hq => by
    rcases List.mem_cons.1 hy with rfl | hy
    · injection hq with q1 q2 q3 q4
      subst q1 q2
      exact ⟨h2, fun x hx => (h3 x hx).2.2⟩
    · exact items_kinds r t h7 y hy e ins tz fl hq
/-- Each part is of an event of the worker's, and of its kind. -/
theorem rise_of (s : SetP) (wk : Int) (l : List EvP) : ∀ x ∈ segsOf s wk l, ∃ e ∈ l, e.id = x.id ∧ e.wk = wk ∧ x.kd = kindP e.kd ∧ x.cd = e.cd ∧ (e.kd = 1 ∨ e.kd = 3 ∨ e.kd = 4 ∨ e.kd = 5 ∨ e.kd = 6) ∧ (e.kd = 4 ∨ e.cd = 0) := by
  intro x hx
  unfold segsOf at hx
  split at hx
  · next h =>
    have hM := check_iff.1 h
    have hup := itemsOf_up hM wk l
    have hall : ∀ y ∈ itemsOf s wk l, allI (fun e => e ∈ wevs (mayE s.places s.elements.length s.classes.length s.gears.length s.rates.length) wk l) y := items_all _ none trivial (fun b hb => hb)
    have hk := items_kinds _ 0 hup
    obtain ⟨y, hy, hxy⟩ := List.mem_flatMap.1 hx
    match y, hy, hxy with
    | .out a, _, hxy => cases hxy
    | .sess a ins tz fl, hy, hxy =>
      obtain ⟨e, he, h1, h2, h3⟩ := parts_of ins _ a x hxy
      have ha := hall _ hy
      obtain ⟨k1, k2⟩ := hk _ hy a ins tz fl rfl
      have hew : e ∈ wevs (mayE s.places s.elements.length s.classes.length s.gears.length s.rates.length) wk l := by
        rcases he with rfl | he
        · exact ha.1
        · exact ha.2 e he
      have hok := wevs_ok e hew
      have hf := hok.1.1
      have hkd : e.kd = 1 ∨ (e.kd ≠ 1 ∧ e.kd ≠ 2) := by
        rcases he with rfl | he
        · exact .inl k1
        · exact .inr (k2 e he)
      have hkb := hf.kd
      have h7 := hok.2.2.1
      exact ⟨e, ((wevs_mem _ wk l e).1 hew).1, h1.symm, hok.2.1, h2, h3, by omega, hf.code⟩
  · cases hx
theorem segs_kinds (s : SetP) (wk : Int) (l : List EvP) : ∀ x ∈ segsOf s wk l, x.kd = 0 ∨ x.kd = 1 ∨ x.kd = 2 ∨ x.kd = 3 := by
  intro x hx
  obtain ⟨e, _, _, _, h, _⟩ := rise_of s wk l x hx
  rw [h]
  unfold kindP
  split
  · omega
  · split
    · omega
    · split <;> omega
theorem segs_later : ∀ {L : List SegP} {lo : Int}, SegsUp lo L → ∀ s ∈ L, lo ≤ s.fr
  | [], _, _, s, hs => by cases hs
  | a :: r, lo, ⟨h1, h2, h3⟩, s, hs => by
    rcases List.mem_cons.1 hs with rfl | hs
    · exact h1
    · have := segs_later h3 s hs; omega
theorem segs_uniq {t : Int} : ∀ {L : List SegP} {lo : Int}, SegsUp lo L → ∀ a ∈ L, ∀ b ∈ L, a.fr ≤ t → t < a.to → b.fr ≤ t → t < b.to → a = b
  | [], _, _, a, ha, _, _, _, _, _, _ => by cases ha
  | x :: r, lo, ⟨h1, h2, h3⟩, a, ha, b, hb, p1, p2, p3, p4 => by
    rcases List.mem_cons.1 ha with ea | ea
    · rcases List.mem_cons.1 hb with eb | eb
      · rw [ea, eb]
      · have := segs_later h3 b eb; rw [ea] at p2; omega
    · rcases List.mem_cons.1 hb with eb | eb
      · have := segs_later h3 a ea; rw [eb] at p4; omega
      · exact segs_uniq h3 a ea b eb p1 p2 p3 p4
theorem sz_clock (L : List SegP) : sz (In (clockP L)) = sz (InS L) := by
  refine sz_congr fun t h0 h1 => ?_
  unfold clockP
  rw [canon_in]
  exact ⟨fun h => h.2.2, fun h => ⟨h0, h1, h⟩⟩
/-- The seconds of all parts are those of each kind. -/
theorem clock_sizes {L : List SegP} {lo : Int} (hu : SegsUp lo L) (hk : ∀ x ∈ L, x.kd = 0 ∨ x.kd = 1 ∨ x.kd = 2 ∨ x.kd = 3) :
    sz (In (clockP L)) = sz (In (clockP (L.filter (ofKind 0)))) + sz (In (clockP (L.filter (ofKind 1)))) + sz (In (clockP (L.filter (ofKind 2)))) + sz (In (clockP (L.filter (ofKind 3)))) := by
  simp only [sz_clock]
  have hin : ∀ k t, InS (L.filter (ofKind k)) t ↔ ∃ x, x ∈ L ∧ x.kd = k ∧ x.fr ≤ t ∧ t < x.to := by
    intro k t
    constructor
    · rintro ⟨x, hx, h⟩
      obtain ⟨a, b⟩ := List.mem_filter.1 hx
      exact ⟨x, a, by simpa [ofKind] using b, h⟩
    · rintro ⟨x, a, b, h⟩
      exact ⟨x, List.mem_filter.2 ⟨a, by simp [ofKind, b]⟩, h⟩
  have hd : ∀ k k' t, k ≠ k' → InS (L.filter (ofKind k)) t → ¬ InS (L.filter (ofKind k')) t := by
    intro k k' t hne h1 h2
    obtain ⟨x, a1, a2, a3, a4⟩ := (hin k t).1 h1
    obtain ⟨y, b1, b2, b3, b4⟩ := (hin k' t).1 h2
    have := segs_uniq hu x a1 y b1 a3 a4 b3 b4
    subst this
    omega
  have e1 : sz (InS L) = sz (fun t => InS (L.filter (ofKind 0)) t ∨ InS (L.filter (ofKind 1)) t ∨ InS (L.filter (ofKind 2)) t) + sz (InS (L.filter (ofKind 3))) := by
    refine sz_or fun t _ _ => ⟨?_, ?_⟩
    · constructor
      · rintro ⟨x, a, b⟩
        rcases hk x a with q | q | q | q
        · exact .inl (.inl ((hin 0 t).2 ⟨x, a, q, b⟩))
        · exact .inl (.inr (.inl ((hin 1 t).2 ⟨x, a, q, b⟩)))
        · exact .inl (.inr (.inr ((hin 2 t).2 ⟨x, a, q, b⟩)))
        · exact .inr ((hin 3 t).2 ⟨x, a, q, b⟩)
      · have back : ∀ k, InS (L.filter (ofKind k)) t → InS L t := fun k h => by
          obtain ⟨x, a, _, b⟩ := (hin k t).1 h
          exact ⟨x, a, b⟩
        rintro ((h | h | h) | h) <;> exact back _ h
    · rintro ⟨h | h | h, h'⟩
      · exact hd 0 3 t (by omega) h h'
      · exact hd 1 3 t (by omega) h h'
      · exact hd 2 3 t (by omega) h h'
  have e2 : sz (fun t => InS (L.filter (ofKind 0)) t ∨ InS (L.filter (ofKind 1)) t ∨ InS (L.filter (ofKind 2)) t) = sz (fun t => InS (L.filter (ofKind 0)) t ∨ InS (L.filter (ofKind 1)) t) + sz (InS (L.filter (ofKind 2))) := by
    refine sz_or fun t _ _ => ⟨⟨?_, ?_⟩, ?_⟩
    · rintro (h | h | h)
      · exact .inl (.inl h)
      · exact .inl (.inr h)
      · exact .inr h
    · rintro ((h | h) | h)
      · exact .inl h
      · exact .inr (.inl h)
      · exact .inr (.inr h)
    · rintro ⟨h | h, h'⟩
      · exact hd 0 2 t (by omega) h h'
      · exact hd 1 2 t (by omega) h h'
  have e3 : sz (fun t => InS (L.filter (ofKind 0)) t ∨ InS (L.filter (ofKind 1)) t) = sz (InS (L.filter (ofKind 0))) + sz (InS (L.filter (ofKind 1))) :=
    sz_or fun t _ _ => ⟨Iff.rfl, fun ⟨h, h'⟩ => hd 0 1 t (by omega) h h'⟩
  omega
/-- One part after the other. -/
theorem segs_next : ∀ {L : List SegP} {lo : Int}, SegsUp lo L → ∀ i, i + 1 < L.length → (L.getD i SegP.none).to ≤ (L.getD (i + 1) SegP.none).fr
  | [], _, _, i, hi => by simp at hi
  | [a], _, _, i, hi => by simp at hi
  | a :: b :: r, lo, ⟨_, _, h3⟩, 0, _ => by
    show a.to ≤ b.fr
    exact h3.1
  | a :: b :: r, lo, ⟨_, _, h3⟩, i + 1, hi => by
    have := segs_next h3 i (by simp only [List.length_cons] at hi ⊢; omega)
    simpa using this
end Go.Proofs.Ytbijaaglmhoopaa
