/-
  The event that bytes begin with, taken number by number. No program here but the events' lists.
-/
import Derived.Test.YtdhkfhgggkndoaaEvEat
namespace Go.Proofs.Ytdhkfhgggkndoaa
set_option linter.unusedVariables false
set_option linter.unusedSimpArgs false

/-- An event of numbers taken: what every event has, and its own. -/
def evQ (q ns : List Int) : EvP := evOf (layL (layL zeros11 [0, 1, 2, 3] q) (ownL (q.getD 3 0)) ns)
theorem evQ_L (q ns : List Int) : evL (evQ q ns) = layL (layL zeros11 [0, 1, 2, 3] q) (ownL (q.getD 3 0)) ns := evL_Of (by rw [layL_len, layL_len]; rfl)
theorem evQ_nums (i w t k : Int) (ns : List Int) (h : ns.length = (ownL k).length) : (evQ [i, w, t, k] ns).nums = [i, w, t, k] ++ ns ∧ (evQ [i, w, t, k] ns).kd = k := by
  unfold evQ
  rw [show ([i, w, t, k] : List Int).getD 3 0 = k from rfl]
  by_cases h3 : k = 3
  · subst h3
    match ns, h with
    | [a, b, c, d, e, f], _ => exact ⟨rfl, rfl⟩
  · by_cases h4 : k = 4
    · subst h4
      match ns, h with
      | [a], _ => exact ⟨rfl, rfl⟩
    · have e0 : ownL k = [] := by simp [ownL, h3, h4]
      rw [e0] at h ⊢
      have : ns = [] := List.length_eq_zero_iff.1 h
      subst this
      simp [layL, evOf, EvP.nums, h3, h4, zeros11]
theorem evQ_back {e : EvP} (h : e.Fair) : evQ [e.id, e.wk, e.tm, e.kd] ((ownL e.kd).map fun o => (evL e).getD o 0) = e := by
  have t1 := h.task
  have t2 := h.code
  obtain ⟨i, w, t, k, a, b, c, d, g, j, m⟩ := e
  simp only at t1 t2
  unfold evQ
  simp only [show ([i, w, t, k] : List Int).getD 3 0 = k from rfl]
  by_cases h3 : k = 3
  · subst h3
    obtain rfl : m = 0 := by omega
    rfl
  · by_cases h4 : k = 4
    · subst h4
      obtain ⟨rfl, rfl, rfl, rfl, rfl, rfl⟩ : a = 0 ∧ b = 0 ∧ c = 0 ∧ d = 0 ∧ g = 0 ∧ j = 0 := by omega
      rfl
    · have e0 : ownL k = [] := by simp [ownL, h3, h4]
      obtain ⟨rfl, rfl, rfl, rfl, rfl, rfl⟩ : a = 0 ∧ b = 0 ∧ c = 0 ∧ d = 0 ∧ g = 0 ∧ j = 0 := by omega
      obtain rfl : m = 0 := by omega
      simp [e0, layL, evOf, zeros11]
theorem own_okN {e : EvP} (h : e.Fair) : okN [e.id, e.wk, e.tm, e.kd] ∧ okN ((ownL e.kd).map fun o => (evL e).getD o 0) := by
  have := ev_ok h
  rw [ev_nums] at this
  exact ⟨fun n hn => this n (List.mem_append_left _ hn), fun n hn => this n (List.mem_append_right _ hn)⟩
theorem evb_parts (e : EvP) (r : List (BitVec 8)) : e.bytes ++ r = bytesN [e.id, e.wk, e.tm, e.kd] ++ (bytesN ((ownL e.kd).map fun o => (evL e).getD o 0) ++ r) := by
  unfold EvP.bytes
  rw [ev_nums, bytesN_append, List.append_assoc]
theorem takeP_no {b : List (BitVec 8)} (h : eatN 4 b = none) : takeE b = none :=
  takeE_not fun e he r hb => eat_none 4 h [e.id, e.wk, e.tm, e.kd] rfl (own_okN he).1 (bytesN ((ownL e.kd).map fun o => (evL e).getD o 0) ++ r) (by rw [hb, evb_parts])
/-- What a fair event's bytes are taken as. -/
theorem takeP_of {b r r' : List (BitVec 8)} {q : List Int} {e : EvP} (h : eatN 4 b = some (q, r)) (he : e.Fair) (hb : b = e.bytes ++ r') : q = [e.id, e.wk, e.tm, e.kd] ∧ r = bytesN ((ownL e.kd).map fun o => (evL e).getD o 0) ++ r' := by
  rw [hb, evb_parts, eat_put 4 [e.id, e.wk, e.tm, e.kd] rfl (own_okN he).1] at h
  injection h with h
  injection h with h1 h2
  exact ⟨h1.symm, h2.symm⟩
theorem takeP_no2 {b r : List (BitVec 8)} {q : List Int} (h : eatN 4 b = some (q, r)) (h2 : eatN (ownL (q.getD 3 0)).length r = none) : takeE b = none :=
  takeE_not fun e he r' hb => by
    obtain ⟨rfl, e2⟩ := takeP_of h he hb
    exact eat_none _ h2 ((ownL e.kd).map fun o => (evL e).getD o 0) (by simp) (own_okN he).2 r' e2
theorem takeP_some {b r r2 : List (BitVec 8)} {q ns : List Int} (h : eatN 4 b = some (q, r)) (h2 : eatN (ownL (q.getD 3 0)).length r = some (ns, r2)) :
    (evQ q ns).In ∧ (evQ q ns).kd = q.getD 3 0 ∧ takeE b = (if (evQ q ns).Fair then some (evQ q ns, r2) else none) := by
  obtain ⟨k1, e1⟩ := eat_own 4 h
  obtain ⟨k2, e2⟩ := eat_own _ h2
  have l1 := eat_len 4 h
  have l2 := eat_len _ h2
  match q, l1 with
  | [i, w, t, k], _ =>
    have hn := evQ_nums i w t k ns l2
    have hok : ∀ n ∈ evL (evQ [i, w, t, k] ns), 0 ≤ n ∧ n ≤ 9223372036854775807 := by
      rw [evQ_L]
      rw [show ([i, w, t, k] : List Int).getD 3 0 = k from rfl] at *
      have base : ∀ n ∈ layL zeros11 [0, 1, 2, 3] [i, w, t, k], 0 ≤ n ∧ n ≤ 9223372036854775807 := by
        intro n hn
        simp [layL, zeros11] at hn
        rcases hn with rfl | rfl | rfl | rfl | rfl
        · exact k1 _ (by simp)
        · exact k1 _ (by simp)
        · exact k1 _ (by simp)
        · exact k1 _ (by simp)
        · omega
      have gen : ∀ (L : List Nat) (ms zs : List Int), (∀ n ∈ zs, 0 ≤ n ∧ n ≤ 9223372036854775807) → okN ms → ∀ n ∈ layL zs L ms, 0 ≤ n ∧ n ≤ 9223372036854775807 := by
        intro L
        induction L with
        | nil => intro ms zs hz _ n hn; simp [layL] at hn; exact hz n hn
        | cons o L ih =>
          intro ms zs hz hms n hn
          cases ms with
          | nil => simp [layL] at hn; exact hz n hn
          | cons m ms =>
            refine ih ms (zs.set o m) (fun x hx => ?_) (fun x hx => hms x (by simp [hx])) n hn
            rcases List.mem_or_eq_of_mem_set hx with h | h
            · exact hz x h
            · subst h; exact hms _ (by simp)
      exact gen _ _ _ base k2
    refine ⟨?_, hn.2, ?_⟩
    · generalize evQ [i, w, t, k] ns = e at *
      simp only [evL, List.mem_cons, List.not_mem_nil, or_false, forall_eq_or_imp, forall_eq] at hok
      obtain ⟨a1, a2, a3, a4, a5, a6, a7, a8, a9, a10, a11⟩ := hok
      constructor <;> omega
    · by_cases hf : (evQ [i, w, t, k] ns).Fair
      · rw [if_pos hf]
        have hb : b = (evQ [i, w, t, k] ns).bytes ++ r2 := by
          unfold EvP.bytes
          rw [hn.1, bytesN_append, e1, e2, List.append_assoc]
        rw [hb]
        exact takeE_back hf r2
      · rw [if_neg hf]
        refine takeE_not fun f hfF r' hb => hf ?_
        obtain ⟨hq, hr⟩ := takeP_of h hfF hb
        simp only [List.cons.injEq] at hq
        obtain ⟨rfl, rfl, rfl, rfl, _⟩ := hq
        rw [show ([f.id, f.wk, f.tm, f.kd] : List Int).getD 3 0 = f.kd from rfl, hr, eat_put _ _ (by simp) (own_okN hfF).2] at h2
        injection h2 with h2
        injection h2 with h3 h4
        rw [← h3, evQ_back hfF]
        exact hfF
end Go.Proofs.Ytdhkfhgggkndoaa
