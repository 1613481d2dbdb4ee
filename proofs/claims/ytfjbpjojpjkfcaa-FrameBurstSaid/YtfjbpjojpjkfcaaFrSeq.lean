/-
  The frames that bytes begin with, with what is behind each: no program here.
-/
import Derived.Test.YtfjbpjojpjkfcaaFrBnd
import Derived.Test.YtfjbpjojpjkfcaaFrRange
namespace Go.Proofs.Ytfjbpjojpjkfcaa
set_option linter.unusedVariables false

def seqN : Nat → Bs → List Two8
  | 0, _ => []
  | n + 1, b => match takeF b with
    | none => []
    | some (p, r) => (p, r) :: seqN n r
theorem seqN_more : ∀ (n m : Nat) (b : Bs), b.length < n → b.length < m → seqN n b = seqN m b
  | 0, _, b, h, _ => by omega
  | n + 1, 0, b, _, h => by omega
  | n + 1, m + 1, b, h, h' => by
    unfold seqN
    cases ht : takeF b with
    | none => rfl
    | some x =>
      obtain ⟨p, r⟩ := x
      have := take_less ht
      have := frame_pos p
      simp only
      rw [seqN_more n m r (by omega) (by omega)]
def seqF (b : Bs) : List Two8 := seqN (b.length + 1) b
theorem seq_none {b : Bs} (h : takeF b = none) : seqF b = [] := by
  unfold seqF seqN
  rw [h]
theorem seq_some {b p r : Bs} (h : takeF b = some (p, r)) : seqF b = (p, r) :: seqF r := by
  have := take_less h
  have := frame_pos p
  unfold seqF
  rw [seqN, h]
  simp only
  rw [seqN_more b.length (r.length + 1) r (by omega) (by omega)]
/-- The payloads, and how many bytes all frames have. -/
theorem seq_all : ∀ (n : Nat) (b : Bs), b.length ≤ n → (seqF b).map Prod.fst = (allF b).1 ∧ ((seqF b).getLast?.map Prod.snd = none ∧ (allF b).2 = 0 ∨ ∃ r, (seqF b).getLast?.map Prod.snd = some r ∧ b.length = (allF b).2 + r.length) := by
  intro n
  induction n with
  | zero =>
    intro b hb
    have hn : takeF b = none := by
      cases ht : takeF b with
      | none => rfl
      | some x =>
        obtain ⟨p, r⟩ := x
        have := take_less ht
        have := frame_pos p
        omega
    rw [seq_none hn, all_none hn]
    simp
  | succ n ih =>
    intro b hb
    cases ht : takeF b with
    | none => rw [seq_none ht, all_none ht]; simp
    | some x =>
      obtain ⟨p, r⟩ := x
      have h1 := take_less ht
      have h2 := frame_pos p
      obtain ⟨i1, i2⟩ := ih r (by omega)
      rw [seq_some ht, all_some ht]
      refine ⟨by simp [i1], .inr ?_⟩
      rcases i2 with ⟨j1, j2⟩ | ⟨s, j1, j2⟩
      · have : seqF r = [] := by
          cases hq : seqF r with
          | nil => rfl
          | cons y l => rw [hq] at j1; simp [List.getLast?_cons] at j1
        refine ⟨r, by rw [this]; rfl, by simp only; omega⟩
      · refine ⟨s, ?_, by simp only; omega⟩
        rw [List.getLast?_cons]
        cases hq : (seqF r).getLast? with
        | none => rw [hq] at j1; cases j1
        | some y =>
          rw [hq] at j1
          simpa using j1
/-- What has come, and what is behind it. -/
def SeqAt (b : Bs) (pre : List Two8) (l : Bs) : Prop := pre ++ seqF l = seqF b
theorem seq_len : ∀ (n : Nat) (b : Bs), b.length ≤ n → (seqF b).length ≤ b.length ∧ ∀ x ∈ seqF b, x.1.length ≤ b.length ∧ x.2.length ≤ b.length := by
  intro n
  induction n with
  | zero =>
    intro b hb
    have hn : takeF b = none := by
      cases ht : takeF b with
      | none => rfl
      | some x =>
        obtain ⟨p, r⟩ := x
        have := take_less ht
        have := frame_pos p
        omega
    rw [seq_none hn]
    simp
  | succ n ih =>
    intro b hb
    cases ht : takeF b with
    | none => rw [seq_none ht]; simp
    | some x =>
      obtain ⟨p, r⟩ := x
      have h1 := take_less ht
      have h2 := frame_pos p
      have h3 := frame_len p
      obtain ⟨i1, i2⟩ := ih r (by omega)
      rw [seq_some ht]
      refine ⟨by simp; omega, fun x hx => ?_⟩
      rcases List.mem_cons.1 hx with rfl | hx
      · simp only; omega
      · have := i2 x hx; omega
end Go.Proofs.Ytfjbpjojpjkfcaa
