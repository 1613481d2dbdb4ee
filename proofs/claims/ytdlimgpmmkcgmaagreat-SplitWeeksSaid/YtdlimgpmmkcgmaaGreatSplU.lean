/-
  A week's parts as the program puts them together, before they are sorted. No program here.
-/
import Derived.Test.YtdlimgpmmkcgmaaGreatZbc
namespace Go.Proofs.YtdlimgpmmkcgmaaGreat
set_option linter.unusedVariables false
set_option linter.unusedSimpArgs false

/-- The parts of one category. -/
def partsC (l : List (Int × Int)) (c : Int) : List PartP := l.map fun s => (s.1, s.2, c)
theorem partsC_len (l : List (Int × Int)) (c : Int) : (partsC l c).length = l.length := by simp [partsC]
theorem partsC_take {l : List (Int × Int)} {i : Nat} (c : Int) (h : i < l.length) : partsC (l.take (i + 1)) c = partsC (l.take i) c ++ [((l.getD i (0, 0)).1, (l.getD i (0, 0)).2, c)] := by
  rw [List.take_succ_eq_append_getElem h]
  unfold partsC
  rw [List.map_append]
  simp [List.getD, h]
theorem mem_partsC {l : List (Int × Int)} {c : Int} {e : PartP} : e ∈ partsC l c ↔ e.2.2 = c ∧ (e.1, e.2.1) ∈ l := by
  unfold partsC
  rw [List.mem_map]
  constructor
  · rintro ⟨s, hs, rfl⟩
    exact ⟨rfl, hs⟩
  · rintro ⟨h, hs⟩
    obtain ⟨a, b, d⟩ := e
    simp only at h hs
    subst h
    exact ⟨_, hs, rfl⟩
/-- What is put together: the unpaid, then of each of the three by day and by night. -/
def rawP (L : Nat → List (Int × Int)) : Nat → List PartP
  | 0 => partsC (L 0) 0
  | n + 1 => (rawP L n ++ partsC (L (n + 1)) ((n : Int) + 1)) ++ partsC (L (n + 4)) ((n : Int) + 4)
def rawC (L : Nat → List (Int × Int)) : List Nat → List PartP
  | [] => []
  | c :: cs => partsC (L c) c ++ rawC L cs
theorem raw_is (L : Nat → List (Int × Int)) : rawP L 3 = rawC L [0, 1, 4, 2, 5, 3, 6] := by
  simp [rawP, rawC, List.append_assoc]
theorem mem_rawC {L : Nat → List (Int × Int)} {e : PartP} : ∀ {cs : List Nat}, e ∈ rawC L cs ↔ ∃ c ∈ cs, e.2.2 = c ∧ (e.1, e.2.1) ∈ L c
  | [] => by simp [rawC]
  | c :: cs => by
    show e ∈ partsC (L c) c ++ rawC L cs ↔ _
    rw [List.mem_append, mem_partsC, mem_rawC]
    simp
theorem rise_len : ∀ {l : List Int} {a b : Int}, l.Pairwise (· < ·) → (∀ x ∈ l, a ≤ x ∧ x < b) → l.length ≤ (b - a).toNat
  | [], _, _, _, _ => by simp
  | x :: l, a, b, h, hb => by
    have p := List.pairwise_cons.1 h
    have q := hb x (by simp)
    have r := rise_len (l := l) (a := x + 1) (b := b) p.2 fun y hy => by have := p.1 y hy; have := hb y (by simp [hy]); omega
    rw [List.length_cons]
    omega
section
variable {L : Nat → List (Int × Int)} (hp : ∀ c, PlainFrom 0 (L c)) (hd : ∀ c d t, c ≠ d → In (L c) t → ¬ In (L d) t)
include hp hd
theorem rawC_ap : ∀ {cs : List Nat}, cs.Nodup → (rawC L cs).Pairwise fun x y => x.1 ≠ y.1
  | [], _ => List.Pairwise.nil
  | c :: cs, h => by
    have h1 := List.nodup_cons.1 h
    refine List.pairwise_append.2 ⟨?_, rawC_ap h1.2, fun x hx y hy => ?_⟩
    · unfold partsC
      rw [List.pairwise_map]
      exact List.Pairwise.imp (fun {x y} q => by have q' : x.1 < y.1 := q; show x.1 ≠ y.1; omega) (show List.Pairwise (fun x y => x.1 < y.1) (L c) from rise_plain (hp c))
    · obtain ⟨d, hdc, _, my⟩ := mem_rawC.1 hy
      exact from_apart hp hd (show c ≠ d from fun e => h1.1 (e ▸ hdc)) (mem_partsC.1 hx).2 my
/-- Sorted, they are the document's. -/
theorem raw_sorted {ys : List PartP} (h : ys.Perm (rawP L 3)) (hs : ys.Pairwise fun x y => x.1 ≤ y.1) : ys = catsP L 7 := by
  rw [raw_is] at h
  have ap := (h.pairwise_iff (fun {x y} (q : x.1 ≠ y.1) => q.symm)).2 (rawC_ap hp hd (cs := [0, 1, 4, 2, 5, 3, 6]) (by decide))
  refine catsP_one hp hd ?_ fun e => ?_
  · unfold RiseBy
    exact (hs.and ap).imp fun {x y} q => by have h1 := q.1; have h2 := q.2; show x.1 < y.1; omega
  · rw [h.mem_iff, mem_rawC]
    constructor
    · rintro ⟨c, hc, q⟩
      exact ⟨c, by simp at hc; omega, q⟩
    · rintro ⟨c, hc, q⟩
      exact ⟨c, by simp; omega, q⟩
theorem cats_few : (catsP L 7).length ≤ 32054400 := by
  have h := catsP_rise hp hd 7
  have r := rise_len (l := (catsP L 7).map (·.1)) (a := 0) (b := 32054400) (by rw [List.pairwise_map]; exact h) fun x hx => by
    obtain ⟨e, he, rfl⟩ := List.mem_map.1 hx
    obtain ⟨c, _, _, m⟩ := mem_catsP.1 he
    have b := (plain_pairs.1 (hp c)).1 _ m
    simp only [] at b
    omega
  simpa using r
end
theorem can_false {p : Int → Prop} (h : ∀ t, ¬ p t) : canon p = [] := canon_none fun t _ _ => h t
section
variable {s : SetP} {l : List SegP} {k : Int}
theorem catW_off (c : Nat) : catW false s l k c = [] := by
  have e : ofWeekP (In (allNo false s l)) k = [] := by
    unfold ofWeekP
    exact can_false fun t h => in_nil t h.1
  unfold catW
  rw [e]
  match c with
  | 0 => rfl
  | 1 => exact can_false fun t h => in_nil t h.1
  | 2 => exact can_false fun t h => in_nil t h.1
  | 3 => exact can_false fun t h => in_nil t h.1
  | 4 => exact can_false fun t h => in_nil t h.1
  | 5 => exact can_false fun t h => in_nil t h.1
  | 6 => exact can_false fun t h => in_nil t h.1
  | c + 7 => rfl
theorem wparts_is (b : Bool) : wpartsL b s l k = catsP (catW b s l k) 7 := by
  cases b with
  | true => rfl
  | false =>
    have e : catW false s l k = fun _ => [] := funext catW_off
    rw [e]
    rfl
theorem catW_ap {b : Bool} (hm : b = true → s.May) : ∀ c d t, c ≠ d → In (catW b s l k c) t → ¬ In (catW b s l k d) t := by
  cases b with
  | true => exact catW_apart (hm rfl)
  | false => exact fun c d t _ h => by rw [catW_off] at h; exact absurd h (in_nil t)
theorem wparts_few {b : Bool} (hm : b = true → s.May) : (wpartsL b s l k).length ≤ 32054400 := by
  rw [wparts_is]
  exact cats_few (catW_plain b s l k) (catW_ap hm)
/-- The night of each of the three is what of them is by the week's night. -/
theorem night_one {b : Bool} (hm : b = true → s.May) {A : List (Int × Int)} (hA : ∀ t, In A t → In (regL b s (In (allYes b s l)) k) t ∨ In (ovrL b s (In (allYes b s l)) k) t ∨ In (dblL b s (In (allYes b s l)) k) t) :
    (canon fun t => In A t ∧ NB b s.nfrom s.nto t) = canon fun t => In A t ∧ In (darkL b s l k) t := by
  refine canon_congr fun t h0 h1 => and_congr_right fun ha => ?_
  cases b with
  | false =>
    rcases hA t ha with q | q | q <;> exact absurd q (in_nil t)
  | true =>
    unfold darkL
    rw [in_can h0 h1]
    exact ⟨fun z => ⟨(three_of (hm rfl) h0 h1).1 (hA t ha), z⟩, fun z => z.2⟩
/-- A list's seconds that are not by night, and those that are. -/
theorem day_one {b : Bool} (hm : b = true → s.May) {A : List (Int × Int)} (hA : ∀ t, In A t → In (regL b s (In (allYes b s l)) k) t ∨ In (ovrL b s (In (allYes b s l)) k) t ∨ In (dblL b s (In (allYes b s l)) k) t) :
    (canon fun t => In A t ∧ ¬ In (canon fun t => In A t ∧ NB b s.nfrom s.nto t) t) = canon fun t => In A t ∧ ¬ In (darkL b s l k) t := by
  rw [night_one hm hA]
  refine canon_congr fun t h0 h1 => and_congr_right fun ha => ?_
  rw [in_can h0 h1]
  exact ⟨fun z q => z ⟨ha, q⟩, fun z q => z q.2⟩
end
/-- The three lists. -/
noncomputable def ordL (b : Bool) (s : SetP) (l : List SegP) (k : Int) : Nat → List (Int × Int)
  | 0 => regL b s (In (allYes b s l)) k
  | 1 => ovrL b s (In (allYes b s l)) k
  | _ => dblL b s (In (allYes b s l)) k
theorem ord_in {b : Bool} {s : SetP} {l : List SegP} {k : Int} (n : Nat) (t : Int) (h : In (ordL b s l k n) t) : In (regL b s (In (allYes b s l)) k) t ∨ In (ovrL b s (In (allYes b s l)) k) t ∨ In (dblL b s (In (allYes b s l)) k) t := by
  match n with
  | 0 => exact .inl h
  | 1 => exact .inr (.inl h)
  | n + 2 => exact .inr (.inr h)
theorem ord_dark {b : Bool} {s : SetP} {l : List SegP} {k : Int} (hm : b = true → s.May) {n : Nat} (hn : n < 3) : (canon fun t => In (ordL b s l k n) t ∧ NB b s.nfrom s.nto t) = catW b s l k (n + 4) := by
  rw [night_one hm (ord_in n)]
  match n, hn with
  | 0, _ => rfl
  | 1, _ => rfl
  | 2, _ => rfl
theorem ord_day {b : Bool} {s : SetP} {l : List SegP} {k : Int} (hm : b = true → s.May) {n : Nat} (hn : n < 3) : (canon fun t => In (ordL b s l k n) t ∧ ¬ In (catW b s l k (n + 4)) t) = catW b s l k (n + 1) := by
  rw [← ord_dark hm hn, day_one hm (ord_in n)]
  match n, hn with
  | 0, _ => rfl
  | 1, _ => rfl
  | 2, _ => rfl
theorem ord_plain {b : Bool} {s : SetP} {l : List SegP} {k : Int} (n : Nat) : PlainFrom 0 (ordL b s l k n) := by
  match n with
  | 0 => exact reg_plain _ _ _ _
  | 1 => exact ovr_plain _ _ _ _
  | n + 2 => exact dbl_plain _ _ _ _
end Go.Proofs.YtdlimgpmmkcgmaaGreat
