/-
  Rows of events: a copy, and the library's insertion sort.
-/
import Derived.Test.YtdhkfhgggkndoaaEvOrd
import Derived.Test.YtdhkfhgggkndoaaEvStab
import Derived.Test.YtdhkfhgggkndoaaEvLay
import Derived.Test.YtdhkfhgggkndoaaTab
import Derived.Test.YtdhkfhgggkndoaaEvOpenA
import Derived.Shelf.Abstract
import Derived.Lib.SliceRun
namespace Go.Proofs.Ytdhkfhgggkndoaa
open Go.RowKit Go.Sort
set_option linter.unusedVariables false
set_option linter.unusedSimpArgs false
set_option maxRecDepth 20000


def encE (e : EvP) : List Value := (evC e).toList
theorem encE_len (e : EvP) : (encE e).length = 11 := rfl
theorem encE_one (e : EvP) : ∀ v ∈ encE e, v.oneCell' = true := by
  intro v hv
  simp only [encE, evC, List.mem_cons, List.not_mem_nil, or_false] at hv
  rcases hv with rfl | rfl | rfl | rfl | rfl | rfl | rfl | rfl | rfl | rfl | rfl <;> rfl
theorem encE_arr (e : EvP) : (encE e).toArray = evC e := rfl
/-- An event's numbers, as a list. -/
theorem encE_L (e : EvP) : encE e = ints .i64 (evLs e) := rfl
/-- Block g holds the events d from its beginning on. -/
def HoldE (w : World) (g : Nat) (d : Array EvP) : Prop := HoldsK encE 11 w g 0 d
/-- The slice value reads as the events l. -/
def Evs (w : World) (A : Option Addr) (n c : Nat) (l : List EvP) : Prop := Sl 11 w A n c (ints .i64 (l.map evLs).flatten) ∧ l.length = n
theorem evs_wide (l : List EvP) : ∀ r ∈ l.map evLs, r.length = 11 := by
  intro r hr
  obtain ⟨e, _, rfl⟩ := List.mem_map.1 hr
  rfl
theorem evs_cell (l : List EvP) {t : Nat} (ht : t < l.length * 11) : (ints .i64 (l.map evLs).flatten)[t]? = some ((encE (l.getD (t / 11) EvP.none)).getD (t % 11) undef) := by
  have hi : t / 11 < l.length := by omega
  have hj : t % 11 < 11 := Nat.mod_lt _ (by omega)
  have h1 := rows_get (l.map evLs) (evs_wide l) (t / 11) (t % 11) (by simpa using hi) hj []
  rw [List.append_nil, Nat.div_add_mod] at h1
  have hlen := rows_len (l.map evLs) (evs_wide l)
  rw [List.length_map] at hlen
  have hlt : t < (l.map evLs).flatten.length := by omega
  rw [ints, List.getElem?_map, List.getElem?_eq_getElem hlt, Option.map_some]
  rw [List.getD_eq_getElem?_getD, List.getElem?_eq_getElem hlt, Option.getD_some] at h1
  rw [h1, encE_L]
  have e1 : (l.map evLs).getD (t / 11) [] = evLs (l.getD (t / 11) EvP.none) := by simp [List.getD, hi]
  rw [e1]
  generalize l.getD (t / 11) EvP.none = x
  have hj2 : t % 11 < (evLs x).length := hj
  simp [ints, List.getD, hj2]
theorem holdE_cell {w : World} {g : Nat} {l : List EvP} (hc : ∀ t, t < l.length * 11 → w.cell? ⟨g, t, none⟩ = (ints .i64 (l.map evLs).flatten)[t]?) (hf : ∀ t, w.frozen? ⟨g, t, none⟩ = false) : HoldE w g l.toArray := by
  intro t ht
  rw [size_flatK] at ht
  rw [get_flatK _ _ _ _ ht, Nat.zero_add]
  have ht' : t < l.length * 11 := by simpa using ht
  refine ⟨?_, hf t⟩
  rw [hc t ht', evs_cell l ht']
  have hi : t / 11 < l.length := by omega
  have hj : t % 11 < 11 := Nat.mod_lt _ (by omega)
  simp only [id, List.getElem!_toArray]
  rw [getElem!_pos l (t / 11) hi, getElem!_pos (encE l[t / 11]) (t % 11) (by rw [encE_len]; exact hj)]
  have e1 : l.getD (t / 11) EvP.none = l[t / 11] := by simp [List.getD, hi]
  rw [e1]
  simp [List.getD, show t % 11 < (encE l[t / 11]).length by rw [encE_len]; exact hj]
theorem evs_of_holdE {w : World} {g c : Nat} {d : Array EvP} (h : HoldE w g d) : Evs w (some ⟨g, 0, none⟩) d.size c d.toList := by
  refine ⟨⟨?_, .inr ⟨_, rfl, fun j u hu => ?_⟩⟩, by simp⟩
  · have := rows_len (d.toList.map evLs) (evs_wide _)
    rw [ints, List.length_map, this, List.length_map]
    simp; omega
  · have hj : j < d.size * 11 := by
      have := rows_len (d.toList.map evLs) (evs_wide _)
      have h2 := (List.getElem?_eq_some_iff.1 hu).1
      rw [ints, List.length_map, this, List.length_map] at h2
      simp at h2; omega
    have h1 := (h j (by rw [size_flatK]; exact hj)).1
    rw [get_flatK _ _ _ _ hj, Nat.zero_add] at h1
    have hi : j / 11 < d.size := by omega
    have hm : j % 11 < 11 := Nat.mod_lt _ (by omega)
    rw [show (⟨g, 0, none⟩ : Addr).add j = ⟨g, j, none⟩ by unfold Addr.add; split <;> simp_all, h1, ← hu, evs_cell d.toList (by simpa using hj)]
    simp only [id]
    rw [getElem!_pos d (j / 11) hi, getElem!_pos (encE d[j / 11]) (j % 11) (by rw [encE_len]; exact hm)]
    have e1 : d.toList.getD (j / 11) EvP.none = d[j / 11] := by simp [List.getD, hi]
    rw [e1]
    simp [List.getD, show j % 11 < (encE d[j / 11]).length by rw [encE_len]; exact hm]
theorem Evs.below {w w' : World} {A : Option Addr} {n c : Nat} {l : List EvP} (h : Evs w A n c l) (hb : Below w.heap.size w w') : Evs w' A n c l := ⟨h.1.below hb, h.2⟩
theorem Evs.cell {w : World} {b off n c : Nat} {l : List EvP} (h : Evs w (some ⟨b, off, none⟩) n c l) {i j : Nat} (hi : i < n) (hj : j < 11) : w.cell? ⟨b, off + i * 11 + j, none⟩ = some ((encE (l.getD i EvP.none)).getD j undef) := by
  obtain ⟨⟨hl, ⟨h0, _, _⟩ | ⟨ad, e, hc⟩⟩, hn⟩ := h
  · cases h0
  · injection e with e
    subst e hn
    have ht : i * 11 + j < l.length * 11 := by omega
    have := hc (i * 11 + j) _ (evs_cell l ht)
    rw [show (⟨b, off, none⟩ : Addr).add (i * 11 + j) = ⟨b, off + (i * 11 + j), none⟩ by unfold Addr.add; split <;> simp_all, ← Nat.add_assoc] at this
    rw [this, show (i * 11 + j) / 11 = i by omega, show (i * 11 + j) % 11 = j by omega]
theorem Evs.form {w : World} {A : Option Addr} {n c : Nat} {l : List EvP} (h : Evs w A n c l) (hn : 0 < n) : ∃ b off, A = some ⟨b, off, none⟩ := by
  obtain ⟨⟨hl, ⟨_, h0, _⟩ | ⟨ad, rfl, hc⟩⟩, hln⟩ := h
  · omega
  · have h0 := hc 0 _ (evs_cell l (by omega))
    obtain ⟨b, off, sp⟩ := ad
    have hsp : sp = none := by simpa [Addr.add] using World.cell?_spot h0
    subst hsp
    exact ⟨b, off, rfl⟩
theorem ev_info : (Try.prog.info? 43).map (fun i => (i.zero, i.size, i.bytes)) = some (some (.agg (evC EvP.none)), 11, 88) := by kernel_rfl
/-- 'slices.Clone' of events. -/
theorem evclone_any (A : Option Addr) (n c : Nat) (l : List EvP) (W : World) (h : Evs W A n c l) (hm : n ≤ 1000000) :
    Calls Try.prog 59 #[.slice A n c] W fun e w' => ∃ A' c', e = .returned (.slice A' n c') ∧ Below W.heap.size W w' ∧ (0 < n → ∃ g, A' = some ⟨g, 0, none⟩ ∧ W.heap.size ≤ g ∧ g < w'.heap.size ∧ HoldE w' g l.toArray) ∧ (l = [] → Evs w' A' n c' []) := by
  have qT : ∀ (w : World) (a : Option Addr) (n c n' c' : Nat), (binOp .eql 41 (.slice a n c) (.slice none n' c')).run Try.prog w = .ok (.bool a.isNone) w := fun w a n c n' c' => Lib.run_eql_slice_nil w _ _ a n c n' c' Try.underlying41
  cases A with
  | none =>
    have hn0 : n = 0 := by
      rcases Nat.eq_zero_or_pos n with h0 | h0
      · exact h0
      · obtain ⟨b, off, e⟩ := h.form h0; cases e
    subst hn0
    go_enter Try.func59, Try.ntmps59
    go_wp2
    go_ret
    exact ⟨none, 0, rfl, Below.refl _ _, fun h => absurd h (by omega), fun _ => ⟨⟨by simp [ints], .inl ⟨rfl, rfl, rfl⟩⟩, rfl⟩⟩
  | some ad =>
    obtain ⟨hsl, hln⟩ := h
    have ho := own_new W 43 11 0 #[] rfl (by decide)
    obtain ⟨A', c', w', hr, hown, hg, hl⟩ := append_any (P := Try.prog) (W.alloc (.cells #[] 43)) W.heap.size 41 41 43 _ 11 88 Try.underlying41 ev_info rfl (by omega) ho (hsl.alloc _) (ints_one .i64 _) n (by omega) (ints .i64 (l.map evLs).flatten) (by simp) (by omega) (by omega) (by simp)
    have HR := Lib.hid hr
    have hb : Below W.heap.size W w' := bel_grown (bel_alloc (Below.refl _ _) _) ho (Nat.le_refl _) hg
    have hown0 := hown
    have hfin : 0 < n → ∃ g, A' = some ⟨g, 0, none⟩ ∧ W.heap.size ≤ g ∧ g < w'.heap.size ∧ HoldE w' g l.toArray := by
      intro h0
      have hlt := World.ownsRow.lt hown
      have hown' := hown
      obtain ⟨hl', ⟨hv, hz⟩ | ⟨g, cap, cur, hv, hbg, hh, _⟩⟩ := hown
      · omega
      · injection hv with e1 e2 e3
        subst e1
        have := hlt _ rfl
        refine ⟨g, rfl, hbg, this.2, holdE_cell (fun t ht => ?_) (fun t => World.ownsRow.frozenAt hown' t)⟩
        rw [hln] at ht
        exact World.ownsRow.cellAt hown' t ht
    have hfin2 : l = [] → Evs w' A' n c' [] := by
      rintro rfl
      have hs := Sl.of_own hown0
      exact ⟨by simpa using hs, hln⟩
    have HF := Lib.hid hfin
    have HF2 := Lib.hid hfin2
    clear hr hown hown0 hg hl ho hsl hfin hfin2
    go_enter Try.func59, Try.ntmps59
    go_wp2_with (at_builtin; refine wpList_append_run HR.out rfl rfl rfl rfl ?_)
    go_ret
    exact ⟨A', c', rfl, hb, HF.out, HF2.out⟩
end Go.Proofs.Ytdhkfhgggkndoaa
