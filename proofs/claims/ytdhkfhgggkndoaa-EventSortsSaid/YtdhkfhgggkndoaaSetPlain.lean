/-
  Setups: which may be, their numbers, and that they are read in one way. No program here.
-/
import Derived.Test.YtdhkfhgggkndoaaGram
import Derived.Test.YtdhkfhgggkndoaaRatPlain
namespace Go.Proofs.Ytdhkfhgggkndoaa
set_option linter.unusedVariables false
set_option linter.unusedSimpArgs false

/-- A setup: its lists as rows of numbers. -/
structure SetP where
  places : Int
  ways : Rows2
  pn : Int
  pd : Int
  elements : Rows2
  classes : Rows2
  gears : Rows2
  allow : Int
  unit : Int
  cap : Int
  paid : Int
  aft : Int
  brk : Int
  reg : Int
  over : Int
  week : Int
  nfrom : Int
  nto : Int
  rates : List Int
  diff : Int
  least : Int
  fault : Int
  tiers : Rows2
def SetP.none : SetP := ⟨0, [], 0, 0, [], [], [], 0, 0, 0, 0, 0, 0, 0, 0, 0, 0, 0, [], 0, 0, 0, []⟩
/-- Its rows are as wide as they should. -/
structure SetP.Wide (s : SetP) : Prop where
  ways : ∀ r ∈ s.ways, r.length = 3
  elements : ∀ r ∈ s.elements, r.length = 4
  classes : ∀ r ∈ s.classes, r.length = 2
  gears : ∀ r ∈ s.gears, r.length = 2
  tiers : ∀ r ∈ s.tiers, r.length = 2
def gramS : List GPart := [.fix 1, .tab 3, .fix 2, .tab 4, .tab 2, .tab 2, .fix 11, .tab 1, .fix 3, .tab 2]
def SetP.data (s : SetP) : List Rows2 :=
  [[[s.places]], s.ways, [[s.pn, s.pd]], s.elements, s.classes, s.gears, [[s.allow, s.unit, s.cap, s.paid, s.aft, s.brk, s.reg, s.over, s.week, s.nfrom, s.nto]], s.rates.map fun n => [n], [[s.diff, s.least, s.fault]], s.tiers]
/-- A setup's numbers. -/
def SetP.nums (s : SetP) : List Int :=
  s.places :: (s.ways.length : Int) :: (s.ways.flatten ++ (s.pn :: s.pd :: (s.elements.length : Int) :: (s.elements.flatten ++ ((s.classes.length : Int) :: (s.classes.flatten ++ ((s.gears.length : Int) :: (s.gears.flatten ++
    (s.allow :: s.unit :: s.cap :: s.paid :: s.aft :: s.brk :: s.reg :: s.over :: s.week :: s.nfrom :: s.nto :: (s.rates.length : Int) :: (s.rates ++ (s.diff :: s.least :: s.fault :: (s.tiers.length : Int) :: s.tiers.flatten))))))))))
theorem flat_ones : ∀ l : List Int, (l.map fun n => [n]).flatten = l
  | [] => rfl
  | n :: l => by simp [flat_ones l]
theorem nums_gram (s : SetP) : s.nums = numsG gramS s.data := by
  simp [SetP.nums, SetP.data, gramS, numsG, GPart.nums, flat_ones]
theorem data_fits {s : SetP} (h : s.Wide) : fitsG gramS s.data := by
  refine ⟨⟨_, rfl, rfl⟩, h.ways, ⟨_, rfl, rfl⟩, h.elements, h.classes, h.gears, ⟨_, rfl, rfl⟩, ?_, ⟨_, rfl, rfl⟩, h.tiers, trivial⟩
  intro r hr
  simp only [List.mem_map] at hr
  obtain ⟨n, _, rfl⟩ := hr
  rfl
theorem data_inj {s t : SetP} (h : s.data = t.data) : s = t := by
  cases s
  cases t
  simp only [SetP.data, List.cons.injEq, and_true] at h
  obtain ⟨h1, h2, ⟨h3, h4⟩, h5, h6, h7, ⟨a, b, c, d, e, f, g, i, j, k, l⟩, hr, ⟨x, y, z⟩, ht⟩ := h
  have hr' := congrArg List.flatten hr
  rw [flat_ones, flat_ones] at hr'
  subst h1 h2 h3 h4 h5 h6 h7 a b c d e f g i j k l hr' x y z ht
  rfl
/-- Of two setups' numbers none is a beginning of the other's, unless they are the same. -/
theorem nums_pre {s t : SetP} (hs : s.Wide) (ht : t.Wide) {x y : List Int} (h : s.nums ++ x = t.nums ++ y) : s = t ∧ x = y := by
  rw [nums_gram, nums_gram] at h
  obtain ⟨e1, e2⟩ := gram_inj gramS _ _ (data_fits hs) (data_fits ht) x y h
  exact ⟨data_inj e1, e2⟩
/-! ### Which may be -/
def shareB (n d : Int) : Bool := mayB n d && decide (0 ≤ n)
def wayP (p : Int) (r : List Int) : Prop := 0 ≤ r.getD 0 0 ∧ 0 ≤ r.getD 1 0 ∧ r.getD 0 0 < p ∧ r.getD 1 0 < p ∧ r.getD 0 0 ≠ r.getD 1 0 ∧ 1 ≤ r.getD 2 0 ∧ r.getD 2 0 ≤ 10000
def eleP (r : List Int) : Prop := shareB (r.getD 0 0) (r.getD 1 0) = true ∧ shareB (r.getD 2 0) (r.getD 3 0) = true
def ratP (r : List Int) : Prop := shareB (r.getD 0 0) (r.getD 1 0) = true
def rateP (n : Int) : Prop := 0 ≤ n ∧ n ≤ 100000
def tierP (l : Rows2) (i : Nat) : Prop := 0 ≤ (l.getD i []).getD 0 0 ∧ (l.getD i []).getD 0 0 ≤ 1000 ∧ 0 ≤ (l.getD i []).getD 1 0 ∧ (l.getD i []).getD 1 0 ≤ 100000 ∧ (0 < i → (l.getD (i - 1) []).getD 0 0 < (l.getD i []).getD 0 0)
structure SetP.May (s : SetP) : Prop where
  places : 1 ≤ s.places ∧ s.places ≤ 16
  ways : s.ways.length ≤ 64 ∧ ∀ r ∈ s.ways, wayP s.places r
  pace : shareB s.pn s.pd = true
  elements : s.elements.length ≤ 8 ∧ ∀ r ∈ s.elements, eleP r
  classes : s.classes.length ≤ 8 ∧ ∀ r ∈ s.classes, ratP r
  gears : s.gears.length ≤ 8 ∧ ∀ r ∈ s.gears, ratP r
  allow : 0 ≤ s.allow ∧ s.allow ≤ 100
  unit : 1 ≤ s.unit ∧ s.unit ≤ 3600
  cap : 60 ≤ s.cap ∧ s.cap ≤ 57600
  paid : 0 ≤ s.paid ∧ s.paid ≤ 86400
  aft : 0 ≤ s.aft ∧ s.aft ≤ 86400
  brk : 0 ≤ s.brk ∧ s.brk ≤ 86400
  nfrom : 0 ≤ s.nfrom ∧ s.nfrom ≤ 86400
  nto : 0 ≤ s.nto ∧ s.nto ≤ 86400
  fault : 0 ≤ s.fault ∧ s.fault ≤ 86400
  reg : 0 ≤ s.reg ∧ s.reg ≤ s.over
  over : s.over ≤ 86400
  week : 0 ≤ s.week ∧ s.week ≤ 604800
  rates : 1 ≤ s.rates.length ∧ s.rates.length ≤ 16 ∧ ∀ n ∈ s.rates, rateP n
  diff : 0 ≤ s.diff ∧ s.diff ≤ 100000
  least : 0 ≤ s.least ∧ s.least ≤ 100000
  tiers : s.tiers.length ≤ 8 ∧ ∀ i, i < s.tiers.length → tierP s.tiers i
theorem share_bd {n d : Int} (h : shareB n d = true) : 0 ≤ n ∧ n ≤ 2147483647 ∧ 1 ≤ d ∧ d ≤ 2147483647 := by
  unfold shareB at h
  simp only [Bool.and_eq_true, decide_eq_true_eq] at h
  have := may_bd h.1
  omega
/-- Rows of numbers of which none is below 0, nor too great. -/
theorem rows_ok {k : Nat} {t : Rows2} (hw : ∀ r ∈ t, r.length = k) (h : ∀ r ∈ t, ∀ j, j < k → 0 ≤ r.getD j 0 ∧ r.getD j 0 ≤ 9223372036854775807) : okN t.flatten := by
  intro n hn
  obtain ⟨r, hr, hnr⟩ := List.mem_flatten.1 hn
  obtain ⟨j, hj, rfl⟩ := List.getElem_of_mem hnr
  have := h r hr j (by rw [← hw r hr]; exact hj)
  simpa [List.getD, hj] using this
theorem okN_append {a b : List Int} (ha : okN a) (hb : okN b) : okN (a ++ b) := fun n hn => by
  rcases List.mem_append.1 hn with h | h
  · exact ha n h
  · exact hb n h
theorem okN_cons {n : Int} {b : List Int} (hn : 0 ≤ n ∧ n ≤ 9223372036854775807) (hb : okN b) : okN (n :: b) := fun m hm => by
  rcases List.mem_cons.1 hm with rfl | h
  · exact hn
  · exact hb m h
theorem okN_nil : okN [] := fun n hn => by simp at hn
theorem nums_ok {s : SetP} (hw : s.Wide) (h : s.May) : okN s.nums := by
  have hp := share_bd h.pace
  have h1 := h.places
  have h2 := h.ways.1
  have h3 := h.elements.1
  have h4 := h.classes.1
  have h5 := h.gears.1
  have h6 := h.rates.2.1
  have h7 := h.tiers.1
  have := h.allow; have := h.unit; have := h.cap; have := h.paid; have := h.aft; have := h.brk; have := h.nfrom; have := h.nto; have := h.fault
  have := h.reg; have := h.over; have := h.week; have := h.diff; have := h.least
  unfold SetP.nums
  refine okN_cons (by omega) (okN_cons (by omega) (okN_append ?_ (okN_cons (by omega) (okN_cons (by omega) (okN_cons (by omega) (okN_append ?_ (okN_cons (by omega) (okN_append ?_ (okN_cons (by omega) (okN_append ?_
    (okN_cons (by omega) (okN_cons (by omega) (okN_cons (by omega) (okN_cons (by omega) (okN_cons (by omega) (okN_cons (by omega) (okN_cons (by omega) (okN_cons (by omega) (okN_cons (by omega) (okN_cons (by omega) (okN_cons (by omega) (okN_cons (by omega)
    (okN_append ?_ (okN_cons (by omega) (okN_cons (by omega) (okN_cons (by omega) (okN_cons (by omega) ?_)))))))))))))))))))))))))))
  · refine rows_ok hw.ways fun r hr j hj => ?_
    have := h.ways.2 r hr
    unfold wayP at this
    rcases (show j = 0 ∨ j = 1 ∨ j = 2 by omega) with rfl | rfl | rfl <;> omega
  · refine rows_ok hw.elements fun r hr j hj => ?_
    have := h.elements.2 r hr
    have q1 := share_bd this.1
    have q2 := share_bd this.2
    rcases (show j = 0 ∨ j = 1 ∨ j = 2 ∨ j = 3 by omega) with rfl | rfl | rfl | rfl <;> omega
  · refine rows_ok hw.classes fun r hr j hj => ?_
    have q1 := share_bd (h.classes.2 r hr)
    rcases (show j = 0 ∨ j = 1 by omega) with rfl | rfl <;> omega
  · refine rows_ok hw.gears fun r hr j hj => ?_
    have q1 := share_bd (h.gears.2 r hr)
    rcases (show j = 0 ∨ j = 1 by omega) with rfl | rfl <;> omega
  · intro n hn
    have := h.rates.2.2 n hn
    unfold rateP at this
    omega
  · refine rows_ok hw.tiers fun r hr j hj => ?_
    obtain ⟨i, hi, rfl⟩ := List.getElem_of_mem hr
    have := h.tiers.2 i hi
    unfold tierP at this
    have e : s.tiers.getD i [] = s.tiers[i] := by simp [List.getD, hi]
    rw [e] at this
    rcases (show j = 0 ∨ j = 1 by omega) with rfl | rfl <;> omega
/-! ### As bytes -/
def SetP.bytes (s : SetP) : List (BitVec 8) := bytesN s.nums
/-- A setup that may be, as it lies in memory. -/
def SetP.Good (s : SetP) : Prop := s.Wide ∧ s.May
theorem bytes_pre {s t : SetP} (hs : s.Good) (ht : t.Good) {x : List (BitVec 8)} (h : t.bytes = s.bytes ++ x) : s = t ∧ x = [] := by
  obtain ⟨r, e, hx⟩ := bytesN_pre s.nums t.nums (nums_ok hs.1 hs.2) (nums_ok ht.1 ht.2) x h
  have := nums_pre ht.1 hs.1 (x := []) (y := r) (by rw [List.append_nil, e])
  exact ⟨this.1.symm, by rw [hx, ← this.2]; rfl⟩
theorem sbytes_inj {s t : SetP} (hs : s.Good) (ht : t.Good) (h : s.bytes = t.bytes) : s = t := (bytes_pre hs ht (x := []) (by rw [h, List.append_nil])).1
/-! ### Read -/
open Classical in
/-- The setup that may be of which bytes are those. -/
noncomputable def readS (b : List (BitVec 8)) : Option SetP := if h : ∃ s : SetP, s.Good ∧ s.bytes = b then some (Classical.choose h) else none
theorem read_back {s : SetP} (h : s.Good) : readS s.bytes = some s := by
  have hx : ∃ t : SetP, t.Good ∧ t.bytes = s.bytes := ⟨s, h, rfl⟩
  unfold readS
  rw [dif_pos hx]
  have := Classical.choose_spec hx
  rw [sbytes_inj this.1 h this.2]
theorem read_own {b : List (BitVec 8)} {s : SetP} (h : readS b = some s) : s.Good ∧ s.bytes = b := by
  unfold readS at h
  split at h
  · rename_i hx
    injection h with h
    rw [← h]
    exact Classical.choose_spec hx
  · cases h
theorem read_none {b : List (BitVec 8)} (h : ∀ s : SetP, s.Good → s.bytes ≠ b) : readS b = none := by
  unfold readS
  rw [dif_neg]
  rintro ⟨s, h1, h2⟩
  exact h s h1 h2
theorem read_not {b : List (BitVec 8)} (h : readS b = none) {s : SetP} (hs : s.Good) : s.bytes ≠ b := by
  rintro rfl
  rw [read_back hs] at h
  cases h
end Go.Proofs.Ytdhkfhgggkndoaa
