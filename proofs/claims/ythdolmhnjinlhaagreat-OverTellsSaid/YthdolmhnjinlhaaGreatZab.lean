/-
  Times rounded, days and weeks: no program here.
  Slices as lists of cells: what a slice that came in, or that the call made, reads as; what an append makes of it. Over any program.
  A block of cells that the walk knows whole: it is kept over draws, new blocks, and calls that leave what was there.
  Slices of spans in memory: one that is read ('Spans'), one of the call's own ('Row'); what an append, and a store, make of it.
  Slices of bytes as lists of words of 8 bits; slices of such slices. Over any program.
-/
import Derived.Test.YthdolmhnjinlhaaGreatZaa
import Derived.Maps.AppendAt
import Derived.Laws.OwnMore
import Derived.Laws.Rows
import Derived.OwnWalk
import Derived.Test.YthdolmhnjinlhaaGreatProg
import Derived.Lib.Hide
namespace Go.Proofs.YthdolmhnjinlhaaGreat
set_option linter.unusedVariables false
set_option linter.unusedSimpArgs false

def timeP (t : Int) : Int := min (max t 0) 32054400
def secP (t : Int) : Int := min (timeP t) 32054399
theorem time_bd (t : Int) : 0 ≤ timeP t ∧ timeP t ≤ 32054400 := by unfold timeP; omega
theorem sec_bd (t : Int) : 0 ≤ secP t ∧ secP t ≤ 32054399 := by unfold secP timeP; omega
theorem sec_in {t : Int} (h : 0 ≤ t) (h' : t < 32054400) : secP t = t := by unfold secP timeP; omega
def roundP (t u : Int) : Int :=
  if u < 1 then timeP t else if u - timeP t % u ≤ timeP t % u then min (timeP t - timeP t % u + min u 100000000) 32054400 else timeP t - timeP t % u
def dayP (t : Int) : Int := secP t / 86400
def weekP (t : Int) : Int := secP t / 604800
def aboutP (unit cap : Int) : Int := min (max unit 0) 604800 + min (max cap 0) 604800
def touchP (unit cap t : Int) : Int × Int := (weekP (secP t - aboutP unit cap), weekP (secP t + aboutP unit cap))
/-! ### Rounding -/
theorem round_div {n u : Int} (h : 1 ≤ u) : n % u = n - u * (n / u) ∧ 0 ≤ n % u ∧ n % u < u := by
  have h1 := Int.emod_def n u
  have h2 := Int.emod_nonneg n (show u ≠ 0 by omega)
  have h3 := Int.emod_lt_of_pos n (show 0 < u by omega)
  exact ⟨h1, h2, h3⟩
theorem round_up {a u : Int} (h0 : 0 ≤ a) (h1 : a < 31000000) (hu : 1 ≤ u) (hu' : u ≤ 65536) : roundP a u = u * (a / u) + (if u - a % u ≤ a % u then u else 0) := by
  have ht : timeP a = a := by unfold timeP; omega
  obtain ⟨e, e1, e2⟩ := round_div (n := a) hu
  unfold roundP
  rw [if_neg (by omega), ht]
  split
  · omega
  · omega
/-- PunchRounds. -/
theorem round_near {a u : Int} (h0 : 0 ≤ a) (h1 : a < 31000000) (hu : 1 ≤ u) (hu' : u ≤ 65536) : roundP a u % u = 0 ∧ 2 * (roundP a u - a) ≤ u ∧ 2 * (a - roundP a u) < u := by
  obtain ⟨e, e1, e2⟩ := round_div (n := a) hu
  rw [round_up h0 h1 hu hu']
  refine ⟨?_, ?_, ?_⟩
  · split
    · rw [Int.add_emod_right, Int.mul_emod_right]
    · rw [Int.add_zero, Int.mul_emod_right]
  · split <;> omega
  · split <;> omega
theorem round_keeps {a b u : Int} (h0 : 0 ≤ a) (hab : a ≤ b) (h1 : b < 31000000) (hu : 1 ≤ u) (hu' : u ≤ 65536) : roundP a u ≤ roundP b u := by
  obtain ⟨e, e1, e2⟩ := round_div (n := a) hu
  obtain ⟨f, f1, f2⟩ := round_div (n := b) hu
  rw [round_up h0 (by omega) hu hu', round_up (by omega) h1 hu hu']
  have hq : a / u ≤ b / u := Int.ediv_le_ediv (by omega) hab
  rcases Int.lt_or_le (a / u) (b / u) with q | q
  · have : u * (a / u) + u ≤ u * (b / u) := by
      have := Int.mul_le_mul_of_nonneg_left (show a / u + 1 ≤ b / u by omega) (show 0 ≤ u by omega)
      rw [Int.mul_add, Int.mul_one] at this
      exact this
    split <;> split <;> omega
  · have : a / u = b / u := by omega
    rw [this] at e ⊢
    split <;> split <;> omega
theorem round_again {a u : Int} (h0 : 0 ≤ a) (h1 : a < 31000000) (hu : 1 ≤ u) (hu' : u ≤ 65536) : roundP (roundP a u) u = roundP a u := by
  obtain ⟨h2, h3, h4⟩ := round_near h0 h1 hu hu'
  have hx : 0 ≤ roundP a u := by
    rw [round_up h0 h1 hu hu']
    have : 0 ≤ u * (a / u) := Int.mul_nonneg (by omega) (Int.ediv_nonneg h0 (by omega))
    split <;> omega
  generalize roundP a u = x at *
  have ht : timeP x = x := by unfold timeP; omega
  unfold roundP
  rw [if_neg (by omega), ht, h2, if_neg (by omega)]
  omega
/-! ### Days -/
theorem day_has (t : Int) : dayP t * 86400 ≤ secP t ∧ secP t < (dayP t + 1) * 86400 ∧ weekP t * 604800 ≤ secP t ∧ secP t < (weekP t + 1) * 604800 ∧ dayP t / 7 = weekP t := by
  have := sec_bd t
  unfold dayP weekP
  omega
theorem touch_has (unit cap t : Int) : (touchP unit cap t).1 ≤ weekP t ∧ weekP t ≤ (touchP unit cap t).2 := by
  have h := sec_bd t
  have ha : 0 ≤ aboutP unit cap := by unfold aboutP; omega
  unfold touchP weekP
  generalize aboutP unit cap = b at *
  generalize secP t = n at *
  have e1 : secP (n - b) ≤ n := by unfold secP timeP; omega
  have e2 : n ≤ secP (n + b) := by unfold secP timeP; omega
  have b1 := sec_bd (n - b)
  have b2 := sec_bd (n + b)
  simp only
  omega
theorem touch_near {unit cap t : Int} (h1 : unit ≤ 3600) (h2 : cap ≤ 57600) : (touchP unit cap t).2 - (touchP unit cap t).1 ≤ 1 := by
  have h := sec_bd t
  have ha : 0 ≤ aboutP unit cap ∧ aboutP unit cap ≤ 61200 := by unfold aboutP; omega
  unfold touchP weekP
  generalize aboutP unit cap = b at *
  generalize secP t = n at *
  have e : secP (n + b) - secP (n - b) ≤ 122400 := by unfold secP timeP; omega
  have b1 := sec_bd (n - b)
  have b2 := sec_bd (n + b)
  simp only
  omega
/-! ### Rising lists -/
theorem rise_unique : ∀ (a b : List Int), a.Pairwise (· < ·) → b.Pairwise (· < ·) → (∀ x, x ∈ a ↔ x ∈ b) → a = b
  | [], [], _, _, _ => rfl
  | [], y :: b, _, _, h => by have := (h y).2 (by simp); simp at this
  | x :: a, [], _, _, h => by have := (h x).1 (by simp); simp at this
  | x :: a, y :: b, ha, hb, h => by
    rw [List.pairwise_cons] at ha hb
    have h1 : x = y := by
      have p1 := (h x).1 (by simp)
      have p2 := (h y).2 (by simp)
      rcases List.mem_cons.1 p1 with p1 | p1
      · exact p1
      · rcases List.mem_cons.1 p2 with p2 | p2
        · exact p2.symm
        · have := hb.1 x p1
          have := ha.1 y p2
          omega
    subst h1
    congr 1
    refine rise_unique a b ha.2 hb.2 fun z => ?_
    have := h z
    simp only [List.mem_cons] at this
    constructor
    · intro hz
      rcases this.1 (.inr hz) with q | q
      · have := ha.1 z hz; omega
      · exact q
    · intro hz
      rcases this.2 (.inr hz) with q | q
      · have := hb.1 z hz; omega
      · exact q
open Classical in
/-- The days that have some. -/
noncomputable def daysP (p : Int → Prop) : List Int := ((List.range 371).filter fun d : Nat => decide (∃ t, 0 ≤ t ∧ t < 32054400 ∧ p t ∧ t / 86400 = (d : Int))).map fun d : Nat => (d : Int)
theorem days_mem (p : Int → Prop) (d : Int) : d ∈ daysP p ↔ ∃ t, 0 ≤ t ∧ t < 32054400 ∧ p t ∧ t / 86400 = d := by
  unfold daysP
  simp only [List.mem_map, List.mem_filter, List.mem_range, decide_eq_true_eq]
  constructor
  · rintro ⟨n, ⟨_, t, h⟩, rfl⟩
    exact ⟨t, h⟩
  · rintro ⟨t, h1, h2, h3, h4⟩
    exact ⟨d.toNat, ⟨by omega, t, h1, h2, h3, by omega⟩, by omega⟩
theorem range_rise (n : Nat) : ((List.range n).map fun d : Nat => (d : Int)).Pairwise (· < ·) := by
  rw [List.pairwise_map]
  exact List.pairwise_lt_range.imp (fun h => by omega)
theorem days_rise (p : Int → Prop) : (daysP p).Pairwise (· < ·) := by
  unfold daysP
  rw [List.pairwise_map]
  exact (List.pairwise_lt_range.imp (fun h => by omega)).filter _
theorem days_eq {p : Int → Prop} {l : List Int} (h1 : l.Pairwise (· < ·)) (h2 : ∀ d, d ∈ l ↔ ∃ t, 0 ≤ t ∧ t < 32054400 ∧ p t ∧ t / 86400 = d) : l = daysP p :=
  rise_unique l (daysP p) h1 (days_rise p) fun d => by rw [h2, days_mem]
/-- The seconds of one day, or week. -/
noncomputable def ofDayP (p : Int → Prop) (d : Int) : List (Int × Int) := canon fun t => p t ∧ t / 86400 = d
noncomputable def ofWeekP (p : Int → Prop) (k : Int) : List (Int × Int) := canon fun t => p t ∧ t / 604800 = k
theorem ofDay_none {p : Int → Prop} {d : Int} (h : d < 0 ∨ 370 < d) : ofDayP p d = [] := canon_none fun t h0 h1 h2 => by omega
theorem ofWeek_none {p : Int → Prop} {k : Int} (h : k < 0 ∨ 52 < k) : ofWeekP p k = [] := canon_none fun t h0 h1 h2 => by omega
theorem ofDay_some {p : Int → Prop} {d : Int} (h : d ∈ daysP p) : ofDayP p d ≠ [] := by
  intro e
  obtain ⟨t, h1, h2, h3, h4⟩ := (days_mem p d).1 h
  have := (canon_in (fun t => p t ∧ t / 86400 = d) t).2 ⟨h1, h2, h3, h4⟩
  unfold ofDayP at e
  rw [e] at this
  exact in_nil t this
/-- The days, one behind the other, make the set; those of a week the week's. -/
theorem days_make (p : Int → Prop) {t : Int} (h0 : 0 ≤ t) (h1 : t < 32054400) : In ((daysP p).flatMap (ofDayP p)) t ↔ p t := by
  constructor
  · rintro ⟨s, hs, h2⟩
    obtain ⟨d, hd, hsd⟩ := List.mem_flatMap.1 hs
    have : In (ofDayP p d) t := ⟨s, hsd, h2⟩
    exact ((canon_in _ t).1 this).2.2.1
  · intro hp
    have hd : t / 86400 ∈ daysP p := (days_mem p _).2 ⟨t, h0, h1, hp, rfl⟩
    obtain ⟨s, hs, h2⟩ := (canon_in (fun u => p u ∧ u / 86400 = t / 86400) t).2 ⟨h0, h1, hp, rfl⟩
    exact ⟨s, List.mem_flatMap.2 ⟨_, hd, hs⟩, h2⟩
theorem week_make (p : Int → Prop) (k : Int) {t : Int} (h0 : 0 ≤ t) (h1 : t < 32054400) : In (((daysP p).filter fun d => decide (d / 7 = k)).flatMap (ofDayP p)) t ↔ p t ∧ t / 604800 = k := by
  constructor
  · rintro ⟨s, hs, h2⟩
    obtain ⟨d, hd, hsd⟩ := List.mem_flatMap.1 hs
    have hk := (List.mem_filter.1 hd).2
    simp only [decide_eq_true_eq] at hk
    have : In (ofDayP p d) t := ⟨s, hsd, h2⟩
    have := ((canon_in _ t).1 this).2.2
    exact ⟨this.1, by omega⟩
  · rintro ⟨hp, hk⟩
    have hd : t / 86400 ∈ daysP p := (days_mem p _).2 ⟨t, h0, h1, hp, rfl⟩
    obtain ⟨s, hs, h2⟩ := (canon_in (fun u => p u ∧ u / 86400 = t / 86400) t).2 ⟨h0, h1, hp, rfl⟩
    refine ⟨s, List.mem_flatMap.2 ⟨_, List.mem_filter.2 ⟨hd, ?_⟩, hs⟩, h2⟩
    simp only [decide_eq_true_eq]
    omega
end Go.Proofs.YthdolmhnjinlhaaGreat

namespace Go.Proofs.YthdolmhnjinlhaaGreat
open Go.RowKit

theorem cell_lt {w : World} {a : Addr} {v : Value} (h : w.cell? a = some v) : a.block < w.heap.size := by
  rcases Nat.lt_or_ge a.block w.heap.size with hlt | hge
  · exact hlt
  · unfold World.cell? at h
    rw [Array.getElem?_eq_none hge] at h
    cases h
theorem add_block (a : Addr) (n : Nat) : (a.add n).block = a.block := by unfold Addr.add; split <;> rfl

/-- The slice value '.slice A m c' reads as the cells us, 'size' of them to an element. -/
def Sl (size : Nat) (w : World) (A : Option Addr) (m c : Nat) (us : List Value) : Prop :=
  us.length = m * size ∧ ((A = none ∧ m = 0 ∧ c = 0) ∨ ∃ ad, A = some ad ∧ ∀ j u, us[j]? = some u → w.cell? (ad.add j) = some u)

section
variable {w w' : World} {size m c : Nat} {A : Option Addr} {us : List Value}
theorem Sl.keep (h : Sl size w A m c us) (hk : ∀ p : Addr, p.block < w.heap.size → w'.cell? p = w.cell? p) : Sl size w' A m c us := by
  obtain ⟨hl, h | ⟨ad, rfl, hc⟩⟩ := h
  · exact ⟨hl, .inl h⟩
  · exact ⟨hl, .inr ⟨ad, rfl, fun j u hu => (hk _ (cell_lt (hc j u hu))).trans (hc j u hu)⟩⟩
theorem Sl.below (h : Sl size w A m c us) (hb : Below w.heap.size w w') : Sl size w' A m c us := h.keep fun _ hp => hb.cell hp
theorem Sl.alloc (h : Sl size w A m c us) (o : Obj) : Sl size (w.alloc o) A m c us := h.keep fun p hp => World.cell?_alloc_lt w o p hp
theorem Sl.nil_ : Sl size w none 0 0 [] := ⟨by simp, .inl ⟨rfl, rfl, rfl⟩⟩
theorem Sl.of_own {base : Nat} {e : TypeId} (h : w.ownsRow base e size (.slice A m c) m us) : Sl size w A m c us := by
  obtain ⟨hl, ⟨hv, hn⟩ | ⟨g, cap, cur, hv, hg, hh, h1, h2, h3, h4⟩⟩ := h
  · injection hv with e1 e2 e3
    exact ⟨hl, .inl ⟨e1, e2, e3⟩⟩
  · injection hv with e1 e2 e3
    subst e1
    refine ⟨hl, .inr ⟨_, rfl, fun j u hu => ?_⟩⟩
    have hj : j < m * size := by
      rcases Nat.lt_or_ge j (m * size) with hlt | hge
      · exact hlt
      · rw [List.getElem?_eq_none (by omega)] at hu; cases hu
    have e : w.cell? ((⟨g, 0, none⟩ : Addr).add j) = cur[j]? := by
      have : ((⟨g, 0, none⟩ : Addr).add j) = ⟨g, j, none⟩ := by unfold Addr.add; split <;> simp_all
      rw [this]
      exact cell_of_row w g j cur e (0, 0) hh
    rw [e, ← hu, ← h4, List.getElem?_take, if_pos hj, Array.getElem?_toList]
end

/-- A new row that the call has just laid. -/
theorem own_new (w : World) (e : TypeId) (size n : Nat) (cur : Array Value) (hs : cur.size = n * size) (hm : n ≤ maxLen) :
    (w.alloc (.cells cur e)).ownsRow w.heap.size e size (.slice (some ⟨w.heap.size, 0, none⟩) n n) n cur.toList :=
  ⟨by simpa using hs, .inr ⟨_, n, cur, rfl, Nat.le_refl _, heap_alloc_new w _, Nat.le_refl _, hm, hs, by rw [← hs]; exact List.take_of_length_le (by simp)⟩⟩

section
variable {P : Program}
/-- What an append onto a row of the call's own does, whatever the source. -/
theorem append_any (w : World) (base : Nat) (t ty e : TypeId) (z : Value) (size bytes : Nat) (ht : P.underlying t = some (.slice e))
    (hinfo : (P.info? e).map (fun i => (i.zero, i.size, i.bytes)) = some (some z, size, bytes)) (hzs : z.cells.size = size) (hsz : 0 < size)
    {v : Value} {n : Nat} {xs : List Value} (hown : w.ownsRow base e size v n xs)
    {A : Option Addr} {m c : Nat} {news : List Value} (hr : Sl size w A m c news) (h1 : ∀ u ∈ news, u.oneCell' = true)
    (k : Nat) (hk : n + m = k) (ys : List Value) (hys : xs ++ news = ys)
    (hm : k ≤ 9223372036854775807) (hbytes : k * bytes ≤ 140737488355328) (hbase : base ≤ w.heap.size) :
    ∃ A' c' w', (Builtin.append_ #[t, t] ty #[v, .slice A m c]).run P w = .ok (.slice A' k c') w' ∧ w'.ownsRow base e size (.slice A' k c') k ys ∧
      w.grownBy w' v.ownBlock ∧ ((Value.slice A' k c').ownBlock = v.ownBlock ∨ (Value.slice A' k c').ownBlock = some w.heap.size) := by
  subst hk
  subst hys
  obtain ⟨i, hi, hz, hsize, hby⟩ := info_parts hinfo
  obtain ⟨v', w', h2, h3, h4, h5⟩ : ∃ v' w', (Builtin.append_ #[t, t] ty #[v, .slice A m c]).run P w = .ok v' w' ∧ w'.ownsRow base e size v' (n + m) (xs ++ news) ∧ w.grownBy w' v.ownBlock ∧ (v'.ownBlock = v.ownBlock ∨ v'.ownBlock = some w.heap.size) := by
    obtain ⟨hl, ⟨rfl, rfl, rfl⟩ | ⟨ad, rfl, hc⟩⟩ := hr
    · have hn : news = [] := List.eq_nil_of_length_eq_zero (by simpa using hl)
      subst hn
      refine ⟨v, w, run_append_owned_none w base t ty e i size ht hi v n xs hown, by simpa using hown, World.grownBy.refl w _, .inl rfl⟩
    · obtain ⟨v', w', hrun, k2, k3, _, k5⟩ := run_append_own_at (P := P) w base t ty e i z size bytes ht hi hz hsize hby hzs hsz v n xs hown ad m c news hl hc h1 (by simpa [maxLen] using hm) hbytes hbase
      exact ⟨v', w', hrun, k2, k3, k5⟩
  obtain ⟨A', c', rfl⟩ : ∃ A' c', v' = .slice A' (n + m) c' := by
    rcases h3.2 with ⟨rfl, hn⟩ | ⟨g, cap, cur, rfl, _⟩
    · exact ⟨none, 0, by rw [hn]⟩
    · exact ⟨_, _, rfl⟩
  exact ⟨A', c', w', h2, h3, h4, h5⟩
end

/-- In a walk: an append whose run is known. -/
theorem wpList_append_run {P : Program} {ops : Array Oper} {rest : List Oper} {o : Oper} {a : Act} {w w' : World} {Q : Exit → Act → World → Prop} {s x : Operand} {t : TypeId} {v u v' : Value}
    (hr : (Builtin.append_ #[t, t] o.type #[v, u]).run P w = .ok v' w') (hgd : o.guard = none)
    (ho : o.op = .call { callee := .builtin .append, args := #[s, x], argTypes := #[t, t] }) (hs : a.eval s = v) (hx : a.eval x = u)
    (h : wpList P ops Q rest (a.put o.dst v') w') : wpList P ops Q (o :: rest) a w := by
  refine wpList_plain hgd fun K hK => ?_
  unfold Oper.wp execOp
  simp only [ho, resolve, invoke, builtin, Sem.run_bind, Sem.run_pure, Result.andThen_ok, List.map_toArray, List.map_cons, List.map_nil, hs, hx, hr]
  exact hK _ _ h

/-- The same, where the operation is guarded and wanted. -/
theorem wpList_append_run_on {P : Program} {ops : Array Oper} {rest : List Oper} {o : Oper} {a : Act} {w w' : World} {Q : Exit → Act → World → Prop} {s x : Operand} {t : TypeId} {v u v' : Value}
    (hr : (Builtin.append_ #[t, t] o.type #[v, u]).run P w = .ok v' w') (hgd : Region.wanted o (yielded ops a.tmps) = true)
    (ho : o.op = .call { callee := .builtin .append, args := #[s, x], argTypes := #[t, t] }) (hs : a.eval s = v) (hx : a.eval x = u)
    (h : wpList P ops Q rest (a.put o.dst v') w') : wpList P ops Q (o :: rest) a w := by
  refine wpList_step fun K hK => ?_
  rw [if_pos hgd]
  unfold Oper.wp execOp
  simp only [ho, resolve, invoke, builtin, Sem.run_bind, Sem.run_pure, Result.andThen_ok, List.map_toArray, List.map_cons, List.map_nil, hs, hx, hr]
  exact hK _ _ h

/-- Behind an append onto a row that lies at 'base' or above, what lay below 'base' is as it was. -/
theorem bel_grown {a w w' : World} {v : Value} {base : Nat} {e : TypeId} {size n : Nat} {xs : List Value} (h : Below a.heap.size a w) (hown : w.ownsRow base e size v n xs) (hbase : a.heap.size ≤ base)
    (hg : w.grownBy w' v.ownBlock) : Below a.heap.size a w' :=
  h.grown hg h.size (fun k hk => by
    rcases hown.2 with ⟨rfl, _⟩ | ⟨g, cap, cur, rfl, hgb, _⟩
    · simp [Value.ownBlock] at hk
    · simp [Value.ownBlock] at hk; omega)

def ints (k : IntKind) (xs : List Int) : List Value := xs.map (Value.int k)
theorem ints_one (k : IntKind) (xs : List Int) : ∀ u ∈ ints k xs, u.oneCell' = true := by
  intro u hu
  simp only [ints, List.mem_map] at hu
  obtain ⟨x, _, rfl⟩ := hu
  rfl

theorem sl_of_row {k : IntKind} {w : World} {a : Option Addr} {len cap : Nat} {zs : List Int} (h : IsRow k w a len cap zs) : Sl 1 w a len cap (ints k (zs.take len)) ∧ (zs.take len).length = len ∧ len ≤ 9223372036854775807 ∧ ∀ n ∈ zs.take len, (Lit.int k n).wf = true := by
  rcases h with ⟨rfl, rfl, rfl, rfl⟩ | ⟨x, rfl, hl, hm, hz, hc, hw⟩
  · exact ⟨⟨rfl, .inl ⟨rfl, rfl, rfl⟩⟩, rfl, by omega, by simp⟩
  · have hlen : (zs.take len).length = len := by rw [List.length_take]; omega
    refine ⟨⟨by simp [ints]; omega, .inr ⟨x, rfl, fun j u hu => ?_⟩⟩, hlen, by simp only [maxLen] at hm; omega, fun n hn => hw n (List.mem_of_mem_take hn)⟩
    simp only [ints, List.getElem?_map, List.getElem?_take] at hu
    by_cases hj : j < len
    · rw [if_pos hj, List.getElem?_eq_getElem (by omega)] at hu
      simp at hu
      rw [hc j (by omega), ← hu]
      simp [List.getD, show j < zs.length by omega]
    · rw [if_neg hj] at hu; cases hu
end Go.Proofs.YthdolmhnjinlhaaGreat

namespace Go.Proofs.YthdolmhnjinlhaaGreat
open Go.RowKit

/-- Block g holds just the cells cs, none of them frozen. -/
def Has (w : World) (g : Nat) (cs : Array Value) : Prop := ∃ t, w.heap[g]? = some (.cells cs t (0, 0))

section
variable {w w' : World} {g : Nat} {cs : Array Value}
theorem Has.size (h : Has w g cs) : g < w.heap.size := by
  obtain ⟨t, h⟩ := h
  rcases Nat.lt_or_ge g w.heap.size with hlt | hge
  · exact hlt
  · rw [Array.getElem?_eq_none hge] at h; cases h
theorem Has.new (w : World) (t : TypeId) (cs : Array Value) {s : Nat} (hs : w.heap.size = s) : Has (w.alloc (.cells cs t)) s cs := by
  subst hs
  exact ⟨t, heap_alloc_new w _⟩
theorem Has.alloc (h : Has w g cs) (o : Obj) : Has (w.alloc o) g cs := by
  have hl := h.size
  obtain ⟨t, h⟩ := h
  exact ⟨t, (Below.heap_alloc w o g hl).trans h⟩
theorem Has.drewN (h : Has w g cs) (n : Nat) : Has (w.drewN n) g cs := h
theorem Has.drew (h : Has w g cs) : Has w.drew g cs := h
theorem Has.below (h : Has w g cs) (hb : Below w.heap.size w w') : Has w' g cs := by
  have hl := h.size
  obtain ⟨t, h⟩ := h
  exact ⟨t, (hb.block g hl).trans h⟩
theorem Has.far (h : Has w g cs) {p : Addr} (hp : g ≠ p.block) (u : Value) : Has (w.setCell p u) g cs := by
  obtain ⟨t, h⟩ := h
  exact ⟨t, (Below.heap_setCell w p u g hp).trans h⟩
theorem Has.set (h : Has w g cs) (i : Nat) (u : Value) : Has (w.setCell ⟨g, i, none⟩ u) g (cs.setIfInBounds i u) := by
  obtain ⟨t, h⟩ := h
  exact ⟨t, by simp [World.setCell, Array.getElem?_modify, h]⟩
theorem Has.cell (h : Has w g cs) (i : Nat) {v : Value} (hv : cs[i]? = some v) : w.cell? ⟨g, i, none⟩ = some v := by
  obtain ⟨t, h⟩ := h
  rw [cell_of_row w g i cs t (0, 0) h, hv]
theorem Has.frozen (h : Has w g cs) (i : Nat) : w.frozen? ⟨g, i, none⟩ = false := by
  obtain ⟨t, h⟩ := h
  simp [World.frozen?, h]
end
/-- The facts of a block of two cells, as the walk asks them. -/
theorem Has.two {w : World} {g : Nat} {x y : Value} (h : Has w g #[x, y]) : w.cell? ⟨g, 0, none⟩ = some x ∧ w.cell? ⟨g, 1, none⟩ = some y ∧ w.frozen? ⟨g, 0, none⟩ = false ∧ w.frozen? ⟨g, 1, none⟩ = false :=
  ⟨h.cell 0 rfl, h.cell 1 rfl, h.frozen 0, h.frozen 1⟩
end Go.Proofs.YthdolmhnjinlhaaGreat

namespace Go.Proofs.YthdolmhnjinlhaaGreat
open Go.RowKit
set_option linter.unusedVariables false

def cells2 (xs : List (Int × Int)) : List Value := xs.flatMap fun x => [.int .i64 x.1, .int .i64 x.2]
theorem cells2_len : ∀ xs : List (Int × Int), (cells2 xs).length = xs.length * 2
  | [] => rfl
  | x :: xs => by
    have := cells2_len xs
    simp only [cells2, List.flatMap_cons, List.length_append, List.length_cons, List.length_nil] at this ⊢
    omega
theorem cells2_append (xs ys : List (Int × Int)) : cells2 (xs ++ ys) = cells2 xs ++ cells2 ys := by simp [cells2]
theorem cells2_cons (x : Int × Int) (xs : List (Int × Int)) : cells2 (x :: xs) = .int .i64 x.1 :: .int .i64 x.2 :: cells2 xs := rfl
theorem cells2_get : ∀ (xs : List (Int × Int)) (k : Nat), k < xs.length → (cells2 xs)[k * 2]? = some (.int .i64 (xs.getD k (0, 0)).1) ∧ (cells2 xs)[k * 2 + 1]? = some (.int .i64 (xs.getD k (0, 0)).2)
  | [], k, h => by simp at h
  | x :: xs, 0, h => ⟨rfl, rfl⟩
  | x :: xs, k + 1, h => by
    have := cells2_get xs k (by simpa using h)
    rw [show (k + 1) * 2 = k * 2 + 1 + 1 by omega, cells2_cons]
    simp only [List.getElem?_cons_succ, List.getD_cons_succ]
    exact this
theorem cells2_one (xs : List (Int × Int)) : ∀ u ∈ cells2 xs, u.oneCell' = true := by
  intro u hu
  simp only [cells2, List.mem_flatMap] at hu
  obtain ⟨x, _, hx⟩ := hu
  rcases List.mem_cons.1 hx with rfl | hx
  · rfl
  · rw [List.mem_singleton.1 hx]; rfl
theorem cells2_set : ∀ (xs : List (Int × Int)) (k : Nat) (v : Int), k < xs.length → (cells2 xs).set (k * 2 + 1) (.int .i64 v) = cells2 (xs.set k ((xs.getD k (0, 0)).1, v))
  | [], k, v, h => by simp at h
  | x :: xs, 0, v, h => rfl
  | x :: xs, k + 1, v, h => by
    have := cells2_set xs k v (by simpa using h)
    rw [show (k + 1) * 2 + 1 = (k * 2 + 1) + 1 + 1 by omega, cells2_cons, List.set_cons_succ, List.set_cons_succ, this]
    rfl

/-- A number of 64 bits. -/
def Fit (n : Int) : Prop := -9223372036854775808 ≤ n ∧ n ≤ 9223372036854775807
def Fits (xs : List (Int × Int)) : Prop := ∀ x ∈ xs, Fit x.1 ∧ Fit x.2
theorem Fits.of_plain {xs : List (Int × Int)} (h : PlainFrom 0 xs) : Fits xs := fun x hx => by
  have := (plain_pairs.1 h).1 x hx
  exact ⟨⟨by omega, by omega⟩, ⟨by omega, by omega⟩⟩
theorem Fits.canon (p : Int → Prop) : Fits (canon p) := .of_plain (canon_plain p)
theorem Fits.append {xs ys : List (Int × Int)} (h : Fits xs) (k : Fits ys) : Fits (xs ++ ys) := fun x hx => (List.mem_append.1 hx).elim (h x) (k x)
theorem Fits.at {xs : List (Int × Int)} (h : Fits xs) {k : Nat} (hk : k < xs.length) : Fit (xs.getD k (0, 0)).1 ∧ Fit (xs.getD k (0, 0)).2 := h _ (by simp [List.getD, hk])
theorem Fits.nil : Fits [] := fun x hx => by cases hx

/-- A slice value over A reads as the spans xs. -/
def Spans (w : World) (A : Option Addr) (xs : List (Int × Int)) : Prop :=
  Fits xs ∧ ∀ k, k < xs.length → ∃ b off, A = some ⟨b, off, none⟩ ∧ b < w.heap.size ∧ w.cell? ⟨b, off + k * 2, none⟩ = some (.int .i64 (xs.getD k (0, 0)).1) ∧ w.cell? ⟨b, off + k * 2 + 1, none⟩ = some (.int .i64 (xs.getD k (0, 0)).2)
theorem Spans.below {w w' : World} {A : Option Addr} {xs : List (Int × Int)} (h : Spans w A xs) (hb : Below w.heap.size w w') : Spans w' A xs := by
  refine ⟨h.1, fun k hk => ?_⟩
  obtain ⟨b, off, e, h0, h1, h2⟩ := h.2 k hk
  exact ⟨b, off, e, Nat.lt_of_lt_of_le h0 hb.size, (hb.cell h0).trans h1, (hb.cell h0).trans h2⟩
theorem Spans.alloc {w : World} {A : Option Addr} {xs : List (Int × Int)} (h : Spans w A xs) (o : Obj) : Spans (w.alloc o) A xs := h.below ((Below.refl _ _).alloc (Nat.le_refl _) o)
theorem Spans.drewN {w : World} {A : Option Addr} {xs : List (Int × Int)} (h : Spans w A xs) (n : Nat) : Spans (w.drewN n) A xs := h.below (below_drewN (Below.refl _ _) n)
theorem Spans.drew {w : World} {A : Option Addr} {xs : List (Int × Int)} (h : Spans w A xs) : Spans w.drew A xs := h.below (below_drew (Below.refl _ _))
theorem Spans.nil (w : World) (A : Option Addr) : Spans w A [] := ⟨Fits.nil, fun k hk => by simp at hk⟩
theorem add_none {b off n : Nat} : (⟨b, off, none⟩ : Addr).add n = ⟨b, off + n, none⟩ := by unfold Addr.add; split <;> simp_all
theorem Spans.sl {w : World} {A : Option Addr} {xs : List (Int × Int)} {c : Nat} (h : Spans w A xs) (hc : A = none → c = 0) : Sl 2 w A xs.length c (cells2 xs) := by
  by_cases hne : xs = []
  · subst hne
    cases A with
    | none => exact ⟨rfl, .inl ⟨rfl, rfl, hc rfl⟩⟩
    | some ad => exact ⟨rfl, .inr ⟨ad, rfl, fun j u hu => by simp [cells2] at hu⟩⟩
  have hl : 0 < xs.length := List.length_pos_iff.2 hne
  obtain ⟨b, off, rfl, _⟩ := h.2 0 hl
  refine ⟨cells2_len xs, .inr ⟨_, rfl, fun j u hu => ?_⟩⟩
  have hj : j < xs.length * 2 := by
    rcases Nat.lt_or_ge j (xs.length * 2) with q | q
    · exact q
    · rw [List.getElem?_eq_none (by rw [cells2_len]; exact q)] at hu; cases hu
  obtain ⟨b', off', e, _, h1, h2⟩ := h.2 (j / 2) (by omega)
  obtain ⟨g1, g2⟩ := cells2_get xs (j / 2) (by omega)
  simp only [Option.some.injEq, Addr.mk.injEq, and_true] at e
  obtain ⟨rfl, rfl⟩ := e
  rw [add_none]
  rcases Nat.mod_two_eq_zero_or_one j with m | m
  · rw [show j / 2 * 2 = j by omega] at g1 h1
    rw [h1, ← hu, g1]
  · rw [show j / 2 * 2 + 1 = j by omega] at g2
    rw [Nat.add_assoc, show j / 2 * 2 + 1 = j by omega] at h2
    rw [h2, ← hu, g2]

/-- A slice of the call's own, that lies at 'base' or behind, and holds the spans xs. -/
def Row (w : World) (base : Nat) (A : Option Addr) (c : Nat) (xs : List (Int × Int)) : Prop :=
  w.ownsRow base 42 2 (.slice A xs.length c) xs.length (cells2 xs)
section
variable {w w' : World} {base c : Nat} {A : Option Addr} {xs : List (Int × Int)}
theorem Row.nil (w : World) (base : Nat) : Row w base none 0 [] := World.ownsRow_nil w base _ _
theorem Row.keep (h : Row w base A c xs) (hk : ∀ g, A = some g → w'.heap[g.block]? = w.heap[g.block]?) : Row w' base A c xs := by
  obtain ⟨hl, hn | ⟨g, cap, cur, hv, hg, hh, rest⟩⟩ := h
  · exact ⟨hl, .inl hn⟩
  · injection hv with e1 e2 e3
    subst e1
    exact ⟨hl, .inr ⟨g, cap, cur, by rw [e3], hg, (hk _ rfl).trans hh, rest⟩⟩
theorem Row.lt (h : Row w base A c xs) : ∀ g, A = some g → base ≤ g.block ∧ g.block < w.heap.size := by
  rintro g rfl
  exact World.ownsRow.lt h _ rfl
theorem Row.below (h : Row w base A c xs) (hb : Below w.heap.size w w') : Row w' base A c xs :=
  h.keep fun g hg => hb.block _ (h.lt g hg).2
theorem Row.alloc (h : Row w base A c xs) (o : Obj) : Row (w.alloc o) base A c xs := World.ownsRow.alloc h o
theorem Row.drewN (h : Row w base A c xs) (n : Nat) : Row (w.drewN n) base A c xs := h
theorem Row.drew (h : Row w base A c xs) : Row w.drew base A c xs := h
theorem Row.mono (h : Row w base A c xs) {b : Nat} (hb : b ≤ base) : Row w b A c xs := by
  obtain ⟨hl, hn | ⟨g, cap, cur, hv, hg, rest⟩⟩ := h
  · exact ⟨hl, .inl hn⟩
  · exact ⟨hl, .inr ⟨g, cap, cur, hv, by omega, rest⟩⟩
theorem Row.far (h : Row w base A c xs) {p : Addr} (hp : ∀ g, A = some g → g.block ≠ p.block) (u : Value) : Row (w.setCell p u) base A c xs :=
  h.keep fun g hg => Below.heap_setCell w p u _ (hp g hg)
theorem Row.form (h : Row w base A c xs) (hn : xs ≠ []) : ∃ g, A = some ⟨g, 0, none⟩ := by
  obtain ⟨hl, ⟨hv, hz⟩ | ⟨g, cap, cur, hv, _⟩⟩ := h
  · exact absurd (List.eq_nil_of_length_eq_zero hz) hn
  · injection hv with e1; exact ⟨g, e1⟩
theorem Row.forms (h : Row w base A c xs) : (A = none ∧ xs = [] ∧ c = 0) ∨ ∃ g, A = some ⟨g, 0, none⟩ ∧ base ≤ g ∧ g < w.heap.size ∧ xs.length ≤ c ∧ c ≤ maxLen := by
  have hlt := h.lt
  obtain ⟨hl, ⟨hv, hz⟩ | ⟨g, cap, cur, hv, hb, hh, hc, hm, _⟩⟩ := h
  · injection hv with e1 e2 e3
    exact .inl ⟨e1, List.eq_nil_of_length_eq_zero hz, e3⟩
  · injection hv with e1 e2 e3
    subst e1 e3
    exact .inr ⟨g, rfl, hb, (hlt _ rfl).2, hc, hm⟩
theorem Row.cellAt {g : Nat} (h : Row w base (some ⟨g, 0, none⟩) c xs) {k : Nat} (hk : k < xs.length) : w.cell? ⟨g, k * 2, none⟩ = some (.int .i64 (xs.getD k (0, 0)).1) ∧ w.cell? ⟨g, k * 2 + 1, none⟩ = some (.int .i64 (xs.getD k (0, 0)).2) := by
  obtain ⟨g1, g2⟩ := cells2_get xs k hk
  exact ⟨(World.ownsRow.cellAt h (k * 2) (by omega)).trans g1, (World.ownsRow.cellAt h (k * 2 + 1) (by omega)).trans g2⟩
theorem Row.frozenAt {g : Nat} (h : Row w base (some ⟨g, 0, none⟩) c xs) (j : Nat) : w.frozen? ⟨g, j, none⟩ = false := World.ownsRow.frozenAt h j
theorem Row.spans (h : Row w base A c xs) (hf : Fits xs) : Spans w A xs := by
  refine ⟨hf, fun k hk => ?_⟩
  rcases h.forms with ⟨_, rfl, _⟩ | ⟨g, rfl, _, hlt, _⟩
  · simp at hk
  · obtain ⟨h1, h2⟩ := h.cellAt hk
    exact ⟨g, 0, rfl, hlt, by simpa using h1, by simpa using h2⟩
theorem Row.set {g : Nat} (h : Row w base (some ⟨g, 0, none⟩) c xs) {k : Nat} (hk : k < xs.length) (v : Int) : Row (w.setCell ⟨g, k * 2 + 1, none⟩ (.int .i64 v)) base (some ⟨g, 0, none⟩) c (xs.set k ((xs.getD k (0, 0)).1, v)) := by
  have := (World.ownsRow.stored h (k * 2 + 1) (.int .i64 v)).1
  rw [cells2_set xs k v hk] at this
  unfold Row
  rw [List.length_set]
  exact this
/-- The first m of them. -/
theorem Row.take {g : Nat} (h : Row w base (some ⟨g, 0, none⟩) c xs) {m : Nat} (hm : m ≤ xs.length) : Row w base (some ⟨g, 0, none⟩) c (xs.take m) := by
  obtain ⟨hl, ⟨hv, hz⟩ | ⟨g', cap, cur, hv, hb, hh, hc, hx, hs, ht⟩⟩ := h
  · cases hv
  · injection hv with e1 e2 e3
    simp only [Option.some.injEq, Addr.mk.injEq, and_true] at e1
    subst e1 e3
    have e : (xs.take m).length = m := by rw [List.length_take]; omega
    refine ⟨cells2_len _, .inr ⟨g, c, cur, rfl, hb, hh, by omega, hx, hs, ?_⟩⟩
    rw [e]
    have e2 : cells2 (xs.take m) = (cells2 xs).take (m * 2) := by
      have e4 : cells2 xs = cells2 (xs.take m) ++ cells2 (xs.drop m) := by rw [← cells2_append, List.take_append_drop]
      rw [e4, List.take_append_of_le_length (by rw [cells2_len, e]; omega)]
      exact (List.take_of_length_le (by rw [cells2_len, e]; omega)).symm
    rw [e2, ← ht, List.take_take]
    congr 1
    omega
end

theorem span_info : (Tryz.prog.info? 42).map (fun i => (i.zero, i.size, i.bytes)) = some (some (.agg #[.int .i64 0, .int .i64 0]), 2, 16) := by kernel_rfl

/-- An append of what a slice holds. -/
theorem row_append {w : World} {base c : Nat} {A : Option Addr} {xs : List (Int × Int)} (h : Row w base A c xs) {B : Option Addr} {d : Nat} {ys : List (Int × Int)} (hs : Sl 2 w B ys.length d (cells2 ys)) (hn : xs.length + ys.length ≤ 1000000000) (hbase : base ≤ w.heap.size) :
    ∃ A' c' w', (Builtin.append_ #[31, 31] 31 #[.slice A xs.length c, .slice B ys.length d]).run Tryz.prog w = .ok (.slice A' (xs.length + ys.length) c') w' ∧ Row w' base A' c' (xs ++ ys) ∧
      (∀ a : World, a.heap.size ≤ base → Below a.heap.size a w → Below a.heap.size a w') ∧ w.grownBy w' (Value.slice A xs.length c).ownBlock ∧ ((Value.slice A' (xs.length + ys.length) c').ownBlock = (Value.slice A xs.length c).ownBlock ∨ (Value.slice A' (xs.length + ys.length) c').ownBlock = some w.heap.size) := by
  obtain ⟨A', c', w', hr, ho, hg, hl⟩ := append_any (P := Tryz.prog) w base 31 31 42 _ 2 16 Tryz.underlying31 span_info rfl (by omega) h hs (cells2_one ys) (xs.length + ys.length) rfl (cells2 (xs ++ ys)) (cells2_append xs ys).symm (by omega) (by omega) hbase
  refine ⟨A', c', w', hr, ?_, fun a ha hb => bel_grown hb h ha hg, hg, hl⟩
  unfold Row
  rw [List.length_append]
  exact ho

/-- A new slice of one span, made for an append. -/
theorem sl_one (w : World) (t : TypeId) (x : Int × Int) {s : Nat} (hs : w.heap.size = s) : Sl 2 (w.alloc (.cells #[.int .i64 x.1, .int .i64 x.2] t)) (some ⟨s, 0, none⟩) [x].length 1 (cells2 [x]) := by
  subst hs
  refine ⟨rfl, .inr ⟨_, rfl, fun j u hu => ?_⟩⟩
  rw [add_none, Nat.zero_add, cell_of_row _ _ _ _ t (0, 0) (heap_alloc_new w _)]
  simpa [cells2] using hu
theorem row_push {w : World} {base c : Nat} {A : Option Addr} {xs : List (Int × Int)} (h : Row w base A c xs) (a b : Int) (hn : xs.length < 1000000000) (hbase : base ≤ w.heap.size) {s : Nat} (hs : w.heap.size = s) :
    ∃ A' c' w', (Builtin.append_ #[31, 31] 31 #[.slice A xs.length c, .slice (some ⟨s, 0, none⟩) 1 1]).run Tryz.prog (w.alloc (.cells #[.int .i64 a, .int .i64 b] 42)) = .ok (.slice A' (xs.length + 1) c') w' ∧ Row w' base A' c' (xs ++ [(a, b)]) ∧
      (∀ v : World, v.heap.size ≤ base → Below v.heap.size v w → Below v.heap.size v w') ∧ w.heap.size ≤ w'.heap.size ∧ (w.alloc (.cells #[.int .i64 a, .int .i64 b] 42)).grownBy w' (Value.slice A xs.length c).ownBlock ∧ ((Value.slice A' (xs.length + 1) c').ownBlock = (Value.slice A xs.length c).ownBlock ∨ (Value.slice A' (xs.length + 1) c').ownBlock = some (w.heap.size + 1)) := by
  obtain ⟨A', c', w', h1, h2, h3, h4, h5⟩ := row_append (h.alloc (.cells #[.int .i64 a, .int .i64 b] 42)) (ys := [(a, b)]) (sl_one w 42 (a, b) hs) (by simp; omega) (by simp; omega)
  exact ⟨A', c', w', h1, h2, fun v hv hb => h3 v hv (hb.alloc hb.size _), by have := h4.size; simp at this; omega, h4, by simpa using h5⟩

/-- What a call that tells spans answers: a slice of its own. -/
def Gives (w : World) (xs : List (Int × Int)) (e : Ending) (w' : World) : Prop := ∃ A c, e = .returned (.slice A xs.length c) ∧ Row w' w.heap.size A c xs ∧ Below w.heap.size w w'
theorem gives_of {w w' : World} {xs ys : List (Int × Int)} {A : Option Addr} {c n : Nat} (h : Row w' w.heap.size A c ys) (e : ys = xs) (hn : n = ys.length) (hb : Below w.heap.size w w') : Gives w xs (.returned (.slice A n c)) w' := by
  subst e; subst hn; exact ⟨A, c, rfl, h, hb⟩

/-- A literal slice of spans. -/
theorem spans_new (w : World) (xs : List (Int × Int)) (t : TypeId) (cs : Array Value) (hcs : cs = (cells2 xs).toArray) (hf : Fits xs) {s : Nat} (hs : w.heap.size = s) : Spans (w.alloc (.cells cs t)) (some ⟨s, 0, none⟩) xs := by
  subst hs
  refine ⟨hf, fun k hk => ?_⟩
  have e : ∀ j, (w.alloc (.cells cs t)).cell? ⟨w.heap.size, j, none⟩ = cs[j]? := fun j => cell_of_row _ _ _ _ t (0, 0) (heap_alloc_new w _)
  obtain ⟨g1, g2⟩ := cells2_get xs k hk
  refine ⟨_, _, rfl, by simp, ?_, ?_⟩
  · rw [Nat.zero_add, e, hcs]; simpa using g1
  · rw [Nat.zero_add, e, hcs]; simpa using g2
end Go.Proofs.YthdolmhnjinlhaaGreat

namespace Go.Proofs.YthdolmhnjinlhaaGreat
open Go.RowKit
set_option linter.unusedVariables false

/-- A slice value over A reads as the bytes l. -/
def Byts (w : World) (A : Option Addr) (l : List (BitVec 8)) : Prop :=
  ∀ k, k < l.length → ∃ b off, A = some ⟨b, off, none⟩ ∧ w.cell? ⟨b, off + k, none⟩ = some (v8 (l.getD k 0#8))
/-- A slice value over A reads as the slices of bytes ps. -/
def Parts (w : World) (A : Option Addr) (ps : List (List (BitVec 8))) : Prop :=
  ∀ k, k < ps.length → ∃ g B c, A = some ⟨g, 0, none⟩ ∧ w.cell? ⟨g, k, none⟩ = some (.slice B (ps.getD k []).length c) ∧ Byts w B (ps.getD k []) ∧ (ps.getD k []).length ≤ 9223372036854775807

section
variable {w w' : World} {A : Option Addr} {l : List (BitVec 8)} {ps : List (List (BitVec 8))}
theorem Byts.keep (h : Byts w A l) (hk : ∀ p : Addr, p.block < w.heap.size → w'.cell? p = w.cell? p) : Byts w' A l := by
  intro k hl
  obtain ⟨b, off, e, hc⟩ := h k hl
  exact ⟨b, off, e, (hk _ (cell_lt hc)).trans hc⟩
theorem Byts.below (h : Byts w A l) (hb : Below w.heap.size w w') : Byts w' A l := h.keep fun _ hp => hb.cell hp
theorem Byts.alloc (h : Byts w A l) (o : Obj) : Byts (w.alloc o) A l := h.keep fun p hp => World.cell?_alloc_lt w o p hp
theorem Byts.drew (h : Byts w A l) : Byts w.drew A l := h
theorem Byts.drewN (h : Byts w A l) (n : Nat) : Byts (w.drewN n) A l := h
theorem Byts.nil_ : Byts w A [] := fun k h => by simp at h
theorem Byts.take (h : Byts w A l) (n : Nat) : Byts w A (l.take n) := by
  intro k hk
  rw [List.length_take] at hk
  obtain ⟨b, off, e, hc⟩ := h k (by omega)
  refine ⟨b, off, e, ?_⟩
  rw [hc, List.getD_eq_getElem?_getD, List.getD_eq_getElem?_getD, List.getElem?_take, if_pos (by omega)]
theorem Parts.keep (h : Parts w A ps) (hk : ∀ p : Addr, p.block < w.heap.size → w'.cell? p = w.cell? p) : Parts w' A ps := by
  intro k hl
  obtain ⟨g, B, c, e, hc, hB, hm⟩ := h k hl
  exact ⟨g, B, c, e, (hk _ (cell_lt hc)).trans hc, hB.keep hk, hm⟩
theorem Parts.below (h : Parts w A ps) (hb : Below w.heap.size w w') : Parts w' A ps := h.keep fun _ hp => hb.cell hp
theorem Parts.alloc (h : Parts w A ps) (o : Obj) : Parts (w.alloc o) A ps := h.keep fun p hp => World.cell?_alloc_lt w o p hp
theorem Parts.drew (h : Parts w A ps) : Parts w.drew A ps := h
theorem Parts.nil_ : Parts w A [] := fun k h => by simp at h
end

/-- A slot that holds a slice of slices of bytes. -/
def PartsV (v : Value) (n : Nat) (ps : List (List (BitVec 8))) (w : World) : Prop := ∃ A c, v = .slice A n c ∧ Parts w A ps
theorem PartsV.below {v : Value} {n : Nat} {ps : List (List (BitVec 8))} {w w' : World} (h : PartsV v n ps w) (hb : Below w.heap.size w w') : PartsV v n ps w' := by
  obtain ⟨A, c, e, hp⟩ := h
  exact ⟨A, c, e, hp.below hb⟩
end Go.Proofs.YthdolmhnjinlhaaGreat
