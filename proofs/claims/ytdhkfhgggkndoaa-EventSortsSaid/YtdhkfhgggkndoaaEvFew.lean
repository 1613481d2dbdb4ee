/-
  Few lists' members; event.Put and event.Take, each in one form; setups' cells as they are asked here.
-/
import Derived.Test.YtdhkfhgggkndoaaEvAwake
import Derived.Test.YtdhkfhgggkndoaaTab
namespace Go.Proofs.Ytdhkfhgggkndoaa
open Go.RowKit
set_option linter.unusedVariables false
set_option linter.unusedSimpArgs false
set_option maxRecDepth 20000

def mxE (x y : Int) : Int := if y > x then y else x
theorem run_max6E {P : Program} {w : World} (ts : Array TypeId) (t : TypeId) (a b c d e f : Int) : (Builtin.max_ ts t #[.int .i64 a, .int .i64 b, .int .i64 c, .int .i64 d, .int .i64 e, .int .i64 f]).run P w = .ok (.int .i64 (mxE (mxE (mxE (mxE (mxE a b) c) d) e) f)) w := by
  simp [Builtin.max_, Builtin.max2, mxE]
theorem wpList_max6E {P : Program} {ops : Array Oper} {rest : List Oper} {o : Oper} {a : Act} {w : World} {Q : Exit → Act → World → Prop} {x1 x2 x3 x4 x5 x6 : Operand} {ts : Array TypeId} (n1 n2 n3 n4 n5 n6 : Int) (hgd : o.guard = none)
    (ho : o.op = .call { callee := .builtin .max, args := #[x1, x2, x3, x4, x5, x6], argTypes := ts }) (h1 : a.eval x1 = .int .i64 n1) (h2 : a.eval x2 = .int .i64 n2) (h3 : a.eval x3 = .int .i64 n3) (h4 : a.eval x4 = .int .i64 n4) (h5 : a.eval x5 = .int .i64 n5) (h6 : a.eval x6 = .int .i64 n6)
    (m : Int) (hm : mxE (mxE (mxE (mxE (mxE n1 n2) n3) n4) n5) n6 = m)
    (h : wpList P ops Q rest (a.put o.dst (.int .i64 m)) w) : wpList P ops Q (o :: rest) a w := by
  refine wpList_plain hgd fun K hK => ?_
  unfold Oper.wp execOp
  simp only [ho, resolve, invoke, builtin, Sem.run_bind, Sem.run_pure, Result.andThen_ok, List.map_toArray, List.map_cons, List.map_nil, h1, h2, h3, h4, h5, h6, run_max6E, hm]
  exact hK _ _ h
/-- What these laws ask of a setup's cells. -/
structure SetQ (cs : Array Value) (pl : Int) (nE nC nG nR : Nat) : Prop extends SetS cs pl nE nC nG nR where
  c1 : ∃ A n c, cs[1]? = some (.slice A n c)
  c22 : ∃ A n c, cs[22]? = some (.slice A n c)
theorem setQ_of (s : SetP) (A1 A2 A3 A4 A5 A6 : Option Addr) (c1 c2 c3 c4 c5 c6 : Nat) : ∃ cs, setV s A1 A2 A3 A4 A5 A6 c1 c2 c3 c4 c5 c6 = .agg cs ∧ SetQ cs s.places s.elements.length s.classes.length s.gears.length s.rates.length :=
  ⟨_, rfl, ⟨⟨rfl, by simp [Value.oneCell'], rfl, ⟨_, _, rfl⟩, ⟨_, _, rfl⟩, ⟨_, _, rfl⟩, ⟨_, _, rfl⟩⟩, ⟨_, _, _, rfl⟩, ⟨_, _, _, rfl⟩⟩⟩
def SomeBool (W : World) (e : Ending) (w : World) : Prop := ∃ b, e = .returned (.bool b) ∧ Below W.heap.size W w
set_option maxHeartbeats 1000000 in
theorem few_q {cs : Array Value} {pl : Int} {nE nC nG nR : Nat} (h : SetQ cs pl nE nC nG nR) (W : World) : Calls Try.prog 7 #[.agg cs] W (SomeBool W) := by
  obtain ⟨A1, n1, c1, h1⟩ := h.c1
  obtain ⟨A4, c4, h4⟩ := h.c4
  obtain ⟨A5, c5, h5⟩ := h.c5
  obtain ⟨A6, c6, h6⟩ := h.c6
  obtain ⟨A18, c18, h18⟩ := h.c18
  obtain ⟨A22, n22, c22, h22⟩ := h.c22
  have HO := Lib.hid h.one
  have HZ := Lib.hid h.size
  obtain ⟨m, hm⟩ : ∃ m, mxE (mxE (mxE (mxE (mxE n1 nE) nC) nG) nR) n22 = m := ⟨_, rfl⟩
  have HM := Lib.hid hm
  clear h hm
  go_enter Try.func7, Try.ntmps7
  go_wp2_with (refine wpList_max6E _ _ _ _ _ _ rfl rfl rfl rfl rfl rfl rfl rfl m HM.out ?_)
  go_ret
  exact ⟨_, rfl, by (repeat' (first | with_reducible exact Below.refl _ _ | with_reducible assumption | with_reducible refine bel_alloc ?_ _ | with_reducible refine bel_set ?_ ?_ _ | with_reducible refine below_drewN ?_ _ | with_reducible refine below_drew ?_ | (simp; done) | (simp; omega) | omega))⟩
theorem few8 {cs : Array Value} {pl : Int} {nE nC nG nR : Nat} (h : SetQ cs pl nE nC nG nR) (W : World) : Calls Try.prog 16 #[.agg cs] W (SomeBool W) := by
  have HF := Lib.hid (fun W => few_q h W)
  have HZ := Lib.hid h.size
  clear h
  go_enter Try.func16, Try.ntmps16
  go_wp2_with (refine wpList_load_s (by rfl) _ rfl W.heap.size rfl cs (Has.new W _ cs rfl) HZ.out ?_)
  refine (HF.out _).mono ?_
  rintro e w1 ⟨b, rfl, hb⟩
  go_wp2
  go_ret
  exact ⟨b, rfl, bel_new (Below.refl _ _) (by simpa using hb)⟩
/-! ### Put and Take, whatever they answer -/
open Classical in
noncomputable def putR8 (xs : List (BitVec 8)) (e : EvP) : List (BitVec 8) × Int := if e.Fair then (xs ++ e.bytes, 0) else ([], 80)
noncomputable def takeR8 (b : List (BitVec 8)) : EvP × List (BitVec 8) × Int := match takeE b with
  | none => (EvP.none, [], 80)
  | some x => (x.1, x.2, 0)
theorem put_un8 (A0 : Option Addr) (m0 c0 : Nat) (xs : List (BitVec 8)) (e : EvP) (ca : Array Value) (hca : evC e = ca) (hi : e.In) (hm : m0 ≤ 100000000000) (X : List (BitVec 8)) (E : Int) (n : Nat) (hX : putR8 xs e = (X, E)) (hn : X.length = n) (W : World) (hx : Sl 1 W A0 m0 c0 (bytesV xs)) :
    Calls Try.prog 17 #[.slice A0 m0 c0, .agg ca] W fun r w' => ∃ A' c', r = .returned (.tuple #[.slice A' n c', .int .i64 E]) ∧ Sl 1 w' A' n c' (bytesV X) ∧ n ≤ c' ∧ Below W.heap.size W w' := by
  subst hca
  unfold putR8 at hX
  by_cases hf : e.Fair
  · rw [if_pos hf] at hX
    injection hX with h1 h2
    subst h2
    have hl := hx.blen
    refine (putE_ok_n A0 m0 c0 n xs e W hf hx hm (by rw [← hn, ← h1, List.length_append, hl])).mono ?_
    rintro r w' ⟨A', c', h3, h4, h5⟩
    rw [h1] at h4
    exact ⟨A', c', h3, h4.slAt hn, h4.cap_le hn, h5⟩
  · rw [if_neg hf] at hX
    injection hX with h1 h2
    subst h1 h2 hn
    refine (putE_bad A0 m0 c0 e W hi hf).mono ?_
    rintro r w' ⟨h3, h5⟩
    exact ⟨none, 0, h3, Sl.nil_, Nat.le_refl _, h5⟩
theorem take_un8 (A : Option Addr) (n c : Nat) (b : List (BitVec 8)) (hmc : n ≤ c) (hm : n ≤ 1000000) (X : EvP) (cx : Array Value) (R : List (BitVec 8)) (E : Int) (m : Nat) (hX : takeR8 b = (X, R, E)) (hcx : evC X = cx) (hR : R.length = m) (W : World) (hx : Sl 1 W A n c (bytesV b)) :
    Calls Try.prog 19 #[.slice A n c] W fun r w' => ∃ A' c', r = .returned (.tuple #[.agg cx, .slice A' m c', .int .i64 E]) ∧ Sl 1 w' A' m c' (bytesV R) ∧ Below W.heap.size W w' := by
  subst hcx
  unfold takeR8 at hX
  cases ht : takeE b with
  | none =>
    rw [ht] at hX
    injection hX with h1 h2
    injection h2 with h2 h3
    subst h1 h2 h3 hR
    refine (takeE_bad_n A c n b W hx hmc hm ht).mono ?_
    rintro r w' ⟨h4, h5⟩
    exact ⟨none, 0, h4, Sl.nil_, h5⟩
  | some x =>
    obtain ⟨e, r2⟩ := x
    rw [ht] at hX
    injection hX with h1 h2
    injection h2 with h2 h3
    subst h1 h2 h3
    refine (takeE_ok_n A c n m b W hx hmc hm e r2 ht hR).mono ?_
    rintro r w' ⟨A', c', h4, h5, h6⟩
    exact ⟨A', c', h4, h5.slAt hR, h6⟩
theorem txt_append_e (x y : List (BitVec 8)) : txtB x ++ txtB y = txtB (x ++ y) := by
  apply ByteArray.ext
  rw [ByteArray.data_append, txtB, txtB, txtB]
  apply Array.toList_inj.1
  rw [Array.toList_append, strOfNums_data, strOfNums_data, strOfNums_data]
  simp
theorem txt_size_e (x : List (BitVec 8)) : (txtB x).size = x.length := by
  have h := congrArg List.length (txt_list x)
  rw [ByteArray.toList_eq, List.length_map, Array.length_toList] at h
  exact h
theorem txt_same_e (l : List (BitVec 8)) : ((txtB l).toList == (txtB l).toList) = true := by rw [txt_eq]; simp
theorem z_cells {w : World} {g : Nat} (h : Has w g (evC EvP.none)) : w.cell? ⟨g, 0, none⟩ = some (.int .i64 0) ∧ w.cell? ⟨g, 1, none⟩ = some (.int .i64 0) ∧ w.cell? ⟨g, 2, none⟩ = some (.int .i64 0) ∧ w.cell? ⟨g, 3, none⟩ = some (.int .i64 0) ∧ w.cell? ⟨g, 4, none⟩ = some (.int .i64 0) ∧ w.cell? ⟨g, 5, none⟩ = some (.int .i64 0) ∧ w.cell? ⟨g, 6, none⟩ = some (.int .i64 0) ∧ w.cell? ⟨g, 7, none⟩ = some (.int .i64 0) ∧ w.cell? ⟨g, 8, none⟩ = some (.int .i64 0) ∧ w.cell? ⟨g, 9, none⟩ = some (.int .i64 0) ∧ w.cell? ⟨g, 10, none⟩ = some (.int .i64 0) :=
  ⟨h.cell 0 rfl, h.cell 1 rfl, h.cell 2 rfl, h.cell 3 rfl, h.cell 4 rfl, h.cell 5 rfl, h.cell 6 rfl, h.cell 7 rfl, h.cell 8 rfl, h.cell 9 rfl, h.cell 10 rfl⟩
theorem run_seq_e (s : ByteArray) (w : World) : (binOp .eql 9 (.string s) (.string s)).run Try.prog w = .ok (.bool true) w := by
  have ts : (s.toList == s.toList) = true := by simp
  go_simp
theorem run_add_e (s1 s2 s : ByteArray) (hs : s1 ++ s2 = s) (h1 : s1.size ≤ 3000) (h2 : s2.size ≤ 3000) (w : World) : (binOp .add 9 (.string s1) (.string s2)).run Try.prog w = .ok (.string s) w := by
  subst hs
  go_simp
  omega
/-- Two appends, one behind the other, onto an empty new slice. -/
theorem two_append {w3 : World} {A1 B : Option Addr} {n1 c1 m c : Nat} {x b : List (BitVec 8)} (hA : Sl 1 w3 A1 n1 c1 (bytesV x)) (hB : Sl 1 w3 B m c (bytesV b)) (hn : n1 ≤ 1000000) (hm : m ≤ 1000000) {s : Nat} (hs : w3.heap.size = s) {n3 : Nat} (hn3 : n1 + m = n3) :
    ∃ A2 c2 w4 A3 c3 w5, (Builtin.append_ #[31, 31] 31 #[.slice (some ⟨s, 0, none⟩) 0 0, .slice A1 n1 c1]).run Try.prog (w3.alloc (.cells #[] 5)) = .ok (.slice A2 n1 c2) w4 ∧
      (Builtin.append_ #[31, 31] 31 #[.slice A2 n1 c2, .slice B m c]).run Try.prog w4 = .ok (.slice A3 n3 c3) w5 ∧ Sl 1 w5 A3 n3 c3 (bytesV (x ++ b)) ∧ n3 ≤ c3 ∧ Below w3.heap.size w3 w5 := by
  obtain rfl : x.length = n1 := hA.blen
  obtain rfl : b.length = m := hB.blen
  subst hn3 hs
  have h0 : BRow (w3.alloc (.cells #[] 5)) w3.heap.size (some ⟨w3.heap.size, 0, none⟩) 0 [] := own_new w3 5 1 0 #[] rfl (by decide)
  obtain ⟨A2, c2, w4, hr4, hrow4, hbel4, _, _⟩ := brow_append h0 (hA.alloc _) (by simp; omega) (by simp)
  rw [List.nil_append] at hrow4
  simp only [List.length_nil, Nat.zero_add] at hr4
  have hb4 := hbel4 w3 (Nat.le_refl _) (bel_alloc (Below.refl _ _) _)
  obtain ⟨A3, c3, w5, hr5, hrow5, hbel5, _, _⟩ := brow_append hrow4 (hB.below hb4) (by omega) hb4.size
  exact ⟨A2, c2, w4, A3, c3, w5, hr4, hr5, hrow5.slAt (by rw [List.length_append]), hrow5.cap_le (by rw [List.length_append]), hbel5 w3 (Nat.le_refl _) hb4⟩
end Go.Proofs.Ytdhkfhgggkndoaa
