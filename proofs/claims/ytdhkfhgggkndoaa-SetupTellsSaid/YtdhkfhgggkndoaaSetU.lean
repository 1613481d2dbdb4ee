/-
  Package setup: lists, where they are read.
-/
import Derived.Test.YtdhkfhgggkndoaaSetT
import Derived.Deep.OwnRows
namespace Go.Proofs.Ytdhkfhgggkndoaa
open Go.RowKit
set_option linter.unusedVariables false
set_option linter.unusedSimpArgs false
set_option maxRecDepth 20000

def natsI (ns : List Nat) : List Int := ns.map (fun n : Nat => (n : Int))
/-- Rows of k numbers, one behind the other. -/
def rdRows (k : Nat) : Nat → List (BitVec 8) → Rows2 × List (BitVec 8)
  | 0, l => ([], l)
  | n + 1, l => ((rdRows k n l).1 ++ [natsI (rdk k (rdRows k n l).2).1], (rdk k (rdRows k n l).2).2)
/-- A list: how many rows, and the rows. -/
def rdL (k : Nat) (l : List (BitVec 8)) : Rows2 × List (BitVec 8) := if 64 < (rd1 l).1 then ([], (rd1 l).2) else rdRows k (rd1 l).1 (rd1 l).2
theorem rdRows_len (k n : Nat) (l : List (BitVec 8)) : (rdRows k n l).1.length = n ∧ (rdRows k n l).2.length ≤ l.length ∧ (∀ r ∈ (rdRows k n l).1, r.length = k) := by
  induction n with
  | zero => exact ⟨rfl, Nat.le_refl _, by simp [rdRows]⟩
  | succ n ih =>
    have h := rdk_len k (rdRows k n l).2
    refine ⟨by simp [rdRows, ih.1], ?_, ?_⟩
    · simp only [rdRows]; omega
    · intro r hr
      simp only [rdRows, List.mem_append, List.mem_singleton] at hr
      rcases hr with hr | rfl
      · exact ih.2.2 r hr
      · simp [natsI, h.1]
theorem set_there {cs : Array Value} {o : Nat} {v u : Value} (h : cs[o]? = some u) : (cs.setIfInBounds o v)[o]? = some v := by
  rcases Nat.lt_or_ge o cs.size with q | q
  · simp [q]
  · rw [Array.getElem?_eq_none q] at h; cases h
theorem rd1_bd (l : List (BitVec 8)) : (rd1 l).1 < 9223372036854775808 := by
  unfold rd1
  split
  · rename_i h; exact (take_own h).2
  · show (0 : Nat) < 9223372036854775808
    decide
theorem rdk_bd (k : Nat) (l : List (BitVec 8)) : ∀ n ∈ (rdk k l).1, n < 9223372036854775808 := by
  induction k with
  | zero => simp [rdk]
  | succ k ih =>
    intro n hn
    simp only [rdk, List.mem_append, List.mem_singleton] at hn
    rcases hn with hn | rfl
    · exact ih n hn
    · exact rd1_bd _
theorem rdRows_small (k n : Nat) (l : List (BitVec 8)) : ∀ r ∈ (rdRows k n l).1, ∀ z ∈ r, In64 z := by
  induction n with
  | zero => simp [rdRows]
  | succ n ih =>
    intro r hr z hz
    simp only [rdRows, List.mem_append, List.mem_singleton] at hr
    rcases hr with hr | rfl
    · exact ih r hr z hz
    · simp only [natsI, List.mem_map] at hz
      obtain ⟨m, hm, rfl⟩ := hz
      have := rdk_bd k _ m hm
      constructor <;> omega
theorem rdL_len (k : Nat) (l : List (BitVec 8)) : (rdL k l).1.length ≤ 64 ∧ (rdL k l).2.length ≤ l.length ∧ (∀ r ∈ (rdL k l).1, r.length = k) ∧ ∀ r ∈ (rdL k l).1, ∀ z ∈ r, In64 z := by
  have h1 := rd1_len l
  unfold rdL
  split
  · exact ⟨by simp, h1, by simp, by simp⟩
  · obtain ⟨a, b, c⟩ := rdRows_len k (rd1 l).1 (rd1 l).2
    exact ⟨by omega, by omega, c, rdRows_small k _ _⟩
/-- What a block of n rows holds, of which j are read. -/
def blkR (k n j : Nat) (l : List (BitVec 8)) : Array Value := (ints .i64 (rdRows k j l).1.flatten ++ List.replicate ((n - j) * k) (Value.int .i64 0)).toArray
theorem ints_len (t : Rows2) {k j : Nat} (hw : ∀ r ∈ t, r.length = k) (hj : t.length = j) : (ints .i64 t.flatten).length = j * k := by
  rw [ints, List.length_map, rows_len t hw, hj, Nat.mul_comm]
theorem blkR_step (k n j : Nat) (l : List (BitVec 8)) (h : j < n) : setN (blkR k n j l) (j * k) (rdk k (rdRows k j l).2).1 = blkR k n (j + 1) l := by
  obtain ⟨a, b, c⟩ := rdRows_len k j l
  have e : List.replicate ((n - j) * k) (Value.int .i64 0) = List.replicate k (.int .i64 0) ++ List.replicate ((n - (j + 1)) * k) (.int .i64 0) := by
    rw [List.replicate_append_replicate]
    congr 1
    rw [show n - j = (n - (j + 1)) + 1 by omega, Nat.add_mul]
    omega
  unfold blkR
  have hp := ints_len _ c a
  rw [e]
  conv => lhs; rw [← hp]
  rw [setN_mid _ _ _ _ (by rw [List.length_replicate, (rdk_len k _).1])]
  congr 1
  simp only [rdRows, List.flatten_append, List.flatten_cons, List.flatten_nil, List.append_nil, ints, List.map_append, natsI, List.map_map, List.append_assoc]
  rfl
theorem blkR_zero (k n j i : Nat) (l : List (BitVec 8)) (h : j < n) (hi : i < k) : (blkR k n j l)[j * k + i]? = some (.int .i64 0) := by
  obtain ⟨a, b, c⟩ := rdRows_len k j l
  have hp := ints_len _ c a
  unfold blkR
  rw [List.getElem?_toArray, List.getElem?_append_right (by omega), hp, Nat.add_sub_cancel_left, List.getElem?_replicate]
  rw [if_pos]
  rw [show n - j = (n - (j + 1)) + 1 by omega, Nat.add_mul]
  omega
theorem made_zero (k n : Nat) (hk : 0 < k) : madeCells (Array.replicate k (Value.int .i64 0)) n = (List.replicate n (Value.int .i64 0)).toArray := by
  apply Array.ext_getElem?
  intro i
  by_cases h : i < n
  · have hm : i % k < k := Nat.mod_lt _ hk
    simp [madeCells, h, hm]
  · simp [madeCells, h]
theorem run_make_zero {P : Program} (w : World) (t e : TypeId) (z : Value) (k bytes n : Nat) (ht : P.underlying t = some (.slice e)) (hinfo : (P.info? e).map (fun i => (i.zero, i.size, i.bytes)) = some (some z, k, bytes)) (hz : z.cells = Array.replicate k (Value.int .i64 0)) (hk : 0 < k) (hn : n ≤ 64) (hb : bytes ≤ 1000) :
    (Instr.makeSlice t (.int .i64 (n : Int)) (.int .i64 (n : Int))).run P w = .ok (.slice (some ⟨w.heap.size, 0, none⟩) n n) (w.alloc (.cells (List.replicate (n * k) (.int .i64 0)).toArray e)) := by
  obtain ⟨i, hi, hzz, hs, hby⟩ := info_parts hinfo
  have hbn : bytes * n ≤ 1000 * 64 := Nat.mul_le_mul hb hn
  have hr := run_make (P := P) w t e i z ht hi hzz .i64 .i64 n n (by omega) (Int.le_refl _) (by rw [hby, ← Int.natCast_mul]; omega) (by omega)
  simp only [Int.toNat_natCast, hs, hz, made_zero k _ hk] at hr
  exact hr
theorem tab_blk {w : World} {k n N : Nat} {l : List (BitVec 8)} (h : Has w N (blkR k n n l)) (hn : n ≤ 64) : Tab k w (some ⟨N, 0, none⟩) n n (rdRows k n l).1 := by
  obtain ⟨a, b, c⟩ := rdRows_len k n l
  have hp := ints_len _ c a
  refine ⟨⟨hp, .inr ⟨_, rfl, fun j u hu => ?_⟩⟩, a, c, rdRows_small k n l, Nat.le_refl _, by omega⟩
  rw [tab_add, Nat.zero_add]
  refine h.cell j ?_
  unfold blkR
  rw [List.getElem?_toArray, Nat.sub_self, Nat.zero_mul, List.replicate_zero, List.append_nil]
  exact hu
theorem blkR_first (k n : Nat) (l : List (BitVec 8)) : (List.replicate (n * k) (Value.int .i64 0)).toArray = blkR k n 0 l := by
  simp [blkR, rdRows, ints]
theorem blkR_first2 (k n : Nat) (l : List (BitVec 8)) : Array.replicate (n * k) (Value.int .i64 0) = blkR k n 0 l := by
  rw [← blkR_first]
  simp
theorem RPen.set {R0 : World} {F : Nat → Prop} {g : Nat} {l : List (BitVec 8)} {w : World} (h : RPen R0 F g l w) {p : Addr} (hp : R0.heap.size ≤ p.block) (hg : g ≠ p.block) (v : Value) : RPen R0 F g l (w.setCell p v) := by
  obtain ⟨⟨A, c, h1, h2, h3⟩, h4, h5, h6, h7⟩ := h
  exact ⟨⟨A, c, h1.far hg v, h2, h3⟩, h4.setCell hp v, h5, h6, fun b hb => by have := h7 b hb; simp [World.setCell]; exact this⟩

set_option maxHeartbeats 2000000 in
theorem rlist_way (R0 : World) (F : Nat → Prop) (g q o p2 p4 : Nat) (cs : Array Value) (l : List (BitVec 8)) (w : World) (hcs : Has w q cs) (hz : cs[o]? = some (.slice none 0 0)) (hq : F q) (hqo : R0.heap.size ≤ q)
    (hF2 : F p2) (h2q : p2 ≠ q) (h2 : w.cell? ⟨p2, 0, none⟩ = some (.iface 65 (.pointer (some ⟨g, 0, none⟩)))) (hF4 : F p4) (h4q : p4 ≠ q) (h4 : w.cell? ⟨p4, 0, none⟩ = some (.func (.func 61) #[] #[.pointer (some ⟨p2, 0, none⟩)])) (h : RPen R0 F g l w) (hl : l.length ≤ 1000000) :
    Calls Try.prog 63 #[.iface 65 (.pointer (some ⟨g, 0, none⟩)), .pointer (some ⟨q, o, none⟩), .func (.func 64) #[] #[.pointer (some ⟨p4, 0, none⟩)]] w fun e w' => ∃ (A' : Option Addr) (c' : Nat), e = .returned (.tuple #[]) ∧ Kept (fun b => F b ∧ b ≠ q) w w' ∧ Has w' q (cs.setIfInBounds o (.slice A' (rdL 3 l).1.length c')) ∧ Tab 3 w' A' (rdL 3 l).1.length c' (rdL 3 l).1 ∧ RPen R0 (fun b => F b ∨ ∃ a, A' = some a ∧ b = a.block) g (rdL 3 l).2 w' ∧ ∀ a, A' = some a → w.heap.size ≤ a.block := by
  have eg : ∀ args w, (callFunc 64 args).run Try.prog w = .ok (.enter 64 args) w := enters_of Try.func64 (by kernel_rfl) rfl
  have hqs := hcs.size
  have hneq : q ≠ w.heap.size := by omega
  have hcell := hcs.cell o hz
  have hnum := Lib.hid (rnum_any R0 (fun b => F b ∨ b = w.heap.size) g w.heap.size 0 #[.int .i64 0] l (w.alloc (.cells #[.int .i64 0] 3)) (.inr rfl) h.size (Has.new _ _ _ rfl) rfl (h.grow _) hl)
  have hl1 := rd1_len l
  have hbd := rd1_bd l
  have EL : Hid (rdL 3 l = if 64 < (rd1 l).1 then ([], (rd1 l).2) else rdRows 3 (rd1 l).1 (rd1 l).2) := rfl
  generalize (rd1 l).1 = n at *
  generalize (rd1 l).2 = l1 at *
  generalize rdL 3 l = RL at *
  have HM := Lib.hid (method_r ⟨g, 0, none⟩)
  have HE := Lib.hid (And.intro hcs (And.intro hz h.low))
  have H2 := Lib.hid h2
  have H4 := Lib.hid h4

  have HLO := Lib.hid h.low
  have hR0 := h.size
  clear h2 h4 h hcs hz
  go_enter Try.func63, Try.ntmps63
  have hm := HM.out
  go_wp2_with fail
  refine hnum.out.mono ?_
  rintro e w2 ⟨rfl, hk2, hh2, hw2⟩
  clear hm hcell
  have ks : w2.cell? ⟨w.heap.size, 0, none⟩ = some (.int .i64 (n : Int)) := hh2.cell 0 rfl
  have hks := hh2.size
  replace hk2 : Kept F w w2 := (Kept.of_below (bel_alloc (Below.refl _ _) _) HLO.out).on (hk2.less fun b hb => ⟨.inl hb, by have := HLO.out b hb; omega⟩)
  replace hw2 := Lib.hid (hw2.less (G := F) fun b hb => .inl hb)
  have HQ := Lib.hid (HE.out.1.kept hq hk2)
  have kc := HQ.out.cell o HE.out.2.1
  have hkc := HQ.out.size
  have HK2 := Lib.hid hk2
  clear hh2 hk2
  by_cases hbig : 64 < n
  · have ER : Hid (RL = ([], l1)) := by show _ = _; rw [EL.out, if_pos hbig]
    have hbig' : (64 : Int) < (n : Int) := by omega
    go_wp2
    refine bodyPost_ret (v := .tuple #[]) (by simp [results, Try.results63]) rfl ?_
    rw [ER.out]
    refine ⟨none, 0, rfl, HK2.out.less (fun b hb => hb.1), ?_, Tab.nil_, hw2.out.less (fun b hb => ?_), fun a ha => by cases ha⟩
    · rw [show (([], l1) : Rows2 × List (BitVec 8)).1.length = 0 from rfl, set_self HE.out.2.1]
      exact HQ.out
    · rcases hb with hb | ⟨a, ha, _⟩
      · exact hb
      · cases ha
  · have ER : Hid (RL = rdRows 3 n l1) := by show _ = _; rw [EL.out, if_neg hbig]
    have hle : n ≤ 64 := by omega
    clear hbig
    rcases Nat.eq_zero_or_pos n with h0 | h0
    · subst h0
      go_wp2_with fail
      go_quiet (fail)
      rename_i nq _
      go_wp2
      go_loopw [30] (fun i wr => i = .int .i64 0 ∧ wr = w2.drewN nq) (fun _ _ => 0)
      case atStart => exact ⟨rfl, rfl⟩
      case round =>
        obtain ⟨rfl, rfl⟩ := hrel
        go_wp2
        refine bodyPost_end (v := .tuple #[]) (by simp [results, Try.results63]) rfl ?_
        rw [ER.out]
        refine ⟨none, 0, rfl, (HK2.out.less (fun b hb => hb.1)).on (Kept.of_below (below_drewN (Below.refl _ _) nq) (fun b hb => hw2.out.low b hb.1)), ?_, Tab.nil_, (hw2.out.keep (below_drewN (Below.refl _ _) nq)).less (fun b hb => ?_), fun a ha => by cases ha⟩
        · rw [show (rdRows 3 0 l1).1.length = 0 from rfl, set_self HE.out.2.1]
          exact HQ.out.drewN nq
        · rcases hb with hb | ⟨a, ha, _⟩
          · exact hb
          · cases ha
    · have hn0 : ((n : Int) == 0) = false := by simp; omega
      go_wp2_with fail
      go_quiet (fail)
      rename_i nq _
      have HX := Lib.hid (And.intro (HQ.out.drewN nq) (And.intro (hw2.out.keep (below_drewN (Below.refl _ _) nq)) (HK2.out.on (Kept.of_below (below_drewN (Below.refl _ _) nq) hw2.out.low))))
      have ks3 : (w2.drewN nq).cell? ⟨w.heap.size, 0, none⟩ = some (.int .i64 (n : Int)) := ks
      clear ks hks kc hkc HQ hw2 HK2
      generalize w2.drewN nq = w3 at *
      obtain ⟨hq3, hw3, hk3⟩ := HX.out
      have kc := hq3.cell o HE.out.2.1
      have kf := hq3.frozen o
      have hkc := hq3.size
      have hks := cell_lt ks3
      have hne3 : q ≠ w3.heap.size := by omega
      have HMK := Lib.hid (run_make_zero (P := Try.prog) w3 22 55 (.agg #[.int .i64 0, .int .i64 0, .int .i64 0]) 3 24 n Try.underlying22 (by kernel_rfl) rfl (by decide) hle (by decide))
      have hgq : g ≠ q := fun e => hw3.out (e ▸ hq)
      have HY : Hid (Has ((w3.setCell ⟨q, o, none⟩ (.slice (some ⟨w3.heap.size, 0, none⟩) n n)).alloc (.cells (Array.replicate (n * 3) (.int .i64 0)) 55)) q (cs.setIfInBounds o (.slice (some ⟨w3.heap.size, 0, none⟩) n n)) ∧ Has ((w3.setCell ⟨q, o, none⟩ (.slice (some ⟨w3.heap.size, 0, none⟩) n n)).alloc (.cells (Array.replicate (n * 3) (.int .i64 0)) 55)) w3.heap.size (blkR 3 n 0 l1) ∧ RPen R0 (fun b => F b ∨ b = w3.heap.size) g l1 ((w3.setCell ⟨q, o, none⟩ (.slice (some ⟨w3.heap.size, 0, none⟩) n n)).alloc (.cells (Array.replicate (n * 3) (.int .i64 0)) 55)) ∧ Kept (fun b => F b ∧ b ≠ q) w ((w3.setCell ⟨q, o, none⟩ (.slice (some ⟨w3.heap.size, 0, none⟩) n n)).alloc (.cells (Array.replicate (n * 3) (.int .i64 0)) 55))) := by
        have hsz : (w3.setCell ⟨q, o, none⟩ (.slice (some ⟨w3.heap.size, 0, none⟩) n n)).heap.size = w3.heap.size := by simp [World.setCell]
        refine ⟨(hq3.set o _).alloc _, ?_, ?_, ?_⟩
        · have qb := blkR_first2 3 n l1
          skip
          rw [← qb]
          exact Has.new _ _ _ hsz
        · have q := (hw3.set (p := ⟨q, o, none⟩) hqo hgq (.slice (some ⟨w3.heap.size, 0, none⟩) n n)).grow (.cells (Array.replicate (n * 3) (.int .i64 0)) 55)
          rw [hsz] at q
          exact q
        · exact Kept.alloc ((hk3.less (fun b hb => hb.1)).set (fun hb => hb.2 rfl) _) (fun b hb => by rw [hsz]; exact hw3.low b hb.1) _
      have hR3 := hw3.size
      have hN3 : w.heap.size ≤ w3.heap.size := hk3.size
      have hFlow : ∀ b, F b → b < w3.heap.size := hw3.low
      clear hq3 hw3 hk3 HX
      go_wp2_with (at_make; refine wpList_make_run HMK.out rfl rfl rfl rfl ?_)
      clear HMK kc kf hkc ks3 hks
      generalize ((w3.setCell ⟨q, o, none⟩ (.slice (some ⟨w3.heap.size, 0, none⟩) n n)).alloc (.cells (Array.replicate (n * 3) (.int .i64 0)) 55)) = w5 at *
      go_loopw [30] (fun i wr => ∃ (j : Nat), j ≤ n ∧ i = .int .i64 j ∧ Kept (fun b => F b ∧ b ≠ q) w wr ∧ Hid (Has wr q (cs.setIfInBounds o (.slice (some ⟨w3.heap.size, 0, none⟩) n n)) ∧ Has wr w3.heap.size (blkR 3 n j l1) ∧ RPen R0 (fun b => F b ∨ b = w3.heap.size) g (rdRows 3 j l1).2 wr)) (fun i _ => n - (intOf i).toNat)
      case atStart => exact ⟨0, Nat.zero_le _, rfl, HY.out.2.2.2, ⟨HY.out.1, HY.out.2.1, HY.out.2.2.1⟩⟩
      case round =>
        clear HY
        obtain ⟨j, hj, rfl, hkw, hh⟩ := hrel
        by_cases hlt : j < n
        · obtain ⟨b1, b2, b3⟩ := rdRows_len 3 j l1
          have kc := hh.out.1.cell o (show (cs.setIfInBounds o (.slice (some ⟨w3.heap.size, 0, none⟩) n n))[o]? = some (.slice (some ⟨w3.heap.size, 0, none⟩) n n) from set_there HE.out.2.1)
          have hkc := hh.out.1.size
          have HSH := Lib.hid (rshow_way R0 (fun b => F b ∨ b = w3.heap.size) g w3.heap.size (j * 3) p2 p4 (blkR 3 n j l1) (rdRows 3 j l1).2 wr hh.out.2.1 (fun i hi => by have qz := blkR_zero 3 n j i l1 hlt hi; exact qz) (.inr rfl) (by omega)
            (.inl hF2) (by have := hFlow p2 hF2; omega) ((cell_kept hkw (p := ⟨p2, 0, none⟩) ⟨hF2, h2q⟩).trans H2.out) (.inl hF4) (by have := hFlow p4 hF4; omega) ((cell_kept hkw (p := ⟨p4, 0, none⟩) ⟨hF4, h4q⟩).trans H4.out) hh.out.2.2 (by omega))
          have qs := blkR_step 3 n j l1 hlt
          skip
          have ES := Lib.hid qs
          clear qs
          clear b1 b2 b3
          go_wp2_with fail
          refine HSH.out.mono ?_
          rintro e w6 ⟨rfl, hk6, hh6, hw6⟩
          rw [ES.out] at hh6
          have hkF : Kept (fun b => F b) wr w6 := hk6.less (fun b hb => ⟨.inl hb, by have := hFlow b hb; omega⟩)
          have HH6 : Hid (Has w6 q (cs.setIfInBounds o (.slice (some ⟨w3.heap.size, 0, none⟩) n n)) ∧ Has w6 w3.heap.size (blkR 3 n (j + 1) l1) ∧ RPen R0 (fun b => F b ∨ b = w3.heap.size) g (rdRows 3 (j + 1) l1).2 w6) := ⟨hh.out.1.kept hq hkF, hh6, hw6⟩
          replace hkw := hkw.on (hkF.less fun b hb => hb.1)
          clear hk6 hh6 hw6 hkF hh kc hkc HSH ES
          go_wp2
          go_roundw
          case rel => exact ⟨j + 1, by omega, by go_num, hkw, HH6⟩
          case measure => simp [intOf]; omega
        · obtain rfl : j = n := by omega
          obtain ⟨b1, b2, b3⟩ := rdRows_len 3 j l1
          have HB1 := Lib.hid b1
          clear b1 b2 b3
          go_wp2
          refine bodyPost_end (v := .tuple #[]) (by simp [results, Try.results63]) rfl ?_
          rw [ER.out, HB1.out]
          exact ⟨some ⟨w3.heap.size, 0, none⟩, j, rfl, hkw, hh.out.1, tab_blk hh.out.2.1 hle, hh.out.2.2.less (fun b hb => by
            rcases hb with hb | ⟨a, ha, rfl⟩
            · exact .inl hb
            · injection ha with ha
              subst ha
              exact .inr rfl), fun a ha => by injection ha with ha; subst ha; exact hN3⟩

set_option maxHeartbeats 2000000 in
theorem rlist_ele (R0 : World) (F : Nat → Prop) (g q o p2 p4 p5 : Nat) (cs : Array Value) (l : List (BitVec 8)) (w : World) (hcs : Has w q cs) (hz : cs[o]? = some (.slice none 0 0)) (hq : F q) (hqo : R0.heap.size ≤ q)
    (hF2 : F p2) (h2q : p2 ≠ q) (h2 : w.cell? ⟨p2, 0, none⟩ = some (.iface 65 (.pointer (some ⟨g, 0, none⟩)))) (hF4 : F p4) (h4q : p4 ≠ q) (h4 : w.cell? ⟨p4, 0, none⟩ = some (.func (.func 61) #[] #[.pointer (some ⟨p2, 0, none⟩)])) (hF5 : F p5) (h5q : p5 ≠ q) (h5 : w.cell? ⟨p5, 0, none⟩ = some (.func (.func 62) #[] #[.pointer (some ⟨p4, 0, none⟩)])) (h : RPen R0 F g l w) (hl : l.length ≤ 1000000) :
    Calls Try.prog 65 #[.iface 65 (.pointer (some ⟨g, 0, none⟩)), .pointer (some ⟨q, o, none⟩), .func (.func 66) #[] #[.pointer (some ⟨p5, 0, none⟩)]] w fun e w' => ∃ (A' : Option Addr) (c' : Nat), e = .returned (.tuple #[]) ∧ Kept (fun b => F b ∧ b ≠ q) w w' ∧ Has w' q (cs.setIfInBounds o (.slice A' (rdL 4 l).1.length c')) ∧ Tab 4 w' A' (rdL 4 l).1.length c' (rdL 4 l).1 ∧ RPen R0 (fun b => F b ∨ ∃ a, A' = some a ∧ b = a.block) g (rdL 4 l).2 w' ∧ ∀ a, A' = some a → w.heap.size ≤ a.block := by
  have eg : ∀ args w, (callFunc 66 args).run Try.prog w = .ok (.enter 66 args) w := enters_of Try.func66 (by kernel_rfl) rfl
  have hqs := hcs.size
  have hneq : q ≠ w.heap.size := by omega
  have hcell := hcs.cell o hz
  have hnum := Lib.hid (rnum_any R0 (fun b => F b ∨ b = w.heap.size) g w.heap.size 0 #[.int .i64 0] l (w.alloc (.cells #[.int .i64 0] 3)) (.inr rfl) h.size (Has.new _ _ _ rfl) rfl (h.grow _) hl)
  have hl1 := rd1_len l
  have hbd := rd1_bd l
  have EL : Hid (rdL 4 l = if 64 < (rd1 l).1 then ([], (rd1 l).2) else rdRows 4 (rd1 l).1 (rd1 l).2) := rfl
  generalize (rd1 l).1 = n at *
  generalize (rd1 l).2 = l1 at *
  generalize rdL 4 l = RL at *
  have HM := Lib.hid (method_r ⟨g, 0, none⟩)
  have HE := Lib.hid (And.intro hcs (And.intro hz h.low))
  have H2 := Lib.hid h2
  have H4 := Lib.hid h4
  have H5 := Lib.hid h5
  have HLO := Lib.hid h.low
  have hR0 := h.size
  clear h2 h4 h hcs hz h5
  go_enter Try.func65, Try.ntmps65
  have hm := HM.out
  go_wp2_with fail
  refine hnum.out.mono ?_
  rintro e w2 ⟨rfl, hk2, hh2, hw2⟩
  clear hm hcell
  have ks : w2.cell? ⟨w.heap.size, 0, none⟩ = some (.int .i64 (n : Int)) := hh2.cell 0 rfl
  have hks := hh2.size
  replace hk2 : Kept F w w2 := (Kept.of_below (bel_alloc (Below.refl _ _) _) HLO.out).on (hk2.less fun b hb => ⟨.inl hb, by have := HLO.out b hb; omega⟩)
  replace hw2 := Lib.hid (hw2.less (G := F) fun b hb => .inl hb)
  have HQ := Lib.hid (HE.out.1.kept hq hk2)
  have kc := HQ.out.cell o HE.out.2.1
  have hkc := HQ.out.size
  have HK2 := Lib.hid hk2
  clear hh2 hk2
  by_cases hbig : 64 < n
  · have ER : Hid (RL = ([], l1)) := by show _ = _; rw [EL.out, if_pos hbig]
    have hbig' : (64 : Int) < (n : Int) := by omega
    go_wp2
    refine bodyPost_ret (v := .tuple #[]) (by simp [results, Try.results65]) rfl ?_
    rw [ER.out]
    refine ⟨none, 0, rfl, HK2.out.less (fun b hb => hb.1), ?_, Tab.nil_, hw2.out.less (fun b hb => ?_), fun a ha => by cases ha⟩
    · rw [show (([], l1) : Rows2 × List (BitVec 8)).1.length = 0 from rfl, set_self HE.out.2.1]
      exact HQ.out
    · rcases hb with hb | ⟨a, ha, _⟩
      · exact hb
      · cases ha
  · have ER : Hid (RL = rdRows 4 n l1) := by show _ = _; rw [EL.out, if_neg hbig]
    have hle : n ≤ 64 := by omega
    clear hbig
    rcases Nat.eq_zero_or_pos n with h0 | h0
    · subst h0
      go_wp2_with fail
      go_quiet (fail)
      rename_i nq _
      go_wp2
      go_loopw [30] (fun i wr => i = .int .i64 0 ∧ wr = w2.drewN nq) (fun _ _ => 0)
      case atStart => exact ⟨rfl, rfl⟩
      case round =>
        obtain ⟨rfl, rfl⟩ := hrel
        go_wp2
        refine bodyPost_end (v := .tuple #[]) (by simp [results, Try.results65]) rfl ?_
        rw [ER.out]
        refine ⟨none, 0, rfl, (HK2.out.less (fun b hb => hb.1)).on (Kept.of_below (below_drewN (Below.refl _ _) nq) (fun b hb => hw2.out.low b hb.1)), ?_, Tab.nil_, (hw2.out.keep (below_drewN (Below.refl _ _) nq)).less (fun b hb => ?_), fun a ha => by cases ha⟩
        · rw [show (rdRows 4 0 l1).1.length = 0 from rfl, set_self HE.out.2.1]
          exact HQ.out.drewN nq
        · rcases hb with hb | ⟨a, ha, _⟩
          · exact hb
          · cases ha
    · have hn0 : ((n : Int) == 0) = false := by simp; omega
      go_wp2_with fail
      go_quiet (fail)
      rename_i nq _
      have HX := Lib.hid (And.intro (HQ.out.drewN nq) (And.intro (hw2.out.keep (below_drewN (Below.refl _ _) nq)) (HK2.out.on (Kept.of_below (below_drewN (Below.refl _ _) nq) hw2.out.low))))
      have ks3 : (w2.drewN nq).cell? ⟨w.heap.size, 0, none⟩ = some (.int .i64 (n : Int)) := ks
      clear ks hks kc hkc HQ hw2 HK2
      generalize w2.drewN nq = w3 at *
      obtain ⟨hq3, hw3, hk3⟩ := HX.out
      have kc := hq3.cell o HE.out.2.1
      have kf := hq3.frozen o
      have hkc := hq3.size
      have hks := cell_lt ks3
      have hne3 : q ≠ w3.heap.size := by omega
      have HMK := Lib.hid (run_make_zero (P := Try.prog) w3 25 72 (.agg #[.int .i64 0, .int .i64 0, .int .i64 0, .int .i64 0]) 4 32 n Try.underlying25 (by kernel_rfl) rfl (by decide) hle (by decide))
      have hgq : g ≠ q := fun e => hw3.out (e ▸ hq)
      have HY : Hid (Has ((w3.setCell ⟨q, o, none⟩ (.slice (some ⟨w3.heap.size, 0, none⟩) n n)).alloc (.cells (Array.replicate (n * 4) (.int .i64 0)) 72)) q (cs.setIfInBounds o (.slice (some ⟨w3.heap.size, 0, none⟩) n n)) ∧ Has ((w3.setCell ⟨q, o, none⟩ (.slice (some ⟨w3.heap.size, 0, none⟩) n n)).alloc (.cells (Array.replicate (n * 4) (.int .i64 0)) 72)) w3.heap.size (blkR 4 n 0 l1) ∧ RPen R0 (fun b => F b ∨ b = w3.heap.size) g l1 ((w3.setCell ⟨q, o, none⟩ (.slice (some ⟨w3.heap.size, 0, none⟩) n n)).alloc (.cells (Array.replicate (n * 4) (.int .i64 0)) 72)) ∧ Kept (fun b => F b ∧ b ≠ q) w ((w3.setCell ⟨q, o, none⟩ (.slice (some ⟨w3.heap.size, 0, none⟩) n n)).alloc (.cells (Array.replicate (n * 4) (.int .i64 0)) 72))) := by
        have hsz : (w3.setCell ⟨q, o, none⟩ (.slice (some ⟨w3.heap.size, 0, none⟩) n n)).heap.size = w3.heap.size := by simp [World.setCell]
        refine ⟨(hq3.set o _).alloc _, ?_, ?_, ?_⟩
        · have qb := blkR_first2 4 n l1
          skip
          rw [← qb]
          exact Has.new _ _ _ hsz
        · have q := (hw3.set (p := ⟨q, o, none⟩) hqo hgq (.slice (some ⟨w3.heap.size, 0, none⟩) n n)).grow (.cells (Array.replicate (n * 4) (.int .i64 0)) 72)
          rw [hsz] at q
          exact q
        · exact Kept.alloc ((hk3.less (fun b hb => hb.1)).set (fun hb => hb.2 rfl) _) (fun b hb => by rw [hsz]; exact hw3.low b hb.1) _
      have hR3 := hw3.size
      have hN3 : w.heap.size ≤ w3.heap.size := hk3.size
      have hFlow : ∀ b, F b → b < w3.heap.size := hw3.low
      clear hq3 hw3 hk3 HX
      go_wp2_with (at_make; refine wpList_make_run HMK.out rfl rfl rfl rfl ?_)
      clear HMK kc kf hkc ks3 hks
      generalize ((w3.setCell ⟨q, o, none⟩ (.slice (some ⟨w3.heap.size, 0, none⟩) n n)).alloc (.cells (Array.replicate (n * 4) (.int .i64 0)) 72)) = w5 at *
      go_loopw [30] (fun i wr => ∃ (j : Nat), j ≤ n ∧ i = .int .i64 j ∧ Kept (fun b => F b ∧ b ≠ q) w wr ∧ Hid (Has wr q (cs.setIfInBounds o (.slice (some ⟨w3.heap.size, 0, none⟩) n n)) ∧ Has wr w3.heap.size (blkR 4 n j l1) ∧ RPen R0 (fun b => F b ∨ b = w3.heap.size) g (rdRows 4 j l1).2 wr)) (fun i _ => n - (intOf i).toNat)
      case atStart => exact ⟨0, Nat.zero_le _, rfl, HY.out.2.2.2, ⟨HY.out.1, HY.out.2.1, HY.out.2.2.1⟩⟩
      case round =>
        clear HY
        obtain ⟨j, hj, rfl, hkw, hh⟩ := hrel
        by_cases hlt : j < n
        · obtain ⟨b1, b2, b3⟩ := rdRows_len 4 j l1
          have kc := hh.out.1.cell o (show (cs.setIfInBounds o (.slice (some ⟨w3.heap.size, 0, none⟩) n n))[o]? = some (.slice (some ⟨w3.heap.size, 0, none⟩) n n) from set_there HE.out.2.1)
          have hkc := hh.out.1.size
          have HSH := Lib.hid (rshow_ele R0 (fun b => F b ∨ b = w3.heap.size) g w3.heap.size (j * 4) p2 p4 p5 (blkR 4 n j l1) (rdRows 4 j l1).2 wr hh.out.2.1 (fun i hi => by have qz := blkR_zero 4 n j i l1 hlt hi; exact qz) (.inr rfl) (by omega)
            (.inl hF2) (by have := hFlow p2 hF2; omega) ((cell_kept hkw (p := ⟨p2, 0, none⟩) ⟨hF2, h2q⟩).trans H2.out) (.inl hF4) (by have := hFlow p4 hF4; omega) ((cell_kept hkw (p := ⟨p4, 0, none⟩) ⟨hF4, h4q⟩).trans H4.out) (.inl hF5) (by have := hFlow p5 hF5; omega) ((cell_kept hkw (p := ⟨p5, 0, none⟩) ⟨hF5, h5q⟩).trans H5.out) hh.out.2.2 (by omega))
          have qs := blkR_step 4 n j l1 hlt
          skip
          have ES := Lib.hid qs
          clear qs
          clear b1 b2 b3
          go_wp2_with fail
          refine HSH.out.mono ?_
          rintro e w6 ⟨rfl, hk6, hh6, hw6⟩
          rw [ES.out] at hh6
          have hkF : Kept (fun b => F b) wr w6 := hk6.less (fun b hb => ⟨.inl hb, by have := hFlow b hb; omega⟩)
          have HH6 : Hid (Has w6 q (cs.setIfInBounds o (.slice (some ⟨w3.heap.size, 0, none⟩) n n)) ∧ Has w6 w3.heap.size (blkR 4 n (j + 1) l1) ∧ RPen R0 (fun b => F b ∨ b = w3.heap.size) g (rdRows 4 (j + 1) l1).2 w6) := ⟨hh.out.1.kept hq hkF, hh6, hw6⟩
          replace hkw := hkw.on (hkF.less fun b hb => hb.1)
          clear hk6 hh6 hw6 hkF hh kc hkc HSH ES
          go_wp2
          go_roundw
          case rel => exact ⟨j + 1, by omega, by go_num, hkw, HH6⟩
          case measure => simp [intOf]; omega
        · obtain rfl : j = n := by omega
          obtain ⟨b1, b2, b3⟩ := rdRows_len 4 j l1
          have HB1 := Lib.hid b1
          clear b1 b2 b3
          go_wp2
          refine bodyPost_end (v := .tuple #[]) (by simp [results, Try.results65]) rfl ?_
          rw [ER.out, HB1.out]
          exact ⟨some ⟨w3.heap.size, 0, none⟩, j, rfl, hkw, hh.out.1, tab_blk hh.out.2.1 hle, hh.out.2.2.less (fun b hb => by
            rcases hb with hb | ⟨a, ha, rfl⟩
            · exact .inl hb
            · injection ha with ha
              subst ha
              exact .inr rfl), fun a ha => by injection ha with ha; subst ha; exact hN3⟩

set_option maxHeartbeats 2000000 in
theorem rlist_part (R0 : World) (F : Nat → Prop) (g q o p2 p4 : Nat) (cs : Array Value) (l : List (BitVec 8)) (w : World) (hcs : Has w q cs) (hz : cs[o]? = some (.slice none 0 0)) (hq : F q) (hqo : R0.heap.size ≤ q)
    (hF2 : F p2) (h2q : p2 ≠ q) (h2 : w.cell? ⟨p2, 0, none⟩ = some (.iface 65 (.pointer (some ⟨g, 0, none⟩)))) (hF4 : F p4) (h4q : p4 ≠ q) (h4 : w.cell? ⟨p4, 0, none⟩ = some (.func (.func 61) #[] #[.pointer (some ⟨p2, 0, none⟩)])) (h : RPen R0 F g l w) (hl : l.length ≤ 1000000) :
    Calls Try.prog 67 #[.iface 65 (.pointer (some ⟨g, 0, none⟩)), .pointer (some ⟨q, o, none⟩), .func (.func 62) #[] #[.pointer (some ⟨p4, 0, none⟩)]] w fun e w' => ∃ (A' : Option Addr) (c' : Nat), e = .returned (.tuple #[]) ∧ Kept (fun b => F b ∧ b ≠ q) w w' ∧ Has w' q (cs.setIfInBounds o (.slice A' (rdL 2 l).1.length c')) ∧ Tab 2 w' A' (rdL 2 l).1.length c' (rdL 2 l).1 ∧ RPen R0 (fun b => F b ∨ ∃ a, A' = some a ∧ b = a.block) g (rdL 2 l).2 w' ∧ ∀ a, A' = some a → w.heap.size ≤ a.block := by
  have eg : ∀ args w, (callFunc 62 args).run Try.prog w = .ok (.enter 62 args) w := enters_of Try.func62 (by kernel_rfl) rfl
  have hqs := hcs.size
  have hneq : q ≠ w.heap.size := by omega
  have hcell := hcs.cell o hz
  have hnum := Lib.hid (rnum_any R0 (fun b => F b ∨ b = w.heap.size) g w.heap.size 0 #[.int .i64 0] l (w.alloc (.cells #[.int .i64 0] 3)) (.inr rfl) h.size (Has.new _ _ _ rfl) rfl (h.grow _) hl)
  have hl1 := rd1_len l
  have hbd := rd1_bd l
  have EL : Hid (rdL 2 l = if 64 < (rd1 l).1 then ([], (rd1 l).2) else rdRows 2 (rd1 l).1 (rd1 l).2) := rfl
  generalize (rd1 l).1 = n at *
  generalize (rd1 l).2 = l1 at *
  generalize rdL 2 l = RL at *
  have HM := Lib.hid (method_r ⟨g, 0, none⟩)
  have HE := Lib.hid (And.intro hcs (And.intro hz h.low))
  have H2 := Lib.hid h2
  have H4 := Lib.hid h4

  have HLO := Lib.hid h.low
  have hR0 := h.size
  clear h2 h4 h hcs hz
  go_enter Try.func67, Try.ntmps67
  have hm := HM.out
  go_wp2_with fail
  refine hnum.out.mono ?_
  rintro e w2 ⟨rfl, hk2, hh2, hw2⟩
  clear hm hcell
  have ks : w2.cell? ⟨w.heap.size, 0, none⟩ = some (.int .i64 (n : Int)) := hh2.cell 0 rfl
  have hks := hh2.size
  replace hk2 : Kept F w w2 := (Kept.of_below (bel_alloc (Below.refl _ _) _) HLO.out).on (hk2.less fun b hb => ⟨.inl hb, by have := HLO.out b hb; omega⟩)
  replace hw2 := Lib.hid (hw2.less (G := F) fun b hb => .inl hb)
  have HQ := Lib.hid (HE.out.1.kept hq hk2)
  have kc := HQ.out.cell o HE.out.2.1
  have hkc := HQ.out.size
  have HK2 := Lib.hid hk2
  clear hh2 hk2
  by_cases hbig : 64 < n
  · have ER : Hid (RL = ([], l1)) := by show _ = _; rw [EL.out, if_pos hbig]
    have hbig' : (64 : Int) < (n : Int) := by omega
    go_wp2
    refine bodyPost_ret (v := .tuple #[]) (by simp [results, Try.results67]) rfl ?_
    rw [ER.out]
    refine ⟨none, 0, rfl, HK2.out.less (fun b hb => hb.1), ?_, Tab.nil_, hw2.out.less (fun b hb => ?_), fun a ha => by cases ha⟩
    · rw [show (([], l1) : Rows2 × List (BitVec 8)).1.length = 0 from rfl, set_self HE.out.2.1]
      exact HQ.out
    · rcases hb with hb | ⟨a, ha, _⟩
      · exact hb
      · cases ha
  · have ER : Hid (RL = rdRows 2 n l1) := by show _ = _; rw [EL.out, if_neg hbig]
    have hle : n ≤ 64 := by omega
    clear hbig
    rcases Nat.eq_zero_or_pos n with h0 | h0
    · subst h0
      go_wp2_with fail
      go_quiet (fail)
      rename_i nq _
      go_wp2
      go_loopw [30] (fun i wr => i = .int .i64 0 ∧ wr = w2.drewN nq) (fun _ _ => 0)
      case atStart => exact ⟨rfl, rfl⟩
      case round =>
        obtain ⟨rfl, rfl⟩ := hrel
        go_wp2
        refine bodyPost_end (v := .tuple #[]) (by simp [results, Try.results67]) rfl ?_
        rw [ER.out]
        refine ⟨none, 0, rfl, (HK2.out.less (fun b hb => hb.1)).on (Kept.of_below (below_drewN (Below.refl _ _) nq) (fun b hb => hw2.out.low b hb.1)), ?_, Tab.nil_, (hw2.out.keep (below_drewN (Below.refl _ _) nq)).less (fun b hb => ?_), fun a ha => by cases ha⟩
        · rw [show (rdRows 2 0 l1).1.length = 0 from rfl, set_self HE.out.2.1]
          exact HQ.out.drewN nq
        · rcases hb with hb | ⟨a, ha, _⟩
          · exact hb
          · cases ha
    · have hn0 : ((n : Int) == 0) = false := by simp; omega
      go_wp2_with fail
      go_quiet (fail)
      rename_i nq _
      have HX := Lib.hid (And.intro (HQ.out.drewN nq) (And.intro (hw2.out.keep (below_drewN (Below.refl _ _) nq)) (HK2.out.on (Kept.of_below (below_drewN (Below.refl _ _) nq) hw2.out.low))))
      have ks3 : (w2.drewN nq).cell? ⟨w.heap.size, 0, none⟩ = some (.int .i64 (n : Int)) := ks
      clear ks hks kc hkc HQ hw2 HK2
      generalize w2.drewN nq = w3 at *
      obtain ⟨hq3, hw3, hk3⟩ := HX.out
      have kc := hq3.cell o HE.out.2.1
      have kf := hq3.frozen o
      have hkc := hq3.size
      have hks := cell_lt ks3
      have hne3 : q ≠ w3.heap.size := by omega
      have HMK := Lib.hid (run_make_zero (P := Try.prog) w3 26 24 (.agg #[.int .i64 0, .int .i64 0]) 2 16 n Try.underlying26 (by kernel_rfl) rfl (by decide) hle (by decide))
      have hgq : g ≠ q := fun e => hw3.out (e ▸ hq)
      have HY : Hid (Has ((w3.setCell ⟨q, o, none⟩ (.slice (some ⟨w3.heap.size, 0, none⟩) n n)).alloc (.cells (Array.replicate (n * 2) (.int .i64 0)) 24)) q (cs.setIfInBounds o (.slice (some ⟨w3.heap.size, 0, none⟩) n n)) ∧ Has ((w3.setCell ⟨q, o, none⟩ (.slice (some ⟨w3.heap.size, 0, none⟩) n n)).alloc (.cells (Array.replicate (n * 2) (.int .i64 0)) 24)) w3.heap.size (blkR 2 n 0 l1) ∧ RPen R0 (fun b => F b ∨ b = w3.heap.size) g l1 ((w3.setCell ⟨q, o, none⟩ (.slice (some ⟨w3.heap.size, 0, none⟩) n n)).alloc (.cells (Array.replicate (n * 2) (.int .i64 0)) 24)) ∧ Kept (fun b => F b ∧ b ≠ q) w ((w3.setCell ⟨q, o, none⟩ (.slice (some ⟨w3.heap.size, 0, none⟩) n n)).alloc (.cells (Array.replicate (n * 2) (.int .i64 0)) 24))) := by
        have hsz : (w3.setCell ⟨q, o, none⟩ (.slice (some ⟨w3.heap.size, 0, none⟩) n n)).heap.size = w3.heap.size := by simp [World.setCell]
        refine ⟨(hq3.set o _).alloc _, ?_, ?_, ?_⟩
        · have qb := blkR_first2 2 n l1
          skip
          rw [← qb]
          exact Has.new _ _ _ hsz
        · have q := (hw3.set (p := ⟨q, o, none⟩) hqo hgq (.slice (some ⟨w3.heap.size, 0, none⟩) n n)).grow (.cells (Array.replicate (n * 2) (.int .i64 0)) 24)
          rw [hsz] at q
          exact q
        · exact Kept.alloc ((hk3.less (fun b hb => hb.1)).set (fun hb => hb.2 rfl) _) (fun b hb => by rw [hsz]; exact hw3.low b hb.1) _
      have hR3 := hw3.size
      have hN3 : w.heap.size ≤ w3.heap.size := hk3.size
      have hFlow : ∀ b, F b → b < w3.heap.size := hw3.low
      clear hq3 hw3 hk3 HX
      go_wp2_with (at_make; refine wpList_make_run HMK.out rfl rfl rfl rfl ?_)
      clear HMK kc kf hkc ks3 hks
      generalize ((w3.setCell ⟨q, o, none⟩ (.slice (some ⟨w3.heap.size, 0, none⟩) n n)).alloc (.cells (Array.replicate (n * 2) (.int .i64 0)) 24)) = w5 at *
      go_loopw [30] (fun i wr => ∃ (j : Nat), j ≤ n ∧ i = .int .i64 j ∧ Kept (fun b => F b ∧ b ≠ q) w wr ∧ Hid (Has wr q (cs.setIfInBounds o (.slice (some ⟨w3.heap.size, 0, none⟩) n n)) ∧ Has wr w3.heap.size (blkR 2 n j l1) ∧ RPen R0 (fun b => F b ∨ b = w3.heap.size) g (rdRows 2 j l1).2 wr)) (fun i _ => n - (intOf i).toNat)
      case atStart => exact ⟨0, Nat.zero_le _, rfl, HY.out.2.2.2, ⟨HY.out.1, HY.out.2.1, HY.out.2.2.1⟩⟩
      case round =>
        clear HY
        obtain ⟨j, hj, rfl, hkw, hh⟩ := hrel
        by_cases hlt : j < n
        · obtain ⟨b1, b2, b3⟩ := rdRows_len 2 j l1
          have kc := hh.out.1.cell o (show (cs.setIfInBounds o (.slice (some ⟨w3.heap.size, 0, none⟩) n n))[o]? = some (.slice (some ⟨w3.heap.size, 0, none⟩) n n) from set_there HE.out.2.1)
          have hkc := hh.out.1.size
          have HSH := Lib.hid (rshow_part R0 (fun b => F b ∨ b = w3.heap.size) g w3.heap.size (j * 2) p2 p4 (blkR 2 n j l1) (rdRows 2 j l1).2 wr hh.out.2.1 (fun i hi => by have qz := blkR_zero 2 n j i l1 hlt hi; exact qz) (.inr rfl) (by omega)
            (.inl hF2) (by have := hFlow p2 hF2; omega) ((cell_kept hkw (p := ⟨p2, 0, none⟩) ⟨hF2, h2q⟩).trans H2.out) (.inl hF4) (by have := hFlow p4 hF4; omega) ((cell_kept hkw (p := ⟨p4, 0, none⟩) ⟨hF4, h4q⟩).trans H4.out) hh.out.2.2 (by omega))
          have qs := blkR_step 2 n j l1 hlt
          skip
          have ES := Lib.hid qs
          clear qs
          clear b1 b2 b3
          go_wp2_with fail
          refine HSH.out.mono ?_
          rintro e w6 ⟨rfl, hk6, hh6, hw6⟩
          rw [ES.out] at hh6
          have hkF : Kept (fun b => F b) wr w6 := hk6.less (fun b hb => ⟨.inl hb, by have := hFlow b hb; omega⟩)
          have HH6 : Hid (Has w6 q (cs.setIfInBounds o (.slice (some ⟨w3.heap.size, 0, none⟩) n n)) ∧ Has w6 w3.heap.size (blkR 2 n (j + 1) l1) ∧ RPen R0 (fun b => F b ∨ b = w3.heap.size) g (rdRows 2 (j + 1) l1).2 w6) := ⟨hh.out.1.kept hq hkF, hh6, hw6⟩
          replace hkw := hkw.on (hkF.less fun b hb => hb.1)
          clear hk6 hh6 hw6 hkF hh kc hkc HSH ES
          go_wp2
          go_roundw
          case rel => exact ⟨j + 1, by omega, by go_num, hkw, HH6⟩
          case measure => simp [intOf]; omega
        · obtain rfl : j = n := by omega
          obtain ⟨b1, b2, b3⟩ := rdRows_len 2 j l1
          have HB1 := Lib.hid b1
          clear b1 b2 b3
          go_wp2
          refine bodyPost_end (v := .tuple #[]) (by simp [results, Try.results67]) rfl ?_
          rw [ER.out, HB1.out]
          exact ⟨some ⟨w3.heap.size, 0, none⟩, j, rfl, hkw, hh.out.1, tab_blk hh.out.2.1 hle, hh.out.2.2.less (fun b hb => by
            rcases hb with hb | ⟨a, ha, rfl⟩
            · exact .inl hb
            · injection ha with ha
              subst ha
              exact .inr rfl), fun a ha => by injection ha with ha; subst ha; exact hN3⟩

set_option maxHeartbeats 2000000 in
theorem rlist_one (R0 : World) (F : Nat → Prop) (g q o p2 p4 : Nat) (cs : Array Value) (l : List (BitVec 8)) (w : World) (hcs : Has w q cs) (hz : cs[o]? = some (.slice none 0 0)) (hq : F q) (hqo : R0.heap.size ≤ q)
    (hF2 : F p2) (h2q : p2 ≠ q) (h2 : w.cell? ⟨p2, 0, none⟩ = some (.iface 65 (.pointer (some ⟨g, 0, none⟩)))) (hF4 : F p4) (h4q : p4 ≠ q) (h4 : w.cell? ⟨p4, 0, none⟩ = some (.func (.func 61) #[] #[.pointer (some ⟨p2, 0, none⟩)])) (h : RPen R0 F g l w) (hl : l.length ≤ 1000000) :
    Calls Try.prog 68 #[.iface 65 (.pointer (some ⟨g, 0, none⟩)), .pointer (some ⟨q, o, none⟩), .func (.func 69) #[] #[.pointer (some ⟨p4, 0, none⟩)]] w fun e w' => ∃ (A' : Option Addr) (c' : Nat), e = .returned (.tuple #[]) ∧ Kept (fun b => F b ∧ b ≠ q) w w' ∧ Has w' q (cs.setIfInBounds o (.slice A' (rdL 1 l).1.length c')) ∧ Tab 1 w' A' (rdL 1 l).1.length c' (rdL 1 l).1 ∧ RPen R0 (fun b => F b ∨ ∃ a, A' = some a ∧ b = a.block) g (rdL 1 l).2 w' ∧ ∀ a, A' = some a → w.heap.size ≤ a.block := by
  have eg : ∀ args w, (callFunc 69 args).run Try.prog w = .ok (.enter 69 args) w := enters_of Try.func69 (by kernel_rfl) rfl
  have hqs := hcs.size
  have hneq : q ≠ w.heap.size := by omega
  have hcell := hcs.cell o hz
  have hnum := Lib.hid (rnum_any R0 (fun b => F b ∨ b = w.heap.size) g w.heap.size 0 #[.int .i64 0] l (w.alloc (.cells #[.int .i64 0] 3)) (.inr rfl) h.size (Has.new _ _ _ rfl) rfl (h.grow _) hl)
  have hl1 := rd1_len l
  have hbd := rd1_bd l
  have EL : Hid (rdL 1 l = if 64 < (rd1 l).1 then ([], (rd1 l).2) else rdRows 1 (rd1 l).1 (rd1 l).2) := rfl
  generalize (rd1 l).1 = n at *
  generalize (rd1 l).2 = l1 at *
  generalize rdL 1 l = RL at *
  have HM := Lib.hid (method_r ⟨g, 0, none⟩)
  have HE := Lib.hid (And.intro hcs (And.intro hz h.low))
  have H2 := Lib.hid h2
  have H4 := Lib.hid h4

  have HLO := Lib.hid h.low
  have hR0 := h.size
  clear h2 h4 h hcs hz
  go_enter Try.func68, Try.ntmps68
  have hm := HM.out
  go_wp2_with fail
  refine hnum.out.mono ?_
  rintro e w2 ⟨rfl, hk2, hh2, hw2⟩
  clear hm hcell
  have ks : w2.cell? ⟨w.heap.size, 0, none⟩ = some (.int .i64 (n : Int)) := hh2.cell 0 rfl
  have hks := hh2.size
  replace hk2 : Kept F w w2 := (Kept.of_below (bel_alloc (Below.refl _ _) _) HLO.out).on (hk2.less fun b hb => ⟨.inl hb, by have := HLO.out b hb; omega⟩)
  replace hw2 := Lib.hid (hw2.less (G := F) fun b hb => .inl hb)
  have HQ := Lib.hid (HE.out.1.kept hq hk2)
  have kc := HQ.out.cell o HE.out.2.1
  have hkc := HQ.out.size
  have HK2 := Lib.hid hk2
  clear hh2 hk2
  by_cases hbig : 64 < n
  · have ER : Hid (RL = ([], l1)) := by show _ = _; rw [EL.out, if_pos hbig]
    have hbig' : (64 : Int) < (n : Int) := by omega
    go_wp2
    refine bodyPost_ret (v := .tuple #[]) (by simp [results, Try.results68]) rfl ?_
    rw [ER.out]
    refine ⟨none, 0, rfl, HK2.out.less (fun b hb => hb.1), ?_, Tab.nil_, hw2.out.less (fun b hb => ?_), fun a ha => by cases ha⟩
    · rw [show (([], l1) : Rows2 × List (BitVec 8)).1.length = 0 from rfl, set_self HE.out.2.1]
      exact HQ.out
    · rcases hb with hb | ⟨a, ha, _⟩
      · exact hb
      · cases ha
  · have ER : Hid (RL = rdRows 1 n l1) := by show _ = _; rw [EL.out, if_neg hbig]
    have hle : n ≤ 64 := by omega
    clear hbig
    rcases Nat.eq_zero_or_pos n with h0 | h0
    · subst h0
      go_wp2_with fail
      go_quiet (fail)
      rename_i nq _
      go_wp2
      go_loopw [30] (fun i wr => i = .int .i64 0 ∧ wr = w2.drewN nq) (fun _ _ => 0)
      case atStart => exact ⟨rfl, rfl⟩
      case round =>
        obtain ⟨rfl, rfl⟩ := hrel
        go_wp2
        refine bodyPost_end (v := .tuple #[]) (by simp [results, Try.results68]) rfl ?_
        rw [ER.out]
        refine ⟨none, 0, rfl, (HK2.out.less (fun b hb => hb.1)).on (Kept.of_below (below_drewN (Below.refl _ _) nq) (fun b hb => hw2.out.low b hb.1)), ?_, Tab.nil_, (hw2.out.keep (below_drewN (Below.refl _ _) nq)).less (fun b hb => ?_), fun a ha => by cases ha⟩
        · rw [show (rdRows 1 0 l1).1.length = 0 from rfl, set_self HE.out.2.1]
          exact HQ.out.drewN nq
        · rcases hb with hb | ⟨a, ha, _⟩
          · exact hb
          · cases ha
    · have hn0 : ((n : Int) == 0) = false := by simp; omega
      go_wp2_with fail
      go_quiet (fail)
      rename_i nq _
      have HX := Lib.hid (And.intro (HQ.out.drewN nq) (And.intro (hw2.out.keep (below_drewN (Below.refl _ _) nq)) (HK2.out.on (Kept.of_below (below_drewN (Below.refl _ _) nq) hw2.out.low))))
      have ks3 : (w2.drewN nq).cell? ⟨w.heap.size, 0, none⟩ = some (.int .i64 (n : Int)) := ks
      clear ks hks kc hkc HQ hw2 HK2
      generalize w2.drewN nq = w3 at *
      obtain ⟨hq3, hw3, hk3⟩ := HX.out
      have kc := hq3.cell o HE.out.2.1
      have kf := hq3.frozen o
      have hkc := hq3.size
      have hks := cell_lt ks3
      have hne3 : q ≠ w3.heap.size := by omega
      have HMK := Lib.hid (run_make_zero (P := Try.prog) w3 27 3 (.int .i64 0) 1 8 n Try.underlying27 (by kernel_rfl) rfl (by decide) hle (by decide))
      have hgq : g ≠ q := fun e => hw3.out (e ▸ hq)
      have HY : Hid (Has ((w3.setCell ⟨q, o, none⟩ (.slice (some ⟨w3.heap.size, 0, none⟩) n n)).alloc (.cells (Array.replicate (n) (.int .i64 0)) 3)) q (cs.setIfInBounds o (.slice (some ⟨w3.heap.size, 0, none⟩) n n)) ∧ Has ((w3.setCell ⟨q, o, none⟩ (.slice (some ⟨w3.heap.size, 0, none⟩) n n)).alloc (.cells (Array.replicate (n) (.int .i64 0)) 3)) w3.heap.size (blkR 1 n 0 l1) ∧ RPen R0 (fun b => F b ∨ b = w3.heap.size) g l1 ((w3.setCell ⟨q, o, none⟩ (.slice (some ⟨w3.heap.size, 0, none⟩) n n)).alloc (.cells (Array.replicate (n) (.int .i64 0)) 3)) ∧ Kept (fun b => F b ∧ b ≠ q) w ((w3.setCell ⟨q, o, none⟩ (.slice (some ⟨w3.heap.size, 0, none⟩) n n)).alloc (.cells (Array.replicate (n) (.int .i64 0)) 3))) := by
        have hsz : (w3.setCell ⟨q, o, none⟩ (.slice (some ⟨w3.heap.size, 0, none⟩) n n)).heap.size = w3.heap.size := by simp [World.setCell]
        refine ⟨(hq3.set o _).alloc _, ?_, ?_, ?_⟩
        · have qb := blkR_first2 1 n l1
          rw [Nat.mul_one] at qb
          rw [← qb]
          exact Has.new _ _ _ hsz
        · have q := (hw3.set (p := ⟨q, o, none⟩) hqo hgq (.slice (some ⟨w3.heap.size, 0, none⟩) n n)).grow (.cells (Array.replicate (n) (.int .i64 0)) 3)
          rw [hsz] at q
          exact q
        · exact Kept.alloc ((hk3.less (fun b hb => hb.1)).set (fun hb => hb.2 rfl) _) (fun b hb => by rw [hsz]; exact hw3.low b hb.1) _
      have hR3 := hw3.size
      have hN3 : w.heap.size ≤ w3.heap.size := hk3.size
      have hFlow : ∀ b, F b → b < w3.heap.size := hw3.low
      clear hq3 hw3 hk3 HX
      go_wp2_with (at_make; refine wpList_make_run HMK.out rfl rfl rfl rfl ?_)
      clear HMK kc kf hkc ks3 hks
      generalize ((w3.setCell ⟨q, o, none⟩ (.slice (some ⟨w3.heap.size, 0, none⟩) n n)).alloc (.cells (Array.replicate (n) (.int .i64 0)) 3)) = w5 at *
      go_loopw [30] (fun i wr => ∃ (j : Nat), j ≤ n ∧ i = .int .i64 j ∧ Kept (fun b => F b ∧ b ≠ q) w wr ∧ Hid (Has wr q (cs.setIfInBounds o (.slice (some ⟨w3.heap.size, 0, none⟩) n n)) ∧ Has wr w3.heap.size (blkR 1 n j l1) ∧ RPen R0 (fun b => F b ∨ b = w3.heap.size) g (rdRows 1 j l1).2 wr)) (fun i _ => n - (intOf i).toNat)
      case atStart => exact ⟨0, Nat.zero_le _, rfl, HY.out.2.2.2, ⟨HY.out.1, HY.out.2.1, HY.out.2.2.1⟩⟩
      case round =>
        clear HY
        obtain ⟨j, hj, rfl, hkw, hh⟩ := hrel
        by_cases hlt : j < n
        · obtain ⟨b1, b2, b3⟩ := rdRows_len 1 j l1
          have kc := hh.out.1.cell o (show (cs.setIfInBounds o (.slice (some ⟨w3.heap.size, 0, none⟩) n n))[o]? = some (.slice (some ⟨w3.heap.size, 0, none⟩) n n) from set_there HE.out.2.1)
          have hkc := hh.out.1.size
          have HSH := Lib.hid (rshow_one R0 (fun b => F b ∨ b = w3.heap.size) g w3.heap.size (j) p2 p4 (blkR 1 n j l1) (rdRows 1 j l1).2 wr hh.out.2.1 (fun i hi => by have qz := blkR_zero 1 n j i l1 hlt hi; rw [Nat.mul_one] at qz; exact qz) (.inr rfl) (by omega)
            (.inl hF2) (by have := hFlow p2 hF2; omega) ((cell_kept hkw (p := ⟨p2, 0, none⟩) ⟨hF2, h2q⟩).trans H2.out) (.inl hF4) (by have := hFlow p4 hF4; omega) ((cell_kept hkw (p := ⟨p4, 0, none⟩) ⟨hF4, h4q⟩).trans H4.out) hh.out.2.2 (by omega))
          have qs := blkR_step 1 n j l1 hlt
          rw [Nat.mul_one] at qs
          have ES := Lib.hid qs
          clear qs
          clear b1 b2 b3
          go_wp2_with fail
          refine HSH.out.mono ?_
          rintro e w6 ⟨rfl, hk6, hh6, hw6⟩
          rw [ES.out] at hh6
          have hkF : Kept (fun b => F b) wr w6 := hk6.less (fun b hb => ⟨.inl hb, by have := hFlow b hb; omega⟩)
          have HH6 : Hid (Has w6 q (cs.setIfInBounds o (.slice (some ⟨w3.heap.size, 0, none⟩) n n)) ∧ Has w6 w3.heap.size (blkR 1 n (j + 1) l1) ∧ RPen R0 (fun b => F b ∨ b = w3.heap.size) g (rdRows 1 (j + 1) l1).2 w6) := ⟨hh.out.1.kept hq hkF, hh6, hw6⟩
          replace hkw := hkw.on (hkF.less fun b hb => hb.1)
          clear hk6 hh6 hw6 hkF hh kc hkc HSH ES
          go_wp2
          go_roundw
          case rel => exact ⟨j + 1, by omega, by go_num, hkw, HH6⟩
          case measure => simp [intOf]; omega
        · obtain rfl : j = n := by omega
          obtain ⟨b1, b2, b3⟩ := rdRows_len 1 j l1
          have HB1 := Lib.hid b1
          clear b1 b2 b3
          go_wp2
          refine bodyPost_end (v := .tuple #[]) (by simp [results, Try.results68]) rfl ?_
          rw [ER.out, HB1.out]
          exact ⟨some ⟨w3.heap.size, 0, none⟩, j, rfl, hkw, hh.out.1, tab_blk hh.out.2.1 hle, hh.out.2.2.less (fun b hb => by
            rcases hb with hb | ⟨a, ha, rfl⟩
            · exact .inl hb
            · injection ha with ha
              subst ha
              exact .inr rfl), fun a ha => by injection ha with ha; subst ha; exact hN3⟩

set_option maxHeartbeats 2000000 in
theorem rlist_tier (R0 : World) (F : Nat → Prop) (g q o p2 p4 : Nat) (cs : Array Value) (l : List (BitVec 8)) (w : World) (hcs : Has w q cs) (hz : cs[o]? = some (.slice none 0 0)) (hq : F q) (hqo : R0.heap.size ≤ q)
    (hF2 : F p2) (h2q : p2 ≠ q) (h2 : w.cell? ⟨p2, 0, none⟩ = some (.iface 65 (.pointer (some ⟨g, 0, none⟩)))) (hF4 : F p4) (h4q : p4 ≠ q) (h4 : w.cell? ⟨p4, 0, none⟩ = some (.func (.func 61) #[] #[.pointer (some ⟨p2, 0, none⟩)])) (h : RPen R0 F g l w) (hl : l.length ≤ 1000000) :
    Calls Try.prog 70 #[.iface 65 (.pointer (some ⟨g, 0, none⟩)), .pointer (some ⟨q, o, none⟩), .func (.func 71) #[] #[.pointer (some ⟨p4, 0, none⟩)]] w fun e w' => ∃ (A' : Option Addr) (c' : Nat), e = .returned (.tuple #[]) ∧ Kept (fun b => F b ∧ b ≠ q) w w' ∧ Has w' q (cs.setIfInBounds o (.slice A' (rdL 2 l).1.length c')) ∧ Tab 2 w' A' (rdL 2 l).1.length c' (rdL 2 l).1 ∧ RPen R0 (fun b => F b ∨ ∃ a, A' = some a ∧ b = a.block) g (rdL 2 l).2 w' ∧ ∀ a, A' = some a → w.heap.size ≤ a.block := by
  have eg : ∀ args w, (callFunc 71 args).run Try.prog w = .ok (.enter 71 args) w := enters_of Try.func71 (by kernel_rfl) rfl
  have hqs := hcs.size
  have hneq : q ≠ w.heap.size := by omega
  have hcell := hcs.cell o hz
  have hnum := Lib.hid (rnum_any R0 (fun b => F b ∨ b = w.heap.size) g w.heap.size 0 #[.int .i64 0] l (w.alloc (.cells #[.int .i64 0] 3)) (.inr rfl) h.size (Has.new _ _ _ rfl) rfl (h.grow _) hl)
  have hl1 := rd1_len l
  have hbd := rd1_bd l
  have EL : Hid (rdL 2 l = if 64 < (rd1 l).1 then ([], (rd1 l).2) else rdRows 2 (rd1 l).1 (rd1 l).2) := rfl
  generalize (rd1 l).1 = n at *
  generalize (rd1 l).2 = l1 at *
  generalize rdL 2 l = RL at *
  have HM := Lib.hid (method_r ⟨g, 0, none⟩)
  have HE := Lib.hid (And.intro hcs (And.intro hz h.low))
  have H2 := Lib.hid h2
  have H4 := Lib.hid h4

  have HLO := Lib.hid h.low
  have hR0 := h.size
  clear h2 h4 h hcs hz
  go_enter Try.func70, Try.ntmps70
  have hm := HM.out
  go_wp2_with fail
  refine hnum.out.mono ?_
  rintro e w2 ⟨rfl, hk2, hh2, hw2⟩
  clear hm hcell
  have ks : w2.cell? ⟨w.heap.size, 0, none⟩ = some (.int .i64 (n : Int)) := hh2.cell 0 rfl
  have hks := hh2.size
  replace hk2 : Kept F w w2 := (Kept.of_below (bel_alloc (Below.refl _ _) _) HLO.out).on (hk2.less fun b hb => ⟨.inl hb, by have := HLO.out b hb; omega⟩)
  replace hw2 := Lib.hid (hw2.less (G := F) fun b hb => .inl hb)
  have HQ := Lib.hid (HE.out.1.kept hq hk2)
  have kc := HQ.out.cell o HE.out.2.1
  have hkc := HQ.out.size
  have HK2 := Lib.hid hk2
  clear hh2 hk2
  by_cases hbig : 64 < n
  · have ER : Hid (RL = ([], l1)) := by show _ = _; rw [EL.out, if_pos hbig]
    have hbig' : (64 : Int) < (n : Int) := by omega
    go_wp2
    refine bodyPost_ret (v := .tuple #[]) (by simp [results, Try.results70]) rfl ?_
    rw [ER.out]
    refine ⟨none, 0, rfl, HK2.out.less (fun b hb => hb.1), ?_, Tab.nil_, hw2.out.less (fun b hb => ?_), fun a ha => by cases ha⟩
    · rw [show (([], l1) : Rows2 × List (BitVec 8)).1.length = 0 from rfl, set_self HE.out.2.1]
      exact HQ.out
    · rcases hb with hb | ⟨a, ha, _⟩
      · exact hb
      · cases ha
  · have ER : Hid (RL = rdRows 2 n l1) := by show _ = _; rw [EL.out, if_neg hbig]
    have hle : n ≤ 64 := by omega
    clear hbig
    rcases Nat.eq_zero_or_pos n with h0 | h0
    · subst h0
      go_wp2_with fail
      go_quiet (fail)
      rename_i nq _
      go_wp2
      go_loopw [30] (fun i wr => i = .int .i64 0 ∧ wr = w2.drewN nq) (fun _ _ => 0)
      case atStart => exact ⟨rfl, rfl⟩
      case round =>
        obtain ⟨rfl, rfl⟩ := hrel
        go_wp2
        refine bodyPost_end (v := .tuple #[]) (by simp [results, Try.results70]) rfl ?_
        rw [ER.out]
        refine ⟨none, 0, rfl, (HK2.out.less (fun b hb => hb.1)).on (Kept.of_below (below_drewN (Below.refl _ _) nq) (fun b hb => hw2.out.low b hb.1)), ?_, Tab.nil_, (hw2.out.keep (below_drewN (Below.refl _ _) nq)).less (fun b hb => ?_), fun a ha => by cases ha⟩
        · rw [show (rdRows 2 0 l1).1.length = 0 from rfl, set_self HE.out.2.1]
          exact HQ.out.drewN nq
        · rcases hb with hb | ⟨a, ha, _⟩
          · exact hb
          · cases ha
    · have hn0 : ((n : Int) == 0) = false := by simp; omega
      go_wp2_with fail
      go_quiet (fail)
      rename_i nq _
      have HX := Lib.hid (And.intro (HQ.out.drewN nq) (And.intro (hw2.out.keep (below_drewN (Below.refl _ _) nq)) (HK2.out.on (Kept.of_below (below_drewN (Below.refl _ _) nq) hw2.out.low))))
      have ks3 : (w2.drewN nq).cell? ⟨w.heap.size, 0, none⟩ = some (.int .i64 (n : Int)) := ks
      clear ks hks kc hkc HQ hw2 HK2
      generalize w2.drewN nq = w3 at *
      obtain ⟨hq3, hw3, hk3⟩ := HX.out
      have kc := hq3.cell o HE.out.2.1
      have kf := hq3.frozen o
      have hkc := hq3.size
      have hks := cell_lt ks3
      have hne3 : q ≠ w3.heap.size := by omega
      have HMK := Lib.hid (run_make_zero (P := Try.prog) w3 28 74 (.agg #[.int .i64 0, .int .i64 0]) 2 16 n Try.underlying28 (by kernel_rfl) rfl (by decide) hle (by decide))
      have hgq : g ≠ q := fun e => hw3.out (e ▸ hq)
      have HY : Hid (Has ((w3.setCell ⟨q, o, none⟩ (.slice (some ⟨w3.heap.size, 0, none⟩) n n)).alloc (.cells (Array.replicate (n * 2) (.int .i64 0)) 74)) q (cs.setIfInBounds o (.slice (some ⟨w3.heap.size, 0, none⟩) n n)) ∧ Has ((w3.setCell ⟨q, o, none⟩ (.slice (some ⟨w3.heap.size, 0, none⟩) n n)).alloc (.cells (Array.replicate (n * 2) (.int .i64 0)) 74)) w3.heap.size (blkR 2 n 0 l1) ∧ RPen R0 (fun b => F b ∨ b = w3.heap.size) g l1 ((w3.setCell ⟨q, o, none⟩ (.slice (some ⟨w3.heap.size, 0, none⟩) n n)).alloc (.cells (Array.replicate (n * 2) (.int .i64 0)) 74)) ∧ Kept (fun b => F b ∧ b ≠ q) w ((w3.setCell ⟨q, o, none⟩ (.slice (some ⟨w3.heap.size, 0, none⟩) n n)).alloc (.cells (Array.replicate (n * 2) (.int .i64 0)) 74))) := by
        have hsz : (w3.setCell ⟨q, o, none⟩ (.slice (some ⟨w3.heap.size, 0, none⟩) n n)).heap.size = w3.heap.size := by simp [World.setCell]
        refine ⟨(hq3.set o _).alloc _, ?_, ?_, ?_⟩
        · have qb := blkR_first2 2 n l1
          skip
          rw [← qb]
          exact Has.new _ _ _ hsz
        · have q := (hw3.set (p := ⟨q, o, none⟩) hqo hgq (.slice (some ⟨w3.heap.size, 0, none⟩) n n)).grow (.cells (Array.replicate (n * 2) (.int .i64 0)) 74)
          rw [hsz] at q
          exact q
        · exact Kept.alloc ((hk3.less (fun b hb => hb.1)).set (fun hb => hb.2 rfl) _) (fun b hb => by rw [hsz]; exact hw3.low b hb.1) _
      have hR3 := hw3.size
      have hN3 : w.heap.size ≤ w3.heap.size := hk3.size
      have hFlow : ∀ b, F b → b < w3.heap.size := hw3.low
      clear hq3 hw3 hk3 HX
      go_wp2_with (at_make; refine wpList_make_run HMK.out rfl rfl rfl rfl ?_)
      clear HMK kc kf hkc ks3 hks
      generalize ((w3.setCell ⟨q, o, none⟩ (.slice (some ⟨w3.heap.size, 0, none⟩) n n)).alloc (.cells (Array.replicate (n * 2) (.int .i64 0)) 74)) = w5 at *
      go_loopw [30] (fun i wr => ∃ (j : Nat), j ≤ n ∧ i = .int .i64 j ∧ Kept (fun b => F b ∧ b ≠ q) w wr ∧ Hid (Has wr q (cs.setIfInBounds o (.slice (some ⟨w3.heap.size, 0, none⟩) n n)) ∧ Has wr w3.heap.size (blkR 2 n j l1) ∧ RPen R0 (fun b => F b ∨ b = w3.heap.size) g (rdRows 2 j l1).2 wr)) (fun i _ => n - (intOf i).toNat)
      case atStart => exact ⟨0, Nat.zero_le _, rfl, HY.out.2.2.2, ⟨HY.out.1, HY.out.2.1, HY.out.2.2.1⟩⟩
      case round =>
        clear HY
        obtain ⟨j, hj, rfl, hkw, hh⟩ := hrel
        by_cases hlt : j < n
        · obtain ⟨b1, b2, b3⟩ := rdRows_len 2 j l1
          have kc := hh.out.1.cell o (show (cs.setIfInBounds o (.slice (some ⟨w3.heap.size, 0, none⟩) n n))[o]? = some (.slice (some ⟨w3.heap.size, 0, none⟩) n n) from set_there HE.out.2.1)
          have hkc := hh.out.1.size
          have HSH := Lib.hid (rshow_tier R0 (fun b => F b ∨ b = w3.heap.size) g w3.heap.size (j * 2) p2 p4 (blkR 2 n j l1) (rdRows 2 j l1).2 wr hh.out.2.1 (fun i hi => by have qz := blkR_zero 2 n j i l1 hlt hi; exact qz) (.inr rfl) (by omega)
            (.inl hF2) (by have := hFlow p2 hF2; omega) ((cell_kept hkw (p := ⟨p2, 0, none⟩) ⟨hF2, h2q⟩).trans H2.out) (.inl hF4) (by have := hFlow p4 hF4; omega) ((cell_kept hkw (p := ⟨p4, 0, none⟩) ⟨hF4, h4q⟩).trans H4.out) hh.out.2.2 (by omega))
          have qs := blkR_step 2 n j l1 hlt
          skip
          have ES := Lib.hid qs
          clear qs
          clear b1 b2 b3
          go_wp2_with fail
          refine HSH.out.mono ?_
          rintro e w6 ⟨rfl, hk6, hh6, hw6⟩
          rw [ES.out] at hh6
          have hkF : Kept (fun b => F b) wr w6 := hk6.less (fun b hb => ⟨.inl hb, by have := hFlow b hb; omega⟩)
          have HH6 : Hid (Has w6 q (cs.setIfInBounds o (.slice (some ⟨w3.heap.size, 0, none⟩) n n)) ∧ Has w6 w3.heap.size (blkR 2 n (j + 1) l1) ∧ RPen R0 (fun b => F b ∨ b = w3.heap.size) g (rdRows 2 (j + 1) l1).2 w6) := ⟨hh.out.1.kept hq hkF, hh6, hw6⟩
          replace hkw := hkw.on (hkF.less fun b hb => hb.1)
          clear hk6 hh6 hw6 hkF hh kc hkc HSH ES
          go_wp2
          go_roundw
          case rel => exact ⟨j + 1, by omega, by go_num, hkw, HH6⟩
          case measure => simp [intOf]; omega
        · obtain rfl : j = n := by omega
          obtain ⟨b1, b2, b3⟩ := rdRows_len 2 j l1
          have HB1 := Lib.hid b1
          clear b1 b2 b3
          go_wp2
          refine bodyPost_end (v := .tuple #[]) (by simp [results, Try.results70]) rfl ?_
          rw [ER.out, HB1.out]
          exact ⟨some ⟨w3.heap.size, 0, none⟩, j, rfl, hkw, hh.out.1, tab_blk hh.out.2.1 hle, hh.out.2.2.less (fun b hb => by
            rcases hb with hb | ⟨a, ha, rfl⟩
            · exact .inl hb
            · injection ha with ha
              subst ha
              exact .inr rfl), fun a ha => by injection ha with ha; subst ha; exact hN3⟩
end Go.Proofs.Ytdhkfhgggkndoaa
