/-
  Package setup: lists, where they are written.
-/
import Derived.Test.YtdhkfhgggkndoaaSetJ
namespace Go.Proofs.Ytdhkfhgggkndoaa
open Go.RowKit
set_option linter.unusedVariables false
set_option linter.unusedSimpArgs false
set_option maxRecDepth 20000

/-- Where there is nothing it does not matter what stands there. -/
theorem Tab.blocks2 {w w' : World} {k n c : Nat} {A : Option Addr} {t : Rows2} (h : Tab k w A n c t) (hk : 0 < n → ∀ ad, A = some ad → w'.heap[ad.block]? = w.heap[ad.block]?) : Tab k w' A n c t := by
  rcases Nat.eq_zero_or_pos n with h0 | h0
  · subst h0
    have ht : t = [] := List.eq_nil_of_length_eq_zero h.len
    subst ht
    refine ⟨⟨by simp [ints], ?_⟩, h.len, h.wide, h.small, h.cap, h.max⟩
    obtain ⟨_, hx | ⟨ad, e, _⟩⟩ := h.sl
    · exact .inl hx
    · exact .inr ⟨ad, e, fun j u hu => by simp [ints] at hu⟩
  · exact h.blocks (hk h0)
theorem Tab.blk {w : World} {k n c : Nat} {A : Option Addr} {t : Rows2} (h : Tab k w A n c t) (hk : 0 < k) : 0 < n → ∀ a, A = some a → a.block < w.heap.size := by
  intro hn a ha
  obtain ⟨b, off, e⟩ := h.form hk hn
  rw [e] at h
  have := cell_lt (h.cell hn hk)
  rw [ha] at e
  injection e with e
  rw [e]
  exact this
theorem flat_snoc (t : Rows2) (j : Nat) (h : j < t.length) : bytesN (t.take (j + 1)).flatten = bytesN (t.take j).flatten ++ bytesN (t.getD j []) := by
  rw [List.take_succ_eq_append_getElem h, List.flatten_append, bytesN_append]
  simp [List.getD, h]
theorem flat_len (t : Rows2) (k j : Nat) (hw : ∀ r ∈ t, r.length = k) (hn : okN t.flatten) : (bytesN (t.take j).flatten).length ≤ 9 * (k * t.length) := by
  have h1 := put_len_le ((t.take j).flatten.map Int.toNat) (fun n hn' => by
    simp only [List.mem_map] at hn'
    obtain ⟨z, hz, rfl⟩ := hn'
    have : z ∈ t.flatten := by
      obtain ⟨r, hr, hzr⟩ := List.mem_flatten.1 hz
      exact List.mem_flatten.2 ⟨r, List.mem_of_mem_take hr, hzr⟩
    have := hn z this
    omega)
  have h2 := rows_len (k := k) (t.take j) (fun r hr => hw r (List.mem_of_mem_take hr))
  rw [List.length_map, h2, List.length_take] at h1
  unfold bytesN
  have h3 : k * min j t.length ≤ k * t.length := Nat.mul_le_mul_left k (Nat.min_le_right _ _)
  omega
theorem row_ok {t : Rows2} (hn : okN t.flatten) {j : Nat} (h : j < t.length) : okN (t.getD j []) := by
  intro z hz
  exact hn z (List.mem_flatten.2 ⟨t.getD j [], by simp [List.getD, h], hz⟩)

theorem rownats1 {r : List Int} (h : r.length = 1) (ho : okN r) : ∀ m ∈ [(r.getD 0 0).toNat], m < 9223372036854775808 := by
  intro m hm
  simp only [List.mem_cons, List.not_mem_nil, or_false] at hm
  have q : ∀ i, i < 1 → 0 ≤ r.getD i 0 ∧ r.getD i 0 ≤ 9223372036854775807 := fun i hi => ho _ (getD_in (by omega))
  rcases hm with rfl
  · have := q 0 (by omega); omega
theorem rowcell1 {r : List Int} (h : r.length = 1) (ho : okN r) : ∀ i, i < 1 → some (Value.int .i64 (r.getD i 0)) = some (.int .i64 ([(r.getD 0 0).toNat].getD i 0 : Nat)) := by
  intro i hi
  have q : ∀ i, i < 1 → 0 ≤ r.getD i 0 ∧ r.getD i 0 ≤ 9223372036854775807 := fun i hi => ho _ (getD_in (by omega))
  have e : ∀ z : Int, 0 ≤ z → some (Value.int .i64 z) = some (.int .i64 (z.toNat : Int)) := fun z hz => by rw [Int.toNat_of_nonneg hz]
  rcases (show i = 0 by omega) with rfl
  · exact e _ (q 0 (by omega)).1

theorem rownats2 {r : List Int} (h : r.length = 2) (ho : okN r) : ∀ m ∈ [(r.getD 0 0).toNat, (r.getD 1 0).toNat], m < 9223372036854775808 := by
  intro m hm
  simp only [List.mem_cons, List.not_mem_nil, or_false] at hm
  have q : ∀ i, i < 2 → 0 ≤ r.getD i 0 ∧ r.getD i 0 ≤ 9223372036854775807 := fun i hi => ho _ (getD_in (by omega))
  rcases hm with rfl | rfl
  · have := q 0 (by omega); omega
  · have := q 1 (by omega); omega
theorem rowcell2 {r : List Int} (h : r.length = 2) (ho : okN r) : ∀ i, i < 2 → some (Value.int .i64 (r.getD i 0)) = some (.int .i64 ([(r.getD 0 0).toNat, (r.getD 1 0).toNat].getD i 0 : Nat)) := by
  intro i hi
  have q : ∀ i, i < 2 → 0 ≤ r.getD i 0 ∧ r.getD i 0 ≤ 9223372036854775807 := fun i hi => ho _ (getD_in (by omega))
  have e : ∀ z : Int, 0 ≤ z → some (Value.int .i64 z) = some (.int .i64 (z.toNat : Int)) := fun z hz => by rw [Int.toNat_of_nonneg hz]
  rcases (show i = 0 ∨ i = 1 by omega) with rfl | rfl
  · exact e _ (q 0 (by omega)).1
  · exact e _ (q 1 (by omega)).1

theorem rownats3 {r : List Int} (h : r.length = 3) (ho : okN r) : ∀ m ∈ [(r.getD 0 0).toNat, (r.getD 1 0).toNat, (r.getD 2 0).toNat], m < 9223372036854775808 := by
  intro m hm
  simp only [List.mem_cons, List.not_mem_nil, or_false] at hm
  have q : ∀ i, i < 3 → 0 ≤ r.getD i 0 ∧ r.getD i 0 ≤ 9223372036854775807 := fun i hi => ho _ (getD_in (by omega))
  rcases hm with rfl | rfl | rfl
  · have := q 0 (by omega); omega
  · have := q 1 (by omega); omega
  · have := q 2 (by omega); omega
theorem rowcell3 {r : List Int} (h : r.length = 3) (ho : okN r) : ∀ i, i < 3 → some (Value.int .i64 (r.getD i 0)) = some (.int .i64 ([(r.getD 0 0).toNat, (r.getD 1 0).toNat, (r.getD 2 0).toNat].getD i 0 : Nat)) := by
  intro i hi
  have q : ∀ i, i < 3 → 0 ≤ r.getD i 0 ∧ r.getD i 0 ≤ 9223372036854775807 := fun i hi => ho _ (getD_in (by omega))
  have e : ∀ z : Int, 0 ≤ z → some (Value.int .i64 z) = some (.int .i64 (z.toNat : Int)) := fun z hz => by rw [Int.toNat_of_nonneg hz]
  rcases (show i = 0 ∨ i = 1 ∨ i = 2 by omega) with rfl | rfl | rfl
  · exact e _ (q 0 (by omega)).1
  · exact e _ (q 1 (by omega)).1
  · exact e _ (q 2 (by omega)).1

theorem rownats4 {r : List Int} (h : r.length = 4) (ho : okN r) : ∀ m ∈ [(r.getD 0 0).toNat, (r.getD 1 0).toNat, (r.getD 2 0).toNat, (r.getD 3 0).toNat], m < 9223372036854775808 := by
  intro m hm
  simp only [List.mem_cons, List.not_mem_nil, or_false] at hm
  have q : ∀ i, i < 4 → 0 ≤ r.getD i 0 ∧ r.getD i 0 ≤ 9223372036854775807 := fun i hi => ho _ (getD_in (by omega))
  rcases hm with rfl | rfl | rfl | rfl
  · have := q 0 (by omega); omega
  · have := q 1 (by omega); omega
  · have := q 2 (by omega); omega
  · have := q 3 (by omega); omega
theorem rowcell4 {r : List Int} (h : r.length = 4) (ho : okN r) : ∀ i, i < 4 → some (Value.int .i64 (r.getD i 0)) = some (.int .i64 ([(r.getD 0 0).toNat, (r.getD 1 0).toNat, (r.getD 2 0).toNat, (r.getD 3 0).toNat].getD i 0 : Nat)) := by
  intro i hi
  have q : ∀ i, i < 4 → 0 ≤ r.getD i 0 ∧ r.getD i 0 ≤ 9223372036854775807 := fun i hi => ho _ (getD_in (by omega))
  have e : ∀ z : Int, 0 ≤ z → some (Value.int .i64 z) = some (.int .i64 (z.toNat : Int)) := fun z hz => by rw [Int.toNat_of_nonneg hz]
  rcases (show i = 0 ∨ i = 1 ∨ i = 2 ∨ i = 3 by omega) with rfl | rfl | rfl | rfl
  · exact e _ (q 0 (by omega)).1
  · exact e _ (q 1 (by omega)).1
  · exact e _ (q 2 (by omega)).1
  · exact e _ (q 3 (by omega)).1

theorem rowway_eq {r : List Int} (h : r.length = 3) : r = [r.getD 0 0, r.getD 1 0, r.getD 2 0] := by
  match r, h with
  | [x0, x1, x2], _ => rfl
set_option maxHeartbeats 2000000 in
theorem wlist_way (F : Nat → Prop) (g q o p2 p4 : Nat) (A : Option Addr) (c n : Nat) (rows : Rows2) (l : List (BitVec 8)) (w : World) (hq : F q) (hcell : w.cell? ⟨q, o, none⟩ = some (.slice A n c)) (hT : Tab 3 w A n c rows) (hA : 0 < n → ∀ a, A = some a → F a.block) (hn : n ≤ 64) (hok : okN rows.flatten)
    (hF2 : F p2) (h2 : w.cell? ⟨p2, 0, none⟩ = some (.iface 61 (.pointer (some ⟨g, 0, none⟩)))) (hF4 : F p4) (h4 : w.cell? ⟨p4, 0, none⟩ = some (.func (.func 61) #[] #[.pointer (some ⟨p2, 0, none⟩)])) (h : WPen F g l w) (hl : l.length ≤ 1000000) :
    Calls Try.prog 63 #[.iface 61 (.pointer (some ⟨g, 0, none⟩)), .pointer (some ⟨q, o, none⟩), .func (.func 64) #[] #[.pointer (some ⟨p4, 0, none⟩)]] w fun e w' => e = .returned (.tuple #[]) ∧ Kept F w w' ∧ WPen F g (l ++ bytesN ((n : Int) :: rows.flatten)) w' := by
  have eg : ∀ args w, (callFunc 64 args).run Try.prog w = .ok (.enter 64 args) w := enters_of Try.func64 (by kernel_rfl) rfl
  have hqs := cell_lt hcell
  have hneq : q ≠ w.heap.size := by simp at hqs; omega
  have hnum := Lib.hid (wnum_any (fun b => F b ∨ b = w.heap.size) g ⟨w.heap.size, 0, none⟩ n l (w.alloc (.cells #[.int .i64 n] 3)) (by omega) (by simp) (h.grow _) (by omega))
  have hlow := h.low
  have o9 : (oneB n).length ≤ 9 := by have := digs_eight (show n < 9223372036854775808 by omega); have := @one_len n; omega
  have hflen := Lib.hid (fun j => flat_len rows 3 j hT.wide hok)
  have hrl := hT.len
  have HM := Lib.hid (method_w ⟨g, 0, none⟩)
  have HCELL := Lib.hid hcell
  have HT := Lib.hid hT
  have HOK := Lib.hid hok
  have H2 := Lib.hid h2
  have H4 := Lib.hid h4

  have HLO := Lib.hid hlow
  clear hT hok h2 h4 h hlow
  go_enter Try.func63, Try.ntmps63
  have hm := HM.out
  go_wp2_with fail
  refine hnum.out.mono ?_
  rintro e w2 ⟨rfl, hk2, hw2⟩
  clear hm hcell
  have ks := (cell_kept hk2 (p := ⟨w.heap.size, 0, none⟩) (.inr rfl)).trans (show _ = some (.int .i64 (n : Int)) by simp)
  have hks := cell_lt ks
  replace hk2 : Kept F w w2 := (Kept.of_below (bel_alloc (Below.refl _ _) _) HLO.out).on (hk2.less fun b hb => .inl hb)
  replace hw2 := Lib.hid (hw2.less (G := F) fun b hb => .inl hb)
  have kc := (cell_kept hk2 (p := ⟨q, o, none⟩) hq).trans HCELL.out
  have hkc := cell_lt kc
  go_wp2_with fail
  go_quiet (fail)
  go_wp2
  rename_i nq _
  have hk2' : Kept F w (w2.drewN nq) := hk2.on (Kept.of_below (below_drewN (Below.refl _ _) nq) hw2.out.low)
  have hw2' := Lib.hid (hw2.out.keep (below_drewN (Below.refl _ _) nq))
  go_loopw [30] (fun i wr => ∃ (j : Nat), j ≤ n ∧ i = .int .i64 j ∧ Kept F w wr ∧ Hid (WPen F g (l ++ oneB n ++ bytesN (rows.take j).flatten) wr)) (fun i _ => n - (intOf i).toNat)
  case atStart => exact ⟨0, Nat.zero_le _, rfl, hk2', by simp [bytesN, putB]; exact hw2'⟩
  case round =>
    clear kc hkc ks hks hk2 hw2 hk2' hw2'
    obtain ⟨j, hj, rfl, hkw, hw⟩ := hrel
    by_cases hlt : j < n
    · have kc := (cell_kept hkw (p := ⟨q, o, none⟩) hq).trans HCELL.out
      have hkc := cell_lt kc
      have ht := HT.out.blocks (w' := wr) (fun ad had => hkw.block _ (hA (by omega) ad had))
      obtain ⟨b, off, rfl⟩ := ht.form (by decide) (by omega)
      have hFb := hA (by omega) _ rfl
      have hro := row_ok HOK.out (show j < rows.length by omega)
      have hrw : (rows.getD j []).length = 3 := HT.out.wide _ (by simp [List.getD, show j < rows.length by omega])
      have hsn := flat_snoc rows j (by omega)
      have hll : (l ++ oneB n ++ bytesN (rows.take j).flatten).length ≤ 10000000 := by
        have := hflen.out j
        rw [List.length_append, List.length_append]
        omega
      have HSH := Lib.hid (wshow_way F g b (off + j * 3) p2 p4 ((rows.getD j []).getD 0 0).toNat ((rows.getD j []).getD 1 0).toNat ((rows.getD j []).getD 2 0).toNat (l ++ oneB n ++ bytesN (rows.take j).flatten) wr
        (fun m hm => by
          have e1 := rownats3 hrw hro
          exact e1 m hm)
        (fun i hi => by
          have hce := ht.cell hlt hi

          rw [hce]
          exact rowcell3 hrw hro i hi)
        hFb hF2 ((cell_kept hkw hF2).trans H2.out) hF4 ((cell_kept hkw hF4).trans H4.out) hw.out (by omega))
      have HE : Hid (l ++ oneB n ++ bytesN (rows.take j).flatten ++ putB [((rows.getD j []).getD 0 0).toNat, ((rows.getD j []).getD 1 0).toNat, ((rows.getD j []).getD 2 0).toNat] = l ++ oneB n ++ bytesN (rows.take (j + 1)).flatten) := by
        show _ = _
        rw [hsn, List.append_assoc]
        congr 2
        conv => rhs; rw [rowway_eq hrw]
        rfl
      clear hro hrw hsn hll ht hflen
      go_wp2_with fail
      refine HSH.out.mono ?_
      rintro e w3 ⟨rfl, hk3, hw3⟩
      rw [HE.out] at hw3
      have HW3 := Lib.hid hw3
      clear hw3 hw HSH HE
      go_wp2
      go_roundw
      case rel => exact ⟨j + 1, by omega, by go_num, hkw.on hk3, HW3⟩
      case measure => simp [intOf]; omega
    · obtain rfl : j = n := by omega
      have hw' := hw.out
      rw [← hrl, List.take_length, hrl] at hw'
      have HW' := Lib.hid hw'
      clear hw hw'
      go_wp2
      refine bodyPost_end (v := .tuple #[]) (by simp [results, Try.results63]) rfl ⟨rfl, hkw, ?_⟩
      rw [bytesN_cons, ← List.append_assoc]
      exact HW'.out

theorem rowele_eq {r : List Int} (h : r.length = 4) : r = [r.getD 0 0, r.getD 1 0, r.getD 2 0, r.getD 3 0] := by
  match r, h with
  | [x0, x1, x2, x3], _ => rfl
set_option maxHeartbeats 2000000 in
theorem wlist_ele (F : Nat → Prop) (g q o p2 p4 p5 : Nat) (A : Option Addr) (c n : Nat) (rows : Rows2) (l : List (BitVec 8)) (w : World) (hq : F q) (hcell : w.cell? ⟨q, o, none⟩ = some (.slice A n c)) (hT : Tab 4 w A n c rows) (hA : 0 < n → ∀ a, A = some a → F a.block) (hn : n ≤ 64) (hok : okN rows.flatten)
    (hF2 : F p2) (h2 : w.cell? ⟨p2, 0, none⟩ = some (.iface 61 (.pointer (some ⟨g, 0, none⟩)))) (hF4 : F p4) (h4 : w.cell? ⟨p4, 0, none⟩ = some (.func (.func 61) #[] #[.pointer (some ⟨p2, 0, none⟩)])) (hF5 : F p5) (h5 : w.cell? ⟨p5, 0, none⟩ = some (.func (.func 62) #[] #[.pointer (some ⟨p4, 0, none⟩)])) (h : WPen F g l w) (hl : l.length ≤ 1000000) :
    Calls Try.prog 65 #[.iface 61 (.pointer (some ⟨g, 0, none⟩)), .pointer (some ⟨q, o, none⟩), .func (.func 66) #[] #[.pointer (some ⟨p5, 0, none⟩)]] w fun e w' => e = .returned (.tuple #[]) ∧ Kept F w w' ∧ WPen F g (l ++ bytesN ((n : Int) :: rows.flatten)) w' := by
  have eg : ∀ args w, (callFunc 66 args).run Try.prog w = .ok (.enter 66 args) w := enters_of Try.func66 (by kernel_rfl) rfl
  have hqs := cell_lt hcell
  have hneq : q ≠ w.heap.size := by simp at hqs; omega
  have hnum := Lib.hid (wnum_any (fun b => F b ∨ b = w.heap.size) g ⟨w.heap.size, 0, none⟩ n l (w.alloc (.cells #[.int .i64 n] 3)) (by omega) (by simp) (h.grow _) (by omega))
  have hlow := h.low
  have o9 : (oneB n).length ≤ 9 := by have := digs_eight (show n < 9223372036854775808 by omega); have := @one_len n; omega
  have hflen := Lib.hid (fun j => flat_len rows 4 j hT.wide hok)
  have hrl := hT.len
  have HM := Lib.hid (method_w ⟨g, 0, none⟩)
  have HCELL := Lib.hid hcell
  have HT := Lib.hid hT
  have HOK := Lib.hid hok
  have H2 := Lib.hid h2
  have H4 := Lib.hid h4
  have H5 := Lib.hid h5
  have HLO := Lib.hid hlow
  clear hT hok h2 h4 h hlow h5
  go_enter Try.func65, Try.ntmps65
  have hm := HM.out
  go_wp2_with fail
  refine hnum.out.mono ?_
  rintro e w2 ⟨rfl, hk2, hw2⟩
  clear hm hcell
  have ks := (cell_kept hk2 (p := ⟨w.heap.size, 0, none⟩) (.inr rfl)).trans (show _ = some (.int .i64 (n : Int)) by simp)
  have hks := cell_lt ks
  replace hk2 : Kept F w w2 := (Kept.of_below (bel_alloc (Below.refl _ _) _) HLO.out).on (hk2.less fun b hb => .inl hb)
  replace hw2 := Lib.hid (hw2.less (G := F) fun b hb => .inl hb)
  have kc := (cell_kept hk2 (p := ⟨q, o, none⟩) hq).trans HCELL.out
  have hkc := cell_lt kc
  go_wp2_with fail
  go_quiet (fail)
  go_wp2
  rename_i nq _
  have hk2' : Kept F w (w2.drewN nq) := hk2.on (Kept.of_below (below_drewN (Below.refl _ _) nq) hw2.out.low)
  have hw2' := Lib.hid (hw2.out.keep (below_drewN (Below.refl _ _) nq))
  go_loopw [30] (fun i wr => ∃ (j : Nat), j ≤ n ∧ i = .int .i64 j ∧ Kept F w wr ∧ Hid (WPen F g (l ++ oneB n ++ bytesN (rows.take j).flatten) wr)) (fun i _ => n - (intOf i).toNat)
  case atStart => exact ⟨0, Nat.zero_le _, rfl, hk2', by simp [bytesN, putB]; exact hw2'⟩
  case round =>
    clear kc hkc ks hks hk2 hw2 hk2' hw2'
    obtain ⟨j, hj, rfl, hkw, hw⟩ := hrel
    by_cases hlt : j < n
    · have kc := (cell_kept hkw (p := ⟨q, o, none⟩) hq).trans HCELL.out
      have hkc := cell_lt kc
      have ht := HT.out.blocks (w' := wr) (fun ad had => hkw.block _ (hA (by omega) ad had))
      obtain ⟨b, off, rfl⟩ := ht.form (by decide) (by omega)
      have hFb := hA (by omega) _ rfl
      have hro := row_ok HOK.out (show j < rows.length by omega)
      have hrw : (rows.getD j []).length = 4 := HT.out.wide _ (by simp [List.getD, show j < rows.length by omega])
      have hsn := flat_snoc rows j (by omega)
      have hll : (l ++ oneB n ++ bytesN (rows.take j).flatten).length ≤ 10000000 := by
        have := hflen.out j
        rw [List.length_append, List.length_append]
        omega
      have HSH := Lib.hid (wshow_ele F g b (off + j * 4) p2 p4 p5 ((rows.getD j []).getD 0 0).toNat ((rows.getD j []).getD 1 0).toNat ((rows.getD j []).getD 2 0).toNat ((rows.getD j []).getD 3 0).toNat (l ++ oneB n ++ bytesN (rows.take j).flatten) wr
        (fun m hm => by
          have e1 := rownats4 hrw hro
          exact e1 m hm)
        (fun i hi => by
          have hce := ht.cell hlt hi

          rw [hce]
          exact rowcell4 hrw hro i hi)
        hFb hF2 ((cell_kept hkw hF2).trans H2.out) hF4 ((cell_kept hkw hF4).trans H4.out) hF5 ((cell_kept hkw hF5).trans H5.out) hw.out (by omega))
      have HE : Hid (l ++ oneB n ++ bytesN (rows.take j).flatten ++ putB [((rows.getD j []).getD 0 0).toNat, ((rows.getD j []).getD 1 0).toNat, ((rows.getD j []).getD 2 0).toNat, ((rows.getD j []).getD 3 0).toNat] = l ++ oneB n ++ bytesN (rows.take (j + 1)).flatten) := by
        show _ = _
        rw [hsn, List.append_assoc]
        congr 2
        conv => rhs; rw [rowele_eq hrw]
        rfl
      clear hro hrw hsn hll ht hflen
      go_wp2_with fail
      refine HSH.out.mono ?_
      rintro e w3 ⟨rfl, hk3, hw3⟩
      rw [HE.out] at hw3
      have HW3 := Lib.hid hw3
      clear hw3 hw HSH HE
      go_wp2
      go_roundw
      case rel => exact ⟨j + 1, by omega, by go_num, hkw.on hk3, HW3⟩
      case measure => simp [intOf]; omega
    · obtain rfl : j = n := by omega
      have hw' := hw.out
      rw [← hrl, List.take_length, hrl] at hw'
      have HW' := Lib.hid hw'
      clear hw hw'
      go_wp2
      refine bodyPost_end (v := .tuple #[]) (by simp [results, Try.results65]) rfl ⟨rfl, hkw, ?_⟩
      rw [bytesN_cons, ← List.append_assoc]
      exact HW'.out

theorem rowpart_eq {r : List Int} (h : r.length = 2) : r = [r.getD 0 0, r.getD 1 0] := by
  match r, h with
  | [x0, x1], _ => rfl
set_option maxHeartbeats 2000000 in
theorem wlist_part (F : Nat → Prop) (g q o p2 p4 : Nat) (A : Option Addr) (c n : Nat) (rows : Rows2) (l : List (BitVec 8)) (w : World) (hq : F q) (hcell : w.cell? ⟨q, o, none⟩ = some (.slice A n c)) (hT : Tab 2 w A n c rows) (hA : 0 < n → ∀ a, A = some a → F a.block) (hn : n ≤ 64) (hok : okN rows.flatten)
    (hF2 : F p2) (h2 : w.cell? ⟨p2, 0, none⟩ = some (.iface 61 (.pointer (some ⟨g, 0, none⟩)))) (hF4 : F p4) (h4 : w.cell? ⟨p4, 0, none⟩ = some (.func (.func 61) #[] #[.pointer (some ⟨p2, 0, none⟩)])) (h : WPen F g l w) (hl : l.length ≤ 1000000) :
    Calls Try.prog 67 #[.iface 61 (.pointer (some ⟨g, 0, none⟩)), .pointer (some ⟨q, o, none⟩), .func (.func 62) #[] #[.pointer (some ⟨p4, 0, none⟩)]] w fun e w' => e = .returned (.tuple #[]) ∧ Kept F w w' ∧ WPen F g (l ++ bytesN ((n : Int) :: rows.flatten)) w' := by
  have eg : ∀ args w, (callFunc 62 args).run Try.prog w = .ok (.enter 62 args) w := enters_of Try.func62 (by kernel_rfl) rfl
  have hqs := cell_lt hcell
  have hneq : q ≠ w.heap.size := by simp at hqs; omega
  have hnum := Lib.hid (wnum_any (fun b => F b ∨ b = w.heap.size) g ⟨w.heap.size, 0, none⟩ n l (w.alloc (.cells #[.int .i64 n] 3)) (by omega) (by simp) (h.grow _) (by omega))
  have hlow := h.low
  have o9 : (oneB n).length ≤ 9 := by have := digs_eight (show n < 9223372036854775808 by omega); have := @one_len n; omega
  have hflen := Lib.hid (fun j => flat_len rows 2 j hT.wide hok)
  have hrl := hT.len
  have HM := Lib.hid (method_w ⟨g, 0, none⟩)
  have HCELL := Lib.hid hcell
  have HT := Lib.hid hT
  have HOK := Lib.hid hok
  have H2 := Lib.hid h2
  have H4 := Lib.hid h4

  have HLO := Lib.hid hlow
  clear hT hok h2 h4 h hlow
  go_enter Try.func67, Try.ntmps67
  have hm := HM.out
  go_wp2_with fail
  refine hnum.out.mono ?_
  rintro e w2 ⟨rfl, hk2, hw2⟩
  clear hm hcell
  have ks := (cell_kept hk2 (p := ⟨w.heap.size, 0, none⟩) (.inr rfl)).trans (show _ = some (.int .i64 (n : Int)) by simp)
  have hks := cell_lt ks
  replace hk2 : Kept F w w2 := (Kept.of_below (bel_alloc (Below.refl _ _) _) HLO.out).on (hk2.less fun b hb => .inl hb)
  replace hw2 := Lib.hid (hw2.less (G := F) fun b hb => .inl hb)
  have kc := (cell_kept hk2 (p := ⟨q, o, none⟩) hq).trans HCELL.out
  have hkc := cell_lt kc
  go_wp2_with fail
  go_quiet (fail)
  go_wp2
  rename_i nq _
  have hk2' : Kept F w (w2.drewN nq) := hk2.on (Kept.of_below (below_drewN (Below.refl _ _) nq) hw2.out.low)
  have hw2' := Lib.hid (hw2.out.keep (below_drewN (Below.refl _ _) nq))
  go_loopw [30] (fun i wr => ∃ (j : Nat), j ≤ n ∧ i = .int .i64 j ∧ Kept F w wr ∧ Hid (WPen F g (l ++ oneB n ++ bytesN (rows.take j).flatten) wr)) (fun i _ => n - (intOf i).toNat)
  case atStart => exact ⟨0, Nat.zero_le _, rfl, hk2', by simp [bytesN, putB]; exact hw2'⟩
  case round =>
    clear kc hkc ks hks hk2 hw2 hk2' hw2'
    obtain ⟨j, hj, rfl, hkw, hw⟩ := hrel
    by_cases hlt : j < n
    · have kc := (cell_kept hkw (p := ⟨q, o, none⟩) hq).trans HCELL.out
      have hkc := cell_lt kc
      have ht := HT.out.blocks (w' := wr) (fun ad had => hkw.block _ (hA (by omega) ad had))
      obtain ⟨b, off, rfl⟩ := ht.form (by decide) (by omega)
      have hFb := hA (by omega) _ rfl
      have hro := row_ok HOK.out (show j < rows.length by omega)
      have hrw : (rows.getD j []).length = 2 := HT.out.wide _ (by simp [List.getD, show j < rows.length by omega])
      have hsn := flat_snoc rows j (by omega)
      have hll : (l ++ oneB n ++ bytesN (rows.take j).flatten).length ≤ 10000000 := by
        have := hflen.out j
        rw [List.length_append, List.length_append]
        omega
      have HSH := Lib.hid (wshow_part F g b (off + j * 2) p2 p4 ((rows.getD j []).getD 0 0).toNat ((rows.getD j []).getD 1 0).toNat (l ++ oneB n ++ bytesN (rows.take j).flatten) wr
        (fun m hm => by
          have e1 := rownats2 hrw hro
          exact e1 m hm)
        (fun i hi => by
          have hce := ht.cell hlt hi

          rw [hce]
          exact rowcell2 hrw hro i hi)
        hFb hF2 ((cell_kept hkw hF2).trans H2.out) hF4 ((cell_kept hkw hF4).trans H4.out) hw.out (by omega))
      have HE : Hid (l ++ oneB n ++ bytesN (rows.take j).flatten ++ putB [((rows.getD j []).getD 0 0).toNat, ((rows.getD j []).getD 1 0).toNat] = l ++ oneB n ++ bytesN (rows.take (j + 1)).flatten) := by
        show _ = _
        rw [hsn, List.append_assoc]
        congr 2
        conv => rhs; rw [rowpart_eq hrw]
        rfl
      clear hro hrw hsn hll ht hflen
      go_wp2_with fail
      refine HSH.out.mono ?_
      rintro e w3 ⟨rfl, hk3, hw3⟩
      rw [HE.out] at hw3
      have HW3 := Lib.hid hw3
      clear hw3 hw HSH HE
      go_wp2
      go_roundw
      case rel => exact ⟨j + 1, by omega, by go_num, hkw.on hk3, HW3⟩
      case measure => simp [intOf]; omega
    · obtain rfl : j = n := by omega
      have hw' := hw.out
      rw [← hrl, List.take_length, hrl] at hw'
      have HW' := Lib.hid hw'
      clear hw hw'
      go_wp2
      refine bodyPost_end (v := .tuple #[]) (by simp [results, Try.results67]) rfl ⟨rfl, hkw, ?_⟩
      rw [bytesN_cons, ← List.append_assoc]
      exact HW'.out

theorem rowone_eq {r : List Int} (h : r.length = 1) : r = [r.getD 0 0] := by
  match r, h with
  | [x0], _ => rfl
set_option maxHeartbeats 2000000 in
theorem wlist_one (F : Nat → Prop) (g q o p2 p4 : Nat) (A : Option Addr) (c n : Nat) (rows : Rows2) (l : List (BitVec 8)) (w : World) (hq : F q) (hcell : w.cell? ⟨q, o, none⟩ = some (.slice A n c)) (hT : Tab 1 w A n c rows) (hA : 0 < n → ∀ a, A = some a → F a.block) (hn : n ≤ 64) (hok : okN rows.flatten)
    (hF2 : F p2) (h2 : w.cell? ⟨p2, 0, none⟩ = some (.iface 61 (.pointer (some ⟨g, 0, none⟩)))) (hF4 : F p4) (h4 : w.cell? ⟨p4, 0, none⟩ = some (.func (.func 61) #[] #[.pointer (some ⟨p2, 0, none⟩)])) (h : WPen F g l w) (hl : l.length ≤ 1000000) :
    Calls Try.prog 68 #[.iface 61 (.pointer (some ⟨g, 0, none⟩)), .pointer (some ⟨q, o, none⟩), .func (.func 69) #[] #[.pointer (some ⟨p4, 0, none⟩)]] w fun e w' => e = .returned (.tuple #[]) ∧ Kept F w w' ∧ WPen F g (l ++ bytesN ((n : Int) :: rows.flatten)) w' := by
  have eg : ∀ args w, (callFunc 69 args).run Try.prog w = .ok (.enter 69 args) w := enters_of Try.func69 (by kernel_rfl) rfl
  have hqs := cell_lt hcell
  have hneq : q ≠ w.heap.size := by simp at hqs; omega
  have hnum := Lib.hid (wnum_any (fun b => F b ∨ b = w.heap.size) g ⟨w.heap.size, 0, none⟩ n l (w.alloc (.cells #[.int .i64 n] 3)) (by omega) (by simp) (h.grow _) (by omega))
  have hlow := h.low
  have o9 : (oneB n).length ≤ 9 := by have := digs_eight (show n < 9223372036854775808 by omega); have := @one_len n; omega
  have hflen := Lib.hid (fun j => flat_len rows 1 j hT.wide hok)
  have hrl := hT.len
  have HM := Lib.hid (method_w ⟨g, 0, none⟩)
  have HCELL := Lib.hid hcell
  have HT := Lib.hid hT
  have HOK := Lib.hid hok
  have H2 := Lib.hid h2
  have H4 := Lib.hid h4

  have HLO := Lib.hid hlow
  clear hT hok h2 h4 h hlow
  go_enter Try.func68, Try.ntmps68
  have hm := HM.out
  go_wp2_with fail
  refine hnum.out.mono ?_
  rintro e w2 ⟨rfl, hk2, hw2⟩
  clear hm hcell
  have ks := (cell_kept hk2 (p := ⟨w.heap.size, 0, none⟩) (.inr rfl)).trans (show _ = some (.int .i64 (n : Int)) by simp)
  have hks := cell_lt ks
  replace hk2 : Kept F w w2 := (Kept.of_below (bel_alloc (Below.refl _ _) _) HLO.out).on (hk2.less fun b hb => .inl hb)
  replace hw2 := Lib.hid (hw2.less (G := F) fun b hb => .inl hb)
  have kc := (cell_kept hk2 (p := ⟨q, o, none⟩) hq).trans HCELL.out
  have hkc := cell_lt kc
  go_wp2_with fail
  go_quiet (fail)
  go_wp2
  rename_i nq _
  have hk2' : Kept F w (w2.drewN nq) := hk2.on (Kept.of_below (below_drewN (Below.refl _ _) nq) hw2.out.low)
  have hw2' := Lib.hid (hw2.out.keep (below_drewN (Below.refl _ _) nq))
  go_loopw [30] (fun i wr => ∃ (j : Nat), j ≤ n ∧ i = .int .i64 j ∧ Kept F w wr ∧ Hid (WPen F g (l ++ oneB n ++ bytesN (rows.take j).flatten) wr)) (fun i _ => n - (intOf i).toNat)
  case atStart => exact ⟨0, Nat.zero_le _, rfl, hk2', by simp [bytesN, putB]; exact hw2'⟩
  case round =>
    clear kc hkc ks hks hk2 hw2 hk2' hw2'
    obtain ⟨j, hj, rfl, hkw, hw⟩ := hrel
    by_cases hlt : j < n
    · have kc := (cell_kept hkw (p := ⟨q, o, none⟩) hq).trans HCELL.out
      have hkc := cell_lt kc
      have ht := HT.out.blocks (w' := wr) (fun ad had => hkw.block _ (hA (by omega) ad had))
      obtain ⟨b, off, rfl⟩ := ht.form (by decide) (by omega)
      have hFb := hA (by omega) _ rfl
      have hro := row_ok HOK.out (show j < rows.length by omega)
      have hrw : (rows.getD j []).length = 1 := HT.out.wide _ (by simp [List.getD, show j < rows.length by omega])
      have hsn := flat_snoc rows j (by omega)
      have hll : (l ++ oneB n ++ bytesN (rows.take j).flatten).length ≤ 10000000 := by
        have := hflen.out j
        rw [List.length_append, List.length_append]
        omega
      have HSH := Lib.hid (wshow_one F g b (off + j) p2 p4 ((rows.getD j []).getD 0 0).toNat (l ++ oneB n ++ bytesN (rows.take j).flatten) wr
        (fun m hm => by
          have e1 := rownats1 hrw hro
          exact e1 m hm)
        (fun i hi => by
          have hce := ht.cell hlt hi
          rw [Nat.mul_one] at hce
          rw [hce]
          exact rowcell1 hrw hro i hi)
        hFb hF2 ((cell_kept hkw hF2).trans H2.out) hF4 ((cell_kept hkw hF4).trans H4.out) hw.out (by omega))
      have HE : Hid (l ++ oneB n ++ bytesN (rows.take j).flatten ++ putB [((rows.getD j []).getD 0 0).toNat] = l ++ oneB n ++ bytesN (rows.take (j + 1)).flatten) := by
        show _ = _
        rw [hsn, List.append_assoc]
        congr 2
        conv => rhs; rw [rowone_eq hrw]
        rfl
      clear hro hrw hsn hll ht hflen
      go_wp2_with fail
      refine HSH.out.mono ?_
      rintro e w3 ⟨rfl, hk3, hw3⟩
      rw [HE.out] at hw3
      have HW3 := Lib.hid hw3
      clear hw3 hw HSH HE
      go_wp2
      go_roundw
      case rel => exact ⟨j + 1, by omega, by go_num, hkw.on hk3, HW3⟩
      case measure => simp [intOf]; omega
    · obtain rfl : j = n := by omega
      have hw' := hw.out
      rw [← hrl, List.take_length, hrl] at hw'
      have HW' := Lib.hid hw'
      clear hw hw'
      go_wp2
      refine bodyPost_end (v := .tuple #[]) (by simp [results, Try.results68]) rfl ⟨rfl, hkw, ?_⟩
      rw [bytesN_cons, ← List.append_assoc]
      exact HW'.out

theorem rowtier_eq {r : List Int} (h : r.length = 2) : r = [r.getD 0 0, r.getD 1 0] := by
  match r, h with
  | [x0, x1], _ => rfl
set_option maxHeartbeats 2000000 in
theorem wlist_tier (F : Nat → Prop) (g q o p2 p4 : Nat) (A : Option Addr) (c n : Nat) (rows : Rows2) (l : List (BitVec 8)) (w : World) (hq : F q) (hcell : w.cell? ⟨q, o, none⟩ = some (.slice A n c)) (hT : Tab 2 w A n c rows) (hA : 0 < n → ∀ a, A = some a → F a.block) (hn : n ≤ 64) (hok : okN rows.flatten)
    (hF2 : F p2) (h2 : w.cell? ⟨p2, 0, none⟩ = some (.iface 61 (.pointer (some ⟨g, 0, none⟩)))) (hF4 : F p4) (h4 : w.cell? ⟨p4, 0, none⟩ = some (.func (.func 61) #[] #[.pointer (some ⟨p2, 0, none⟩)])) (h : WPen F g l w) (hl : l.length ≤ 1000000) :
    Calls Try.prog 70 #[.iface 61 (.pointer (some ⟨g, 0, none⟩)), .pointer (some ⟨q, o, none⟩), .func (.func 71) #[] #[.pointer (some ⟨p4, 0, none⟩)]] w fun e w' => e = .returned (.tuple #[]) ∧ Kept F w w' ∧ WPen F g (l ++ bytesN ((n : Int) :: rows.flatten)) w' := by
  have eg : ∀ args w, (callFunc 71 args).run Try.prog w = .ok (.enter 71 args) w := enters_of Try.func71 (by kernel_rfl) rfl
  have hqs := cell_lt hcell
  have hneq : q ≠ w.heap.size := by simp at hqs; omega
  have hnum := Lib.hid (wnum_any (fun b => F b ∨ b = w.heap.size) g ⟨w.heap.size, 0, none⟩ n l (w.alloc (.cells #[.int .i64 n] 3)) (by omega) (by simp) (h.grow _) (by omega))
  have hlow := h.low
  have o9 : (oneB n).length ≤ 9 := by have := digs_eight (show n < 9223372036854775808 by omega); have := @one_len n; omega
  have hflen := Lib.hid (fun j => flat_len rows 2 j hT.wide hok)
  have hrl := hT.len
  have HM := Lib.hid (method_w ⟨g, 0, none⟩)
  have HCELL := Lib.hid hcell
  have HT := Lib.hid hT
  have HOK := Lib.hid hok
  have H2 := Lib.hid h2
  have H4 := Lib.hid h4

  have HLO := Lib.hid hlow
  clear hT hok h2 h4 h hlow
  go_enter Try.func70, Try.ntmps70
  have hm := HM.out
  go_wp2_with fail
  refine hnum.out.mono ?_
  rintro e w2 ⟨rfl, hk2, hw2⟩
  clear hm hcell
  have ks := (cell_kept hk2 (p := ⟨w.heap.size, 0, none⟩) (.inr rfl)).trans (show _ = some (.int .i64 (n : Int)) by simp)
  have hks := cell_lt ks
  replace hk2 : Kept F w w2 := (Kept.of_below (bel_alloc (Below.refl _ _) _) HLO.out).on (hk2.less fun b hb => .inl hb)
  replace hw2 := Lib.hid (hw2.less (G := F) fun b hb => .inl hb)
  have kc := (cell_kept hk2 (p := ⟨q, o, none⟩) hq).trans HCELL.out
  have hkc := cell_lt kc
  go_wp2_with fail
  go_quiet (fail)
  go_wp2
  rename_i nq _
  have hk2' : Kept F w (w2.drewN nq) := hk2.on (Kept.of_below (below_drewN (Below.refl _ _) nq) hw2.out.low)
  have hw2' := Lib.hid (hw2.out.keep (below_drewN (Below.refl _ _) nq))
  go_loopw [30] (fun i wr => ∃ (j : Nat), j ≤ n ∧ i = .int .i64 j ∧ Kept F w wr ∧ Hid (WPen F g (l ++ oneB n ++ bytesN (rows.take j).flatten) wr)) (fun i _ => n - (intOf i).toNat)
  case atStart => exact ⟨0, Nat.zero_le _, rfl, hk2', by simp [bytesN, putB]; exact hw2'⟩
  case round =>
    clear kc hkc ks hks hk2 hw2 hk2' hw2'
    obtain ⟨j, hj, rfl, hkw, hw⟩ := hrel
    by_cases hlt : j < n
    · have kc := (cell_kept hkw (p := ⟨q, o, none⟩) hq).trans HCELL.out
      have hkc := cell_lt kc
      have ht := HT.out.blocks (w' := wr) (fun ad had => hkw.block _ (hA (by omega) ad had))
      obtain ⟨b, off, rfl⟩ := ht.form (by decide) (by omega)
      have hFb := hA (by omega) _ rfl
      have hro := row_ok HOK.out (show j < rows.length by omega)
      have hrw : (rows.getD j []).length = 2 := HT.out.wide _ (by simp [List.getD, show j < rows.length by omega])
      have hsn := flat_snoc rows j (by omega)
      have hll : (l ++ oneB n ++ bytesN (rows.take j).flatten).length ≤ 10000000 := by
        have := hflen.out j
        rw [List.length_append, List.length_append]
        omega
      have HSH := Lib.hid (wshow_tier F g b (off + j * 2) p2 p4 ((rows.getD j []).getD 0 0).toNat ((rows.getD j []).getD 1 0).toNat (l ++ oneB n ++ bytesN (rows.take j).flatten) wr
        (fun m hm => by
          have e1 := rownats2 hrw hro
          exact e1 m hm)
        (fun i hi => by
          have hce := ht.cell hlt hi

          rw [hce]
          exact rowcell2 hrw hro i hi)
        hFb hF2 ((cell_kept hkw hF2).trans H2.out) hF4 ((cell_kept hkw hF4).trans H4.out) hw.out (by omega))
      have HE : Hid (l ++ oneB n ++ bytesN (rows.take j).flatten ++ putB [((rows.getD j []).getD 0 0).toNat, ((rows.getD j []).getD 1 0).toNat] = l ++ oneB n ++ bytesN (rows.take (j + 1)).flatten) := by
        show _ = _
        rw [hsn, List.append_assoc]
        congr 2
        conv => rhs; rw [rowtier_eq hrw]
        rfl
      clear hro hrw hsn hll ht hflen
      go_wp2_with fail
      refine HSH.out.mono ?_
      rintro e w3 ⟨rfl, hk3, hw3⟩
      rw [HE.out] at hw3
      have HW3 := Lib.hid hw3
      clear hw3 hw HSH HE
      go_wp2
      go_roundw
      case rel => exact ⟨j + 1, by omega, by go_num, hkw.on hk3, HW3⟩
      case measure => simp [intOf]; omega
    · obtain rfl : j = n := by omega
      have hw' := hw.out
      rw [← hrl, List.take_length, hrl] at hw'
      have HW' := Lib.hid hw'
      clear hw hw'
      go_wp2
      refine bodyPost_end (v := .tuple #[]) (by simp [results, Try.results70]) rfl ⟨rfl, hkw, ?_⟩
      rw [bytesN_cons, ← List.append_assoc]
      exact HW'.out
end Go.Proofs.Ytdhkfhgggkndoaa
