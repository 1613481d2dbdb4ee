/-
  slices.Repeat, of one number.
-/
import Derived.Test.YtpgncbhahocmbaaGreatProg
import Derived.Test.YtpgncbhahocmbaaGreatQab
import Derived.Test.YtpgncbhahocmbaaGreatQac
import Derived.Laws.Bits64b
import Derived.Laws.CopyOwn
import Derived.Laws.Slices
import Derived.Deep.OwnRows
import Derived.Deep.RegionLaw
namespace Go.Proofs.YtpgncbhahocmbaaGreat
open Go.RowKit
set_option linter.unusedVariables false
set_option linter.unusedSimpArgs false
set_option maxRecDepth 20000

theorem mask_u64 (a : Nat) (ha : a < 4294967296) : bits .and .u64 (a : Int) 4294967295 = (a : Int) := by
  have h := bits_and_u64_nat a 4294967295 (by omega) (by omega)
  have e : a &&& 4294967295 = a % 2 ^ 32 := Nat.and_two_pow_sub_one_eq_mod a 32
  rw [e] at h
  refine h.trans ?_
  congr 1
  exact Nat.mod_eq_of_lt ha
theorem mul64_one (n : Nat) (hn : n ≤ 1000) (w : World) :
    Calls Tryz.prog 178 #[.int .u64 1, .int .u64 n] w fun e w' => e = .returned (.tuple #[.int .u64 0, .int .u64 n]) ∧ w' = w := by
  have h1 : bits .and .u64 1 4294967295 = 1 := mask_u64 1 (by omega)
  have h2 : bits .and .u64 (n : Int) 4294967295 = (n : Int) := mask_u64 n (by omega)
  have h3 : (n : Int) / 4294967296 = 0 := by omega
  have h4 : IntKind.u64.wrap (n : Int) = n := by rw [IntKind.wrap_u64]; omega
  have h5 : bits .and .u64 0 4294967295 = 0 := mask_u64 0 (by omega)
  go_enter Tryz.func178, Tryz.ntmps178
  go_wp2
  go_ret2
  exact ⟨rfl, rfl⟩
theorem mul_one (n : Nat) (hn : n ≤ 1000) (w : World) :
    Calls Tryz.prog 170 #[.int .u64 1, .int .u64 n] w fun e w' => e = .returned (.tuple #[.int .u64 0, .int .u64 n]) ∧ w' = w := by
  have c64 := mul64_one n hn w
  go_enter Tryz.func170, Tryz.ntmps170
  go_wp2_with fail
  refine c64.mono ?_
  rintro e w' ⟨rfl, rfl⟩
  go_wp2
  go_ret2
  exact ⟨rfl, rfl⟩
theorem exec_cut {P : Program} {o : Oper} {ρ : Operand → Value} {ww : World} {x : Operand} {l h m : Option Operand} {t : TypeId} {v v' : Value} {lo hi mx : Option Value}
    (hr : ∀ w', (Instr.sliceAt t v lo hi mx).run P w' = .ok v' w') (ho : o.op = .slice t x l h m) (hx : ρ x = v) (h1 : l.map ρ = lo) (h2 : h.map ρ = hi) (h3 : m.map ρ = mx) :
    (execOp ρ o).run P ww = .ok (.value v') ww := by
  simp [execOp, ho, hx, h1, h2, h3, hr, Result.andThen]
/-- n cells, of which the first k hold v. -/
def repL (v : Int) (n k : Nat) : List Value := List.replicate k (.int .i64 v) ++ List.replicate (n - k) (.int .i64 0)
theorem repL_len {v : Int} {n k : Nat} (h : k ≤ n) : (repL v n k).length = n := by simp [repL]; omega
theorem repL_more {v : Int} {n k m : Nat} (h : k + m ≤ n) : splice (repL v n k) k (List.replicate m (.int .i64 v)) = repL v n (k + m) := by
  unfold splice repL
  rw [List.take_append_of_le_length (by simp), List.take_of_length_le (by simp), List.length_replicate]
  rw [List.drop_append, List.drop_of_length_le (by simp), List.length_replicate, List.nil_append, List.drop_replicate, ← List.append_assoc, List.replicate_append_replicate]
  congr 2
  omega
theorem repL_get {v : Int} {n k j : Nat} (h : j < k) : (repL v n k)[j]? = some (.int .i64 v) := by
  unfold repL
  rw [List.getElem?_append_left (by simpa using h)]
  simp [h]
theorem repL_zero (v : Int) (n : Nat) : (madeCells #[.int .i64 0] n) = (repL v n 0).toArray := by
  apply Array.ext'
  simp [repL, madeCells]
  apply List.ext_getElem
  · simp
  · intro i h1 h2
    simp [Nat.mod_one]
theorem ints_size (w : World) : (sizeOf (Tryz.prog.elem 27)).run Tryz.prog w = .ok 1 w := by kernel_rfl
theorem cutI_from (g n k : Nat) (h : k < n) (h6 : n ≤ 1000) (w : World) : (Instr.sliceAt 27 (.slice (some ⟨g, 0, none⟩) n n) (some (.int .i64 (k : Int))) none none).run Tryz.prog w = .ok (.slice (some ⟨g, k, none⟩) (n - k) (n - k)) w := by
  rw [run_sliceAt_slice _ _ _ _ _ _ Tryz.underlying27, run_slice_l _ _ _ _ _ Tryz.underlying27 .i64 (k : Int) (by omega) (by omega), ints_size]
  have e : n ≠ k := by omega
  simp [sliced, Result.andThen, e, Addr.add]
  exact fun h => h.symm
theorem cutI_to (g n k : Nat) (h : k ≤ n) (h0 : 0 < n) (h6 : n ≤ 1000) (w : World) : (Instr.sliceAt 27 (.slice (some ⟨g, 0, none⟩) n n) none (some (.int .i64 (k : Int))) none).run Tryz.prog w = .ok (.slice (some ⟨g, 0, none⟩) k n) w := by
  rw [run_sliceAt_slice _ _ _ _ _ _ Tryz.underlying27, run_slice_h _ _ _ _ _ Tryz.underlying27 .i64 (k : Int) (by omega) (by omega), ints_size]
  have e : n ≠ 0 := by omega
  simp [sliced, Result.andThen, e, Addr.add]
theorem rowIs_below {w w' : World} {g n : Nat} {t : TypeId} {f : Nat → Value} (h : w.rowIs g t n f) (hb : Below w.heap.size w w') : w'.rowIs g t n f := h.of_block (hb.block _ h.lt)
theorem rep_row {w : World} {g n : Nat} {v : Int} (h : w.heap[g]? = some (.cells (repL v n n).toArray 3 (0, 0))) : w.rowIs g 3 n (fun _ => .int .i64 v) :=
  ⟨_, h, by simpa using repL_len (Nat.le_refl n), fun i hi => by simpa using repL_get hi⟩
set_option maxHeartbeats 2000000 in
theorem repeat_one (N : Nat) (w : World) (v : Int) (n : Nat) (hn : 1 ≤ n) (h6 : n ≤ 1000) (hx : w.cell? ⟨N, 0, none⟩ = some (.int .i64 v)) :
    Calls Tryz.prog 154 #[.slice (some ⟨N, 0, none⟩) 1 1, .int .i64 n] w fun e w' => ∃ g, e = .returned (.slice (some ⟨g, 0, none⟩) n n) ∧ w.heap.size ≤ g ∧ w'.rowIs g 3 n (fun _ => .int .i64 v) ∧ Below w.heap.size w w' := by
  have cM := mul_one n h6 w
  have hmk := run_make_row' (P := Tryz.prog) 27 3 (.int .i64 0) 8 Tryz.underlying27 int_info rfl .i64 .i64 n (by omega) (by omega)
  have hN := cell_lt hx
  have hw : IntKind.u64.wrap (n : Int) = n := by rw [IntKind.wrap_u64]; omega
  have hi : IntKind.i64.wrap (n : Int) = n := by rw [IntKind.wrap_i64]; omega
  go_enter Tryz.func154, Tryz.ntmps154
  go_wp2_with fail
  refine cM.mono ?_
  rintro e w1 ⟨rfl, rfl⟩
  have HG0 : (w1.alloc (.cells (madeCells #[.int .i64 0] n) 3)).heap[w1.heap.size]? = some (.cells (repL v n 0).toArray 3 (0, 0)) := by
    rw [← repL_zero]
    exact heap_alloc_new w1 _
  have HX : (w1.alloc (.cells (madeCells #[.int .i64 0] n) 3)).cell? ⟨N, 0, none⟩ = some (.int .i64 v) := (World.cell?_alloc_old _ _ _ (by show N ≠ w1.heap.size; omega)).trans hx
  have HP : ∀ j u, [Value.int .i64 v][j]? = some u → (w1.alloc (.cells (madeCells #[.int .i64 0] n) 3)).cell? ((⟨N, 0, none⟩ : Addr).add j) = some u := by
    intro j u hu
    obtain rfl : j = 0 := by
      rcases j with _ | j
      · rfl
      · simp at hu
    simp at hu
    subst hu
    exact HX
  have HN : [Value.int .i64 v].length = Nat.min 1 n := by show 1 = min 1 n; omega
  have HF : 0 + [Value.int .i64 v].length ≤ (repL v n 0).length := by rw [repL_len (by omega)]; simpa using hn
  have HO : ∀ x ∈ [Value.int .i64 v], x.oneCell' = true := by simp [Value.oneCell']
  have HB := bel_alloc (Below.refl w1.heap.size w1) (.cells (madeCells #[.int .i64 0] n) 3)
  go_wp2_with (refine wpList_copy_splice rfl (.tmp 31) (.tmp 32) 27 27 rfl 3 Tryz.underlying27 (by kernel_rfl) _ _ _ _ _ _ rfl rfl w1.heap.size 0 (repL v n 0) 3 HG0 [.int .i64 v] HN (fun _ => ⟨rfl, _, rfl, HP⟩) HF HO w1.heap.size w1 HB (Nat.le_refl _) ?_; intro w2 hg2 hb2)
  have e1 : splice (repL v n 0) 0 [.int .i64 v] = repL v n 1 := repL_more (m := 1) (by omega)
  rw [e1] at hg2
  clear HG0 HX hmk hx cM
  go_loopw [8] (fun s8 wr => ∃ k : Nat, 1 ≤ k ∧ k ≤ n ∧ s8 = .int .i64 k ∧ Hid (wr.heap[w1.heap.size]? = some (.cells (repL v n k).toArray 3 (0, 0))) ∧ Hid (Below w1.heap.size w1 wr)) (fun s8 _ => n - (intOf s8).toNat)
  case atStart => exact ⟨1, by omega, by omega, rfl, hg2, hb2⟩
  case round =>
    clear hg2 hb2
    obtain ⟨k, hk1, hkn, rfl, hg, hb⟩ := hrel
    by_cases hlt : k < n
    · have hlt' : (k : Int) < (n : Int) := by omega
      have HL1 := cutI_from w1.heap.size n k hlt h6
      have HL2 := cutI_to w1.heap.size n k hkn (by omega) h6
      obtain ⟨m, hm⟩ : ∃ m, min k (n - k) = m := ⟨_, rfl⟩
      have H1 : Hid ((List.replicate m (Value.int .i64 v)).length = Nat.min k (n - k)) := by show _ = min k (n - k); simp [hm]
      have H2 : Hid (∀ j u, (List.replicate m (Value.int .i64 v))[j]? = some u → wr.cell? ((⟨w1.heap.size, 0, none⟩ : Addr).add j) = some u) := by
        intro j u hu
        rw [List.getElem?_replicate] at hu
        split at hu
        · rename_i hj
          injection hu with hu
          subst hu
          rw [tab_add, Nat.zero_add, cell_of_row wr w1.heap.size j _ _ _ hg.out]
          simpa using repL_get (v := v) (n := n) (show j < k by omega)
        · cases hu
      have H3 : Hid (k + (List.replicate m (Value.int .i64 v)).length ≤ (repL v n k).length) := by show _ ≤ _; rw [repL_len hkn]; simp; omega
      have H4 : Hid (∀ x ∈ List.replicate m (Value.int .i64 v), x.oneCell' = true) := by intro x hx; obtain ⟨_, rfl⟩ := List.mem_replicate.1 hx; rfl
      have H5 : Hid (splice (repL v n k) k (List.replicate m (.int .i64 v)) = repL v n (k + m)) := repL_more (by omega)
      have hlen : (List.replicate m (Value.int .i64 v)).length = m := by simp
      have H6 : Hid (1 ≤ m ∧ k + m ≤ n) := by show _ ∧ _; omega
      generalize List.replicate m (Value.int .i64 v) = cs at *
      clear hm
      go_wp2_with fail
      refine wp_region_noPanic ?_
      refine wp_region_held_drew (S := fun w' => Below w1.heap.size w1 w') (by kernel_rfl) (below_drew (hb.out)) (fun hHeld => ?_)
      refine wpAnyH_take (i := 0) (oi := ⟨some 38, _, _, _, _, _⟩) (v := ?_) rfl (by kernel_rfl) (by kernel_rfl) (by kernel_rfl) (fun _ _ _ h => h) (Or.inl ⟨by rfl, ?_⟩) hHeld ?_
      rotate_left
      · intro ww hSw
        (try dsimp only at hSw)
        go_simp
        (try with_reducible rfl)
      simp only [Act.put, List.setIfInBounds_toArray, List.set_cons_zero, List.set_cons_succ]
      refine wpAnyH_take (i := 1) (oi := ⟨some 39, _, _, _, _, _⟩) (v := ?_) rfl (by kernel_rfl) (by kernel_rfl) (by kernel_rfl) (fun _ _ _ h => h) (Or.inl ⟨by rfl, ?_⟩) hHeld ?_
      rotate_left
      · intro ww hSw
        (try dsimp only at hSw)
        go_simp
        (try with_reducible rfl)
      simp only [Act.put, List.setIfInBounds_toArray, List.set_cons_zero, List.set_cons_succ]
      refine wpAnyH_take (i := 2) (oi := ⟨some 40, _, _, _, _, _⟩) (v := ?_) rfl (by kernel_rfl) (by kernel_rfl) (by kernel_rfl) (fun _ _ _ h => h) (Or.inl ⟨by rfl, ?_⟩) hHeld ?_
      rotate_left
      · intro ww hSw
        (try dsimp only at hSw)
        go_simp
        (try with_reducible rfl)
      simp only [Act.put, List.setIfInBounds_toArray, List.set_cons_zero, List.set_cons_succ]
      refine wpAnyH_take (i := 3) (oi := ⟨some 41, _, _, _, _, _⟩) (v := .slice (some ⟨w1.heap.size, k, none⟩) (n - k) (n - k)) rfl (by kernel_rfl) (by kernel_rfl) (by kernel_rfl) (fun _ _ _ h => h) (Or.inl ⟨by rfl, ?_⟩) hHeld ?_
      · intro ww hSw
        (try dsimp only at hSw)
        exact exec_cut HL1 rfl rfl rfl rfl rfl
      simp only [Act.put, List.setIfInBounds_toArray, List.set_cons_zero, List.set_cons_succ]
      refine wpAnyH_take (i := 4) (oi := ⟨some 42, _, _, _, _, _⟩) (v := ?_) rfl (by kernel_rfl) (by kernel_rfl) (by kernel_rfl) (fun _ _ _ h => h) (Or.inl ⟨by rfl, ?_⟩) hHeld ?_
      rotate_left
      · intro ww hSw
        (try dsimp only at hSw)
        go_simp
        (try with_reducible rfl)
      simp only [Act.put, List.setIfInBounds_toArray, List.set_cons_zero, List.set_cons_succ]
      refine wpAnyH_take (i := 5) (oi := ⟨some 43, _, _, _, _, _⟩) (v := ?_) rfl (by kernel_rfl) (by kernel_rfl) (by kernel_rfl) (fun _ _ _ h => h) (Or.inl ⟨by rfl, ?_⟩) hHeld ?_
      rotate_left
      · intro ww hSw
        (try dsimp only at hSw)
        go_simp
        (try with_reducible rfl)
      simp only [Act.put, List.setIfInBounds_toArray, List.set_cons_zero, List.set_cons_succ]
      refine wpAnyH_take (i := 6) (oi := ⟨some 44, _, _, _, _, _⟩) (v := .slice (some ⟨w1.heap.size, 0, none⟩) k n) rfl (by kernel_rfl) (by kernel_rfl) (by kernel_rfl) (fun _ _ _ h => h) (Or.inl ⟨by rfl, ?_⟩) hHeld ?_
      · intro ww hSw
        (try dsimp only at hSw)
        exact exec_cut HL2 rfl rfl rfl rfl rfl
      simp only [Act.put, List.setIfInBounds_toArray, List.set_cons_zero, List.set_cons_succ]
      refine wpAnyH_ready (rs := [7]) (by kernel_rfl) (by simp) ?_
      refine AllReadyH.cons (o := ⟨some 45, _, _, _, _, _⟩) rfl (fun K hK => ?_) AllReadyH.nil
      refine step_copy_splice rfl (.tmp 41) (.tmp 44) 27 27 rfl 3 Tryz.underlying27 (by kernel_rfl) (some ⟨w1.heap.size, k, none⟩) (some ⟨w1.heap.size, 0, none⟩) (n - k) (n - k) k n rfl rfl w1.heap.size k (repL v n k) 3 hg.out cs H1.out (fun _ => ⟨rfl, _, rfl, H2.out⟩) H3.out H4.out w1.heap.size w1 (below_drew hb.out) (Nat.le_refl _) ?_
      intro w3 hg3 hb3
      refine hK.out _ _ ?_ (fun hHeld => ?_)
      · (try dsimp only)
        exact hb3
      clear hK K
      (try simp only [Act.put, List.setIfInBounds_toArray, List.set_cons_zero, List.set_cons_succ])
      refine wpAnyH_take (i := 8) (oi := ⟨some 46, _, _, _, _, _⟩) (v := ?_) rfl (by kernel_rfl) (by kernel_rfl) (by kernel_rfl) (fun _ _ _ h => h) (Or.inl ⟨by rfl, ?_⟩) hHeld ?_
      rotate_left
      · intro ww hSw
        (try dsimp only at hSw)
        go_simp
        (try with_reducible rfl)
      simp only [Act.put, List.setIfInBounds_toArray, List.set_cons_zero, List.set_cons_succ]
      refine wpAnyH_take (i := 9) (oi := ⟨some 8, _, _, _, _, _⟩) (v := ?_) rfl (by kernel_rfl) (by kernel_rfl) (by kernel_rfl) (fun _ _ _ h => h) (Or.inl ⟨by rfl, ?_⟩) hHeld ?_
      rotate_left
      · intro ww hSw
        (try dsimp only at hSw)
        go_simp
        (try with_reducible rfl)
      simp only [Act.put, List.setIfInBounds_toArray, List.set_cons_zero, List.set_cons_succ]
      refine wpAnyH_done (by kernel_rfl) ?_ _
      refine NoPanic.normal ?_
      simp only [goInt, hlen]
      have e7 : IntKind.i64.wrap ((k : Int) + (m : Int)) = ((k + m : Nat) : Int) := by rw [IntKind.wrap_i64]; have := H6.out; omega
      rw [e7]
      have h6 := H6.out
      have e5 := H5.out
      rw [e5] at hg3
      go_wp2
      go_roundw
      case rel => exact ⟨k + m, by omega, H6.out.2, rfl, hg3, hb3⟩
      case measure => simp [intOf]; omega
    · have hlt' : ¬ (k : Int) < (n : Int) := by omega
      obtain rfl : k = n := by omega
      go_wp2
      go_ret
      exact ⟨_, rfl, Nat.le_refl _, rep_row hg.out, hb.out⟩
end Go.Proofs.YtpgncbhahocmbaaGreat
