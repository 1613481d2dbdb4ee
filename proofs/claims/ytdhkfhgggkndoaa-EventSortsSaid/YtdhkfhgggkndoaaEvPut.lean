/-
  event.Put: an event's bytes behind others.
-/
import Derived.Test.YtdhkfhgggkndoaaEvFair
import Derived.Test.YtdhkfhgggkndoaaNRow
import Derived.Test.YtdhkfhgggkndoaaPkC
import Derived.Test.YtdhkfhgggkndoaaByOld
namespace Go.Proofs.Ytdhkfhgggkndoaa
open Go.RowKit
set_option linter.unusedVariables false
set_option linter.unusedSimpArgs false

/-- Pointers that lie between B and E. -/
def PtrsB (B E : Nat) (w : World) (A : Option Addr) (g : Nat) (L : List Nat) : Prop := ∀ k, k < L.length → ∃ b off, A = some ⟨b, off, none⟩ ∧ B ≤ b ∧ b < E ∧ w.cell? ⟨b, off + k, none⟩ = some (ptrV g (L.getD k 0))
theorem ptrsB_of {B : Nat} {w : World} {A : Option Addr} {g : Nat} {L : List Nat} (h : EPtrsN B w A g L) : PtrsB B w.heap.size w A g L := h
theorem PtrsB.keep {B E : Nat} {w w' : World} {A : Option Addr} {g : Nat} {L : List Nat} (h : PtrsB B E w A g L) (hk : ∀ p : Addr, B ≤ p.block → p.block < E → w'.cell? p = w.cell? p) : PtrsB B E w' A g L := by
  intro k hl
  obtain ⟨b, off, e, hB, hlt, hc⟩ := h k hl
  exact ⟨b, off, e, hB, hlt, (hk _ hB hlt).trans hc⟩
/-- An append of numbers that are laid for it; what it leaves. -/
theorem nrow_lay2 {w : World} {base c : Nat} {A : Option Addr} {xs ys : List Int} (h : NRow w base A c xs) {n : Nat} (hn : xs.length = n) {k : Nat} (hk : ys.length = k) (hm : n + k ≤ 1000000000) (hbase : base ≤ w.heap.size) {s : Nat} (hs : w.heap.size = s) :
    ∃ A' c' w', (Builtin.append_ #[27, 27] 27 #[.slice A n c, .slice (some ⟨s, 0, none⟩) k k]).run Try.prog (w.alloc (.cells (ints .i64 ys).toArray 3)) = .ok (.slice A' (n + k) c') w' ∧ NRow w' base A' c' (xs ++ ys) ∧
      (∀ a : World, a.heap.size ≤ base → Below a.heap.size a w → Below a.heap.size a w') ∧ s ≤ w'.heap.size ∧
      (∀ b, b < s → (∀ ad, A = some ad → ad.block ≠ b) → w'.heap[b]? = w.heap[b]?) ∧ (∀ ad, A' = some ad → (∃ a0, A = some a0 ∧ ad.block = a0.block) ∨ s ≤ ad.block) := by
  subst hn hk hs
  obtain ⟨A', c', w', hr, ho, hg, hl⟩ := append_any (P := Try.prog) (w.alloc (.cells (ints .i64 ys).toArray 3)) base 27 27 3 _ 1 8 Try.underlying27 int_info rfl (by omega) (World.ownsRow.alloc h _)
    (Sl.of_own (own_new w 3 1 ys.length (ints .i64 ys).toArray (by simp [ints]) (by simp only [maxLen]; omega))) (ints_one .i64 ys) (xs.length + ys.length) rfl (ints .i64 (xs ++ ys)) (by simp [ints]) (by omega) (by omega) (by simp; omega)
  have ho' : NRow w' base A' c' (xs ++ ys) := by
    unfold NRow
    rw [List.length_append]
    exact ho
  have hsz := hg.size
  simp at hsz
  refine ⟨A', c', w', hr, ho', fun a ha hb => bel_grown (hb.alloc hb.size _) (World.ownsRow.alloc h _) ha hg, by omega, fun b hb hne => ?_, fun ad had => ?_⟩
  · rw [hg.block b (by simp; omega) ?_]
    · exact Below.heap_alloc w _ b hb
    · intro e
      cases A with
      | none => simp [Value.ownBlock] at e
      | some a0 => simp [Value.ownBlock] at e; exact hne a0 rfl e.symm
  · subst had
    rcases hl with e | e
    · cases A with
      | none => simp [Value.ownBlock] at e
      | some a0 => simp [Value.ownBlock] at e; exact .inl ⟨a0, rfl, e⟩
    · simp [Value.ownBlock] at e; exact .inr (by omega)
theorem evC_at (e : EvP) {o : Nat} (h : o < 11) : (evC e)[o]? = some (.int .i64 ((evL e).getD o 0)) := by
  match o, h with
  | 0, _ | 1, _ | 2, _ | 3, _ | 4, _ | 5, _ | 6, _ | 7, _ | 8, _ | 9, _ | 10, _ => rfl
theorem map_take_snoc {α : Type} (f : Nat → α) (L : List Nat) (k : Nat) (h : k < L.length) : (L.take (k + 1)).map f = (L.take k).map f ++ [f (L.getD k 0)] := by
  rw [List.take_succ_eq_append_getElem h, List.map_append, List.map_cons, List.map_nil, List.getD, List.getElem?_eq_getElem h, Option.getD_some]
theorem ev_bytes_put {e : EvP} (h : e.Fair) : e.bytes = putB (e.nums.map Int.toNat) ∧ (∀ n ∈ e.nums.map Int.toNat, n < 9223372036854775808) ∧ (e.nums.map Int.toNat).map (fun n : Nat => (n : Int)) = e.nums := by
  have hk := ev_ok h
  refine ⟨rfl, fun n hn => ?_, ?_⟩
  · simp only [List.mem_map] at hn
    obtain ⟨z, hz, rfl⟩ := hn
    have := hk z hz
    omega
  · rw [List.map_map]
    conv => rhs; rw [← List.map_id e.nums]
    exact List.map_congr_left (fun z hz => by have := hk z hz; simp; omega)
theorem putE_bad (A : Option Addr) (m c : Nat) (e : EvP) (W : World) (hi : e.In) (hf : ¬ e.Fair) :
    Calls Try.prog 17 #[.slice A m c, .agg (evC e)] W fun r w' => r = .returned (.tuple #[.slice none 0 0, .int .i64 80]) ∧ Below W.heap.size W w' := by
  have HC : Hid (∀ w, Calls Try.prog 47 #[.agg (evC e)] w fun r w' => r = .returned (.bool false) ∧ Below w.heap.size w w') := Lib.hid (fun w => by
    have := fair_any e w hi
    rw [decide_eq_false hf] at this
    exact this)
  have hz := evC_size e
  have h1 := evC_one e
  clear hi hf
  generalize evC e = cs at *
  have HZ := Lib.hid hz
  have H1 := Lib.hid h1
  clear hz h1
  go_enter Try.func17, Try.ntmps17
  go_wp2_with (refine wpList_load_e (by rfl) _ rfl W.heap.size rfl cs (Has.new W _ cs rfl) HZ.out ?_)
  refine (HC.out _).mono ?_
  rintro r w1 ⟨rfl, b1⟩
  go_wp2
  go_ret2
  exact ⟨rfl, bel_new (Below.refl _ _) (by simpa using b1)⟩
set_option maxRecDepth 20000 in
set_option maxHeartbeats 1000000 in
theorem putE_ok (A0 : Option Addr) (m0 c0 : Nat) (xs : List (BitVec 8)) (e : EvP) (W : World) (hf : e.Fair) (hi : e.In) (hx : Sl 1 W A0 m0 c0 (bytesV xs)) (hm : m0 ≤ 100000000000) :
    Calls Try.prog 17 #[.slice A0 m0 c0, .agg (evC e)] W fun r w' => ∃ A' c', r = .returned (.tuple #[.slice A' (m0 + e.bytes.length) c', .int .i64 0]) ∧ BRow w' W.heap.size A' c' (xs ++ e.bytes) ∧ Below W.heap.size W w' := by
  have HC : Hid (∀ w, Calls Try.prog 47 #[.agg (evC e)] w fun r w' => r = .returned (.bool true) ∧ Below w.heap.size w w') := Lib.hid (fun w => by
    have := fair_any e w hi
    rw [decide_eq_true hf] at this
    exact this)
  have HX := Lib.hid hx
  have HK := Lib.hid hi.kd
  have HP := Lib.hid (ev_bytes_put hf)
  have HN := Lib.hid (ev_nums e)
  have hz := evC_size e
  have HCL : Hid (∀ o : Nat, o < 11 → (evC e)[o]? = some (.int .i64 ((evL e).getD o 0))) := Lib.hid (fun o ho => evC_at e ho)
  have h0 : (evC e)[0]? = some (.int .i64 e.id) := rfl
  have h1 : (evC e)[1]? = some (.int .i64 e.wk) := rfl
  have h2 : (evC e)[2]? = some (.int .i64 e.tm) := rfl
  have h3 : (evC e)[3]? = some (.int .i64 e.kd) := rfl
  clear hi hf hx
  generalize evC e = cs at *
  have HZ := Lib.hid hz
  have H0 := Lib.hid h0
  have H1 := Lib.hid h1
  have H2 := Lib.hid h2
  have H3 := Lib.hid h3
  clear hz h0 h1 h2 h3
  go_enter Try.func17, Try.ntmps17
  go_wp2_with (refine wpList_load_e (by rfl) _ rfl W.heap.size rfl cs (Has.new W _ cs rfl) HZ.out ?_)
  refine (HC.out _).mono ?_
  rintro r w1 ⟨rfl, b1⟩
  have HB : Hid (Has w1 W.heap.size cs) := Lib.hid ((Has.new W 43 cs rfl).below b1)
  have hb1 : Below W.heap.size W w1 := bel_new (Below.refl _ _) (by simpa using b1)
  clear b1
  obtain ⟨G, hG⟩ : ∃ G, W.heap.size = G := ⟨_, rfl⟩
  have HGW : Hid (W.heap.size ≤ G) := Lib.hid (by omega)
  rw [hG] at HB ⊢
  clear hG
  have k0 := HB.out.cell 0 H0.out
  have k1 := HB.out.cell 1 H1.out
  have k2 := HB.out.cell 2 H2.out
  have k3 := HB.out.cell 3 H3.out
  go_wp2_with fail
  obtain ⟨F, hF⟩ : ∃ F, w1.heap.size = F := ⟨_, rfl⟩
  have hrow : NRow (w1.alloc (.cells #[.int .i64 e.id, .int .i64 e.wk, .int .i64 e.tm, .int .i64 e.kd] 3)) F (some ⟨F, 0, none⟩) 4 [e.id, e.wk, e.tm, e.kd] := by subst hF; exact nrow_new w1 [e.id, e.wk, e.tm, e.kd] rfl (by omega)
  have HB2 := Lib.hid (HB.out.alloc (.cells #[.int .i64 e.id, .int .i64 e.wk, .int .i64 e.tm, .int .i64 e.kd] 3))
  have hb2 : Below W.heap.size W (w1.alloc (.cells #[.int .i64 e.id, .int .i64 e.wk, .int .i64 e.tm, .int .i64 e.kd] 3)) := bel_alloc hb1 _
  have hGF : G < F := by have := HB.out.size; omega
  have hWF : W.heap.size ≤ F := by have := hb1.size; omega
  have hF2 : F < (w1.alloc (.cells #[.int .i64 e.id, .int .i64 e.wk, .int .i64 e.tm, .int .i64 e.kd] 3)).heap.size := by simp; omega
  rw [hF]
  clear hF k0 k1 k2 k3 HB H0 H1 H2 hb1
  generalize (w1.alloc (.cells #[.int .i64 e.id, .int .i64 e.wk, .int .i64 e.tm, .int .i64 e.kd] 3)) = w2 at *
  have HR := Lib.hid hrow
  clear hrow
  refine wp_region_noPanic ?_
  refine wp_region_held_drew (S := fun w' => Below w2.heap.size w2 w') (by kernel_rfl) (below_drew (Below.refl _ _)) (fun hHeld => ?_)
  refine wpAnyH_take (i := 5) (oi := ⟨some 26, _, _, _, _, _⟩) (v := ?_) rfl (by kernel_rfl) (by kernel_rfl) (by kernel_rfl) (fun _ _ _ h => h) (Or.inl ⟨by rfl, ?_⟩) hHeld ?_
  rotate_left
  · intro ww hSw
    (try dsimp only at hSw)
    go_simp
    (try with_reducible rfl)
  simp only [Act.put, List.setIfInBounds_toArray, List.set_cons_zero, List.set_cons_succ]
  refine wpAnyH_take (i := 1) (oi := ⟨some 22, _, _, _, _, _⟩) (v := ?_) rfl (by kernel_rfl) (by kernel_rfl) (by kernel_rfl) (fun _ _ _ h => h) (Or.inl ⟨by rfl, ?_⟩) hHeld ?_
  rotate_left
  · intro ww hSw
    (try dsimp only at hSw)
    go_simp
    (try with_reducible rfl)
  simp only [Act.put, List.setIfInBounds_toArray, List.set_cons_zero, List.set_cons_succ]
  refine wpAnyH_take (i := 2) (oi := ⟨some 23, _, _, _, _, _⟩) (v := .int .i64 e.kd) rfl (by kernel_rfl) (by kernel_rfl) (by kernel_rfl) (fun _ _ _ h => h) (Or.inl ⟨by rfl, ?_⟩) hHeld ?_
  · intro ww hSw
    (try dsimp only at hSw)
    have hc := (hSw.cell (p := ⟨G, 3, none⟩) HB2.out.size).trans (HB2.out.cell 3 H3.out)
    go_simp
  simp only [Act.put, List.setIfInBounds_toArray, List.set_cons_zero, List.set_cons_succ]
  refine wpAnyH_ready (rs := [0]) (by kernel_rfl) (by simp) ?_
  refine AllReadyH.cons (o := ⟨some 21, _, _, _, _, _⟩) rfl (fun K hK => ?_) AllReadyH.nil
  go_simp
  go_at_call 48
  refine (own_c _ _).mono ?_
  rintro e_r w3 ⟨m, rfl, hbn, hL⟩
  have hbw3 : Below w2.heap.size w2 w3 := bel_on (show Below w2.heap.size w2 _ by (repeat' (first | with_reducible exact Below.refl _ _ | with_reducible assumption | with_reducible refine bel_alloc ?_ _ | with_reducible refine bel_set ?_ ?_ _ | with_reducible refine below_drewN ?_ _ | with_reducible refine below_drew ?_ | (simp; done) | (simp; omega) | omega))) hbn
  clear hbn
  go_wp2_with fail
  refine hK.out _ _ ?_ (fun hHeld => ?_)
  · (try dsimp only)
    exact hbw3
  clear hK K
  (try simp only [Act.put, List.setIfInBounds_toArray, List.set_cons_zero, List.set_cons_succ])
  obtain ⟨A, n, c, hn, hn6, hnc, hc6, hP, hq1, hq2⟩ := hL e.kd HK.out
  clear hL hq1
  refine wpAnyH_ready (rs := [3]) (by kernel_rfl) (by simp) ?_
  refine AllReadyH.cons (o := ⟨some 24, _, _, _, _, _⟩) rfl (fun K hK => ?_) AllReadyH.nil
  go_simp
  refine hK.out _ _ ?_ (fun hHeld => ?_)
  · (try dsimp only)
    exact hbw3
  clear hK K
  (try simp only [Act.put, List.setIfInBounds_toArray, List.set_cons_zero, List.set_cons_succ])
  refine wpAnyH_take (i := 4) (oi := ⟨some 25, _, _, _, _, _⟩) (v := ?_) rfl (by kernel_rfl) (by kernel_rfl) (by kernel_rfl) (fun _ _ _ h => h) (Or.inl ⟨by rfl, ?_⟩) hHeld ?_
  rotate_left
  · intro ww hSw
    (try dsimp only at hSw)
    go_simp
    (try with_reducible rfl)
  simp only [Act.put, List.setIfInBounds_toArray, List.set_cons_zero, List.set_cons_succ]
  refine wpAnyH_done (by kernel_rfl) ?_ _
  refine NoPanic.normal ?_
  have HR3 := Lib.hid (HR.out.below hbw3)
  have hb3 := bel_on hb2 hbw3
  have HG3 := Lib.hid (HB2.out.below hbw3)
  have HPB := Lib.hid (ptrsB_of hP)
  have hFB : F < w2.drew.heap.size := hF2
  have hE3 : w2.drew.heap.size ≤ w3.heap.size := hbw3.size
  have HE : Hid (w3.heap.size ≤ w3.heap.size) := Lib.hid (Nat.le_refl _)
  generalize w2.drew.heap.size = B at *
  generalize hE : w3.heap.size = E at HPB hE3 HE
  have HEE : Hid (E ≤ w3.heap.size) := Lib.hid (by omega)
  clear hE HE HR HB2 hP hq2 hHeld hbw3 hb2 hF2 H3
  have HL := Lib.hid hn
  have HKN : Hid (∀ o ∈ ownL e.kd, o < 11) := Lib.hid (fun o ho => (ownL_lt ho).2)
  have hnn := HN.out
  have HNN : Hid (e.nums = [e.id, e.wk, e.tm, e.kd] ++ (ownL e.kd).map (fun o => (evL e).getD o 0)) := hnn
  clear hn HN hnn HC HZ
  generalize ownL e.kd = L at *
  obtain ⟨q0, hq0⟩ : ∃ q0, q0 = [e.id, e.wk, e.tm, e.kd] := ⟨_, rfl⟩
  have HQ4 : Hid (q0.length = 4) := by rw [hq0]; exact Lib.hid rfl
  rw [← hq0] at HR3 HNN
  clear hq0
  go_wp2_with fail
  go_loopw [6, 26] (fun l i wr => ∃ (k p : Nat) (A6 : Option Addr) (c6 : Nat), k ≤ n ∧ i = .int .i64 k ∧ l = .slice A6 p c6 ∧ p = 4 + k ∧ Hid (NRow wr F A6 c6 (q0 ++ (L.take k).map (fun o => (evL e).getD o 0))) ∧ Hid (Has wr G cs) ∧ Hid (PtrsB B E wr A G L) ∧ Below W.heap.size W wr ∧ Hid (E ≤ wr.heap.size) ∧ Hid (∀ ad, A6 = some ad → ad.block < B ∨ E ≤ ad.block)) (fun _ i _ => n - (intOf i).toNat)
  case atStart =>
    refine ⟨0, 4, _, _, by omega, rfl, rfl, rfl, ?_, HG3, HPB, hb3, HEE, Lib.hid (fun ad had => ?_)⟩
    · rw [List.take_zero, List.map_nil, List.append_nil]
      exact HR3
    · injection had with had
      subst had
      exact .inl hFB
  case round =>
    clear HR3 HG3 HPB hb3 HEE
    obtain ⟨k, p, A6, c6, hk, rfl, rfl, hp, hR, hG, hP, hb, hE, hO⟩ := hrel
    by_cases hlt : k < n
    · have hkL : k < L.length := by rw [HL.out]; exact hlt
      obtain ⟨b, off, rfl, hBb, hbs, hc⟩ := hP.out k hkL
      have hLk : L.getD k 0 ∈ L := by simp [List.getD, hkL]
      have hcell := hG.out.cell _ (HCL.out _ (HKN.out _ hLk))
      have htk := map_take_snoc (fun o => (evL e).getD o 0) L k hkL
      have HTK := Lib.hid htk
      clear htk hLk
      generalize (evL e).getD (L.getD k 0) 0 = z at *
      generalize L.getD k 0 = o at *
      unfold ptrV at hc
      have hlen : (q0 ++ (L.take k).map (fun o => (evL e).getD o 0)).length = p := by rw [List.length_append, HQ4.out, List.length_map, List.length_take]; omega
      obtain ⟨s, hs⟩ : ∃ s, wr.heap.size = s := ⟨_, rfl⟩
      obtain ⟨A7, c7, w7, hr7, hrow7, hbel7, hsz7, hold7, hlie7⟩ := nrow_lay2 (ys := [z]) (n := p) (k := 1) hR.out hlen rfl (by omega) (by have := hb.size; have := hE.out; omega) hs
      have HR7 := Lib.hid hr7
      have HROW := Lib.hid hrow7
      have HOLD := Lib.hid hold7
      have HLIE := Lib.hid hlie7
      have HBEL := Lib.hid (hbel7 W hWF hb)
      have HSZ := Lib.hid hsz7
      have HS := Lib.hid hs
      have HRB : Hid (∀ ad, A6 = some ad → F ≤ ad.block ∧ ad.block < wr.heap.size) := Lib.hid hR.out.lt
      clear hr7 hrow7 hold7 hlie7 hbel7 hsz7 hlen
      clear hR
      go_wp2_with (at_builtin; refine wpList_append_run (o := ⟨some 35, _, _, _, _, _⟩) HR7.out rfl rfl rfl rfl ?_)
      clear HR7
      have hk1 : k + 1 ≤ n := by omega
      have hp1 : p + 1 = 4 + (k + 1) := by omega
      have hr2 : Hid (NRow w7 F A7 c7 (q0 ++ (L.take (k + 1)).map (fun o => (evL e).getD o 0))) := by
        rw [HTK.out, ← List.append_assoc]
        exact HROW
      have hgA : ∀ ad, A6 = some ad → ad.block < B ∨ E ≤ ad.block := hO.out
      have hGne : ∀ ad, A6 = some ad → ad.block ≠ G := fun ad had => by
        subst had
        have := (HRB.out ad rfl).1
        omega
      have hg2 : Hid (Has w7 G cs) := by
        obtain ⟨t, ht⟩ := hG.out
        exact Lib.hid ⟨t, by rw [HOLD.out G (by rw [← HS.out]; exact hG.out.size) hGne]; exact ht⟩
      have hp2 : Hid (PtrsB B E w7 (some ⟨b, off, none⟩) G L) := Lib.hid (hP.out.keep (fun q h1 h2 => World.cell?_of_block (HOLD.out q.block (by have := hE.out; rw [HS.out] at this; omega) (fun ad had e1 => by
        rcases hgA ad had with h | h <;> omega))))
      have he2 : Hid (E ≤ w7.heap.size) := Lib.hid (by have h1 := hE.out; have h2 := HSZ.out; rw [HS.out] at h1; omega)
      have ho2 : Hid (∀ ad, A7 = some ad → ad.block < B ∨ E ≤ ad.block) := Lib.hid (fun ad had => by
        rcases HLIE.out ad had with ⟨a0, h1, h2⟩ | h1
        · rw [h2]; exact hgA a0 h1
        · have := hE.out; rw [HS.out] at this; exact .inr (by omega))
      clear hgA hGne hG hP hE hO HOLD HLIE HSZ HROW HTK
      have hb2 := HBEL.out
      go_roundw
      case rel => exact ⟨k + 1, p + 1, A7, c7, hk1, by go_num, by go_num, hp1, hr2, hg2, hp2, hb2, he2, ho2⟩
      case measure => simp [intOf]; omega
    · obtain rfl : k = n := by omega
      have hR2 := hR.out
      rw [show k = L.length from HL.out.symm, List.take_length, ← HNN.out] at hR2
      obtain ⟨hp1, hp2, hp3⟩ := HP.out
      have hlen : e.nums.length = p := by rw [HNN.out, List.length_append, HQ4.out, List.length_map, HL.out, hp]
      have hnums : Nums wr A6 ((e.nums.map Int.toNat).map (fun n : Nat => (n : Int))) := by rw [hp3]; exact hR2.nums
      have hl2 : (e.nums.map Int.toNat).length = p := by rw [List.length_map]; exact hlen
      have HPUT := Lib.hid (put_ok A0 m0 c0 xs A6 p c6 (e.nums.map Int.toNat) wr (HX.out.below hb) hnums hl2 hp2 (by omega) (by omega))
      rw [← hp1] at HPUT
      clear hp hp1 hp2 hp3 hlen hnums hl2 hR2 hR hG hP hE hO HP HNN HQ4 HKN HCL HL
      generalize hbs : e.bytes = bs at HPUT
      have HBS := Lib.hid hbs
      clear hbs
      go_wp2_with fail
      refine HPUT.out.mono ?_
      rintro r w9 ⟨A9, c9, rfl, hrow9, hb9⟩
      go_wp2
      go_ret2
      exact ⟨A9, c9, by rw [HBS.out]; rfl, by rw [HBS.out]; exact hrow9.mono hb.size, bel_on hb hb9⟩
end Go.Proofs.Ytdhkfhgggkndoaa
