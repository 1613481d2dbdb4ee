/-
  event.Put: an event's bytes behind others.
  Numbers taken off bytes one by one, and an event's cells as they are written. No program here but the events' lists.
  Package pack: the number that bytes begin with.
-/
import Derived.Test.YtgfomfioagblfaaZad
import Derived.Test.YtgfomfioagblfaaZab
import Derived.WalkMore
import Derived.ScopeJumps
namespace Go.Proofs.Ytgfomfioagblfaa
open Go.RowKit
set_option linter.unusedVariables false
set_option linter.unusedSimpArgs false

/-- Pointers that lie between B and E. -/
def PtrsB (B E : Nat) (w : World) (A : Option Addr) (g : Nat) (L : List Nat) : Prop := ∀ k, k < L.length → ∃ b off, A = some ⟨b, off, none⟩ ∧ B ≤ b ∧ b < E ∧ w.cell? ⟨b, off + k, none⟩ = some (ptrV g (L.getD k 0))
theorem ptrsB_of {B : Nat} {w : World} {A : Option Addr} {g : Nat} {L : List Nat} (h : EPtrsN B w A g L) : PtrsB B w.heap.size w A g L := h
theorem PtrsB.keep {B E : Nat} {w w' : World} {A : Option Addr} {g : Nat} {L : List Nat} (h : PtrsB B E w A g L) (hk : ∀ p : Addr, B ≤ p.block → p.block < E → w'.cell? p = w.cell? p) : PtrsB B E w' A g L := by
  intro k hl
  obtain ⟨b, off, e, hB, hlt, hc⟩ := h k hl
  exact ⟨b, off, e, hB, hlt, (hk _ hB hlt).trans hc⟩
/-- An append of numbers that are laid for it; what it leaves. -/
theorem nrow_lay2 {w : World} {base c : Nat} {A : Option Addr} {xs ys : List Int} (h : NRow w base A c xs) {n : Nat} (hn : xs.length = n) {k : Nat} (hk : ys.length = k) (hm : n + k ≤ 1000000000) (hbase : base ≤ w.heap.size) {s : Nat} (hs : w.heap.size = s) :
    ∃ A' c' w', (Builtin.append_ #[27, 27] 27 #[.slice A n c, .slice (some ⟨s, 0, none⟩) k k]).run Try.prog (w.alloc (.cells (ints .i64 ys).toArray 3)) = .ok (.slice A' (n + k) c') w' ∧ NRow w' base A' c' (xs ++ ys) ∧
      (∀ a : World, a.heap.size ≤ base → Below a.heap.size a w → Below a.heap.size a w') ∧ s ≤ w'.heap.size ∧
      (∀ b, b < s → (∀ ad, A = some ad → ad.block ≠ b) → w'.heap[b]? = w.heap[b]?) ∧ (∀ ad, A' = some ad → (∃ a0, A = some a0 ∧ ad.block = a0.block) ∨ s ≤ ad.block) := by
  subst hn hk hs
  obtain ⟨A', c', w', hr, ho, hg, hl⟩ := append_any (P := Try.prog) (w.alloc (.cells (ints .i64 ys).toArray 3)) base 27 27 3 _ 1 8 Try.underlying27 int_info rfl (by omega) (World.ownsRow.alloc h _)
    (Sl.of_own (own_new w 3 1 ys.length (ints .i64 ys).toArray (by simp [ints]) (by simp only [maxLen]; omega))) (ints_one .i64 ys) (xs.length + ys.length) rfl (ints .i64 (xs ++ ys)) (by simp [ints]) (by omega) (by omega) (by simp; omega)
  have ho' : NRow w' base A' c' (xs ++ ys) := by
    unfold NRow
    rw [List.length_append]
    exact ho
  have hsz := hg.size
  simp at hsz
  refine ⟨A', c', w', hr, ho', fun a ha hb => bel_grown (hb.alloc hb.size _) (World.ownsRow.alloc h _) ha hg, by omega, fun b hb hne => ?_, fun ad had => ?_⟩
  · rw [hg.block b (by simp; omega) ?_]
    · exact Below.heap_alloc w _ b hb
    · intro e
      cases A with
      | none => simp [Value.ownBlock] at e
      | some a0 => simp [Value.ownBlock] at e; exact hne a0 rfl e.symm
  · subst had
    rcases hl with e | e
    · cases A with
      | none => simp [Value.ownBlock] at e
      | some a0 => simp [Value.ownBlock] at e; exact .inl ⟨a0, rfl, e⟩
    · simp [Value.ownBlock] at e; exact .inr (by omega)
theorem evC_at (e : EvP) {o : Nat} (h : o < 11) : (evC e)[o]? = some (.int .i64 ((evL e).getD o 0)) := by
  match o, h with
  | 0, _ | 1, _ | 2, _ | 3, _ | 4, _ | 5, _ | 6, _ | 7, _ | 8, _ | 9, _ | 10, _ => rfl
theorem map_take_snoc {α : Type} (f : Nat → α) (L : List Nat) (k : Nat) (h : k < L.length) : (L.take (k + 1)).map f = (L.take k).map f ++ [f (L.getD k 0)] := by
  rw [List.take_succ_eq_append_getElem h, List.map_append, List.map_cons, List.map_nil, List.getD, List.getElem?_eq_getElem h, Option.getD_some]
theorem ev_bytes_put {e : EvP} (h : e.Fair) : e.bytes = putB (e.nums.map Int.toNat) ∧ (∀ n ∈ e.nums.map Int.toNat, n < 9223372036854775808) ∧ (e.nums.map Int.toNat).map (fun n : Nat => (n : Int)) = e.nums := by
  have hk := ev_ok h
  refine ⟨rfl, fun n hn => ?_, ?_⟩
  · simp only [List.mem_map] at hn
    obtain ⟨z, hz, rfl⟩ := hn
    have := hk z hz
    omega
  · rw [List.map_map]
    conv => rhs; rw [← List.map_id e.nums]
    exact List.map_congr_left (fun z hz => by have := hk z hz; simp; omega)
theorem putE_bad (A : Option Addr) (m c : Nat) (e : EvP) (W : World) (hi : e.In) (hf : ¬ e.Fair) :
    Calls Try.prog 6 #[.slice A m c, .agg (evC e)] W fun r w' => r = .returned (.tuple #[.slice none 0 0, .int .i64 80]) ∧ Below W.heap.size W w' := by
  have HC : Hid (∀ w, Calls Try.prog 18 #[.agg (evC e)] w fun r w' => r = .returned (.bool false) ∧ Below w.heap.size w w') := Lib.hid (fun w => by
    have := fair_any e w hi
    rw [decide_eq_false hf] at this
    exact this)
  have hz := evC_size e
  have h1 := evC_one e
  clear hi hf
  generalize evC e = cs at *
  have HZ := Lib.hid hz
  have H1 := Lib.hid h1
  clear hz h1
  go_enter Try.func6, Try.ntmps6
  go_wp2_with (refine wpList_load_e (by rfl) _ rfl W.heap.size rfl cs (Has.new W _ cs rfl) HZ.out ?_)
  refine (HC.out _).mono ?_
  rintro r w1 ⟨rfl, b1⟩
  go_wp2
  go_ret2
  exact ⟨rfl, bel_new (Below.refl _ _) (by simpa using b1)⟩
set_option maxRecDepth 20000 in
set_option maxHeartbeats 1000000 in
theorem putE_ok (A0 : Option Addr) (m0 c0 : Nat) (xs : List (BitVec 8)) (e : EvP) (W : World) (hf : e.Fair) (hi : e.In) (hx : Sl 1 W A0 m0 c0 (bytesV xs)) (hm : m0 ≤ 100000000000) :
    Calls Try.prog 6 #[.slice A0 m0 c0, .agg (evC e)] W fun r w' => ∃ A' c', r = .returned (.tuple #[.slice A' (m0 + e.bytes.length) c', .int .i64 0]) ∧ BRow w' W.heap.size A' c' (xs ++ e.bytes) ∧ Below W.heap.size W w' := by
  have HC : Hid (∀ w, Calls Try.prog 18 #[.agg (evC e)] w fun r w' => r = .returned (.bool true) ∧ Below w.heap.size w w') := Lib.hid (fun w => by
    have := fair_any e w hi
    rw [decide_eq_true hf] at this
    exact this)
  have HX := Lib.hid hx
  have HK := Lib.hid hi.kd
  have HP := Lib.hid (ev_bytes_put hf)
  have HN := Lib.hid (ev_nums e)
  have hz := evC_size e
  have HCL : Hid (∀ o : Nat, o < 11 → (evC e)[o]? = some (.int .i64 ((evL e).getD o 0))) := Lib.hid (fun o ho => evC_at e ho)
  have h0 : (evC e)[0]? = some (.int .i64 e.id) := rfl
  have h1 : (evC e)[1]? = some (.int .i64 e.wk) := rfl
  have h2 : (evC e)[2]? = some (.int .i64 e.tm) := rfl
  have h3 : (evC e)[3]? = some (.int .i64 e.kd) := rfl
  clear hi hf hx
  generalize evC e = cs at *
  have HZ := Lib.hid hz
  have H0 := Lib.hid h0
  have H1 := Lib.hid h1
  have H2 := Lib.hid h2
  have H3 := Lib.hid h3
  clear hz h0 h1 h2 h3
  go_enter Try.func6, Try.ntmps6
  go_wp2_with (refine wpList_load_e (by rfl) _ rfl W.heap.size rfl cs (Has.new W _ cs rfl) HZ.out ?_)
  refine (HC.out _).mono ?_
  rintro r w1 ⟨rfl, b1⟩
  have HB : Hid (Has w1 W.heap.size cs) := Lib.hid ((Has.new W 33 cs rfl).below b1)
  have hb1 : Below W.heap.size W w1 := bel_new (Below.refl _ _) (by simpa using b1)
  clear b1
  obtain ⟨G, hG⟩ : ∃ G, W.heap.size = G := ⟨_, rfl⟩
  have HGW : Hid (W.heap.size ≤ G) := Lib.hid (by omega)
  rw [hG] at HB ⊢
  clear hG
  have k0 := HB.out.cell 0 H0.out
  have k1 := HB.out.cell 1 H1.out
  have k2 := HB.out.cell 2 H2.out
  have k3 := HB.out.cell 3 H3.out
  go_wp2_with fail
  obtain ⟨F, hF⟩ : ∃ F, w1.heap.size = F := ⟨_, rfl⟩
  have hrow : NRow (w1.alloc (.cells #[.int .i64 e.id, .int .i64 e.wk, .int .i64 e.tm, .int .i64 e.kd] 3)) F (some ⟨F, 0, none⟩) 4 [e.id, e.wk, e.tm, e.kd] := by subst hF; exact nrow_new w1 [e.id, e.wk, e.tm, e.kd] rfl (by omega)
  have HB2 := Lib.hid (HB.out.alloc (.cells #[.int .i64 e.id, .int .i64 e.wk, .int .i64 e.tm, .int .i64 e.kd] 3))
  have hb2 : Below W.heap.size W (w1.alloc (.cells #[.int .i64 e.id, .int .i64 e.wk, .int .i64 e.tm, .int .i64 e.kd] 3)) := bel_alloc hb1 _
  have hGF : G < F := by have := HB.out.size; omega
  have hWF : W.heap.size ≤ F := by have := hb1.size; omega
  have hF2 : F < (w1.alloc (.cells #[.int .i64 e.id, .int .i64 e.wk, .int .i64 e.tm, .int .i64 e.kd] 3)).heap.size := by simp; omega
  rw [hF]
  clear hF k0 k1 k2 k3 HB H0 H1 H2 hb1
  generalize (w1.alloc (.cells #[.int .i64 e.id, .int .i64 e.wk, .int .i64 e.tm, .int .i64 e.kd] 3)) = w2 at *
  have HR := Lib.hid hrow
  clear hrow
  refine wp_region_noPanic ?_
  refine wp_region_held_drew (S := fun w' => Below w2.heap.size w2 w') (by kernel_rfl) (below_drew (Below.refl _ _)) (fun hHeld => ?_)
  refine wpAnyH_take (i := 5) (oi := ⟨some 26, _, _, _, _, _⟩) (v := ?_) rfl (by kernel_rfl) (by kernel_rfl) (by kernel_rfl) (fun _ _ _ h => h) (Or.inl ⟨by rfl, ?_⟩) hHeld ?_
  rotate_left
  · intro ww hSw
    (try dsimp only at hSw)
    go_simp
    (try with_reducible rfl)
  simp only [Act.put, List.setIfInBounds_toArray, List.set_cons_zero, List.set_cons_succ]
  refine wpAnyH_take (i := 1) (oi := ⟨some 22, _, _, _, _, _⟩) (v := ?_) rfl (by kernel_rfl) (by kernel_rfl) (by kernel_rfl) (fun _ _ _ h => h) (Or.inl ⟨by rfl, ?_⟩) hHeld ?_
  rotate_left
  · intro ww hSw
    (try dsimp only at hSw)
    go_simp
    (try with_reducible rfl)
  simp only [Act.put, List.setIfInBounds_toArray, List.set_cons_zero, List.set_cons_succ]
  refine wpAnyH_take (i := 2) (oi := ⟨some 23, _, _, _, _, _⟩) (v := .int .i64 e.kd) rfl (by kernel_rfl) (by kernel_rfl) (by kernel_rfl) (fun _ _ _ h => h) (Or.inl ⟨by rfl, ?_⟩) hHeld ?_
  · intro ww hSw
    (try dsimp only at hSw)
    have hc := (hSw.cell (p := ⟨G, 3, none⟩) HB2.out.size).trans (HB2.out.cell 3 H3.out)
    go_simp
  simp only [Act.put, List.setIfInBounds_toArray, List.set_cons_zero, List.set_cons_succ]
  refine wpAnyH_ready (rs := [0]) (by kernel_rfl) (by simp) ?_
  refine AllReadyH.cons (o := ⟨some 21, _, _, _, _, _⟩) rfl (fun K hK => ?_) AllReadyH.nil
  go_simp
  go_at_call 19
  refine (own_c _ _).mono ?_
  rintro e_r w3 ⟨m, rfl, hbn, hL⟩
  have hbw3 : Below w2.heap.size w2 w3 := bel_on (show Below w2.heap.size w2 _ by (repeat' (first | with_reducible exact Below.refl _ _ | with_reducible assumption | with_reducible refine bel_alloc ?_ _ | with_reducible refine bel_set ?_ ?_ _ | with_reducible refine below_drewN ?_ _ | with_reducible refine below_drew ?_ | (simp; done) | (simp; omega) | omega))) hbn
  clear hbn
  go_wp2_with fail
  refine hK.out _ _ ?_ (fun hHeld => ?_)
  · (try dsimp only)
    exact hbw3
  clear hK K
  (try simp only [Act.put, List.setIfInBounds_toArray, List.set_cons_zero, List.set_cons_succ])
  obtain ⟨A, n, c, hn, hn6, hnc, hc6, hP, hq1, hq2⟩ := hL e.kd HK.out
  clear hL hq1
  refine wpAnyH_ready (rs := [3]) (by kernel_rfl) (by simp) ?_
  refine AllReadyH.cons (o := ⟨some 24, _, _, _, _, _⟩) rfl (fun K hK => ?_) AllReadyH.nil
  go_simp
  refine hK.out _ _ ?_ (fun hHeld => ?_)
  · (try dsimp only)
    exact hbw3
  clear hK K
  (try simp only [Act.put, List.setIfInBounds_toArray, List.set_cons_zero, List.set_cons_succ])
  refine wpAnyH_take (i := 4) (oi := ⟨some 25, _, _, _, _, _⟩) (v := ?_) rfl (by kernel_rfl) (by kernel_rfl) (by kernel_rfl) (fun _ _ _ h => h) (Or.inl ⟨by rfl, ?_⟩) hHeld ?_
  rotate_left
  · intro ww hSw
    (try dsimp only at hSw)
    go_simp
    (try with_reducible rfl)
  simp only [Act.put, List.setIfInBounds_toArray, List.set_cons_zero, List.set_cons_succ]
  refine wpAnyH_done (by kernel_rfl) ?_ _
  refine NoPanic.normal ?_
  have HR3 := Lib.hid (HR.out.below hbw3)
  have hb3 := bel_on hb2 hbw3
  have HG3 := Lib.hid (HB2.out.below hbw3)
  have HPB := Lib.hid (ptrsB_of hP)
  have hFB : F < w2.drew.heap.size := hF2
  have hE3 : w2.drew.heap.size ≤ w3.heap.size := hbw3.size
  have HE : Hid (w3.heap.size ≤ w3.heap.size) := Lib.hid (Nat.le_refl _)
  generalize w2.drew.heap.size = B at *
  generalize hE : w3.heap.size = E at HPB hE3 HE
  have HEE : Hid (E ≤ w3.heap.size) := Lib.hid (by omega)
  clear hE HE HR HB2 hP hq2 hHeld hbw3 hb2 hF2 H3
  have HL := Lib.hid hn
  have HKN : Hid (∀ o ∈ ownL e.kd, o < 11) := Lib.hid (fun o ho => (ownL_lt ho).2)
  have hnn := HN.out
  have HNN : Hid (e.nums = [e.id, e.wk, e.tm, e.kd] ++ (ownL e.kd).map (fun o => (evL e).getD o 0)) := hnn
  clear hn HN hnn HC HZ
  generalize ownL e.kd = L at *
  obtain ⟨q0, hq0⟩ : ∃ q0, q0 = [e.id, e.wk, e.tm, e.kd] := ⟨_, rfl⟩
  have HQ4 : Hid (q0.length = 4) := by rw [hq0]; exact Lib.hid rfl
  rw [← hq0] at HR3 HNN
  clear hq0
  go_wp2_with fail
  go_loopw [6, 26] (fun l i wr => ∃ (k p : Nat) (A6 : Option Addr) (c6 : Nat), k ≤ n ∧ i = .int .i64 k ∧ l = .slice A6 p c6 ∧ p = 4 + k ∧ Hid (NRow wr F A6 c6 (q0 ++ (L.take k).map (fun o => (evL e).getD o 0))) ∧ Hid (Has wr G cs) ∧ Hid (PtrsB B E wr A G L) ∧ Below W.heap.size W wr ∧ Hid (E ≤ wr.heap.size) ∧ Hid (∀ ad, A6 = some ad → ad.block < B ∨ E ≤ ad.block)) (fun _ i _ => n - (intOf i).toNat)
  case atStart =>
    refine ⟨0, 4, _, _, by omega, rfl, rfl, rfl, ?_, HG3, HPB, hb3, HEE, Lib.hid (fun ad had => ?_)⟩
    · rw [List.take_zero, List.map_nil, List.append_nil]
      exact HR3
    · injection had with had
      subst had
      exact .inl hFB
  case round =>
    clear HR3 HG3 HPB hb3 HEE
    obtain ⟨k, p, A6, c6, hk, rfl, rfl, hp, hR, hG, hP, hb, hE, hO⟩ := hrel
    by_cases hlt : k < n
    · have hkL : k < L.length := by rw [HL.out]; exact hlt
      obtain ⟨b, off, rfl, hBb, hbs, hc⟩ := hP.out k hkL
      have hLk : L.getD k 0 ∈ L := by simp [List.getD, hkL]
      have hcell := hG.out.cell _ (HCL.out _ (HKN.out _ hLk))
      have htk := map_take_snoc (fun o => (evL e).getD o 0) L k hkL
      have HTK := Lib.hid htk
      clear htk hLk
      generalize (evL e).getD (L.getD k 0) 0 = z at *
      generalize L.getD k 0 = o at *
      unfold ptrV at hc
      have hlen : (q0 ++ (L.take k).map (fun o => (evL e).getD o 0)).length = p := by rw [List.length_append, HQ4.out, List.length_map, List.length_take]; omega
      obtain ⟨s, hs⟩ : ∃ s, wr.heap.size = s := ⟨_, rfl⟩
      obtain ⟨A7, c7, w7, hr7, hrow7, hbel7, hsz7, hold7, hlie7⟩ := nrow_lay2 (ys := [z]) (n := p) (k := 1) hR.out hlen rfl (by omega) (by have := hb.size; have := hE.out; omega) hs
      have HR7 := Lib.hid hr7
      have HROW := Lib.hid hrow7
      have HOLD := Lib.hid hold7
      have HLIE := Lib.hid hlie7
      have HBEL := Lib.hid (hbel7 W hWF hb)
      have HSZ := Lib.hid hsz7
      have HS := Lib.hid hs
      have HRB : Hid (∀ ad, A6 = some ad → F ≤ ad.block ∧ ad.block < wr.heap.size) := Lib.hid hR.out.lt
      clear hr7 hrow7 hold7 hlie7 hbel7 hsz7 hlen
      clear hR
      go_wp2_with (at_builtin; refine wpList_append_run (o := ⟨some 35, _, _, _, _, _⟩) HR7.out rfl rfl rfl rfl ?_)
      clear HR7
      have hk1 : k + 1 ≤ n := by omega
      have hp1 : p + 1 = 4 + (k + 1) := by omega
      have hr2 : Hid (NRow w7 F A7 c7 (q0 ++ (L.take (k + 1)).map (fun o => (evL e).getD o 0))) := by
        rw [HTK.out, ← List.append_assoc]
        exact HROW
      have hgA : ∀ ad, A6 = some ad → ad.block < B ∨ E ≤ ad.block := hO.out
      have hGne : ∀ ad, A6 = some ad → ad.block ≠ G := fun ad had => by
        subst had
        have := (HRB.out ad rfl).1
        omega
      have hg2 : Hid (Has w7 G cs) := by
        obtain ⟨t, ht⟩ := hG.out
        exact Lib.hid ⟨t, by rw [HOLD.out G (by rw [← HS.out]; exact hG.out.size) hGne]; exact ht⟩
      have hp2 : Hid (PtrsB B E w7 (some ⟨b, off, none⟩) G L) := Lib.hid (hP.out.keep (fun q h1 h2 => World.cell?_of_block (HOLD.out q.block (by have := hE.out; rw [HS.out] at this; omega) (fun ad had e1 => by
        rcases hgA ad had with h | h <;> omega))))
      have he2 : Hid (E ≤ w7.heap.size) := Lib.hid (by have h1 := hE.out; have h2 := HSZ.out; rw [HS.out] at h1; omega)
      have ho2 : Hid (∀ ad, A7 = some ad → ad.block < B ∨ E ≤ ad.block) := Lib.hid (fun ad had => by
        rcases HLIE.out ad had with ⟨a0, h1, h2⟩ | h1
        · rw [h2]; exact hgA a0 h1
        · have := hE.out; rw [HS.out] at this; exact .inr (by omega))
      clear hgA hGne hG hP hE hO HOLD HLIE HSZ HROW HTK
      have hb2 := HBEL.out
      go_roundw
      case rel => exact ⟨k + 1, p + 1, A7, c7, hk1, by go_num, by go_num, hp1, hr2, hg2, hp2, hb2, he2, ho2⟩
      case measure => simp [intOf]; omega
    · obtain rfl : k = n := by omega
      have hR2 := hR.out
      rw [show k = L.length from HL.out.symm, List.take_length, ← HNN.out] at hR2
      obtain ⟨hp1, hp2, hp3⟩ := HP.out
      have hlen : e.nums.length = p := by rw [HNN.out, List.length_append, HQ4.out, List.length_map, HL.out, hp]
      have hnums : Nums wr A6 ((e.nums.map Int.toNat).map (fun n : Nat => (n : Int))) := by rw [hp3]; exact hR2.nums
      have hl2 : (e.nums.map Int.toNat).length = p := by rw [List.length_map]; exact hlen
      have HPUT := Lib.hid (put_ok A0 m0 c0 xs A6 p c6 (e.nums.map Int.toNat) wr (HX.out.below hb) hnums hl2 hp2 (by omega) (by omega))
      rw [← hp1] at HPUT
      clear hp hp1 hp2 hp3 hlen hnums hl2 hR2 hR hG hP hE hO HP HNN HQ4 HKN HCL HL
      generalize hbs : e.bytes = bs at HPUT
      have HBS := Lib.hid hbs
      clear hbs
      go_wp2_with fail
      refine HPUT.out.mono ?_
      rintro r w9 ⟨A9, c9, rfl, hrow9, hb9⟩
      go_wp2
      go_ret2
      exact ⟨A9, c9, by rw [HBS.out]; rfl, by rw [HBS.out]; exact hrow9.mono hb.size, bel_on hb hb9⟩
end Go.Proofs.Ytgfomfioagblfaa

namespace Go.Proofs.Ytgfomfioagblfaa
set_option linter.unusedVariables false
set_option linter.unusedSimpArgs false

/-- So many numbers that bytes begin with, and what is behind. -/
def eatN : Nat → List (BitVec 8) → Option (List Int × List (BitVec 8))
  | 0, b => some ([], b)
  | n + 1, b => match eatN n b with
    | none => none
    | some (l, r) => match takeB r with
      | none => none
      | some (k, t) => some (l ++ [(k : Int)], t)
theorem eat_len : ∀ (n : Nat) {b r : List (BitVec 8)} {l : List Int}, eatN n b = some (l, r) → l.length = n
  | 0, b, r, l, h => by simp [eatN] at h; rw [h.1]; rfl
  | n + 1, b, r, l, h => by
    rw [eatN] at h
    cases he : eatN n b with
    | none => rw [he] at h; cases h
    | some p =>
      obtain ⟨m, q⟩ := p
      rw [he] at h
      cases ht : takeB q with
      | none => simp [ht] at h
      | some x =>
        obtain ⟨k, t⟩ := x
        simp [ht] at h
        rw [← h.1, List.length_append, eat_len n he]
        rfl
/-- What is taken is as it was put. -/
theorem eat_own : ∀ (n : Nat) {b r : List (BitVec 8)} {l : List Int}, eatN n b = some (l, r) → okN l ∧ b = bytesN l ++ r
  | 0, b, r, l, h => by simp [eatN] at h; obtain ⟨rfl, rfl⟩ := h; exact ⟨okN_nil, rfl⟩
  | n + 1, b, r, l, h => by
    rw [eatN] at h
    cases he : eatN n b with
    | none => rw [he] at h; cases h
    | some p =>
      obtain ⟨m, q⟩ := p
      rw [he] at h
      cases ht : takeB q with
      | none => simp [ht] at h
      | some x =>
        obtain ⟨k, t⟩ := x
        simp [ht] at h
        obtain ⟨rfl, rfl⟩ := h
        obtain ⟨h1, h2⟩ := eat_own n he
        obtain ⟨h3, h4⟩ := take_own ht
        refine ⟨okN_append h1 (okN_cons (by omega) okN_nil), ?_⟩
        rw [h2, h3, bytesN_append, bytesN_cons, bytesN_nil, List.append_nil, Int.toNat_natCast, List.append_assoc]
theorem eat_put : ∀ (n : Nat) (l : List Int), l.length = n → okN l → ∀ r : List (BitVec 8), eatN n (bytesN l ++ r) = some (l, r)
  | 0, l, hn, _, r => by rw [List.length_eq_zero_iff.1 hn]; rfl
  | n + 1, l, hn, h, r => by
    rcases l.eq_nil_or_concat with rfl | ⟨L, a, rfl⟩
    · simp at hn
    · have h1 : okN L := fun n hn => h n (by simp [hn])
      have ha := h a (by simp)
      rw [List.concat_eq_append, bytesN_append, bytesN_cons, bytesN_nil, List.append_nil, List.append_assoc, eatN, eat_put n L (by simpa using hn) h1]
      simp only [bytesN_take ha]
      rw [Int.toNat_of_nonneg ha.1]
theorem eat_none (n : Nat) {b : List (BitVec 8)} (h : eatN n b = none) (l : List Int) (hl : l.length = n) (hk : okN l) (r : List (BitVec 8)) : b ≠ bytesN l ++ r := by
  rintro rfl
  subst hl
  rw [eat_put _ l rfl hk] at h
  cases h
/-- Numbers, each laid at its place. -/
def layL (zs : List Int) (L : List Nat) (ns : List Int) : List Int := (L.zip ns).foldl (fun z p => z.set p.1 p.2) zs
theorem layL_nil (zs : List Int) (L : List Nat) : layL zs L [] = zs := by simp [layL]
theorem layL_len : ∀ (L : List Nat) (ns zs : List Int), (layL zs L ns).length = zs.length
  | [], ns, zs => by simp [layL]
  | o :: L, [], zs => by simp [layL]
  | o :: L, n :: ns, zs => by
    show (layL (zs.set o n) L ns).length = _
    rw [layL_len L]
    simp
theorem layL_snoc (zs : List Int) (L : List Nat) (ns : List Int) (k : Nat) (h : ns.length = k) (hk : k < L.length) (n : Int) : layL zs L (ns ++ [n]) = (layL zs L ns).set (L.getD k 0) n := by
  subst h
  induction L generalizing zs ns with
  | nil => simp at hk
  | cons o L ih =>
    cases ns with
    | nil => simp [layL]
    | cons m ns =>
      show layL (zs.set o m) L (ns ++ [n]) = (layL (zs.set o m) L ns).set (L.getD ns.length 0) n
      exact ih _ ns (by simpa using hk)
/-- The size that any number has at most. -/
theorem size_most : (oneB 9223372036854775807).length = 9 := by
  rw [one_len]
  simp [digs_pos, digs_zero]
theorem one_le (n : Nat) (h : n < 9223372036854775808) : (oneB n).length ≤ 9 := by
  have := digs_eight h
  rw [one_len]
  omega
/-- A number is taken of nine bytes as it is of all. -/
theorem take_nine (b : List (BitVec 8)) : takeB (b.take (min b.length 9)) = (takeB b).map fun x => (x.1, x.2.take (9 - (oneB x.1).length)) := by
  rw [show b.take (min b.length 9) = b.take 9 by rw [List.take_eq_take_iff]; omega]
  cases h : takeB b with
  | some x =>
    obtain ⟨k, t⟩ := x
    obtain ⟨h1, h2⟩ := take_own h
    have h3 := one_le k h2
    subst h1
    rw [List.take_append, List.take_of_length_le h3, take_one h2]
    rfl
  | none =>
    cases h' : takeB (b.take 9) with
    | none => rfl
    | some x =>
      obtain ⟨k, t⟩ := x
      obtain ⟨h1, h2⟩ := take_own h'
      have e : b = oneB k ++ (t ++ b.drop 9) := by rw [← List.append_assoc, ← h1, List.take_append_drop]
      rw [e, take_one h2] at h
      cases h
end Go.Proofs.Ytgfomfioagblfaa

namespace Go.Proofs.Ytgfomfioagblfaa
open Go.RowKit
set_option linter.unusedVariables false

theorem val_inj : ∀ (l m : List Nat), l.length = m.length → (∀ x ∈ l, x < 256) → (∀ x ∈ m, x < 256) → valN l = valN m → l = m
  | [], [], _, _, _, _ => rfl
  | a :: x, b :: y, h, hl, hm, hv => by
    have hxy : x.length = y.length := by simpa using h
    have lx := valN_lt x (fun z hz => hl z (by simp [hz]))
    have ly := valN_lt y (fun z hz => hm z (by simp [hz]))
    rw [valN_cons, valN_cons, hxy] at hv
    rw [hxy] at lx
    have hab : a = b := by
      rcases Nat.lt_trichotomy a b with q | q | q
      · have : (a + 1) * 256 ^ y.length ≤ b * 256 ^ y.length := Nat.mul_le_mul_right _ q
        rw [Nat.add_mul, Nat.one_mul] at this
        omega
      · exact q
      · have : (b + 1) * 256 ^ y.length ≤ a * 256 ^ y.length := Nat.mul_le_mul_right _ q
        rw [Nat.add_mul, Nat.one_mul] at this
        omega
    subst hab
    rw [val_inj x y hxy (fun z hz => hl z (by simp [hz])) (fun z hz => hm z (by simp [hz])) (by omega)]
theorem take_fit {x : BitVec 8} {r : List (BitVec 8)} (hx : x.toNat ≤ r.length) (hv : valN (natsB (r.take x.toNat)) < 9223372036854775808) (hd : (digs (valN (natsB (r.take x.toNat)))).length = x.toNat) :
    takeB (x :: r) = some (valN (natsB (r.take x.toNat)), r.drop x.toNat) := by
  have hl : (natsB (r.take x.toNat)).length = x.toNat := by rw [nats_len, List.length_take]; omega
  have e := val_inj (digs (valN (natsB (r.take x.toNat)))) (natsB (r.take x.toNat)) (by omega) (digs_small _) (nats_small _) (val_digs _)
  have e1 : x :: r = oneB (valN (natsB (r.take x.toNat))) ++ r.drop x.toNat := by
    unfold oneB
    rw [hd, e, bytN_nats, List.cons_append, List.take_append_drop]
    congr 1
    simp
  have := take_one hv (r.drop x.toNat)
  rwa [← e1] at this
theorem take_fits {x : BitVec 8} {r t : List (BitVec 8)} {n : Nat} (h : takeB (x :: r) = some (n, t)) : x.toNat ≤ 8 ∧ x.toNat ≤ r.length ∧ valN (natsB (r.take x.toNat)) = n ∧ n < 9223372036854775808 ∧ (digs n).length = x.toNat := by
  obtain ⟨e, hn⟩ := take_own h
  have h8 := digs_eight hn
  unfold oneB at e
  rw [List.cons_append] at e
  injection e with e1 e2
  have hx : x.toNat = (digs n).length := by rw [e1, BitVec.toNat_ofNat]; omega
  have hr : r.take x.toNat = bytN (digs n) := by
    rw [e2, hx, List.take_append_of_le_length (by rw [bytN_len]; exact Nat.le_refl _), List.take_of_length_le (by rw [bytN_len]; exact Nat.le_refl _)]
  refine ⟨by omega, ?_, ?_, hn, hx.symm⟩
  · rw [e2, List.length_append, bytN_len]; omega
  · rw [hr, nats_bytN (digs_small n), val_digs]
theorem or_step (u y : Nat) (hu : u < 72057594037927936) (hy : y < 256) : bits .or .i64 (wrap64 (u * 256)) (y : Int) = wrap64 ((u * 256 + y : Nat) : Int) := by
  have e1 : BitVec.ofInt 64 (wrap64 ((u : Int) * 256)) = BitVec.ofNat 64 (u * 256) := by
    apply BitVec.eq_of_toNat_eq
    rw [BitVec.toNat_ofInt, BitVec.toNat_ofNat]
    unfold wrap64
    omega
  have e2 : BitVec.ofInt 64 (y : Int) = BitVec.ofNat 64 y := by rw [BitVec.ofInt_natCast]
  show IntKind.i64.wrap ((BitVec.ofInt 64 (wrap64 ((u : Int) * 256)) ||| BitVec.ofInt 64 (y : Int)).toNat : Int) = _
  rw [e1, e2, BitVec.toNat_or, BitVec.toNat_ofNat, BitVec.toNat_ofNat, Nat.mod_eq_of_lt (by omega), Nat.mod_eq_of_lt (by omega)]
  have e3 : u * 256 ||| y = u * 256 + y := by
    have := Nat.shiftLeft_add_eq_or_of_lt (show y < 2 ^ 8 by omega) u
    rw [Nat.shiftLeft_eq] at this
    exact this.symm
  rw [e3]
  simp [IntKind.wrap, IntKind.bits, IntKind.signed, wrap64]
  split <;> omega
def firstB (l : List (BitVec 8)) : Nat × Nat := match takeB l with
  | none => (0, 0)
  | some (n, _) => (n, (oneB n).length)
theorem first_none {l : List (BitVec 8)} (h : takeB l = none) : firstB l = (0, 0) := by unfold firstB; rw [h]
theorem first_some {l t : List (BitVec 8)} {n : Nat} (h : takeB l = some (n, t)) : firstB l = (n, (oneB n).length) := by unfold firstB; rw [h]

set_option maxHeartbeats 400000 in
theorem first_cons (A : Option Addr) (m c : Nat) (x : BitVec 8) (r : List (BitVec 8)) (l : List (BitVec 8)) (hlx : x :: r = l) (w : World) (hx : Byts w A l) (hm : l.length = m) (hml : m ≤ 1000000000000) :
    Calls Try.prog 35 #[.slice A m c] w fun e w' => e = .returned (.tuple #[.int .i64 (firstB l).1, .int .i64 (firstB l).2]) ∧ w = w' := by
  have HX := Lib.hid hx
  have HM := Lib.hid hm
  clear hx hm
  go_enter Try.func35, Try.ntmps35
  go_wp2
  refine wp_scope_jumps 1 (fun a' w' => w' = w ∧ Hid (takeB l = none) ∧ ∃ (u0 u1 u2 u3 u4 u5 u6 u7 u8 u9 u10 u11 u12 u13 u14 u15 u16 u17 u18 u19 u20 u21 u22 u23 u24 u25 u26 u27 u28 u29 u30 u31 u32 u33 u34 u35 u36 u37 u38 u39 u40 u41 u42 u43 u44 : Value), a' = { tmps := #[u0, u1, u2, u3, u4, u5, u6, u7, u8, u9, u10, u11, u12, u13, u14, u15, u16, u17, u18, u19, u20, u21, u22, u23, u24, u25, u26, u27, u28, u29, u30, u31, u32, u33, u34, u35, u36, u37, u38, u39, u40, u41, u42, u43, u44], defers := [] }) (fun _ _ => 0) rfl ?_ ?_
  · go_wp2
    go_step3
    go_wp2
    go_loop [4, 5, 10] (fun n en i => ∃ k u o : Nat, k ≤ m ∧ i = .int .i64 k ∧ en = .int .i64 o ∧ ∃ z : Int, n = .int .i64 z ∧ (k = 0 → o = 1) ∧ (0 < k → o = x.toNat + 1 ∧ k ≤ o ∧ x.toNat ≤ 8) ∧ Hid (z = wrap64 u) ∧ Hid (u = valN (natsB (r.take (k - 1))))) (fun _ _ i => m - (intOf i).toNat)
    case atStart => exact ⟨0, 0, 1, by omega, rfl, rfl, 0, rfl, by omega, by omega, Lib.hid (by simp [wrap64]), rfl⟩
    case round =>
      obtain ⟨k, u, o, hk, rfl, rfl, z, rfl, h0, h1, hz, hu⟩ := hrel
      by_cases hlt : k < m
      · obtain ⟨b, off, rfl, hc⟩ := HX.out k (by rw [HM.out]; exact hlt)
        have hy := (l.getD k 0#8).isLt
        by_cases hk0 : k = 0
        · subst hk0
          obtain rfl := h0 rfl
          have hyx : l.getD 0 0#8 = x := by rw [← hlx]; rfl
          rw [hyx] at hc hy
          rw [Nat.add_zero] at hc
          have hu0 : u = 0 := by rw [hu.out]; rfl
          subst hu0
          obtain rfl : z = 0 := by rw [hz.out]; simp [wrap64]
          clear h0 h1 hyx
          by_cases hx8 : 8 < x.toNat
          · have HN : Hid (takeB l = none) := Lib.hid (by rw [← hlx, takeB, if_pos (Or.inl hx8)])
            have hx8' : (8 : Int) < (x.toNat : Int) := by omega
            go_wp2
            go_step3
            exact ⟨rfl, rfl, HN, _, _, _, _, _, _, _, _, _, _, _, _, _, _, _, _, _, _, _, _, _, _, _, _, _, _, _, _, _, _, _, _, _, _, _, _, _, _, _, _, _, _, _, _, _, rfl⟩
          · have hx8' : ¬ (8 : Int) < (x.toNat : Int) := by omega
            go_wp2
            go_round
            case rel => exact ⟨1, 0, x.toNat + 1, by omega, by go_num, by go_num, 0, rfl, by omega, fun _ => ⟨rfl, by omega, by omega⟩, Lib.hid (by simp [wrap64]), rfl⟩
            case measure => simp [intOf]; omega
        · obtain ⟨ho, hko, hx8⟩ := h1 (by omega)
          by_cases hke : k = o
          · generalize l.getD k 0#8 = y at *
            have hkn : ((k : Int) == (o : Int)) = true := by simp; omega
            have hle : m = r.length + 1 := by rw [← HM.out, ← hlx]; simp
            by_cases hmo : m < o
            · exact absurd hmo (by omega)
            · obtain rfl : k = o := by omega
              have hu' := hu.out
              rw [show k - 1 = x.toNat by omega] at hu'
              have hult : u < 256 ^ x.toNat := by
                have := valN_lt (natsB (r.take x.toNat)) (nats_small _)
                rw [nats_len, List.length_take, Nat.min_eq_left (by omega)] at this
                omega
              have hul : u < 18446744073709551616 := Nat.lt_of_lt_of_le hult (Nat.le_trans (Nat.pow_le_pow_right (by omega) hx8) (by decide))
              have hmo' : ¬ (m : Int) < (k : Int) := by omega
              by_cases hs : u < 9223372036854775808
              · obtain rfl : z = (u : Int) := by rw [hz.out]; unfold wrap64; omega
                have HSZ := Lib.hid (size_at u · hs)
                by_cases hd : (oneB u).length = k
                · have ht : takeB l = some (u, r.drop x.toNat) := by
                    rw [← hlx, hu']
                    rw [hu', one_len] at hd
                    exact take_fit (by omega) (hu' ▸ hs) (by omega)
                  have HF := Lib.hid (first_some ht)
                  rw [hd] at HSZ HF
                  clear h0 h1 hz hu ho hko hle hlx ht hu' hult hul
                  go_wp2_with (go_at_call 26; refine (HSZ.out _).mono ?_; rintro e w' ⟨rfl, rfl⟩)
                  simp only [Exit.jump]
                  go_ret2
                  rw [HF.out]
                  exact ⟨rfl, rfl⟩
                · have HN : Hid (takeB l = none) := Lib.hid (by
                    cases ht : takeB l with
                    | none => rfl
                    | some p =>
                      obtain ⟨n, t⟩ := p
                      rw [← hlx] at ht
                      obtain ⟨_, _, hvn, hn, hdn⟩ := take_fits ht
                      rw [hvn] at hu'
                      rw [one_len, hu'] at hd
                      omega)
                  generalize (oneB u).length = s at *
                  have hsk : ((s : Int) == (k : Int)) = false := by simp; omega
                  clear h0 h1 hz hu ho hko hle hlx hu' hult hul
                  go_wp2_with (go_at_call 26; refine (HSZ.out _).mono ?_; rintro e w' ⟨rfl, rfl⟩)
                  go_step3
                  exact ⟨rfl, rfl, HN, _, _, _, _, _, _, _, _, _, _, _, _, _, _, _, _, _, _, _, _, _, _, _, _, _, _, _, _, _, _, _, _, _, _, _, _, _, _, _, _, _, _, _, _, _, rfl⟩
              · have hz0 : z < 0 := by rw [hz.out]; unfold wrap64; omega
                have HSZ := Lib.hid (size_neg z · hz0)
                have HN : Hid (takeB l = none) := Lib.hid (by
                  cases ht : takeB l with
                  | none => rfl
                  | some p =>
                    obtain ⟨n, t⟩ := p
                    rw [← hlx] at ht
                    obtain ⟨_, _, hvn, hn, hdn⟩ := take_fits ht
                    omega)
                have hsk : ((0 : Int) == (k : Int)) = false := by simp; omega
                clear h0 h1 hz hu ho hko hle hlx hu' hult hul hz0
                go_wp2_with (go_at_call 26; refine (HSZ.out _).mono ?_; rintro e w' ⟨rfl, rfl⟩)
                go_step3
                exact ⟨rfl, rfl, HN, _, _, _, _, _, _, _, _, _, _, _, _, _, _, _, _, _, _, _, _, _, _, _, _, _, _, _, _, _, _, _, _, _, _, _, _, _, _, _, _, _, _, _, _, _, rfl⟩
          · have hyr : l.getD k 0#8 = r.getD (k - 1) 0#8 := by
              rw [← hlx]
              obtain ⟨j, rfl⟩ : ∃ j, k = j + 1 := ⟨k - 1, by omega⟩
              rfl
            have hle : m = r.length + 1 := by rw [← HM.out, ← hlx]; simp
            have hsn : valN (natsB (r.take (k + 1 - 1))) = u * 256 + (l.getD k 0#8).toNat := by
              rw [hyr, hu.out]
              obtain ⟨j, rfl⟩ : ∃ j, k = j + 1 := ⟨k - 1, by omega⟩
              simp only [Nat.add_sub_cancel]
              rw [List.take_succ_eq_append_getElem (by omega), natsB, List.map_append]
              simp only [List.map_cons, List.map_nil]
              rw [valN_snoc]
              simp [natsB, List.getD, show j < r.length by omega]
            have hu56 : u < 72057594037927936 := by
              have := valN_lt (natsB (r.take (k - 1))) (nats_small _)
              rw [← hu.out, nats_len, List.length_take, Nat.min_eq_left (by omega)] at this
              exact Nat.lt_of_lt_of_le this (Nat.le_trans (Nat.pow_le_pow_right (by omega) (show k - 1 ≤ 7 by omega)) (by decide))
            have HSN := Lib.hid hsn
            generalize l.getD k 0#8 = y at *
            have hkp : (0 : Int) < k := by omega
            have hkn : ((k : Int) == (o : Int)) = false := by simp; omega
            obtain rfl : z = (u : Int) := by rw [hz.out]; unfold wrap64; omega
            have hor := or_step u y.toNat hu56 (by omega)
            clear h0 h1 hz hyr hlx hle hsn hu
            go_wp2
            go_round
            case rel => exact ⟨k + 1, u * 256 + y.toNat, o, by omega, by go_num, rfl, _, rfl, by omega, fun _ => ⟨ho, by omega, hx8⟩, Lib.hid rfl, Lib.hid HSN.out.symm⟩
            case measure => simp [intOf]; omega
      · obtain rfl : m = k := by omega
        obtain ⟨ho, hko, hx8⟩ := h1 (by rw [← HM.out, ← hlx]; simp)
        have hle : m = r.length + 1 := by rw [← HM.out, ← hlx]; simp
        by_cases hmo : m < o
        · have HN : Hid (takeB l = none) := Lib.hid (by
            cases ht : takeB l with
            | none => rfl
            | some p =>
              obtain ⟨n, t⟩ := p
              rw [← hlx] at ht
              have := take_fits ht
              omega)
          have hmo' : (m : Int) < (o : Int) := by omega
          clear h0 h1 hz hu ho hko hle hlx
          go_wp2
          go_step3
          exact ⟨rfl, rfl, HN, _, _, _, _, _, _, _, _, _, _, _, _, _, _, _, _, _, _, _, _, _, _, _, _, _, _, _, _, _, _, _, _, _, _, _, _, _, _, _, _, _, _, _, _, _, rfl⟩
        · obtain rfl : m = o := by omega
          have hu' := hu.out
          rw [show m - 1 = x.toNat by omega] at hu'
          have hult : u < 256 ^ x.toNat := by
            have := valN_lt (natsB (r.take x.toNat)) (nats_small _)
            rw [nats_len, List.length_take, Nat.min_eq_left (by omega)] at this
            omega
          have hul : u < 18446744073709551616 := Nat.lt_of_lt_of_le hult (Nat.le_trans (Nat.pow_le_pow_right (by omega) hx8) (by decide))
          have hmo' : ¬ (m : Int) < (m : Int) := by omega
          by_cases hs : u < 9223372036854775808
          · obtain rfl : z = (u : Int) := by rw [hz.out]; unfold wrap64; omega
            have HSZ := Lib.hid (size_at u · hs)
            by_cases hd : (oneB u).length = m
            · have ht : takeB l = some (u, r.drop x.toNat) := by
                rw [← hlx, hu']
                rw [hu', one_len] at hd
                exact take_fit (by omega) (hu' ▸ hs) (by omega)
              have HF := Lib.hid (first_some ht)
              rw [hd] at HSZ HF
              clear h0 h1 hz hu ho hko hle hlx ht hu' hult hul
              go_wp2_with (go_at_call 26; refine (HSZ.out _).mono ?_; rintro e w' ⟨rfl, rfl⟩)
              simp only [Exit.jump]
              go_ret2
              rw [HF.out]
              exact ⟨rfl, rfl⟩
            · have HN : Hid (takeB l = none) := Lib.hid (by
                cases ht : takeB l with
                | none => rfl
                | some p =>
                  obtain ⟨n, t⟩ := p
                  rw [← hlx] at ht
                  obtain ⟨_, _, hvn, hn, hdn⟩ := take_fits ht
                  rw [hvn] at hu'
                  rw [one_len, hu'] at hd
                  omega)
              generalize (oneB u).length = s at *
              have hsk : ((s : Int) == (m : Int)) = false := by simp; omega
              clear h0 h1 hz hu ho hko hle hlx hu' hult hul
              go_wp2_with (go_at_call 26; refine (HSZ.out _).mono ?_; rintro e w' ⟨rfl, rfl⟩)
              go_step3
              exact ⟨rfl, rfl, HN, _, _, _, _, _, _, _, _, _, _, _, _, _, _, _, _, _, _, _, _, _, _, _, _, _, _, _, _, _, _, _, _, _, _, _, _, _, _, _, _, _, _, _, _, _, rfl⟩
          · have hz0 : z < 0 := by rw [hz.out]; unfold wrap64; omega
            have HSZ := Lib.hid (size_neg z · hz0)
            have HN : Hid (takeB l = none) := Lib.hid (by
              cases ht : takeB l with
              | none => rfl
              | some p =>
                obtain ⟨n, t⟩ := p
                rw [← hlx] at ht
                obtain ⟨_, _, hvn, hn, hdn⟩ := take_fits ht
                omega)
            have hsk : ((0 : Int) == (m : Int)) = false := by simp; omega
            clear h0 h1 hz hu ho hko hle hlx hu' hult hul hz0
            go_wp2_with (go_at_call 26; refine (HSZ.out _).mono ?_; rintro e w' ⟨rfl, rfl⟩)
            go_step3
            exact ⟨rfl, rfl, HN, _, _, _, _, _, _, _, _, _, _, _, _, _, _, _, _, _, _, _, _, _, _, _, _, _, _, _, _, _, _, _, _, _, _, _, _, _, _, _, _, _, _, _, _, _, rfl⟩
  · rintro a' w' ⟨rfl, hn, u0, u1, u2, u3, u4, u5, u6, u7, u8, u9, u10, u11, u12, u13, u14, u15, u16, u17, u18, u19, u20, u21, u22, u23, u24, u25, u26, u27, u28, u29, u30, u31, u32, u33, u34, u35, u36, u37, u38, u39, u40, u41, u42, u43, u44, rfl⟩
    go_wp2
    simp only [Exit.jump]
    go_ret2
    rw [first_none hn.out]
    exact ⟨rfl, rfl⟩
end Go.Proofs.Ytgfomfioagblfaa
