/-
  NightDays: what is by night does not hang on the day: so many days later it is the same.
-/
import Derived.Test.YtcefjnjlcpkanaaZau
import Derived.StillTail
import Derived.StillTailTactics
namespace Go.Proofs.Ytcefjnjlcpkanaa
open Go.RowKit
set_option linter.unusedVariables false
set_option linter.unusedSimpArgs false
set_option maxRecDepth 100000

theorem wp_append_run9 {P : Program} {o : Oper} {a : Act} {w w' : World} {K : Act → World → Prop} {Q : Exit → Act → World → Prop} {s x : Operand} {t : TypeId} {v u v' : Value}
    (hr : (Builtin.append_ #[t, t] o.type #[v, u]).run P w = .ok v' w')
    (ho : o.op = .call { callee := .builtin .append, args := #[s, x], argTypes := #[t, t] }) (hs : a.eval s = v) (hx : a.eval x = u)
    (h : K (a.put o.dst v') w') : o.wp P a w K Q := by
  unfold Oper.wp execOp
  simp only [ho, resolve, invoke, builtin, Sem.run_bind, Sem.run_pure, Result.andThen_ok, List.map_toArray, List.map_cons, List.map_nil, hs, hx, hr]
  exact h
theorem later_snoc (m : Int) (l : List (Int × Int)) (k : Nat) (h : k < l.length) {x y : Int} (e : l.getD k (0, 0) = (x, y)) : laterL m (l.take (k + 1)) = laterL m (l.take k) ++ [(x + m, y + m)] := by
  unfold laterL
  rw [sp_take_snoc l k h, List.map_append, e]
  rfl
theorem later_len (m : Int) (l : List (Int × Int)) : (laterL m l).length = l.length := by simp [laterL]
theorem later_get (m : Int) (l : List (Int × Int)) (k : Nat) (h : k < l.length) {x y : Int} (e : l.getD k (0, 0) = (x, y)) : (laterL m l).getD k (0, 0) = (x + m, y + m) := by
  have e2 : l[k] = (x, y) := by rw [← e]; simp [List.getD, h]
  simp [laterL, List.getD, h, e2]
theorem later_fits {m : Int} {l : List (Int × Int)} (hm : 0 ≤ m) (hm2 : m ≤ 8553600) (hl : Fits l) (h : ∀ x ∈ l, 0 ≤ x.1 ∧ x.1 ≤ 33000000 ∧ x.2 ≤ 33000000) : Fits (laterL m l) := fun y hy => by
  unfold laterL at hy
  obtain ⟨x, hx, rfl⟩ := List.mem_map.1 hy
  obtain ⟨h1, h2, h3⟩ := h x hx
  have h4 := (hl x hx).2.1
  exact ⟨⟨by simp only []; omega, by simp only []; omega⟩, ⟨by simp only []; omega, by simp only []; omega⟩⟩
theorem days_plain {b : Bool} {f g d : Int} {l : List (Int × Int)} (d0 : 0 ≤ d) (d1 : d ≤ 99) (h : ∀ x ∈ l, 0 ≤ x.1 ∧ x.1 ≤ 33000000 ∧ x.2 ≤ 33000000) (h2 : ∀ x ∈ l, x.2 ≤ 20000000) :
    (canon fun t => In (laterL (d * 86400) l) t ∧ NB b f g t) = laterL (d * 86400) (canon fun t => In l t ∧ NB b f g t) := by
  refine canon_later (B := 20000000) (by omega) ?_ (by omega) ?_
  · rintro t _ _ ⟨⟨x, hx, _, q⟩, _⟩
    have := h2 x hx
    omega
  · intro t _ _
    rw [later_in]
    have e : NB b f g t ↔ NB b f g (t - d * 86400) := by
      unfold NB
      rw [← night_later f g (t - d * 86400) d, show t - d * 86400 + d * 86400 = t by omega]
    rw [e]
    constructor
    · rintro ⟨⟨x, hx, q1, q2⟩, q3⟩
      have := (h x hx).1
      exact ⟨by omega, ⟨x, hx, q1, q2⟩, q3⟩
    · rintro ⟨_, q⟩; exact q
set_option maxHeartbeats 8000000 in
theorem nightDays_main (s : SetP) (cs : Array Value) (w : World) (hC : SetC w s cs) (hf : s.Fit) (A : Option Addr) (cap : Nat) (xs : List (Int × Int)) (hx : Spans w A xs) (hmax : xs.length ≤ 9223372036854775807) (dy t : Int) (dy0 : 0 ≤ dy) (dy1 : dy ≤ 255) (t0 : 0 ≤ t) (t1 : t ≤ 4294967295) :
    Calls Try.prog 5 #[.agg cs, .slice A xs.length cap, .int .u8 dy, .int .u32 t] w fun e w' => e = .returned (.bool true) ∧ Below w.heap.size w w' := by
  have mixed : Try.prog.follows Departure.mixedOrders = true := by kernel_rfl
  have HM := Lib.hid mixed
  have HZ := Lib.hid hC.size
  have HN0 := Lib.hid (nx_start hC hx)
  have HFEW := Lib.hid (fun W (hW : SetC W s cs) (hX : Spans W A xs) => few14 s cs W hW A xs.length cap xs hX rfl hmax)
  obtain ⟨b, hb⟩ : ∃ b, checkB s = b := ⟨_, rfl⟩
  have COF := Lib.hid (fun W (hW : SetC W s cs) (hX : Spans W A xs) hl => ofnight_c hW hf b hb A cap xs hX hl)
  obtain ⟨d, hd⟩ : ∃ d, dy.tmod 100 = d := ⟨_, rfl⟩
  obtain ⟨n, hn⟩ : ∃ n, t.tmod 20000000 = n := ⟨_, rfl⟩
  have hdm : dy % 100 = d := by rw [← hd]; exact (Int.tmod_eq_emod_of_nonneg dy0).symm
  have hnm : t % 20000000 = n := by rw [← hn]; exact (Int.tmod_eq_emod_of_nonneg t0).symm
  have hd2 : 0 ≤ d ∧ d ≤ 99 := by omega
  have hn2 : 0 ≤ n ∧ n ≤ 19999999 := by omega
  obtain ⟨v, hv⟩ : ∃ v, isB b s.nfrom s.nto n = v := ⟨_, rfl⟩
  have CI1 := Lib.hid (fun W (hW : SetC W s cs) => isnight_c hW hf b hb n (by omega) (by omega) v hv)
  have CI2 := Lib.hid (fun W (hW : SetC W s cs) => isnight_c hW hf b hb (n + d * 86400) (by omega) (by omega) v ((is_later n d hn2.1 hd2.1 (by omega)).trans hv))
  have COL := Lib.hid (fun W (hW : SetC W s cs) A cap (l : List (Int × Int)) (hX : Spans W A l) hl => ofnight_c hW hf b hb A cap l hX hl)
  have HPL := Lib.hid (fun (l : List (Int × Int)) h h2 => days_plain (b := b) (f := s.nfrom) (g := s.nto) (l := l) hd2.1 hd2.2 h h2)
  have HPV : Hid (PlainFrom 0 (canon fun t => In xs t ∧ NB b s.nfrom s.nto t)) := canon_plain _
  have lV := canon_len (fun t => In xs t ∧ NB b s.nfrom s.nto t)
  obtain ⟨B, hB⟩ : ∃ B, d * 86400 = B := ⟨_, rfl⟩
  have hB2 : 0 ≤ B ∧ B ≤ 8553600 := by omega
  rw [hB] at CI2 HPL
  have HXS := Lib.hid hx.1
  clear hC hx hf hb hv
  replace hn := Lib.hid hn
  replace hnm := Lib.hid hnm
  go_enter Try.func5, Try.ntmps5
  go_wp2_with fail
  refine (awake14 _).mono ?_
  rintro e w1 ⟨rfl, b1⟩
  have HN1 := Lib.hid (HN0.out.below b1)
  clear HN0 b1
  go_wp2_with (refine wpList_load_sp (by rfl) _ rfl w.heap.size rfl cs HN1.out.h HZ.out ?_)
  refine (HFEW.out _ HN1.out.c HN1.out.x).mono ?_
  rintro e w2 ⟨⟨q, rfl, hq⟩, b2⟩
  have HN2 := Lib.hid (HN1.out.below b2)
  clear HN1 b2 HFEW
  cases q with
  | false =>
    have HE := Lib.hid HN2.out.b
    clear HN2 hq
    go_wp2
    go_ret
    exact ⟨rfl, HE.out⟩
  | true =>
    obtain ⟨hP, hF, h30⟩ := hq rfl
    clear hq
    go_upto_region 5 with fail
    (try rw [hB])
    clear hd hdm hd2 hB
    go_wp2
    go_loopw [11, 12] (fun o i wr => ∃ (k : Nat) (R : Option Addr) (c : Nat), k ≤ xs.length ∧ i = .int .i64 k ∧ o = .slice R (laterL B (xs.take k)).length c ∧ Hid (Row wr w2.heap.size R c (laterL B (xs.take k))) ∧ Hid (∀ x ∈ xs.take k, x.2 ≤ 20000000) ∧ Hid (Below w2.heap.size w2 wr)) (fun _ i _ => xs.length - (intOf i).toNat)
    case atStart => exact ⟨0, none, 0, Nat.zero_le _, rfl, rfl, Row.nil _ _, by simp [Hid], Below.refl _ _⟩
    case round =>
      obtain ⟨k, R, c, hk, rfl, rfl, hR, hA, hbw⟩ := hrel
      by_cases hlt : k < xs.length
      · obtain ⟨bb, off, rfl, hblt, d1, d2⟩ := HN2.out.x.2 k hlt
        have c1 := (hbw.out.cell (p := ⟨bb, off + k * 2, none⟩) hblt).trans d1
        have c2 := (hbw.out.cell (p := ⟨bb, off + k * 2 + 1, none⟩) hblt).trans d2
        have hbd := hP (xs.getD k (0, 0)) (by simp [List.getD, hlt])
        have hft := HXS.out.at hlt
        have HSN := Lib.hid (fun x y e => later_snoc B xs k hlt (x := x) (y := y) e)
        have HTK := Lib.hid (sp_take_snoc xs k hlt)
        have hll : (laterL B (xs.take k)).length ≤ 30 := by rw [later_len, List.length_take]; omega
        generalize xs.getD k (0, 0) = z at *
        obtain ⟨x, y⟩ := z
        simp only [] at c1 c2 d1 d2 hbd hft
        have HSN2 := Lib.hid (HSN.out x y rfl)
        clear HSN
        have i0 : (0 : Int) ≤ (k : Int) := by omega
        have i1 : (k : Int) < (xs.length : Int) := by omega
        by_cases hy : 20000000 < y
        · have HE := Lib.hid (bel_on HN2.out.b hbw.out)
          go_wp2
          go_ret
          exact ⟨rfl, HE.out⟩
        · have hy2 : y ≤ 20000000 := by omega
          have HA2 : Hid (∀ x ∈ xs.take (k + 1), x.2 ≤ 20000000) := by
            show ∀ x ∈ _, _
            rw [HTK.out]
            intro u hu
            rcases List.mem_append.1 hu with q | q
            · exact hA.out u q
            · rw [List.mem_singleton.1 q]; exact hy2
          obtain ⟨hb0, hb1, hb2⟩ := hbd
          obtain ⟨hf1, hf2⟩ := hft.2
          clear hA HTK hft
          go_wp2_with fail
          obtain ⟨A6, c6, w6, hr6, hrow6, hkp6⟩ := row_one hR.out.drew rfl (x + B) (y + B) (by omega) (below_drew hbw.out).size (s := wr.heap.size) rfl
          rw [← HSN2.out] at hrow6
          have e7 : (laterL B (xs.take (k + 1))).length = (laterL B (xs.take k)).length + 1 := by rw [HSN2.out, List.length_append]; rfl
          have HR6 := Lib.hid hr6
          have HRow6 := Lib.hid hrow6
          have HB6 := Lib.hid ((below_drew hbw.out).trans (hkp6.below (B := w2.heap.size) fun i hi => hi))
          have E7 := Lib.hid e7
          have hwx : IntKind.i64.wrap (x + B) = x + B := wrapn_id (by omega) (by omega)
          have hwy : IntKind.i64.wrap (y + B) = y + B := wrapn_id (by omega) (by omega)
          clear hr6 hrow6 hkp6 e7 hR c1 c2 HSN2
          generalize (laterL B (xs.take k)).length = L at *
          refine wp_region_noPanic ?_
          refine wp_region_held_drew (S := fun w' => Below w2.heap.size w2 w') (by kernel_rfl) (below_drew (hbw.out)) (fun hHeld => ?_)
          refine wpAnyH_take (i := 0) (oi := ⟨some 40, _, _, _, _, _⟩) (v := ?_) rfl (by kernel_rfl) (by kernel_rfl) (by kernel_rfl) (fun _ _ _ h => h) (Or.inl ⟨by rfl, ?_⟩) hHeld ?_
          rotate_left
          · intro ww hSw
            (try dsimp only at hSw)
            go_simp
            (try with_reducible rfl)
          simp only [Act.put, List.setIfInBounds_toArray, List.set_cons_zero, List.set_cons_succ]
          refine wpAnyH_take (i := 1) (oi := ⟨some 41, _, _, _, _, _⟩) (v := ?_) rfl (by kernel_rfl) (by kernel_rfl) (by kernel_rfl) (fun _ _ _ h => h) (Or.inl ⟨by rfl, ?_⟩) hHeld ?_
          rotate_left
          · intro ww hSw
            (try dsimp only at hSw)
            go_simp
            (try with_reducible rfl)
          simp only [Act.put, List.setIfInBounds_toArray, List.set_cons_zero, List.set_cons_succ]
          refine wpAnyH_take (i := 2) (oi := ⟨some 42, _, _, _, _, _⟩) (v := ?_) rfl (by kernel_rfl) (by kernel_rfl) (by kernel_rfl) (fun _ _ _ h => h) (Or.inl ⟨by rfl, ?_⟩) hHeld ?_
          rotate_left
          · intro ww hSw
            (try dsimp only at hSw)
            go_simp
            (try with_reducible rfl)
          simp only [Act.put, List.setIfInBounds_toArray, List.set_cons_zero, List.set_cons_succ]
          refine wpAnyH_take (i := 3) (oi := ⟨some 43, _, _, _, _, _⟩) (v := ?_) rfl (by kernel_rfl) (by kernel_rfl) (by kernel_rfl) (fun _ _ _ h => h) (Or.inl ⟨by rfl, ?_⟩) hHeld ?_
          rotate_left
          · intro ww hSw
            (try dsimp only at hSw)
            go_simp
            (try with_reducible rfl)
          simp only [Act.put, List.setIfInBounds_toArray, List.set_cons_zero, List.set_cons_succ]
          refine wpAnyH_take (i := 4) (oi := ⟨some 44, _, _, _, _, _⟩) (v := ?_) rfl (by kernel_rfl) (by kernel_rfl) (by kernel_rfl) (fun _ _ _ h => h) (Or.inl ⟨by rfl, ?_⟩) hHeld ?_
          rotate_left
          · intro ww hSw
            (try dsimp only at hSw)
            go_simp
            (try with_reducible rfl)
          simp only [Act.put, List.setIfInBounds_toArray, List.set_cons_zero, List.set_cons_succ]
          refine wpAnyH_take (i := 5) (oi := ⟨some 45, _, _, _, _, _⟩) (v := .int .i64 x) rfl (by kernel_rfl) (by kernel_rfl) (by kernel_rfl) (fun _ _ _ h => h) (Or.inl ⟨by rfl, ?_⟩) hHeld ?_
          · intro ww hSw
            (try dsimp only at hSw)
            have qc := (hSw.cell (p := ⟨bb, off + k * 2, none⟩) hblt).trans d1
            have qz := cell_lt qc
            go_simp
          simp only [Act.put, List.setIfInBounds_toArray, List.set_cons_zero, List.set_cons_succ]
          refine wpAnyH_take (i := 6) (oi := ⟨some 46, _, _, _, _, _⟩) (v := ?_) rfl (by kernel_rfl) (by kernel_rfl) (by kernel_rfl) (fun _ _ _ h => h) (Or.inl ⟨by rfl, ?_⟩) hHeld ?_
          rotate_left
          · intro ww hSw
            (try dsimp only at hSw)
            go_simp
            (try with_reducible rfl)
          simp only [Act.put, List.setIfInBounds_toArray, List.set_cons_zero, List.set_cons_succ]
          refine wpAnyH_take (i := 7) (oi := ⟨some 47, _, _, _, _, _⟩) (v := .int .i64 (x + B)) rfl (by kernel_rfl) (by kernel_rfl) (by kernel_rfl) (fun _ _ _ h => h) (Or.inl ⟨by rfl, ?_⟩) hHeld ?_
          · intro ww hSw
            (try dsimp only at hSw)
            go_simp
            (try rw [hwx])
          simp only [Act.put, List.setIfInBounds_toArray, List.set_cons_zero, List.set_cons_succ]
          refine wpAnyH_take (i := 8) (oi := ⟨some 48, _, _, _, _, _⟩) (v := ?_) rfl (by kernel_rfl) (by kernel_rfl) (by kernel_rfl) (fun _ _ _ h => h) (Or.inl ⟨by rfl, ?_⟩) hHeld ?_
          rotate_left
          · intro ww hSw
            (try dsimp only at hSw)
            go_simp
            (try with_reducible rfl)
          simp only [Act.put, List.setIfInBounds_toArray, List.set_cons_zero, List.set_cons_succ]
          refine wpAnyH_take (i := 9) (oi := ⟨some 49, _, _, _, _, _⟩) (v := ?_) rfl (by kernel_rfl) (by kernel_rfl) (by kernel_rfl) (fun _ _ _ h => h) (Or.inl ⟨by rfl, ?_⟩) hHeld ?_
          rotate_left
          · intro ww hSw
            (try dsimp only at hSw)
            go_simp
            (try with_reducible rfl)
          simp only [Act.put, List.setIfInBounds_toArray, List.set_cons_zero, List.set_cons_succ]
          refine wpAnyH_take (i := 10) (oi := ⟨some 50, _, _, _, _, _⟩) (v := ?_) rfl (by kernel_rfl) (by kernel_rfl) (by kernel_rfl) (fun _ _ _ h => h) (Or.inl ⟨by rfl, ?_⟩) hHeld ?_
          rotate_left
          · intro ww hSw
            (try dsimp only at hSw)
            go_simp
            (try with_reducible rfl)
          simp only [Act.put, List.setIfInBounds_toArray, List.set_cons_zero, List.set_cons_succ]
          refine wpAnyH_take (i := 11) (oi := ⟨some 51, _, _, _, _, _⟩) (v := ?_) rfl (by kernel_rfl) (by kernel_rfl) (by kernel_rfl) (fun _ _ _ h => h) (Or.inl ⟨by rfl, ?_⟩) hHeld ?_
          rotate_left
          · intro ww hSw
            (try dsimp only at hSw)
            go_simp
            (try with_reducible rfl)
          simp only [Act.put, List.setIfInBounds_toArray, List.set_cons_zero, List.set_cons_succ]
          refine wpAnyH_take (i := 12) (oi := ⟨some 52, _, _, _, _, _⟩) (v := .int .i64 y) rfl (by kernel_rfl) (by kernel_rfl) (by kernel_rfl) (fun _ _ _ h => h) (Or.inl ⟨by rfl, ?_⟩) hHeld ?_
          · intro ww hSw
            (try dsimp only at hSw)
            have qc := (hSw.cell (p := ⟨bb, off + k * 2 + 1, none⟩) hblt).trans d2
            have qz := cell_lt qc
            go_simp
          simp only [Act.put, List.setIfInBounds_toArray, List.set_cons_zero, List.set_cons_succ]
          refine wpAnyH_take (i := 13) (oi := ⟨some 53, _, _, _, _, _⟩) (v := ?_) rfl (by kernel_rfl) (by kernel_rfl) (by kernel_rfl) (fun _ _ _ h => h) (Or.inl ⟨by rfl, ?_⟩) hHeld ?_
          rotate_left
          · intro ww hSw
            (try dsimp only at hSw)
            go_simp
            (try with_reducible rfl)
          simp only [Act.put, List.setIfInBounds_toArray, List.set_cons_zero, List.set_cons_succ]
          refine wpAnyH_take (i := 14) (oi := ⟨some 54, _, _, _, _, _⟩) (v := .int .i64 (y + B)) rfl (by kernel_rfl) (by kernel_rfl) (by kernel_rfl) (fun _ _ _ h => h) (Or.inl ⟨by rfl, ?_⟩) hHeld ?_
          · intro ww hSw
            (try dsimp only at hSw)
            go_simp
            (try rw [hwy])
          simp only [Act.put, List.setIfInBounds_toArray, List.set_cons_zero, List.set_cons_succ]
          refine wpAnyH_take (i := 15) (oi := ⟨some 55, _, _, _, _, _⟩) (v := ?_) rfl (by kernel_rfl) (by kernel_rfl) (by kernel_rfl) (fun _ _ _ h => h) (Or.inl ⟨by rfl, ?_⟩) hHeld ?_
          rotate_left
          · intro ww hSw
            (try dsimp only at hSw)
            go_simp
            (try with_reducible rfl)
          simp only [Act.put, List.setIfInBounds_toArray, List.set_cons_zero, List.set_cons_succ]
          refine wpAnyH_ready (rs := [16]) (by kernel_rfl) (by simp) ?_
          refine AllReadyH.cons (o := ⟨some 56, _, _, _, _, _⟩) rfl (fun K hK => ?_) AllReadyH.nil
          go_simp
          refine hK.out _ _ ?_ (fun hHeld => ?_)
          · (try dsimp only)
            exact bel_alloc (below_drew hbw.out) _
          clear hK K
          (try simp only [Act.put, List.setIfInBounds_toArray, List.set_cons_zero, List.set_cons_succ])
          refine wpAnyH_ready (rs := [17]) (by kernel_rfl) (by simp) ?_
          refine AllReadyH.cons (o := ⟨some 57, _, _, _, _, _⟩) rfl (fun K hK => ?_) AllReadyH.nil
          show if Region.wanted _ _ = true then _ else _
          rw [if_pos (by rfl)]
          refine wp_append_run9 (K := K) HR6.out rfl rfl rfl ?_
          refine hK.out _ _ ?_ (fun hHeld => ?_)
          · (try dsimp only)
            exact HB6.out
          clear hK K
          (try simp only [Act.put, List.setIfInBounds_toArray, List.set_cons_zero, List.set_cons_succ])
          refine wpAnyH_take (i := 18) (oi := ⟨some 11, _, _, _, _, _⟩) (v := ?_) rfl (by kernel_rfl) (by kernel_rfl) (by kernel_rfl) (fun _ _ _ h => h) (Or.inl ⟨by rfl, ?_⟩) hHeld ?_
          rotate_left
          · intro ww hSw
            (try dsimp only at hSw)
            go_simp
            (try with_reducible rfl)
          simp only [Act.put, List.setIfInBounds_toArray, List.set_cons_zero, List.set_cons_succ]
          refine wpAnyH_done (by kernel_rfl) ?_ _
          refine NoPanic.normal ?_
          go_wp2
          go_roundw
          case rel => exact ⟨k + 1, A6, c6, by omega, by go_num, by rw [E7.out], HRow6, HA2, HB6⟩
          case measure => simp [intOf]; omega
      · obtain rfl : k = xs.length := by omega
        have eT : xs.take xs.length = xs := List.take_length
        rw [eT] at hR hA
        rw [eT]
        have HVE := Lib.hid (HPL.out xs hP hA.out)
        have HN3 := Lib.hid (HN2.out.below hbw.out)
        have HL3 := Lib.hid (hR.out.spans (later_fits hB2.1 hB2.2 HXS.out hP))
        have hln : (laterL B xs).length ≤ 30 := by rw [later_len]; exact h30
        generalize laterL B xs = ls at *
        have HFV : Hid (Fits (canon fun t => In xs t ∧ NB b s.nfrom s.nto t)) := Fits.canon _
        have HFW : Hid (Fits (canon fun t => In ls t ∧ NB b s.nfrom s.nto t)) := Fits.canon _
        rw [HVE.out] at HFW
        have COL3 := Lib.hid (fun W (hW : SetC W s cs) (hX : Spans W R ls) => COL.out W hW R c ls hX (by omega))
        rw [HVE.out] at COL3
        generalize (canon fun t => In xs t ∧ NB b s.nfrom s.nto t) = V at *
        clear hR hA hbw HN2 HVE COL HPL hP
        go_wp2_with (refine wpList_load_sp (by rfl) _ rfl w.heap.size rfl cs HN3.out.h HZ.out ?_)
        refine (COF.out _ HN3.out.c HN3.out.x (by omega)).mono ?_
        rintro e w4 ⟨A4, c4, rfl, r4, b4⟩
        have HN4 := Lib.hid (HN3.out.below b4)
        have HL4 := Lib.hid (HL3.out.below b4)
        have HA4 := Lib.hid (r4.spans HFV.out)
        clear r4 b4 HN3 HL3
        go_wp2_with (refine wpList_load_sp (by rfl) _ rfl w.heap.size rfl cs HN4.out.h HZ.out ?_)
        refine (COL3.out _ HN4.out.c HL4.out).mono ?_
        rintro e w5 ⟨A5, c5, rfl, r5, b5⟩
        have HN5 := Lib.hid (HN4.out.below b5)
        have HA5 := Lib.hid (HA4.out.below b5)
        have HB5 := Lib.hid (r5.spans HFW.out)
        clear r5 b5 HN4 HL4 HA4
        rw [later_len]
        obtain ⟨m, hm⟩ : ∃ m, V.length = m := ⟨_, rfl⟩
        rw [hm]
        rw [hm] at lV
        go_wp2
        go_loopw [15] (fun i wr => ∃ (k : Nat), k ≤ m ∧ i = .int .i64 k ∧ Hid (Below w5.heap.size w5 wr)) (fun i _ => m - (intOf i).toNat)
        case atStart => exact ⟨0, Nat.zero_le _, rfl, Below.refl _ _⟩
        case round =>
          obtain ⟨k, hk, rfl, hbw⟩ := hrel
          by_cases hlt2 : k < m
          · obtain ⟨p1, o1, rfl, hl1, x1, x2⟩ := (HA5.out.below hbw.out).2 k (by omega)
            obtain ⟨p2, o2, rfl, hl2, y1, y2⟩ := (HB5.out.below hbw.out).2 k (by rw [later_len]; omega)
            have hpl := (plain_pairs.1 HPV.out).1 (V.getD k (0, 0)) (by simp [List.getD, hm, hlt2])
            obtain ⟨p, hp⟩ : ∃ p, V.getD k (0, 0) = p := ⟨_, rfl⟩
            obtain ⟨x, y⟩ := p
            rw [later_get B V k (by omega) hp] at y1 y2
            rw [hp] at x1 x2 hpl
            simp only [] at x1 x2 y1 y2 hpl
            obtain ⟨z0, z1, z2⟩ := hpl
            have hb1 := cell_lt x1
            have hb2 := cell_lt y1
            have i0 : (0 : Int) ≤ (k : Int) := by omega
            have i1 : (k : Int) < (m : Int) := by omega
            clear hp
            have g1 : (x + B != x + B) = false := by simp
            have g2 : (y + B != y + B) = false := by simp
            go_wp2
            go_quiet (fail)
            go_wp2
            go_roundw
            case rel => exact ⟨k + 1, by omega, by go_num, below_drewN hbw.out _⟩
            case measure => simp [intOf]; omega
          · obtain rfl : k = m := by omega
            have HN7 := Lib.hid (HN5.out.below hbw.out)
            clear hbw HN5 HA5 HB5
            replace hn := hn.out
            replace hnm := hnm.out
            go_upto_region 22 with fail
            clear hn hnm
            have hwn : IntKind.i64.wrap (n + B) = n + B := wrapn_id (by omega) (by omega)
            refine wp_region_noPanic ?_
            refine wp_region_held_drew (S := fun w' => Below wr.heap.size wr w') (by kernel_rfl) (below_drew (Below.refl _ _)) (fun hHeld => ?_)
            refine wpAnyH_take (i := 0) (oi := ⟨some 106, _, _, _, _, _⟩) (v := ?_) rfl (by kernel_rfl) (by kernel_rfl) (by kernel_rfl) (fun _ _ _ h => h) (Or.inl ⟨by rfl, ?_⟩) hHeld ?_
            rotate_left
            · intro ww hSw
              (try dsimp only at hSw)
              go_simp
              (try with_reducible rfl)
            simp only [Act.put, List.setIfInBounds_toArray, List.set_cons_zero, List.set_cons_succ]
            refine wpAnyH_take (i := 1) (oi := ⟨some 107, _, _, _, _, _⟩) (v := ?_) rfl (by kernel_rfl) (by kernel_rfl) (by kernel_rfl) (fun _ _ _ h => h) (Or.inl ⟨by rfl, ?_⟩) hHeld ?_
            rotate_left
            · intro ww hSw
              (try dsimp only at hSw)
              go_simp
              (try with_reducible rfl)
            simp only [Act.put, List.setIfInBounds_toArray, List.set_cons_zero, List.set_cons_succ]
            refine wpAnyH_take (i := 2) (oi := ⟨some 108, _, _, _, _, _⟩) (v := .agg cs) rfl (by kernel_rfl) (by kernel_rfl) (by kernel_rfl) (fun _ _ _ h => h) (Or.inl ⟨by rfl, ?_⟩) hHeld ?_
            · intro ww hSw
              (try dsimp only at hSw)
              exact exec_load_sp _ rfl rfl (HN7.out.h.below hSw) HZ.out
            simp only [Act.put, List.setIfInBounds_toArray, List.set_cons_zero, List.set_cons_succ]
            refine wpAnyH_take (i := 3) (oi := ⟨some 109, _, _, _, _, _⟩) (v := ?_) rfl (by kernel_rfl) (by kernel_rfl) (by kernel_rfl) (fun _ _ _ h => h) (Or.inl ⟨by rfl, ?_⟩) hHeld ?_
            rotate_left
            · intro ww hSw
              (try dsimp only at hSw)
              go_simp
              (try with_reducible rfl)
            simp only [Act.put, List.setIfInBounds_toArray, List.set_cons_zero, List.set_cons_succ]
            refine wpAnyH_take (i := 5) (oi := ⟨some 111, _, _, _, _, _⟩) (v := .agg cs) rfl (by kernel_rfl) (by kernel_rfl) (by kernel_rfl) (fun _ _ _ h => h) (Or.inl ⟨by rfl, ?_⟩) hHeld ?_
            · intro ww hSw
              (try dsimp only at hSw)
              exact exec_load_sp _ rfl rfl (HN7.out.h.below hSw) HZ.out
            simp only [Act.put, List.setIfInBounds_toArray, List.set_cons_zero, List.set_cons_succ]
            refine wpAnyH_take (i := 6) (oi := ⟨some 112, _, _, _, _, _⟩) (v := ?_) rfl (by kernel_rfl) (by kernel_rfl) (by kernel_rfl) (fun _ _ _ h => h) (Or.inl ⟨by rfl, ?_⟩) hHeld ?_
            rotate_left
            · intro ww hSw
              (try dsimp only at hSw)
              go_simp
              (try with_reducible rfl)
            simp only [Act.put, List.setIfInBounds_toArray, List.set_cons_zero, List.set_cons_succ]
            refine wpAnyH_take (i := 7) (oi := ⟨some 113, _, _, _, _, _⟩) (v := ?_) rfl (by kernel_rfl) (by kernel_rfl) (by kernel_rfl) (fun _ _ _ h => h) (Or.inl ⟨by rfl, ?_⟩) hHeld ?_
            rotate_left
            · intro ww hSw
              (try dsimp only at hSw)
              go_simp
              (try with_reducible rfl)
            simp only [Act.put, List.setIfInBounds_toArray, List.set_cons_zero, List.set_cons_succ]
            refine wpAnyH_take (i := 8) (oi := ⟨some 114, _, _, _, _, _⟩) (v := .int .i64 (n + B)) rfl (by kernel_rfl) (by kernel_rfl) (by kernel_rfl) (fun _ _ _ h => h) (Or.inl ⟨by rfl, ?_⟩) hHeld ?_
            · intro ww hSw
              (try dsimp only at hSw)
              go_simp
              (try rw [hwn])
            simp only [Act.put, List.setIfInBounds_toArray, List.set_cons_zero, List.set_cons_succ]
            refine wpAnyH_ready (rs := [4]) (by kernel_rfl) (by simp) ?_
            refine AllReadyH.cons (o := ⟨some 110, _, _, _, _, _⟩) rfl (fun K hK => ?_) AllReadyH.nil
            go_simp
            go_at_call 13
            refine (CI1.out _ (HN7.out.c.below (below_drew (Below.refl _ _)))).mono ?_
            rintro e_r w8 ⟨rfl, hbn⟩
            have hbw8 : Below wr.heap.size wr w8 := bel_on (show Below wr.heap.size wr _ by (repeat' (first | with_reducible exact Below.refl _ _ | with_reducible assumption | with_reducible refine bel_alloc ?_ _ | with_reducible refine bel_set ?_ ?_ _ | with_reducible refine below_drewN ?_ _ | with_reducible refine below_drew ?_ | (simp; done) | (simp; omega) | omega))) hbn
            clear hbn
            go_wp2_with fail
            refine hK.out _ _ ?_ (fun hHeld => ?_)
            · (try dsimp only)
              exact hbw8
            clear hK K
            (try simp only [Act.put, List.setIfInBounds_toArray, List.set_cons_zero, List.set_cons_succ])
            refine wpAnyH_ready (rs := [9]) (by kernel_rfl) (by simp) ?_
            refine AllReadyH.cons (o := ⟨some 115, _, _, _, _, _⟩) rfl (fun K hK => ?_) AllReadyH.nil
            go_simp
            go_at_call 13
            refine (CI2.out _ (HN7.out.c.below hbw8)).mono ?_
            rintro e_r w9 ⟨rfl, hbn⟩
            have hbw9 : Below wr.heap.size wr w9 := bel_on (show Below wr.heap.size wr _ by (repeat' (first | with_reducible exact Below.refl _ _ | with_reducible assumption | with_reducible refine bel_alloc ?_ _ | with_reducible refine bel_set ?_ ?_ _ | with_reducible refine below_drewN ?_ _ | with_reducible refine below_drew ?_ | (simp; done) | (simp; omega) | omega))) hbn
            clear hbn
            go_wp2_with fail
            refine hK.out _ _ ?_ (fun hHeld => ?_)
            · (try dsimp only)
              exact hbw9
            clear hK K
            (try simp only [Act.put, List.setIfInBounds_toArray, List.set_cons_zero, List.set_cons_succ])
            refine wpAnyH_take (i := 10) (oi := ⟨some 116, _, _, _, _, _⟩) (v := .bool true) rfl (by kernel_rfl) (by kernel_rfl) (by kernel_rfl) (fun _ _ _ h => h) (Or.inl ⟨by rfl, ?_⟩) hHeld ?_
            · intro ww hSw
              (try dsimp only at hSw)
              go_simp
            simp only [Act.put, List.setIfInBounds_toArray, List.set_cons_zero, List.set_cons_succ]
            refine wpAnyH_take (i := 11) (oi := ⟨some 117, _, _, _, _, _⟩) (v := ?_) rfl (by kernel_rfl) (by kernel_rfl) (by kernel_rfl) (fun _ _ _ h => h) (Or.inl ⟨by rfl, ?_⟩) hHeld ?_
            rotate_left
            · intro ww hSw
              (try dsimp only at hSw)
              go_simp
              (try with_reducible rfl)
            simp only [Act.put, List.setIfInBounds_toArray, List.set_cons_zero, List.set_cons_succ]
            refine wpAnyH_take (i := 12) (oi := ⟨some 8, _, _, _, _, _⟩) (v := ?_) rfl (by kernel_rfl) (by kernel_rfl) (by kernel_rfl) (fun _ _ _ h => h) (Or.inl ⟨by rfl, ?_⟩) hHeld ?_
            rotate_left
            · intro ww hSw
              (try dsimp only at hSw)
              go_simp
              (try with_reducible rfl)
            simp only [Act.put, List.setIfInBounds_toArray, List.set_cons_zero, List.set_cons_succ]
            refine wpAnyH_done (by kernel_rfl) ?_ _
            refine NoPanic.normal ?_
            have HE := Lib.hid (bel_on HN7.out.b hbw9)
            go_wp2
            go_ret
            exact ⟨rfl, HE.out⟩
theorem nightDays_walk (s : SetP) (A1 A2 A3 A4 A5 A6 : Option Addr) (c1 c2 c3 c4 c5 c6 : Nat) (a1 : Option Addr) (len1 cap1 : Nat) (z1 : List (Int × Int)) (dy : Int) (t : Int) (w : World) (hs : SetAt w s A1 A2 A3 A4 A5 A6 c1 c2 c3 c4 c5 c6) (hf : s.Fit)
    (l1 : z1.length = len1) (l1' : len1 ≤ 9223372036854775807) (s1 : Spans w a1 z1) (n1 : a1 = none → cap1 = 0) (dy0 : 0 ≤ dy) (dy1 : dy ≤ 255) (t0 : 0 ≤ t) (t1 : t ≤ 4294967295) :
    Calls Try.prog 5 #[setV s A1 A2 A3 A4 A5 A6 c1 c2 c3 c4 c5 c6, .slice a1 len1 cap1, .int .u8 dy, .int .u32 t] w fun e w' => e = .returned (.bool true) ∧ Below w.heap.size w w' := by
  obtain ⟨cs, hcs⟩ : ∃ cs, setV s A1 A2 A3 A4 A5 A6 c1 c2 c3 c4 c5 c6 = .agg cs := ⟨_, rfl⟩
  rw [hcs]
  subst l1
  exact nightDays_main s cs w ⟨A1, A2, A3, A4, A5, A6, c1, c2, c3, c4, c5, c6, hcs, hs⟩ hf a1 cap1 z1 s1 l1' dy t dy0 dy1 t0 t1
end Go.Proofs.Ytcefjnjlcpkanaa
