/-
  The walk of the law EventBack: it answers true, and leaves what was there as it was.
-/
import Derived.Test.YtmfjfaageeeipaaEvFew
import Derived.Test.YtmfjfaageeeipaaEventCuts
import Derived.Deep.DeepCutAuto
namespace Go.Proofs.Ytmfjfaageeeipaa
open Go.RowKit
set_option linter.unusedVariables false
set_option linter.unusedSimpArgs false
set_option maxRecDepth 20000

theorem eventBack_out (cs : Array Value) (pl : Int) (nE nC nG nR : Nat) (hq : SetQ cs pl nE nC nG nR) (a : EvP) (B : Option Addr) (m c : Nat) (w : World) (hm : 1000 < m) :
    Calls Try.prog 4 #[.agg cs, .agg (evC a), .slice B m c] w fun e w' => e = .returned (.bool true) ∧ Below w.heap.size w w' := by
  have HFEW := Lib.hid (fun W => few8 hq W)
  have HZS := Lib.hid hq.size
  have hm' : (1000 : Int) < (m : Int) := by omega
  clear hq
  go_enter Try.func4, Try.ntmps4
  go_wp2_with fail
  refine (awake8 _).mono ?_
  rintro e w1 ⟨rfl, b1⟩
  have HS := Lib.hid (((Has.new w 30 cs rfl).alloc (.cells (evC a) 33)).below b1)
  have hb1 := bel_on (bel_alloc (bel_alloc (Below.refl w.heap.size w) _) _) b1
  clear b1
  go_wp2_with (refine wpList_load_s (by rfl) _ rfl w.heap.size rfl cs HS.out HZS.out ?_)
  refine (HFEW.out _).mono ?_
  rintro e w2 ⟨fb, rfl, b2⟩
  have hb2 := bel_on hb1 b2
  clear b2 hb1
  cases fb
  all_goals
    go_wp2
    go_ret
    exact ⟨rfl, hb2⟩
set_option maxHeartbeats 8000000 in
theorem eventBack_fs (cs : Array Value) (pl : Int) (nE nC nG nR : Nat) (hq : SetQ cs pl nE nC nG nR) (a : EvP) (ha : a.In) (B : Option Addr) (m c : Nat) (b : List (BitVec 8)) (w : World) (hx : Sl 1 w B m c (bytesV b)) (hmc : m ≤ c) (hm : m ≤ 1000) (hf : a.Fair)
    (y : EvP) (r : List (BitVec 8)) (ht : takeE b = some (y, r)) :
    Calls Try.prog 4 #[.agg cs, .agg (evC a), .slice B m c] w fun e w' => e = .returned (.bool true) ∧ Below w.heap.size w w' := by
  have hl := hx.blen
  have hput : putR8 [] a = (a.bytes, 0) := by unfold putR8; rw [if_pos hf]; rfl
  have htk : takeR8 b = (y, r, 0) := by unfold takeR8; rw [ht]
  obtain ⟨hyf, hyb⟩ := takeE_own ht
  have hyi := Fair.in hyf
  have hput2 : putR8 [] y = (y.bytes, 0) := by unfold putR8; rw [if_pos hyf]; rfl
  have htk2 : takeR8 (a.bytes ++ b) = (a, b, 0) := by unfold takeR8; rw [takeE_back hf b]
  have hl9 := (ev_bytes_len hf).2
  have hl9 : (a.bytes).length ≤ 90 := hl9
  have hlr : (r).length ≤ 1000 := by have := congrArg List.length hyb; rw [List.length_append] at this; omega
  have hlv : (y.bytes).length ≤ 90 := by exact (ev_bytes_len hyf).2
  have htx : Hid (txtB y.bytes ++ txtB r = txtB b) := by show _ = _; rw [txt_append_e, ← hyb]
  have tz1 : (txtB y.bytes).size ≤ 3000 := by rw [txt_size_e]; omega
  have tz2 : (txtB r).size ≤ 3000 := by rw [txt_size_e]; omega
  have TZ1 := Lib.hid tz1
  have TZ2 := Lib.hid tz2
  clear tz1 tz2
  have HFEW := Lib.hid (fun W => few8 hq W)
  have HPUT := Lib.hid (fun W n hn => put_un8 none 0 0 [] a _ rfl ha (by omega) _ _ n hput hn W Sl.nil_)
  have HTK := Lib.hid (fun W A n c q h1 h2 h3 h4 => take_un8 A n c b h1 h2 _ _ _ _ q htk rfl h3 W h4)
  have HTK2 := Lib.hid (fun W A n c q h1 h2 h3 h4 => take_un8 A n c (a.bytes ++ b) h1 h2 _ _ _ _ q htk2 rfl h3 W h4)
  have HPUT2 := Lib.hid (fun W n hn => put_un8 none 0 0 [] y _ rfl hyi (by omega) _ _ n hput2 hn W Sl.nil_)
  have HEQ := Lib.hid (fun w => run_ev_eql a a w)
  rw [decide_eq_true rfl] at HEQ
  have HZS := Lib.hid hq.size
  have ZA := Lib.hid (evC_size a)
  have OA := Lib.hid (evC_one a)
  have ZY := Lib.hid (evC_size y)
  have OY := Lib.hid (evC_one y)
  have hm' : (m : Int) ≤ 1000 := by omega
  obtain ⟨n1, hn1⟩ : ∃ n1, (a.bytes).length = n1 := ⟨_, rfl⟩
  obtain ⟨n3, hn3⟩ : ∃ n3, n1 + m = n3 := ⟨_, rfl⟩
  obtain ⟨n4, hn4⟩ : ∃ n4, (r).length = n4 := ⟨_, rfl⟩
  obtain ⟨n5, hn5⟩ : ∃ n5, (y.bytes).length = n5 := ⟨_, rfl⟩
  have b1' : n1 ≤ 90 := by omega
  have b3' : n3 ≤ 2000 := by omega
  have b4' : n4 ≤ 1000 := by omega
  have b5' : n5 ≤ 90 := by omega
  have N1 := Lib.hid hn1; have N3 := Lib.hid hn3; have N4 := Lib.hid hn4; have N5 := Lib.hid hn5; have HL := Lib.hid hl; have HX := Lib.hid hx; have HMC := Lib.hid hmc
  clear hq hput htk htk2 hput2 hyi hn1 hn3 hn4 hn5 hl hx hmc hl9 hlr hlv hf ht ha hyf hyb
  generalize evC a = ca at *
  generalize evC y = cy at *
  generalize y.bytes = yb at *
  generalize a.bytes = ab at *
  go_enter Try.func4, Try.ntmps4
  go_wp2_with fail
  refine (awake8 _).mono ?_
  rintro e w1 ⟨rfl, b1⟩
  have HS := Lib.hid (((Has.new w 30 cs rfl).alloc (.cells ca 33)).below b1)
  have HA := Lib.hid ((Has.new (w.alloc (.cells cs 30)) 33 ca (s := w.heap.size + 1) (by simp)).below b1)
  have HB := Lib.hid (bel_on (bel_alloc (bel_alloc (Below.refl w.heap.size w) _) _) b1)
  clear b1
  obtain ⟨G, hG⟩ : ∃ G, w.heap.size = G := ⟨_, rfl⟩
  rw [hG] at HS HA ⊢
  clear hG
  go_wp2_with (refine wpList_load_s (by rfl) _ rfl G rfl cs HS.out HZS.out ?_)
  refine (HFEW.out _).mono ?_
  rintro e w2 ⟨fb, rfl, bb⟩
  replace HS := Lib.hid (HS.out.below bb)
  replace HA := Lib.hid (HA.out.below bb)
  replace HB := Lib.hid (bel_on HB.out bb)
  clear bb
  cases fb
  · go_wp2
    go_ret
    exact ⟨rfl, HB.out⟩
  go_wp2_with (refine wpList_load_e (by rfl) _ rfl (G + 1) rfl ca HA.out ZA.out ?_)
  refine (HPUT.out _ n1 N1.out).mono ?_
  rintro e w3 ⟨A1, c1, rfl, s1, k1, bb⟩
  replace HS := Lib.hid (HS.out.below bb)
  replace HA := Lib.hid (HA.out.below bb)
  replace HB := Lib.hid (bel_on HB.out bb)
  have S1 := Lib.hid s1
  clear bb s1 k1
  obtain ⟨A2, c2, w4, A3, c3, w5, hr4, hr5, s5, k5, b5⟩ := two_append S1.out (HX.out.below HB.out) (by omega) (by omega) rfl N3.out
  have R4 := Lib.hid hr4
  have R5 := Lib.hid hr5
  have S5 := Lib.hid s5
  have K5 := Lib.hid k5
  have B5 := Lib.hid b5
  clear hr4 hr5 s5 k5 b5
  go_wp2_with (first | (at_builtin; refine wpList_append_run (o := ⟨some 37, _, _, _, _, _⟩) R4.out rfl rfl rfl rfl ?_) | (at_builtin; refine wpList_append_run (o := ⟨some 39, _, _, _, _, _⟩) R5.out rfl rfl rfl rfl ?_))
  clear R4 R5
  refine (HTK2.out _ A3 n3 c3 m K5.out (by omega) HL.out S5.out).mono ?_
  rintro e w6 ⟨A6, c6, rfl, s6, b6⟩
  have bb := bel_on B5.out b6
  replace HS := Lib.hid (HS.out.below bb)
  replace HA := Lib.hid (HA.out.below bb)
  replace HB := Lib.hid (bel_on HB.out bb)
  replace S1 := Lib.hid (S1.out.below bb)
  have S6 := Lib.hid s6
  clear bb s6 b6 B5 S5 K5
  go_wp2_with (refine wpList_laid_e ca 10 _ _ rfl rfl rfl rfl rfl rfl rfl rfl ZA.out OA.out ?_)
  have H10 := Lib.hid (Has.new w6 33 ca rfl)
  replace HS := Lib.hid (HS.out.alloc (.cells ca 33))
  replace HA := Lib.hid (HA.out.alloc (.cells ca 33))
  replace HB := Lib.hid (bel_alloc HB.out (.cells ca 33))
  replace S1 := Lib.hid (S1.out.alloc (.cells ca 33))
  replace S6 := Lib.hid (S6.out.alloc (.cells ca 33))
  generalize w6.alloc (.cells ca 33) = w7 at *
  generalize w6.heap.size = g10 at *
  refine (HTK.out _ B m c n4 HMC.out (by omega) N4.out (HX.out.below HB.out)).mono ?_
  rintro e w8 ⟨A8, c8, rfl, s8, bb⟩
  replace HS := Lib.hid (HS.out.below bb)
  replace HA := Lib.hid (HA.out.below bb)
  replace H10 := Lib.hid (H10.out.below bb)
  replace HB := Lib.hid (bel_on HB.out bb)
  replace S1 := Lib.hid (S1.out.below bb)
  replace S6 := Lib.hid (S6.out.below bb)
  have S8 := Lib.hid s8
  clear bb s8
  go_wp2_with (first | (refine wpList_laid_e cy 13 _ _ rfl rfl rfl rfl rfl rfl rfl rfl ZY.out OY.out ?_) | (refine wpList_load_e (o := ⟨some 51, _, _, _, _, _⟩) (by rfl) _ rfl w8.heap.size rfl cy (Has.new _ _ _ rfl) ZY.out ?_))
  have H13 := Lib.hid (Has.new w8 33 cy rfl)
  replace HS := Lib.hid (HS.out.alloc (.cells cy 33))
  replace HA := Lib.hid (HA.out.alloc (.cells cy 33))
  replace H10 := Lib.hid (H10.out.alloc (.cells cy 33))
  replace HB := Lib.hid (bel_alloc HB.out (.cells cy 33))
  replace S1 := Lib.hid (S1.out.alloc (.cells cy 33))
  replace S6 := Lib.hid (S6.out.alloc (.cells cy 33))
  replace S8 := Lib.hid (S8.out.alloc (.cells cy 33))
  generalize w8.alloc (.cells cy 33) = w9 at *
  generalize w8.heap.size = g13 at *
  refine (HPUT2.out _ n5 N5.out).mono ?_
  rintro e wa ⟨Aa, ca2, rfl, sa, ka, bb⟩
  replace HS := Lib.hid (HS.out.below bb)
  replace HA := Lib.hid (HA.out.below bb)
  replace H10 := Lib.hid (H10.out.below bb)
  replace H13 := Lib.hid (H13.out.below bb)
  replace HB := Lib.hid (bel_on HB.out bb)
  replace S6 := Lib.hid (S6.out.below bb)
  replace S8 := Lib.hid (S8.out.below bb)
  have SA := Lib.hid sa
  clear bb sa ka S1
  go_upto_region 8 with fail
  have Q6 := Lib.hid (conv_sl S6.out)
  have Q2 := Lib.hid (conv_sl (HX.out.below HB.out))
  have QA := Lib.hid (conv_sl SA.out)
  have Q8 := Lib.hid (conv_sl S8.out)
  have HADD : Hid ((txtB yb).size + (txtB r).size ≤ 9223372036854775807) := Lib.hid (by have h1 := TZ1.out; have h2 := TZ2.out; omega)
  clear TZ1 TZ2
  have HSS := Lib.hid (txt_same_e b)
  generalize hsb : txtB b = sb at Q6 Q2 QA Q8 HSS htx
  have HSB := Lib.hid hsb
  clear hsb
  generalize hs1 : txtB yb = s1 at QA HADD htx
  have HS1 := Lib.hid hs1
  clear hs1
  generalize hs2 : txtB r = s2 at Q6 Q8 HADD htx
  have HS2 := Lib.hid hs2
  clear hs2
  refine wp_region_lit ?_
  refine wpList_step (fun K hK => ?_)
  go_simp
  refine hK _ _ ?_
  clear hK K
  (try simp only [Act.put, List.setIfInBounds_toArray, List.set_cons_zero, List.set_cons_succ])
  refine wpList_step (fun K hK => ?_)
  go_simp
  refine hK _ _ ?_
  clear hK K
  (try simp only [Act.put, List.setIfInBounds_toArray, List.set_cons_zero, List.set_cons_succ])
  refine wpList_step (fun K hK => ?_)
  go_simp
  refine hK _ _ ?_
  clear hK K
  (try simp only [Act.put, List.setIfInBounds_toArray, List.set_cons_zero, List.set_cons_succ])
  refine wpList_step (fun K hK => ?_)
  go_simp
  refine hK _ _ ?_
  clear hK K
  (try simp only [Act.put, List.setIfInBounds_toArray, List.set_cons_zero, List.set_cons_succ])
  refine wpList_step (fun K hK => ?_)
  go_simp
  refine hK _ _ ?_
  clear hK K
  (try simp only [Act.put, List.setIfInBounds_toArray, List.set_cons_zero, List.set_cons_succ])
  refine wpList_step (fun K hK => ?_)
  go_simp
  refine hK _ _ ?_
  clear hK K
  (try simp only [Act.put, List.setIfInBounds_toArray, List.set_cons_zero, List.set_cons_succ])
  refine wpList_step (fun K hK => ?_)
  go_simp
  refine hK _ _ ?_
  clear hK K
  (try simp only [Act.put, List.setIfInBounds_toArray, List.set_cons_zero, List.set_cons_succ])
  refine wpList_load_e (by rfl) _ rfl g10 rfl ca H10.out ZA.out ?_
  (try simp only [Act.put, List.setIfInBounds_toArray, List.set_cons_zero, List.set_cons_succ])
  refine wpList_load_e (by rfl) _ rfl (G + 1) rfl ca HA.out ZA.out ?_
  (try simp only [Act.put, List.setIfInBounds_toArray, List.set_cons_zero, List.set_cons_succ])
  have qf := HEQ.out
  refine wpList_step (fun K hK => ?_)
  go_simp
  refine hK _ _ ?_
  clear hK K qf
  (try simp only [Act.put, List.setIfInBounds_toArray, List.set_cons_zero, List.set_cons_succ])
  have q6 := Q6.out
  have q2 := Q2.out
  have qa := QA.out
  have q8 := Q8.out
  have hsz : ¬ 9223372036854775807 < s1.size + s2.size := by have := HADD.out; omega
  have tsx : ((s1 ++ s2).toList == sb.toList) = true := by rw [htx.out]; simp
  have ts := HSS.out
  go_wp2
  go_ret
  exact ⟨rfl, HB.out⟩
set_option maxHeartbeats 8000000 in
theorem eventBack_fn (cs : Array Value) (pl : Int) (nE nC nG nR : Nat) (hq : SetQ cs pl nE nC nG nR) (a : EvP) (ha : a.In) (B : Option Addr) (m c : Nat) (b : List (BitVec 8)) (w : World) (hx : Sl 1 w B m c (bytesV b)) (hmc : m ≤ c) (hm : m ≤ 1000) (hf : a.Fair)
    (ht : takeE b = none) :
    Calls Try.prog 4 #[.agg cs, .agg (evC a), .slice B m c] w fun e w' => e = .returned (.bool true) ∧ Below w.heap.size w w' := by
  have hl := hx.blen
  have hput : putR8 [] a = (a.bytes, 0) := by unfold putR8; rw [if_pos hf]; rfl
  have htk : takeR8 b = (EvP.none, [], 80) := by unfold takeR8; rw [ht]
  have hyi : EvP.none.In := by constructor <;> decide
  have hput2 : putR8 [] EvP.none = ([], 80) := by unfold putR8; rw [if_neg (by decide)]
  have htk2 : takeR8 (a.bytes ++ b) = (a, b, 0) := by unfold takeR8; rw [takeE_back hf b]
  have hl9 := (ev_bytes_len hf).2
  have hl9 : (a.bytes).length ≤ 90 := hl9
  have hlr : (([] : List (BitVec 8))).length ≤ 1000 := by simp
  have hlv : (([] : List (BitVec 8))).length ≤ 90 := by simp
  have HFEW := Lib.hid (fun W => few8 hq W)
  have HPUT := Lib.hid (fun W n hn => put_un8 none 0 0 [] a _ rfl ha (by omega) _ _ n hput hn W Sl.nil_)
  have HTK := Lib.hid (fun W A n c q h1 h2 h3 h4 => take_un8 A n c b h1 h2 _ _ _ _ q htk rfl h3 W h4)
  have HTK2 := Lib.hid (fun W A n c q h1 h2 h3 h4 => take_un8 A n c (a.bytes ++ b) h1 h2 _ _ _ _ q htk2 rfl h3 W h4)
  have HPUT2 := Lib.hid (fun W n hn => put_un8 none 0 0 [] EvP.none _ rfl hyi (by omega) _ _ n hput2 hn W Sl.nil_)
  have HEQ := Lib.hid (fun w => run_ev_eql a a w)
  rw [decide_eq_true rfl] at HEQ
  have HEQ2 := Lib.hid (fun w => run_ev_eql EvP.none EvP.none w)
  rw [decide_eq_true rfl] at HEQ2
  have HEQ3 : Hid (∀ w, (binOp .eql 33 (.agg (evC EvP.none)) (.agg #[.int .i64 0, .int .i64 0, .int .i64 0, .int .i64 0, .int .i64 0, .int .i64 0, .int .i64 0, .int .i64 0, .int .i64 0, .int .i64 0, .int .i64 0])).run Try.prog w = .ok (.bool true) w) := HEQ2
  have HZS := Lib.hid hq.size
  have ZA := Lib.hid (evC_size a)
  have OA := Lib.hid (evC_one a)
  have ZY := Lib.hid (evC_size EvP.none)
  have OY := Lib.hid (evC_one EvP.none)
  have hm' : (m : Int) ≤ 1000 := by omega
  obtain ⟨n1, hn1⟩ : ∃ n1, (a.bytes).length = n1 := ⟨_, rfl⟩
  obtain ⟨n3, hn3⟩ : ∃ n3, n1 + m = n3 := ⟨_, rfl⟩
  obtain ⟨n4, hn4⟩ : ∃ n4, (([] : List (BitVec 8))).length = n4 := ⟨_, rfl⟩
  obtain ⟨n5, hn5⟩ : ∃ n5, (([] : List (BitVec 8))).length = n5 := ⟨_, rfl⟩
  have b1' : n1 ≤ 90 := by omega
  have b3' : n3 ≤ 2000 := by omega
  have b4' : n4 ≤ 1000 := by omega
  have b5' : n5 ≤ 90 := by omega
  have N1 := Lib.hid hn1; have N3 := Lib.hid hn3; have N4 := Lib.hid hn4; have N5 := Lib.hid hn5; have HL := Lib.hid hl; have HX := Lib.hid hx; have HMC := Lib.hid hmc
  clear hq hput htk htk2 hput2 hyi hn1 hn3 hn4 hn5 hl hx hmc hl9 hlr hlv hf ht ha
  generalize evC a = ca at *
  generalize a.bytes = ab at *
  go_enter Try.func4, Try.ntmps4
  go_wp2_with fail
  refine (awake8 _).mono ?_
  rintro e w1 ⟨rfl, b1⟩
  have HS := Lib.hid (((Has.new w 30 cs rfl).alloc (.cells ca 33)).below b1)
  have HA := Lib.hid ((Has.new (w.alloc (.cells cs 30)) 33 ca (s := w.heap.size + 1) (by simp)).below b1)
  have HB := Lib.hid (bel_on (bel_alloc (bel_alloc (Below.refl w.heap.size w) _) _) b1)
  clear b1
  obtain ⟨G, hG⟩ : ∃ G, w.heap.size = G := ⟨_, rfl⟩
  rw [hG] at HS HA ⊢
  clear hG
  go_wp2_with (refine wpList_load_s (by rfl) _ rfl G rfl cs HS.out HZS.out ?_)
  refine (HFEW.out _).mono ?_
  rintro e w2 ⟨fb, rfl, bb⟩
  replace HS := Lib.hid (HS.out.below bb)
  replace HA := Lib.hid (HA.out.below bb)
  replace HB := Lib.hid (bel_on HB.out bb)
  clear bb
  cases fb
  · go_wp2
    go_ret
    exact ⟨rfl, HB.out⟩
  go_wp2_with (refine wpList_load_e (by rfl) _ rfl (G + 1) rfl ca HA.out ZA.out ?_)
  refine (HPUT.out _ n1 N1.out).mono ?_
  rintro e w3 ⟨A1, c1, rfl, s1, k1, bb⟩
  replace HS := Lib.hid (HS.out.below bb)
  replace HA := Lib.hid (HA.out.below bb)
  replace HB := Lib.hid (bel_on HB.out bb)
  have S1 := Lib.hid s1
  clear bb s1 k1
  obtain ⟨A2, c2, w4, A3, c3, w5, hr4, hr5, s5, k5, b5⟩ := two_append S1.out (HX.out.below HB.out) (by omega) (by omega) rfl N3.out
  have R4 := Lib.hid hr4
  have R5 := Lib.hid hr5
  have S5 := Lib.hid s5
  have K5 := Lib.hid k5
  have B5 := Lib.hid b5
  clear hr4 hr5 s5 k5 b5
  go_wp2_with (first | (at_builtin; refine wpList_append_run (o := ⟨some 37, _, _, _, _, _⟩) R4.out rfl rfl rfl rfl ?_) | (at_builtin; refine wpList_append_run (o := ⟨some 39, _, _, _, _, _⟩) R5.out rfl rfl rfl rfl ?_))
  clear R4 R5
  refine (HTK2.out _ A3 n3 c3 m K5.out (by omega) HL.out S5.out).mono ?_
  rintro e w6 ⟨A6, c6, rfl, s6, b6⟩
  have bb := bel_on B5.out b6
  replace HS := Lib.hid (HS.out.below bb)
  replace HA := Lib.hid (HA.out.below bb)
  replace HB := Lib.hid (bel_on HB.out bb)
  replace S1 := Lib.hid (S1.out.below bb)
  have S6 := Lib.hid s6
  clear bb s6 b6 B5 S5 K5
  go_wp2_with (refine wpList_laid_e ca 10 _ _ rfl rfl rfl rfl rfl rfl rfl rfl ZA.out OA.out ?_)
  have H10 := Lib.hid (Has.new w6 33 ca rfl)
  replace HS := Lib.hid (HS.out.alloc (.cells ca 33))
  replace HA := Lib.hid (HA.out.alloc (.cells ca 33))
  replace HB := Lib.hid (bel_alloc HB.out (.cells ca 33))
  replace S1 := Lib.hid (S1.out.alloc (.cells ca 33))
  replace S6 := Lib.hid (S6.out.alloc (.cells ca 33))
  generalize w6.alloc (.cells ca 33) = w7 at *
  generalize w6.heap.size = g10 at *
  refine (HTK.out _ B m c n4 HMC.out (by omega) N4.out (HX.out.below HB.out)).mono ?_
  rintro e w8 ⟨A8, c8, rfl, s8, bb⟩
  replace HS := Lib.hid (HS.out.below bb)
  replace HA := Lib.hid (HA.out.below bb)
  replace H10 := Lib.hid (H10.out.below bb)
  replace HB := Lib.hid (bel_on HB.out bb)
  replace S1 := Lib.hid (S1.out.below bb)
  replace S6 := Lib.hid (S6.out.below bb)
  have S8 := Lib.hid s8
  clear bb s8
  go_wp2_with (first | (refine wpList_laid_e (evC EvP.none) 13 _ _ rfl rfl rfl rfl rfl rfl rfl rfl ZY.out OY.out ?_) | (refine wpList_load_e (o := ⟨some 51, _, _, _, _, _⟩) (by rfl) _ rfl w8.heap.size rfl (evC EvP.none) (Has.new _ _ _ rfl) ZY.out ?_))
  have H13 := Lib.hid (Has.new w8 33 (evC EvP.none) rfl)
  replace HS := Lib.hid (HS.out.alloc (.cells (evC EvP.none) 33))
  replace HA := Lib.hid (HA.out.alloc (.cells (evC EvP.none) 33))
  replace H10 := Lib.hid (H10.out.alloc (.cells (evC EvP.none) 33))
  replace HB := Lib.hid (bel_alloc HB.out (.cells (evC EvP.none) 33))
  replace S1 := Lib.hid (S1.out.alloc (.cells (evC EvP.none) 33))
  replace S6 := Lib.hid (S6.out.alloc (.cells (evC EvP.none) 33))
  replace S8 := Lib.hid (S8.out.alloc (.cells (evC EvP.none) 33))
  generalize w8.alloc (.cells (evC EvP.none) 33) = w9 at *
  generalize w8.heap.size = g13 at *
  refine (HPUT2.out _ n5 N5.out).mono ?_
  rintro e wa ⟨Aa, ca2, rfl, sa, ka, bb⟩
  replace HS := Lib.hid (HS.out.below bb)
  replace HA := Lib.hid (HA.out.below bb)
  replace H10 := Lib.hid (H10.out.below bb)
  replace H13 := Lib.hid (H13.out.below bb)
  replace HB := Lib.hid (bel_on HB.out bb)
  replace S6 := Lib.hid (S6.out.below bb)
  replace S8 := Lib.hid (S8.out.below bb)
  have SA := Lib.hid sa
  clear bb sa ka S1
  go_upto_region 8 with fail
  have Q6 := Lib.hid (conv_sl S6.out)
  have Q2 := Lib.hid (conv_sl (HX.out.below HB.out))
  have QA := Lib.hid (conv_sl SA.out)
  have Q8 := Lib.hid (conv_sl S8.out)
  have HSS := Lib.hid (txt_same_e b)
  generalize hsb : txtB b = sb at Q6 Q2 QA Q8 HSS 
  have HSB := Lib.hid hsb
  clear hsb
  refine wp_region_lit ?_
  refine wpList_step (fun K hK => ?_)
  go_simp
  refine hK _ _ ?_
  clear hK K
  (try simp only [Act.put, List.setIfInBounds_toArray, List.set_cons_zero, List.set_cons_succ])
  refine wpList_step (fun K hK => ?_)
  go_simp
  refine hK _ _ ?_
  clear hK K
  (try simp only [Act.put, List.setIfInBounds_toArray, List.set_cons_zero, List.set_cons_succ])
  refine wpList_step (fun K hK => ?_)
  go_simp
  refine hK _ _ ?_
  clear hK K
  (try simp only [Act.put, List.setIfInBounds_toArray, List.set_cons_zero, List.set_cons_succ])
  refine wpList_step (fun K hK => ?_)
  go_simp
  refine hK _ _ ?_
  clear hK K
  (try simp only [Act.put, List.setIfInBounds_toArray, List.set_cons_zero, List.set_cons_succ])
  refine wpList_step (fun K hK => ?_)
  go_simp
  refine hK _ _ ?_
  clear hK K
  (try simp only [Act.put, List.setIfInBounds_toArray, List.set_cons_zero, List.set_cons_succ])
  refine wpList_step (fun K hK => ?_)
  go_simp
  refine hK _ _ ?_
  clear hK K
  (try simp only [Act.put, List.setIfInBounds_toArray, List.set_cons_zero, List.set_cons_succ])
  refine wpList_step (fun K hK => ?_)
  go_simp
  refine hK _ _ ?_
  clear hK K
  (try simp only [Act.put, List.setIfInBounds_toArray, List.set_cons_zero, List.set_cons_succ])
  refine wpList_load_e (by rfl) _ rfl g10 rfl ca H10.out ZA.out ?_
  (try simp only [Act.put, List.setIfInBounds_toArray, List.set_cons_zero, List.set_cons_succ])
  refine wpList_load_e (by rfl) _ rfl (G + 1) rfl ca HA.out ZA.out ?_
  (try simp only [Act.put, List.setIfInBounds_toArray, List.set_cons_zero, List.set_cons_succ])
  have qf := HEQ.out
  refine wpList_step (fun K hK => ?_)
  go_simp
  refine hK _ _ ?_
  clear hK K qf
  (try simp only [Act.put, List.setIfInBounds_toArray, List.set_cons_zero, List.set_cons_succ])
  have q6 := Q6.out
  have q2 := Q2.out
  have ts := HSS.out
  have hq3 := HEQ3.out
  obtain ⟨m0, m1, m2, m3, m4, m5, m6, m7, m8, m9, m10⟩ := z_cells H13.out
  have hq4 : ∀ w, (binOp .eql 33 (.agg #[.int .i64 0, .int .i64 0, .int .i64 0, .int .i64 0, .int .i64 0, .int .i64 0, .int .i64 0, .int .i64 0, .int .i64 0, .int .i64 0, .int .i64 0]) (.agg #[.int .i64 0, .int .i64 0, .int .i64 0, .int .i64 0, .int .i64 0, .int .i64 0, .int .i64 0, .int .i64 0, .int .i64 0, .int .i64 0, .int .i64 0])).run Try.prog w = .ok (.bool true) w := HEQ3.out
  clear hq3
  go_wp2
  go_ret
  exact ⟨rfl, HB.out⟩
set_option maxHeartbeats 8000000 in
theorem eventBack_us (cs : Array Value) (pl : Int) (nE nC nG nR : Nat) (hq : SetQ cs pl nE nC nG nR) (a : EvP) (ha : a.In) (B : Option Addr) (m c : Nat) (b : List (BitVec 8)) (w : World) (hx : Sl 1 w B m c (bytesV b)) (hmc : m ≤ c) (hm : m ≤ 1000) (hf : ¬ a.Fair)
    (y : EvP) (r : List (BitVec 8)) (ht : takeE b = some (y, r)) :
    Calls Try.prog 4 #[.agg cs, .agg (evC a), .slice B m c] w fun e w' => e = .returned (.bool true) ∧ Below w.heap.size w w' := by
  have hl := hx.blen
  have hput : putR8 [] a = ([], 80) := by unfold putR8; rw [if_neg hf]
  have htk : takeR8 b = (y, r, 0) := by unfold takeR8; rw [ht]
  obtain ⟨hyf, hyb⟩ := takeE_own ht
  have hyi := Fair.in hyf
  have hput2 : putR8 [] y = (y.bytes, 0) := by unfold putR8; rw [if_pos hyf]; rfl
  have htk2 : takeR8 ([] ++ b) = (y, r, 0) := htk
  have hl9 : ([] : List (BitVec 8)).length ≤ 90 := by simp
  have hl9 : (([] : List (BitVec 8))).length ≤ 90 := hl9
  have hlr : (r).length ≤ 1000 := by have := congrArg List.length hyb; rw [List.length_append] at this; omega
  have hlv : (y.bytes).length ≤ 90 := by exact (ev_bytes_len hyf).2
  have htx : Hid (txtB y.bytes ++ txtB r = txtB b) := by show _ = _; rw [txt_append_e, ← hyb]
  have tz1 : (txtB y.bytes).size ≤ 3000 := by rw [txt_size_e]; omega
  have tz2 : (txtB r).size ≤ 3000 := by rw [txt_size_e]; omega
  have TZ1 := Lib.hid tz1
  have TZ2 := Lib.hid tz2
  clear tz1 tz2
  have HFEW := Lib.hid (fun W => few8 hq W)
  have HPUT := Lib.hid (fun W n hn => put_un8 none 0 0 [] a _ rfl ha (by omega) _ _ n hput hn W Sl.nil_)
  have HTK := Lib.hid (fun W A n c q h1 h2 h3 h4 => take_un8 A n c b h1 h2 _ _ _ _ q htk rfl h3 W h4)
  have HTK2 := Lib.hid (fun W A n c q h1 h2 h3 h4 => take_un8 A n c (([] : List (BitVec 8)) ++ b) h1 h2 _ _ _ _ q htk2 rfl h3 W h4)
  have HPUT2 := Lib.hid (fun W n hn => put_un8 none 0 0 [] y _ rfl hyi (by omega) _ _ n hput2 hn W Sl.nil_)
  have HCK := Lib.hid (fun w => echeck_any cs pl nE nC nG nR hq.toSetS a ha w false (decide_eq_false (fun h => hf h.1)))
  have HEQ := Lib.hid (fun w => run_ev_eql y y w)
  rw [decide_eq_true rfl] at HEQ
  have HZS := Lib.hid hq.size
  have ZA := Lib.hid (evC_size a)
  have OA := Lib.hid (evC_one a)
  have ZY := Lib.hid (evC_size y)
  have OY := Lib.hid (evC_one y)
  have hm' : (m : Int) ≤ 1000 := by omega
  obtain ⟨n1, hn1⟩ : ∃ n1, (([] : List (BitVec 8))).length = n1 := ⟨_, rfl⟩
  obtain ⟨n3, hn3⟩ : ∃ n3, n1 + m = n3 := ⟨_, rfl⟩
  obtain ⟨n4, hn4⟩ : ∃ n4, (r).length = n4 := ⟨_, rfl⟩
  obtain ⟨n5, hn5⟩ : ∃ n5, (y.bytes).length = n5 := ⟨_, rfl⟩
  have b1' : n1 ≤ 90 := by omega
  have b3' : n3 ≤ 2000 := by omega
  have b4' : n4 ≤ 1000 := by omega
  have b5' : n5 ≤ 90 := by omega
  obtain rfl : n1 = 0 := by rw [← hn1]; rfl
  have N1 := Lib.hid hn1; have N3 := Lib.hid hn3; have N4 := Lib.hid hn4; have N5 := Lib.hid hn5; have HL := Lib.hid hl; have HX := Lib.hid hx; have HMC := Lib.hid hmc
  clear hq hput htk htk2 hput2 hyi hn1 hn3 hn4 hn5 hl hx hmc hl9 hlr hlv hf ht ha hyf hyb
  generalize evC a = ca at *
  generalize evC y = cy at *
  generalize y.bytes = yb at *
  go_enter Try.func4, Try.ntmps4
  go_wp2_with fail
  refine (awake8 _).mono ?_
  rintro e w1 ⟨rfl, b1⟩
  have HS := Lib.hid (((Has.new w 30 cs rfl).alloc (.cells ca 33)).below b1)
  have HA := Lib.hid ((Has.new (w.alloc (.cells cs 30)) 33 ca (s := w.heap.size + 1) (by simp)).below b1)
  have HB := Lib.hid (bel_on (bel_alloc (bel_alloc (Below.refl w.heap.size w) _) _) b1)
  clear b1
  obtain ⟨G, hG⟩ : ∃ G, w.heap.size = G := ⟨_, rfl⟩
  rw [hG] at HS HA ⊢
  clear hG
  go_wp2_with (refine wpList_load_s (by rfl) _ rfl G rfl cs HS.out HZS.out ?_)
  refine (HFEW.out _).mono ?_
  rintro e w2 ⟨fb, rfl, bb⟩
  replace HS := Lib.hid (HS.out.below bb)
  replace HA := Lib.hid (HA.out.below bb)
  replace HB := Lib.hid (bel_on HB.out bb)
  clear bb
  cases fb
  · go_wp2
    go_ret
    exact ⟨rfl, HB.out⟩
  go_wp2_with (refine wpList_load_e (by rfl) _ rfl (G + 1) rfl ca HA.out ZA.out ?_)
  refine (HPUT.out _ 0 N1.out).mono ?_
  rintro e w3 ⟨A1, c1, rfl, s1, k1, bb⟩
  replace HS := Lib.hid (HS.out.below bb)
  replace HA := Lib.hid (HA.out.below bb)
  replace HB := Lib.hid (bel_on HB.out bb)
  have S1 := Lib.hid s1
  clear bb s1 k1
  obtain ⟨A2, c2, w4, A3, c3, w5, hr4, hr5, s5, k5, b5⟩ := two_append S1.out (HX.out.below HB.out) (by omega) (by omega) rfl N3.out
  have R4 := Lib.hid hr4
  have R5 := Lib.hid hr5
  have S5 := Lib.hid s5
  have K5 := Lib.hid k5
  have B5 := Lib.hid b5
  clear hr4 hr5 s5 k5 b5
  go_wp2_with (first | (at_builtin; refine wpList_append_run (o := ⟨some 37, _, _, _, _, _⟩) R4.out rfl rfl rfl rfl ?_) | (at_builtin; refine wpList_append_run (o := ⟨some 39, _, _, _, _, _⟩) R5.out rfl rfl rfl rfl ?_))
  clear R4 R5
  refine (HTK2.out _ A3 n3 c3 n4 K5.out (by omega) N4.out S5.out).mono ?_
  rintro e w6 ⟨A6, c6, rfl, s6, b6⟩
  have bb := bel_on B5.out b6
  replace HS := Lib.hid (HS.out.below bb)
  replace HA := Lib.hid (HA.out.below bb)
  replace HB := Lib.hid (bel_on HB.out bb)
  replace S1 := Lib.hid (S1.out.below bb)
  have S6 := Lib.hid s6
  clear bb s6 b6 B5 S5 K5
  go_wp2_with (refine wpList_laid_e cy 10 _ _ rfl rfl rfl rfl rfl rfl rfl rfl ZY.out OY.out ?_)
  have H10 := Lib.hid (Has.new w6 33 cy rfl)
  replace HS := Lib.hid (HS.out.alloc (.cells cy 33))
  replace HA := Lib.hid (HA.out.alloc (.cells cy 33))
  replace HB := Lib.hid (bel_alloc HB.out (.cells cy 33))
  replace S1 := Lib.hid (S1.out.alloc (.cells cy 33))
  replace S6 := Lib.hid (S6.out.alloc (.cells cy 33))
  generalize w6.alloc (.cells cy 33) = w7 at *
  generalize w6.heap.size = g10 at *
  refine (HTK.out _ B m c n4 HMC.out (by omega) N4.out (HX.out.below HB.out)).mono ?_
  rintro e w8 ⟨A8, c8, rfl, s8, bb⟩
  replace HS := Lib.hid (HS.out.below bb)
  replace HA := Lib.hid (HA.out.below bb)
  replace H10 := Lib.hid (H10.out.below bb)
  replace HB := Lib.hid (bel_on HB.out bb)
  replace S1 := Lib.hid (S1.out.below bb)
  replace S6 := Lib.hid (S6.out.below bb)
  have S8 := Lib.hid s8
  clear bb s8
  go_wp2_with (first | (refine wpList_laid_e cy 13 _ _ rfl rfl rfl rfl rfl rfl rfl rfl ZY.out OY.out ?_) | (refine wpList_load_e (o := ⟨some 51, _, _, _, _, _⟩) (by rfl) _ rfl w8.heap.size rfl cy (Has.new _ _ _ rfl) ZY.out ?_))
  have H13 := Lib.hid (Has.new w8 33 cy rfl)
  replace HS := Lib.hid (HS.out.alloc (.cells cy 33))
  replace HA := Lib.hid (HA.out.alloc (.cells cy 33))
  replace H10 := Lib.hid (H10.out.alloc (.cells cy 33))
  replace HB := Lib.hid (bel_alloc HB.out (.cells cy 33))
  replace S1 := Lib.hid (S1.out.alloc (.cells cy 33))
  replace S6 := Lib.hid (S6.out.alloc (.cells cy 33))
  replace S8 := Lib.hid (S8.out.alloc (.cells cy 33))
  generalize w8.alloc (.cells cy 33) = w9 at *
  generalize w8.heap.size = g13 at *
  refine (HPUT2.out _ n5 N5.out).mono ?_
  rintro e wa ⟨Aa, ca2, rfl, sa, ka, bb⟩
  replace HS := Lib.hid (HS.out.below bb)
  replace HA := Lib.hid (HA.out.below bb)
  replace H10 := Lib.hid (H10.out.below bb)
  replace H13 := Lib.hid (H13.out.below bb)
  replace HB := Lib.hid (bel_on HB.out bb)
  replace S6 := Lib.hid (S6.out.below bb)
  replace S8 := Lib.hid (S8.out.below bb)
  have SA := Lib.hid sa
  clear bb sa ka S1
  go_upto_region 8 with fail
  have Q6 := Lib.hid (conv_sl S6.out)
  have Q2 := Lib.hid (conv_sl (HX.out.below HB.out))
  have QA := Lib.hid (conv_sl SA.out)
  have Q8 := Lib.hid (conv_sl S8.out)
  have HADD : Hid ((txtB yb).size + (txtB r).size ≤ 9223372036854775807) := Lib.hid (by have h1 := TZ1.out; have h2 := TZ2.out; omega)
  clear TZ1 TZ2
  have HSS := Lib.hid (txt_same_e b)
  generalize hsb : txtB b = sb at Q6 Q2 QA Q8 HSS htx
  have HSB := Lib.hid hsb
  clear hsb
  generalize hs1 : txtB yb = s1 at QA HADD htx
  have HS1 := Lib.hid hs1
  clear hs1
  generalize hs2 : txtB r = s2 at Q6 Q8 HADD htx
  have HS2 := Lib.hid hs2
  clear hs2
  refine wp_region_lit ?_
  refine wpList_step (fun K hK => ?_)
  go_simp
  refine hK _ _ ?_
  clear hK K
  (try simp only [Act.put, List.setIfInBounds_toArray, List.set_cons_zero, List.set_cons_succ])
  refine wpList_step (fun K hK => ?_)
  go_simp
  refine hK _ _ ?_
  clear hK K
  (try simp only [Act.put, List.setIfInBounds_toArray, List.set_cons_zero, List.set_cons_succ])
  refine wpList_step (fun K hK => ?_)
  go_simp
  refine hK _ _ ?_
  clear hK K
  (try simp only [Act.put, List.setIfInBounds_toArray, List.set_cons_zero, List.set_cons_succ])
  refine wpList_step (fun K hK => ?_)
  go_simp
  refine hK _ _ ?_
  clear hK K
  (try simp only [Act.put, List.setIfInBounds_toArray, List.set_cons_zero, List.set_cons_succ])
  refine wpList_step (fun K hK => ?_)
  go_simp
  refine hK _ _ ?_
  clear hK K
  (try simp only [Act.put, List.setIfInBounds_toArray, List.set_cons_zero, List.set_cons_succ])
  refine wpList_step (fun K hK => ?_)
  go_simp
  refine hK _ _ ?_
  clear hK K
  (try simp only [Act.put, List.setIfInBounds_toArray, List.set_cons_zero, List.set_cons_succ])
  refine wpList_step (fun K hK => ?_)
  go_simp
  refine hK _ _ ?_
  clear hK K
  (try simp only [Act.put, List.setIfInBounds_toArray, List.set_cons_zero, List.set_cons_succ])
  refine wpList_step (fun K hK => ?_)
  go_simp
  refine hK _ _ ?_
  clear hK K
  (try simp only [Act.put, List.setIfInBounds_toArray, List.set_cons_zero, List.set_cons_succ])
  refine wpList_step (fun K hK => ?_)
  go_simp
  refine hK _ _ ?_
  clear hK K
  (try simp only [Act.put, List.setIfInBounds_toArray, List.set_cons_zero, List.set_cons_succ])
  refine wpList_step (fun K hK => ?_)
  go_simp
  refine hK _ _ ?_
  clear hK K
  (try simp only [Act.put, List.setIfInBounds_toArray, List.set_cons_zero, List.set_cons_succ])
  refine wpList_step (fun K hK => ?_)
  go_simp
  refine hK _ _ ?_
  clear hK K
  (try simp only [Act.put, List.setIfInBounds_toArray, List.set_cons_zero, List.set_cons_succ])
  refine wpList_step (fun K hK => ?_)
  go_simp
  refine hK _ _ ?_
  clear hK K
  (try simp only [Act.put, List.setIfInBounds_toArray, List.set_cons_zero, List.set_cons_succ])
  refine wpList_step (fun K hK => ?_)
  go_simp
  refine hK _ _ ?_
  clear hK K
  (try simp only [Act.put, List.setIfInBounds_toArray, List.set_cons_zero, List.set_cons_succ])
  refine wpList_step (fun K hK => ?_)
  go_simp
  refine hK _ _ ?_
  clear hK K
  (try simp only [Act.put, List.setIfInBounds_toArray, List.set_cons_zero, List.set_cons_succ])
  refine wpList_step (fun K hK => ?_)
  go_simp
  refine hK _ _ ?_
  clear hK K
  (try simp only [Act.put, List.setIfInBounds_toArray, List.set_cons_zero, List.set_cons_succ])
  refine wpList_step (fun K hK => ?_)
  go_simp
  refine hK _ _ ?_
  clear hK K
  (try simp only [Act.put, List.setIfInBounds_toArray, List.set_cons_zero, List.set_cons_succ])
  refine wpList_step (fun K hK => ?_)
  go_simp
  refine hK _ _ ?_
  clear hK K
  (try simp only [Act.put, List.setIfInBounds_toArray, List.set_cons_zero, List.set_cons_succ])
  refine wpList_step (fun K hK => ?_)
  go_simp
  refine hK _ _ ?_
  clear hK K
  (try simp only [Act.put, List.setIfInBounds_toArray, List.set_cons_zero, List.set_cons_succ])
  refine wpList_step (fun K hK => ?_)
  go_simp
  refine hK _ _ ?_
  clear hK K
  (try simp only [Act.put, List.setIfInBounds_toArray, List.set_cons_zero, List.set_cons_succ])
  refine wpList_step (fun K hK => ?_)
  go_simp
  refine hK _ _ ?_
  clear hK K
  (try simp only [Act.put, List.setIfInBounds_toArray, List.set_cons_zero, List.set_cons_succ])
  refine wpList_step (fun K hK => ?_)
  go_simp
  refine hK _ _ ?_
  clear hK K
  (try simp only [Act.put, List.setIfInBounds_toArray, List.set_cons_zero, List.set_cons_succ])
  refine wpList_step (fun K hK => ?_)
  go_simp
  refine hK _ _ ?_
  clear hK K
  (try simp only [Act.put, List.setIfInBounds_toArray, List.set_cons_zero, List.set_cons_succ])
  refine wpList_step (fun K hK => ?_)
  go_simp
  refine hK _ _ ?_
  clear hK K
  (try simp only [Act.put, List.setIfInBounds_toArray, List.set_cons_zero, List.set_cons_succ])
  refine wpList_step (fun K hK => ?_)
  go_simp
  refine hK _ _ ?_
  clear hK K
  (try simp only [Act.put, List.setIfInBounds_toArray, List.set_cons_zero, List.set_cons_succ])
  refine wpList_step (fun K hK => ?_)
  go_simp
  refine hK _ _ ?_
  clear hK K
  (try simp only [Act.put, List.setIfInBounds_toArray, List.set_cons_zero, List.set_cons_succ])
  refine wpList_step (fun K hK => ?_)
  go_simp
  refine hK _ _ ?_
  clear hK K
  (try simp only [Act.put, List.setIfInBounds_toArray, List.set_cons_zero, List.set_cons_succ])
  refine wpList_step (fun K hK => ?_)
  go_simp
  refine hK _ _ ?_
  clear hK K
  (try simp only [Act.put, List.setIfInBounds_toArray, List.set_cons_zero, List.set_cons_succ])
  refine wpList_load_s (by rfl) _ rfl G rfl cs HS.out HZS.out ?_
  (try simp only [Act.put, List.setIfInBounds_toArray, List.set_cons_zero, List.set_cons_succ])
  refine wpList_load_e (by rfl) _ rfl (G + 1) rfl ca HA.out ZA.out ?_
  (try simp only [Act.put, List.setIfInBounds_toArray, List.set_cons_zero, List.set_cons_succ])
  refine wpList_step (fun K hK => ?_)
  go_simp
  go_at_call 15
  refine (HCK.out _).mono ?_
  rintro e wb ⟨rfl, bb⟩
  replace H13 := Lib.hid (H13.out.below bb)
  replace HB := Lib.hid (bel_on HB.out bb)
  replace S8 := Lib.hid (S8.out.below bb)
  replace SA := Lib.hid (SA.out.below bb)
  clear bb
  clear Q6 Q2 QA Q8
  have Q2 := Lib.hid (conv_sl (HX.out.below HB.out))
  have QA := Lib.hid (conv_sl SA.out)
  have Q8 := Lib.hid (conv_sl S8.out)
  rw [HSB.out] at Q2
  rw [HS1.out] at QA
  rw [HS2.out] at Q8
  refine hK _ _ ?_
  clear hK K
  (try simp only [Act.put, List.setIfInBounds_toArray, List.set_cons_zero, List.set_cons_succ])
  refine wpList_step (fun K hK => ?_)
  go_simp
  refine hK _ _ ?_
  clear hK K
  (try simp only [Act.put, List.setIfInBounds_toArray, List.set_cons_zero, List.set_cons_succ])
  have q2 := Q2.out
  have qa := QA.out
  have q8 := Q8.out
  have hsz : ¬ 9223372036854775807 < s1.size + s2.size := by have := HADD.out; omega
  have tsx : ((s1 ++ s2).toList == sb.toList) = true := by rw [htx.out]; simp
  go_wp2
  go_ret
  exact ⟨rfl, HB.out⟩
set_option maxHeartbeats 8000000 in
theorem eventBack_un (cs : Array Value) (pl : Int) (nE nC nG nR : Nat) (hq : SetQ cs pl nE nC nG nR) (a : EvP) (ha : a.In) (B : Option Addr) (m c : Nat) (b : List (BitVec 8)) (w : World) (hx : Sl 1 w B m c (bytesV b)) (hmc : m ≤ c) (hm : m ≤ 1000) (hf : ¬ a.Fair)
    (ht : takeE b = none) :
    Calls Try.prog 4 #[.agg cs, .agg (evC a), .slice B m c] w fun e w' => e = .returned (.bool true) ∧ Below w.heap.size w w' := by
  have hl := hx.blen
  have hput : putR8 [] a = ([], 80) := by unfold putR8; rw [if_neg hf]
  have htk : takeR8 b = (EvP.none, [], 80) := by unfold takeR8; rw [ht]
  have hyi : EvP.none.In := by constructor <;> decide
  have hput2 : putR8 [] EvP.none = ([], 80) := by unfold putR8; rw [if_neg (by decide)]
  have htk2 : takeR8 ([] ++ b) = (EvP.none, ([] : List (BitVec 8)), 80) := htk
  have hl9 : ([] : List (BitVec 8)).length ≤ 90 := by simp
  have hl9 : (([] : List (BitVec 8))).length ≤ 90 := hl9
  have hlr : (([] : List (BitVec 8))).length ≤ 1000 := by simp
  have hlv : (([] : List (BitVec 8))).length ≤ 90 := by simp
  have HFEW := Lib.hid (fun W => few8 hq W)
  have HPUT := Lib.hid (fun W n hn => put_un8 none 0 0 [] a _ rfl ha (by omega) _ _ n hput hn W Sl.nil_)
  have HTK := Lib.hid (fun W A n c q h1 h2 h3 h4 => take_un8 A n c b h1 h2 _ _ _ _ q htk rfl h3 W h4)
  have HTK2 := Lib.hid (fun W A n c q h1 h2 h3 h4 => take_un8 A n c (([] : List (BitVec 8)) ++ b) h1 h2 _ _ _ _ q htk2 rfl h3 W h4)
  have HPUT2 := Lib.hid (fun W n hn => put_un8 none 0 0 [] EvP.none _ rfl hyi (by omega) _ _ n hput2 hn W Sl.nil_)
  have HCK := Lib.hid (fun w => echeck_any cs pl nE nC nG nR hq.toSetS a ha w false (decide_eq_false (fun h => hf h.1)))
  have HEQ := Lib.hid (fun w => run_ev_eql EvP.none EvP.none w)
  rw [decide_eq_true rfl] at HEQ
  have HEQ2 := Lib.hid (fun w => run_ev_eql EvP.none EvP.none w)
  rw [decide_eq_true rfl] at HEQ2
  have HEQ3 : Hid (∀ w, (binOp .eql 33 (.agg (evC EvP.none)) (.agg #[.int .i64 0, .int .i64 0, .int .i64 0, .int .i64 0, .int .i64 0, .int .i64 0, .int .i64 0, .int .i64 0, .int .i64 0, .int .i64 0, .int .i64 0])).run Try.prog w = .ok (.bool true) w) := HEQ2
  have HZS := Lib.hid hq.size
  have ZA := Lib.hid (evC_size a)
  have OA := Lib.hid (evC_one a)
  have ZY := Lib.hid (evC_size EvP.none)
  have OY := Lib.hid (evC_one EvP.none)
  have hm' : (m : Int) ≤ 1000 := by omega
  obtain ⟨n1, hn1⟩ : ∃ n1, (([] : List (BitVec 8))).length = n1 := ⟨_, rfl⟩
  obtain ⟨n3, hn3⟩ : ∃ n3, n1 + m = n3 := ⟨_, rfl⟩
  obtain ⟨n4, hn4⟩ : ∃ n4, (([] : List (BitVec 8))).length = n4 := ⟨_, rfl⟩
  obtain ⟨n5, hn5⟩ : ∃ n5, (([] : List (BitVec 8))).length = n5 := ⟨_, rfl⟩
  have b1' : n1 ≤ 90 := by omega
  have b3' : n3 ≤ 2000 := by omega
  have b4' : n4 ≤ 1000 := by omega
  have b5' : n5 ≤ 90 := by omega
  obtain rfl : n1 = 0 := by rw [← hn1]; rfl
  have N1 := Lib.hid hn1; have N3 := Lib.hid hn3; have N4 := Lib.hid hn4; have N5 := Lib.hid hn5; have HL := Lib.hid hl; have HX := Lib.hid hx; have HMC := Lib.hid hmc
  clear hq hput htk htk2 hput2 hyi hn1 hn3 hn4 hn5 hl hx hmc hl9 hlr hlv hf ht ha
  generalize evC a = ca at *
  go_enter Try.func4, Try.ntmps4
  go_wp2_with fail
  refine (awake8 _).mono ?_
  rintro e w1 ⟨rfl, b1⟩
  have HS := Lib.hid (((Has.new w 30 cs rfl).alloc (.cells ca 33)).below b1)
  have HA := Lib.hid ((Has.new (w.alloc (.cells cs 30)) 33 ca (s := w.heap.size + 1) (by simp)).below b1)
  have HB := Lib.hid (bel_on (bel_alloc (bel_alloc (Below.refl w.heap.size w) _) _) b1)
  clear b1
  obtain ⟨G, hG⟩ : ∃ G, w.heap.size = G := ⟨_, rfl⟩
  rw [hG] at HS HA ⊢
  clear hG
  go_wp2_with (refine wpList_load_s (by rfl) _ rfl G rfl cs HS.out HZS.out ?_)
  refine (HFEW.out _).mono ?_
  rintro e w2 ⟨fb, rfl, bb⟩
  replace HS := Lib.hid (HS.out.below bb)
  replace HA := Lib.hid (HA.out.below bb)
  replace HB := Lib.hid (bel_on HB.out bb)
  clear bb
  cases fb
  · go_wp2
    go_ret
    exact ⟨rfl, HB.out⟩
  go_wp2_with (refine wpList_load_e (by rfl) _ rfl (G + 1) rfl ca HA.out ZA.out ?_)
  refine (HPUT.out _ 0 N1.out).mono ?_
  rintro e w3 ⟨A1, c1, rfl, s1, k1, bb⟩
  replace HS := Lib.hid (HS.out.below bb)
  replace HA := Lib.hid (HA.out.below bb)
  replace HB := Lib.hid (bel_on HB.out bb)
  have S1 := Lib.hid s1
  clear bb s1 k1
  obtain ⟨A2, c2, w4, A3, c3, w5, hr4, hr5, s5, k5, b5⟩ := two_append S1.out (HX.out.below HB.out) (by omega) (by omega) rfl N3.out
  have R4 := Lib.hid hr4
  have R5 := Lib.hid hr5
  have S5 := Lib.hid s5
  have K5 := Lib.hid k5
  have B5 := Lib.hid b5
  clear hr4 hr5 s5 k5 b5
  go_wp2_with (first | (at_builtin; refine wpList_append_run (o := ⟨some 37, _, _, _, _, _⟩) R4.out rfl rfl rfl rfl ?_) | (at_builtin; refine wpList_append_run (o := ⟨some 39, _, _, _, _, _⟩) R5.out rfl rfl rfl rfl ?_))
  clear R4 R5
  refine (HTK2.out _ A3 n3 c3 n4 K5.out (by omega) N4.out S5.out).mono ?_
  rintro e w6 ⟨A6, c6, rfl, s6, b6⟩
  have bb := bel_on B5.out b6
  replace HS := Lib.hid (HS.out.below bb)
  replace HA := Lib.hid (HA.out.below bb)
  replace HB := Lib.hid (bel_on HB.out bb)
  replace S1 := Lib.hid (S1.out.below bb)
  have S6 := Lib.hid s6
  clear bb s6 b6 B5 S5 K5
  go_wp2_with (refine wpList_laid_e (evC EvP.none) 10 _ _ rfl rfl rfl rfl rfl rfl rfl rfl ZY.out OY.out ?_)
  have H10 := Lib.hid (Has.new w6 33 (evC EvP.none) rfl)
  replace HS := Lib.hid (HS.out.alloc (.cells (evC EvP.none) 33))
  replace HA := Lib.hid (HA.out.alloc (.cells (evC EvP.none) 33))
  replace HB := Lib.hid (bel_alloc HB.out (.cells (evC EvP.none) 33))
  replace S1 := Lib.hid (S1.out.alloc (.cells (evC EvP.none) 33))
  replace S6 := Lib.hid (S6.out.alloc (.cells (evC EvP.none) 33))
  generalize w6.alloc (.cells (evC EvP.none) 33) = w7 at *
  generalize w6.heap.size = g10 at *
  refine (HTK.out _ B m c n4 HMC.out (by omega) N4.out (HX.out.below HB.out)).mono ?_
  rintro e w8 ⟨A8, c8, rfl, s8, bb⟩
  replace HS := Lib.hid (HS.out.below bb)
  replace HA := Lib.hid (HA.out.below bb)
  replace H10 := Lib.hid (H10.out.below bb)
  replace HB := Lib.hid (bel_on HB.out bb)
  replace S1 := Lib.hid (S1.out.below bb)
  replace S6 := Lib.hid (S6.out.below bb)
  have S8 := Lib.hid s8
  clear bb s8
  go_wp2_with (first | (refine wpList_laid_e (evC EvP.none) 13 _ _ rfl rfl rfl rfl rfl rfl rfl rfl ZY.out OY.out ?_) | (refine wpList_load_e (o := ⟨some 51, _, _, _, _, _⟩) (by rfl) _ rfl w8.heap.size rfl (evC EvP.none) (Has.new _ _ _ rfl) ZY.out ?_))
  have H13 := Lib.hid (Has.new w8 33 (evC EvP.none) rfl)
  replace HS := Lib.hid (HS.out.alloc (.cells (evC EvP.none) 33))
  replace HA := Lib.hid (HA.out.alloc (.cells (evC EvP.none) 33))
  replace H10 := Lib.hid (H10.out.alloc (.cells (evC EvP.none) 33))
  replace HB := Lib.hid (bel_alloc HB.out (.cells (evC EvP.none) 33))
  replace S1 := Lib.hid (S1.out.alloc (.cells (evC EvP.none) 33))
  replace S6 := Lib.hid (S6.out.alloc (.cells (evC EvP.none) 33))
  replace S8 := Lib.hid (S8.out.alloc (.cells (evC EvP.none) 33))
  generalize w8.alloc (.cells (evC EvP.none) 33) = w9 at *
  generalize w8.heap.size = g13 at *
  refine (HPUT2.out _ n5 N5.out).mono ?_
  rintro e wa ⟨Aa, ca2, rfl, sa, ka, bb⟩
  replace HS := Lib.hid (HS.out.below bb)
  replace HA := Lib.hid (HA.out.below bb)
  replace H10 := Lib.hid (H10.out.below bb)
  replace H13 := Lib.hid (H13.out.below bb)
  replace HB := Lib.hid (bel_on HB.out bb)
  replace S6 := Lib.hid (S6.out.below bb)
  replace S8 := Lib.hid (S8.out.below bb)
  have SA := Lib.hid sa
  clear bb sa ka S1
  go_upto_region 8 with fail
  have Q6 := Lib.hid (conv_sl S6.out)
  have Q2 := Lib.hid (conv_sl (HX.out.below HB.out))
  have QA := Lib.hid (conv_sl SA.out)
  have Q8 := Lib.hid (conv_sl S8.out)
  have HSS := Lib.hid (txt_same_e b)
  generalize hsb : txtB b = sb at Q6 Q2 QA Q8 HSS 
  have HSB := Lib.hid hsb
  clear hsb
  refine wp_region_lit ?_
  refine wpList_step (fun K hK => ?_)
  go_simp
  refine hK _ _ ?_
  clear hK K
  (try simp only [Act.put, List.setIfInBounds_toArray, List.set_cons_zero, List.set_cons_succ])
  refine wpList_step (fun K hK => ?_)
  go_simp
  refine hK _ _ ?_
  clear hK K
  (try simp only [Act.put, List.setIfInBounds_toArray, List.set_cons_zero, List.set_cons_succ])
  refine wpList_step (fun K hK => ?_)
  go_simp
  refine hK _ _ ?_
  clear hK K
  (try simp only [Act.put, List.setIfInBounds_toArray, List.set_cons_zero, List.set_cons_succ])
  refine wpList_step (fun K hK => ?_)
  go_simp
  refine hK _ _ ?_
  clear hK K
  (try simp only [Act.put, List.setIfInBounds_toArray, List.set_cons_zero, List.set_cons_succ])
  refine wpList_step (fun K hK => ?_)
  go_simp
  refine hK _ _ ?_
  clear hK K
  (try simp only [Act.put, List.setIfInBounds_toArray, List.set_cons_zero, List.set_cons_succ])
  refine wpList_step (fun K hK => ?_)
  go_simp
  refine hK _ _ ?_
  clear hK K
  (try simp only [Act.put, List.setIfInBounds_toArray, List.set_cons_zero, List.set_cons_succ])
  refine wpList_step (fun K hK => ?_)
  go_simp
  refine hK _ _ ?_
  clear hK K
  (try simp only [Act.put, List.setIfInBounds_toArray, List.set_cons_zero, List.set_cons_succ])
  refine wpList_step (fun K hK => ?_)
  go_simp
  refine hK _ _ ?_
  clear hK K
  (try simp only [Act.put, List.setIfInBounds_toArray, List.set_cons_zero, List.set_cons_succ])
  refine wpList_step (fun K hK => ?_)
  go_simp
  refine hK _ _ ?_
  clear hK K
  (try simp only [Act.put, List.setIfInBounds_toArray, List.set_cons_zero, List.set_cons_succ])
  refine wpList_step (fun K hK => ?_)
  go_simp
  refine hK _ _ ?_
  clear hK K
  (try simp only [Act.put, List.setIfInBounds_toArray, List.set_cons_zero, List.set_cons_succ])
  refine wpList_step (fun K hK => ?_)
  go_simp
  refine hK _ _ ?_
  clear hK K
  (try simp only [Act.put, List.setIfInBounds_toArray, List.set_cons_zero, List.set_cons_succ])
  refine wpList_step (fun K hK => ?_)
  go_simp
  refine hK _ _ ?_
  clear hK K
  (try simp only [Act.put, List.setIfInBounds_toArray, List.set_cons_zero, List.set_cons_succ])
  refine wpList_step (fun K hK => ?_)
  go_simp
  refine hK _ _ ?_
  clear hK K
  (try simp only [Act.put, List.setIfInBounds_toArray, List.set_cons_zero, List.set_cons_succ])
  refine wpList_step (fun K hK => ?_)
  go_simp
  refine hK _ _ ?_
  clear hK K
  (try simp only [Act.put, List.setIfInBounds_toArray, List.set_cons_zero, List.set_cons_succ])
  refine wpList_step (fun K hK => ?_)
  go_simp
  refine hK _ _ ?_
  clear hK K
  (try simp only [Act.put, List.setIfInBounds_toArray, List.set_cons_zero, List.set_cons_succ])
  refine wpList_step (fun K hK => ?_)
  go_simp
  refine hK _ _ ?_
  clear hK K
  (try simp only [Act.put, List.setIfInBounds_toArray, List.set_cons_zero, List.set_cons_succ])
  refine wpList_step (fun K hK => ?_)
  go_simp
  refine hK _ _ ?_
  clear hK K
  (try simp only [Act.put, List.setIfInBounds_toArray, List.set_cons_zero, List.set_cons_succ])
  refine wpList_step (fun K hK => ?_)
  go_simp
  refine hK _ _ ?_
  clear hK K
  (try simp only [Act.put, List.setIfInBounds_toArray, List.set_cons_zero, List.set_cons_succ])
  refine wpList_step (fun K hK => ?_)
  go_simp
  refine hK _ _ ?_
  clear hK K
  (try simp only [Act.put, List.setIfInBounds_toArray, List.set_cons_zero, List.set_cons_succ])
  refine wpList_step (fun K hK => ?_)
  go_simp
  refine hK _ _ ?_
  clear hK K
  (try simp only [Act.put, List.setIfInBounds_toArray, List.set_cons_zero, List.set_cons_succ])
  refine wpList_step (fun K hK => ?_)
  go_simp
  refine hK _ _ ?_
  clear hK K
  (try simp only [Act.put, List.setIfInBounds_toArray, List.set_cons_zero, List.set_cons_succ])
  refine wpList_step (fun K hK => ?_)
  go_simp
  refine hK _ _ ?_
  clear hK K
  (try simp only [Act.put, List.setIfInBounds_toArray, List.set_cons_zero, List.set_cons_succ])
  refine wpList_step (fun K hK => ?_)
  go_simp
  refine hK _ _ ?_
  clear hK K
  (try simp only [Act.put, List.setIfInBounds_toArray, List.set_cons_zero, List.set_cons_succ])
  refine wpList_step (fun K hK => ?_)
  go_simp
  refine hK _ _ ?_
  clear hK K
  (try simp only [Act.put, List.setIfInBounds_toArray, List.set_cons_zero, List.set_cons_succ])
  refine wpList_step (fun K hK => ?_)
  go_simp
  refine hK _ _ ?_
  clear hK K
  (try simp only [Act.put, List.setIfInBounds_toArray, List.set_cons_zero, List.set_cons_succ])
  refine wpList_step (fun K hK => ?_)
  go_simp
  refine hK _ _ ?_
  clear hK K
  (try simp only [Act.put, List.setIfInBounds_toArray, List.set_cons_zero, List.set_cons_succ])
  refine wpList_step (fun K hK => ?_)
  go_simp
  refine hK _ _ ?_
  clear hK K
  (try simp only [Act.put, List.setIfInBounds_toArray, List.set_cons_zero, List.set_cons_succ])
  refine wpList_load_s (by rfl) _ rfl G rfl cs HS.out HZS.out ?_
  (try simp only [Act.put, List.setIfInBounds_toArray, List.set_cons_zero, List.set_cons_succ])
  refine wpList_load_e (by rfl) _ rfl (G + 1) rfl ca HA.out ZA.out ?_
  (try simp only [Act.put, List.setIfInBounds_toArray, List.set_cons_zero, List.set_cons_succ])
  refine wpList_step (fun K hK => ?_)
  go_simp
  go_at_call 15
  refine (HCK.out _).mono ?_
  rintro e wb ⟨rfl, bb⟩
  replace H13 := Lib.hid (H13.out.below bb)
  replace HB := Lib.hid (bel_on HB.out bb)
  replace S8 := Lib.hid (S8.out.below bb)
  replace SA := Lib.hid (SA.out.below bb)
  clear bb
  clear Q6 Q2 QA Q8
  have Q2 := Lib.hid (conv_sl (HX.out.below HB.out))
  have QA := Lib.hid (conv_sl SA.out)
  have Q8 := Lib.hid (conv_sl S8.out)
  rw [HSB.out] at Q2
  refine hK _ _ ?_
  clear hK K
  (try simp only [Act.put, List.setIfInBounds_toArray, List.set_cons_zero, List.set_cons_succ])
  refine wpList_step (fun K hK => ?_)
  go_simp
  refine hK _ _ ?_
  clear hK K
  (try simp only [Act.put, List.setIfInBounds_toArray, List.set_cons_zero, List.set_cons_succ])
  have hq3 := HEQ3.out
  obtain ⟨m0, m1, m2, m3, m4, m5, m6, m7, m8, m9, m10⟩ := z_cells H13.out
  have hq4 : ∀ w, (binOp .eql 33 (.agg #[.int .i64 0, .int .i64 0, .int .i64 0, .int .i64 0, .int .i64 0, .int .i64 0, .int .i64 0, .int .i64 0, .int .i64 0, .int .i64 0, .int .i64 0]) (.agg #[.int .i64 0, .int .i64 0, .int .i64 0, .int .i64 0, .int .i64 0, .int .i64 0, .int .i64 0, .int .i64 0, .int .i64 0, .int .i64 0, .int .i64 0])).run Try.prog w = .ok (.bool true) w := HEQ3.out
  clear hq3
  go_wp2
  go_ret
  exact ⟨rfl, HB.out⟩
theorem eventBack_walk (s : SetP) (A1 A2 A3 A4 A5 A6 : Option Addr) (c1 c2 c3 c4 c5 c6 : Nat) (a : EvP) (a2 : Option Addr) (len2 cap2 : Nat) (z2 : List Int) (w : World) (u0 : SetAt w s A1 A2 A3 A4 A5 A6 c1 c2 c3 c4 c5 c6) (f0 : s.Fit) (ha : a.In) (r2 : IsRow .u8 w a2 len2 cap2 z2) :
    Calls Try.prog 4 #[setV s A1 A2 A3 A4 A5 A6 c1 c2 c3 c4 c5 c6, .agg (evC a), .slice a2 len2 cap2] w fun e w' => e = .returned (.bool true) ∧ Below w.heap.size w w' := by
  obtain ⟨cs, hcs, hq⟩ := setQ_of s A1 A2 A3 A4 A5 A6 c1 c2 c3 c4 c5 c6
  rw [hcs]
  by_cases hm : 1000 < len2
  · exact eventBack_out cs _ _ _ _ _ hq a a2 len2 cap2 w hm
  · obtain ⟨b, hl, hx, _⟩ := bytes_of_row r2
    have hc := (bytes_caps r2).1
    by_cases hf : a.Fair
    · cases ht : takeE b with
      | none => exact eventBack_fn cs _ _ _ _ _ hq a ha a2 len2 cap2 b w hx hc (by omega) hf ht
      | some x => exact eventBack_fs cs _ _ _ _ _ hq a ha a2 len2 cap2 b w hx hc (by omega) hf x.1 x.2 ht
    · cases ht : takeE b with
      | none => exact eventBack_un cs _ _ _ _ _ hq a ha a2 len2 cap2 b w hx hc (by omega) hf ht
      | some x => exact eventBack_us cs _ _ _ _ _ hq a ha a2 len2 cap2 b w hx hc (by omega) hf x.1 x.2 ht
end Go.Proofs.Ytmfjfaageeeipaa
