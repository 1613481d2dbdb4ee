/-
  Package punch and the document's own answers: times, rounded, days, weeks, the weeks about a time.
-/
import Derived.Test.YtedkhjbnjkcemaaZaa
import Derived.Test.YtedkhjbnjkcemaaZak
import Derived.Test.YtedkhjbnjkcemaaZab
import Derived.BigQuiet
import Derived.Deep.QuietTactic
namespace Go.Proofs.Ytedkhjbnjkcemaa
open Go.RowKit
set_option linter.unusedVariables false
set_option linter.unusedSimpArgs false
set_option maxRecDepth 20000

theorem upTo_any (m n : Int) (w : World) : Calls Try.prog 41 #[.int .i64 m, .int .i64 n] w fun e w' => e = .returned (.int .i64 (max 0 (min n m))) ∧ w = w' := by
  go_enter Try.func41, Try.ntmps41
  go_wp2
  all_goals
    go_ret
    refine ⟨ret_one ?_, rfl⟩
    omega
theorem second_any (t : Int) (w : World) : Calls Try.prog 40 #[.int .i64 t] w fun e w' => e = .returned (.int .i64 (secP t)) ∧ w = w' := by
  have e : max 0 (min t 32054399) = secP t := by unfold secP timeP; omega
  have H := Lib.hid (fun W => e ▸ upTo_any 32054399 t W)
  generalize secP t = r at *
  go_enter Try.func40, Try.ntmps40
  go_wp2_with fail
  refine (H.out _).mono ?_
  rintro e w' ⟨rfl, rfl⟩
  go_wp2
  go_ret
  exact ⟨rfl, rfl⟩
theorem week_any (t : Int) (w : World) : Calls Try.prog 42 #[.int .i64 t] w fun e w' => e = .returned (.int .i64 (weekP t)) ∧ w = w' := by
  have hb := sec_bd t
  have H := Lib.hid (fun W => second_any t W)
  unfold weekP
  generalize secP t = r at *
  go_enter Try.func42, Try.ntmps42
  go_wp2_with fail
  refine (H.out _).mono ?_
  rintro e w' ⟨rfl, rfl⟩
  go_wp2
  go_ret
  exact ⟨by first | rfl | (congr 2; omega), rfl⟩

theorem wrapp_id {a : Int} (h0 : -9223372036854775808 ≤ a) (h1 : a < 9223372036854775808) : IntKind.i64.wrap a = a := by
  simp [IntKind.wrap, IntKind.bits, IntKind.signed]
  split <;> omega
def capP (n : Int) : Int := min (max n 0) 604800
theorem cap_bd (n : Int) : 0 ≤ capP n ∧ capP n ≤ 604800 := by unfold capP; omega
theorem upCap_any (n : Int) (w : World) : Calls Try.prog 41 #[.int .i64 604800, .int .i64 n] w fun e w' => e = .returned (.int .i64 (capP n)) ∧ w = w' := by
  have e : max 0 (min n 604800) = capP n := by unfold capP; omega
  rw [← e]
  exact upTo_any 604800 n w
theorem touch_any (cs : Array Value) (u c t : Int) (w : World) (hs : cs.size = 23) (h8 : cs[8]? = some (.int .i64 u)) (h9 : cs[9]? = some (.int .i64 c)) :
    Calls Try.prog 21 #[.agg cs, .int .i64 t] w fun e w' => e = .returned (.tuple #[.int .i64 (touchP u c t).1, .int .i64 (touchP u c t).2]) ∧ Below w.heap.size w w' := by
  have hb := sec_bd t
  have H1 := Lib.hid (fun W => second_any t W)
  have p1 := cap_bd u
  have p2 := cap_bd c
  have he : touchP u c t = (weekP (secP t - (capP u + capP c)), weekP (secP t + (capP u + capP c))) := rfl
  rw [he]
  clear he
  have HP := Lib.hid (fun W => (upCap_any u W).mono fun e w' h => (show e = .returned (.int .i64 (capP u)) ∧ w' = W from ⟨h.1, h.2.symm⟩))
  have HQ := Lib.hid (fun W => (upCap_any c W).mono fun e w' h => (show e = .returned (.int .i64 (capP c)) ∧ w' = W from ⟨h.1, h.2.symm⟩))
  generalize secP t = n at *
  generalize capP u = p at *
  generalize capP c = q at *
  obtain ⟨b, hb'⟩ : ∃ b, p + q = b := ⟨_, rfl⟩
  have hw : IntKind.i64.wrap (p + q) = b := by rw [hb']; exact wrapp_id (by omega) (by omega)
  rw [hb']
  have hb2 : 0 ≤ b ∧ b ≤ 1209600 := by omega
  have HU := Lib.hid hb'
  clear p1 p2 hb'
  have H4 := Lib.hid (fun W => week_any (n - b) W)
  have H5 := Lib.hid (fun W => week_any (n + b) W)
  generalize weekP (n - b) = r1 at *
  generalize weekP (n + b) = r2 at *
  go_enter Try.func21, Try.ntmps21
  go_wp2_with fail
  refine (H1.out _).mono ?_
  rintro e w' ⟨rfl, rfl⟩
  have HB := Lib.hid (Has.new w 30 cs rfl)
  have hb1 := bel_alloc (Below.refl w.heap.size w) (.cells cs 30)
  have q9 := HB.out.cell 9 h9
  have q8 := HB.out.cell 8 h8
  go_wp2
  go_quiet (first | (go_at_call 41; with_reducible exact Calls.quiet_of_same (HP.out _)) | (go_at_call 41; with_reducible exact Calls.quiet_of_same (HQ.out _)))
  go_wp2_with fail
  refine (H4.out _).mono ?_
  rintro e w' ⟨rfl, rfl⟩
  go_wp2_with fail
  refine (H5.out _).mono ?_
  rintro e w' ⟨rfl, rfl⟩
  go_wp2
  refine bodyPost_ret (v := .tuple #[.int .i64 r1, .int .i64 r2]) (by simp [results, Try.results21, go_sem]) rfl ⟨rfl, below_drewN hb1 _⟩

/-! ### The document's own -/
theorem rtime_any (t : Int) (w : World) : Calls Try.prog 77 #[.int .i64 t] w fun e w' => e = .returned (.int .i64 (timeP t)) ∧ w = w' := by
  unfold timeP
  go_enter Try.func77, Try.ntmps77
  go_wp2
  all_goals
    go_ret
    refine ⟨ret_one ?_, rfl⟩
    omega
theorem rweek_any (t : Int) (w : World) : Calls Try.prog 78 #[.int .i64 t] w fun e w' => e = .returned (.int .i64 (weekP t)) ∧ w = w' := by
  have hb := time_bd t
  have H := Lib.hid (fun W => rtime_any t W)
  unfold weekP secP
  generalize timeP t = r at *
  go_enter Try.func78, Try.ntmps78
  go_wp2_with fail
  refine (H.out _).mono ?_
  rintro e w' ⟨rfl, rfl⟩
  go_wp2
  all_goals
    go_ret
    refine ⟨ret_one ?_, rfl⟩
    omega
theorem wpList_min2i {P : Program} {ops : Array Oper} {rest : List Oper} {o : Oper} {a : Act} {w : World} {Q : Exit → Act → World → Prop} {x y : Operand} {ts : Array TypeId} (p q n : Int) (hn : min p q = n) (hgd : o.guard = none)
    (ho : o.op = .call { callee := .builtin .min, args := #[x, y], argTypes := ts }) (h1 : a.eval x = .int .i64 p) (h2 : a.eval y = .int .i64 q)
    (h : wpList P ops Q rest (a.put o.dst (.int .i64 n)) w) : wpList P ops Q (o :: rest) a w := by
  refine wpList_plain hgd fun K hK => ?_
  have e : (if q < p then q else p) = n := by
    subst hn
    split <;> omega
  unfold Oper.wp execOp
  simp only [ho, resolve, invoke, builtin, Sem.run_bind, Sem.run_pure, Result.andThen_ok, List.map_toArray, List.map_cons, List.map_nil, h1, h2, run_min_int2, e]
  exact hK _ _ h
theorem wpList_max2i {P : Program} {ops : Array Oper} {rest : List Oper} {o : Oper} {a : Act} {w : World} {Q : Exit → Act → World → Prop} {x y : Operand} {ts : Array TypeId} (p q n : Int) (hn : max p q = n) (hgd : o.guard = none)
    (ho : o.op = .call { callee := .builtin .max, args := #[x, y], argTypes := ts }) (h1 : a.eval x = .int .i64 p) (h2 : a.eval y = .int .i64 q)
    (h : wpList P ops Q rest (a.put o.dst (.int .i64 n)) w) : wpList P ops Q (o :: rest) a w := by
  refine wpList_plain hgd fun K hK => ?_
  have e : (if q > p then q else p) = n := by
    subst hn
    split <;> omega
  unfold Oper.wp execOp
  simp only [ho, resolve, invoke, builtin, Sem.run_bind, Sem.run_pure, Result.andThen_ok, List.map_toArray, List.map_cons, List.map_nil, h1, h2, run_max_int2, e]
  exact hK _ _ h
theorem rtouch_any (cs : Array Value) (u c t : Int) (w : World) (hs : cs.size = 23) (h8 : cs[8]? = some (.int .i64 u)) (h9 : cs[9]? = some (.int .i64 c)) :
    Calls Try.prog 55 #[.agg cs, .int .i64 t] w fun e w' => e = .returned (.tuple #[.int .i64 (touchP u c t).1, .int .i64 (touchP u c t).2]) ∧ Below w.heap.size w w' := by
  have hb := time_bd t
  have H1 := Lib.hid (fun W => rtime_any t W)
  have p1 := cap_bd u
  have p2 := cap_bd c
  have hs2 : min (timeP t) 32054399 = secP t := rfl
  have he : touchP u c t = (weekP (secP t - (capP u + capP c)), weekP (secP t + (capP u + capP c))) := rfl
  rw [he]
  clear he
  have hsb := sec_bd t
  generalize secP t = n at *
  have HP : Hid (min (max u 0) 604800 = capP u) := rfl
  have HQ : Hid (min (max c 0) 604800 = capP c) := rfl
  generalize capP u = p at *
  generalize capP c = q at *
  generalize timeP t = m at *
  have H4 := Lib.hid (fun W => rweek_any (n - (p + q)) W)
  have H5 := Lib.hid (fun W => rweek_any (n + (p + q)) W)
  generalize weekP (n - (p + q)) = r1 at *
  generalize weekP (n + (p + q)) = r2 at *
  go_enter Try.func55, Try.ntmps55
  have HB := Lib.hid (Has.new w 30 cs rfl)
  have hb1 := bel_alloc (Below.refl w.heap.size w) (.cells cs 30)
  have q9 := HB.out.cell 9 h9
  have q8 := HB.out.cell 8 h8
  obtain ⟨u0, hu0⟩ : ∃ x, max u 0 = x := ⟨_, rfl⟩
  obtain ⟨c0, hc0⟩ : ∃ x, max c 0 = x := ⟨_, rfl⟩
  rw [hu0] at HP
  rw [hc0] at HQ
  replace hu0 := Lib.hid hu0
  replace hc0 := Lib.hid hc0
  replace hs2 := Lib.hid hs2
  go_wp2_with (first | refine wpList_max2i (o := ⟨some 10, _, _, _, _, _⟩) u 0 u0 hu0.out rfl rfl rfl rfl ?_ | refine wpList_min2i (o := ⟨some 11, _, _, _, _, _⟩) u0 604800 p HP.out rfl rfl rfl rfl ?_ | refine wpList_max2i (o := ⟨some 14, _, _, _, _, _⟩) c 0 c0 hc0.out rfl rfl rfl rfl ?_ | refine wpList_min2i (o := ⟨some 15, _, _, _, _, _⟩) c0 604800 q HQ.out rfl rfl rfl rfl ?_)
  refine (H1.out _).mono ?_
  rintro e w' ⟨rfl, rfl⟩
  go_wp2_with (first | refine wpList_min2i (o := ⟨some 19, _, _, _, _, _⟩) m 32054399 n hs2.out rfl rfl rfl rfl ?_)
  refine (H4.out _).mono ?_
  rintro e w' ⟨rfl, rfl⟩
  go_wp2_with fail
  refine (H5.out _).mono ?_
  rintro e w' ⟨rfl, rfl⟩
  go_wp2
  refine bodyPost_ret (v := .tuple #[.int .i64 r1, .int .i64 r2]) (by simp [results, Try.results55, go_sem]) rfl ⟨rfl, hb1⟩
end Go.Proofs.Ytedkhjbnjkcemaa
