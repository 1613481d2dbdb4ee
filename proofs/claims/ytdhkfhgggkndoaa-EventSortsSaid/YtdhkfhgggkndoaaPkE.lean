/-
  Package pack: numbers, and texts, taken.
-/
import Derived.Test.YtdhkfhgggkndoaaPkD
import Derived.Test.YtdhkfhgggkndoaaByCut
import Derived.RegionTactic
namespace Go.Proofs.Ytdhkfhgggkndoaa
open Go.RowKit
set_option linter.unusedVariables false
set_option maxRecDepth 20000

theorem first_nil (A : Option Addr) (c : Nat) (w : World) :
    Calls Try.prog 90 #[.slice A 0 c] w fun e w' => e = .returned (.tuple #[.int .i64 0, .int .i64 0]) ∧ w = w' := by
  go_enter Try.func90, Try.ntmps90
  go_wp2
  refine wp_scope_jumps 1 (fun a' w' => w' = w ∧ ∃ (u0 u1 u2 u3 u4 u5 u6 u7 u8 u9 u10 u11 u12 u13 u14 u15 u16 u17 u18 u19 u20 u21 u22 u23 u24 u25 u26 u27 u28 u29 u30 u31 u32 u33 u34 u35 u36 u37 u38 u39 u40 u41 u42 u43 u44 : Value), a' = { tmps := #[u0, u1, u2, u3, u4, u5, u6, u7, u8, u9, u10, u11, u12, u13, u14, u15, u16, u17, u18, u19, u20, u21, u22, u23, u24, u25, u26, u27, u28, u29, u30, u31, u32, u33, u34, u35, u36, u37, u38, u39, u40, u41, u42, u43, u44], defers := [] }) (fun _ _ => 0) rfl ?_ ?_
  · go_wp2
    go_step3
    go_wp2
    go_loop [5, 10] (fun o i => o = .int .i64 1 ∧ i = .int .i64 0) (fun _ _ => 0)
    case atStart => exact ⟨rfl, rfl⟩
    case round =>
      obtain ⟨rfl, rfl⟩ := hrel
      go_wp2
      go_step3
      exact ⟨rfl, rfl, _, _, _, _, _, _, _, _, _, _, _, _, _, _, _, _, _, _, _, _, _, _, _, _, _, _, _, _, _, _, _, _, _, _, _, _, _, _, _, _, _, _, _, _, _, rfl⟩
  · rintro a' w' ⟨rfl, u0, u1, u2, u3, u4, u5, u6, u7, u8, u9, u10, u11, u12, u13, u14, u15, u16, u17, u18, u19, u20, u21, u22, u23, u24, u25, u26, u27, u28, u29, u30, u31, u32, u33, u34, u35, u36, u37, u38, u39, u40, u41, u42, u43, u44, rfl⟩
    go_wp2
    simp only [Exit.jump]
    go_ret2
    exact ⟨rfl, rfl⟩
theorem first_any (A : Option Addr) (m c : Nat) (l : List (BitVec 8)) (p q : Nat) (w : World) (hx : Byts w A l) (hm : l.length = m) (hml : m ≤ 1000000000000) (hf : firstB l = (p, q)) :
    Calls Try.prog 90 #[.slice A m c] w fun e w' => e = .returned (.tuple #[.int .i64 p, .int .i64 q]) ∧ w = w' := by
  cases l with
  | nil =>
    subst hm
    rw [first_none rfl] at hf
    injection hf with h1 h2
    subst h1 h2
    exact first_nil A c w
  | cons x r =>
    have := first_cons A m c x r (x :: r) rfl w hx hm hml
    rw [hf] at this
    exact this
theorem take_bad (A : Option Addr) (m c : Nat) (l : List (BitVec 8)) (w : World) (hx : Byts w A l) (hm : l.length = m) (hml : m ≤ 1000000000000) (ht : takeB l = none) :
    Calls Try.prog 53 #[.slice A m c] w fun e w' => e = .returned (.tuple #[.int .i64 0, .slice none 0 0, .int .i64 50]) ∧ w = w' := by
  have HF := Lib.hid (fun w' (hx : Byts w' A l) => first_any A m c l 0 0 w' hx hm hml (first_none ht))
  go_enter Try.func53, Try.ntmps53
  go_wp2_with fail
  refine (HF.out _ hx).mono ?_
  rintro e w' ⟨rfl, rfl⟩
  go_wp2
  go_ret3
  exact ⟨rfl, rfl⟩
/-- What bytes begin with a number are. -/
theorem take_lens {l t : List (BitVec 8)} {n : Nat} (ht : takeB l = some (n, t)) : l.length = (oneB n).length + t.length ∧ 0 < (oneB n).length ∧ l.drop (oneB n).length = t := by
  obtain ⟨hl, hn⟩ := take_own ht
  refine ⟨by rw [hl, List.length_append], by rw [one_len]; omega, ?_⟩
  rw [hl, List.drop_append_of_le_length (Nat.le_refl _), List.drop_of_length_le (Nat.le_refl _), List.nil_append]
set_option maxHeartbeats 400000 in
theorem take_ok (A : Option Addr) (m c : Nat) (l t : List (BitVec 8)) (n : Nat) (w : World) (hx : Sl 1 w A m c (bytesV l)) (hml : m ≤ 1000000000000) (hmc : m ≤ c) (ht : takeB l = some (n, t)) :
    Calls Try.prog 53 #[.slice A m c] w fun e w' => ∃ A' c', e = .returned (.tuple #[.int .i64 n, .slice A' t.length c', .int .i64 0]) ∧ BRow w' w.heap.size A' c' t ∧ Below w.heap.size w w' := by
  have hm := hx.blen
  obtain ⟨hl, h1, hdr⟩ := take_lens ht
  have HF := Lib.hid (first_any A m c l n _ w (byts_of_sl hx) hm hml (first_some ht))
  obtain ⟨A2, hcut, hs⟩ := cut_from hx hmc (oneB n).length (by omega)
  rw [hdr] at hs
  rw [show t.length = m - (oneB n).length by omega]
  generalize (oneB n).length = o at *
  have HC := Lib.hid hcut
  have HS := Lib.hid hs
  clear hs hcut hdr hl hx hm ht
  have h1' : ((o : Int) == 0) = false := by simp; omega
  go_enter Try.func53, Try.ntmps53
  go_wp2_with fail
  refine HF.out.mono ?_
  rintro e w' ⟨rfl, rfl⟩
  go_wp2_with (refine wpList_slice_run (o := ⟨some 17, _, _, _, _, _⟩) HC.out rfl rfl rfl rfl rfl rfl ?_)
  refine (clone_any A2 (m - o) (c - o) t _ HS.out (by omega)).mono ?_
  rintro e w2 ⟨A3, c3, rfl, hrow, hb⟩
  go_wp2
  go_ret3
  exact ⟨A3, c3, rfl, hrow, hb⟩
end Go.Proofs.Ytdhkfhgggkndoaa
