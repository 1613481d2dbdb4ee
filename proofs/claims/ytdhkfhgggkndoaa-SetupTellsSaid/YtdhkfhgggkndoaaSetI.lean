/-
  Package setup: what writes, and numbers one behind the other.
-/
import Derived.Test.YtdhkfhgggkndoaaSetH
namespace Go.Proofs.Ytdhkfhgggkndoaa
open Go.RowKit
set_option linter.unusedVariables false
set_option linter.unusedSimpArgs false
set_option maxRecDepth 20000

/-- A slice of pointers. -/
def Ptrs (w : World) (b k : Nat) (P : Nat → Addr) : Prop := ∀ j, j < k → w.cell? ⟨b, j, none⟩ = some (.pointer (some (P j)))
theorem cell_kept {F : Nat → Prop} {w w' : World} (h : Kept F w w') {p : Addr} (hF : F p.block) : w'.cell? p = w.cell? p := World.cell?_of_block (h.block _ hF)
theorem method_w (a : Addr) (w : World) : (method 244 61 (.pointer (some a)) "lumper/setup.number").run Try.prog w = .ok (135, .pointer (some a)) w := by kernel_rfl
set_option maxHeartbeats 1000000 in
theorem wnums_any (F : Nat → Prop) (g b k p2 : Nat) (P : Nat → Addr) (ns : List Nat) (l : List (BitVec 8)) (w : World) (hk : ns.length = k) (hk2 : k ≤ 1000) (hns : ∀ n ∈ ns, n < 9223372036854775808)
    (hP : Ptrs w b k P) (hc : ∀ j, j < k → w.cell? (P j) = some (.int .i64 (ns.getD j 0 : Nat))) (hFb : F b) (hFP : ∀ j, j < k → F (P j).block) (hF2 : F p2) (h2 : w.cell? ⟨p2, 0, none⟩ = some (.iface 61 (.pointer (some ⟨g, 0, none⟩))))
    (h : WPen F g l w) (hl : l.length ≤ 1000000000) :
    Calls Try.prog 61 #[.slice (some ⟨b, 0, none⟩) k k, .pointer (some ⟨p2, 0, none⟩)] w fun e w' => e = .returned (.tuple #[]) ∧ Kept F w w' ∧ WPen F g (l ++ putB ns) w' := by
  have HP := Lib.hid hP
  have HC := Lib.hid hc
  have HN := Lib.hid hns
  have HW := Lib.hid h
  have H2 := Lib.hid h2
  have HF := Lib.hid hFP
  have HK := Lib.hid hk
  clear hP hc hns h h2 hFP hk
  go_enter Try.func61, Try.ntmps61
  go_wp2
  go_loopw [7] (fun i wr => ∃ (j : Nat), j ≤ k ∧ i = .int .i64 j ∧ Kept F w wr ∧ Hid (WPen F g (l ++ putB (ns.take j)) wr)) (fun i _ => k - (intOf i).toNat)
  case atStart => exact ⟨0, Nat.zero_le _, rfl, Kept.refl _ _, by simp [putB]; exact HW⟩
  case round =>
    obtain ⟨j, hj, rfl, hkw, hw⟩ := hrel
    by_cases hlt : j < k
    · have q1 := (cell_kept hkw (p := ⟨b, j, none⟩) hFb).trans (HP.out j hlt)
      have q2 := (cell_kept hkw (p := ⟨p2, 0, none⟩) hF2).trans H2.out
      have q3 := Lib.hid ((cell_kept hkw (HF.out j hlt)).trans (HC.out j hlt))
      have hb1 := cell_lt q1
      have hb2 := cell_lt q2
      generalize P j = p at *
      have hnl : ns.getD j 0 < 9223372036854775808 := HN.out _ (by simp [List.getD, HK.out, hlt])
      have hpl : (putB (ns.take j)).length ≤ 9 * (ns.take j).length := put_len_le _ (fun n hn => HN.out n (List.mem_of_mem_take hn))
      have hS := Lib.hid (put_snoc ns j (by rw [HK.out]; exact hlt))
      have hll : (l ++ putB (ns.take j)).length ≤ 10000000000 := by rw [List.length_append]; rw [List.length_take] at hpl; omega
      have hm := method_w
      generalize ns.getD j 0 = n at *
      go_wp2_with fail
      refine (wnum_any F g p n (l ++ putB (ns.take j)) _ hnl q3.out hw.out hll).mono ?_
      rintro e w2 ⟨rfl, hk2, hw2⟩
      rw [List.append_assoc, ← hS.out] at hw2
      have HW2 := Lib.hid hw2
      clear hw2 hw hm q1 q2 hS
      go_wp2
      go_roundw
      case rel => exact ⟨j + 1, by omega, by go_num, hkw.on hk2, HW2⟩
      case measure => simp [intOf]; omega
    · obtain rfl : j = k := by omega
      have hw' := hw.out
      rw [← HK.out, List.take_length] at hw'
      have HW' := Lib.hid hw'
      clear hw hw'
      go_wp2
      refine bodyPost_end (v := .tuple #[]) (by simp [results, Try.results61]) rfl ⟨rfl, hkw, HW'.out⟩
end Go.Proofs.Ytdhkfhgggkndoaa
