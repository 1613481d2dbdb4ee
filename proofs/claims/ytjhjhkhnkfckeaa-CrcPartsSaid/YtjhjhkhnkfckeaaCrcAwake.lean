/-
  The calls whose answers the document fixes, at the head of layer 4's laws.
-/
import Derived.Test.YtjhjhkhnkfckeaaCrcC
import Derived.Lib.SlBytesConst
namespace Go.Proofs.Ytjhjhkhnkfckeaa
open Go.RowKit
set_option linter.unusedVariables false

theorem byts_const (w : World) (l : List (BitVec 8)) (t : TypeId) (fr : Nat × Nat) : Byts (w.alloc (.cells (bytesV l).toArray t fr)) (some ⟨w.heap.size, 0, none⟩) l := by
  intro k hk
  refine ⟨_, 0, rfl, ?_⟩
  rw [Nat.zero_add, cell_of_row _ _ k _ t fr (heap_alloc_new w _)]
  simp [bytesV, List.getD, hk]
def l1234 : List (BitVec 8) := [49#8, 50#8, 51#8, 52#8]
def l56789 : List (BitVec 8) := [53#8, 54#8, 55#8, 56#8, 57#8]
theorem sum_doc : sumB (List.flatten [l1234, [], l56789]) = 3808858755#32 := by decide +kernel
theorem sum_nil : sumB (List.flatten []) = 0#32 := by decide +kernel
theorem bytes_doc : (bytesV (bytesB 16909060#32)).toArray = #[.int .u8 4, .int .u8 3, .int .u8 2, .int .u8 1] := by rfl

theorem eq_doc (w : World) : (Op.equalIn 10000 25 (.agg #[.int .u8 4, .int .u8 3, .int .u8 2, .int .u8 1]) (.agg #[.int .u8 4, .int .u8 3, .int .u8 2, .int .u8 1])).run Try.prog w = .ok true w := by kernel_rfl
set_option maxHeartbeats 400000 in
theorem awake4 (w : World) : Calls Try.prog 8 #[] w fun e w' => e = .returned (.bool true) ∧ Below w.heap.size w w' := by
  have kc := fun (w : World) (C : Array Value) (n c : Nat) => Lib.run_convert_bytes_const (P := Try.prog) w 22 5 C n c Try.underlying22 Try.underlying5
  have kd : ∀ (o : Obj) (C : Array Value) (n c : Nat), (convert 22 22 (.slice (some ⟨w.heap.size + 1, 0, none⟩) n c)).run Try.prog ((w.alloc o).alloc (.cells C 5)) = .ok (.slice (some ⟨w.heap.size + 1, 0, none⟩) n c) ((w.alloc o).alloc (.cells C 5 (C.size, C.size + 1))) := by
    intro o C n c
    have h := kc (w.alloc o) C n c
    have e : (w.alloc o).heap.size = w.heap.size + 1 := by simp
    rwa [e] at h
  go_enter Try.func8, Try.ntmps8
  go_wp2_with fail
  have hp := parts_three (c := 4) (d := 0) (e := 5) 22 (s := w.heap.size + 1 + 1) ((byts_const w l1234 5 (4, 5)).alloc (.cells (bytesV l56789).toArray 5 (5, 6))) (n := 4) rfl (by omega) (Byts.nil_ (A := none)) (m := 0) rfl (by omega) (byts_const (w.alloc (.cells (bytesV l1234).toArray 5 (4, 5))) l56789 5 (5, 6)) (o := 5) rfl (by omega) (by simp)
  rw [World.size_alloc] at hp
  refine (crcsum_any _ 3 _ [l1234, [], l56789] _ hp rfl (by omega)).mono ?_
  rintro e w1 ⟨rfl, hb1⟩
  rw [sum_doc]
  go_wp2_with fail
  refine (crcsum_any _ 0 _ [] _ Parts.nil_ rfl (by omega)).mono ?_
  rintro e w2 ⟨rfl, hb2⟩
  rw [sum_nil]
  go_wp2_with fail
  refine (crcbytes_any 16909060#32 _).mono ?_
  rintro e w3 ⟨rfl, hb3⟩
  rw [bytes_doc]
  have he := eq_doc
  go_wp2
  go_ret
  exact ⟨rfl, bel_on (bel_on (bel_on (bel_alloc (bel_alloc (bel_alloc (Below.refl _ _) _) _) _) hb1) hb2) hb3⟩
end Go.Proofs.Ytjhjhkhnkfckeaa
